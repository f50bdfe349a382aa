import PyProof.Rows.All
import Wide.All
import OpenK.AllK
import Wide.FinOn
import Lean
import PyProof.EqAt
import PyProof.EqKinds
import PyProof.TupleCall
import PySem.Challenge.RW_floodtree_k28_whole_kept_lakes
open PySem.W renaming Frag → Z0, mg_none_of → V9, keepIn → U3, fnOf → U4, findIn → T3, codeIn → R3, emptyDict → R9, instObj → O3, codeHdIn → N2, plainGet → L5, nsIn → K0, hasDictIn → J6, isFn → G6, makesIn → F9, plainOver → D6
open List renaming getElem?_eq_some_iff → Z1, getElem?_eq_getElem → Z6, getElem?_map → Z7, mem_cons → Z8, range → Z9, length_map → Y0, size_toArray → Y1, mem_append_right → Y2, mem_append → Y7, mem_singleton → Y8, mem_cons_of_mem → X2, getElem?_append_left → X4, mem_filter → X6, getElem?_append_right → W0, map_cons → W1, length_cons → W3, length_append → W5, mem_of_getElem? → W6, mem_map → W7, map_congr_left → W8, mem_cons_self → V0, replicate → V1, toArray → V3, length_set → V6, length_range → V8, map_map → U0, getD_eq_getElem?_getD → U7, append_nil → T2, length_filter_le → T7, mem_append_left → S6, take_append_getElem → S8, length_take → R4, mergeSort_perm → R7, pairwise_map → Q0, mem_range → Q2, pairwise_mergeSort → Q6, find?_cons → P2, take_length → P7, lookup → O0, getElem?_set → O2, lookup_cons → N1, length_nil → N6, any_cons → M6, idxOf_lt_length_iff → M7, getElem?_range → L4, getElem?_set_self → L7, take_of_length_le → K1, filter_map → K4, length_replicate → J0, length_singleton → J1, mem_iff_getElem? → J4, getElem?_eq_none → J5, getElem?_set_ne → J9, length → G1, forall_mem_cons → G4, length_drop → G7, getElem_mem → G8, nodup_cons → E1, mem_replicate → E9, filter_cons_of_neg → D2, filter_cons_of_pos → D3, ext_getElem? → D9, take_append_drop → C6, getElem_inj → C7, nodup_range → C9, length_pos_iff_exists_mem → B4, getElem?_zipIdx → A2
open Bool renaming false_ne_true → Z2, eq_iff_iff → X1, false_eq_true → P5, and_eq_true → N0, or_eq_true → A7
open Option.some renaming inj → Z3
open PySem renaming wpAny_bind → Z4, Spec → Y3, wpAny_pure → Y6, starEach → Y9, Program → X5, sizeLine → X7, sizeLine_eq → X9, mainGlobals → U2, compareOp → U8, mem_of_lookup → U9, wpAny_mono → T0, wpAny_truthy_bool → R8, wpAny_holding → Q3, NameKind → Q4, bootBuiltins → Q8, DictEntry → P1, wpAny_Call_Name_kw → P4, Builtin → N4, wpAny_passesOwn → N5, sysModules → M5, recursionLimit → L6, tupleKind_room_in1 → L8, FuncData → K2, bindArgs → G0, wpAny_tryCatch → G3, binaryOp → G9, attributeBase → F6, wpAny_newList → F7, assignEach → E5, Arguments → D0, sliceBounds → D1, codeAny → D7, codeAmong → B2, behindInMarks → B6, wpAny_standAt → B7, wpAny_execs_nil → A5, letOwnedTupleGo → A6
open PySem.Heap renaming get?_push_of_some → Z5, lt_size → Y4, get?_push_size → X3, get?_update_ne → V4
open PySem.Obj renaming mapSeq → Y5
open Int renaming toNat_natCast → X0, le_trans → V7, ofNat_lt → U5, le_refl → R0, lt_of_le_of_lt → P6, ofNat_le → O7, natCast_mul → N9, le_of_lt → M0, not_lt → G2, emod_nonneg → E2, natCast_add → E4, emod_lt_of_pos → E7, eq_ofNat_of_zero_le → D5, ne_of_gt → D8, natCast_ediv → B3
open Nat renaming not_lt → X8, lt_succ_self → W4, le_antisymm → W9, zero_le → V5, le_of_lt_succ → T4, sub_le → T8, le_add_right → S7, mul_le_mul_right → Q5, lt_irrefl → Q7, ne_of_gt → P8, le_succ → O8, not_lt_zero → N7, le_succ_of_le → M1, succ_mul → M3, add_le_add_left → M9, mul_comm → L9, div_lt_iff_lt_mul → J2, le_div_iff_mul_le → J3, lt_succ_of_lt → J8, le_add_left → E3, lt_of_le_of_ne → E8, add_sub_cancel_left → D4, lt_succ_of_le → C0, mul_le_mul → C4, succ_le_succ → C8, not_le → B0, le_sub_one_of_lt → A0, sub_one_lt_of_lt → A1, div_lt_of_lt_mul → A4, min_le_left → A9
open PySem.PassesOwn renaming never → W2
open Option renaming map_eq_some_iff → V2, map_some → K5, isSome_map → J7, none → B9
open PySem.SeqAt renaming EqAt → U1
open PySem.F renaming plainAttrs_list → U6, slot_list_append → T5, type_list_append → T6, plain_min_loop → R5, slot_NoneType_hash → N3, entry_min_loop → C3, slot_dict_get → C5
open PySem.Value renaming ref → T1, int → Q9, none → M4
open Ne renaming symm → T9
open PyProof.Rows renaming callWith_type1 → R1, IntsAre → O5, get?_update_seq → N8, listUpdate_at → K7
open False renaming elim → R6
open Array renaming length_toList → P0, getElem?_toList → P3
open PySem.Builtin.Range renaming rangeSize → O1, rangeFitsLong → O6
open Sum renaming inl → O4
open PySem.NameKind renaming free → O9
open List.Pairwise renaming imp_of_mem → M8
open ForInStep renaming yield → K3
open PySem.PyData renaming eqvAll → K6, canLay0 → C1, canLayAll0 → C2, eqv → B1, depthAll → A8
open List.Mem renaming head → K8, tail → F8
open Int.ofNat renaming inj → K9
open True renaming intro → E6
open PySem.Paired renaming length → B5
open Function renaming comp → B8
open PySem.Around renaming under_plainId → A3
theorem nz1 {a b c:Nat} (h:a<b) (k:b<=c):a<c:=Nat.lt_of_lt_of_le h k
theorem nz2 {a b c:Nat} (h:a<=b) (k:b<c):a<c:=Nat.lt_of_le_of_lt h k
theorem nz3 {a b:Nat} (h:a=b):a<=b:=Nat.le_of_eq h
theorem nz4 {a b c:Nat} (h:a<=b) (k:b<=c):a<=c:=Nat.le_trans h k
theorem nz5 {a b:Nat} (h:a<b):a<=b:=Nat.le_of_lt h
theorem nz6 (n:Nat):n<=n:=Nat.le_refl n
theorem nz7 {a b:Nat} (h:a<b):a≠b:=Nat.ne_of_lt h
theorem nz8 {a b c:Nat} (h:a<b) (k:b<c):a<c:=Nat.lt_trans h k
theorem nz9 {α β γ:Type} (x:Option α) (f:α->Option β) (g:β->Option γ):(x.bind f).bind g=x.bind λy=>(f y).bind g:=Option.bind_assoc x f g
theorem nza {α β:Type} (a:α) (f:α->Option β):(some a).bind f=f a:=rfl
theorem oq02 {p q:Prop}{Q:Prop}(h:p/\q)(f:p->q->Q):Q:=f h.1 h.2
theorem oq03 {p q r:Prop}{Q:Prop}(h:p/\q/\r)(f:p->q->r->Q):Q:=f h.1 h.2.1 h.2.2
theorem oq04 {p q r s:Prop}{Q:Prop}(h:p/\q/\r/\s)(f:p->q->r->s->Q):Q:=f h.1 h.2.1 h.2.2.1 h.2.2.2
theorem oq05 {p q r s t:Prop}{Q:Prop}(h:p/\q/\r/\s/\t)(f:p->q->r->s->t->Q):Q:=f h.1 h.2.1 h.2.2.1 h.2.2.2.1 h.2.2.2.2
theorem oq06 {p q r s t u:Prop}{Q:Prop}(h:p/\q/\r/\s/\t/\u)(f:p->q->r->s->t->u->Q):Q:=f h.1 h.2.1 h.2.2.1 h.2.2.2.1 h.2.2.2.2.1 h.2.2.2.2.2
theorem oq07 {p q r s t u v:Prop}{Q:Prop}(h:p/\q/\r/\s/\t/\u/\v)(f:p->q->r->s->t->u->v->Q):Q:=f h.1 h.2.1 h.2.2.1 h.2.2.2.1 h.2.2.2.2.1 h.2.2.2.2.2.1 h.2.2.2.2.2.2
theorem oq11 {A:Type}{p:A->Prop}{Q:Prop}(h:∃ a,p a)(f:∀ a,p a->Q):Q:=h.elim λa h=>f a h
theorem oq12 {A:Type}{p q:A->Prop}{Q:Prop}(h:∃ a,p a/\q a)(f:∀ a,p a->q a->Q):Q:=h.elim λa h=>f a h.1 h.2
theorem oq13 {A:Type}{p q r:A->Prop}{Q:Prop}(h:∃ a,p a/\q a/\r a)(f:∀ a,p a->q a->r a->Q):Q:=h.elim λa h=>f a h.1 h.2.1 h.2.2
theorem oq14 {A:Type}{p q r s:A->Prop}{Q:Prop}(h:∃ a,p a/\q a/\r a/\s a)(f:∀ a,p a->q a->r a->s a->Q):Q:=h.elim λa h=>f a h.1 h.2.1 h.2.2.1 h.2.2.2
theorem oq15 {A:Type}{p q r s t:A->Prop}{Q:Prop}(h:∃ a,p a/\q a/\r a/\s a/\t a)(f:∀ a,p a->q a->r a->s a->t a->Q):Q:=h.elim λa h=>f a h.1 h.2.1 h.2.2.1 h.2.2.2.1 h.2.2.2.2
theorem oq16 {A:Type}{p q r s t u:A->Prop}{Q:Prop}(h:∃ a,p a/\q a/\r a/\s a/\t a/\u a)(f:∀ a,p a->q a->r a->s a->t a->u a->Q):Q:=h.elim λa h=>f a h.1 h.2.1 h.2.2.1 h.2.2.2.1 h.2.2.2.2.1 h.2.2.2.2.2
theorem oq21 {A B:Type}{p:A->B->Prop}{Q:Prop}(h:∃ a b,p a b)(f:∀ a b,p a b->Q):Q:=h.elim λa h=>h.elim λb h=>f a b h
theorem oq22 {A B:Type}{p q:A->B->Prop}{Q:Prop}(h:∃ a b,p a b/\q a b)(f:∀ a b,p a b->q a b->Q):Q:=h.elim λa h=>h.elim λb h=>f a b h.1 h.2
theorem oq23 {A B:Type}{p q r:A->B->Prop}{Q:Prop}(h:∃ a b,p a b/\q a b/\r a b)(f:∀ a b,p a b->q a b->r a b->Q):Q:=h.elim λa h=>h.elim λb h=>f a b h.1 h.2.1 h.2.2
theorem oq24 {A B:Type}{p q r s:A->B->Prop}{Q:Prop}(h:∃ a b,p a b/\q a b/\r a b/\s a b)(f:∀ a b,p a b->q a b->r a b->s a b->Q):Q:=h.elim λa h=>h.elim λb h=>f a b h.1 h.2.1 h.2.2.1 h.2.2.2
theorem oq25 {A B:Type}{p q r s t:A->B->Prop}{Q:Prop}(h:∃ a b,p a b/\q a b/\r a b/\s a b/\t a b)(f:∀ a b,p a b->q a b->r a b->s a b->t a b->Q):Q:=h.elim λa h=>h.elim λb h=>f a b h.1 h.2.1 h.2.2.1 h.2.2.2.1 h.2.2.2.2
theorem oq26 {A B:Type}{p q r s t u:A->B->Prop}{Q:Prop}(h:∃ a b,p a b/\q a b/\r a b/\s a b/\t a b/\u a b)(f:∀ a b,p a b->q a b->r a b->s a b->t a b->u a b->Q):Q:=h.elim λa h=>h.elim λb h=>f a b h.1 h.2.1 h.2.2.1 h.2.2.2.1 h.2.2.2.2.1 h.2.2.2.2.2
theorem oq2a {A B:Type}{p q r s t u v w x y:A->B->Prop}{Q:Prop}(h:∃ a b,p a b/\q a b/\r a b/\s a b/\t a b/\u a b/\v a b/\w a b/\x a b/\y a b)(f:∀ a b,p a b->q a b->r a b->s a b->t a b->u a b->v a b->w a b->x a b->y a b->Q):Q:=h.elim λa h=>h.elim λb h=>f a b h.1 h.2.1 h.2.2.1 h.2.2.2.1 h.2.2.2.2.1 h.2.2.2.2.2.1 h.2.2.2.2.2.2.1 h.2.2.2.2.2.2.2.1 h.2.2.2.2.2.2.2.2.1 h.2.2.2.2.2.2.2.2.2
theorem oq2b {A B:Type}{p q r s t u v w x y z:A->B->Prop}{Q:Prop}(h:∃ a b,p a b/\q a b/\r a b/\s a b/\t a b/\u a b/\v a b/\w a b/\x a b/\y a b/\z a b)(f:∀ a b,p a b->q a b->r a b->s a b->t a b->u a b->v a b->w a b->x a b->y a b->z a b->Q):Q:=h.elim λa h=>h.elim λb h=>f a b h.1 h.2.1 h.2.2.1 h.2.2.2.1 h.2.2.2.2.1 h.2.2.2.2.2.1 h.2.2.2.2.2.2.1 h.2.2.2.2.2.2.2.1 h.2.2.2.2.2.2.2.2.1 h.2.2.2.2.2.2.2.2.2.1 h.2.2.2.2.2.2.2.2.2.2
theorem oq31 {A B C:Type}{p:A->B->C->Prop}{Q:Prop}(h:∃ a b c,p a b c)(f:∀ a b c,p a b c->Q):Q:=h.elim λa h=>h.elim λb h=>h.elim λc h=>f a b c h
theorem oq32 {A B C:Type}{p q:A->B->C->Prop}{Q:Prop}(h:∃ a b c,p a b c/\q a b c)(f:∀ a b c,p a b c->q a b c->Q):Q:=h.elim λa h=>h.elim λb h=>h.elim λc h=>f a b c h.1 h.2
theorem oq33 {A B C:Type}{p q r:A->B->C->Prop}{Q:Prop}(h:∃ a b c,p a b c/\q a b c/\r a b c)(f:∀ a b c,p a b c->q a b c->r a b c->Q):Q:=h.elim λa h=>h.elim λb h=>h.elim λc h=>f a b c h.1 h.2.1 h.2.2
theorem oq34 {A B C:Type}{p q r s:A->B->C->Prop}{Q:Prop}(h:∃ a b c,p a b c/\q a b c/\r a b c/\s a b c)(f:∀ a b c,p a b c->q a b c->r a b c->s a b c->Q):Q:=h.elim λa h=>h.elim λb h=>h.elim λc h=>f a b c h.1 h.2.1 h.2.2.1 h.2.2.2
theorem oq35 {A B C:Type}{p q r s t:A->B->C->Prop}{Q:Prop}(h:∃ a b c,p a b c/\q a b c/\r a b c/\s a b c/\t a b c)(f:∀ a b c,p a b c->q a b c->r a b c->s a b c->t a b c->Q):Q:=h.elim λa h=>h.elim λb h=>h.elim λc h=>f a b c h.1 h.2.1 h.2.2.1 h.2.2.2.1 h.2.2.2.2
theorem oq36 {A B C:Type}{p q r s t u:A->B->C->Prop}{Q:Prop}(h:∃ a b c,p a b c/\q a b c/\r a b c/\s a b c/\t a b c/\u a b c)(f:∀ a b c,p a b c->q a b c->r a b c->s a b c->t a b c->u a b c->Q):Q:=h.elim λa h=>h.elim λb h=>h.elim λc h=>f a b c h.1 h.2.1 h.2.2.1 h.2.2.2.1 h.2.2.2.2.1 h.2.2.2.2.2
theorem oq37 {A B C:Type}{p q r s t u v:A->B->C->Prop}{Q:Prop}(h:∃ a b c,p a b c/\q a b c/\r a b c/\s a b c/\t a b c/\u a b c/\v a b c)(f:∀ a b c,p a b c->q a b c->r a b c->s a b c->t a b c->u a b c->v a b c->Q):Q:=h.elim λa h=>h.elim λb h=>h.elim λc h=>f a b c h.1 h.2.1 h.2.2.1 h.2.2.2.1 h.2.2.2.2.1 h.2.2.2.2.2.1 h.2.2.2.2.2.2
theorem oq41 {A B C D:Type}{p:A->B->C->D->Prop}{Q:Prop}(h:∃ a b c d,p a b c d)(f:∀ a b c d,p a b c d->Q):Q:=h.elim λa h=>h.elim λb h=>h.elim λc h=>h.elim λd h=>f a b c d h
theorem oq42 {A B C D:Type}{p q:A->B->C->D->Prop}{Q:Prop}(h:∃ a b c d,p a b c d/\q a b c d)(f:∀ a b c d,p a b c d->q a b c d->Q):Q:=h.elim λa h=>h.elim λb h=>h.elim λc h=>h.elim λd h=>f a b c d h.1 h.2
theorem oq43 {A B C D:Type}{p q r:A->B->C->D->Prop}{Q:Prop}(h:∃ a b c d,p a b c d/\q a b c d/\r a b c d)(f:∀ a b c d,p a b c d->q a b c d->r a b c d->Q):Q:=h.elim λa h=>h.elim λb h=>h.elim λc h=>h.elim λd h=>f a b c d h.1 h.2.1 h.2.2
theorem oq44 {A B C D:Type}{p q r s:A->B->C->D->Prop}{Q:Prop}(h:∃ a b c d,p a b c d/\q a b c d/\r a b c d/\s a b c d)(f:∀ a b c d,p a b c d->q a b c d->r a b c d->s a b c d->Q):Q:=h.elim λa h=>h.elim λb h=>h.elim λc h=>h.elim λd h=>f a b c d h.1 h.2.1 h.2.2.1 h.2.2.2
theorem oq45 {A B C D:Type}{p q r s t:A->B->C->D->Prop}{Q:Prop}(h:∃ a b c d,p a b c d/\q a b c d/\r a b c d/\s a b c d/\t a b c d)(f:∀ a b c d,p a b c d->q a b c d->r a b c d->s a b c d->t a b c d->Q):Q:=h.elim λa h=>h.elim λb h=>h.elim λc h=>h.elim λd h=>f a b c d h.1 h.2.1 h.2.2.1 h.2.2.2.1 h.2.2.2.2
theorem oq46 {A B C D:Type}{p q r s t u:A->B->C->D->Prop}{Q:Prop}(h:∃ a b c d,p a b c d/\q a b c d/\r a b c d/\s a b c d/\t a b c d/\u a b c d)(f:∀ a b c d,p a b c d->q a b c d->r a b c d->s a b c d->t a b c d->u a b c d->Q):Q:=h.elim λa h=>h.elim λb h=>h.elim λc h=>h.elim λd h=>f a b c d h.1 h.2.1 h.2.2.1 h.2.2.2.1 h.2.2.2.2.1 h.2.2.2.2.2
theorem oq48 {A B C D:Type}{p q r s t u v w:A->B->C->D->Prop}{Q:Prop}(h:∃ a b c d,p a b c d/\q a b c d/\r a b c d/\s a b c d/\t a b c d/\u a b c d/\v a b c d/\w a b c d)(f:∀ a b c d,p a b c d->q a b c d->r a b c d->s a b c d->t a b c d->u a b c d->v a b c d->w a b c d->Q):Q:=h.elim λa h=>h.elim λb h=>h.elim λc h=>h.elim λd h=>f a b c d h.1 h.2.1 h.2.2.1 h.2.2.2.1 h.2.2.2.2.1 h.2.2.2.2.2.1 h.2.2.2.2.2.2.1 h.2.2.2.2.2.2.2
theorem oq56 {A B C D E:Type}{p q r s t u:A->B->C->D->E->Prop}{Q:Prop}(h:∃ a b c d e,p a b c d e/\q a b c d e/\r a b c d e/\s a b c d e/\t a b c d e/\u a b c d e)(f:∀ a b c d e,p a b c d e->q a b c d e->r a b c d e->s a b c d e->t a b c d e->u a b c d e->Q):Q:=h.elim λa h=>h.elim λb h=>h.elim λc h=>h.elim λd h=>h.elim λe h=>f a b c d e h.1 h.2.1 h.2.2.1 h.2.2.2.1 h.2.2.2.2.1 h.2.2.2.2.2
theorem oq58 {A B C D E:Type}{p q r s t u v w:A->B->C->D->E->Prop}{Q:Prop}(h:∃ a b c d e,p a b c d e/\q a b c d e/\r a b c d e/\s a b c d e/\t a b c d e/\u a b c d e/\v a b c d e/\w a b c d e)(f:∀ a b c d e,p a b c d e->q a b c d e->r a b c d e->s a b c d e->t a b c d e->u a b c d e->v a b c d e->w a b c d e->Q):Q:=h.elim λa h=>h.elim λb h=>h.elim λc h=>h.elim λd h=>h.elim λe h=>f a b c d e h.1 h.2.1 h.2.2.1 h.2.2.2.1 h.2.2.2.2.1 h.2.2.2.2.2.1 h.2.2.2.2.2.2.1 h.2.2.2.2.2.2.2
theorem oq63 {A B C D E G:Type}{p q r:A->B->C->D->E->G->Prop}{Q:Prop}(h:∃ a b c d e g,p a b c d e g/\q a b c d e g/\r a b c d e g)(f:∀ a b c d e g,p a b c d e g->q a b c d e g->r a b c d e g->Q):Q:=h.elim λa h=>h.elim λb h=>h.elim λc h=>h.elim λd h=>h.elim λe h=>h.elim λg h=>f a b c d e g h.1 h.2.1 h.2.2
theorem oq64 {A B C D E G:Type}{p q r s:A->B->C->D->E->G->Prop}{Q:Prop}(h:∃ a b c d e g,p a b c d e g/\q a b c d e g/\r a b c d e g/\s a b c d e g)(f:∀ a b c d e g,p a b c d e g->q a b c d e g->r a b c d e g->s a b c d e g->Q):Q:=h.elim λa h=>h.elim λb h=>h.elim λc h=>h.elim λd h=>h.elim λe h=>h.elim λg h=>f a b c d e g h.1 h.2.1 h.2.2.1 h.2.2.2
theorem oq65 {A B C D E G:Type}{p q r s t:A->B->C->D->E->G->Prop}{Q:Prop}(h:∃ a b c d e g,p a b c d e g/\q a b c d e g/\r a b c d e g/\s a b c d e g/\t a b c d e g)(f:∀ a b c d e g,p a b c d e g->q a b c d e g->r a b c d e g->s a b c d e g->t a b c d e g->Q):Q:=h.elim λa h=>h.elim λb h=>h.elim λc h=>h.elim λd h=>h.elim λe h=>h.elim λg h=>f a b c d e g h.1 h.2.1 h.2.2.1 h.2.2.2.1 h.2.2.2.2
theorem oq6d {A B C D E G:Type}{p q r s t u v w x y z l m:A->B->C->D->E->G->Prop}{Q:Prop}(h:∃ a b c d e g,p a b c d e g/\q a b c d e g/\r a b c d e g/\s a b c d e g/\t a b c d e g/\u a b c d e g/\v a b c d e g/\w a b c d e g/\x a b c d e g/\y a b c d e g/\z a b c d e g/\l a b c d e g/\m a b c d e g)(f:∀ a b c d e g,p a b c d e g->q a b c d e g->r a b c d e g->s a b c d e g->t a b c d e g->u a b c d e g->v a b c d e g->w a b c d e g->x a b c d e g->y a b c d e g->z a b c d e g->l a b c d e g->m a b c d e g->Q):Q:=h.elim λa h=>h.elim λb h=>h.elim λc h=>h.elim λd h=>h.elim λe h=>h.elim λg h=>f a b c d e g h.1 h.2.1 h.2.2.1 h.2.2.2.1 h.2.2.2.2.1 h.2.2.2.2.2.1 h.2.2.2.2.2.2.1 h.2.2.2.2.2.2.2.1 h.2.2.2.2.2.2.2.2.1 h.2.2.2.2.2.2.2.2.2.1 h.2.2.2.2.2.2.2.2.2.2.1 h.2.2.2.2.2.2.2.2.2.2.2.1 h.2.2.2.2.2.2.2.2.2.2.2.2
theorem oq71 {A B C D E G I:Type}{p:A->B->C->D->E->G->I->Prop}{Q:Prop}(h:∃ a b c d e g i,p a b c d e g i)(f:∀ a b c d e g i,p a b c d e g i->Q):Q:=h.elim λa h=>h.elim λb h=>h.elim λc h=>h.elim λd h=>h.elim λe h=>h.elim λg h=>h.elim λi h=>f a b c d e g i h
theorem oq72 {A B C D E G I:Type}{p q:A->B->C->D->E->G->I->Prop}{Q:Prop}(h:∃ a b c d e g i,p a b c d e g i/\q a b c d e g i)(f:∀ a b c d e g i,p a b c d e g i->q a b c d e g i->Q):Q:=h.elim λa h=>h.elim λb h=>h.elim λc h=>h.elim λd h=>h.elim λe h=>h.elim λg h=>h.elim λi h=>f a b c d e g i h.1 h.2
theorem oq79 {A B C D E G I:Type}{p q r s t u v w x:A->B->C->D->E->G->I->Prop}{Q:Prop}(h:∃ a b c d e g i,p a b c d e g i/\q a b c d e g i/\r a b c d e g i/\s a b c d e g i/\t a b c d e g i/\u a b c d e g i/\v a b c d e g i/\w a b c d e g i/\x a b c d e g i)(f:∀ a b c d e g i,p a b c d e g i->q a b c d e g i->r a b c d e g i->s a b c d e g i->t a b c d e g i->u a b c d e g i->v a b c d e g i->w a b c d e g i->x a b c d e g i->Q):Q:=h.elim λa h=>h.elim λb h=>h.elim λc h=>h.elim λd h=>h.elim λe h=>h.elim λg h=>h.elim λi h=>f a b c d e g i h.1 h.2.1 h.2.2.1 h.2.2.2.1 h.2.2.2.2.1 h.2.2.2.2.2.1 h.2.2.2.2.2.2.1 h.2.2.2.2.2.2.2.1 h.2.2.2.2.2.2.2.2
theorem oi03 {p q r:Prop}(h0:p)(h1:q)(h2:r):p/\q/\r:=⟨h0,h1,h2⟩
theorem oi04 {p q r s:Prop}(h0:p)(h1:q)(h2:r)(h3:s):p/\q/\r/\s:=⟨h0,h1,h2,h3⟩
theorem oi05 {p q r s t:Prop}(h0:p)(h1:q)(h2:r)(h3:s)(h4:t):p/\q/\r/\s/\t:=⟨h0,h1,h2,h3,h4⟩
theorem oi06 {p q r s t u:Prop}(h0:p)(h1:q)(h2:r)(h3:s)(h4:t)(h5:u):p/\q/\r/\s/\t/\u:=⟨h0,h1,h2,h3,h4,h5⟩
theorem oi07 {p q r s t u v:Prop}(h0:p)(h1:q)(h2:r)(h3:s)(h4:t)(h5:u)(h6:v):p/\q/\r/\s/\t/\u/\v:=⟨h0,h1,h2,h3,h4,h5,h6⟩
theorem oi12 {A:Type}{p q:A->Prop}(a:A)(h0:p a)(h1:q a):∃ a,p a/\q a:=⟨a,h0,h1⟩
theorem oi13 {A:Type}{p q r:A->Prop}(a:A)(h0:p a)(h1:q a)(h2:r a):∃ a,p a/\q a/\r a:=⟨a,h0,h1,h2⟩
theorem oi14 {A:Type}{p q r s:A->Prop}(a:A)(h0:p a)(h1:q a)(h2:r a)(h3:s a):∃ a,p a/\q a/\r a/\s a:=⟨a,h0,h1,h2,h3⟩
theorem oi15 {A:Type}{p q r s t:A->Prop}(a:A)(h0:p a)(h1:q a)(h2:r a)(h3:s a)(h4:t a):∃ a,p a/\q a/\r a/\s a/\t a:=⟨a,h0,h1,h2,h3,h4⟩
theorem oi16 {A:Type}{p q r s t u:A->Prop}(a:A)(h0:p a)(h1:q a)(h2:r a)(h3:s a)(h4:t a)(h5:u a):∃ a,p a/\q a/\r a/\s a/\t a/\u a:=⟨a,h0,h1,h2,h3,h4,h5⟩
theorem oi21 {A B:Type}{p:A->B->Prop}(a:A)(b:B)(h0:p a b):∃ a b,p a b:=⟨a,b,h0⟩
theorem oi22 {A B:Type}{p q:A->B->Prop}(a:A)(b:B)(h0:p a b)(h1:q a b):∃ a b,p a b/\q a b:=⟨a,b,h0,h1⟩
theorem oi23 {A B:Type}{p q r:A->B->Prop}(a:A)(b:B)(h0:p a b)(h1:q a b)(h2:r a b):∃ a b,p a b/\q a b/\r a b:=⟨a,b,h0,h1,h2⟩
theorem oi24 {A B:Type}{p q r s:A->B->Prop}(a:A)(b:B)(h0:p a b)(h1:q a b)(h2:r a b)(h3:s a b):∃ a b,p a b/\q a b/\r a b/\s a b:=⟨a,b,h0,h1,h2,h3⟩
theorem oi25 {A B:Type}{p q r s t:A->B->Prop}(a:A)(b:B)(h0:p a b)(h1:q a b)(h2:r a b)(h3:s a b)(h4:t a b):∃ a b,p a b/\q a b/\r a b/\s a b/\t a b:=⟨a,b,h0,h1,h2,h3,h4⟩
theorem oi26 {A B:Type}{p q r s t u:A->B->Prop}(a:A)(b:B)(h0:p a b)(h1:q a b)(h2:r a b)(h3:s a b)(h4:t a b)(h5:u a b):∃ a b,p a b/\q a b/\r a b/\s a b/\t a b/\u a b:=⟨a,b,h0,h1,h2,h3,h4,h5⟩
theorem oi31 {A B C:Type}{p:A->B->C->Prop}(a:A)(b:B)(c:C)(h0:p a b c):∃ a b c,p a b c:=⟨a,b,c,h0⟩
theorem oi32 {A B C:Type}{p q:A->B->C->Prop}(a:A)(b:B)(c:C)(h0:p a b c)(h1:q a b c):∃ a b c,p a b c/\q a b c:=⟨a,b,c,h0,h1⟩
theorem oi33 {A B C:Type}{p q r:A->B->C->Prop}(a:A)(b:B)(c:C)(h0:p a b c)(h1:q a b c)(h2:r a b c):∃ a b c,p a b c/\q a b c/\r a b c:=⟨a,b,c,h0,h1,h2⟩
theorem oi34 {A B C:Type}{p q r s:A->B->C->Prop}(a:A)(b:B)(c:C)(h0:p a b c)(h1:q a b c)(h2:r a b c)(h3:s a b c):∃ a b c,p a b c/\q a b c/\r a b c/\s a b c:=⟨a,b,c,h0,h1,h2,h3⟩
theorem oi35 {A B C:Type}{p q r s t:A->B->C->Prop}(a:A)(b:B)(c:C)(h0:p a b c)(h1:q a b c)(h2:r a b c)(h3:s a b c)(h4:t a b c):∃ a b c,p a b c/\q a b c/\r a b c/\s a b c/\t a b c:=⟨a,b,c,h0,h1,h2,h3,h4⟩
theorem oi36 {A B C:Type}{p q r s t u:A->B->C->Prop}(a:A)(b:B)(c:C)(h0:p a b c)(h1:q a b c)(h2:r a b c)(h3:s a b c)(h4:t a b c)(h5:u a b c):∃ a b c,p a b c/\q a b c/\r a b c/\s a b c/\t a b c/\u a b c:=⟨a,b,c,h0,h1,h2,h3,h4,h5⟩
theorem oi37 {A B C:Type}{p q r s t u v:A->B->C->Prop}(a:A)(b:B)(c:C)(h0:p a b c)(h1:q a b c)(h2:r a b c)(h3:s a b c)(h4:t a b c)(h5:u a b c)(h6:v a b c):∃ a b c,p a b c/\q a b c/\r a b c/\s a b c/\t a b c/\u a b c/\v a b c:=⟨a,b,c,h0,h1,h2,h3,h4,h5,h6⟩
theorem oi41 {A B C D:Type}{p:A->B->C->D->Prop}(a:A)(b:B)(c:C)(d:D)(h0:p a b c d):∃ a b c d,p a b c d:=⟨a,b,c,d,h0⟩
theorem oi44 {A B C D:Type}{p q r s:A->B->C->D->Prop}(a:A)(b:B)(c:C)(d:D)(h0:p a b c d)(h1:q a b c d)(h2:r a b c d)(h3:s a b c d):∃ a b c d,p a b c d/\q a b c d/\r a b c d/\s a b c d:=⟨a,b,c,d,h0,h1,h2,h3⟩
theorem oi45 {A B C D:Type}{p q r s t:A->B->C->D->Prop}(a:A)(b:B)(c:C)(d:D)(h0:p a b c d)(h1:q a b c d)(h2:r a b c d)(h3:s a b c d)(h4:t a b c d):∃ a b c d,p a b c d/\q a b c d/\r a b c d/\s a b c d/\t a b c d:=⟨a,b,c,d,h0,h1,h2,h3,h4⟩
theorem oi48 {A B C D:Type}{p q r s t u v w:A->B->C->D->Prop}(a:A)(b:B)(c:C)(d:D)(h0:p a b c d)(h1:q a b c d)(h2:r a b c d)(h3:s a b c d)(h4:t a b c d)(h5:u a b c d)(h6:v a b c d)(h7:w a b c d):∃ a b c d,p a b c d/\q a b c d/\r a b c d/\s a b c d/\t a b c d/\u a b c d/\v a b c d/\w a b c d:=⟨a,b,c,d,h0,h1,h2,h3,h4,h5,h6,h7⟩
theorem oi51 {A B C D E:Type}{p:A->B->C->D->E->Prop}(a:A)(b:B)(c:C)(d:D)(e:E)(h0:p a b c d e):∃ a b c d e,p a b c d e:=⟨a,b,c,d,e,h0⟩
theorem oi56 {A B C D E:Type}{p q r s t u:A->B->C->D->E->Prop}(a:A)(b:B)(c:C)(d:D)(e:E)(h0:p a b c d e)(h1:q a b c d e)(h2:r a b c d e)(h3:s a b c d e)(h4:t a b c d e)(h5:u a b c d e):∃ a b c d e,p a b c d e/\q a b c d e/\r a b c d e/\s a b c d e/\t a b c d e/\u a b c d e:=⟨a,b,c,d,e,h0,h1,h2,h3,h4,h5⟩
theorem oi63 {A B C D E G:Type}{p q r:A->B->C->D->E->G->Prop}(a:A)(b:B)(c:C)(d:D)(e:E)(g:G)(h0:p a b c d e g)(h1:q a b c d e g)(h2:r a b c d e g):∃ a b c d e g,p a b c d e g/\q a b c d e g/\r a b c d e g:=⟨a,b,c,d,e,g,h0,h1,h2⟩
theorem oi64 {A B C D E G:Type}{p q r s:A->B->C->D->E->G->Prop}(a:A)(b:B)(c:C)(d:D)(e:E)(g:G)(h0:p a b c d e g)(h1:q a b c d e g)(h2:r a b c d e g)(h3:s a b c d e g):∃ a b c d e g,p a b c d e g/\q a b c d e g/\r a b c d e g/\s a b c d e g:=⟨a,b,c,d,e,g,h0,h1,h2,h3⟩
theorem oi65 {A B C D E G:Type}{p q r s t:A->B->C->D->E->G->Prop}(a:A)(b:B)(c:C)(d:D)(e:E)(g:G)(h0:p a b c d e g)(h1:q a b c d e g)(h2:r a b c d e g)(h3:s a b c d e g)(h4:t a b c d e g):∃ a b c d e g,p a b c d e g/\q a b c d e g/\r a b c d e g/\s a b c d e g/\t a b c d e g:=⟨a,b,c,d,e,g,h0,h1,h2,h3,h4⟩
theorem oi6d {A B C D E G:Type}{p q r s t u v w x y z l m:A->B->C->D->E->G->Prop}(a:A)(b:B)(c:C)(d:D)(e:E)(g:G)(h0:p a b c d e g)(h1:q a b c d e g)(h2:r a b c d e g)(h3:s a b c d e g)(h4:t a b c d e g)(h5:u a b c d e g)(h6:v a b c d e g)(h7:w a b c d e g)(h8:x a b c d e g)(h9:y a b c d e g)(h10:z a b c d e g)(h11:l a b c d e g)(h12:m a b c d e g):∃ a b c d e g,p a b c d e g/\q a b c d e g/\r a b c d e g/\s a b c d e g/\t a b c d e g/\u a b c d e g/\v a b c d e g/\w a b c d e g/\x a b c d e g/\y a b c d e g/\z a b c d e g/\l a b c d e g/\m a b c d e g:=⟨a,b,c,d,e,g,h0,h1,h2,h3,h4,h5,h6,h7,h8,h9,h10,h11,h12⟩
theorem oi71 {A B C D E G I:Type}{p:A->B->C->D->E->G->I->Prop}(a:A)(b:B)(c:C)(d:D)(e:E)(g:G)(i:I)(h0:p a b c d e g i):∃ a b c d e g i,p a b c d e g i:=⟨a,b,c,d,e,g,i,h0⟩
theorem oi79 {A B C D E G I:Type}{p q r s t u v w x:A->B->C->D->E->G->I->Prop}(a:A)(b:B)(c:C)(d:D)(e:E)(g:G)(i:I)(h0:p a b c d e g i)(h1:q a b c d e g i)(h2:r a b c d e g i)(h3:s a b c d e g i)(h4:t a b c d e g i)(h5:u a b c d e g i)(h6:v a b c d e g i)(h7:w a b c d e g i)(h8:x a b c d e g i):∃ a b c d e g i,p a b c d e g i/\q a b c d e g i/\r a b c d e g i/\s a b c d e g i/\t a b c d e g i/\u a b c d e g i/\v a b c d e g i/\w a b c d e g i/\x a b c d e g i:=⟨a,b,c,d,e,g,i,h0,h1,h2,h3,h4,h5,h6,h7,h8⟩
set_option Elab.async false
set_option linter.all false
set_option maxRecDepth 100000
set_option bootstrap.genMatcherCode false
set_option genSizeOf false
set_option genInjectivity false
set_option tactic.hygienic false
noncomputable section
namespace L2
theorem a0q (h:True:=by decide):True:=trivial
theorem a1q (h:True:=by intro _; rfl):True:=trivial
theorem a2q (h:True:=by rfl):True:=trivial
theorem a3q (h:True:=by with_unfolding_all rfl):True:=trivial
theorem a4q (h:True:=by trivial):True:=trivial
open PySem PySem.Spec PyProof.Rows
noncomputable abbrev Key:=Sum Int Str
noncomputable def gb:Key->Value->Bool
 | .inl k,v=>Value.isInt k v
 | .inr x,v=>Value.isStrOf x v
noncomputable def keyH (w:World):Key->Int
 | .inl k=>hashInt k
 | .inr x=>hashStr w x
theorem be:∀ {k:Key} {v:Value},gb k v=true->(∃ i t,k=O4 i/\v=Q9 i t)\/(∃ x t,k=Sum.inr x/\v=Value.str x t):=λ{k v} h=>by
 cases k with
 | inl i=>exact oq11 (Value.isInt_shape (k:=i) (v:=v) h) λt e=>.inl ⟨i,t,rfl,e⟩
 | inr x=>exact oq11 (Value.isStrOf_shape (x:=x) (v:=v) h) λt e=>.inr ⟨x,t,rfl,e⟩
theorem keyIs_int (i:Int) (t:Tok):gb (.inl i) (.int i t)=true:=by simp [gb,Value.isInt]
theorem keyIs_str (x:Str) (t:Tok):gb (.inr x) (.str x t)=true:=by simp [gb,Value.isStrOf]
theorem key_ll (a b:Int):decide ((O4 a:Key)=O4 b)=(a == b):=by
 by_cases e:a=b
 ·subst e; simp
 ·have h:¬ (O4 a:Key)=O4 b:=λq=>e (O4.inj q)
  rw [decide_eq_false h]
  exact (beq_eq_false_iff_ne.mpr e).symm
theorem key_rr (a b:Str):decide ((Sum.inr a:Key)=Sum.inr b)=decide (a=b):=by
 by_cases e:a=b
 ·subst e; simp
 ·have h:¬ (Sum.inr a:Key)=Sum.inr b:=λq=>e (Sum.inr.inj q)
  rw [decide_eq_false h,decide_eq_false e]
theorem key_lr (a:Int) (b:Str):decide ((O4 a:Key)=Sum.inr b)=false:=decide_eq_false (λq=>nomatch q)
theorem key_rl (a:Str) (b:Int):decide ((Sum.inr a:Key)=O4 b)=false:=decide_eq_false (λq=>nomatch q)
noncomputable def aZ (prog:X5) (w:World):PySem.KeyKind prog w Key where
 is:=gb
 hash:=keyH w
 inj:=λv a b ha hb=>by
  rcases be ha with ⟨i,t,rfl,rfl⟩ | ⟨x,t,rfl,rfl⟩
  ·rcases be hb with ⟨j,u,rfl,e⟩ | ⟨y,u,rfl,e⟩
   ·injection e with e1 _; rw [e1]
   ·exact nomatch e
  ·rcases be hb with ⟨j,u,rfl,e⟩ | ⟨y,u,rfl,e⟩
   ·exact nomatch e
   ·injection e with e1 _; rw [e1]
 byValue:=λk v h=>by
  rcases be h with ⟨i,t,rfl,rfl⟩ | ⟨x,t,rfl,rfl⟩ <;> rfl
 pyHash:=λhv h=>by
  rcases be hv with ⟨i,t,rfl,rfl⟩ | ⟨x,t,rfl,rfl⟩
  ·exact wpAny_pyHash_int h
  ·exact wpAny_pyHash_str h
 eqBool:=λhu hv h=>by
  rcases be hu with ⟨i,t,rfl,rfl⟩ | ⟨x,t,rfl,rfl⟩
  ·rcases be hv with ⟨j,u,rfl,rfl⟩ | ⟨y,u,rfl,rfl⟩
   ·rw [key_ll] at h; exact wpAny_eqBool_int h
   ·rw [key_lr] at h; exact U1.int_str i t y u _ _ _ _ h
  ·rcases be hv with ⟨j,u,rfl,rfl⟩ | ⟨y,u,rfl,rfl⟩
   ·rw [key_rl] at h; exact U1.str_int x t j u _ _ _ _ h
   ·rw [key_rr] at h; exact wpAny_eqBool_str h
 «strs»:=λk x t v h=>by
  rcases be h with ⟨i,u,rfl,e⟩ | ⟨y,u,rfl,e⟩
  ·exact nomatch e
  ·injection e with e1 _
   subst e1
   cases v <;> rfl
theorem o7 (prog:X5) (w:World) (i:Int) (t:Tok):(aZ prog w).is (.inl i) (.int i t)=true:=keyIs_int i t
theorem o8 (prog:X5) (w:World) (x:Str) (t:Tok):(aZ prog w).is (.inr x) (.str x t)=true:=keyIs_str x t
end L2
namespace L2
open PySem PySem.Spec PyProof.Rows
set_option genInjectivity true in
inductive V where
 | non | bl (b:Bool) | int (i:Int) | str (x:Str) | byt (b:Array UInt8) | flt (b:UInt64) | ref (a:Addr) | ty (n:String)
 deriving DecidableEq
def RelV:V->Value->Prop
 | .non,u=>u=M4
 | .bl b,u=>u=Value.bool b
 | .int i,u=>∃ t,u=Q9 i t
 | .str x,u=>∃ t,u=Value.str x t
 | .byt b,u=>∃ t,u=Value.bytes b t
 | .flt b,u=>∃ t,u=Value.float b t
 | .ref a,u=>u=T1 a
 | .ty n,u=>u=Value.type n
abbrev Vals:List V->List Value->Prop:=Paired RelV
theorem Vals.length {xs:List V} {us:List Value} (r:Vals xs us):xs.length=us.length:=B5 r
theorem Vals.get:∀ {xs:List V} {us:List Value} {i:Nat} {x:V},Vals xs us->xs[i]?=some x->∃ u,us[i]?=some u/\RelV x u:=by
 intro xs us i x p
 induction p generalizing i with
 | nil=>exact λe=>nomatch e
 | cons r t ih =>
  cases i with
  | zero=>exact λe=>oi12 _ rfl (Z3 e ▸ r)
  | succ i=>exact λe=>ih (i:=i) e
theorem Vals.set {x:V} {u:Value} (r:RelV x u):∀ {xs:List V} {us:List Value} (i:Nat),Vals xs us->Vals (xs.set i x) (us.set i u):=by
 intro xs us i p
 induction p generalizing i with
 | nil=>exact .nil
 | cons q t ih =>
  cases i with
  | zero=>exact .cons r t
  | succ i=>exact .cons q (ih i)
theorem Vals.append:∀ {xs ys:List V} {us ws:List Value},Vals xs us->Vals ys ws->Vals (xs++ys) (us++ws):=λp s=>by
 induction p with
 | nil=>exact s
 | cons r _ ih=>exact .cons r ih
theorem Vals.take:∀ {xs:List V} {us:List Value} (n:Nat),Vals xs us->Vals (xs.take n) (us.take n):=by
 intro xs us n p
 induction p generalizing n with
 | nil=>cases n <;> exact .nil
 | cons r t ih =>
  cases n with
  | zero=>exact .nil
  | succ n=>exact .cons r (ih n)
theorem Vals.drop:∀ {xs:List V} {us:List Value} (n:Nat),Vals xs us->Vals (xs.drop n) (us.drop n):=by
 intro xs us n p
 induction p generalizing n with
 | nil=>cases n <;> exact .nil
 | cons r t ih =>
  cases n with
  | zero=>exact .cons r t
  | succ n=>exact ih n
def RelO:Option V->Option Value->Prop
 | some v,some u=>RelV v u
 | none,none=>True
 | _,_=>False
def KV {κ:Type}:List (κ × V)->List (κ × Value)->Prop:=Paired λ(p:κ × V) (q:κ × Value)=>p.1=q.1/\RelV p.2 q.2
noncomputable def kV:Key->V
 | .inl i=>.int i
 | .inr x=>.str x
inductive HO where
 | lst (xs:List V)
 | tup (xs:List V)
 | dK (kvs:List (Key × V)) | dT (kvs:List (List Key × V))
 | set (S:Int->Bool) (n:Nat)
 | ins (C dx:Addr) (fs:List (Str × V))
 | own (x:Addr)
 | xd (fs:List (Str × V))
 | met (f x:Addr)
 | rng (lo hi:Int)
 | frz (o:Obj) (u:HO)
 | tbl (ps:Array Value)
 | ext (φ:Heap->Prop)
noncomputable abbrev Hp:=Addr->Option HO
noncomputable def upd (H:Hp) (a:Addr) (o:HO):Hp:=λb=>if b=a then some o else H b
theorem ai {H:Hp} {a:Addr} {o:HO}:upd H a o a=some o:=by unfold upd; rw [if_pos rfl]
theorem am {H:Hp} {a b:Addr} {o:HO} (h:b≠a):upd H a o b=H b:=by unfold upd; rw [if_neg h]
theorem upd_upd {H:Hp} {a:Addr} {o u:HO}:upd (upd H a o) a u=upd H a u:=by
 funext b; unfold upd; split <;> rfl
theorem ne_of {H:Hp} {a b:Addr} {o u:HO} (h:H a=some o) (h':H b=some u) (d:o≠u):a≠b:=by
 intro e; subst e; rw [h] at h'; exact d (Z3 h')
theorem al {H:Hp} {a b:Addr} {o:HO} (h:H a=some o) (h':H b=none):a≠b:=by
 intro e; subst e; rw [h] at h'; cases h'
section
variable (P:X5) (w:World)
def bS (H:Hp) (h:Heap) (a:Addr):HO->Prop
 | .lst xs=>xs.length<=X7/\∃ (its:List Value) (n:Nat),Vals xs its/\h.get? a=some { cls:=.type "list",data:=.seq its.toArray n }
 | .tup xs=>xs.length<=X7/\∃ its:List Value,Vals xs its/\IsTup h a its.toArray
 | .dK kvs=>kvs.length<=X7/\(a == M5)=false/\∃ vs,KV kvs vs/\h.DictOf (aZ P w) a vs
 | .dT kvs=>kvs.length<=X7/\(a == M5)=false/\∃ xs:List (List Key × Addr × Value),
   Paired (λ(p:List Key × V) (q:List Key × Addr × Value)=>p.1=q.1/\H q.2.1=some (.tup (p.1.map kV))/\RelV p.2 q.2.2) kvs xs /\
   ∃ o es ep,h.get? a=some o/\o.ExactDict/\o.data=.dict es ep/\es.toList=xs.map (entryOfKey (tupleKind (aZ P w)))/\(xs.map (·.1)).Nodup
 | .set S n=>h.SetOf (intKind P w) a S n
 | .ins C dx fs=>H dx=some (.own a)/\fs.length<=1000/\dx≠a/\h.get? a=some (O3 C dx) /\
   ∃ mA,h.Ns1 dx mA/\(∀ f,RelO (fs.lookup f) (mA f))/\PySem.Within mA (fs.map (·.1))
 | .own _=>∃ o,h.get? a=some o
 | .xd fs=>∃ mA,h.Ns1 a mA/\∀ f,RelO (fs.lookup f) (mA f)
 | .rng lo hi=>∃ t u v,h.get? a=some { cls:=.type "range",data:=.fields #[.int lo t,.int hi u,.int 1 v] }
 | .frz o u=>h.get? a=some o/\bS H h a u
 | .tbl ps=>h.get? a=some { cls:=.none,data:=.fields ps }
 | .met f x=>h.get? a=some (PySem.W.methodObj (.ref f) (.ref x))
 | .ext φ=>φ h/\(∃ o,h.get? a=some o)/\∀ h1 h2:Heap,φ h1->(∀ o,h1.get? a=some o->h2.get? a=some o)->φ h2
def HOk (H:Hp) (h:Heap):Prop:=∀ a o,H a=some o->bS P w H h a o
end
section
variable {P:X5} {w:World} {H H':Hp} {h h':Heap} {a:Addr} {o:HO}
theorem bS.lt (x:bS P w H h a o):a<h.objs.size:=by
 cases o with
 | lst xs=>refine oq02 x λb zz=>oq22 zz λb b b e=>?_; exact Y4 e
 | tup xs=>refine oq02 x λb zz=>oq12 zz λb b p=>?_; exact p.lt
 | dK kvs=>refine oq03 x λb b zz=>oq12 zz λb b zz=>oq32 zz λo b b e b=>?_; exact Y4 e
 | dT kvs=>refine oq03 x λb b zz=>oq12 zz λb b zz=>oq32 zz λo b b e b=>?_; exact Y4 e
 | set S n=>refine oq42 x λo b b b e b=>?_; exact Y4 e
 | ins C dx fs=>refine oq05 x λb b b e b=>?_; exact Y4 e
 | own y=>refine oq11 x λb e=>?_; exact Y4 e
 | xd fs=>obtain ⟨_,⟨_,_,_,e,_⟩,_⟩:=x; exact Y4 e
 | rng lo hi=>refine oq31 x λb b b e=>?_; exact Y4 e
 | frz ob u=>refine oq02 x λe b=>?_; exact Y4 e
 | tbl ps=>exact Y4 (show h.get? a=some _ from x)
 | met f y=>exact Y4 (show h.get? a=some _ from x)
 | ext φ=>obtain ⟨_,⟨_,e⟩,_⟩:=x; exact Y4 e
theorem Paired.mapP {α β:Type} {F G:α->β->Prop}:∀ {l₁:List α} {l₂:List β},Paired F l₁ l₂->(∀ a b,F a b->G a b)->Paired G l₁ l₂:=λp f=>by
 induction p with
 | nil=>exact .nil
 | cons r _ ih=>exact .cons (f _ _ r) ih
theorem bS.stay (x:bS P w H h a o) (k:∀ b u,(b=a\/H b=some (.own a))->h.get? b=some u->h'.get? b=some u)
  (ho:∀ b,H b=some (.own a)->H' b=some (.own a)) (ht:∀ b xs,H b=some (.tup xs)->H' b=some (.tup xs)):bS P w H' h' a o:=by
 induction o with
 | lst xs=>refine oq02 x λz zz=>oq22 zz λits n r e=>?_; exact ⟨z,its,n,r,k _ _ (.inl rfl) e⟩
 | tup xs=>refine oq02 x λz zz=>oq12 zz λits r zz=>oq12 zz λob e c=>?_; exact ⟨z,its,r,ob,k _ _ (.inl rfl) e,c⟩
 | dK kvs=>refine oq03 x λz y zz=>oq12 zz λvs r zz=>oq32 zz λob es ep e c=>?_; exact ⟨z,y,vs,r,ob,es,ep,k _ _ (.inl rfl) e,c⟩
 | dT kvs =>
  refine oq03 x λz y zz=>oq12 zz λxs r zz=>oq32 zz λob es ep e c=>?_
  exact ⟨z,y,xs,Paired.mapP r λp q z=>⟨z.1,ht _ _ z.2.1,z.2.2⟩,ob,es,ep,k _ _ (.inl rfl) e,c⟩
 | set S n=>refine oq42 x λob es ep t e c=>?_; exact ⟨ob,es,ep,t,k _ _ (.inl rfl) e,c⟩
 | ins C dx fs =>
  obtain ⟨d,z,ne,e,mA,⟨od,es,ep,e2,c⟩,r⟩:=x
  exact ⟨ho _ d,z,ne,k _ _ (.inl rfl) e,mA,⟨od,es,ep,k _ _ (.inr d) e2,c⟩,r⟩
 | own y=>refine oq11 x λob e=>?_; exact ⟨ob,k _ _ (.inl rfl) e⟩
 | xd fs=>obtain ⟨mA,⟨od,es,ep,e,c⟩,r⟩:=x; exact ⟨mA,⟨od,es,ep,k _ _ (.inl rfl) e,c⟩,r⟩
 | rng lo hi=>refine oq31 x λt u v e=>?_; exact ⟨t,u,v,k _ _ (.inl rfl) e⟩
 | frz ob u ih=>refine oq02 x λe q=>?_; exact ⟨k _ _ (.inl rfl) e,ih q⟩
 | tbl ps =>
  have e:h.get? a=some { cls:=.none,data:=.fields ps }:=x
  show h'.get? a=some { cls:=.none,data:=.fields ps }
  exact k a _ (.inl rfl) e
 | met f y =>
  have e:h.get? a=some (PySem.W.methodObj (.ref f) (.ref y)):=x
  show h'.get? a=some (PySem.W.methodObj (.ref f) (.ref y))
  exact k a _ (.inl rfl) e
 | ext φ=>obtain ⟨p,⟨o,e⟩,st⟩:=x; exact ⟨st _ _ p λo q=>k _ _ (.inl rfl) q,⟨o,k _ _ (.inl rfl) e⟩,st⟩
theorem HOk.lt (x:HOk P w H h) (e:H a=some o):a<h.objs.size:=(x a o e).lt
theorem HOk.fresh (x:HOk P w H h) (e:h.objs.size<=a):H a=none:=by
 cases q:H a with
 | none=>rfl
 | some u=>exact absurd (nz1 (x.lt q) e) (Q7 _)
theorem HOk.kept (x:HOk P w H h) (k:∀ b u,h.get? b=some u->h'.get? b=some u):HOk P w H h':=λa o e =>
 (x a o e).stay (λb u c q=>k b u q) (λc q=>q) λc c q=>q
theorem HOk.laid (x:HOk P w H h) (k:∀ b u,h.get? b=some u->h'.get? b=some u) (hp:h.objs.size<=a) (new:bS P w (upd H a o) h' a o):HOk P w (upd H a o) h':=λb u e=>by
 have hn:=x.fresh hp
 by_cases hb:b=a
 ·subst hb; rw [ai] at e; cases e; exact new
 ·rw [am hb] at e
  exact (x b u e).stay (λc v i q=>k c v q) (λc q=>by rw [am (al q hn)]; exact q) λc xs q=>by rw [am (al q hn)]; exact q
end
def Rd (H:Hp) (a:Addr) (u:HO):Prop:=H a=some u\/∃ o,H a=some (.frz o u)
theorem Rd.of {H:Hp} {a:Addr} {u:HO} (h:H a=some u):Rd H a u:=.inl h
theorem Rd.ok {P:X5} {w:World} {H:Hp} {h:Heap} {a:Addr} {u:HO} (r:Rd H a u) (x:HOk P w H h):bS P w H h a u:=by
 rcases r with r | ⟨o,r⟩
 ·exact x a u r
 ·refine oq02 (x a _ r) λb q=>?_
  exact q
def Mut:Option HO->Prop
 | some (.lst _)=>True
 | some (.dK _)=>True
 | some (.dT _)=>True
 | some (.set _ _)=>True
 | some (.ins _ _ _)=>True
 | some (.ext _)=>True
 | _=>False
section
variable {P:X5} {w:World} {H:Hp} {h h':Heap} {x e:Addr} {o':HO}
theorem HOk.write (ok:HOk P w H h) (mu:Mut (H x)) (he:e=x\/H e=some (.own x)) (k:∀ b u,b≠e->h.get? b=some u->h'.get? b=some u) (heo:∃ u,h'.get? e=some u)
  (new:bS P w (upd H x o') h' x o'):HOk P w (upd H x o') h':=λb u q=>by
 have nown:∀ c y,H c=some (.own y)->c≠x:=λc y r z=>by subst z; rw [r] at mu; exact mu
 have ntup:∀ c xs,H c=some (.tup xs)->c≠x:=λc xs r z=>by subst z; rw [r] at mu; exact mu
 by_cases hb:b=x
 ·subst hb; rw [ai] at q; cases q; exact new
 ·rw [am hb] at q
  by_cases hbe:b=e
  ·have q':H b=some (.own x):=by
    rcases he with z | z
    ·exact absurd (hbe.trans z) hb
    ·rw [hbe]; exact z
   rw [q] at q'; cases q'
   refine oq11 heo λv hv=>?_
   exact ⟨v,by rw [hbe]; exact hv⟩
  ·refine (ok b u q).stay (λc v hc r=>k c v ?_ r) (λc r=>by rw [am (nown c b r)]; exact r) λc xs r=>by rw [am (ntup c xs r)]; exact r
   rcases hc with rfl | hc
   ·exact hbe
   ·rintro rfl
    rcases he with z | z
    ·exact nown c b hc z
    ·rw [hc] at z; cases z; exact hb rfl
end
structure Un (fs ex:List Addr) (H H':Hp) (h h':Heap):Prop where
 keep:∀ b o,h.get? b=some o->H b=none->b ∉ fs->b ∉ ex->h'.get? b=some o
 slot:∀ b o,h.get? b=some o->H b=none->b∈fs->b ∉ ex->∃ sl,h'.get? b=some { o with slots:=sl }
 free:∀ b o,h.get? b=some o->H b=none->b ∉ ex->H' b=none
 there:∀ b o,h.get? b=some o->b ∉ ex->∃ o',h'.get? b=some o'
 tups:∀ b xs,H b=some (.tup xs)->H' b=some (.tup xs)
 frzs:∀ b o u,H b=some (.frz o u)->H' b=some (.frz o u)
 tbls:∀ b ps,H b=some (.tbl ps)->∃ more,H' b=some (.tbl (ps++more))
section
variable {fs ex:List Addr} {H H1:Hp} {h h1 h':Heap} {a x e:Addr} {o:HO}
theorem Un.any (u:Un fs ex H H1 h h1) {b:Addr} {ob:Obj} (q:h.get? b=some ob) (n:H b=none) (hx:b ∉ ex):∃ sl,h1.get? b=some { ob with slots:=sl }:=by
 by_cases hb:b∈fs
 ·exact u.slot b ob q n hb hx
 ·exact ⟨ob.slots,u.keep b ob q n hb hx⟩
theorem Un.kept (k:∀ b u,h.get? b=some u->h'.get? b=some u):Un fs ex H H h h' :=
 ⟨λb ob q x x x=>k b ob q,λb ob q x x x=>⟨ob.slots,k b ob q⟩,λx x x n x=>n,λb ob q x=>⟨ob,k b ob q⟩,λx x q=>q,λx x x q=>q,λx ps q=>⟨#[],by rw [q]; simp⟩⟩
theorem Un.refl:Un fs ex H H h h:=Un.kept λx x q=>q
theorem Un.laid (k:∀ b u,h.get? b=some u->h'.get? b=some u) (hp:h.objs.size<=a) (hn:H a=none):Un fs ex H (upd H a o) h h' where
 keep:=λb u q x x x=>k b u q
 slot:=λb u q x x x=>⟨u.slots,k b u q⟩
 free:=λb u q n x=>by rw [am (nz7 (nz1 (Y4 q) hp))]; exact n
 there:=λb u q x=>⟨u,k b u q⟩
 tups:=λb xs q=>by rw [am (al q hn)]; exact q
 frzs:=λb u xs q=>by rw [am (al q hn)]; exact q
 tbls:=λb ps q=>⟨#[],by rw [am (al q hn),q]; simp⟩
theorem Un.write (mu:Mut (H x)) (he:e=x\/H e=some (.own x)) (k:∀ b u,b≠e->h.get? b=some u->h'.get? b=some u) (heo:∃ u,h'.get? e=some u):Un fs ex H (upd H x o) h h':=by
 have hx:∀ b,H b=none->b≠x:=λb n z=>by subst z; rw [n] at mu; exact mu
 have hb:∀ b,H b=none->b≠e:=λb n z=>by
  subst z
  rcases he with r | r
  ·exact hx b n r
  ·rw [n] at r; cases r
 have hm:∀ b u,H b=some u->¬ Mut (some u)->b≠x:=λb u q nm z=>by subst z; rw [q] at mu; exact nm mu
 refine ⟨λb u q n a a=>k b u (hb b n) q,λb u q n a a=>⟨u.slots,k b u (hb b n) q⟩,λb u q n a=>by rw [am (hx b n)]; exact n,λb u q a=>?_,
  λb xs q=>by rw [am (hm b _ q λz=>z)]; exact q,λb u xs q=>by rw [am (hm b _ q λz=>z)]; exact q,λb ps q=>⟨#[],by rw [am (hm b _ q λz=>z),q]; simp⟩⟩
 by_cases hbe:b=e
 ·subst hbe; exact heo
 ·exact ⟨u,k b u hbe q⟩
end
noncomputable def trk (h:Heap) (H:Hp):List Addr:=(Z9 h.objs.size).filter λa=>(H a).isSome
noncomputable def hidT (h:Heap) (H:Hp):Heap:=PySem.W.hideAll h (trk h H)
theorem hidT_size (h:Heap) (H:Hp):(hidT h H).objs.size=h.objs.size:=PySem.W.hideAll_size _ _
theorem kh {h:Heap} {H:Hp} {b:Addr} {o:Obj} (e:h.get? b=some o) (n:H b=none):(hidT h H).get? b=some o :=
 PySem.W.hideAll_get _ e λhm=>by
  have q:(H b).isSome=true:=(X6.mp hm).2
  rw [n] at q; simp at q
theorem of_hidT {h:Heap} {H:Hp} {b:Addr} {o:Obj} (e:(hidT h H).get? b=some o):h.get? b=some o/\H b=none:=by
 have e':h.get? b=some o:=PySem.W.of_hideAll (trk h H) e
 refine ⟨e',?_⟩
 cases q:H b with
 | none=>rfl
 | some x =>
  have hm:b∈trk h H:=X6.mpr ⟨Q2.mpr (Y4 e'),by simp [q]⟩
  have z:(hidT h H).get? b=none:=PySem.W.hideAll_none (trk h H) hm
  rw [z] at e; cases e
end L2
namespace L2
open PySem PySem.Spec PyProof.Rows
structure Mod (K:Z0) (mg:Str->Option Value) (base:Heap):Prop where
 kin:K.In base
 glob:base.Ns U2 mg
 blt:∃ mb,base.Ns builtinsNs mb/\∀ x:Str,x≠"__name__"->mb x=Q8 x
 nolimit:base.NoLimit
structure Cx where
 prog:X5
 w:World
 K:Z0
 mg:Str->Option Value
 base:Heap
 A:Around
 N:List Str
 s₀:Shared
 H₀:Hp
 env:Env
 outer:List Env
 stack:List Env
 ex:List Addr
 fn:Str->Bool
 calm:Bool
 pn:List (Addr × Obj)
 xe:Value->Shared->Prop
noncomputable def frs (l:List Env):List Addr:=l.filterMap (·.frame)
noncomputable abbrev Cx.fs (X:Cx):List Addr:=frs X.outer
def Vis (sc:Scope) (x:Str):Prop:=sc.names.lookup x=some .local\/sc.names.lookup x=some .cell\/sc.names.lookup x=some .free
def Loc (sc:Scope) (x:Str):Prop:=sc.names.lookup x=some .local\/sc.names.lookup x=some .cell
noncomputable def Look (env:Env) (h:Heap) (m:Str->Option Value) (x:Str) (u:Value):Prop :=
 (env.kindOf x=some .local/\m x=some u)\/((env.kindOf x=some .cell\/env.kindOf x=some .free)/\∃ c,env.cells.lookup x=some c/\h.IsCell c (some u))
structure Cx.Ok (X:Cx):Prop where
 mod:Mod X.K X.mg X.base
 kind:X.env.scope.kind=.function
 glob:X.env.globals=U2
 blt:X.env.builtins=builtinsNs
 above:X.s₀.heap.objs.size<=X.env.locals
 inj:∀ x y c,X.env.cells.lookup x=some c->X.env.cells.lookup y=some c->x=y
 has:∀ x,(X.env.kindOf x=some .cell\/X.env.kindOf x=some .free)->∃ c,X.env.cells.lookup x=some c
 cab:∀ x c,X.fn x=true->X.env.cells.lookup x=some c->X.s₀.heap.objs.size<=c
 hd:X.calm=true->X.A.handled=none
 frames:X.A.frames=some X.stack
 stk:X.stack=X.outer\/(X.stack=X.env :: X.outer/\X.env.frame=some X.env.locals)
 exf:∀ b∈X.ex,b≠X.env.locals/\∀ x c,X.env.cells.lookup x=some c->c≠b
 bs:∀ b o,X.base.get? b=some o->X.s₀.heap.get? b=some o/\X.H₀ b=none
 bsz:X.base.objs.size<=X.s₀.heap.objs.size
 noex:∀ b o,X.base.get? b=some o->b ∉ X.ex
 exfs:∀ b∈X.ex,b ∉ X.fs
 funs:X.s₀.heap.FunFrames X.base X.outer
 frf:∀ b∈X.fs,X.H₀ b=none
structure Inv (X:Cx) (pins:List (Addr × Obj)) (σ:List (Option V)) (H:Hp) (s:Shared):Prop where
 ok:X.Ok
 os:s.os=X.s₀.os
 bare:AllBare s.gens
 base:Un X.fs X.ex X.H₀ H X.s₀.heap s.heap
 loc:∃ m,s.heap.Ns X.env.locals m/\∀ (i:Nat) (x:Str) (v:V),X.N[i]?=some x->σ[i]?=some (some v)->Vis X.env.scope x->∃ u,RelV v u/\Look X.env s.heap m x u
 cell:∀ x c,X.env.cells.lookup x=some c->∃ v,s.heap.IsCell c v
 free:H X.env.locals=none
 freeC:∀ x c,X.env.cells.lookup x=some c->H c=none
 pin:∀ p∈X.pn++pins,s.heap.get? p.1=some p.2/\H p.1=none/\p.1≠X.env.locals/\p.1 ∉ X.fs/\∀ v,p.2.data≠.cell v
 hok:HOk X.prog X.w H s.heap
 len:σ.length=X.N.length
section
variable {X:Cx} {pins:List (Addr × Obj)} {σ:List (Option V)} {H H':Hp} {s:Shared} {h':Heap}
theorem Cx.Ok.nofr (ok:X.Ok) {b:Addr} {o:Obj} (e:X.base.get? b=some o):b ∉ X.fs:=λhb=>by
 have:=(ok.funs.mem hb).1
 rw [e] at this; cases this
theorem Inv.bs (I:Inv X pins σ H s):∀ b o,X.base.get? b=some o->s.heap.get? b=some o/\H b=none:=λb o e =>
 ⟨I.base.keep b o (I.ok.bs b o e).1 (I.ok.bs b o e).2 (I.ok.nofr e) (I.ok.noex b o e),I.base.free b o (I.ok.bs b o e).1 (I.ok.bs b o e).2 (I.ok.noex b o e)⟩
theorem Inv.bk (I:Inv X pins σ H s):∀ b o,X.base.get? b=some o->s.heap.get? b=some o:=λb o e=>(I.bs b o e).1
theorem Inv.mod (I:Inv X pins σ H s):Mod X.K X.mg X.base:=I.ok.mod
theorem Inv.kIn (I:Inv X pins σ H s):X.K.In s.heap:=I.ok.mod.kin.keeps I.bk
theorem Inv.nolimit (I:Inv X pins σ H s):s.heap.NoLimit:=I.ok.mod.nolimit.keeps I.bk
theorem Inv.lt (I:Inv X pins σ H s):X.env.locals<s.heap.objs.size:=oq12 I.loc λx hn x=>hn.lt
theorem Inv.sz (I:Inv X pins σ H s):X.s₀.heap.objs.size<=s.heap.objs.size:=nz4 I.ok.above (nz5 I.lt)
theorem Inv.nofs (I:Inv X pins σ H s) {a:Addr} (h:s.heap.objs.size<=a):a ∉ X.fs:=λhb=>by
 refine oq02 (I.ok.funs.mem hb) λx zz=>oq12 zz λo ho x=>?_
 exact absurd (nz1 (Y4 ho) (nz4 I.sz h)) (Q7 _)
theorem Inv.cne (I:Inv X pins σ H s):∀ x c,X.env.cells.lookup x=some c->c≠X.env.locals:=λx c e z=>by
 refine oq22 (I.cell x c e) λv o ho hd=>?_
 obtain ⟨m,⟨o',es,ep,ho',hd',_⟩,_⟩:=I.loc
 rw [z,ho'] at ho; cases ho; rw [hd'] at hd; cases hd
theorem Inv.funs (I:Inv X pins σ H s):s.heap.FunFrames X.base X.outer:=by
 have all:∀ (l:List Env),(∀ b∈frs l,b∈X.fs)->X.s₀.heap.FunFrames X.base l->s.heap.FunFrames X.base l:=by
  intro l
  induction l with
  | nil=>intro _ _; trivial
  | cons env r ih =>
   intro hs hl
   obtain ⟨hk,⟨L,o,hf,hn,ho,hd⟩,hr⟩:=hl
   have hL:L∈X.fs:=hs L (by unfold frs; rw [List.filterMap_cons,hf]; exact V0)
   refine oq11 (I.base.slot L o ho (I.ok.frf L hL) hL λz=>I.ok.exfs L z hL) λsl e=>?_
   exact ⟨hk,⟨L,_,hf,hn,e,hd⟩,ih (λb hb=>hs b (by unfold frs; rw [List.filterMap_cons,hf]; exact X2 _ hb)) hr⟩
 exact all X.outer (λx hb=>hb) I.ok.funs
theorem Inv.stack (I:Inv X pins σ H s):s.heap.FunFrames X.base X.stack:=by
 rcases I.ok.stk with e | ⟨e,hf⟩
 ·rw [e]; exact I.funs
 ·rw [e]
  refine oq12 I.loc λm hn x=>?_
  refine .cons (by rw [I.ok.kind]; decide) hf hn ?_ I.funs
  exact Heap.get?_none_of_le (nz4 I.ok.bsz I.ok.above)
theorem Inv.stkSub (I:Inv X pins σ H s):∀ b∈frs X.stack,b∈X.env.locals :: X.fs:=λb hb=>by
 rcases I.ok.stk with e | ⟨e,hf⟩
 ·rw [e] at hb; exact X2 _ hb
 ·rw [e] at hb
  unfold frs at hb
  rw [List.filterMap_cons,hf] at hb
  exact hb
theorem Inv.stkFree (I:Inv X pins σ H s):∀ b∈frs X.stack,H b=none:=λb hb=>by
 rcases Z8.mp (I.stkSub b hb) with e | hb
 ·rw [e]; exact I.free
 ·refine oq02 (I.ok.funs.mem hb) λx zz=>oq12 zz λo ho x=>?_
  exact I.base.free b o ho (I.ok.frf b hb) λz=>I.ok.exfs b z hb
theorem Inv.step {g':Array GenState} {t':Nat} {d':Drawn} {ch:List Addr} (I:Inv X pins σ H s)
  (hch:∀ b∈ch,(b∈X.ex\/X.s₀.heap.objs.size<=b)/\b≠X.env.locals/\(∀ x c,X.env.cells.lookup x=some c->c≠b)/\∀ p∈X.pn++pins,p.1≠b)
  (keep:∀ b o,b≠X.env.locals->b ∉ X.fs->b ∉ ch->s.heap.get? b=some o->H b=none->h'.get? b=some o)
  (slot:∀ b o,b≠X.env.locals->b∈X.fs->b ∉ ch->s.heap.get? b=some o->H b=none->∃ sl,h'.get? b=some { o with slots:=sl }) (free:∀ b o,b ∉ ch->s.heap.get? b=some o->H b=none->H' b=none)
  (there:∀ b o,b ∉ ch->s.heap.get? b=some o->∃ o',h'.get? b=some o')
  (tups:∀ b xs,H b=some (.tup xs)->H' b=some (.tup xs)) (frzs:∀ b o u,H b=some (.frz o u)->H' b=some (.frz o u)) (tbls:∀ b ps,H b=some (.tbl ps)->∃ more,H' b=some (.tbl (ps++more)))
  (ns:∀ m,s.heap.Ns X.env.locals m->h'.Ns X.env.locals m) (hok:HOk X.prog X.w H' h') (hg:AllBare g') :
  Inv X pins σ H' { s with heap:=h',gens:=g',drawn:=d',toks:=t' }:=by
 have neL:∀ b o,X.s₀.heap.get? b=some o->b≠X.env.locals:=λb o e=>nz7 (nz1 (Y4 e) I.ok.above)
 have neC:∀ b o,X.s₀.heap.get? b=some o->b ∉ X.ex->b ∉ ch:=λb o e hx hb=>by
  rcases (hch b hb).1 with z | z
  ·exact hx z
  ·exact absurd (nz1 (Y4 e) z) (Q7 _)
 have cellK:∀ x c,X.env.cells.lookup x=some c->∀ v,s.heap.IsCell c v->h'.IsCell c v:=λx c e v zq=>oq12 zq λo ho hd=>by
  have nch:c ∉ ch:=λz=>(hch c z).2.2.1 x c e rfl
  by_cases hc:c∈X.fs
  ·refine oq11 (slot c o (I.cne x c e) hc nch ho (I.freeC x c e)) λsl q=>?_
   exact ⟨_,q,hd⟩
  ·exact ⟨o,keep c o (I.cne x c e) hc nch ho (I.freeC x c e),hd⟩
 refine ⟨I.ok,I.os,hg,⟨λb o e n hb hx=>?_,λb o e n hb hx=>?_,λb o e n hx=>?_,λb o e hx=>?_,λb xs e=>tups b xs (I.base.tups b xs e),λb o xs e=>frzs b o xs (I.base.frzs b o xs e),λb ps e=>?_⟩,?_,λx c e=>?_,?_,λx c e=>?_,λp hp=>?_,hok,I.len⟩
 ·exact keep b o (neL b o e) hb (neC b o e hx) (I.base.keep b o e n hb hx) (I.base.free b o e n hx)
 ·refine oq11 (I.base.slot b o e n hb hx) λsl e1=>?_
  refine oq11 (slot b _ (neL b o e) hb (neC b o e hx) e1 (I.base.free b o e n hx)) λsl' e2=>?_
  exact ⟨sl',e2⟩
 ·refine oq11 (I.base.there b o e hx) λo' e1=>?_
  exact free b o' (neC b o e hx) e1 (I.base.free b o e n hx)
 ·refine oq11 (I.base.there b o e hx) λo' e1=>?_
  exact there b o' (neC b o e hx) e1
 ·refine oq11 (I.base.tbls b ps e) λm1 e1=>?_
  refine oq11 (tbls b _ e1) λm2 e2=>?_
  exact ⟨m1++m2,by rw [e2,Array.append_assoc]⟩
 ·refine oq12 I.loc λm hn hl=>?_
  refine ⟨m,ns m hn,λi x v e1 e2 e3=>?_⟩
  refine oq12 (hl i x v e1 e2 e3) λu r l=>?_
  refine ⟨u,r,?_⟩
  rcases l with l | ⟨k,c,e,z⟩
  ·exact .inl l
  ·exact .inr ⟨k,c,e,cellK x c e _ z⟩
 ·refine oq11 (I.cell x c e) λv z=>?_
  exact ⟨v,cellK x c e v z⟩
 ·obtain ⟨m,⟨o,_,_,ho,_⟩,_⟩:=I.loc
  exact free _ o (λz=>(hch _ z).2.1 rfl) ho I.free
 ·refine oq22 (I.cell x c e) λv o ho hd=>?_
  exact free c o (λz=>(hch c z).2.2.1 x c e rfl) ho (I.freeC x c e)
 ·refine oq05 (I.pin p hp) λe n ne nf d=>?_
  have nch:p.1 ∉ ch:=λz=>(hch p.1 z).2.2.2 p hp rfl
  exact ⟨keep p.1 p.2 ne nf nch e n,free p.1 p.2 nch e n,ne,nf,d⟩
theorem Inv.un {t':Nat} (I:Inv X pins σ H s) (u:Un X.fs [] H H' s.heap h') (hok:HOk X.prog X.w H' h'):Inv X pins σ H' { s with heap:=h',toks:=t' }:=by
 obtain ⟨m,⟨o,es,ep,ho,r⟩,_⟩:=id I.loc
 refine oq11 (u.any ho I.free (by simp)) λsl hL=>?_
 exact I.step (g':=s.gens) (d':=s.drawn) (ch:=[]) (λx z=>nomatch z) (λb o x hb x e n=>u.keep b o e n hb (by simp)) (λb o x hb x e n=>u.slot b o e n hb (by simp)) (λb o x e n=>u.free b o e n (by simp)) (λb o x e=>u.there b o e (by simp)) u.tups u.frzs u.tbls (λm' hm=>by
  refine oq32 hm λo' es' ep' ho' r'=>?_
  rw [ho] at ho'; cases ho'
  exact ⟨_,es',ep',hL,r'⟩) hok I.bare
theorem Inv.call {g':Array GenState} {t':Nat} {d':Drawn} {ch:List Addr} (I:Inv X pins σ H s) (u:Un (frs X.stack) ch H H' s.heap h') (hok:HOk X.prog X.w H' h') (hg:AllBare g')
  (hch:∀ b∈ch,(b∈X.ex\/X.s₀.heap.objs.size<=b)/\b≠X.env.locals/\(∀ x c,X.env.cells.lookup x=some c->c≠b)/\∀ p∈X.pn++pins,p.1≠b) :
  Inv X pins σ H' { s with heap:=h',gens:=g',drawn:=d',toks:=t' }:=by
 obtain ⟨m,⟨o,es,ep,ho,r⟩,_⟩:=id I.loc
 refine oq11 (u.any ho I.free λz=>(hch _ z).2.1 rfl) λsl hL=>?_
 exact I.step (ch:=ch) hch (λb o hL hb hc e n=>u.keep b o e n (λz=>(Z8.mp (I.stkSub b z)).elim hL hb) hc) (λb o a a hc e n=>u.any e n hc) (λb o hc e n=>u.free b o e n hc) (λb o hc e=>u.there b o e hc) u.tups u.frzs u.tbls (λm' hm=>by
  refine oq32 hm λo' es' ep' ho' r'=>?_
  rw [ho] at ho'; cases ho'
  exact ⟨_,es',ep',hL,r'⟩) hok hg
theorem Inv.turned {t':Nat} {it:Addr} (I:Inv X pins σ H s) (k:∀ b o,b≠it->s.heap.get? b=some o->h'.get? b=some o) (hn:H it=none) (hL:it≠X.env.locals)
  (h1:it∈X.ex\/X.s₀.heap.objs.size<=it) (h2:∀ x c,X.env.cells.lookup x=some c->c≠it) (h3:∀ p∈X.pn++pins,p.1≠it):Inv X pins σ H { s with heap:=h',toks:=t' }:=by
 have nit:∀ b u,H b=some u->b≠it:=λb u e z=>by rw [z,hn] at e; cases e
 refine I.step (g':=s.gens) (d':=s.drawn) (ch:=[it]) (λb hb=>?_) (λb o a a hc e a=>k b o (λz=>hc (by simp [z])) e) (λb o a a hc e a=>⟨o.slots,k b o (λz=>hc (by simp [z])) e⟩) (λa a a a n=>n)
  (λb o hc e=>⟨o,k b o (λz=>hc (by simp [z])) e⟩) (λa a e=>e) (λa a a e=>e) (λb ps e=>⟨#[],by rw [e]; simp⟩) (λm hm=>?_) (λb u e=>?_) I.bare
 ·have e:b=it:=by simpa using hb
  subst e
  exact ⟨h1,hL,h2,h3⟩
 ·refine oq32 hm λo es ep ho r=>?_
  exact ⟨o,es,ep,k _ o (T9 hL) ho,r⟩
 ·refine (I.hok b u e).stay (λc v hc q=>k c v ?_ q) (λa q=>q) λa a q=>q
  rcases hc with z | z
  ·rw [z]; exact nit b u e
  ·exact nit c _ z
theorem Inv.tok (I:Inv X pins σ H s) (t:Nat):Inv X pins σ H { s with toks:=t }:=I.un (h':=s.heap) (t':=t) Un.refl I.hok
theorem Inv.kept {t':Nat} (I:Inv X pins σ H s) (k:∀ b u,s.heap.get? b=some u->h'.get? b=some u):Inv X pins σ H { s with heap:=h',toks:=t' }:=I.un (Un.kept k) (I.hok.kept k)
theorem Inv.laid {a:Addr} {o:HO} {t':Nat} (I:Inv X pins σ H s) (k:∀ b u,s.heap.get? b=some u->h'.get? b=some u) (hp:s.heap.objs.size<=a) (new:bS X.prog X.w (upd H a o) h' a o) :
  Inv X pins σ (upd H a o) { s with heap:=h',toks:=t' }:=I.un (Un.laid k hp (I.hok.fresh hp)) (I.hok.laid k hp new)
theorem Inv.write {x e:Addr} {o:HO} {t':Nat} (I:Inv X pins σ H s) (mu:Mut (H x)) (he:e=x\/H e=some (.own x)) (k:∀ b u,b≠e->s.heap.get? b=some u->h'.get? b=some u) (heo:∃ u,h'.get? e=some u)
  (new:bS X.prog X.w (upd H x o) h' x o):Inv X pins σ (upd H x o) { s with heap:=h',toks:=t' }:=I.un (Un.write mu he k heo) (I.hok.write mu he k heo new)
theorem Inv.weak {σ':List (Option V)} (I:Inv X pins σ H s) (hl:σ'.length=σ.length) (w:∀ (i:Nat) v,σ'[i]?=some (some v)->σ[i]?=some (some v)):Inv X pins σ' H s :=
 ⟨I.ok,I.os,I.bare,I.base,oq12 I.loc λm hn hl'=>⟨m,hn,λi x v e1 e2 e3=>hl' i x v e1 (w i v e2) e3⟩,I.cell,I.free,I.freeC,I.pin,I.hok,hl.trans I.len⟩
theorem Inv.pins_of {pins':List (Addr × Obj)} (I:Inv X pins σ H s) (h:∀ p∈pins',s.heap.get? p.1=some p.2/\H p.1=none/\p.1≠X.env.locals/\p.1 ∉ X.fs/\∀ v,p.2.data≠.cell v):Inv X pins' σ H s :=
 ⟨I.ok,I.os,I.bare,I.base,I.loc,I.cell,I.free,I.freeC,λp hp=>(Y7.mp hp).elim (λz=>I.pin p (S6 _ z)) (h p),I.hok,I.len⟩
theorem o9 {N:List Str} (hN:N.Nodup) {i j:Nat} {x:Str} (a:N[i]?=some x) (b:N[j]?=some x):i=j:=by
 obtain ⟨h1,e1⟩:=Z1.mp a
 obtain ⟨h2,e2⟩:=Z1.mp b
 exact (C7 hN).mp (e1.trans e2.symm)
theorem lU {M:Model} {A:Around} {E:Value->Shared->Prop} {i:Nat} {x:Str} {v:V} {u:Value} {Q:Unit->Shared->Prop} (I:Inv X pins σ H s) (hN:X.N.Nodup) (hi:X.N[i]?=some x) (hx:Loc X.env.scope x) (r:RelV v u)
  (h:∀ s',Inv X pins (σ.set i (some v)) H s'->(∃ a,Heap.SameBut a s.heap s'.heap/\(a=X.env.locals\/X.env.cells.lookup x=some a))->Q () s') (hf:X.fn x=true\/X.env.scope.names.lookup x=some .local:=by first | exact .inl rfl | exact .inr rfl | assumption):wpAny M A (storeName X.env x u) Q E s:=by
 refine oq12 (id I.loc) λm hn hl=>?_
 have hcls:(X.env.scope.kind == .class || (X.env.scope.kind == .module && X.env.locals != X.env.globals))=false:=by rw [I.ok.kind]; rfl
 have hiσ:i<σ.length:=by rw [I.len]; exact (Z1.mp hi).1
 have cne:=I.cne
 have tracked:∀ {a:Addr} {h':Heap},(∃ o,s.heap.get? a=some o/\H a=none)->Heap.SameBut a s.heap h'->HOk X.prog X.w H h':=λ{a h'} ha hs b ob e=>by
  refine oq12 ha λt t hfree=>?_
  refine (I.hok b ob e).stay (λc w' hc q=>(hs.2 c ?_).trans q) (λt q=>q) λt t q=>q
  rintro rfl
  rcases hc with rfl | hc
  ·rw [hfree] at e; cases e
  ·rw [hfree] at hc; cases hc
 rcases hx with hk | hk
 ·refine wpAny_storeName_local hk hn (λh' hn' hs=>?_) hcls
  refine oq32 (id hn) λoL t t hoL t=>?_
  refine h _ ⟨I.ok,I.os,I.bare,⟨λb o e n hb hx=>?_,λb o e n hb hx=>?_,I.base.free,λb o e hx=>?_,I.base.tups,I.base.frzs,I.base.tbls⟩,⟨_,hn',λj y v' e1 e2 e3=>?_⟩,λy c e=>?_,I.free,I.freeC,λp hp=>?_,tracked ⟨oL,hoL,I.free⟩ hs,by simpa using I.len⟩ ⟨_,hs,.inl rfl⟩
  ·exact (hs.2 b (nz7 (nz1 (Y4 e) I.ok.above))).trans (I.base.keep b o e n hb hx)
  ·refine oq11 (I.base.slot b o e n hb hx) λsl e1=>?_
   exact ⟨sl,(hs.2 b (nz7 (nz1 (Y4 e) I.ok.above))).trans e1⟩
  ·refine oq11 (I.base.there b o e hx) λo' e1=>?_
   exact ⟨o',(hs.2 b (nz7 (nz1 (Y4 e) I.ok.above))).trans e1⟩
  ·by_cases hj:j=i
   ·subst hj
    rw [hi] at e1; cases e1
    rw [L7 hiσ] at e2
    cases e2
    exact ⟨u,r,.inl ⟨hk,by simp⟩⟩
   ·rw [J9 (T9 hj)] at e2
    refine oq12 (hl j y v' e1 e2 e3) λu' r' q=>?_
    refine ⟨u',r',?_⟩
    rcases q with ⟨k,e⟩ | ⟨k,c,e,z⟩
    ·refine .inl ⟨k,?_⟩
     have:y≠x:=λe=>hj (o9 hN e1 (e ▸ hi))
     simp [this,e]
    ·exact .inr ⟨k,c,e,z.sameBut hs (cne y c e)⟩
  ·refine oq11 (I.cell y c e) λw' z=>?_
   exact ⟨w',z.sameBut hs (cne y c e)⟩
  ·refine oq05 (I.pin p hp) λe n ne nf d=>?_
   exact ⟨(hs.2 p.1 ne).trans e,n,ne,nf,d⟩
 ·have hfn:X.fn x=true:=by
   rcases hf with z | z
   ·exact z
   ·rw [z] at hk; cases hk
  refine oq11 (I.ok.has x (.inl hk)) λc hc=>?_
  refine oq11 (I.cell x c hc) λw' z=>?_
  refine wpAny_storeName_cell I.ok.kind hk hc z (λh' hc' hs=>?_)
  refine oq12 (id z) λoc hoc hocd=>?_
  refine h { s with heap:=h' } ⟨I.ok,I.os,I.bare,⟨λb o e n hb hx=>?_,λb o e n hb hx=>?_,I.base.free,λb o e hx=>?_,I.base.tups,I.base.frzs,I.base.tbls⟩,⟨m,hn.sameBut hs (T9 (cne x c hc)),λj y v' e1 e2 e3=>?_⟩,λy c' e=>?_,I.free,I.freeC,λp hp=>?_,tracked ⟨oc,hoc,I.freeC x c hc⟩ hs,by simpa using I.len⟩ ⟨c,hs,.inr hc⟩
  ·exact (hs.2 b (nz7 (nz1 (Y4 e) (I.ok.cab x c hfn hc)))).trans (I.base.keep b o e n hb hx)
  ·refine oq11 (I.base.slot b o e n hb hx) λsl e1=>?_
   exact ⟨sl,(hs.2 b (nz7 (nz1 (Y4 e) (I.ok.cab x c hfn hc)))).trans e1⟩
  ·refine oq11 (I.base.there b o e hx) λo' e1=>?_
   exact ⟨o',(hs.2 b (nz7 (nz1 (Y4 e) (I.ok.cab x c hfn hc)))).trans e1⟩
  ·by_cases hj:j=i
   ·subst hj
    rw [hi] at e1; cases e1
    rw [L7 hiσ] at e2
    cases e2
    exact ⟨u,r,.inr ⟨.inl hk,c,hc,hc'⟩⟩
   ·rw [J9 (T9 hj)] at e2
    refine oq12 (hl j y v' e1 e2 e3) λu' r' q=>?_
    refine ⟨u',r',?_⟩
    rcases q with q | ⟨k,c',e,z'⟩
    ·exact .inl q
    ·refine .inr ⟨k,c',e,z'.sameBut hs ?_⟩
     rintro rfl
     exact hj (o9 hN e1 (I.ok.inj _ _ _ e hc ▸ hi))
  ·by_cases hcc:c'=c
   ·subst hcc; exact ⟨_,hc'⟩
   ·refine oq11 (I.cell y c' e) λw2 z2=>?_
    exact ⟨w2,z2.sameBut hs hcc⟩
  ·refine oq05 (I.pin p hp) λe n ne nf d=>?_
   refine ⟨(hs.2 p.1 ?_).trans e,n,ne,nf,d⟩
   intro q
   rw [q,hoc] at e
   have q':oc=p.2:=Z3 e
   exact d w' (by rw [<- q']; exact hocd)
theorem og {M:Model} {A:Around} {E:Value->Shared->Prop} {i:Nat} {x:Str} {v:V} {u:Value} {Q:Unit->Shared->Prop} (I:Inv X pins σ H s) (hN:X.N.Nodup) (hi:X.N[i]?=some x) (hx:Loc X.env.scope x) (r:RelV v u)
  (h:∀ s',Inv X pins (σ.set i (some v)) H s'->Q () s') (hf:X.fn x=true\/X.env.scope.names.lookup x=some .local:=by first | exact .inl rfl | exact .inr rfl | assumption):wpAny M A (storeName X.env x u) Q E s :=
 lU I hN hi hx r (λs' I' a=>h s' I') hf
theorem Inv.call' {s':Shared} {ch:List Addr} (I:Inv X pins σ H s) (ho:s'.os=s.os) (u:Un (frs X.stack) ch H H' s.heap s'.heap) (hok:HOk X.prog X.w H' s'.heap) (hg:AllBare s'.gens)
  (hch:∀ b∈ch,(b∈X.ex\/X.s₀.heap.objs.size<=b)/\b≠X.env.locals/\(∀ x c,X.env.cells.lookup x=some c->c≠b)/\∀ p∈X.pn++pins,p.1≠b):Inv X pins σ H' s':=by
 obtain ⟨h',g',d',t',o'⟩:=s'
 have e:o'=s.os:=ho
 subst e
 exact I.call (g':=g') (t':=t') (d':=d') u hok hg hch
end
noncomputable abbrev XK:=Value->Option Addr->Hp->Prop
noncomputable abbrev St:=List (Option V)
noncomputable abbrev VK:=V->Hp->Prop
noncomputable abbrev TE:=St->Hp->VK->Prop
noncomputable abbrev TT:=St->Hp->(Bool->Hp->Prop)->Prop
noncomputable abbrev TA:=St->Hp->(List V->Hp->Prop)->Prop
structure Ends where
 nx:St->Hp->Prop
 rt:VK
 bk:St->Hp->Prop:=λx x=>False
 ct:St->Hp->Prop:=λx x=>False
noncomputable abbrev TS:=Ends->St->Hp->Prop
def EP (X:Cx) (pins:List (Addr × Obj)) (σ:St) (Q:VK) (u:Value) (s':Shared):Prop:=∃ v H',Inv X pins σ H' s'/\RelV v u/\Q v H'
def TP (X:Cx) (pins:List (Addr × Obj)) (σ:St) (Q:Bool->Hp->Prop) (b:Bool) (s':Shared):Prop:=∃ H',Inv X pins σ H' s'/\Q b H'
def AP (X:Cx) (pins:List (Addr × Obj)) (σ:St) (Q:List V->Hp->Prop) (us:List Value) (s':Shared):Prop:=∃ vs H',Inv X pins σ H' s'/\Vals vs us/\Q vs H'
noncomputable def SP (X:Cx) (pins:List (Addr × Obj)) (D:Ends) (f:Flow) (s':Shared):Prop :=
 match f with
 | .next=>∃ σ' H',Inv X pins σ' H' s'/\D.nx σ' H'
 | .brk=>∃ σ' H',Inv X pins σ' H' s'/\D.bk σ' H'
 | .cont=>∃ σ' H',Inv X pins σ' H' s'/\D.ct σ' H'
 | .ret u=>∃ v σ' H',Inv X pins σ' H' s'/\RelV v u/\D.rt v H'
noncomputable def PE (X:Cx) (e:Expr) (t:TE):Prop :=
 ∀ (pins:List (Addr × Obj)) (s:Shared) (σ:St) (H:Hp) (Q:VK),Inv X pins σ H s->t σ H Q->wpAny (model X.prog X.w) X.A (eval e X.env) (EP X pins σ Q) X.xe s
noncomputable def PT (X:Cx) (e:Expr) (t:TT):Prop :=
 ∀ (pins:List (Addr × Obj)) (s:Shared) (σ:St) (H:Hp) (Q:Bool->Hp->Prop),Inv X pins σ H s->t σ H Q->wpAny (model X.prog X.w) X.A (isTrue e X.env (eval e X.env)) (TP X pins σ Q) X.xe s
noncomputable def PW (X:Cx) (e:Expr) (t:TT):Prop :=
 ∀ (whole:Sem Value) (pins:List (Addr × Obj)) (s:Shared) (σ:St) (H:Hp) (Q:Bool->Hp->Prop),Inv X pins σ H s->t σ H Q->wpAny (model X.prog X.w) X.A (isTrue e X.env whole) (TP X pins σ Q) X.xe s
theorem PW.pt {X:Cx} {e:Expr} {t:TT} (h:PW X e t):PT X e t:=h _
noncomputable def PA (X:Cx) (es:List Expr) (t:TA):Prop :=
 ∀ (pos:Pos) (pins:List (Addr × Obj)) (s:Shared) (σ:St) (H:Hp) (Q:List V->Hp->Prop),Inv X pins σ H s->t σ H Q->wpAny (model X.prog X.w) X.A (spliced (backTo pos (Y9 es X.env))) (AP X pins σ Q) X.xe s
noncomputable def PS (X:Cx) (st:Stmt) (t:TS):Prop :=
 ∀ (pins:List (Addr × Obj)) (s:Shared) (σ:St) (H:Hp) (D:Ends),Inv X pins σ H s->t D σ H->wpAny (model X.prog X.w) X.A (exec st X.env) (SP X pins D) X.xe s
noncomputable def PSs (X:Cx) (st:List Stmt) (t:TS):Prop :=
 ∀ (pins:List (Addr × Obj)) (s:Shared) (σ:St) (H:Hp) (D:Ends),Inv X pins σ H s->t D σ H->wpAny (model X.prog X.w) X.A (execs st X.env) (SP X pins D) X.xe s
theorem thn {α:Type} {t:Sem α} {Q Q':α->Shared->Prop} {M:Model} {A:Around} {E:Value->Shared->Prop} {s:Shared} (h:wpAny M A t Q E s) (hQ:∀ a s,Q a s->Q' a s):wpAny M A t Q' E s:=T0 h hQ λb b x=>x
end L2
namespace L2
open PySem PySem.Spec PyProof.Rows
section
variable {X:Cx}
def tVar (i:Nat):TE:=λσ H Q=>∃ v,σ[i]?=some (some v)/\Q v H
def tC (v:V):TE:=λx H Q=>Q v H
theorem pe_var {i:Nat} {x:Str} {pos:Pos} (hN:X.N[i]?=some x) (hv:Vis X.env.scope x) (hd:autoParam ((x == ("__debug__":Str))=false) L2.a0q._auto_1) (hcd:autoParam ((x == ("__classdict__":Str))=false) L2.a0q._auto_1):PE X (.Name x pos) (tVar i):=by
 intro pins s σ H Q I h
 refine oq12 h λv e h=>?_
 refine oq12 I.loc λm hn hl=>?_
 refine oq12 (hl i x v hN e hv) λu r l=>?_
 have fin:EP X pins σ Q u s:=⟨v,H,I,r,h⟩
 rcases l with ⟨hk,hm⟩ | ⟨hk,c,hc,hcell⟩
 ·exact wpAny_Name (wpAny_loadName_local I.ok.kind hk hn hm fin) hd
 ·rcases hk with hk | hk
  ·exact wpAny_Name (wpAny_loadName_cell I.ok.kind hk hc hcell fin) hd
  ·exact wpAny_Name (wpAny_loadName_free I.ok.kind hk hc hcell fin hcd) hd
theorem af {i j pos}:PE X (.Constant (.int i) j pos) (tC (.int i)):=λx x x H x I h=>wpAny_Constant_int ⟨.int i,H,I.tok _,⟨_,rfl⟩,h⟩
theorem pe_bl {b j pos}:PE X (.Constant (.bool b) j pos) (tC (.bl b)):=λx x x H x I h=>Constant_bool ⟨.bl b,H,I,rfl,h⟩
theorem ck {j pos}:PE X (.Constant .none j pos) (tC .non):=λx x x H x I h=>Constant_none ⟨.non,H,I,rfl,h⟩
def Gl (X:Cx) (x:Str):Prop:=X.env.kindOf x=some .globalImplicit
theorem ld_glob {E:Value->Shared->Prop} {pins:List (Addr × Obj)} {s:Shared} {σ:St} {H:Hp} {x:Str} {u:Value} {pos:Pos} {Q:Value->Shared->Prop} (I:Inv X pins σ H s) (hg:Gl X x) (hm:X.mg x=some u) (h:Q u s)
  (hd:autoParam ((x == ("__debug__":Str))=false) L2.a0q._auto_1):wpAny (model X.prog X.w) X.A (eval (.Name x pos) X.env) Q E s :=
 Calls.Name_function_global I.ok.kind hg (Calls.loadGlobal_global (by rw [I.ok.glob]; exact I.mod.glob.keeps I.bk) hm h) hd
theorem fL {E:Value->Shared->Prop} {pins:List (Addr × Obj)} {s:Shared} {σ:St} {H:Hp} {x:Str} {u:Value} {pos:Pos} {Q:Value->Shared->Prop} (I:Inv X pins σ H s) (hg:Gl X x) (hm:X.mg x=none) (hv:Q8 x=some u) (h:Q u s)
  (hn:autoParam (x≠"__name__") L2.a0q._auto_1) (hd:autoParam ((x == ("__debug__":Str))=false) L2.a0q._auto_1):wpAny (model X.prog X.w) X.A (eval (.Name x pos) X.env) Q E s:=by
 refine oq12 I.mod.blt λmb h1 h2=>?_
 exact Calls.Name_function_global I.ok.kind hg (Calls.loadGlobal_builtin (by rw [I.ok.glob]; exact I.mod.glob.keeps I.bk) hm (by rw [I.ok.blt]; exact h1.keeps I.bk) ((h2 x hn).trans hv) h) hd
variable {a b:Expr} {ta tb:TE} {pos:Pos}
noncomputable def PC (X:Cx) (op:CmpOp) (a b:Expr) (t:TE):Prop :=
 ∀ (pins:List (Addr × Obj)) (s:Shared) (σ:St) (H:Hp) (Q:VK),Inv X pins σ H s->t σ H Q ->
  wpAny (model X.prog X.w) X.A (eval a X.env) (λv s₁=>wpAny (model X.prog X.w) X.A (eval b X.env) (λu s₂=>wpAny (model X.prog X.w) X.A (U8 op v u) (EP X pins σ Q) X.xe s₂) X.xe s₁) X.xe s
def tB (t:TE):TT:=λσ H Q=>t σ H λx H1=>∃ c,x=.bl c/\Q c H1
theorem pt_cmp {op:CmpOp} {t:TE} (h:PC X op a b t) (h1:B6 op b=false:=by first | exact nobehind _ (by decide) (by decide) | rfl):PT X (.Compare a [op] [b] pos) (tB t):=by
 intro pins s σ H Q I hw
 refine wpAny_isTrue_Compare1 (thn (h pins s σ H _ I hw) λv s1 h1=>thn h1 λu s2 h2=>thn h2 λc s3 zq=>oq23 zq λx H1 I1 r1 q1=>?_) h1
 refine oq12 q1 λd eq1_ q=>?_; subst eq1_
 cases r1
 exact R8 ⟨H1,I1,q⟩
theorem mK {e:Expr} {t:TE} (h:PE X e t) (he:autoParam (∀ whole,isTrue e X.env whole=(do let v <- whole; standAt e.pos; holding [v] (truthy v))) L2.a1q._auto_1):PT X e (tB t):=by
 intro pins s σ H Q I hw
 refine isTrue_plain (thn (h pins s σ H _ I hw) λv s1 zq=>oq23 zq λx H1 I1 r1 q1=>?_) (he _)
 refine oq12 q1 λd eq1_ q=>?_; subst eq1_
 cases r1
 exact R8 ⟨H1,I1,q⟩
variable {tA tB':TT} {rest:List Expr}
def tAnd (t u:TT):TT:=λσ H Q=>t σ H λc H1=>if c=true then u σ H1 Q else Q false H1
def tOr (t u:TT):TT:=λσ H Q=>t σ H λc H1=>if c=true then Q true H1 else u σ H1 Q
def tNot (t:TT):TT:=λσ H Q=>t σ H λc H1=>Q (!c) H1
theorem iw (ha:PT X a tA):PW X (.BoolOp .And [a] pos) tA:=by
 intro wh pins s σ H Q I h
 refine isTrue_and (thn (ha pins s σ H Q I h) λc s1 e=>?_)
 cases c with
 | true=>exact isTrue_and_nil e
 | false=>exact e
theorem pw_or1 (ha:PT X a tA):PW X (.BoolOp .Or [a] pos) tA:=by
 intro wh pins s σ H Q I h
 refine isTrue_or (thn (ha pins s σ H Q I h) λc s1 e=>?_)
 cases c with
 | false=>exact isTrue_or_nil e
 | true=>exact e
theorem ki (ha:PT X a tA) (hb:PW X (.BoolOp .And (b :: rest) pos) tB'):PW X (.BoolOp .And (a :: b :: rest) pos) (tAnd tA tB'):=by
 intro wh pins s σ H Q I h
 refine isTrue_and (thn (ha pins s σ H _ I h) λc s1 zq=>oq12 zq λH1 I1 q1=>?_)
 cases c with
 | true=>exact hb wh pins s1 σ H1 Q I1 q1
 | false=>exact ⟨H1,I1,q1⟩
theorem pw_or (ha:PT X a tA) (hb:PW X (.BoolOp .Or (b :: rest) pos) tB'):PW X (.BoolOp .Or (a :: b :: rest) pos) (tOr tA tB'):=by
 intro wh pins s σ H Q I h
 refine isTrue_or (thn (ha pins s σ H _ I h) λc s1 zq=>oq12 zq λH1 I1 q1=>?_)
 cases c with
 | true=>exact ⟨H1,I1,q1⟩
 | false=>exact hb wh pins s1 σ H1 Q I1 q1
theorem pt_not (ha:PT X a tA):PT X (.UnaryOp .Not a pos) (tNot tA):=by
 intro pins s σ H Q I h
 exact isTrue_not (ha pins s σ H (λc H1=>Q (!c) H1) I h)
def tAndV (ta tb:TE):TE:=λσ H Q=>ta σ H λx H1=>∃ c,x=.bl c/\if c=true then tb σ H1 Q else Q (.bl false) H1
theorem pe_one {op} {t:TE} (h:PE X a t):PE X (.BoolOp op [a] pos) t:=λpins s σ H Q I hw=>BoolOp_one (h pins s σ H Q I hw)
theorem pe_and (ha:PE X a ta) (hb:PE X (.BoolOp .And (b :: rest) pos) tb):PE X (.BoolOp .And (a :: b :: rest) pos) (tAndV ta tb):=by
 intro pins s σ H Q I h
 refine BoolOp_and (thn (ha pins s σ H _ I h) λv s1 ⟨x,H1,I1,r1,q1⟩=>?_)
 obtain ⟨c,rfl,q1⟩:=q1
 cases r1
 refine R8 ?_
 cases c with
 | true=>exact hb pins s1 σ H1 Q I1 q1
 | false=>exact ⟨.bl false,H1,I1,rfl,q1⟩
def tIf (t:TT) (ta tb:TE):TE:=λσ H Q=>t σ H λc H1=>if c=true then ta σ H1 Q else tb σ H1 Q
theorem kj {c:Expr} (hc:PT X c tA) (ha:PE X a ta) (hb:PE X b tb):PE X (.IfExp c a b pos) (tIf tA ta tb):=by
 intro pins s σ H Q I h
 refine wpAny_IfExp (thn (hc pins s σ H _ I h) λd s1 zq=>oq12 zq λH1 I1 q1=>?_)
 cases d with
 | true=>exact ha pins s1 σ H1 Q I1 q1
 | false=>exact hb pins s1 σ H1 Q I1 q1
end
end L2
namespace L2
open PySem PySem.Spec PyProof.Rows
noncomputable def SqL (K:Z0) (H:Hp) (a:Addr) (xs:List V):Prop :=
 Rd H a (.lst xs) \/
  ∃ (o:Obj) (its:Array Value) (n:Nat),K.lookup a=some o/\o.cls=.type "list"/\o.dict=none/\o.data=.seq its n/\its.size<=X7/\Vals xs its.toList
noncomputable def SqT (K:Z0) (H:Hp) (a:Addr) (xs:List V):Prop :=
 Rd H a (.tup xs) \/
  ∃ (o:Obj) (its:Array Value) (n:Nat),K.lookup a=some o/\o.cls=.type "tuple"/\o.data=.seq its n/\its.size<=X7/\Vals xs its.toList
noncomputable def absV:Value->Option V
 | .none=>some .non
 | .bool b=>some (.bl b)
 | .int i _=>some (.int i)
 | .str x _=>some (.str x)
 | .bytes b _=>some (.byt b)
 | .float b _=>some (.flt b)
 | .ref a=>some (.ref a)
 | .type n=>some (.ty n)
 | _=>none
theorem RelV.abs {x:V} {u:Value} (r:RelV x u):absV u=some x:=by
 cases x with
 | non=>cases r; rfl
 | bl _=>cases r; rfl
 | int _=>refine oq11 r λt eq1_=>?_; subst eq1_; rfl
 | str _=>refine oq11 r λt eq1_=>?_; subst eq1_; rfl
 | byt _=>refine oq11 r λt eq1_=>?_; subst eq1_; rfl
 | flt _=>refine oq11 r λt eq1_=>?_; subst eq1_; rfl
 | ref _=>cases r; rfl
 | ty _=>cases r; rfl
theorem RelV.inj {x y:V} {u:Value} (r:RelV x u) (q:RelV y u):x=y:=Z3 (r.abs.symm.trans q.abs)
theorem Vals.inj:∀ {xs ys:List V} {us:List Value},Vals xs us->Vals ys us->xs=ys:=λ{xs ys us} p q=>by
 induction p generalizing ys with
 | nil=>cases q; rfl
 | cons r t ih =>
  cases q with
  | cons r' t'=>rw [r.inj r',ih t']
section
variable {X:Cx} {pins:List (Addr × Obj)} {σ:St} {H:Hp} {s:Shared} {a:Addr} {xs ys:List V}
theorem SqL.of {K:Z0} (h:H a=some (.lst xs)):SqL K H a xs:=.inl (.inl h)
theorem SqT.of {K:Z0} (h:H a=some (.tup xs)):SqT K H a xs:=.inl (.inl h)
theorem Inv.list (I:Inv X pins σ H s) (h:SqL X.K H a xs):∃ its:List Value,Vals xs its/\PlainL s.heap a its.toArray/\xs.length<=X7:=by
 rcases h with h | ⟨o,its,n,hk,hc,hd,hs,hz,r⟩
 ·refine oq02 (h.ok I.hok) λz zz=>oq22 zz λits n r e=>?_
  exact ⟨its,r,⟨_,n,e,rfl,rfl,rfl⟩,z⟩
 ·refine ⟨its.toList,r,⟨o,n,I.kIn a o hk,hc,hd,by simpa using hs⟩,?_⟩
  have e:=r.length
  simp only [P0] at e
  lia
theorem Inv.tuple (I:Inv X pins σ H s) (h:SqT X.K H a xs):∃ its:List Value,Vals xs its/\IsTup s.heap a its.toArray/\xs.length<=X7:=by
 rcases h with h | ⟨o,its,n,hk,hc,hs,hz,r⟩
 ·refine oq02 (h.ok I.hok) λz zz=>oq12 zz λits r p=>?_
  exact ⟨its,r,p,z⟩
 ·refine ⟨its.toList,r,⟨o,I.kIn a o hk,hc,n,by simpa using hs⟩,?_⟩
  have e:=r.length
  simp only [P0] at e
  omega
theorem Inv.list_inj (I:Inv X pins σ H s) (h:SqL X.K H a xs) (h':SqL X.K H a ys):xs=ys:=by
 obtain ⟨its,r,⟨o,n,e,_,_,d⟩,_⟩:=I.list h
 obtain ⟨its',r',⟨o',n',e',_,_,d'⟩,_⟩:=I.list h'
 rw [e] at e'; cases e'
 rw [d] at d'
 injection d' with d1 _
 have:its=its':=by simpa using congrArg Array.toList d1
 subst this
 exact r.inj r'
end
noncomputable abbrev Cx.wish (X:Cx) (E:Value->Shared->Prop):Cx:={ X with xe:=E }
noncomputable abbrev Cx.nox (X:Cx):Cx:=X.wish λx x=>False
theorem Cx.Ok.wish {X:Cx} (ok:X.Ok) (E:Value->Shared->Prop):(X.wish E).Ok :=
 ⟨ok.mod,ok.kind,ok.glob,ok.blt,ok.above,ok.inj,ok.has,ok.cab,ok.hd,ok.frames,ok.stk,ok.exf,ok.bs,ok.bsz,ok.noex,ok.exfs,ok.funs,ok.frf⟩
theorem Cx.Ok.unwish {X:Cx} {E:Value->Shared->Prop} (ok:(X.wish E).Ok):X.Ok :=
 ⟨ok.mod,ok.kind,ok.glob,ok.blt,ok.above,ok.inj,ok.has,ok.cab,ok.hd,ok.frames,ok.stk,ok.exf,ok.bs,ok.bsz,ok.noex,ok.exfs,ok.funs,ok.frf⟩
section
variable {X:Cx} {pins:List (Addr × Obj)} {σ:St} {H:Hp} {s:Shared} {E:Value->Shared->Prop}
theorem Inv.wish (I:Inv X pins σ H s) (E:Value->Shared->Prop):Inv (X.wish E) pins σ H s:=⟨I.ok.wish E,I.os,I.bare,I.base,I.loc,I.cell,I.free,I.freeC,I.pin,I.hok,I.len⟩
theorem Inv.unwish (I:Inv (X.wish E) pins σ H s):Inv X pins σ H s:=⟨I.ok.unwish,I.os,I.bare,I.base,I.loc,I.cell,I.free,I.freeC,I.pin,I.hok,I.len⟩
theorem SP.unwish {D:Ends} {f:Flow} {s':Shared} (h:SP (X.wish E) pins D f s'):SP X pins D f s':=by
 cases f with
 | next=>refine oq22 h λσ' H' I q=>?_; exact ⟨σ',H',I.unwish,q⟩
 | brk=>refine oq22 h λσ' H' I q=>?_; exact ⟨σ',H',I.unwish,q⟩
 | cont=>refine oq22 h λσ' H' I q=>?_; exact ⟨σ',H',I.unwish,q⟩
 | ret u=>refine oq33 h λv σ' H' I r q=>?_; exact ⟨v,σ',H',I.unwish,r,q⟩
theorem PSs.nox {st:List Stmt} {t:TS} (h:PSs X.nox st t):PSs X st t:=λpins s σ H D I hw =>
 T0 (h pins s σ H D (I.wish _) hw) (λx x q=>q.unwish) λx x z=>R6 z
end
section
variable {X:Cx} {st:Stmt} {rest:List Stmt} {t u:TS} {e:Expr} {te:TE} {pos:Pos}
def km:TS:=λD σ H=>D.nx σ H
def tSeq (t u:TS):TS:=λD σ H=>t { D with nx:=u D } σ H
theorem aM:PSs X [] km:=λx x σ H x I h=>A5 ⟨σ,H,I,h⟩
theorem ac (h1:PS X st t) (h2:PSs X rest u):PSs X (st :: rest) (tSeq t u):=by
 intro pins s σ H D I h
 refine wpAny_execs_cons (thn (h1 pins s σ H { D with nx:=u D } I h) λf s1 q=>?_)
 cases f with
 | next =>
  refine oq22 q λσ' H' I' q=>?_
  exact h2 pins s1 σ' H' D I' q
 | ret v=>exact q
 | brk=>exact q
 | cont=>exact q
theorem ah (h1:PS X st t):PSs X [st] t:=by
 intro pins s σ H D I h
 refine wpAny_execs_cons (thn (h1 pins s σ H D I h) λf s1 q=>?_)
 cases f with
 | next=>exact A5 q
 | ret v=>exact q
 | brk=>exact q
 | cont=>exact q
theorem Inv.quiet {pins:List (Addr × Obj)} {σ:St} {H:Hp} {s:Shared} (I:Inv X pins σ H s):interactive X.env=false:=by simp [interactive,I.ok.kind]
def tDrop (te:TE):TS:=λD σ H=>te σ H λx H1=>D.nx σ H1
theorem dq (he:PE X e te) (hs:autoParam (swapsWith e none pos.line X.env=pure false) L2.a2q._auto_1):PS X (.Expr e pos) (tDrop te):=by
 intro pins s σ H D I h
 exact wpAny_Expr_any (thn (he pins s σ H _ I h) λv s1 zq=>oq23 zq λx H1 I1 r1 q1=>⟨σ,H1,I1,q1⟩) I.quiet hs
def tRet (te:TE):TS:=λD σ H=>te σ H D.rt
theorem ax (he:PE X e te):PS X (.Return (some e) pos) (tRet te):=by
 intro pins s σ H D I h
 exact wpAny_Return_some (thn (he pins s σ H _ I h) λv s1 zq=>oq23 zq λx H1 I1 r1 q1=>⟨x,σ,H1,I1,r1,q1⟩)
def tIfS (c:TT) (t u:TS):TS:=λD σ H=>c σ H λb H1=>if b=true then t D σ H1 else u D σ H1
theorem bH {c:Expr} {a b:List Stmt} {tc:TT} (hc:PT X c tc) (ha:PSs X a t) (hb:PSs X b u):PS X (.If c a b pos) (tIfS tc t u):=by
 intro pins s σ H D I h
 refine wpAny_If (thn (hc pins s σ H _ I h) λd s1 zq=>oq12 zq λH1 I1 q1=>?_)
 cases d with
 | true=>exact ha pins s1 σ H1 D I1 q1
 | false=>exact hb pins s1 σ H1 D I1 q1
end
noncomputable abbrev TG:=V->St->Hp->(St->Hp->Prop)->Prop
noncomputable abbrev TGs:=List V->St->Hp->(St->Hp->Prop)->Prop
noncomputable def PG (X:Cx) (target:Expr) (t:TG):Prop :=
 ∀ (pins:List (Addr × Obj)) (s:Shared) (σ:St) (H:Hp) (v:V) (u:Value) (Q:St->Hp->Prop),Inv X pins σ H s->RelV v u->t v σ H Q ->
  wpAny (model X.prog X.w) X.A (assign target X.env u) (λx s'=>∃ σ' H',Inv X pins σ' H' s'/\Q σ' H') X.xe s
noncomputable def PGs (X:Cx) (ts:List Expr) (t:TGs):Prop :=
 ∀ (pins:List (Addr × Obj)) (s:Shared) (σ:St) (H:Hp) (vs:List V) (us:List Value) (Q:St->Hp->Prop),Inv X pins σ H s->Vals vs us->t vs σ H Q ->
  wpAny (model X.prog X.w) X.A (assignInOrder ((E5 ts X.env).map (·.2)) us) (λx s'=>∃ σ' H',Inv X pins σ' H' s'/\Q σ' H') X.xe s
noncomputable abbrev TSet:=V->V->V->Hp->(Hp->Prop)->Prop
noncomputable def PSet (X:Cx) (t:TSet):Prop :=
 ∀ (pins:List (Addr × Obj)) (s:Shared) (σ:St) (H:Hp) (o i v:V) (ov iv u:Value) (Q:Hp->Prop),Inv X pins σ H s->RelV o ov->RelV i iv->RelV v u->t o i v H Q ->
  wpAny (model X.prog X.w) X.A (setItem ov iv u) (λx s'=>∃ H',Inv X pins σ H' s'/\Q H') X.xe s
section
variable {X:Cx} {pos:Pos}
def d6 (i:Nat):TG:=λv σ H Q=>Q (σ.set i (some v)) H
theorem ar {i:Nat} {x:Str} (hN:X.N.Nodup) (hi:X.N[i]?=some x) (hx:Loc X.env.scope x) (hf:X.fn x=true\/X.env.scope.names.lookup x=some .local:=by first | exact .inl rfl | exact .inr rfl | assumption):PG X (.Name x pos) (d6 i):=by
 intro pins s σ H v u Q I r h
 exact wpAny_assign_Name (og I hN hi hx r (λs' I'=>⟨_,H,I',h⟩) hf)
noncomputable def gNil:TGs:=λvs σ H Q=>vs=[]/\Q σ H
noncomputable def iy (t:TG) (u:TGs):TGs:=λvs σ H Q=>∃ v r,vs=v :: r/\t v σ H λσ' H'=>u r σ' H' Q
theorem dr:PGs X [] gNil:=by
 intro pins s σ H vs us Q I r h
 obtain ⟨e,h⟩:=h
 subst e
 cases r
 exact assignInOrder_nil ⟨σ,H,I,h⟩
theorem aS {e:Expr} {es:List Expr} {t:TG} {u:TGs} (h1:PG X e t) (h2:PGs X es u)
  (hs:autoParam ((E5 (e :: es) X.env).map (·.2)=assign e X.env :: (E5 es X.env).map (·.2)) L2.a2q._auto_1):PGs X (e :: es) (iy t u):=by
 intro pins s σ H vs us Q I r h
 obtain ⟨v,vr,e1,h⟩:=h
 subst e1
 cases r with
 | cons r rr =>
  rw [hs]
  refine assignInOrder_cons (thn (h1 pins s σ H _ _ _ I r h) λ_ s1 ⟨σ1,H1,I1,q1⟩=>?_)
  exact h2 pins s1 σ1 H1 _ _ Q I1 rr q1
def gTup (K:Z0) (n:Nat) (t:TGs):TG:=λv σ H Q=>∃ a xs,v=.ref a/\SqT K H a xs/\xs.length=n/\t xs σ H Q
theorem pg_tup {es:List Expr} {k:Nat} {t:TGs} {n:Nat} (hc:X.calm=true) (h:PGs X es t)
  (hn:autoParam ((E5 es X.env).length=n) L2.a2q._auto_1) (hst:autoParam ((E5 es X.env).findIdx? (·.1)=none) L2.a2q._auto_1):PG X (.Tuple es k pos) (gTup X.K n t):=by
 intro pins s σ H v u Q I r hw
 obtain ⟨a,xs,e1,hq,hl,hw⟩:=hw
 subst e1
 cases r
 obtain ⟨its,rv,ht,hz⟩:=I.tuple hq
 refine assign_Tuple_tuple (I.ok.hd hc) ht (by simp [hn,<- hl,rv.length]) hst λh' hx=>?_
 have I1:Inv X pins σ H { s with heap:=h' }:=I.kept (t':=s.toks) λb o e=>hx b o (nz7 (Y4 e)) e
 exact h pins _ σ H xs _ Q I1 (by simpa using rv) hw
def gSub (to ti:TE) (t:TSet):TG:=λv σ H Q=>to σ H λo H1=>ti σ H1 λi H2=>t o i v H2 λH3=>Q σ H3
theorem ja {o i:Expr} {to ti:TE} {t:TSet} (ho:PE X o to) (hi:PE X i ti) (hs:PSet X t)
  (ha:∀ v,assign (.Subscript o i pos) X.env v=(do
   let ov <- holding [v] (eval o X.env)
   let iv <- holding [v,ov] (eval i X.env)
   standAt pos
   holding [v,ov,iv] (setItem ov iv v)
   release [v,ov,iv] []):=by intro _; rfl):PG X (.Subscript o i pos) (gSub to ti t):=by
 intro pins s σ H v u Q I r h
 rw [ha]
 refine Z4 (Q3 (thn (ho pins s σ H _ I h) λov s1 zq=>oq23 zq λx H1 I1 r1 q1=>?_))
 refine Z4 (Q3 (thn (hi pins s1 σ H1 _ I1 q1) λiv s2 zq=>oq23 zq λy H2 I2 r2 q2=>?_))
 refine Z4 (B7 (Z4 (Q3 (thn (hs pins s2 σ H2 x y v ov iv u _ I2 r1 r2 r q2) λa s3 zq=>oq12 zq λH3 I3 q3=>?_))))
 exact wpAny_release ⟨σ,H3,I3,q3⟩
def tAsg (te:TE) (g:TG):TS:=λD σ H=>te σ H λx H1=>g x σ H1 D.nx
theorem gc {tg e:Expr} {te:TE} {g:TG} (he:PE X e te) (hg:PG X tg g) (hs:autoParam (swapsWithSole [tg] e pos.line X.env=pure false) L2.a2q._auto_1) (hw:autoParam (swappedStores [tg] e X.env=pure none) L2.a2q._auto_1)
  (h1:autoParam ((E5 [tg] X.env).map (·.2)=[assign tg X.env]) L2.a2q._auto_1):PS X (.Assign [tg] e pos) (tAsg te g):=by
 intro pins s σ H D I h
 refine wpAny_Assign_stores (thn (he pins s σ H _ I h) λv s1 zq=>oq23 zq λx H1 I1 r1 q1=>?_) hs hw
 rw [h1]
 exact thn (hg pins s1 σ H1 x v _ I1 r1 q1) λa s2 q=>q
theorem au {i:Nat} {x:Str} {e:Expr} {te:TE} {pos':Pos} (hN:X.N.Nodup) (hi:X.N[i]?=some x) (hx:Loc X.env.scope x) (he:PE X e te) (hs:autoParam (swapsWith e (some (.Name x pos')) pos.line X.env=pure false) L2.a2q._auto_1) (hf:X.fn x=true\/X.env.scope.names.lookup x=some .local:=by first | exact .inl rfl | exact .inr rfl | assumption) :
  PS X (.Assign [.Name x pos'] e pos) (tAsg te (d6 i)):=by
 intro pins s σ H D I h
 refine wpAny_Assign_Name (thn (he pins s σ H _ I h) λv s1 zq=>oq23 zq λy H1 I1 r1 q1=>?_) hs
 exact og I1 hN hi hx r1 (λs2 I2=>⟨_,H1,I2,q1⟩) hf
end
section
variable {X:Cx} {pos:Pos}
def tWhile (c:TT) (tb:TS):TS:=λD σ H=>∃ W:Nat->St->Hp->Prop,(∃ m,W m σ H)/\∀ m σ H,W m σ H ->
 c σ H λb H1=>if b=true then ∃ N:St->Hp->Prop,(∀ σ' H',N σ' H'->∃ m',m'<m/\W m' σ' H')/\tb { D with nx:=N,ct:=N,bk:=D.nx } σ H1 else D.nx σ H1
theorem kn {c:Expr} {body:List Stmt} {tc:TT} {tb:TS} (hp:PassesOwn (model X.prog X.w) X.A X.env X.xe) (hc:PT X c tc) (hb:PSs X body tb):PS X (.While c body [] pos) (tWhile tc tb):=by
 intro pins s σ H D I h
 refine oq12 h λW zw turn=>oq11 zw λm0 w0=>?_
 refine wpAny_While (codeAny_whileLoop (λn s'=>∃ σ' H',Inv X pins σ' H' s'/\W n σ' H') ?_ m0 ⟨σ,H,I,w0⟩)
 intro n s1 zq; refine oq22 zq λσ1 H1 I1 w1=>?_
 refine N5 hp (thn (hc pins s1 σ1 H1 _ I1 (turn n σ1 H1 w1)) λb s2 zq=>oq12 zq λH2 I2 q2=>?_)
 cases b with
 | true =>
  refine oq12 q2 λN hN q2=>?_
  rw [if_pos rfl]
  refine N5 hp (thn (hb pins s2 σ1 H2 _ I2 q2) λf s3 q3=>?_)
  cases f with
  | next =>
   refine oq22 q3 λσ3 H3 I3 n3=>?_
   refine oq12 (hN σ3 H3 n3) λm' hm w3=>?_
   exact ⟨m',hm,σ3,H3,I3,w3⟩
  | cont =>
   refine oq22 q3 λσ3 H3 I3 n3=>?_
   refine oq12 (hN σ3 H3 n3) λm' hm w3=>?_
   exact ⟨m',hm,σ3,H3,I3,w3⟩
  | brk=>exact q3
  | ret v=>exact q3
 | false =>
  rw [if_neg Z2]
  exact A5 ⟨σ1,H2,I2,q2⟩
end
structure It where
 go:Nat->Hp->Prop
 yld:Nat->Hp->V->Hp->Prop
 stop:Nat->Hp->Prop
noncomputable def FpOk (X:Cx) (pins:List (Addr × Obj)) (H:Hp) (b:Addr):Prop :=
 H b=none/\b≠X.env.locals/\b ∉ X.fs/\(b∈X.ex\/X.s₀.heap.objs.size<=b)/\(∀ x c,X.env.cells.lookup x=some c->c≠b)/\∀ p∈X.pn++pins,p.1≠b
theorem Inv.fpOk {X:Cx} {pins:List (Addr × Obj)} {σ:St} {H H':Hp} {s:Shared} {b:Addr} (I:Inv X pins σ H s) (hb:s.heap.objs.size<=b) (hn:H' b=none):FpOk X pins H' b:=by
 refine ⟨hn,P8 (nz1 I.lt hb),I.nofs hb,.inr (nz4 I.sz hb),λx c e z=>?_,λp hp z=>?_⟩
 ·refine oq11 (I.cell x c e) λv q=>?_
  exact absurd (nz1 q.lt (by rw [z]; exact hb)) (Q7 _)
 ·exact absurd (nz1 (Y4 (I.pin p hp).1) (by rw [z]; exact hb)) (Q7 _)
structure Turn (P:X5) (w:World) (K:Z0) (tg:Expr) (J:It) (fp:List Addr) (it:Addr) (tn:Nat->Heap->Prop):Prop where
 mem:it∈fp
 obj:∀ i h,tn i h->∀ b∈fp,∃ o,h.get? b=some o/\∀ v,o.data≠.cell v
 keep:∀ i h h',tn i h->(∀ b∈fp,∀ o,h.get? b=some o->h'.get? b=some o)->tn i h'
 item:∀ (X:Cx),X.prog=P->X.w=w->X.K=K->X.calm=true->∀ (i:Nat) (pins:List (Addr × Obj)) (s:Shared) (σ:St) (H:Hp) (E:Value->Shared->Prop),Inv X pins σ H s->(∀ b∈fp,FpOk X pins H b)->tn i s.heap->J.go i H ->
  wpAny (model P w) X.A (pyNext (.ref it)) (λr s1=>∃ u,r=some u /\
   wpAny (model P w) X.A (A6 tg (.ref it) u) (λa s2=>∃ x H',Inv X pins σ H' s2/\RelV x u/\J.yld i H x H'/\tn (i+1) s2.heap/\∀ b∈fp,H' b=none) E s1) E s
 done:∀ (X:Cx),X.prog=P->X.w=w->X.K=K->X.calm=true->∀ (i:Nat) (pins:List (Addr × Obj)) (s:Shared) (σ:St) (H:Hp) (E:Value->Shared->Prop),Inv X pins σ H s->(∀ b∈fp,FpOk X pins H b)->tn i s.heap->J.stop i H ->
  wpAny (model P w) X.A (pyNext (.ref it)) (λr s1=>r=none/\Inv X pins σ H s1) E s
 self:∀ (A:Around) (i:Nat) (s:Shared) (Q:Value->Shared->Prop) (E:Value->Shared->Prop),tn i s.heap->Q (.ref it) s->wpAny (model P w) A (pyIter (.ref it)) Q E s
noncomputable abbrev TI:=St->Hp->(It->Hp->Prop)->Prop
noncomputable def PIE (X:Cx) (pins:List (Addr × Obj)) (σ:St) (tg:Expr) (R:It->Hp->Prop) (itv:Value) (s2:Shared):Prop :=
 ∃ (it:Addr) (fp:List Addr) (tn:Nat->Heap->Prop) (J:It) (H':Hp),itv=.ref it/\Inv X pins σ H' s2/\Turn X.prog X.w X.K tg J fp it tn/\tn 0 s2.heap/\(∀ b∈fp,FpOk X pins H' b)/\R J H'
noncomputable def PI (X:Cx) (tg iter:Expr) (wi:TI):Prop :=
 ∀ (pins:List (Addr × Obj)) (s:Shared) (σ:St) (H:Hp) (R:It->Hp->Prop),Inv X pins σ H s->wi σ H R ->
  wpAny (model X.prog X.w) X.A (eval iter X.env) (λv s1=>wpAny (model X.prog X.w) X.A (pyIter v) (PIE X pins σ tg R) X.xe s1) X.xe s
theorem go_of {M:Model} {A:Around} {E:Value->Shared->Prop} {s:Shared} {tg:Expr} {it:Addr} {u:Value} {o:Obj} {n:String} {vs:Array Value} {Q:Unit->Shared->Prop} (ho:s.heap.get? it=some o) (hc:o.cls=.type n) (hd:o.data=.fields vs)
    (hn:["enumerate","zip","dict_itemiterator","dict_reverseitemiterator","odict_iterator","itertools.zip_longest","itertools.pairwise"].contains n=false) (hQ:Q () s):wpAny M A (A6 tg (.ref it) u) Q E s:=by
  unfold A6
  cases tg <;> first
    | exact Y6 hQ
    | (cases u <;> first
        | exact Y6 hQ
        | (refine Z4 (wpAny_load ho ?_)
           rw [hc,hd]
           show wpAny M A (if (["enumerate","zip","dict_itemiterator","dict_reverseitemiterator","odict_iterator","itertools.zip_longest","itertools.pairwise"].contains n && vs[0]? == some (rawInt _))=true then _ else _) Q E s
           rw [if_neg (by intro h; rw [hn,Bool.false_and] at h; cases h)]
           exact Y6 hQ))
noncomputable def Itl (K:Z0) (a:Addr):It :=
 ⟨λi H=>∃ xs x,SqL K H a xs/\xs[i]?=some x,λi H x H'=>H'=H/\∀ xs,SqL K H a xs->xs[i]?=some x,λi H=>∃ xs,SqL K H a xs/\xs.length<=i⟩
noncomputable def Itr (lo:Int) (n:Nat):It:=⟨λi a=>i<n,λi H x H'=>H'=H/\x=.int (lo+i),λi a=>n<=i⟩
theorem turn_list {P:X5} {w:World} {K:Z0} {tg:Expr} (a it:Addr):Turn P w K tg (Itl K a) [it] it (λi h=>h.IsListIter it a i) where
 mem:=by simp
 obj:=λi h st b hb=>by
  have e:b=it:=by simpa using hb
  subst e
  refine oq13 st λo e c d=>?_
  exact ⟨o,e,λv z=>by rw [d] at z; cases z⟩
 keep:=λi h h' st k=>st.at λo e=>k it (by simp) o e
 item:=by
  intro X hP hw hK hc i pins s σ H E I hf st hg
  subst hP hw hK
  refine oq22 hg λxs x hq hx=>?_
  refine oq13 (I.list hq) λits rv p hz=>?_
  refine oq12 (rv.get hx) λu hu ru=>?_
  refine oq06 (hf it (by simp)) λf0 f1 f2 f3 f4 f5=>?_
  refine wpAny_pyNext_list_item st p.isList (x:=u) (by simpa using hu) λh' st' sb=>?_
  have I1:Inv X pins σ H { s with heap:=h' }:=I.turned (t':=s.toks) (λb o hb e=>(sb.2 b hb).trans e) f0 f1 f3 f4 f5
  refine oq13 (id st') λo e c d=>?_
  exact ⟨u,rfl,go_of (s:={ s with heap:=h' }) e c d (by decide) ⟨x,H,I1,ru,⟨rfl,λys hy=>by rw [I.list_inj hy hq]; exact hx⟩,st',λb hb=>(hf b hb).1⟩⟩
 done:=by
  intro X hP hw hK hc i pins s σ H E I hf st hg
  subst hP hw hK
  refine oq12 hg λxs hq hx=>?_
  refine oq13 (I.list hq) λits rv p hz=>?_
  refine oq06 (hf it (by simp)) λf0 f1 f2 f3 f4 f5=>?_
  have hl:=rv.length
  exact wpAny_pyNext_list_end (I.ok.hd hc) st p.isList (by simp; lia) λh' eb=>⟨rfl,I.turned (t':=s.toks) (λb o hb e=>eb b o hb e) f0 f1 f3 f4 f5⟩
 self:=λy y y y y st h=>wpAny_pyIter_listiter st h
theorem qy {P:X5} {w:World} {K:Z0} {tg:Expr} (it:Addr) (lo:Int) (n:Nat):Turn P w K tg (Itr lo n) [it] it (λi h=>IsRangeIter h it (lo+(i:Nat) * 1) ((n:Int) - (i:Nat)) 1) where
 mem:=by simp
 obj:=λi h st b hb=>by
  have e:b=it:=by simpa using hb
  subst e
  exact ⟨_,st,λv z=>by
   have z':Data.fields _=Data.cell v:=z
   cases z'⟩
 keep:=λi h h' st k=>k it (by simp) _ st
 item:=by
  intro X hP hw hK hc i pins s σ H E I hf st hg
  subst hP hw hK
  refine oq06 (hf it (by simp)) λf0 f1 f2 f3 f4 f5=>?_
  have W:=Walks.range (prog:=X.prog) (w:=X.w) (I.ok.hd hc) it lo 1 n
  refine W.item i s _ _ hg st λv h' tk hv st' kk=>?_
  refine oq11 hv λt eq1_=>?_; subst eq1_
  have I1:Inv X pins σ H { s with heap:=h',toks:=tk }:=I.turned (λb o hb e=>kk b o (by simpa using hb) e) f0 f1 f3 f4 f5
  refine ⟨_,rfl,go_of (s:={ s with heap:=h',toks:=tk }) (n:="range_iterator") st' rfl rfl (by decide) ⟨.int (lo+i),H,I1,⟨t,?_⟩,⟨rfl,rfl⟩,st',λb hb=>(hf b hb).1⟩⟩
  rw [Int.mul_one]
 done:=by
  intro X hP hw hK hc i pins s σ H E I hf st hg
  subst hP hw hK
  refine oq06 (hf it (by simp)) λf0 f1 f2 f3 f4 f5=>?_
  exact wpAny_pyNext_range_end (I.ok.hd hc) st (by have:n<=i:=hg; lia) λh' eb=>⟨rfl,I.turned (t':=s.toks) (λb o hb e=>eb b o hb e) f0 f1 f3 f4 f5⟩
 self:=λx x x x x st h=>wpAny_pyIter_rangeiter st h
end L2
namespace L2
open PySem PySem.Spec PyProof.Rows
section
variable {X:Cx} {tg:Expr}
def om (K:Z0) (tl:TE):TI:=λσ H R=>tl σ H λx H1=>∃ a,x=.ref a/\(∃ xs,SqL K H1 a xs)/\R (Itl K a) H1
theorem pi_list {l:Expr} {tl:TE} (hl:PE X l tl):PI X tg l (om X.K tl):=by
 intro pins s σ H R I h
 refine thn (hl pins s σ H _ I h) λv s1 zq=>oq23 zq λx H1 I1 r1 q1=>?_
 refine oq13 q1 λa e zx q=>oq11 zx λxs hq=>?_
 subst e
 cases r1
 refine oq13 (I1.list hq) λits rv p hz=>?_
 refine wpAny_pyIter_list p.isList ?_
 refine ⟨s1.heap.objs.size,[s1.heap.objs.size],_,_,H1,rfl,I1.kept (t':=s1.toks) λb o e=>Z5 _ e,turn_list a _,⟨_,X3 _ rfl,rfl,rfl⟩,λb hb=>?_,q⟩
 have e:b=s1.heap.objs.size:=by simpa using hb
 subst e
 exact I1.fpOk (nz6 _) (I1.hok.fresh (nz6 _))
theorem oo {pins:List (Addr × Obj)} {σ:St} {H:Hp} {s:Shared} {R:It->Hp->Prop} {E:Value->Shared->Prop} {lo hi:Int} {t u v:Tok} {tk:Nat} (I:Inv X pins σ H s) (h1:-(2 ^ 62)<=lo) (h2:lo<2 ^ 62) (h3:-(2 ^ 62)<=hi) (h4:hi<2 ^ 62)
  (q:R (Itr lo (hi - lo).toNat) H):wpAny (model X.prog X.w) X.A (pyIter (.ref s.heap.objs.size)) (PIE X pins σ tg R) E { s with heap:=s.heap.push { cls:=.type "range",data:=.fields #[.int lo t,.int hi u,.int 1 v] },toks:=tk }:=by
 refine wpAny_pyIter_range (IsRange.new ..) (small_one h1 h2 h3 h4) ?_
 have I1:Inv X pins σ H { s with heap:=s.heap.push { cls:=.type "range",data:=.fields #[.int lo t,.int hi u,.int 1 v] },toks:=tk }:=I.kept λb o e=>Z5 _ e
 refine ⟨(s.heap.push { cls:=.type "range",data:=.fields #[.int lo t,.int hi u,.int 1 v] }).objs.size,[(s.heap.push { cls:=.type "range",data:=.fields #[.int lo t,.int hi u,.int 1 v] }).objs.size],_,_,H,rfl,
  I1.kept (t':=tk) λb o e=>Z5 _ e,qy _ lo (hi - lo).toNat,?_,λb hb=>?_,q⟩
 ·have e1:lo+((0:Nat):Int) * 1=lo:=by simp
  have e2:(((hi - lo).toNat:Nat):Int) - ((0:Nat):Int)=O1 lo hi 1:=by rw [rangeSize_one]; split <;> lia
  show IsRangeIter _ _ (lo+((0:Nat):Int) * 1) ((((hi - lo).toNat:Nat):Int) - ((0:Nat):Int)) 1
  rw [e1,e2]
  exact X3 _ rfl
 ·have e:b=(s.heap.push { cls:=.type "range",data:=.fields #[.int lo t,.int hi u,.int 1 v] }).objs.size:=by simpa using hb
  subst e
  exact I1.fpOk (nz6 _) (I1.hok.fresh (nz6 _))
def iRng1 (ta:TA):TI:=λσ H R=>ta σ H λvs H1=>∃ j:Int,vs=[.int j]/\-(2 ^ 62)<=j/\j<2 ^ 62/\R (Itr 0 j.toNat) H1
def iRng2 (ta:TA):TI:=λσ H R=>ta σ H λvs H1=>∃ i j:Int,vs=[.int i,.int j]/\(-(2 ^ 62)<=i/\i<2 ^ 62/\-(2 ^ 62)<=j/\j<2 ^ 62)/\R (Itr i (j - i).toNat) H1
theorem fu {a:Expr} {ta:TA} {p pos:Pos} (hg:Gl X "range") (hm:X.mg "range"=none) (ha:PA X [a] ta) (hs:autoParam (Y9 [a] X.env=[(false,eval a X.env)]) L2.a2q._auto_1):PI X tg (.Call (.Name "range" p) [a] [] pos) (iRng1 ta):=by
 intro pins s σ H R I h
 refine Call_ (fL I hg hm boot_range (R1 (thn (ha pos pins s σ H _ I h) λus s1 zq=>oq23 zq λvs H1 I1 r1 qq=>oq14 qq λj e q1 q2 q=>?_) hs rfl))
 subst e
 cases r1 with
 | cons r rr =>
  cases rr
  obtain ⟨t,rfl⟩:=r
  exact call_range_1 (oo I1 (by lia) (by lia) q1 q2 (by simpa using q))
theorem lV {a b:Expr} {ta:TA} {p pos:Pos} (hg:Gl X "range") (hm:X.mg "range"=none) (ha:PA X [a,b] ta) (hs:autoParam (Y9 [a,b] X.env=[(false,eval a X.env),(false,eval b X.env)]) L2.a2q._auto_1) (hs2:autoParam (Y9 [b] X.env=[(false,eval b X.env)]) L2.a2q._auto_1) :
  PI X tg (.Call (.Name "range" p) [a,b] [] pos) (iRng2 ta):=by
 intro pins s σ H R I h
 refine Call_ (fL I hg hm boot_range (R1 (thn (ha pos pins s σ H _ I h) λus s1 zq=>oq23 zq λvs H1 I1 r1 qq=>oq23 qq λi j e zw q=>oq04 zw λq1 q2 q3 q4=>?_) (by rw [hs,hs2]) (by rw [hs2]; rfl)))
 subst e
 cases r1 with
 | cons r rr =>
  cases rr with
  | cons r' rr =>
   cases rr
   refine oq11 r λt eq1_=>?_; subst eq1_
   refine oq11 r' λt' eq1_=>?_; subst eq1_
   exact call_range_2 (oo I1 q1 q2 q3 q4 q)
def tFor (wi:TI) (g:TG) (tb:TS):TS:=λD σ H=>wi σ H λJ H1=>∃ W:Nat->Nat->St->Hp->Prop,(∃ m,W 0 m σ H1)/\∀ i m σ H,W i m σ H ->
 (J.stop i H/\D.nx σ H)\/(J.go i H/\∃ N:St->Hp->Prop,(∀ σ' H',N σ' H'->∃ m',m'<m/\W (i+1) m' σ' H')/\∀ x H',J.yld i H x H'->g x σ H' λσ2 H2=>tb { D with nx:=N,ct:=N,bk:=D.nx } σ2 H2)
noncomputable def ko (fp:List Addr) (h:Heap):List (Addr × Obj):=fp.filterMap λb=>(h.get? b).map λo=>(b,o)
theorem fO {fp:List Addr} {h:Heap} {b:Addr} {o:Obj} (hb:b∈fp) (e:h.get? b=some o):(b,o)∈ko fp h:=List.mem_filterMap.mpr ⟨b,hb,by rw [e]; rfl⟩
theorem of_pinsAt {fp:List Addr} {h:Heap} {p:Addr × Obj} (hp:p∈ko fp h):p.1∈fp/\h.get? p.1=some p.2:=by
 refine oq12 (List.mem_filterMap.mp hp) λb hb e=>?_
 cases q:h.get? b with
 | none=>rw [q] at e; cases e
 | some o =>
  rw [q] at e
  have e':(b,o)=p:=Z3 e
  subst e'
  exact ⟨hb,q⟩
theorem Inv.pinned {pins:List (Addr × Obj)} {σ:St} {H:Hp} {s:Shared} {fp:List Addr} (I:Inv X pins σ H s) (hf:∀ b∈fp,FpOk X pins H b) (ho:∀ b∈fp,∃ o,s.heap.get? b=some o/\∀ v,o.data≠.cell v):Inv X (pins++ko fp s.heap) σ H s :=
 I.pins_of λp hp=>(Y7.mp hp).elim (λz=>I.pin p (Y2 _ z)) λz=>by
  refine oq02 (of_pinsAt z) λhb e=>?_
  refine oq04 (hf p.1 hb) λf0 f1 f2 x=>?_
  refine oq12 (ho p.1 hb) λo e' d=>?_
  rw [e] at e'; cases e'
  exact ⟨e,f0,f1,f2,d⟩
theorem Inv.unpinned {pins pl:List (Addr × Obj)} {σ:St} {H:Hp} {s:Shared} (I:Inv X (pins++pl) σ H s):Inv X pins σ H s:=I.pins_of λp hp=>I.pin p (Y2 _ (S6 _ hp))
theorem c6 {iter:Expr} {body:List Stmt} {wi:TI} {g:TG} {tb:TS} {pos:Pos} (hp:PassesOwn (model X.prog X.w) X.A X.env X.xe) (hc:X.calm=true) (hi:PI X tg iter wi) (hg:PG X tg g) (hb:PSs X body tb)
  (hs:autoParam (∀ x,foldedSetIterable iter X.env x=pure x) L2.a1q._auto_1):PS X (.For tg iter body [] pos) (tFor wi g tb):=by
 intro pins s σ H D I h
 refine wpAny_For (thn (hi pins s σ H _ I h) λv s1 h1=>thn h1 λitv s2 h2=>?_) hs
 refine oq56 h2 λit fp tn J H2 e I2 T st2 f2 zz=>oq12 zz λW zw turn=>oq11 zw λm0 w0=>?_
 subst e
 have stat:∀ {H':Hp},(∀ b∈fp,H' b=none)->∀ b∈fp,FpOk X pins H' b:=λhn b hb=>⟨hn b hb,(f2 b hb).2⟩
 refine codeAny_forLoop_any (λn s'=>∃ i σ' H',Inv X pins σ' H' s'/\tn i s'.heap/\(∀ b∈fp,H' b=none)/\W i n σ' H') ?_ m0 ⟨0,σ,H2,I2,st2,λb hb=>(f2 b hb).1,w0⟩
 intro n s3 zq; refine oq34 zq λi σ3 H3 I3 st3 fr3 w3=>?_
 rcases turn i n σ3 H3 w3 with zr | zr
 ·refine oq02 zr λstop qn=>?_
  refine N5 hp (thn (T.done X rfl rfl rfl hc i pins s3 σ3 H3 X.xe I3 (stat fr3) st3 stop) λr s4 zq=>oq02 zq λhr I4=>?_)
  subst hr
  exact A5 ⟨σ3,H3,I4,qn⟩
 ·refine oq02 zr λgo zn=>oq12 zn λN hN step=>?_
  refine N5 hp (thn (T.item X rfl rfl rfl hc i pins s3 σ3 H3 X.xe I3 (stat fr3) st3 go) λr s4 zq=>oq12 zq λu hr h4=>?_)
  subst hr
  refine N5 hp (thn h4 λa s5 zq=>oq25 zq λx H5 I5 r5 y5 st5 fr5=>?_)
  have I5':=I5.pinned (stat fr5) (T.obj _ _ st5)
  refine N5 hp (thn (hg _ s5 σ3 H5 x u _ I5' r5 (step x H5 y5)) λa s6 zq=>oq22 zq λσ6 H6 I6 q6=>?_)
  refine N5 hp (thn (hb _ s6 σ6 H6 _ I6 q6) λf s7 q7=>?_)
  have again:∀ {σ7:St} {H7:Hp},Inv X (pins++ko fp s5.heap) σ7 H7 s7->N σ7 H7->∃ m,m<n/\∃ i σ' H',Inv X pins σ' H' s7/\tn i s7.heap/\(∀ b∈fp,H' b=none)/\W i m σ' H':=λ{σ7 H7} I7 n7=>by
   refine oq12 (hN σ7 H7 n7) λm' hm w7=>?_
   refine ⟨m',hm,i+1,σ7,H7,I7.unpinned,T.keep _ _ _ st5 λb hb o e=>(I7.pin (b,o) (Y2 _ (Y2 _ (fO hb e)))).1,λb hb=>?_,w7⟩
   refine oq12 (T.obj _ _ st5 b hb) λo e d=>?_
   exact (I7.pin (b,o) (Y2 _ (Y2 _ (fO hb e)))).2.1
  cases f with
  | next=>refine oq22 q7 λσ7 H7 I7 n7=>?_; exact again I7 n7
  | cont=>refine oq22 q7 λσ7 H7 I7 n7=>?_; exact again I7 n7
  | brk=>refine oq22 q7 λσ7 H7 I7 q7=>?_; exact ⟨σ7,H7,I7.unpinned,q7⟩
  | ret v=>refine oq33 q7 λx7 σ7 H7 I7 r7 q7=>?_; exact ⟨x7,σ7,H7,I7.unpinned,r7,q7⟩
end
end L2
namespace L2
open PySem PySem.Spec PyProof.Rows
noncomputable abbrev R2:=V->V->Hp->VK->Prop
noncomputable def OpR (X:Cx) (f:Value->Value->Sem Value) (r:R2):Prop :=
 ∀ (pins:List (Addr × Obj)) (s:Shared) (σ:St) (H:Hp) (x y:V) (v u:Value) (Q:VK),Inv X pins σ H s->RelV x v->RelV y u->r x y H Q ->
  wpAny (model X.prog X.w) X.A (f v u) (EP X pins σ Q) X.xe s
noncomputable def UnR (X:Cx) (f:Value->Sem Value) (r:V->Hp->VK->Prop):Prop :=
 ∀ (pins:List (Addr × Obj)) (s:Shared) (σ:St) (H:Hp) (x:V) (v:Value) (Q:VK),Inv X pins σ H s->RelV x v->r x H Q ->
  wpAny (model X.prog X.w) X.A (f v) (EP X pins σ Q) X.xe s
noncomputable def gd (X:Cx) (f:Value) (r:List V->Hp->VK->Prop):Prop :=
 ∀ (pins:List (Addr × Obj)) (s:Shared) (σ:St) (H:Hp) (xs:List V) (us:List Value) (Q:VK),Inv X pins σ H s->Vals xs us->r xs H Q ->
  wpAny (model X.prog X.w) X.A (call f us) (EP X pins σ Q) X.xe s
noncomputable def TruR (X:Cx) (r:V->Hp->(Bool->Hp->Prop)->Prop):Prop :=
 ∀ (pins:List (Addr × Obj)) (s:Shared) (σ:St) (H:Hp) (x:V) (v:Value) (Q:Bool->Hp->Prop),Inv X pins σ H s->RelV x v->r x H Q ->
  wpAny (model X.prog X.w) X.A (truthy v) (TP X pins σ Q) X.xe s
def tOp (r:R2) (ta tb:TE):TE:=λσ H Q=>ta σ H λx H1=>tb σ H1 λy H2=>r x y H2 Q
def tUn (r:V->Hp->VK->Prop) (ta:TE):TE:=λσ H Q=>ta σ H λx H1=>r x H1 Q
noncomputable def rI (C:Int->Int->Prop) (g:Int->Int->V):R2:=λx y H Q=>∃ i j,x=.int i/\y=.int j/\C i j/\Q (g i j) H
noncomputable def rI0 (g:Int->Int->V):R2:=λx y H Q=>∃ i j,x=.int i/\y=.int j/\Q (g i j) H
def rU (g:Int->V):V->Hp->VK->Prop:=λx H Q=>∃ i,x=.int i/\Q (g i) H
section
variable {X:Cx} {a b:Expr} {ta tb:TE} {pos:Pos}
theorem binT (ha:PE X a ta) (hb:PE X b tb) {pins:List (Addr × Obj)} {s:Shared} {σ:St} {H:Hp} {R:V->V->Hp->Prop} (I:Inv X pins σ H s)
  (h:ta σ H λx H1=>tb σ H1 λy H2=>R x y H2) {Q:Value->Shared->Prop} {f:Value->Value->Sem Value}
  (hf:∀ v u s2 x y H2,Inv X pins σ H2 s2->RelV x v->RelV y u->R x y H2->wpAny (model X.prog X.w) X.A (f v u) Q X.xe s2) :
  wpAny (model X.prog X.w) X.A (eval a X.env) (λv s₁=>wpAny (model X.prog X.w) X.A (eval b X.env) (λu s₂=>wpAny (model X.prog X.w) X.A (f v u) Q X.xe s₂) X.xe s₁) X.xe s:=by
 refine thn (ha pins s σ H _ I h) λv s1 zq=>oq23 zq λx H1 I1 r1 q1=>?_
 refine thn (hb pins s1 σ H1 _ I1 q1) λu s2 zq=>oq23 zq λy H2 I2 r2 q2=>?_
 exact hf v u s2 x y H2 I2 r1 r2 q2
theorem ap {op:Operator} {r:R2} (ho:OpR X (G9 op) r) (ha:PE X a ta) (hb:PE X b tb):PE X (.BinOp a op b pos) (tOp r ta tb):=by
 intro pins s σ H Q I h
 exact wpAny_BinOp (binT ha hb I h λv u s2 x y H2 I2 rx ry q=>ho pins s2 σ H2 x y v u Q I2 rx ry q)
theorem pe_un {op:UnaryOp} {r:V->Hp->VK->Prop} (ho:UnR X (unaryOp op) r) (ha:PE X a ta):PE X (.UnaryOp op a pos) (tUn r ta):=by
 intro pins s σ H Q I h
 exact UnaryOp_ (thn (ha pins s σ H _ I h) λv s1 zq=>oq23 zq λx H1 I1 r1 q1=>ho pins s1 σ H1 x v Q I1 r1 q1)
theorem opI {f:Value->Value->Sem Value} {C:Int->Int->Prop} {g:Int->Int->Int}
  (rule:∀ (i j:Int) (t u:Tok) (s:Shared) (Q:Value->Shared->Prop) (E:Value->Shared->Prop),C i j->Q (.int (g i j) s.toks) { s with toks:=s.toks+1 }->wpAny (model X.prog X.w) X.A (f (.int i t) (.int j u)) Q E s) :
  OpR X f (rI C λi j=>.int (g i j)):=by
 intro pins s σ H x y v u Q I rx ry h
 refine oq24 h λi j eq2_ eq3_ hc q=>?_; subst eq2_; subst eq3_
 refine oq11 rx λt eq1_=>?_; subst eq1_
 refine oq11 ry λt' eq1_=>?_; subst eq1_
 exact rule i j t t' s _ _ hc ⟨.int (g i j),H,I.tok _,⟨_,rfl⟩,q⟩
theorem opI0 {f:Value->Value->Sem Value} {g:Int->Int->Int}
  (rule:∀ (i j:Int) (t u:Tok) (s:Shared) (Q:Value->Shared->Prop) (E:Value->Shared->Prop),Q (.int (g i j) s.toks) { s with toks:=s.toks+1 }->wpAny (model X.prog X.w) X.A (f (.int i t) (.int j u)) Q E s) :
  OpR X f (rI0 λi j=>.int (g i j)):=by
 intro pins s σ H x y v u Q I rx ry h
 refine oq23 h λi j eq2_ eq3_ q=>?_; subst eq2_; subst eq3_
 refine oq11 rx λt eq1_=>?_; subst eq1_
 refine oq11 ry λt' eq1_=>?_; subst eq1_
 exact rule i j t t' s _ _ ⟨.int (g i j),H,I.tok _,⟨_,rfl⟩,q⟩
theorem opB0 {f:Value->Value->Sem Value} {g:Int->Int->Bool}
  (rule:∀ (i j:Int) (t u:Tok) (s:Shared) (Q:Value->Shared->Prop) (E:Value->Shared->Prop),Q (.bool (g i j)) s->wpAny (model X.prog X.w) X.A (f (.int i t) (.int j u)) Q E s) :
  OpR X f (rI0 λi j=>.bl (g i j)):=by
 intro pins s σ H x y v u Q I rx ry h
 refine oq23 h λi j eq2_ eq3_ q=>?_; subst eq2_; subst eq3_
 refine oq11 rx λt eq1_=>?_; subst eq1_
 refine oq11 ry λt' eq1_=>?_; subst eq1_
 exact rule i j t t' s _ _ ⟨.bl (g i j),H,I,rfl,q⟩
def CPow (i j:Int):Prop:=0<=j/\j<=1000000/\i.natAbs<2 ^ 64
def CMul (i j:Int):Prop:=(-(2 ^ 64)<i/\i<2 ^ 64)\/(-(2 ^ 64)<j/\j<2 ^ 64)
theorem CMul.ok {i j:Int} (h:CMul i j):IntMulOk i j:=by
 rcases h with ⟨h1,h2⟩ | ⟨h1,h2⟩
 ·exact .of_left (intBits_le_64 h1 h2)
 ·exact .of_right (intBits_le_64 h1 h2)
theorem bh:OpR X (G9 .Add) (rI0 λi j=>.int (i+j)):=opI0 λx x x x x x x q=>add_int q
theorem d9:OpR X (G9 .Sub) (rI0 λi j=>.int (i - j)):=opI0 λx x x x x x x q=>sub_int q
theorem eD:OpR X (G9 .Mult) (rI CMul λi j=>.int (i * j)):=opI λx x x x x x x hc q=>mul_int q hc.ok
theorem b8:OpR X (G9 .Mod) (rI (λx j=>0<j) λi j=>.int (i % j)):=opI λi j x x x x x hc q=>by
 have h1:(0:Int)<j:=hc
 exact mod_int' (by lia) (by rw [Int.fmod_eq_emod_of_nonneg i (by lia)]; exact q)
theorem gf:OpR X (G9 .Pow) (rI CPow λi j=>.int (i ^ j.toNat)):=opI λx x x x x x x hc q=>pow_int_small hc.1 hc.2.1 hc.2.2 q
theorem unI {f:Value->Sem Value} {g:Int->Int}
  (rule:∀ (i:Int) (t:Tok) (s:Shared) (Q:Value->Shared->Prop) (E:Value->Shared->Prop),Q (.int (g i) s.toks) { s with toks:=s.toks+1 }->wpAny (model X.prog X.w) X.A (f (.int i t)) Q E s) :
  UnR X f (rU λi=>.int (g i)):=by
 intro pins s σ H x v Q I rx h
 refine oq12 h λi eq1_ q=>?_; subst eq1_
 refine oq11 rx λt eq1_=>?_; subst eq1_
 exact rule i t s _ _ ⟨.int (g i),H,I.tok _,⟨_,rfl⟩,q⟩
theorem mL:UnR X (unaryOp .USub) (rU λi=>.int (-i)):=unI λx x x x x q=>neg_int q
end
noncomputable def scal:V->V->Bool
 | .non,.non=>true | .non,.int _=>true | .int _,.non=>true | .non,.bl _=>true | .bl _,.non=>true | .non,.str _=>true | .str _,.non=>true
 | .int _,.int _=>true | .bl _,.bl _=>true | .str _,.str _=>true | .byt _,.byt _=>true
 | .int _,.str _=>true | .str _,.int _=>true | .bl _,.str _=>true | .str _,.bl _=>true
 | _,_=>false
noncomputable def rEq:R2:=λx y H Q=>scal x y=true/\Q (.bl (decide (x=y))) H
noncomputable def rNe:R2:=λx y H Q=>scal x y=true/\Q (.bl (!decide (x=y))) H
theorem dec_int {i j:Int}:decide (V.int i=V.int j)=(i == j):=by
 rw [X1]
 simp
theorem dec_bl {i j:Bool}:decide (V.bl i=V.bl j)=(i == j):=by
 rw [X1]
 simp
theorem dec_str {i j:Str}:decide (V.str i=V.str j)=(i == j):=by
 rw [X1]
 simp
theorem dec_byt {i j:Array UInt8}:decide (V.byt i=V.byt j)=(i.toList == j.toList):=by
 rw [X1]
 cases i
 cases j
 simp
section
variable {X:Cx} {a b c:Expr} {ta tb tc:TE} {pos:Pos}
theorem aY {pins:List (Addr × Obj)} {σ:St} {H:Hp} {s:Shared} {Q:VK} {k k':Bool} (I:Inv X pins σ H s) (q:Q (.bl k) H) (e:k=k'):EP X pins σ Q (.bool k') s:=by
 subst e
 exact ⟨.bl k,H,I,rfl,q⟩
theorem dA:OpR X (U8 .Eq) rEq:=by
 intro pins s σ H x y v u Q I rx ry h
 refine oq02 h λhs q=>?_
 cases x with
 | non =>
  cases rx
  cases y with
  | non=>cases ry; exact PySem.EqNone.eq_none_none (aY I q (by simp))
  | bl j=>cases ry; exact PySem.EqNone.eq_none_bool (aY I q (by simp))
  | int j=>refine oq11 ry λt' eq1_=>?_; subst eq1_; exact PySem.EqNone.eq_none_int (aY I q (by simp))
  | str j=>refine oq11 ry λt' eq1_=>?_; subst eq1_; exact PySem.EqNone.eq_none_str (aY I q (by simp))
  | _=>exact absurd (show false=true from hs) Z2
 | bl i =>
  cases rx
  cases y with
  | non=>cases ry; exact PySem.EqNone.eq_bool_none (aY I q (by simp))
  | bl j=>cases ry; exact eq_bool (aY I q dec_bl)
  | str j=>refine oq11 ry λt' eq1_=>?_; subst eq1_; exact PySem.EqMixed.eq_bool_str (aY I q (by simp))
  | _=>exact absurd (show false=true from hs) Z2
 | int i =>
  refine oq11 rx λt eq1_=>?_; subst eq1_
  cases y with
  | non=>cases ry; exact PySem.EqNone.eq_int_none (aY I q (by simp))
  | int j=>refine oq11 ry λt' eq1_=>?_; subst eq1_; exact eq_int (aY I q dec_int)
  | str j=>refine oq11 ry λt' eq1_=>?_; subst eq1_; exact PySem.EqMixed.eq_int_str (aY I q (by simp))
  | _=>exact absurd (show false=true from hs) Z2
 | str i =>
  refine oq11 rx λt eq1_=>?_; subst eq1_
  cases y with
  | non=>cases ry; exact PySem.EqNone.eq_str_none (aY I q (by simp))
  | bl j=>cases ry; exact PySem.EqMixed.eq_str_bool (aY I q (by simp))
  | int j=>refine oq11 ry λt' eq1_=>?_; subst eq1_; exact PySem.EqMixed.eq_str_int (aY I q (by simp))
  | str j=>refine oq11 ry λt' eq1_=>?_; subst eq1_; exact eq_str (aY I q dec_str)
  | _=>exact absurd (show false=true from hs) Z2
 | byt i =>
  refine oq11 rx λt eq1_=>?_; subst eq1_
  cases y with
  | byt j=>refine oq11 ry λt' eq1_=>?_; subst eq1_; exact PySem.W.eq_bytes (aY I q dec_byt)
  | _=>exact absurd (show false=true from hs) Z2
 | _=>cases y <;> exact absurd (show false=true from hs) Z2
theorem oq:OpR X (U8 .NotEq) rNe:=by
 intro pins s σ H x y v u Q I rx ry h
 refine oq02 h λhs q=>?_
 cases x with
 | non =>
  cases rx
  cases y with
  | non=>cases ry; exact PySem.EqNone.ne_none_none (aY I q (by simp))
  | bl j=>cases ry; exact PySem.EqNone.ne_none_bool (aY I q (by simp))
  | int j=>refine oq11 ry λt' eq1_=>?_; subst eq1_; exact PySem.EqNone.ne_none_int (aY I q (by simp))
  | str j=>refine oq11 ry λt' eq1_=>?_; subst eq1_; exact PySem.EqNone.ne_none_str (aY I q (by simp))
  | _=>exact absurd (show false=true from hs) Z2
 | bl i =>
  cases rx
  cases y with
  | non=>cases ry; exact PySem.EqNone.ne_bool_none (aY I q (by simp))
  | bl j=>cases ry; exact ne_bool (aY I q (congrArg not dec_bl))
  | str j=>refine oq11 ry λt' eq1_=>?_; subst eq1_; exact PySem.EqMixed.ne_bool_str (aY I q (by simp))
  | _=>exact absurd (show false=true from hs) Z2
 | int i =>
  refine oq11 rx λt eq1_=>?_; subst eq1_
  cases y with
  | non=>cases ry; exact PySem.EqNone.ne_int_none (aY I q (by simp))
  | int j=>refine oq11 ry λt' eq1_=>?_; subst eq1_; exact ne_int (aY I q (congrArg not dec_int))
  | str j=>refine oq11 ry λt' eq1_=>?_; subst eq1_; exact PySem.EqMixed.ne_int_str (aY I q (by simp))
  | _=>exact absurd (show false=true from hs) Z2
 | str i =>
  refine oq11 rx λt eq1_=>?_; subst eq1_
  cases y with
  | non=>cases ry; exact PySem.EqNone.ne_str_none (aY I q (by simp))
  | bl j=>cases ry; exact PySem.EqMixed.ne_str_bool (aY I q (by simp))
  | int j=>refine oq11 ry λt' eq1_=>?_; subst eq1_; exact PySem.EqMixed.ne_str_int (aY I q (by simp))
  | str j=>refine oq11 ry λt' eq1_=>?_; subst eq1_; exact ne_str (aY I q (congrArg not dec_str))
  | _=>exact absurd (show false=true from hs) Z2
 | byt i =>
  refine oq11 rx λt eq1_=>?_; subst eq1_
  cases y with
  | byt j=>refine oq11 ry λt' eq1_=>?_; subst eq1_; exact PySem.W.ne_bytes (aY I q (congrArg not dec_byt))
  | _=>exact absurd (show false=true from hs) Z2
 | _=>cases y <;> exact absurd (show false=true from hs) Z2
theorem kq:OpR X (U8 .Lt) (rI0 λi j=>.bl (decide (i<j))):=opB0 λx x x x x x x q=>lt_int q
theorem op_le:OpR X (U8 .LtE) (rI0 λi j=>.bl (decide (i<=j))):=opB0 λx x x x x x x q=>le_int q
theorem op_gt:OpR X (U8 .Gt) (rI0 λi j=>.bl (decide (j<i))):=opB0 λx x x x x x x q=>gt_int q
theorem op_ge:OpR X (U8 .GtE) (rI0 λi j=>.bl (decide (j<=i))):=opB0 λx x x x x x x q=>ge_int q
theorem qz:OpR X (U8 .Is) (λx y H Q=>y=.non/\Q (.bl (decide (x=.non))) H):=by
 intro pins s σ H x y v u Q I rx ry h
 refine oq02 h λeq0_ q=>?_; subst eq0_
 cases ry
 refine is_none_gen (aY I q ?_)
 cases x <;> first
  | (cases rx; rfl)
  | (refine oq11 rx λt eq1_=>?_; subst eq1_; rfl)
theorem mM:OpR X (U8 .IsNot) (λx y H Q=>y=.non/\Q (.bl (!decide (x=.non))) H):=by
 intro pins s σ H x y v u Q I rx ry h
 refine oq02 h λeq0_ q=>?_; subst eq0_
 cases ry
 refine isnot_none_gen (aY I q ?_)
 cases x <;> first
  | (cases rx; rfl)
  | (refine oq11 rx λt eq1_=>?_; subst eq1_; rfl)
theorem aI (b:Expr) {op:CmpOp} (h:autoParam (op≠.In) L2.a0q._auto_1) (h2:autoParam (op≠.NotIn) L2.a0q._auto_1):B6 op b=false:=by
 have e1:(op == CmpOp.In)=false:=by cases op <;> first | rfl | exact absurd rfl h
 have e2:(op == CmpOp.NotIn)=false:=by cases op <;> first | rfl | exact absurd rfl h2
 cases b <;> simp [B6,e1,e2]
theorem mN {op:CmpOp} {r:R2} (ho:OpR X (U8 op) r) (ha:PE X a ta) (hb:PE X b tb) (hm:B6 op b=false):PE X (.Compare a [op] [b] pos) (tOp r ta tb):=by
 intro pins s σ H Q I h
 exact wpAny_Compare1 (binT ha hb I h λv u s2 x y H2 I2 rx ry q=>ho pins s2 σ H2 x y v u Q I2 rx ry q) hm
def tTest (t:TE):TT:=λσ H Q=>t σ H λx H'=>∃ k,x=.bl k/\Q k H'
theorem aB {op:CmpOp} {r:R2} (ho:OpR X (U8 op) r) (ha:PE X a ta) (hb:PE X b tb) (hm:B6 op b=false):PT X (.Compare a [op] [b] pos) (tTest (tOp r ta tb)):=by
 intro pins s σ H Q I h
 refine wpAny_isTrue_Compare1 (thn (ha pins s σ H _ I h) λv s1 zq=>oq23 zq λx H1 I1 r1 q1=>thn (hb pins s1 σ H1 _ I1 q1) λu s2 zq=>oq23 zq λy H2 I2 r2 q2 =>
  thn (ho pins s2 σ H2 x y v u _ I2 r1 r2 q2) λc s3 zq=>oq23 zq λz H3 I3 r3 zz=>oq12 zz λk e q3=>?_) hm
 subst e
 cases r3
 exact R8 ⟨H3,I3,q3⟩
def mO (r r':R2) (ta tb tc:TE):TE:=λσ H Q=>ta σ H λx H1=>tb σ H1 λy H2=>r x y H2 λz H3=>∃ k,z=.bl k /\
 (if k=true then tc σ H3 λw' H4=>r' y w' H4 Q else Q (.bl false) H3)
theorem ot {op op':CmpOp} {r r':R2} (ho:OpR X (U8 op) r) (ho':OpR X (U8 op') r') (ha:PE X a ta) (hb:PE X b tb) (hc:PE X c tc)
  (hm:autoParam (lastMarks [op,op'] [b,c]=false) L2.a3q._auto_1):PE X (.Compare a [op,op'] [b,c] pos) (mO r r' ta tb tc):=by
 intro pins s σ H Q I h
 refine Compare_chain (thn (ha pins s σ H _ I h) λv s1 zq=>oq23 zq λx H1 I1 r1 q1=>chain_link (thn (hb pins s1 σ H1 _ I1 q1) λu s2 zq=>oq23 zq λy H2 I2 r2 q2 =>
  thn (ho pins s2 σ H2 x y v u _ I2 r1 r2 q2) λd s3 zq=>oq23 zq λz H3 I3 r3 zz=>oq12 zz λk e q3=>?_)) hm
 subst e
 cases r3
 refine R8 ?_
 cases k with
 | false=>exact ite_ff ⟨.bl false,H3,I3,rfl,q3⟩
 | true=>exact ite_tt (chain_last (thn (hc pins s3 σ H3 _ I3 q3) λw' s4 zq=>oq23 zq λz' H4 I4 r4 q4=>ho' pins s4 σ H4 y z' u w' Q I4 r2 r4 q4))
theorem pt_chain {op op':CmpOp} {r r':R2} (ho:OpR X (U8 op) r) (ho':OpR X (U8 op') r') (ha:PE X a ta) (hb:PE X b tb) (hc:PE X c tc)
  (hm:autoParam (lastMarks [op,op'] [b,c]=false) L2.a3q._auto_1):PT X (.Compare a [op,op'] [b,c] pos) (tTest (mO r r' ta tb tc)):=by
 intro pins s σ H Q I h
 refine isTrue_chain (thn (ha pins s σ H _ I h) λv s1 zq=>oq23 zq λx H1 I1 r1 q1=>test_link (thn (hb pins s1 σ H1 _ I1 q1) λu s2 zq=>oq23 zq λy H2 I2 r2 q2 =>
  thn (ho pins s2 σ H2 x y v u _ I2 r1 r2 q2) λd s3 zq=>oq23 zq λz H3 I3 r3 zz=>oq12 zz λk e q3=>?_)) hm
 subst e
 cases r3
 refine R8 ?_
 cases k with
 | false =>
  refine oq12 q3 λk' e' q'=>?_
  cases e'
  exact ite_ff ⟨H3,I3,q'⟩
 | true =>
  refine ite_tt (test_last (thn (hc pins s3 σ H3 _ I3 q3) λw' s4 zq=>oq23 zq λz' H4 I4 r4 q4=>thn (ho' pins s4 σ H4 y z' u w' _ I4 r2 r4 q4) λd' s5 zq=>oq23 zq λz2 H5 I5 r5 zz=>oq12 zz λk2 e2 q5=>?_))
  subst e2
  cases r5
  exact R8 ⟨H5,I5,q5⟩
noncomputable def TruV (K:Z0) (x:V) (H:Hp) (k:Bool):Prop :=
 match x with
 | .non=>k=false
 | .bl b=>k=b
 | .int i=>k=(i != 0)
 | .str y=>y.length<=X7/\k=((y.length:Int) != 0)
 | .byt y=>y.size<=X7/\k=((y.size:Int) != 0)
 | .ref p=>(∃ xs,SqL K H p xs/\k=!xs.isEmpty)\/(∃ xs,SqT K H p xs/\k=!xs.isEmpty)\/∃ kvs,H p=some (.dK kvs)/\k=!kvs.isEmpty
 | _=>False
theorem qA {κ:Type} {kvs:List (κ × V)} {vs:List (κ × Value)} (r:KV kvs vs):(!vs.isEmpty)=!kvs.isEmpty:=by
 cases r <;> rfl
theorem kr {xs:List V} {its:List Value} (r:Vals xs its):(!its.toArray.isEmpty)=!xs.isEmpty:=by
 cases r <;> simp
theorem kt:(X7:Nat)<2 ^ 63:=by rw [X9]; decide
theorem tru_ok:TruR X (λx H Q=>∃ k,TruV X.K x H k/\Q k H):=by
 intro pins s σ H x v Q I rx h
 refine oq12 h λk e q=>?_
 have hl:=kt
 have hs:X7=16777216:=X9
 cases x with
 | non =>
  cases rx
  have e':k=false:=e
  subst e'
  exact truthy_none ⟨H,I,q⟩
 | bl b =>
  cases rx
  have e':k=b:=e
  subst e'
  exact R8 ⟨H,I,q⟩
 | int i =>
  refine oq11 rx λt eq1_=>?_; subst eq1_
  have e':k=(i != 0):=e
  subst e'
  exact PySem.P.truthy_int ⟨H,I,q⟩
 | str y =>
  refine oq11 rx λt eq1_=>?_; subst eq1_
  refine oq02 (show y.length<=X7/\k=((y.length:Int) != 0) from e) λhy e'=>?_
  subst e'
  exact PySem.P.truthy_str (by lia) ⟨H,I.tok _,q⟩
 | byt y =>
  refine oq11 rx λt eq1_=>?_; subst eq1_
  refine oq02 (show y.size<=X7/\k=((y.size:Int) != 0) from e) λhy e'=>?_
  subst e'
  exact PySem.W.truthy_bytes (by lia) ⟨H,I.tok _,q⟩
 | ref p =>
  cases rx
  have e':(∃ xs,SqL X.K H p xs/\k=!xs.isEmpty)\/(∃ xs,SqT X.K H p xs/\k=!xs.isEmpty)\/∃ kvs,H p=some (.dK kvs)/\k=!kvs.isEmpty:=e
  rcases e' with ⟨xs,hx,e'⟩ | ⟨xs,hx,e'⟩ | ⟨kvs,hx,e'⟩
  ·subst e'
   refine oq13 (I.list hx) λits r pl hz=>?_
   have hlen:=r.length
   exact wpAny_truthy_list pl.isList (by simp only [Y1]; lia) ⟨H,I.tok _,by rw [kr r]; exact q⟩
  ·subst e'
   refine oq13 (I.tuple hx) λits r pl hz=>?_
   have hlen:=r.length
   exact truthy_tuple pl (by simp only [Y1]; lia) ⟨H,I.tok _,by rw [kr r]; exact q⟩
  ·subst e'
   refine oq03 (show kvs.length<=X7/\(p == M5)=false/\∃ vs,KV kvs vs/\s.heap.DictOf (aZ X.prog X.w) p vs from I.hok p _ hx) λhz hS zz=>oq12 zz λvs r m=>?_
   have hlen:kvs.length=vs.length:=B5 r
   exact wpAny_truthy_dict hS m (by lia) ⟨H,I.tok _,by rw [qA r]; exact q⟩
 | _=>exact (show False from e).elim
theorem pt_truth (ha:PE X a ta) (he:∀ whole,isTrue a X.env whole=(do let v <- whole; standAt a.pos; holding [v] (truthy v))) :
  PT X a (λσ H Q=>ta σ H λx H'=>∃ k,TruV X.K x H' k/\Q k H'):=by
 intro pins s σ H Q I h
 exact isTrue_plain (thn (ha pins s σ H _ I h) λv s1 zq=>oq23 zq λx H1 I1 r1 q1=>tru_ok pins s1 σ H1 x v Q I1 r1 q1) (he _)
theorem vals1 {x:V} {us:List Value} (r:Vals [x] us):∃ u,us=[u]/\RelV x u:=by
 cases r with
 | cons r1 r2=>cases r2; exact ⟨_,rfl,r1⟩
theorem vals2 {x y:V} {us:List Value} (r:Vals [x,y] us):∃ u w',us=[u,w']/\RelV x u/\RelV y w':=by
 cases r with
 | cons r1 r2 =>
  cases r2 with
  | cons r3 r4=>cases r4; exact ⟨_,_,rfl,r1,r3⟩
theorem iz:gd X (.builtin "abs") (λxs H Q=>∃ i,xs=[.int i]/\Q (.int (if i<0 then -i else i)) H):=by
 intro pins s σ H xs us Q I r h
 refine oq12 h λi eq1_ q=>?_; subst eq1_
 refine oq12 (vals1 r) λu eq1_ zz=>oq11 zz λt eq3_=>?_; subst eq1_; subst eq3_
 exact call_abs_int λu tk=>⟨.int (if i<0 then -i else i),H,I.tok _,⟨_,rfl⟩,q⟩
theorem eg (hc:X.calm=true):gd X (.builtin "max") (λxs H Q=>∃ i j,xs=[.int i,.int j]/\Q (.int (if j > i then j else i)) H):=by
 intro pins s σ H xs us Q I r h
 refine oq22 h λi j eq2_ q=>?_; subst eq2_
 obtain ⟨u,w',rfl,⟨t,rfl⟩,⟨t',rfl⟩⟩:=vals2 r
 refine max_two_ints (I.ok.hd hc) λh' tk k=>⟨_,H,I.kept k,?_,q⟩
 by_cases hj:j > i
 ·rw [if_pos hj,if_pos hj]; exact ⟨_,rfl⟩
 ·rw [if_neg hj,if_neg hj]; exact ⟨_,rfl⟩
theorem eA (hc:X.calm=true):gd X (.builtin "min") (λxs H Q=>∃ i j,xs=[.int i,.int j]/\Q (.int (if j<i then j else i)) H):=by
 intro pins s σ H xs us Q I r h
 refine oq22 h λi j eq2_ q=>?_; subst eq2_
 obtain ⟨u,w',rfl,⟨t,rfl⟩,⟨t',rfl⟩⟩:=vals2 r
 refine min_two_ints (I.ok.hd hc) λh' tk k=>⟨_,H,I.kept k,?_,q⟩
 by_cases hj:j<i
 ·rw [if_pos hj,if_pos hj]; exact ⟨_,rfl⟩
 ·rw [if_neg hj,if_neg hj]; exact ⟨_,rfl⟩
theorem lW:gd X (.type "int") (λxs H Q=>(∃ i,xs=[.int i]/\Q (.int i) H)\/∃ k,xs=[.bl k]/\Q (.int (if k then 1 else 0)) H):=by
 intro pins s σ H xs us Q I r h
 rcases h with ⟨i,rfl,q⟩ | ⟨k,rfl,q⟩
 ·refine oq12 (vals1 r) λu eq1_ zz=>oq11 zz λt eq3_=>?_; subst eq1_; subst eq3_
  exact call_int_int ⟨.int i,H,I,⟨_,rfl⟩,q⟩
 ·refine oq12 (vals1 r) λu eq1_ r1=>?_; subst eq1_
  cases r1
  exact call_int_bool ⟨.int (if k then 1 else 0),H,I.tok _,⟨_,rfl⟩,q⟩
end
end L2
namespace L2
open PySem PySem.Spec PyProof.Rows
structure ObjM (h:Heap) (x dx C:Addr) (mA:Str->Option Value):Prop where
 obj:h.get? x=some (O3 C dx)
 ns:h.Ns1 dx mA
 ne:dx≠x
set_option tactic.hygienic true in
theorem lookIn_ns {h:Heap} {dx:Addr} {mA:Str->Option Value} (n:h.Ns1 dx mA):∃ od,h.get? dx=some od/\∀ name,PySem.W.lookIn name od=some (mA name):=by
 refine oq35 n λo es ep ho hd hk x hm=>?_
 refine ⟨o,ho,λname=>?_⟩
 have e:=hm name
 unfold nsFind findBy at e
 rw [<- Array.find?_toList] at e
 unfold PySem.W.lookIn
 rw [hd]
 dsimp only
 split
 ·rename_i y q
  rw [q] at e
  exact congrArg some e
 ·rename_i q
  rw [q] at e
  have a:es.toList.any (·.refKey)=false:=by
   rw [List.any_eq_false]
   intro y hy
   refine oq21 (hk y (Array.mem_toList_iff.mp hy)) λz t hkey=>?_
   simp [P1.refKey,hkey]
  have a':¬ es.toList.any (·.refKey)=true:=by rw [a]; exact Z2
  rw [if_neg a']
  exact congrArg some e
theorem ObjM.look {h:Heap} {x dx C:Addr} {mA:Str->Option Value} (I:ObjM h x dx C mA):∃ od,PySem.W.InstAt h x (O3 C dx) C (some od)/\∀ name,PySem.W.lookIn name od=some (mA name) :=
 let ⟨od,ho,hl⟩:=lookIn_ns I.ns
 ⟨od,⟨I.obj,rfl,rfl,ho⟩,hl⟩
section
variable {prog:X5} {w:World} {A:Around} {E:Value->Shared->Prop} {s:Shared} {K:Z0} {x dx C f:Addr} {mA:Str->Option Value} {name:Str} {v:Value}
theorem get_map {expr:Bool} {Q:Value->Shared->Prop} (X:K.In s.heap) (I:ObjM s.heap x dx C mA) (hg:L5 K C name=true) (hh:J6 K C=true)
  (ha:T3 K (.ref C) name=some none) (hv:mA name=some v) (hv':PySem.W.handedIn v=true) (h:Q v { s with toks:=s.toks+1 }) :
  wpAny (model prog w) A (getAttr (.ref x) name expr) Q E s:=by
 refine oq12 I.look λod J hl=>?_
 exact PySem.W.get_value X J (PySem.W.plainGet_of hg).1 (PySem.W.findObj_own hh ha rfl (by rw [hl,hv])) hv' h
theorem get_meth {pl:Sem Bool} {Q:Value × List Value->Shared->Prop} (X:K.In s.heap) (I:ObjM s.heap x dx C mA) (hg:L5 K C name=true)
  (hf:T3 K (.ref C) name=some (some (.ref f))) (ht:G6 K (.ref f)=true) (hv:mA name=none) (h:Q (.ref f,[.ref x]) s) :
  wpAny (model prog w) A (getMethod (.ref x) name pl) Q E s:=by
 refine oq12 I.look λod J hl=>?_
 exact PySem.W.method_fn X J (PySem.W.plainGet_of hg).1 (PySem.W.plainGet_of hg).2 hf (beq_iff_eq.mp ht) (by show (PySem.W.lookIn name od).map (·.isSome)=some false; rw [hl,hv]; rfl) h
theorem set_map {ns:List Str} {Q:Unit->Shared->Prop} (X:K.In s.heap) (I:ObjM s.heap x dx C mA)
  (hs:T3 K (.ref C) "__setattr__"=some (some (.builtin "object.__setattr__"))) (hp:D6 K C=true) (ht:PySem.W.takerIn K C name=some none) (hh:J6 K C=true)
  (hw:PySem.Within mA ns) (hsz:ns.length<=X7)
  (h:∀ h',ObjM h' x dx C (λy=>if y=name then some v else mA y)->Heap.SameBut dx s.heap h'->Q () { s with heap:=h',toks:=s.toks+2 }) :
  wpAny (model prog w) A (setAttr (.ref x) name v) Q E s:=by
 refine oq12 I.look λod J hl=>?_
 refine PySem.W.set_plain X J hs (PySem.W.osa_open (s:={ s with toks:=s.toks+1 }) (r:=none) X J hp ht λb=>?_)
 refine oq12 (PySem.W.any_some hh) λcd hc hd'=>?_
 have hx:s.heap.get? x=some ⟨.ref C,some dx,.plain,#[]⟩:=I.obj
 refine Z4 (Y6 (Z4 (Z4 (wpAny_loadPart hx (Z4 (PySem.W.Looks.here (s:={ s with toks:=s.toks+1 }) (PySem.W.looks_clsIn X hc) ?_))))))
 rw [hd']
 refine Y6 (a:=some dx) (Z4 (Y6 (Z4 ?_)))
 refine wpAny_nsSet1 (s:={ s with toks:=s.toks+1 }) I.ns λh' hn2 hs2=>?_
 refine oq33 (hn2.count (PySem.Within.cons name v hw)) λoD esD epD hoD hdD hcD=>?_
 refine Z4 (wpAny_lookBehind hoD (by rw [hdD]; exact pastItsLine_dict (nz4 hcD (by rw [W3]; lia))) ?_)
 exact Y6 (h _ ⟨(hs2.2 _ (T9 I.ne)).trans I.obj,hn2,I.ne⟩ hs2)
theorem make_map {R:Result->Shared->Prop} {vs:List Value} {kw:List (Str × Value)} (X:K.In s.heap) (hm:F9 K C=true)
  (hi:T3 K (.ref C) "__init__"=some (some (.ref f))) (hf:PySem.W.typeIn K (.ref f)=some (.type "function"))
  (h:D7 (model prog w) (A.under (.builtin "type.__call__" ⟨.ref C :: vs,kw⟩)) (.call (.ref f) ⟨.ref (s.heap.objs.size+1) :: vs,kw⟩) (PySem.W.InitBack (s.heap.objs.size+1) R)
   { s with heap:=(s.heap.push R9).push (O3 C s.heap.objs.size) }) :
  D7 (model prog w) A (.call (.ref C) ⟨vs,kw⟩) R s:=by
 obtain ⟨hh,g,d,t,os⟩:=s
 exact PySem.W.make_core (PySem.W.makes_of X hm) (PySem.W.looks_findIn X hi) (λself=>PySem.W.bind_fn X self hf) (.inl rfl) h
end
noncomputable def putF (f:Str) (v:V):List (Str × V)->List (Str × V)
 | []=>[(f,v)]
 | (g,x) :: r=>if g=f then (g,v) :: r else (g,x) :: putF f v r
theorem oA (f g:Str) (v:V):∀ fs:List (Str × V),(putF f v fs).lookup g=if g=f then some v else fs.lookup g:=by
 intro fs
 induction fs with
 | nil =>
  show O0 g [(f,v)]=_
  by_cases h:g=f
  ·have hb:(g == f)=true:=beq_iff_eq.mpr h
   simp only [O0,hb,if_pos h]
  ·have hb:(g == f)=false:=beq_eq_false_iff_ne.mpr h
   simp only [O0,hb,if_neg h]
 | cons p r ih =>
  cases p with | mk k x=>?_
  rw [show putF f v ((k,x) :: r)=(if k=f then (k,v) :: r else (k,x) :: putF f v r) from rfl]
  by_cases hk:k=f
  ·rw [if_pos hk]
   by_cases h:g=k
   ·have hb:(g == k)=true:=beq_iff_eq.mpr h
    simp only [O0,hb,if_pos (h.trans hk)]
   ·have hb:(g == k)=false:=beq_eq_false_iff_ne.mpr h
    simp only [O0,hb,if_neg (fun e:g=f=>h (e.trans hk.symm))]
  ·rw [if_neg hk]
   by_cases h:g=k
   ·have hb:(g == k)=true:=beq_iff_eq.mpr h
    simp only [O0,hb,if_neg (fun e:g=f=>hk (h.symm.trans e))]
   ·have hb:(g == k)=false:=beq_eq_false_iff_ne.mpr h
    simp only [O0,hb]
    exact ih
theorem lX (f:Str) (v:V):∀ fs:List (Str × V),f∈(putF f v fs).map (·.1)/\∀ g,g∈fs.map (·.1)->g∈(putF f v fs).map (·.1):=by
 intro fs
 induction fs with
 | nil=>exact ⟨V0,λg h=>nomatch h⟩
 | cons p r ih =>
  cases p with | mk k x=>?_
  refine oq02 ih λi1 i2=>?_
  rw [show putF f v ((k,x) :: r)=(if k=f then (k,v) :: r else (k,x) :: putF f v r) from rfl]
  by_cases hk:k=f
  ·rw [if_pos hk]
   subst hk
   exact ⟨by simp,λg h=>by simpa using h⟩
  ·rw [if_neg hk]
   refine ⟨?_,λg h=>?_⟩
   ·rw [W1]
    exact X2 _ i1
   ·rw [W1] at h ⊢
    rcases Z8.mp h with e | e
    ·exact Z8.mpr (.inl e)
    ·exact X2 _ (i2 g e)
theorem oB (f:Str) (v:V):∀ fs:List (Str × V),(putF f v fs).length<=fs.length+1:=by
 intro fs
 induction fs with
 | nil=>exact nz6 _
 | cons p r ih =>
  cases p with | mk k x=>?_
  rw [show putF f v ((k,x) :: r)=(if k=f then (k,v) :: r else (k,x) :: putF f v r) from rfl]
  by_cases hk:k=f
  ·rw [if_pos hk,W3,W3]; lia
  ·rw [if_neg hk,W3,W3]; lia
theorem RelO.some_of {v:V} {o:Option Value} (r:RelO (some v) o):∃ u,o=some u/\RelV v u:=by
 cases o with
 | none=>exact (show False from r).elim
 | some u=>exact ⟨u,rfl,r⟩
theorem RelO.none_of {o:Option Value} (r:RelO none o):o=none:=by
 cases o with
 | none=>rfl
 | some u=>exact (show False from r).elim
theorem handed_of {v:V} {u:Value} (r:RelV v u):PySem.W.handedIn u=true:=by
 cases v with
 | non=>cases (show u=M4 from r); rfl
 | bl b=>cases (show u=Value.bool b from r); rfl
 | int i=>refine oq11 ((show ∃ t,u=Q9 i t from r)) λt e=>?_; cases e; rfl
 | str x=>refine oq11 ((show ∃ t,u=Value.str x t from r)) λt e=>?_; cases e; rfl
 | byt b=>refine oq11 ((show ∃ t,u=Value.bytes b t from r)) λt e=>?_; cases e; rfl
 | flt b=>refine oq11 ((show ∃ t,u=Value.float b t from r)) λt e=>?_; cases e; rfl
 | ref a=>cases (show u=T1 a from r); rfl
 | ty n=>cases (show u=Value.type n from r); rfl
section
variable {P:X5} {w:World} {H:Hp} {h:Heap} {a C dx:Addr} {fs:List (Str × V)}
theorem mP (hok:HOk P w H h) (e:H a=some (.ins C dx fs)):∃ mA,ObjM h a dx C mA/\(∀ f,RelO (fs.lookup f) (mA f))/\PySem.Within mA (fs.map (·.1))/\fs.length<=1000/\H dx=some (.own a):=by
 refine oq05 ((show bS P w H h a (.ins C dx fs) from hok a _ e)) λd z ne ob zz=>oq13 zz λmA n r q=>?_
 exact ⟨mA,⟨ob,n,ne⟩,r,q,z,d⟩
end
structure Cls (K:Z0) (C:Addr):Prop where
 pg:L5 K C Str.empty=true
 hd:J6 K C=true
 po:D6 K C=true
 sa:T3 K (.ref C) "__setattr__"=some (some (.builtin "object.__setattr__"))
theorem Cls.get {K:Z0} {C:Addr} (c:Cls K C) (f:Str):L5 K C f=true:=c.pg
def bq (K:Z0) (C:Addr) (f:Str):Prop:=T3 K (.ref C) f=some none
theorem bq.taker {K:Z0} {C:Addr} {f:Str} (n:bq K C f):PySem.W.takerIn K C f=some none:=by
 unfold PySem.W.takerIn
 rw [show T3 K (.ref C) f=some none from n]
 rfl
structure Meth (K:Z0) (C:Addr) (m:Str) (f:Addr):Prop where
 at_:T3 K (.ref C) m=some (some (.ref f))
 fn:G6 K (.ref f)=true
 kp:U3 K (.ref f)=true
section
variable {X:Cx} {pins:List (Addr × Obj)} {σ:St} {H:Hp} {s:Shared} {a C dx:Addr} {fs:List (Str × V)} {f:Str} {v:V} {A:Around} {E:Value->Shared->Prop}
theorem qB {b:Bool} {Q:Value->Shared->Prop} (I:Inv X pins σ H s) (e:H a=some (.ins C dx fs)) (c:Cls X.K C) (n:bq X.K C f) (l:fs.lookup f=some v)
  (h:∀ u s',Inv X pins σ H s'->RelV v u->Q u s'):wpAny (model X.prog X.w) A (getAttr (.ref a) f b) Q E s:=by
 refine oq15 (mP I.hok e) λmA O r x x x=>?_
 refine oq12 (RelO.some_of (v:=v) (o:=mA f) (by rw [<- l]; exact r f)) λu hu ru=>?_
 exact get_map I.kIn O (c.get f) c.hd n hu (handed_of ru) (h u _ (I.tok _) ru)
theorem qC {m:Str} {g:Addr} {pl:Sem Bool} {Q:Value × List Value->Shared->Prop} (I:Inv X pins σ H s) (e:H a=some (.ins C dx fs)) (c:Cls X.K C) (k:Meth X.K C m g) (l:fs.lookup m=none)
  (h:Q (.ref g,[.ref a]) s):wpAny (model X.prog X.w) A (getMethod (.ref a) m pl) Q E s:=by
 refine oq15 (mP I.hok e) λmA O r x x x=>?_
 have hn:mA m=none:=RelO.none_of (by rw [<- l]; exact r m)
 exact get_meth I.kIn O (c.get m) k.at_ k.fn hn h
theorem qD {y:V} {u:Value} {Q:Unit->Shared->Prop} (I:Inv X pins σ H s) (e:H a=some (.ins C dx fs)) (c:Cls X.K C) (n:bq X.K C f) (hl:fs.length<1000) (ry:RelV y u)
  (h:∀ s',Inv X pins σ (upd H a (.ins C dx (putF f y fs))) s'->Q () s'):wpAny (model X.prog X.w) A (setAttr (.ref a) f u) Q E s:=by
 refine oq15 (mP I.hok e) λmA O r wi i ho=>?_
 have hz:(fs.map (·.1)).length<=X7:=by rw [Y0,X9]; lia
 refine set_map I.kIn O c.sa c.po n.taker c.hd wi hz λh' O' sb=>h _ ?_
 have hd:∃ o,h'.get? dx=some o:=oq32 O'.ns λo i i e' i=>⟨o,e'⟩
 refine I.write (x:=a) (e:=dx) (by rw [e]; exact E6) (.inr ho) (λb q hb z=>(sb.2 b hb).trans z) hd ?_
 refine ⟨by rw [am O.ne]; exact ho,?_,O.ne,O'.obj,_,O'.ns,λg=>?_,λg hg=>?_⟩
 ·have:=oB f y fs; lia
 ·show RelO ((putF f y fs).lookup g) (if g=f then some u else mA g)
  rw [oA]
  by_cases q:g=f
  ·rw [if_pos q,if_pos q]; exact ry
  ·rw [if_neg q,if_neg q]; exact r g
 ·by_cases q:g=f
  ·rw [q]; exact (lX f y fs).1
  ·refine (lX f y fs).2 g (wi g λz=>hg ?_)
   show (if g=f then some u else mA g)=none
   rw [if_neg q]; exact z
theorem Inv.made (I:Inv X pins σ H s):Inv X pins σ (upd (upd H s.heap.objs.size (.own (s.heap.objs.size+1))) (s.heap.objs.size+1) (.ins C s.heap.objs.size []))
  { s with heap:=(s.heap.push R9).push (O3 C s.heap.objs.size) }:=by
 have e1:(s.heap.push R9).get? s.heap.objs.size=some R9:=X3 s.heap rfl
 have e2:((s.heap.push R9).push (O3 C s.heap.objs.size)).get? (s.heap.objs.size+1)=some (O3 C s.heap.objs.size):=by
  have:=X3 (s.heap.push R9) (o:=O3 C s.heap.objs.size) rfl
  rwa [Heap.size_push] at this
 have e3:(s.heap.push R9).Ns s.heap.objs.size (λx=>none):=⟨R9,#[],_,e1,rfl,(λe he=>absurd he (by simp)),λx=>rfl⟩
 have I1:=I.laid (a:=s.heap.objs.size) (o:=.own (s.heap.objs.size+1)) (h':=s.heap.push R9) (t':=s.toks) (λb u q=>Z5 _ q) (nz6 _) ⟨_,e1⟩
 refine I1.laid (a:=s.heap.objs.size+1) (o:=.ins C s.heap.objs.size []) (t':=s.toks) (λb u q=>Z5 _ q) (nz3 (Heap.size_push _ _)) ?_
 have ne:s.heap.objs.size≠s.heap.objs.size+1:=nz7 (W4 _)
 refine ⟨by rw [am ne,ai],V5 _,ne,e2,λx=>none,(Heap.Ns1.of_empty e3).at λo q=>Z5 _ q,λx=>E6,λy hy=>absurd rfl hy⟩
theorem attr_of {prog:X5} {w:World} {env:Env} {e:Expr} {f:Str} {pos:Pos} {s:Shared} {Q:Value->Shared->Prop} (hb:F6 e f env (eval e env)=eval e env)
  (h:wpAny (model prog w) A (eval e env) (λo s₁=>wpAny (model prog w) A (getAttr o f true) Q E s₁) E s):wpAny (model prog w) A (eval (.Attribute e f pos) env) Q E s :=
 Attribute_any_ h (by rw [arm_eval_Attribute,hb])
end
def tFld (K:Z0) (ta:TE) (f:Str):TE:=λσ H Q=>ta σ H λx H1=>∃ a C dx fs v,x=.ref a/\H1 a=some (.ins C dx fs)/\Cls K C/\bq K C f/\fs.lookup f=some v/\Q v H1
def sFld (K:Z0) (ta tv:TE) (f:Str):TS:=λD σ H=>tv σ H λy H1=>ta σ H1 λx H2=>∃ a C dx fs,x=.ref a/\H2 a=some (.ins C dx fs)/\Cls K C/\bq K C f/\fs.length<1000 /\
 D.nx σ (upd H2 a (.ins C dx (putF f y fs)))
section
variable {X:Cx} {o e value:Expr} {f:Str} {pos pos':Pos} {ta tv:TE}
theorem pe_fld (he:PE X e ta) (hb:F6 e f X.env (eval e X.env)=eval e X.env):PE X (.Attribute e f pos) (tFld X.K ta f):=by
 intro pins s σ H Q I h
 refine attr_of hb (thn (he pins s σ H _ I h) λu s1 zq=>oq23 zq λx H1 I1 rx zz=>oq56 zz λa C dx fs v ex ea c n l q=>?_)
 subst ex
 obtain rfl:u=T1 a:=rx
 exact qB I1 ea c n l λu' s2 I2 ru=>⟨v,H1,I2,ru,q⟩
theorem jb (ha:PE X o ta) (hv:PE X value tv) (hs:swapsWith value (some (.Attribute o f pos')) pos.line X.env=pure false):PS X (.Assign [.Attribute o f pos'] value pos) (sFld X.K ta tv f):=by
 intro pins s σ H D I h
 refine plainObj_wpAny_Assign_Attribute (thn (hv pins s σ H _ I h) λu s1 zq=>oq23 zq λy H1 I1 ry q=>thn (ha pins s1 σ H1 _ I1 q) λov s2 zq=>oq23 zq λx H2 I2 rx zz=>oq46 zz λa C dx fs ex ea c n l q2=>?_) hs
 subst ex
 obtain rfl:ov=T1 a:=rx
 exact qD I2 ea c n l ry λs3 I3=>⟨σ,_,I3,q2⟩
end
end L2
namespace L2
open PySem PySem.Spec PyProof.Rows
structure Room (k:Nat) (A:Around):Prop where
 hd:A.handled=none
 dp:A.depth+3 * k+5<L6
 un:A.units+16 * k+200<cLine
theorem Room.mono {j k:Nat} {A:Around} (r:Room k A) (h:j<=k):Room j A:=⟨r.hd,by have:=r.dp; lia,by have:=r.un; lia⟩
theorem Room.deeper {k:Nat} {A:Around} (r:Room (k+1) A) (env:Env):Room k (A.deeper env) :=
 ⟨r.hd,by have:=r.dp; show A.depth+1+3 * k+5<_; lia,by have:=r.un; show A.units+3+16 * k+200<_; lia⟩
theorem Room.in1 {k:Nat} {A:Around} (r:Room (k+1) A):Room k A.in1 :=
 ⟨r.hd,by have:=r.dp; show A.depth+3 * k+5<_; lia,by have:=r.un; show A.units+1+16 * k+200<_; lia⟩
theorem qE {A:Around} {C:Addr} {us:List Value} {kw:List (Str × Value)}:(A.under (.builtin "type.__call__" ⟨.ref C :: us,kw⟩)).depth=A.depth+1:=by
 first | rfl | simp [Around.under,Code.weight,Code.isCreation,Code.isGuard,Code.isCaller,Code.frames,Code.isFrame,guardIds]
theorem qF {A:Around} {C:Addr} {us:List Value} {kw:List (Str × Value)}:(A.under (.builtin "type.__call__" ⟨.ref C :: us,kw⟩)).units=A.units+1:=by
 first | rfl | simp [Around.under,Code.cUnits,Code.frames,Code.isFrame]
theorem Room.make {k:Nat} {A:Around} (r:Room (k+1) A) (C:Addr) (us:List Value) (kw:List (Str × Value)):Room k (A.under (.builtin "type.__call__" ⟨.ref C :: us,kw⟩)) :=
 ⟨r.hd,by have:=r.dp; rw [qE]; omega,by have:=r.un; rw [qF]; omega⟩
theorem Room.depth {k:Nat} {A:Around} (r:Room k A):A.depth<L6:=by have:=r.dp; omega
theorem Room.units {k:Nat} {A:Around} (r:Room k A):A.units+64<cLine:=by have:=r.un; lia
def tNil:TA:=λx H Q=>Q [] H
def bg (ta:TE) (tr:TA):TA:=λσ H Q=>ta σ H λx H1=>tr σ H1 λxs H2=>Q (x :: xs) H2
section
variable {X:Cx} {e:Expr} {es:List Expr} {te:TE} {t:TA} {pos:Pos}
theorem aa:PA X [] tNil:=λx x x x H Q I h=>Calls.spliced_nil ⟨[],H,I,.nil,h⟩
theorem a8 (ha:PE X e te) (hr:PA X es t) (hs:autoParam (Y9 (e :: es) X.env=(false,eval e X.env) :: Y9 es X.env) L2.a2q._auto_1):PA X (e :: es) (bg te t):=by
 intro pos pins s σ H Q I h
 rw [hs]
 show wpAny _ _ (spliced ((false,eval e X.env) :: backTo pos (Y9 es X.env))) _ _ s
 refine Calls.spliced_cons (thn (ha pins s σ H _ I h) λu s1 zq=>oq23 zq λx H1 I1 r1 q1=>?_)
 exact thn (hr pos pins s1 σ H1 _ I1 q1) λus s2 zq=>oq23 zq λxs H2 I2 r2 q2=>⟨x :: xs,H2,I2,.cons r1 r2,q2⟩
def tTup (t:TA):TE:=λσ H Q=>t σ H λxs H1=>xs.length<=X7/\∀ p,H1 p=none->Q (.ref p) (upd H1 p (.tup xs))
def tLst (t:TA):TE:=λσ H Q=>t σ H λxs H1=>xs.length<=X7/\∀ p,H1 p=none->Q (.ref p) (upd H1 p (.lst xs))
theorem cH {x1} (h:PA X es t):PE X (.Tuple es x1 pos) (tTup t):=by
 intro pins s σ H Q I hq
 refine wpAny_Tuple_spliced (thn (h pos pins s σ H _ I hq) λus s1 zq=>oq24 zq λxs H1 I1 r z q=>⟨by rw [<- r.length]; exact z,?_⟩)
 have hf:H1 s1.heap.objs.size=none:=I1.hok.fresh (nz6 _)
 refine ⟨.ref s1.heap.objs.size,upd H1 s1.heap.objs.size (.tup xs),I1.laid (t':=s1.toks) (λb u e=>Z5 _ e) (nz6 _) ?_,rfl,q _ hf⟩
 exact ⟨z,us,r,⟨_,X3 _ rfl,rfl,_,rfl⟩⟩
theorem bW (h:PA X es t):PE X (.List es pos) (tLst t):=by
 intro pins s σ H Q I hq
 refine wpAny_List_spliced (thn (h pos pins s σ H _ I hq) λus s1 zq=>oq24 zq λxs H1 I1 r z q=>⟨by rw [<- r.length]; exact z,?_⟩)
 have hf:H1 s1.heap.objs.size=none:=I1.hok.fresh (nz6 _)
 refine ⟨.ref s1.heap.objs.size,upd H1 s1.heap.objs.size (.lst xs),I1.laid (t':=s1.toks) (λb u e=>Z5 _ e) (nz6 _) ?_,rfl,q _ hf⟩
 exact ⟨z,us,0,r,X3 _ rfl⟩
end
noncomputable abbrev Sp:=List V->Hp->VK->XK->Prop
noncomputable abbrev CXT:=List Env->Hp->Shared->XK->Value->Shared->Prop
structure Env0 (P:X5) (w:World) (K:Z0) (mg:Str->Option Value) (base:Heap) (A:Around) (outer:List Env) (s:Shared) (H:Hp):Prop where
 frames:A.frames=some outer
 mod:Mod K mg base
 bs:∀ b o,base.get? b=some o->s.heap.get? b=some o/\H b=none
 bsz:base.objs.size<=s.heap.objs.size
 funs:s.heap.FunFrames base outer
 frf:∀ b∈frs outer,H b=none
 hok:HOk P w H s.heap
 bare:AllBare s.gens
noncomputable def CE (outer:List Env) (P:X5) (w:World) (H:Hp) (s:Shared) (Q:VK) (u:Value) (s':Shared):Prop :=
 ∃ v H',s'.os=s.os/\AllBare s'.gens/\Un (frs outer) [] H H' s.heap s'.heap/\HOk P w H' s'.heap/\RelV v u/\Q v H'
noncomputable def CR (CX:CXT) (outer:List Env) (P:X5) (w:World) (H:Hp) (s:Shared) (Q:VK) (E:XK) (r:Result) (s':Shared):Prop :=
 match r with
 | .ok (.ret u)=>CE outer P w H s Q u s'
 | .ok _=>False
 | .error e=>CX outer H s E e s'
structure FnOk (P:X5) (w:World) (K:Z0) (mg:Str->Option Value) (base:Heap) (CX:CXT) (k:Nat) (f:Addr) (fd:K2) (ps:List Str) (sp:Sp):Prop where
 len:∀ vs H Q E,sp vs H Q E->vs.length=ps.length
 run:∀ (A:Around) (outer:List Env) (s:Shared) (H:Hp) (args:Args) (us:List Value) (vs:List V) (Q:VK) (E:XK),Room k A->Env0 P w K mg base A outer s H->BindsTo s fd args (ps.zip us)->Vals vs us->sp vs H Q E ->
  D7 (model P w) A (.call (.ref f) args) (CR CX outer P w H s Q E) s
theorem Env0.make {P:X5} {w:World} {K:Z0} {mg:Str->Option Value} {base:Heap} {A:Around} {outer:List Env} {s:Shared} {H:Hp} (e:Env0 P w K mg base A outer s H) (C:Addr) (us:List Value) (kw:List (Str × Value)) :
  Env0 P w K mg base (A.under (.builtin "type.__call__" ⟨.ref C :: us,kw⟩)) outer s H:=⟨by first | exact e.frames | (simpa [Around.under,Code.envs,Code.isFrame,pushEnvs] using e.frames),e.mod,e.bs,e.bsz,e.funs,e.frf,e.hok,e.bare⟩
section
variable {X:Cx} {pins:List (Addr × Obj)} {σ:St} {H:Hp} {s s':Shared}
theorem Inv.env0 (I:Inv X pins σ H s):Env0 X.prog X.w X.K X.mg X.base X.A X.stack s H :=
 ⟨I.ok.frames,I.ok.mod,I.bs,nz4 I.ok.bsz I.sz,I.stack,I.stkFree,I.hok,I.bare⟩
theorem Inv.after {Q:VK} {u:Value} (I:Inv X pins σ H s) (h:CE X.stack X.prog X.w H s Q u s'):EP X pins σ Q u s':=by
 refine oq26 h λv H' os bare un hok r q=>?_
 obtain ⟨hh,g,d,t,os'⟩:=s'
 obtain rfl:os'=s.os:=os
 exact ⟨v,H',I.call (h':=hh) (g':=g) (d':=d) (t':=t) (ch:=[]) un hok bare (λb z=>absurd z (by simp)),r,q⟩
end
def lY (sp:Sp) (dvs:List V) (E:XK) (t:TA):TE:=λσ H Q=>t σ H λvs H1=>sp (vs++dvs) H1 Q E
def lZ (C:Addr) (m:Str) (sp:Sp) (dvs:List V) (E:XK) (ta:TE) (t:TA):TE:=λσ H Q=>ta σ H λx H1=>∃ a dx fs,x=.ref a/\H1 a=some (.ins C dx fs)/\fs.lookup m=none /\
 t σ H1 λvs H2=>sp (x :: (vs++dvs)) H2 Q E
def tMake (C:Addr) (sp:Sp) (dvs:List V) (E:XK) (t:TA):TE:=λσ H Q=>t σ H λvs H1=>∀ x dx,H1 x=none->H1 dx=none->dx≠x ->
 sp (.ref x :: (vs++dvs)) (upd (upd H1 dx (.own x)) x (.ins C dx [])) (λv H2=>v=.non/\Q (.ref x) H2) E
noncomputable def Binds (K:Z0) (fd:K2) (ps:List Str) (ds:List Value):Prop :=
 ∀ (s:Shared) (us:List Value),K.In s.heap->(us++ds).length=ps.length->BindsTo s fd ⟨us,[]⟩ (ps.zip (us++ds))
theorem Binds.all {K:Z0} {fd:K2} {ps:List Str} (h:∀ us:List Value,us.length=ps.length->G0 fd ⟨us,[]⟩=pure (ps.zip us)):Binds K fd ps []:=λs us x hl=>by
 rw [T2] at hl ⊢
 exact .of_eq (h us hl)
def jc (CX:CXT) (X:Cx) (E:XK):Prop:=∀ (pins:List (Addr × Obj)) (σ:St) (H:Hp) (s:Shared) (e:Value) (s':Shared),Inv X pins σ H s->CX X.stack H s E e s'->X.xe e s'
section
variable {X:Cx} {CX:CXT} {k:Nat} {f C:Addr} {fd:K2} {ps:List Str} {sp:Sp} {dvs:List V} {ds:List Value} {E:XK} {x m:Str} {p pos apos:Pos} {e o:Expr} {es:List Expr} {ta:TE} {t:TA}
theorem run_fn {pins:List (Addr × Obj)} {σ:St} {H:Hp} {s:Shared} {Q:VK} {us:List Value} {vs:List V} (F:FnOk X.prog X.w X.K X.mg X.base CX k f fd ps sp) (hr:Room k X.A) (hb:Binds X.K fd ps ds) (hd:Vals dvs ds) (hx:jc CX X E)
  (I:Inv X pins σ H s) (r:Vals vs us) (h:sp (vs++dvs) H Q E):wpAny (model X.prog X.w) X.A (call (.ref f) us) (EP X pins σ Q) X.xe s:=by
 have r2:Vals (vs++dvs) (us++ds):=r.append hd
 have hl:(us++ds).length=ps.length:=by rw [<- r2.length]; exact F.len _ _ _ _ h
 refine wpAny_call (codeAny_mono (F.run X.A X.stack s H ⟨us,[]⟩ (us++ds) (vs++dvs) Q E hr I.env0 (hb s us I.kIn hl) r2 h) λr s' hq=>?_)
 cases r with
 | error e=>exact hx pins σ H s e s' I hq
 | ok fl =>
  cases fl with
  | ret u=>exact I.after hq
  | next=>exact R6 hq
  | brk=>exact R6 hq
  | cont=>exact R6 hq
theorem pe_call (F:FnOk X.prog X.w X.K X.mg X.base CX k f fd ps sp) (hr:Room k X.A) (hg:Gl X x) (hm:X.mg x=some (.ref f)) (hk:U3 X.K (.ref f)=true) (hb:Binds X.K fd ps ds) (hd:Vals dvs ds) (hx:jc CX X E)
  (ha:PA X (e :: es) t) (hdb:autoParam ((x == ("__debug__":Str))=false) L2.a0q._auto_1) (he:autoParam (Y9 (e :: es) X.env=(false,eval e X.env) :: Y9 es X.env) L2.a2q._auto_1) (hpl:autoParam ((backTo pos (Y9 es X.env)).any (·.1)=false) L2.a2q._auto_1) :
  PE X (.Call (.Name x p) (e :: es) [] pos) (lY sp dvs E t):=by
 intro pins s σ H Q I h
 refine P4 (ld_glob I hg hm ?_ hdb)
 refine PySem.W.callWith_K (h₀:=X.base) I.ok.mod.kin hk (thn (ha pos pins s σ H _ I h) λus s1 zq=>oq23 zq λvs H1 I1 r q=>⟨I1.kIn,?_⟩) he hpl
 exact run_fn F hr hb hd hx I1 r q
theorem pe_meth {pl:Sem Bool} (he:PE X o ta) (c:Cls X.K C) (hm:Meth X.K C m f) (F:FnOk X.prog X.w X.K X.mg X.base CX k f fd ps sp) (hr:Room k X.A) (hb:Binds X.K fd ps ds) (hd:Vals dvs ds) (hx:jc CX X E) (ha:PA X (e :: es) t)
  (hst:autoParam (Y9 (e :: es) X.env=(false,eval e X.env) :: Y9 es X.env) L2.a2q._auto_1) (hpl:autoParam ((backTo pos (Y9 es X.env)).any (·.1)=false) L2.a2q._auto_1)
  (ht:eval (.Call (.Attribute o m apos) (e :: es) [] pos) X.env=(do
   let ov <- eval o X.env
   standAt apos.atName
   let (f,first) <- holding [ov] (getMethod ov m pl)
   callWith pos f first (backTo pos (Y9 (e :: es) X.env)) (backToKw pos (keywordEach [] X.env))):=by rfl) :
  PE X (.Call (.Attribute o m apos) (e :: es) [] pos) (lZ C m sp dvs E ta t):=by
 intro pins s σ H Q I h
 refine PySem.W.methodCall_KW (pl:=pl) (thn (he pins s σ H _ I h) λu s1 zq=>oq23 zq λx H1 I1 rx zz=>oq34 zz λa dx fs ex ea l q=>?_) ht
 subst ex
 obtain rfl:u=T1 a:=rx
 refine qC I1 ea c hm l ?_
 refine PySem.W.callWith_K (first:=[.ref a]) (h₀:=X.base) I.ok.mod.kin hm.kp (thn (ha pos pins s1 σ H1 _ I1 q) λus s2 zq=>oq23 zq λvs H2 I2 r q2=>⟨I2.kIn,?_⟩) hst hpl
 exact run_fn (us:=.ref a :: us) (vs:=.ref a :: vs) F hr hb hd hx I2 (.cons rfl r) q2
structure Mk (K:Z0) (C f:Addr):Prop where
 makes:F9 K C=true
 init:T3 K (.ref C) "__init__"=some (some (.ref f))
 fn:G6 K (.ref f)=true
 kp:U3 K (.ref C)=true
theorem run_make {pins:List (Addr × Obj)} {σ:St} {H:Hp} {s:Shared} {Q:VK} {us:List Value} {vs:List V} (M:Mk X.K C f) (F:FnOk X.prog X.w X.K X.mg X.base CX k f fd ps sp) (hr:Room (k+1) X.A) (hb:Binds X.K fd ps ds) (hd:Vals dvs ds)
  (hx:jc CX X E) (I:Inv X pins σ H s) (r:Vals vs us)
  (h:∀ x dx,H x=none->H dx=none->dx≠x->sp (.ref x :: (vs++dvs)) (upd (upd H dx (.own x)) x (.ins C dx [])) (λv H2=>v=.non/\Q (.ref x) H2) E) :
  wpAny (model X.prog X.w) X.A (call (.ref C) us) (EP X pins σ Q) X.xe s:=by
 have hq:=h (s.heap.objs.size+1) s.heap.objs.size (I.hok.fresh (O8 _)) (I.hok.fresh (nz6 _)) (nz7 (W4 _))
 have I2:=Inv.made (C:=C) I
 have r2:Vals (V.ref (s.heap.objs.size+1) :: (vs++dvs)) (T1 (s.heap.objs.size+1) :: (us++ds)):=.cons rfl (r.append hd)
 have hl:(T1 (s.heap.objs.size+1) :: us++ds).length=ps.length:=by
  have e:=r2.length
  rw [F.len _ _ _ _ hq] at e
  exact e.symm
 refine wpAny_call (make_map (f:=f) I.kIn M.makes M.init (beq_iff_eq.mp M.fn) (codeAny_mono (F.run _ X.stack _ _ ⟨T1 (s.heap.objs.size+1) :: us,[]⟩ (T1 (s.heap.objs.size+1) :: (us++ds)) _ _ E (hr.make C us [])
  (I2.env0.make C us []) (hb _ (T1 (s.heap.objs.size+1) :: us) I2.kIn hl) r2 hq) λr s' hq'=>?_))
 cases r with
 | error e=>exact hx pins σ _ _ e s' I2 hq'
 | ok fl =>
  cases fl with
  | ret u =>
   refine oq24 (I2.after hq') λv H' I3 rv ev q3=>?_
   subst ev
   exact ⟨rv,⟨V.ref (s.heap.objs.size+1),H',I3,rfl,q3⟩⟩
  | next=>exact R6 hq'
  | brk=>exact R6 hq'
  | cont=>exact R6 hq'
theorem pe_make (M:Mk X.K C f) (F:FnOk X.prog X.w X.K X.mg X.base CX k f fd ps sp) (hr:Room (k+1) X.A) (hg:Gl X x) (hm:X.mg x=some (.ref C)) (hb:Binds X.K fd ps ds) (hd:Vals dvs ds) (hx:jc CX X E)
  (ha:PA X (e :: es) t) (hdb:autoParam ((x == ("__debug__":Str))=false) L2.a0q._auto_1) (he:autoParam (Y9 (e :: es) X.env=(false,eval e X.env) :: Y9 es X.env) L2.a2q._auto_1) (hpl:autoParam ((backTo pos (Y9 es X.env)).any (·.1)=false) L2.a2q._auto_1) :
  PE X (.Call (.Name x p) (e :: es) [] pos) (tMake C sp dvs E t):=by
 intro pins s σ H Q I h
 refine P4 (ld_glob I hg hm ?_ hdb)
 refine PySem.W.callWith_K (h₀:=X.base) I.ok.mod.kin M.kp (thn (ha pos pins s σ H _ I h) λus s1 zq=>oq23 zq λvs H1 I1 r q=>⟨I1.kIn,?_⟩) he hpl
 exact run_make M F hr hb hd hx I1 r q
end
structure FnScope (N P:List Str) (sc:Scope):Prop where
 kind:sc.kind=.function
 co:sc.isCoroutine=false
 gen:sc.isGenerator=false
 nd:N.Nodup
 pre:N.take P.length=P
 par:∀ x∈P,sc.names.lookup x=some .local\/sc.names.lookup x=some .cell
 nofree:∀ y∈sc.names,y.2≠.free
theorem bindL_out {kindOf:Str->Option Q4} {x:Str}:∀ {binds:List (Str × Value)} {m:Str->Option Value},(∀ v,(x,v) ∉ binds)->bindL kindOf binds m x=m x:=by
 intro binds
 induction binds with
 | nil=>exact λa=>rfl
 | cons y r ih =>
  intro m h
  cases y with | mk n v=>?_
  unfold bindL
  rw [ih λw hw=>h w (X2 _ hw)]
  have e:x≠n:=λz=>h v (z ▸ V0)
  split <;> first | rfl | exact if_neg e
theorem bindC_out {kindOf:Str->Option Q4} {x:Str}:∀ {binds:List (Str × Value)} {m:Str->Option Value},(∀ v,(x,v) ∉ binds)->bindC kindOf binds m x=m x:=by
 intro binds
 induction binds with
 | nil=>exact λa=>rfl
 | cons y r ih =>
  intro m h
  cases y with | mk n v=>?_
  unfold bindC
  rw [ih λw hw=>h w (X2 _ hw)]
  have e:x≠n:=λz=>h v (z ▸ V0)
  split <;> first | rfl | exact if_neg e
theorem bindL_get {kindOf:Str->Option Q4} {x:Str} {v:Value}:∀ {P:List Str} {vs:List Value} {i:Nat} {m:Str->Option Value},P.Nodup->P[i]?=some x->vs[i]?=some v->kindOf x=some .local ->
  bindL kindOf (P.zip vs) m x=some v:=by
 intro P
 induction P with
 | nil=>exact λa h=>nomatch h
 | cons p P ih =>
  intro vs i m nd h1 h2 hk
  cases vs with | nil=>exact nomatch h2 | cons w vs=>?_
  show bindL kindOf ((p,w) :: P.zip vs) m x=_
  unfold bindL
  cases i with
  | zero =>
   have e1:p=x:=Z3 h1
   rw [<- e1,bindL_out λv hv=>(E1.mp nd).1 (List.of_mem_zip hv).1,if_pos (e1 ▸ hk)]
   exact (if_pos rfl).trans h2
  | succ i=>exact ih (i:=i) (E1.mp nd).2 h1 h2 hk
theorem bindC_get {kindOf:Str->Option Q4} {x:Str} {v:Value}:∀ {P:List Str} {vs:List Value} {i:Nat} {m:Str->Option Value},P.Nodup->P[i]?=some x->vs[i]?=some v->kindOf x≠some .local ->
  bindC kindOf (P.zip vs) m x=some v:=by
 intro P
 induction P with
 | nil=>exact λa h=>nomatch h
 | cons p P ih =>
  intro vs i m nd h1 h2 hk
  cases vs with | nil=>exact nomatch h2 | cons w vs=>?_
  show bindC kindOf ((p,w) :: P.zip vs) m x=_
  unfold bindC
  cases i with
  | zero =>
   have e1:p=x:=Z3 h1
   rw [<- e1,bindC_out λv hv=>(E1.mp nd).1 (List.of_mem_zip hv).1,if_neg (e1 ▸ hk)]
   exact (if_pos rfl).trans h2
  | succ i=>exact ih (i:=i) (E1.mp nd).2 h1 h2 hk
noncomputable def start (N:List Str) (vs:List V):St:=vs.map some++V1 (N.length - vs.length) none
noncomputable def cxOf (CX:CXT) (P:X5) (w:World) (K:Z0) (mg:Str->Option Value) (base:Heap) (N:List Str) (qual:Str) (scope:Scope) (f:Addr) (cd:Value) (A:Around) (outer:List Env) (s:Shared) (H:Hp) (E:XK):Cx where
 prog:=P
 w:=w
 K:=K
 mg:=mg
 base:=base
 A:=A.deeper (envOfC qual scope s.heap.objs.size f cd)
 N:=N
 s₀:=s
 H₀:=H
 env:=envOfC qual scope s.heap.objs.size f cd
 outer:=outer
 stack:=envOfC qual scope s.heap.objs.size f cd :: outer
 ex:=[]
 calm:=true
 fn:=λx=>true
 pn:=[]
 xe:=λe s'=>wpAny (model P w) (A.deeper (envOfC qual scope s.heap.objs.size f cd)) (leaving (envOfC qual scope s.heap.objs.size f cd) e) (λx s''=>CX outer H s E e s'') (λe' s''=>CX outer H s E e' s'') s'
theorem oC {sc:Scope} {n:Nat} {x:Str} (h:sc.names.lookup x=some .cell):∃ c,(cellsFrom n sc.names []).lookup x=some c:=by
 have q:=PySem.W.cellsFrom_some sc.names n [] (.inl h)
 exact Option.isSome_iff_exists.mp q
theorem inv_start {CX:CXT} {P:X5} {w:World} {K:Z0} {mg:Str->Option Value} {base:Heap} {N ps:List Str} {qual:Str} {scope:Scope} {f:Addr} {cd:Value} {A:Around} {outer:List Env} {s s1:Shared} {H:Hp} {E:XK} {us:List Value} {vs:List V}
  (S:FnScope N ps scope) (hd:A.handled=none) (e0:Env0 P w K mg base A outer s H) (hl:vs.length=ps.length) (r:Vals vs us)
  (x:InCallC s s.heap.objs.size (bindL (envOfC qual scope s.heap.objs.size f cd).kindOf (ps.zip us) λt=>none) (cellsFrom (s.heap.objs.size+1) scope.names []) (bindC (envOfC qual scope s.heap.objs.size f cd).kindOf (ps.zip us) λt=>none) s1) :
  Inv (cxOf CX P w K mg base N qual scope f cd A outer s H E) [] (start N vs) H s1:=by
 have hpl:ps.length<=N.length:=by have:=congrArg G1 S.pre; rw [R4] at this; lia
 refine oq22 x.done λh1 tk eq2_ hk=>?_; subst eq2_
 have noA:∀ b:Addr,b ∉ (cxOf CX P w K mg base N qual scope f cd A outer s H E).ex:=λb z=>absurd (show b∈([]:List Addr) from z) (by simp)
 refine ⟨⟨e0.mod,S.kind,rfl,rfl,nz6 _,λy z c h1 h2=>?_,λy hy=>?_,λy c t h=>?_,λt=>hd,Around.frames_deeper e0.frames,.inr ⟨rfl,rfl⟩,λb z=>absurd z (noA b),e0.bs,e0.bsz,λb t t=>noA b,λb z=>absurd z (noA b),e0.funs,e0.frf⟩,
  rfl,e0.bare,Un.kept hk,⟨_,x.toInCall.ns,λi y v h1 h2 h3=>?_⟩,λy c h=>⟨_,x.cell y c h⟩,e0.hok.fresh (nz6 _),λy c h=>?_,λp hp=>absurd (show p∈([]:List (Addr × Obj)) from hp) (by simp),e0.hok.kept hk,?_⟩
 ·exact name_of_addr x.apart (U9 h1) (U9 h2)
 ·have hy:scope.names.lookup y=some .cell\/scope.names.lookup y=some .free:=hy
  rcases hy with hy | hy
  ·exact oC hy
  ·exact absurd rfl (S.nofree _ (U9 hy))
 ·exact nz5 (x.above y c (U9 h))
 ·have hi:i<vs.length:=by
   unfold start at h2
   by_cases hi:i<vs.length
   ·exact hi
   ·rw [W0 (by simpa using hi)] at h2
    rw [List.getElem?_replicate] at h2
    split at h2 <;> cases h2
  have ha:vs[i]?=some v:=by
   unfold start at h2
   rw [X4 (by simpa using hi),Z7] at h2
   cases e:vs[i]? with
   | none=>rw [e] at h2; cases h2
   | some a=>rw [e] at h2; cases h2; rfl
  refine oq12 (r.get ha) λu hu rv=>?_
  have hp:ps[i]?=some y:=by
   rw [<- S.pre,List.getElem?_take_of_lt (by lia)]; exact h1
  have ndP:ps.Nodup:=by rw [<- S.pre]; exact S.nd.sublist (List.take_sublist _ _)
  refine ⟨u,rv,?_⟩
  rcases S.par y (W6 hp) with k | k
  ·exact .inl ⟨k,bindL_get ndP hp hu k⟩
  ·refine oq11 (oC (n:=s.heap.objs.size+1) k) λc e=>?_
   refine .inr ⟨.inl k,c,e,?_⟩
   have q:=x.cell y c e
   rw [bindC_get ndP hp hu (by show scope.names.lookup y≠_; rw [k]; decide)] at q
   exact q
 ·exact e0.hok.fresh (nz5 (x.above y c (U9 h)))
 ·unfold start
  show _=N.length
  rw [W5,Y0,J0]
  lia
theorem fn_of {CX:CXT} {P:X5} {w:World} {K:Z0} {mg:Str->Option Value} {base:Heap} {k:Nat} {f:Addr} {name qual:Str} {params:D0} {body:List Stmt} {scope:Scope} {dV kV doc pm cdv ct oc:Value} {an od:Option Addr}
  {osl:Array (Option Value)} {N ps:List Str} {sp:Sp} (lk:K.lookup f=some ⟨oc,od,.func (U4 name qual params body scope dV kV doc pm an cdv ct),osl⟩) (hcd:R3 K cdv qual=true) (S:FnScope N ps scope)
  (len:∀ vs H Q E,sp vs H Q E->vs.length=ps.length)
  (hbody:∀ (A:Around) (outer:List Env) (s:Shared) (H:Hp) (vs:List V) (Q:VK) (E:XK),Room k (A.deeper (envOfC qual scope s.heap.objs.size f cdv))->sp vs H Q E ->
   ∃ t,PSs (cxOf CX P w K mg base N qual scope f cdv A outer s H E) body t/\t { nx:=λa H'=>Q .non H',rt:=Q } (start N vs) H) :
  FnOk P w K mg base CX (k+1) f (U4 name qual params body scope dV kV doc pm an cdv ct) ps sp:=by
 refine ⟨len,λA outer s H args us vs Q E hr e0 hb r hsp=>?_⟩
 have hl:=len _ _ _ _ hsp
 have KX:K.In s.heap:=e0.mod.kin.keeps λb o e=>(e0.bs b o e).1
 have lim:s.heap.NoLimit:=e0.mod.nolimit.keeps λb o e=>(e0.bs b o e).1
 have hkind:∀ y∈ps.zip us,scope.names.lookup y.1=some .local\/(scope.names.lookup y.1=some .cell/\((cellsFrom (s.heap.objs.size+1) scope.names []).lookup y.1).isSome=true):=λ⟨n,v⟩ hy=>by
  rcases S.par n (List.of_mem_zip hy).1 with q | q
  ·exact .inl q
  ·exact .inr ⟨q,PySem.W.cellsFrom_some _ _ _ (.inl q)⟩
 refine codeAny_call_function hr.depth (KX _ _ lk) rfl S.co S.gen rfl (PySem.W.codeRec_of KX hcd) (hb _ _ _ _ ?_)
 refine wpAny_newFunctionEnv_cells S.kind hkind λenv he s1 x=>?_
 subst he
 refine ⟨lim.keeps x.toInCall.keep,codeAny_func ?_⟩
 refine oq12 (hbody A outer s H vs Q E (hr.deeper _) hsp) λt ht hq=>?_
 have I:Inv (cxOf CX P w K mg base N qual scope f cdv A outer s H E) [] (start N vs) H s1:=inv_start S hr.hd e0 hl r x
 refine T0 (ht [] s1 (start N vs) H _ I hq) (λfl s' hs=>?_) λe s' hs=>hs
 have fin:∀ {σ':St} {H':Hp} {v:V} {u:Value},Inv (cxOf CX P w K mg base N qual scope f cdv A outer s H E) [] σ' H' s'->RelV v u->Q v H'->CE outer P w H s Q u s' :=
  λ{σ' H' v u} J rv q=>⟨v,H',J.os,J.bare,J.base,J.hok,rv,q⟩
 cases fl with
 | ret u =>
  refine oq33 hs λv σ' H' J rv q=>?_
  exact fin J rv q
 | next =>
  refine oq22 hs λσ' H' J q=>?_
  exact fin (v:=V.non) (u:=M4) J rfl q
 | brk =>
  refine oq22 hs λa a a q=>?_
  exact R6 q
 | cont =>
  refine oq22 hs λa a a q=>?_
  exact R6 q
end L2
namespace L2
open PySem PySem.Spec PyProof.Rows
section
variable {X:Cx} {x:Str} {p pos:Pos} {e:Expr} {es:List Expr} {t:TA} {id T:String} {r:List V->Hp->VK->Prop}
def tCB (r:List V->Hp->VK->Prop) (t:TA):TE:=λσ H Q=>t σ H λvs H1=>r vs H1 Q
theorem ay (hc:gd X (.builtin id) r) (hg:Gl X x) (hm:X.mg x=none) (hv:Q8 x=some (.builtin id)) (ha:PA X (e :: es) t) (hn:autoParam (x≠"__name__") L2.a0q._auto_1) (hdb:autoParam ((x == ("__debug__":Str))=false) L2.a0q._auto_1)
  (he:autoParam (Y9 (e :: es) X.env=(false,eval e X.env) :: Y9 es X.env) L2.a2q._auto_1) (hpl:autoParam ((backTo pos (Y9 es X.env)).any (·.1)=false) L2.a2q._auto_1):PE X (.Call (.Name x p) (e :: es) [] pos) (tCB r t):=by
 intro pins s σ H Q I h
 refine P4 (fL I hg hm hv ?_ hn hdb)
 exact PyProof.Rows.callWith_builtin1 (thn (ha pos pins s σ H _ I h) λus s1 zq=>oq23 zq λvs H1 I1 r1 q1=>hc pins s1 σ H1 vs us Q I1 r1 q1) he hpl
theorem jd (hc:gd X (.type T) r) (hg:Gl X x) (hm:X.mg x=none) (hv:Q8 x=some (.type T)) (ha:PA X (e :: es) t) (hn:autoParam (x≠"__name__") L2.a0q._auto_1) (hdb:autoParam ((x == ("__debug__":Str))=false) L2.a0q._auto_1)
  (he:autoParam (Y9 (e :: es) X.env=(false,eval e X.env) :: Y9 es X.env) L2.a2q._auto_1) (hpl:autoParam ((backTo pos (Y9 es X.env)).any (·.1)=false) L2.a2q._auto_1):PE X (.Call (.Name x p) (e :: es) [] pos) (tCB r t):=by
 intro pins s σ H Q I h
 refine P4 (fL I hg hm hv ?_ hn hdb)
 exact R1 (thn (ha pos pins s σ H _ I h) λus s1 zq=>oq23 zq λvs H1 I1 r1 q1=>hc pins s1 σ H1 vs us Q I1 r1 q1) he hpl
end
end L2
namespace HT
open PySem PyProof.Rows
noncomputable def lexLt:List Int->List Int->Bool
 | [],[]=>false
 | [],_ :: _=>true
 | _ :: _,[]=>false
 | x :: xs,y :: ys=>if x=y then lexLt xs ys else decide (x<y)
theorem qG (x y:Int) (xs ys:List Int):lexLt (x :: xs) (y :: ys)=if x=y then lexLt xs ys else decide (x<y):=rfl
theorem lD:lexLt [] []=false:=rfl
theorem kx (y:Int) (ys:List Int):lexLt [] (y :: ys)=true:=rfl
theorem ky (x:Int) (xs:List Int):lexLt (x :: xs) []=false:=rfl
theorem eqAt_int (A:Around) (s:Shared) (a:Int) (t:Tok) (c:Int) (u:Tok):∃ e,U1 A s (.int a t) (.int c u) e/\(e=true↔a=c) :=
 ⟨(a == c),U1.int_int a t c u,by simp⟩
theorem rcLt_int (A:Around) (s:Shared) (a:Int) (t:Tok) (c:Int) (u:Tok) (prog:X5) (w:World) (E:Value->Shared->Prop) (Q:Value->Shared->Prop) (h:Q (.bool (decide (a<c))) s) :
  wpAny (model prog w) A (richCompare .Lt (.int a t) (.int c u)) Q E s :=
 (PyProof.Rows.lt_int h:wpAny (model prog w) A (U8 .Lt (.int a t) (.int c u)) Q E s)
section
open PySem.SeqAt
open PySem.AutoSeq1 (wpAny_loadPart')
open PySem.MeetsSeq PySem.MeetsSeq2 PySem.MeetsSeq3
theorem lE (l b:Addr) (items items2:Array Value) (n n2:Nat) (dd dd2:Option Addr) (sl sl2:Array (Option Value)) (ns ms:List Int) (hi:O5 items.toList ns) (hj:O5 items2.toList ms) :
  Meets (N4.«tuple.__lt__» ⟨[.ref l,.ref b],[]⟩)
   (λi R s=>s.heap.get? l=some { cls:=.type "tuple",dict:=dd,data:=.seq items n,slots:=sl }/\s.heap.get? b=some { cls:=.type "tuple",dict:=dd2,data:=.seq items2 n2,slots:=sl2 } /\
    R (.ok (.ret (.bool (lexLt ns ms)))) s) :=
 .of_wp λprog w A R s h=>by
  obtain ⟨hp,g,d,tk,os⟩:=s; refine oq03 h λhl hb h=>?_
  have f2:=AutoSeq1.sub_tuple_tuple
  have z1:items.size=ns.length:=by rw [<- hi.length]; simp
  have z2:items2.size=ms.length:=by rw [<- hj.length]; simp
  wp_walk using wpAny_loadPart' hl,wpAny_loadPart' hb,wpAny_forIn_list _ (λrest b s'=>b.1=none/\s'=⟨hp,g,d,tk,os⟩/\∃ (vs ws:List Value) (ns' ms':List Int),rest=vs.zip ws /\
   O5 vs ns'/\O5 ws ms'/\ns'.length+items2.size=ms'.length+items.size/\R (.ok (.ret (.bool (lexLt ns' ms')))) ⟨hp,g,d,tk,os⟩) _
  case turn =>
   rintro ⟨y,x⟩ rest b s' ⟨hb',rfl,vs,ws,ns',ms',hz,hvi,hwi,hlen,hR⟩
   cases hvi with
   | nil=>rw [List.zip_nil_left] at hz; cases hz
   | cons a t hvi' =>
    cases hwi with
    | nil=>rw [List.zip_nil_right] at hz; cases hz
    | cons c u hwi' =>
     rw [List.zip_cons_cons] at hz
     injection hz with hyx hrest
     injection hyx with hy hx
     subst hy hx
     rw [qG] at hR
     simp only [W3] at hlen
     refine oq12 (eqAt_int A.in1 ⟨hp,g,d,tk,os⟩ a t c u) λe he hiff=>?_
     refine Z4 (he prog w _ _ ?_)
     cases e with
     | true =>
      rw [if_pos (hiff.mp rfl)] at hR
      wp_walk
      exact ⟨rfl,rfl,_,_,_,_,hrest,hvi',hwi',by lia,hR⟩
     | false =>
      rw [if_neg (λq=>absurd (hiff.mpr q) Z2)] at hR
      have hri:=rcLt_int A.in1 ⟨hp,g,d,tk,os⟩ a t c u prog w
      wp_walk using hri
      exact ⟨_,rfl,by simpa using hR⟩
  case fin =>
   rintro ⟨b1,b2⟩ s' ⟨hb',rfl,vs,ws,ns',ms',hz,hvi,hwi,hlen,hR⟩
   simp only at hb'
   subst hb'
   have hv:lexLt ns' ms'=decide (items.size<items2.size):=by
    cases hvi with
    | nil =>
     cases hwi with
     | nil =>
      simp only [N6] at hlen
      rw [lD]
      exact (decide_eq_false (by lia)).symm
     | cons c u hw =>
      simp only [N6,W3] at hlen
      rw [kx]
      exact (decide_eq_true (by lia)).symm
    | cons a t hv =>
     cases hwi with
     | nil =>
      simp only [N6,W3] at hlen
      rw [ky]
      exact (decide_eq_false (by lia)).symm
     | cons c u hw =>
      rw [List.zip_cons_cons] at hz
      cases hz
   rw [hv] at hR
   wp_walk
   exact ⟨_,rfl,by simpa [N4.Tuple.tupleCompareSizes] using hR⟩
  case h =>
   exact ⟨rfl,rfl,items.toList,items2.toList,ns,ms,rfl,hi,hj,by lia,h⟩
end
section
variable {prog:X5} {w:World} {A:Around} {E:Value->Shared->Prop} {s:Shared}
theorem kz {l b:Addr} {items items2:Array Value} {ns ms:List Int} {Q:Value->Shared->Prop} (hl:IsTup s.heap l items) (hb:IsTup s.heap b items2) (hi:O5 items.toList ns) (hj:O5 items2.toList ms)
  (hu:A.units<cLine) (h:Q (.bool (lexLt ns ms)) s):wpAny (model prog w) A (U8 .Lt (.ref l) (.ref b)) Q E s:=by
 obtain ⟨⟨cls,dd,data,sl⟩,ho,hc,n,hd⟩:=id hl
 obtain ⟨⟨cls2,dd2,data2,sl2⟩,ho2,hc2,n2,hd2⟩:=id hb
 simp only at hc hd hc2 hd2
 subst hc hd hc2 hd2
 exact richCompare_meets_room (op:=.Lt) ⟨_,ho,rfl⟩ ⟨_,ho2,rfl⟩ PySem.F.slot_tuple_lt PySem.F.entry_tuple_lt (PySem.F.args_tuple_lt_2 _ _) (lE l b items items2 n n2 dd dd2 sl sl2 ns ms hi hj)
  ⟨ho,ho2,show Value.bool (lexLt ns ms)≠Value.notImplemented/\Q (.bool (lexLt ns ms)) s from ⟨(λx=>nomatch x),h⟩⟩ hu
theorem cat_tup {t b:Addr} {vs ws:List Value} {Q:Value->Shared->Prop} (ht:IsTup s.heap t vs.toArray) (hb:IsTup s.heap b ws.toArray) (hv:vs≠[])
  (h1:ws=[]->Q (.ref t) s) (h2:ws≠[]->Q (.ref s.heap.objs.size) { s with heap:=s.heap.push { cls:=.type "tuple",data:=.seq (vs++ws).toArray } })
  (hsz:vs.length+ws.length<=X7):wpAny (model prog w) A (G9 .Add (.ref t) (.ref b)) Q E s:=by
 obtain ⟨⟨cls,dd,data,sl⟩,ho,hc,n,hd⟩:=id ht
 obtain ⟨⟨cls2,dd2,data2,sl2⟩,ho2,hc2,n2,hd2⟩:=id hb
 simp only at hc hd hc2 hd2
 subst hc hd hc2 hd2
 have e:vs.toArray++ws.toArray=(vs++ws).toArray:=by simp
 by_cases hw:ws=[]
 ·exact concat_meets ⟨_,ho,rfl⟩ ⟨_,ho2,rfl⟩ noFill_tuple_add seq_tuple_add PySem.F.slot_tuple_add PySem.F.entry_tuple_add (PySem.F.args_tuple_add_2 _ _)
   (tuple_addW1 t b vs.toArray ws.toArray n n2 dd dd2 sl sl2 (by simpa using hv) (by simp [hw])) ⟨ho,ho2,h1 hw⟩
 ·refine concat_meets ⟨_,ho,rfl⟩ ⟨_,ho2,rfl⟩ noFill_tuple_add seq_tuple_add PySem.F.slot_tuple_add PySem.F.entry_tuple_add (PySem.F.args_tuple_add_2 _ _)
   (tuple_addW2 t b vs.toArray ws.toArray n n2 dd dd2 sl sl2 (by simpa using hv) (by simpa using hw) (by rw [Y1,Y1]; exact hsz)) ⟨ho,ho2,?_⟩
  rw [e]
  exact h2 hw
noncomputable def sIx (n d:Nat):Option Int->Nat
 | none=>d
 | some v=>if v<0 then (v+(n:Int)).toNat else min v.toNat n
theorem sIx_none (n d:Nat):sIx n d none=d:=rfl
theorem mQ (n d k:Nat):sIx n d (some (k:Int))=min k n:=by
 show (if (k:Int)<0 then ((k:Int)+(n:Int)).toNat else min (k:Int).toNat n)=min k n
 rw [if_neg (by lia),X0]
end
end HT
namespace L2
open PySem PySem.Spec PyProof.Rows
noncomputable abbrev TO:=St->Hp->(Option Int->Hp->Prop)->Prop
noncomputable def PO (X:Cx) (e:Option Expr) (t:TO):Prop :=
 ∀ (pins:List (Addr × Obj)) (s:Shared) (σ:St) (H:Hp) (Q:Option Int->Hp->Prop),Inv X pins σ H s->t σ H Q ->
  wpAny (model X.prog X.w) X.A (evalPart e X.env) (λu s'=>∃ o H',Inv X pins σ H' s'/\IsPart u o/\Q o H') X.xe s
def tNoPart:TO:=λx H Q=>Q none H
def tPart (t:TE):TO:=λσ H Q=>t σ H λx H1=>∃ i,x=.int i/\Q (some i) H1
theorem intsAre_of {ns:List Int}:∀ {us:List Value},Vals (ns.map V.int) us->O5 us ns:=by
 induction ns with
 | nil=>intro us r; rw [List.map_nil] at r; cases r; exact .nil
 | cons n ns ih =>
  intro us r
  rw [W1] at r
  cases r with
  | cons r1 r2 =>
   refine oq11 r1 λt e=>?_
   subst e
   exact .cons n t (ih r2)
section
variable {X:Cx} {e:Expr} {te:TE} {lo hi:Option Expr} {tl th:TO} {pos p2:Pos}
theorem po_none:PO X none tNoPart:=by
 intro pins s σ H Q I h
 rw [evalPart_none]
 exact Y6 ⟨none,H,I,.none,h⟩
theorem dS (h:PE X e te):PO X (some e) (tPart te):=by
 intro pins s σ H Q I hw
 rw [evalPart_some]
 refine thn (h pins s σ H _ I hw) λu s1 zq=>oq23 zq λx H1 I1 r1 q1=>?_
 refine oq12 q1 λi eq1_ q=>?_; subst eq1_
 refine oq11 r1 λt eq1_=>?_; subst eq1_
 exact ⟨some i,H1,I1,.int i t,q⟩
noncomputable def SlR (X:Cx) (r:V->Option Int->Option Int->Hp->VK->Prop):Prop :=
 ∀ (pins:List (Addr × Obj)) (s:Shared) (σ:St) (H:Hp) (x:V) (v vl vu:Value) (lo hi:Option Int) (sl:Addr) (Q:VK),Inv X pins σ H s->RelV x v->s.heap.IsSliceOf sl vl vu .none->IsPart vl lo->IsPart vu hi->r x lo hi H Q ->
  ∃ T id,typeLookup (.type T) "__getitem__"=pure (some (.builtin id))/\s.TypeIs v T/\wpAny (model X.prog X.w) X.A (getItem v (.ref sl)) (EP X pins σ Q) X.xe s
def tSl (r:V->Option Int->Option Int->Hp->VK->Prop) (te:TE) (tl th:TO):TE:=λσ H Q=>te σ H λx H1=>tl σ H1 λl H2=>th σ H2 λu H3=>r x l u H3 Q
theorem gh {r:V->Option Int->Option Int->Hp->VK->Prop} (hr:SlR X r) (he:PE X e te) (hl:PO X lo tl) (hu:PO X hi th):PE X (.Subscript e (.Slice lo hi none p2) pos) (tSl r te tl th):=by
 intro pins s σ H Q I h
 refine Subscript_ (thn (he pins s σ H _ I h) λv s1 zq=>oq23 zq λx H1 I1 r1 q1=>?_)
 refine wpAny_Slice (thn (hl pins s1 σ H1 _ I1 q1) λvl s2 zq=>oq23 zq λl H2 I2 pl q2=>thn (hu pins s2 σ H2 _ I2 q2) λvu s3 zq=>oq23 zq λu H3 I3 pu q3=>?_)
 rw [evalPart_none]
 refine Y6 ?_
 have I4:Inv X pins σ H3 { s3 with heap:=s3.heap.push { cls:=.type "slice",data:=.fields #[vl,vu,.none] } }:=I3.kept (t':=s3.toks) λb ob q=>Z5 _ q
 refine oq23 (hr pins { s3 with heap:=s3.heap.push { cls:=.type "slice",data:=.fields #[vl,vu,.none] } } σ H3 x v vl vu l u s3.heap.objs.size Q I4 r1 (Heap.IsSliceOf.new ..) pl pu q3) λT id hT ht hg=>?_
 show wpAny (model X.prog X.w) X.A (subscriptTail e (.Slice lo hi none p2) v (.ref s3.heap.objs.size)) (EP X pins σ Q) X.xe { s3 with heap:=s3.heap.push { cls:=.type "slice",data:=.fields #[vl,vu,.none] } }
 exact tail_any (ops:=[.ref s3.heap.objs.size,v]) ht hT hg (by with_unfolding_all rfl)
noncomputable def cutV (xs:List V) (lo hi:Option Int):List V:=(xs.drop (HT.sIx xs.length 0 lo)).take (HT.sIx xs.length xs.length hi - HT.sIx xs.length 0 lo)
theorem oE (xs:List V) (lo hi:Option Int):(cutV xs lo hi).length<=xs.length:=by
 unfold cutV
 rw [R4,G7]
 omega
noncomputable def rLtT (K:Z0):R2:=λx y H Q=>∃ a b ns ms,x=.ref a/\y=.ref b/\SqT K H a (ns.map V.int)/\SqT K H b (ms.map V.int)/\Q (.bl (HT.lexLt ns ms)) H
theorem op_ltT (hu:X.A.units<cLine):OpR X (U8 .Lt) (rLtT X.K):=by
 intro pins s σ H x y v u Q I rx ry h
 refine oq45 h λa b ns ms eq4_ eq5_ ha hb q=>?_; subst eq4_; subst eq5_
 cases rx
 cases ry
 refine oq13 (I.tuple ha) λits r1 p1 a=>?_
 refine oq13 (I.tuple hb) λits2 r2 p2 a=>?_
 have i1:O5 its.toArray.toList ns:=intsAre_of r1
 have i2:O5 its2.toArray.toList ms:=intsAre_of r2
 exact HT.kz p1 p2 i1 i2 hu ⟨.bl (HT.lexLt ns ms),H,I,rfl,q⟩
noncomputable def rCatT (K:Z0):R2:=λx y H Q=>∃ a b xs ys,x=.ref a/\y=.ref b/\SqT K H a xs/\SqT K H b ys/\xs≠[]/\xs.length+ys.length<=X7 /\
 (ys=[]->Q (.ref a) H)/\(ys≠[]->∀ p,H p=none->Q (.ref p) (upd H p (.tup (xs++ys))))
theorem Vals.nil_iff {xs:List V} {us:List Value} (r:Vals xs us):us=[]↔xs=[]:=by
 cases r with
 | nil=>simp
 | cons _ _=>simp
theorem op_catT:OpR X (G9 .Add) (rCatT X.K):=by
 intro pins s σ H x y v u Q I rx ry h
 refine oq48 h λa b xs ys eq4_ eq5_ ha hb hx hz q1 q2=>?_; subst eq4_; subst eq5_
 cases rx
 cases ry
 refine oq13 (I.tuple ha) λits r1 p1 c=>?_
 refine oq13 (I.tuple hb) λits2 r2 p2 c=>?_
 refine HT.cat_tup p1 p2 (λz=>hx (r1.nil_iff.mp z)) (λz=>⟨.ref a,H,I,rfl,q1 (r2.nil_iff.mp z)⟩) (λz=>?_) (by rw [<- r1.length,<- r2.length]; exact hz)
 refine ⟨.ref s.heap.objs.size,_,I.laid (t':=s.toks) (o:=.tup (xs++ys)) (λb ob q=>Z5 _ q) (nz6 _) ?_,rfl,q2 (λw=>z (r2.nil_iff.mpr w)) _ (I.hok.fresh (nz6 _))⟩
 exact ⟨by rw [W5]; exact hz,_,r1.append r2,IsTup.new _ _⟩
end
end L2
namespace L2
open PySem PySem.Spec PyProof.Rows
noncomputable def ixN (n:Nat) (i:Int):Option Nat:=if 0<=i then (if i<n then some i.toNat else none) else if -(n:Int)<=i then some (i+n).toNat else none
noncomputable def atI {α:Type} (xs:List α) (i:Int):Option α:=(ixN xs.length i).bind λj=>xs[j]?
theorem ixN_seq {n:Nat} {i:Int} {j:Nat} (h:ixN n i=some j):seqIndex? i n=some j/\j<n/\-(n:Int)<=i/\i<n:=by
 unfold ixN at h
 by_cases h0:0<=i
 ·rw [if_pos h0] at h
  by_cases h1:i<n
  ·rw [if_pos h1] at h
   have e:i.toNat=j:=Z3 h
   exact ⟨by rw [seqIndex_of h0 h1,e],by lia,by lia,h1⟩
  ·rw [if_neg h1] at h; cases h
 ·rw [if_neg h0] at h
  by_cases h1:-(n:Int)<=i
  ·rw [if_pos h1] at h
   have e:(i+n).toNat=j:=Z3 h
   exact ⟨by rw [seqIndex_neg (by lia) h1,e],by lia,h1,by lia⟩
  ·rw [if_neg h1] at h; cases h
theorem atI_get {α:Type} {xs:List α} {i:Int} {v:α} (h:atI xs i=some v):∃ j,seqIndex? i xs.length=some j/\xs[j]?=some v/\j<xs.length/\-(xs.length:Int)<=i/\i<xs.length:=by
 unfold atI at h
 cases e:ixN xs.length i with
 | none=>rw [e] at h; cases h
 | some j =>
  rw [e] at h
  refine oq04 (ixN_seq e) λh1 h2 h3 h4=>?_
  exact ⟨j,h1,h,h2,h3,h4⟩
def PlainIx (b:Expr):Prop:=∀ o i,subscripted b false o i=operate [o,i] (getItem o i)
noncomputable def IxR (X:Cx) (r:R2):Prop :=
 ∀ (value slice:Expr) (pins:List (Addr × Obj)) (s:Shared) (σ:St) (H:Hp) (x y:V) (v u:Value) (Q:VK),Inv X pins σ H s->RelV x v->RelV y u->r x y H Q ->
  subscripted slice false v u=operate [v,u] (getItem v u)->wpAny (model X.prog X.w) X.A (subscriptTail value slice v u) (EP X pins σ Q) X.xe s
noncomputable def MtR (X:Cx) (id:String) (r:V->List V->Hp->VK->Prop):Prop :=
 ∀ (pins:List (Addr × Obj)) (s:Shared) (σ:St) (H:Hp) (x:V) (xs:List V) (v:Value) (us:List Value) (Q:VK),Inv X pins σ H s->RelV x v->Vals xs us->r x xs H Q ->
  wpAny (model X.prog X.w) X.A (call (.builtin id) (v :: us)) (EP X pins σ Q) X.xe s
section
variable {X:Cx} {a b:Expr} {ta tb:TE} {pos:Pos}
theorem aD {r:R2} (hr:IxR X r) (ha:PE X a ta) (hb:PE X b tb) (hs:PlainIx b):PE X (.Subscript a b pos) (tOp r ta tb):=by
 intro pins s σ H Q I h
 exact Subscript_ (binT ha hb I h λv u s2 x y H2 I2 rx ry q=>hr a b pins s2 σ H2 x y v u Q I2 rx ry q (hs _ _))
noncomputable def rIxL (K:Z0):R2:=λx y H Q=>∃ p xs i v,x=.ref p/\y=.int i/\SqL K H p xs/\atI xs i=some v/\Q v H
noncomputable def rIxT (K:Z0):R2:=λx y H Q=>∃ p xs i v,x=.ref p/\y=.int i/\SqT K H p xs/\atI xs i=some v/\Q v H
theorem ix_list:IxR X (rIxL X.K):=by
 intro value slice pins s σ H x y v u Q I rx ry h hs
 refine oq45 h λp xs i z eq4_ eq5_ hq he q=>?_; subst eq4_; subst eq5_
 cases rx
 refine oq11 ry λt eq1_=>?_; subst eq1_
 refine oq13 (I.list hq) λits r pl hz=>?_
 refine oq15 (atI_get he) λj h1 h2 h3 h4 h5=>?_
 refine oq12 (r.get h2) λw ew rw'=>?_
 have hl:=r.length
 have hn:=kt
 have fin:EP X pins σ Q w s:=⟨z,H,I,rw',q⟩
 by_cases h0:0<=i
 ·have hj:i.toNat=j:=by
   rw [seqIndex_of h0 h5] at h1
   exact Z3 h1
  exact item_listR pl.isList h0 (by lia) (by rw [hj]; simpa using ew) fin hs
 ·have hj:(i+(its.toArray.size:Int)).toNat=j:=by
   rw [seqIndex_neg (by lia) h4] at h1
   rw [Y1,<- hl]
   exact Z3 h1
  exact subscriptTail_builtinR (x:=w) pl.isList.typeIs slot_list_getitem.lookup
   (wpAny_getItem_list_neg (Q:=λr s'=>r=w/\EP X pins σ Q r s') pl.isList (by lia) (by rw [Y1] <;> lia) (by lia) (by rw [hj]; simpa using ew) ⟨rfl,fin⟩) hs
theorem ix_tup:IxR X (rIxT X.K):=by
 intro value slice pins s σ H x y v u Q I rx ry h hs
 refine oq45 h λp xs i z eq4_ eq5_ hq he q=>?_; subst eq4_; subst eq5_
 cases rx
 refine oq11 ry λt eq1_=>?_; subst eq1_
 refine oq13 (I.tuple hq) λits r pl hz=>?_
 refine oq15 (atI_get he) λj h1 h2 h3 h4 h5=>?_
 refine oq12 (r.get h2) λw ew rw'=>?_
 have hl:=r.length
 have hn:=kt
 have fin:EP X pins σ Q w s:=⟨z,H,I,rw',q⟩
 exact subscriptTail_builtinR (x:=w) pl.typeIs slot_tuple_getitem.lookup
  (getItem_tuple (j:=j) (Q:=λr s'=>r=w/\EP X pins σ Q r s') pl (by lia) (by lia) (by rw [Y1,<- hl]; exact h1) (by simpa using ew) ⟨rfl,fin⟩) hs
theorem qH (its:List Value) (n j:Nat) (u:Value):Y5 (·.setIfInBounds j u) { cls:=.type "list",data:=.seq its.toArray n }={ cls:=.type "list",data:=.seq (its.set j u).toArray n }:=by
 simp [Y5]
theorem Inv.lst {pins:List (Addr × Obj)} {σ:St} {H:Hp} {s:Shared} {p:Addr} {xs:List V} (I:Inv X pins σ H s) (h:H p=some (.lst xs)) :
  ∃ (its:List Value) (n:Nat),Vals xs its/\s.heap.get? p=some { cls:=.type "list",data:=.seq its.toArray n }/\xs.length<=X7:=by
 refine oq02 (I.hok p _ h) λz zz=>oq22 zz λits n r e=>?_
 exact ⟨its,n,r,e,z⟩
theorem Inv.lstUpd {pins:List (Addr × Obj)} {σ:St} {H:Hp} {s:Shared} {p:Addr} {xs ys:List V} {its its':List Value} {n n':Nat} {f:Obj->Obj} (I:Inv X pins σ H s) (h:H p=some (.lst xs))
  (ho:s.heap.get? p=some { cls:=.type "list",data:=.seq its.toArray n }) (hf:f { cls:=.type "list",data:=.seq its.toArray n }={ cls:=.type "list",data:=.seq its'.toArray n' }) (r:Vals ys its') (hz:ys.length<=X7) (t:Nat) :
  Inv X pins σ (upd H p (.lst ys)) { s with heap:=s.heap.update p f,toks:=t }:=by
 have e:(s.heap.update p f).get? p=some { cls:=.type "list",data:=.seq its'.toArray n' }:=by
  rw [Heap.get?_update_self f ho (by rw [hf] <;> rfl),hf]
 refine I.write (x:=p) (e:=p) (by rw [h]; trivial) (.inl rfl) (λb u hb q=>(Heap.get?_update_other _ _ (T9 hb)).trans q) ⟨_,e⟩ ?_
 exact ⟨hz,its',n',r,e⟩
def rSetL:V->V->V->Hp->(Hp->Prop)->Prop:=λo i v H Q=>∃ p xs k j,o=.ref p/\i=.int k/\H p=some (.lst xs)/\ixN xs.length k=some j/\Q (upd H p (.lst (xs.set j v)))
theorem set_list:PSet X rSetL:=by
 intro pins s σ H o i v ov iv u Q I ro ri rv h
 refine oq45 h λp xs k j eq4_ eq5_ hp hj q=>?_; subst eq4_; subst eq5_
 cases ro
 refine oq11 ri λt eq1_=>?_; subst eq1_
 refine oq23 (I.lst hp) λits n r ho hz=>?_
 refine oq04 (ixN_seq hj) λh1 h2 h3 h4=>?_
 have hl:=r.length
 have hn:=kt
 have I':Inv X pins σ (upd H p (.lst (xs.set j v))) { s with heap:=s.heap.update p (Y5 (·.setIfInBounds j u)) } :=
  I.lstUpd hp ho (qH its n j u) (r.set rv j) (by rw [V6]; exact hz) s.toks
 by_cases h0:0<=k
 ·have hk:k.toNat=j:=by
   rw [seqIndex_of h0 h4] at h1
   exact Z3 h1
  exact PySem.W.ki_setAt ho h0 (by lia) (by rw [Y1,<- hl]; exact h4) (by rw [hk]; exact ⟨_,I',q⟩)
 ·have hk:(k+(its.toArray.size:Int)).toNat=j:=by
   rw [seqIndex_neg (by lia) h3] at h1
   rw [Y1,<- hl]
   exact Z3 h1
  exact PySem.W.ki_setBack ho (by lia) (by rw [Y1,<- hl]; exact h3) (by lia) (by rw [hk]; exact ⟨_,I',q⟩)
theorem mR (lo hi:Option Int) (n:Nat):(D1 lo hi none n).1=((HT.sIx n 0 lo:Nat):Int)/\(D1 lo hi none n).2.1=((HT.sIx n n hi:Nat):Int)/\(D1 lo hi none n).2.2=1:=by
 refine ⟨?_,?_,rfl⟩
 ·cases lo with
  | none=>simp [D1,HT.sIx]
  | some i =>
   simp only [D1,HT.sIx,Option.getD_none,show (1:Int) > 0 by decide,if_true]
   by_cases h:i<0
   ·simp only [h,if_true] <;> lia
   ·simp only [h,if_false] <;> lia
 ·cases hi with
  | none=>simp [D1,HT.sIx]
  | some i =>
   simp only [D1,HT.sIx,Option.getD_none,show (1:Int) > 0 by decide,if_true]
   by_cases h:i<0
   ·simp only [h,if_true] <;> lia
   ·simp only [h,if_false] <;> lia
theorem lF (its:List Value) (lo hi:Option Int):slicePick its.toArray lo hi none=((its.drop (HT.sIx its.length 0 lo)).take (HT.sIx its.length its.length hi - HT.sIx its.length 0 lo)).toArray:=by
 refine oq03 (mR lo hi its.toArray.size) λh1 h2 h3=>?_
 unfold slicePick
 rw [h1,h2,h3]
 simp only [sliceRange_one,pick_run,Y1] <;> rfl
def rSlL (K:Z0):V->Option Int->Option Int->Hp->VK->Prop:=λx lo hi H Q=>∃ a xs,x=.ref a/\SqL K H a xs/\∀ p,H p=none->Q (.ref p) (upd H p (.lst (cutV xs lo hi)))
theorem sl_list:SlR X (rSlL X.K):=by
 intro pins s σ H x v vl vu lo hi sl Q I rx hs pl pu h
 refine oq23 h λa xs eq2_ hx q=>?_; subst eq2_
 cases rx
 refine oq13 (I.list hx) λits r ht hz=>?_
 have hlen:=r.length
 refine ⟨"list",_,slot_list_getitem.lookup,ht.isList.typeIs,?_⟩
 refine wpAny_getItem_list_slice ht.isList hs pl pu .none (by simp) ?_ (by rw [Y1] <;> lia)
 rw [lF,<- hlen]
 refine ⟨.ref s.heap.objs.size,_,I.laid (t':=s.toks) (o:=.lst (cutV xs lo hi)) (λb ob q=>Z5 _ q) (nz6 _) ?_,rfl,q _ (I.hok.fresh (nz6 _))⟩
 exact ⟨nz4 (oE xs lo hi) hz,_,0,(r.drop (HT.sIx xs.length 0 lo)).take (HT.sIx xs.length xs.length hi - HT.sIx xs.length 0 lo),X3 _ rfl⟩
noncomputable def i4:V->Bool
 | .non=>true
 | .bl _=>true
 | .int _=>true
 | .str _=>true
 | _=>false
noncomputable def eqV:V->V->Bool
 | .non,.non=>true
 | .bl a,.bl b=>a == b
 | .bl a,.int b=>(if a then 1 else 0) == b
 | .int a,.bl b=>a == (if b then 1 else 0)
 | .int a,.int b=>a == b
 | .str a,.str b=>a == b
 | _,_=>false
theorem eqAt_V {A:Around} {s:Shared} {y x:V} {u v:Value} (ry:RelV y u) (rx:RelV x v) (fy:i4 y=true) (fx:i4 x=true):U1 A s u v (eqV y x):=by
 cases y with
 | non =>
  cases ry
  cases x with
  | non=>cases rx; exact U1.same _
  | bl b=>cases rx; exact U1.none_bool b
  | int b=>refine oq11 rx λt eq1_=>?_; subst eq1_; exact U1.none_int b t
  | str b=>refine oq11 rx λt eq1_=>?_; subst eq1_; exact U1.none_str b t
  | _=>exact absurd (show false=true from fx) Z2
 | bl a =>
  cases ry
  cases x with
  | non=>cases rx; exact U1.bool_none a
  | bl b=>cases rx; exact U1.bool_bool a b
  | int b=>refine oq11 rx λt eq1_=>?_; subst eq1_; exact U1.bool_int a b t
  | str b=>refine oq11 rx λt eq1_=>?_; subst eq1_; exact U1.bool_str a b t
  | _=>exact absurd (show false=true from fx) Z2
 | int a =>
  refine oq11 ry λt' eq1_=>?_; subst eq1_
  cases x with
  | non=>cases rx; exact U1.int_none a t'
  | bl b=>cases rx; exact U1.int_bool a t' b
  | int b=>refine oq11 rx λt eq1_=>?_; subst eq1_; exact U1.int_int a t' b t
  | str b=>refine oq11 rx λt eq1_=>?_; subst eq1_; exact U1.int_str a t' b t
  | _=>exact absurd (show false=true from fx) Z2
 | str a =>
  refine oq11 ry λt' eq1_=>?_; subst eq1_
  cases x with
  | non=>cases rx; exact U1.str_none a t'
  | bl b=>cases rx; exact U1.str_bool a t' b
  | int b=>refine oq11 rx λt eq1_=>?_; subst eq1_; exact U1.str_int a t' b t
  | str b=>refine oq11 rx λt eq1_=>?_; subst eq1_; exact U1.str_str a t' b t
  | _=>exact absurd (show false=true from fx) Z2
 | _=>exact absurd (show false=true from fy) Z2
noncomputable def eqU (x:V) (u:Value):Bool:=match u with
 | .none=>eqV .non x
 | .bool b=>eqV (.bl b) x
 | .int i _=>eqV (.int i) x
 | .str z _=>eqV (.str z) x
 | _=>false
theorem eqU_of {x y:V} {u:Value} (r:RelV y u) (f:i4 y=true):eqU x u=eqV y x:=by
 cases y with
 | non=>cases r; rfl
 | bl b=>cases r; rfl
 | int i=>refine oq11 r λt eq1_=>?_; subst eq1_; rfl
 | str z=>refine oq11 r λt eq1_=>?_; subst eq1_; rfl
 | _=>exact absurd (show false=true from f) Z2
theorem any_eqU {x:V}:∀ {xs:List V} {us:List Value},Vals xs us->xs.all i4=true->us.any (eqU x)=xs.any λy=>eqV y x:=λp f=>by
 induction p with
 | nil=>rfl
 | cons r t ih =>
  rw [List.all_cons,N0] at f
  rw [M6,M6,eqU_of r f.1,ih f.2]
theorem oF {A:Around} {s:Shared} {x:V} {v:Value} (rx:RelV x v) (fx:i4 x=true):∀ {xs:List V} {us:List Value},Vals xs us->xs.all i4=true->∀ u∈us,U1 A s u v (eqU x u):=by
 intro xs us p
 induction p with
 | nil=>exact λa u hu=>nomatch hu
 | cons r t ih =>
  intro f u' hu
  rw [List.all_cons,N0] at f
  rcases Z8.mp hu with z | hu
  ·rw [z,eqU_of r f.1]; exact eqAt_V r rx f.1 fx
  ·exact ih f.2 u' hu
noncomputable def inV (x:V) (xs:List V):Bool:=xs.any λy=>eqV y x
noncomputable def rIn (K:Z0) (neg:Bool):R2:=λx y H Q=>∃ p xs,y=.ref p/\(SqL K H p xs\/SqT K H p xs)/\i4 x=true/\xs.all i4=true/\Q (.bl (if neg then !inV x xs else inV x xs)) H
theorem mS:OpR X (U8 .NotIn) (rIn X.K true):=by
 intro pins s σ H x y v u Q I rx ry h
 refine oq25 h λp xs eq2_ hq fx fs q=>?_; subst eq2_
 cases ry
 rcases hq with hq | hq
 ·refine oq13 (I.list hq) λits r pl hz=>?_
  refine SeqAt.notIn_listAt (eqU x) pl.isList (λw hw=>oF rx fx r fs w (by simpa using hw)) ⟨.bl _,H,I,rfl,?_⟩
  rw [show its.toArray.any (eqU x)=its.any (eqU x) by simp,any_eqU r fs]
  exact q
 ·refine oq13 (I.tuple hq) λits r pl hz=>?_
  refine SeqAt.notIn_tupleAt (eqU x) pl (λw hw=>oF rx fx r fs w (by simpa using hw)) ⟨.bl _,H,I,rfl,?_⟩
  rw [show its.toArray.any (eqU x)=its.any (eqU x) by simp,any_eqU r fs]
  exact q
theorem mT:gd X (.builtin "len") (λxs H Q=>∃ p ys,xs=[.ref p]/\(SqL X.K H p ys\/SqT X.K H p ys)/\Q (.int ys.length) H):=by
 intro pins s σ H xs us Q I r h
 refine oq23 h λp ys eq2_ hq q=>?_; subst eq2_
 refine oq12 (vals1 r) λu eq1_ rx=>?_; subst eq1_
 cases rx
 have hn:=kt
 rcases hq with hq | hq
 ·refine oq13 (I.list hq) λits r' pl hz=>?_
  have hlen:=r'.length
  exact Calls.call_len_list pl.isList (by simp only [Y1] <;> lia) ⟨.int ys.length,H,I.tok _,⟨s.toks+1,by rw [Y1,hlen]⟩,q⟩
 ·refine oq13 (I.tuple hq) λits r' pl hz=>?_
  have hlen:=r'.length
  exact len_tuple pl (by simp only [Y1] <;> lia) ⟨.int ys.length,H,I.tok _,⟨s.toks+1,by rw [Y1,hlen]⟩,q⟩
def tyV (K:Z0) (T:String) (x:V) (H:Hp):Prop:=match x with
 | .str _=>T="str"
 | .int _=>T="int"
 | .ref p=>(T="list"/\∃ xs,SqL K H p xs)\/(T="tuple"/\∃ o,K.lookup p=some o/\o.cls=.type "tuple"/\o.dict=none) \/
   (T="dict"/\((∃ kvs,H p=some (.dK kvs))\/∃ kvs,H p=some (.dT kvs)))\/(T="set"/\∃ S n,H p=some (.set S n))
 | _=>False
theorem tyV_is {pins:List (Addr × Obj)} {σ:St} {H:Hp} {s:Shared} {T:String} {x:V} {v:Value} (I:Inv X pins σ H s) (r:RelV x v) (ty:tyV X.K T x H) :
  s.TypeIs v T/\∀ a,v=.ref a->∃ ob,s.heap.get? a=some ob/\ob.dict=none:=by
 cases x with
 | str z =>
  refine oq11 r λt eq1_=>?_; subst eq1_
  cases (show T="str" from ty)
  exact ⟨typeIs_str s z t,λb e=>nomatch e⟩
 | int i =>
  refine oq11 r λt eq1_=>?_; subst eq1_
  cases (show T="int" from ty)
  exact ⟨typeIs_int s i t,λb e=>nomatch e⟩
 | ref p =>
  cases r
  rcases ty with ⟨rfl,xs,hq⟩ | ⟨rfl,o,hk,hc,hd⟩ | ⟨rfl,hk⟩ | ⟨rfl,S,n,hk⟩
  ·refine oq13 (I.list hq) λits b pl b=>?_
   refine ⟨pl.isList.typeIs,λa e=>?_⟩
   cases e
   refine oq24 pl λo n e c hd b=>?_
   exact ⟨o,e,hd⟩
  ·refine ⟨⟨o,I.kIn p o hk,hc⟩,λa e=>?_⟩
   cases e
   exact ⟨o,I.kIn _ o hk,hd⟩
  ·have z:∃ o,s.heap.get? p=some o/\o.ExactDict:=by
    rcases hk with ⟨kvs,hk⟩ | ⟨kvs,hk⟩
    ·refine oq03 (I.hok p _ hk) λb b zz=>oq12 zz λb b zz=>oq33 zz λo b b e ex b=>?_
     exact ⟨o,e,ex⟩
    ·refine oq03 (I.hok p _ hk) λb b zz=>oq12 zz λb b zz=>oq33 zz λo b b e ex b=>?_
     exact ⟨o,e,ex⟩
   refine oq12 z λo e ex=>?_
   refine ⟨⟨o,e,ex.1⟩,λa e2=>?_⟩
   cases e2
   exact ⟨o,e,ex.2.1⟩
  ·refine oq43 (I.hok p _ hk) λo b b b e ex b=>?_
   refine ⟨⟨o,e,ex.1⟩,λa e2=>?_⟩
   cases e2
   exact ⟨o,e,ex.2.1⟩
 | _=>exact R6 ty
def tBM (K:Z0) (T:String) (r:V->List V->Hp->VK->Prop) (to:TE) (t:TA):TE:=λσ H Q=>to σ H λx H1=>tyV K T x H1/\t σ H1 λxs H2=>r x xs H2 Q
variable {o e:Expr} {es:List Expr} {to:TE} {t:TA} {name:Str} {apos cpos:Pos} {T id:String} {r:V->List V->Hp->VK->Prop}
theorem pe_bm (pa:PlainAttrs T) (slot:Slot T name id) (hty:typeOf (.builtin id)=pure (.type "method_descriptor")) (hm:MtR X id r) (ho:PE X o to) (ha:PA X (e :: es) t)
  (hbase:autoParam (F6 o name X.env (eval o X.env)=eval o X.env) L2.a2q._auto_1)
  (hfew:((backTo cpos (Y9 (e :: es) X.env)).all (λx=>!x.1) && (backToKw cpos (keywordEach [] X.env)).all (λx=>x.1.isSome)
   && decide ((e :: es).length+([]:List Keyword).length+(if ([]:List Keyword).isEmpty then 0 else 1)<30))=true:=by rfl)
  (hline:autoParam ((apos.endLine == cpos.line)=true) L2.a2q._auto_1) (hs:autoParam (Y9 (e :: es) X.env=(false,eval e X.env) :: Y9 es X.env) L2.a2q._auto_1) (hplain:autoParam ((backTo cpos (Y9 es X.env)).any (·.1)=false) L2.a2q._auto_1) :
  PE X (.Call (.Attribute o name apos) (e :: es) [] cpos) (tBM X.K T r to t):=by
 intro pins s σ H Q I h
 refine wpAny_Call_method_late hbase hfew hline rfl (thn (ho pins s σ H _ I h) λv s1 zq=>oq24 zq λx H1 I1 r1 ty q1=>?_)
 refine oq02 (tyV_is I1 r1 ty) λh1 h2=>?_
 refine ⟨T,id,pa,slot,hty,h1,h2,?_⟩
 have hA:=ha cpos pins s1 σ H1 _ I1 q1
 rw [hs] at hA ⊢
 refine Calls.callWith_builtin (by show (false || (backTo cpos (Y9 es X.env)).any (·.1))=false; rw [hplain] <;> rfl) (Calls.evalArgs_plain ?_)
 exact thn hA λus s2 zq=>oq23 zq λvs H2 I2 r2 q2=>hm pins s2 σ H2 x vs v us Q I2 r1 r2 q2
end
end L2
namespace L2
open PySem PySem.Spec PyProof.Rows
noncomputable def MtM (X:Cx) (id:String) (r:V->List V->Hp->VK->Prop):Prop :=
 ∀ (pins:List (Addr × Obj)) (s:Shared) (σ:St) (H:Hp) (x:V) (xs:List V) (v:Value) (us:List Value) (Q:VK),Inv X pins σ H s->RelV x v->Vals xs us->r x xs H Q ->
  wpAny (model X.prog X.w) X.A (call (.builtin id) (v :: us)) (EP X pins σ Q) X.xe s
theorem Vals.one:∀ {x:V} {us:List Value},Vals [x] us->∃ u,us=[u]/\RelV x u:=λp=>by
 cases p with
 | cons r t=>cases t; exact ⟨_,rfl,r⟩
theorem Vals.eraseIdx:∀ {xs:List V} {us:List Value} (i:Nat),Vals xs us->Vals (xs.eraseIdx i) (us.eraseIdx i):=by
 intro xs us i p
 induction p generalizing i with
 | nil=>exact .nil
 | cons r t ih =>
  cases i with
  | zero=>exact t
  | succ i=>exact .cons r (ih i)
theorem m7 {α:Type}:∀ (l:List α) (i:Nat),(l.eraseIdx i).length<=l.length
 | [],_=>nz6 _
 | _ :: _,0=>O8 _
 | _ :: r,i+1=>C8 (m7 r i)
section
variable {X:Cx} {pins:List (Addr × Obj)} {σ:St} {H:Hp} {s:Shared} {l:Addr} {xs ys:List V}
theorem Inv.lset {its its':List Value} {n:Nat} {f:Array Value->Array Value} {t':Nat} (I:Inv X pins σ H s) (hH:H l=some (.lst xs))
  (e:s.heap.get? l=some { cls:=.type "list",data:=.seq its.toArray n }) (hf:f its.toArray=its'.toArray) (hv:Vals ys its') (hz:ys.length<=X7) :
  Inv X pins σ (upd H l (.lst ys)) { s with heap:=s.heap.update l (Y5 f),toks:=t' }:=by
 have q:=PySem.IsL.update e f
 rw [hf] at q
 refine I.write (x:=l) (e:=l) (by rw [hH]; exact trivial) (.inl rfl) (λb' u hb hu=>(Heap.get?_update_other s.heap (Y5 f) (T9 hb)).trans hu) ⟨_,q⟩ ?_
 exact ⟨hz,its',_,hv,q⟩
theorem Inv.lnew {its:List Value} {t':Nat} (I:Inv X pins σ H s) (hv:Vals ys its) (hz:ys.length<=X7) :
  Inv X pins σ (upd H s.heap.objs.size (.lst ys)) { s with heap:=s.heap.push { cls:=.type "list",data:=.seq its.toArray },toks:=t' } :=
 I.laid (λx x q=>Z5 _ q) (nz6 _) ⟨hz,its,0,hv,X3 _ rfl⟩
theorem Inv.fresh (I:Inv X pins σ H s):H s.heap.objs.size=none:=I.hok.fresh (nz6 _)
theorem Inv.lstM (I:Inv X pins σ H s) (hH:H l=some (.lst xs)):xs.length<=X7/\∃ (its:List Value) (n:Nat),Vals xs its/\xs.length=its.length/\s.heap.get? l=some { cls:=.type "list",data:=.seq its.toArray n }:=by
 refine oq02 (I.hok l _ hH) λz zz=>oq22 zz λits n r e=>?_
 exact ⟨z,its,n,r,r.length,e⟩
end
section
variable {X:Cx}
def rAppend:V->List V->Hp->VK->Prop:=λx vs H Q=>∃ l xs y,x=.ref l/\vs=[y]/\H l=some (.lst xs)/\xs.length<X7/\Q .non (upd H l (.lst (xs++[y])))
theorem cw:MtM X "list.append" rAppend:=by
 intro pins s σ H x vs v us Q I rx rv h
 refine oq35 h λl xs y eq3_ eq4_ hH hz q=>?_; subst eq3_; subst eq4_
 cases rx
 refine oq12 rv.one λu eq1_ ru=>?_; subst eq1_
 refine oq02 (I.lstM hH) λz zz=>oq23 zz λits n r hl e=>?_
 refine call_meets F.slot_list_append ⟨_,e,rfl⟩ F.entry_list_append (F.args_list_append_2 _ _) (PySem.list_append l its.toArray n u (by rw [Y1]; lia)) ⟨e,?_⟩
 refine ⟨.non,_,I.lset (its':=its++[u]) hH e (by simp) (r.append (.cons ru .nil)) ?_,rfl,q⟩
 rw [W5,J1]
 lia
def qI:V->List V->Hp->VK->Prop:=λx vs H Q=>∃ l xs i k y,x=.ref l/\vs=[.int i]/\H l=some (.lst xs)/\-(2 ^ 63)<=i/\i<2 ^ 63/\seqIndex? i xs.length=some k/\xs[k]?=some y/\Q y (upd H l (.lst (xs.eraseIdx k)))
theorem mt_popAt:MtM X "list.pop" qI:=by
 intro pins s σ H x vs v us Q I rx rv h
 refine oq58 h λl xs i k y eq5_ eq6_ hH h1 h2 hk hy q=>?_; subst eq5_; subst eq6_
 cases rx
 refine oq12 rv.one λu eq1_ ru=>?_; subst eq1_
 refine oq11 ru λt eq1_=>?_; subst eq1_
 refine oq02 (I.lstM hH) λz zz=>oq23 zz λits n r hl e=>?_
 refine oq12 (r.get hy) λw hw rw'=>?_
 refine call_meets F.slot_list_pop ⟨_,e,rfl⟩ F.entry_list_pop (F.args_list_pop_2 _ _)
  (MeetsSeq.list_pop_at l its.toArray n i t k w (fitsIndex_both h1 h2) (by rw [Y1,<- hl]; exact hk) (by rw [<- P3]; exact hw) (by rw [Y1]; lia)) ⟨e,?_⟩
 refine ⟨y,_,I.lset (its':=its.eraseIdx k) hH e ?_ (r.eraseIdx k) ?_,rw',q⟩
 ·show its.toArray.eraseIdxIfInBounds k=(its.eraseIdx k).toArray
  rw [List.eraseIdxIfInBounds_toArray]
 ·have:=m7 xs k
  lia
end
section
set_option maxRecDepth 100000 in
end
end L2
namespace L2
open PySem PySem.Spec PyProof.Rows
section
variable {κ:Type} [DecidableEq κ]
noncomputable def valV (kvs:List (κ × V)) (k:κ):Option V:=(kvs.find? λkv=>decide (kv.1=k)).map (·.2)
noncomputable def putK (kvs:List (κ × V)) (k:κ) (v:V):List (κ × V) :=
 if (kvs.any λkv=>decide (kv.1=k))=true then kvs.map (λkv=>if kv.1=k then (kv.1,v) else kv) else kvs++[(k,v)]
theorem iA {p:κ × V} {r:List (κ × V)} {k:κ} (e:p.1=k):valV (p :: r) k=some p.2:=by simp [valV,P2,e]
theorem iB {p:κ × V} {r:List (κ × V)} {k:κ} (e:¬ p.1=k):valV (p :: r) k=valV r k:=by simp [valV,P2,e]
theorem valV_any (k:κ):∀ kvs:List (κ × V),(kvs.any λkv=>decide (kv.1=k))=(valV kvs k).isSome:=by
 intro kvs
 induction kvs with
 | nil=>rfl
 | cons p r ih =>
  rw [M6]
  by_cases e:p.1=k
  ·simp only [iA e,decide_eq_true e,Bool.true_or,Option.isSome_some]
  ·rw [iB e,decide_eq_false e,Bool.false_or]; exact ih
theorem gi (kvs:List (κ × V)) (k:κ) (v:V):(putK kvs k v).length<=kvs.length+1:=by
 unfold putK
 split
 ·rw [Y0]; lia
 ·rw [W5,W3,N6]; lia
theorem RelO.isSome_eq {o:Option V} {u:Option Value} (r:RelO o u):o.isSome=u.isSome:=by
 cases o with
 | none=>cases u with
  | none=>rfl
  | some _=>exact (show False from r).elim
 | some _=>cases u with
  | none=>exact (show False from r).elim
  | some _=>rfl
theorem RelO.getD {o:Option V} {u:Option Value} {d:V} {d':Value} (r:RelO o u) (rd:RelV d d'):RelV (o.getD d) (u.getD d'):=by
 cases o with
 | none=>cases u with
  | none=>exact rd
  | some _=>exact (show False from r).elim
 | some _=>cases u with
  | none=>exact (show False from r).elim
  | some _=>exact r
theorem KV.val {kvs:List (κ × V)} {vs:List (κ × Value)} (r:KV kvs vs) (k:κ):RelO (valV kvs k) (valueAt vs k):=by
 unfold KV at r
 induction r with
 | nil=>exact E6
 | @cons p q ps qs h t ih =>
  refine oq02 h λh1 h2=>?_
  by_cases e:p.1=k
  ·have e':q.1=k:=h1.symm.trans e
   have b:valueAt (q :: qs) k=some q.2:=by simp [valueAt,P2,e']
   rw [iA e,b]; exact h2
  ·have e':¬ q.1=k:=λz=>e (h1.trans z)
   have b:valueAt (q :: qs) k=valueAt qs k:=by simp [valueAt,P2,e']
   rw [iB e,b]; exact ih
theorem KV.any {kvs:List (κ × V)} {vs:List (κ × Value)} (r:KV kvs vs) (k:κ):(kvs.any λkv=>decide (kv.1=k))=vs.any λkv=>decide (kv.1=k):=by
 unfold KV at r
 induction r with
 | nil=>rfl
 | cons h t ih=>rw [M6,M6,ih,h.1]
theorem KV.repl {kvs:List (κ × V)} {vs:List (κ × Value)} (r:KV kvs vs) (k:κ) {y:V} {u:Value} (ry:RelV y u) :
  KV (kvs.map λkv=>if kv.1=k then (kv.1,y) else kv) (vs.map λkv=>if kv.1=k then (kv.1,u) else kv):=by
 unfold KV at r ⊢
 induction r with
 | nil=>exact .nil
 | @cons p q ps qs h t ih =>
  rw [W1,W1]
  refine .cons ?_ ih
  refine oq02 h λh1 h2=>?_
  by_cases e:p.1=k
  ·rw [if_pos e,if_pos (h1.symm.trans e)]; exact ⟨h1,ry⟩
  ·rw [if_neg e,if_neg (λz=>e (h1.trans z))]; exact ⟨h1,h2⟩
theorem KV.put {kvs:List (κ × V)} {vs:List (κ × Value)} (r:KV kvs vs) (k:κ) {y:V} {u:Value} (ry:RelV y u):KV (putK kvs k y) (stored vs k u):=by
 unfold putK stored
 rw [r.any k]
 by_cases e:(vs.any λkv=>decide (kv.1=k))=true
 ·rw [if_pos e,if_pos e]; exact r.repl k ry
 ·rw [if_neg e,if_neg e]; exact Paired.snoc r ⟨rfl,ry⟩
theorem KV.length {kvs:List (κ × V)} {vs:List (κ × Value)} (r:KV kvs vs):kvs.length=vs.length:=B5 r
end
theorem kA {P:X5} {w:World} {k:Key} {u:Value} (r:RelV (kV k) u):(aZ P w).is k u=true:=by
 cases k with
 | inl i=>refine oq11 ((show ∃ t,u=Q9 i t from r)) λt e=>?_; subst e; exact o7 P w i t
 | inr x=>refine oq11 ((show ∃ t,u=Value.str x t from r)) λt e=>?_; subst e; exact o8 P w x t
theorem items_are {P:X5} {w:World}:∀ {ks:List Key} {us:List Value},Vals (ks.map kV) us->ItemsAre (aZ P w) ks us:=by
 intro ks
 induction ks with
 | nil=>intro us r; rw [List.map_nil] at r; cases r; exact .nil
 | cons k ks ih =>
  intro us r
  rw [W1] at r
  cases r with
  | cons h t=>exact .cons (kA h) (ih t)
abbrev KT (H:Hp):List (List Key × V)->List (List Key × Addr × Value)->Prop:=Paired λp q=>p.1=q.1/\H q.2.1=some (.tup (p.1.map kV))/\RelV p.2 q.2.2
theorem KT.val {H:Hp} {kvs:List (List Key × V)} {xs:List (List Key × Addr × Value)} (r:KT H kvs xs) (k:List Key):RelO (valV kvs k) ((atKey xs k).map (·.2)):=by
 induction r with
 | nil=>exact E6
 | @cons p q ps qs h t ih =>
  refine oq03 h λh1 x h2=>?_
  by_cases e:p.1=k
  ·have e':q.1=k:=h1.symm.trans e
   have b:atKey (q :: qs) k=some q.2:=by simp [atKey,P2,e']
   rw [iA e,b]; exact h2
  ·have e':¬ q.1=k:=λz=>e (h1.trans z)
   have b:atKey (q :: qs) k=atKey qs k:=by simp [atKey,P2,e']
   rw [iB e,b]; exact ih
theorem KT.repl {H:Hp} {kvs:List (List Key × V)} {xs:List (List Key × Addr × Value)} (r:KT H kvs xs) (k:List Key) {y:V} {u:Value} (ry:RelV y u) :
  KT H (kvs.map λkv=>if kv.1=k then (kv.1,y) else kv) (xs.map (putAt k u)):=by
 induction r with
 | nil=>exact .nil
 | @cons p q ps qs h t ih =>
  rw [W1,W1]
  refine .cons ?_ ih
  refine oq03 h λh1 h2 h3=>?_
  unfold putAt
  by_cases e:p.1=k
  ·rw [if_pos e,if_pos (h1.symm.trans e)]; exact ⟨h1,h2,ry⟩
  ·rw [if_neg e,if_neg (λz=>e (h1.trans z))]; exact ⟨h1,h2,h3⟩
theorem KT.put {H:Hp} {kvs:List (List Key × V)} {xs:List (List Key × Addr × Value)} (r:KT H kvs xs) (k:List Key) {b:Addr} {y:V} {u:Value} (hb:H b=some (.tup (k.map kV))) (ry:RelV y u) :
  KT H (putK kvs k y) (storedH xs k b u):=by
 have e:(kvs.any λkv=>decide (kv.1=k))=(atKey xs k).isSome:=by
  rw [valV_any,(r.val k).isSome_eq,J7]
 unfold putK storedH
 rw [e]
 by_cases q:(atKey xs k).isSome=true
 ·rw [if_pos q,if_pos q]; exact r.repl k ry
 ·rw [if_neg q,if_neg q]; exact Paired.snoc r ⟨rfl,hb,ry⟩
theorem KT.keeps {H H':Hp} {kvs:List (List Key × V)} {xs:List (List Key × Addr × Value)} (r:KT H kvs xs) (ht:∀ b ys,H b=some (.tup ys)->H' b=some (.tup ys)):KT H' kvs xs :=
 Paired.mapP r λx x z=>⟨z.1,ht _ _ z.2.1,z.2.2⟩
section
variable {P:X5} {w:World} {H:Hp} {h:Heap} {a:Addr}
theorem rd_of {u:HO} (ok:HOk P w H h) (e:Rd H a u):bS P w H h a u:=e.ok ok
theorem kB {kvs:List (Key × V)} (ok:HOk P w H h) (e:Rd H a (.dK kvs)):kvs.length<=X7/\(a == M5)=false/\∃ vs,KV kvs vs/\h.DictOf (aZ P w) a vs :=
 show bS P w H h a (.dK kvs) from rd_of ok e
theorem dk_of {kvs:List (Key × V)} (ok:HOk P w H h) (e:H a=some (.dK kvs)):kvs.length<=X7/\(a == M5)=false/\∃ vs,KV kvs vs/\h.DictOf (aZ P w) a vs:=kB ok (.inl e)
theorem je {ks:List Key} (ok:HOk P w H h) (e:H a=some (.tup (ks.map kV))):(tupleKind (aZ P w)).is h ks a:=by
 refine oq02 ((show bS P w H h a (.tup (ks.map kV)) from ok a _ e)) λx zz=>oq12 zz λits r zz=>oq13 zz λo h1 h2 zz=>oq11 zz λn h3=>?_
 exact ⟨o,its.toArray,n,h1,h2,h3,by simpa using items_are r⟩
theorem kC {kvs:List (List Key × V)} (ok:HOk P w H h) (e:Rd H a (.dT kvs)):kvs.length<=X7/\(a == M5)=false /\
  ∃ xs,KT H kvs xs/\h.DictOfH (tupleKind (aZ P w)) a xs:=by
 refine oq03 ((show bS P w H h a (.dT kvs) from rd_of ok e)) λz y zz=>oq12 zz λxs r zz=>oq35 zz λo es ep h1 h2 h3 h4 h5=>?_
 refine ⟨z,y,xs,r,o,es,ep,h1,h2,h3,h4,λx hx=>?_,h5⟩
 have all:∀ {l:List (List Key × V)} {m:List (List Key × Addr × Value)},KT H l m->∀ x∈m,(tupleKind (aZ P w)).is h x.1 x.2.1:=by
  intro l m q
  induction q with
  | nil=>intro x hx; exact nomatch hx
  | @cons p q ps qs hq t ih =>
   intro x hx
   rcases Z8.mp hx with e | hx
   ·subst e
    exact je ok (by rw [<- hq.1]; exact hq.2.1)
   ·exact ih x hx
 exact all r x hx
theorem dt_of {kvs:List (List Key × V)} (ok:HOk P w H h) (e:H a=some (.dT kvs)):kvs.length<=X7/\(a == M5)=false /\
  ∃ xs,KT H kvs xs/\h.DictOfH (tupleKind (aZ P w)) a xs:=kC ok (.inl e)
end
noncomputable def DGet (H:Hp) (a:Addr) (y:V) (r:Option V):Prop :=
 (∃ kvs k,Rd H a (.dK kvs)/\y=kV k/\r=valV kvs k)\/∃ kvs k b,Rd H a (.dT kvs)/\y=.ref b/\H b=some (.tup (k.map kV))/\r=valV kvs k
noncomputable def DPut (H:Hp) (a:Addr) (y v:V) (H':Hp):Prop :=
 (∃ kvs k,H a=some (.dK kvs)/\y=kV k/\kvs.length<X7/\H'=upd H a (.dK (putK kvs k v))) \/
 ∃ kvs k b,H a=some (.dT kvs)/\y=.ref b/\H b=some (.tup (k.map kV))/\kvs.length<X7/\H'=upd H a (.dT (putK kvs k v))
theorem DGet.k {H:Hp} {a:Addr} {kvs:List (Key × V)} {k:Key} (e:H a=some (.dK kvs)):DGet H a (kV k) (valV kvs k):=.inl ⟨kvs,k,.inl e,rfl,rfl⟩
theorem DPut.k {H:Hp} {a:Addr} {kvs:List (Key × V)} {k:Key} {v:V} (e:H a=some (.dK kvs)) (hl:kvs.length<X7):DPut H a (kV k) v (upd H a (.dK (putK kvs k v))):=.inl ⟨kvs,k,e,rfl,hl,rfl⟩
section
variable {X:Cx} {pins:List (Addr × Obj)} {σ:St} {H:Hp} {s:Shared} {a:Addr} {y v:V} {u r:Value} {o:Option V} {A:Around} {E:Value->Shared->Prop}
theorem Inv.big (I:Inv X pins σ H s):M5<s.heap.objs.size:=by
 have h:U2<s.heap.objs.size:=(I.mod.glob.keeps I.bk).lt
 exact nz8 (by decide) h
theorem d_getItem {Q:Value->Shared->Prop} (hu:A.units+1<cLine) (I:Inv X pins σ H s) (g:DGet H a y (some v)) (ry:RelV y u) (h:∀ w' s',Inv X pins σ H s'->RelV v w'->Q w' s') :
  wpAny (model X.prog X.w) A (getItem (.ref a) u) Q E s:=by
 rcases g with ⟨kvs,k,e,ey,l⟩ | ⟨kvs,k,b,e,ey,eb,l⟩
 ·subst ey
  refine oq03 (kB I.hok e) λz hd zz=>oq12 zz λvs rel dd=>?_
  refine oq12 (RelO.some_of (v:=v) (o:=valueAt vs k) (by rw [l]; exact rel.val k)) λw' hw rw'=>?_
  exact wpAny_getItem_of (kA ry) dd.mapOf hw (h w' _ (I.tok _) rw')
 ·subst ey
  cases (show u=T1 b from ry)
  refine oq03 (kC I.hok e) λz hd zz=>oq12 zz λxs rel dd=>?_
  refine oq12 (RelO.some_of (v:=v) (o:=(atKey xs k).map (·.2)) (by rw [l]; exact rel.val k)) λw' hw rw'=>?_
  refine oq12 (V2.mp hw) λp hp hp2=>?_
  refine wpAny_getItem_heap (L8 hu) (je I.hok eb) dd hp ?_
  rw [hp2]
  exact h w' _ (I.tok _) rw'
theorem d_in {Q:Value->Shared->Prop} (hu:A.units+1<cLine) (I:Inv X pins σ H s) (g:DGet H a y o) (ry:RelV y u) (h:∀ s',Inv X pins σ H s'->Q (.bool o.isSome) s') :
  wpAny (model X.prog X.w) A (U8 .In u (.ref a)) Q E s:=by
 rcases g with ⟨kvs,k,e,ey,l⟩ | ⟨kvs,k,b,e,ey,eb,l⟩
 ·subst ey
  refine oq03 (kB I.hok e) λz hd zz=>oq12 zz λvs rel dd=>?_
  refine wpAny_in_of (kA ry) hd dd.mapOf ?_
  rw [<- (rel.val k).isSome_eq,<- l]
  exact h _ (I.tok _)
 ·subst ey
  cases (show u=T1 b from ry)
  refine oq03 (kC I.hok e) λz hd zz=>oq12 zz λxs rel dd=>?_
  refine wpAny_in_heap (L8 hu) (je I.hok eb) hd dd ?_
  have q:=(rel.val k).isSome_eq
  rw [J7] at q
  rw [<- q,<- l]
  exact h _ (I.tok _)
theorem d_notIn {Q:Value->Shared->Prop} (hu:A.units+1<cLine) (I:Inv X pins σ H s) (g:DGet H a y o) (ry:RelV y u) (h:∀ s',Inv X pins σ H s'->Q (.bool (!o.isSome)) s') :
  wpAny (model X.prog X.w) A (U8 .NotIn u (.ref a)) Q E s:=by
 rcases g with ⟨kvs,k,e,ey,l⟩ | ⟨kvs,k,b,e,ey,eb,l⟩
 ·subst ey
  refine oq03 (kB I.hok e) λz hd zz=>oq12 zz λvs rel dd=>?_
  refine wpAny_notIn_of (kA ry) hd dd.mapOf ?_
  rw [<- (rel.val k).isSome_eq,<- l]
  exact h _ (I.tok _)
 ·subst ey
  cases (show u=T1 b from ry)
  refine oq03 (kC I.hok e) λz hd zz=>oq12 zz λxs rel dd=>?_
  refine wpAny_notIn_heap (L8 hu) (je I.hok eb) hd dd ?_
  have q:=(rel.val k).isSome_eq
  rw [J7] at q
  rw [<- q,<- l]
  exact h _ (I.tok _)
theorem mU {h':Heap} {t':Nat} {ob:HO} (I:Inv X pins σ H s) (mu:Mut (H a)) (hs:Heap.SameBut a s.heap h') (he:∃ q,h'.get? a=some q) (new:bS X.prog X.w (upd H a ob) h' a ob) :
  Inv X pins σ (upd H a ob) { s with heap:=h',toks:=t' } :=
 I.write (x:=a) (e:=a) mu (.inl rfl) (λb q hb z=>(hs.2 b hb).trans z) he new
theorem dk_new {P:X5} {w:World} {H':Hp} {h':Heap} {kvs:List (Key × V)} {vs:List (Key × Value)} (z:kvs.length<=X7) (hd:(a == M5)=false) (rel:KV kvs vs) (dd:h'.DictOf (aZ P w) a vs) :
  bS P w H' h' a (.dK kvs):=⟨z,hd,vs,rel,dd⟩
theorem d_setItem {H':Hp} {Q:Unit->Shared->Prop} (hu:A.units+1<cLine) (I:Inv X pins σ H s) (g:DPut H a y v H') (ry:RelV y u) (rv:RelV v r) (h:∀ s',Inv X pins σ H' s'->Q () s') :
  wpAny (model X.prog X.w) A (setItem (.ref a) u r) Q E s:=by
 rcases g with ⟨kvs,k,e,ey,l,eH⟩ | ⟨kvs,k,b,e,ey,eb,l,eH⟩
 ·subst ey eH
  refine oq03 (dk_of I.hok e) λz hd zz=>oq12 zz λvs rel dd=>?_
  have hz:vs.length<=X7:=by rw [<- rel.length]; exact z
  have hl:(putK kvs k v).length<=X7:=by have:=gi kvs k v; lia
  refine wpAny_setItem_pairs (hsz:=hz) (kA ry) dd λh' dd' hs=>h _ ?_
  have he:∃ q,h'.get? a=some q:=oq32 dd' λq x x hq x=>⟨q,hq⟩
  exact mU I (by rw [e]; exact E6) hs he (dk_new hl hd (rel.put k rv) dd')
 ·subst ey eH
  cases (show u=T1 b from ry)
  refine oq03 (dt_of I.hok e) λz hd zz=>oq12 zz λxs rel dd=>?_
  have hz:xs.length<=X7:=by rw [<- B5 rel]; exact z
  have hl:(putK kvs k v).length<=X7:=by have:=gi kvs k v; lia
  refine wpAny_setItem_heap (hsz:=hz) (L8 hu) (je I.hok eb) dd λh' dd' hs=>h _ ?_
  refine oq36 dd' λq es ep hq h2 h3 h4 x h5=>?_
  refine mU I (by rw [e]; exact E6) hs ⟨q,hq⟩ ⟨hl,hd,_,(rel.put k eb rv).keeps λc ys ec=>?_,q,es,ep,hq,h2,h3,h4,h5⟩
  rw [am (ne_of ec e (λz=>nomatch z))]
  exact ec
end
def NoSl (i:Expr):Prop:=∀ ov iv,subscripted i false ov iv=operate [ov,iv] (getItem ov iv)
theorem subD_of {prog:X5} {w:World} {A:Around} {E:Value->Shared->Prop} {s:Shared} {env:Env} {value slice:Expr} {pos:Pos} {T id:String} {Q:Value->Shared->Prop}
  (hl:typeLookup (.type T) "__getitem__"=pure (some (.builtin id))) (hs:NoSl slice)
  (h:wpAny (model prog w) A (eval value env) (λo s₁=>wpAny (model prog w) A (eval slice env) (λi s₂=>s₂.TypeIs o T/\wpAny (model prog w) A (getItem o i) Q E s₂) E s₁) E s) :
  wpAny (model prog w) A (eval (.Subscript value slice pos) env) Q E s:=by
 refine Subscript_ (T0 h (λo s₁ h₁=>T0 h₁ (λi s₂ h₂=>?_) λa a x=>x) λa a x=>x)
 refine oq02 h₂ λhT h₂=>?_
 unfold subscriptTail
 refine Z4 ?_
 rw [getitemInPython_of_ne hT.not_modules]
 refine Z4 (wpAny_specialOf hT hl ?_)
 have fin:wpAny (model prog w) A (subscripted slice false o i) (λr s₃=>wpAny (model prog w) A (letTemporaryGo value o r >>= λa=>pure r) Q E s₃) E s₂:=by
  rw [hs o i]
  exact wpAny_operating (T0 h₂ (λr s₃ h₃=>Z4 (wpAny_letTemporaryGo (Y6 h₃))) λa a x=>x)
 first
  | exact Y6 (Z4 fin)
  | exact Z4 (Y6 (Z4 fin))
  | exact Z4 fin
theorem oG {X:Cx} {pins:List (Addr × Obj)} {σ:St} {H:Hp} {s:Shared} {a:Addr} {y:V} {o:Option V} (I:Inv X pins σ H s) (g:DGet H a y o):s.TypeIs (.ref a) "dict":=by
 rcases g with ⟨kvs,k,e,_,_⟩ | ⟨kvs,k,b,e,_,_,_⟩
 ·refine oq03 (kB I.hok e) λx x zz=>oq12 zz λvs x dd=>?_
  exact dd.typeIs
 ·refine oq03 (kC I.hok e) λx x zz=>oq12 zz λxs x dd=>?_
  exact dd.typeIs
def tDGet (td ty:TE):TE:=λσ H Q=>td σ H λx H1=>ty σ H1 λy H2=>∃ a v,x=.ref a/\DGet H2 a y (some v)/\Q v H2
def tDNotIn (ty td:TE):TE:=λσ H Q=>ty σ H λy H1=>td σ H1 λx H2=>∃ a o,x=.ref a/\DGet H2 a y o/\Q (.bl (!o.isSome)) H2
def sDPut (td ty tv:TE):TS:=λD σ H=>tv σ H λv H1=>td σ H1 λx H2=>ty σ H2 λy H3=>∃ a H4,x=.ref a/\DPut H3 a y v H4/\D.nx σ H4
section
variable {X:Cx} {o i value:Expr} {pos pos':Pos} {td ty tv:TE}
theorem pe_dget (hu:X.A.units+1<cLine) (ho:PE X o td) (hi:PE X i ty) (hs:NoSl i):PE X (.Subscript o i pos) (tDGet td ty):=by
 intro pins s σ H Q I h
 refine subD_of PySem.F.slot_dict_getitem.lookup hs (thn (ho pins s σ H _ I h) λu s1 zq=>oq23 zq λx H1 I1 rx q1=>thn (hi pins s1 σ H1 _ I1 q1) λiv s2 zq=>oq23 zq λy H2 I2 ry zz=>oq23 zz λa v ex g q2=>?_)
 subst ex
 obtain rfl:u=T1 a:=rx
 exact ⟨oG I2 g,d_getItem hu I2 g ry λw' s3 I3 rw'=>⟨v,H2,I3,rw',q2⟩⟩
theorem pc_dnotin (hu:X.A.units+1<cLine) (hi:PE X i ty) (ho:PE X o td):PC X .NotIn i o (tDNotIn ty td):=by
 intro pins s σ H Q I h
 refine thn (hi pins s σ H _ I h) λiv s1 zq=>oq23 zq λy H1 I1 ry q1=>thn (ho pins s1 σ H1 _ I1 q1) λu s2 zq=>oq23 zq λx H2 I2 rx zz=>oq23 zz λa ov ex g q2=>?_
 subst ex
 obtain rfl:u=T1 a:=rx
 exact d_notIn hu I2 g ry λs3 I3=>⟨.bl (!ov.isSome),H2,I3,rfl,q2⟩
theorem mV (hu:X.A.units+1<cLine) (ho:PE X o td) (hi:PE X i ty) (hv:PE X value tv) (hs:swapsWith value (some (.Subscript o i pos')) pos.line X.env=pure false) :
  PS X (.Assign [.Subscript o i pos'] value pos) (sDPut td ty tv):=by
 intro pins s σ H D I h
 refine wpAny_Assign_Subscript (thn (hv pins s σ H _ I h) λr s1 zq=>oq23 zq λv H1 I1 rv q1=>thn (ho pins s1 σ H1 _ I1 q1) λu s2 zq=>oq23 zq λx H2 I2 rx q2=>thn (hi pins s2 σ H2 _ I2 q2) λiv s3 zq=>oq23 zq λy H3 I3 ry zz=>oq23 zz λa H4 ex g q3=>?_) hs
 subst ex
 obtain rfl:u=T1 a:=rx
 exact d_setItem hu I3 g ry rv λs4 I4=>⟨σ,H4,I4,q3⟩
end
theorem oH {P:X5} {w:World} {H:Hp} (h:Heap) (hb:M5<h.objs.size):bS P w H (h.push { cls:=.type "dict",data:=.dict #[] }) h.objs.size (.dK []) :=
 ⟨V5 _,beq_eq_false_iff_ne.mpr (T9 (nz7 hb)),[],.nil,Heap.DictOf.new h⟩
def qJ:TE:=λx H Q=>∀ p,H p=none->Q (.ref p) (upd H p (.dK []))
section
variable {X:Cx} {pos:Pos}
theorem oJ:PE X (.Dict [] [] pos) qJ:=λpins s σ H Q I h =>
 wpAny_Dict_empty ⟨.ref s.heap.objs.size,_,I.laid (a:=s.heap.objs.size) (o:=.dK []) (t':=s.toks) (λx x q=>Z5 _ q) (nz6 _) (oH s.heap I.big),rfl,h _ (I.hok.fresh (nz6 _))⟩
end
def qK:List (TE × TE)->St->Hp->(List (V × V)->Hp->Prop)->Prop
 | [],_,H,Q=>Q [] H
 | (tk,tv) :: r,σ,H,Q=>tk σ H λx H1=>tv σ H1 λy H2=>qK r σ H2 λps H3=>Q ((x,y) :: ps) H3
abbrev VV:List (V × V)->List (Value × Value)->Prop:=Paired λp q=>RelV p.1 q.1/\RelV p.2 q.2
noncomputable def PPs (X:Cx) (pos:Pos) (keys:List (Option Expr)) (values:List Expr) (trs:List (TE × TE)):Prop :=
 ∀ (pins:List (Addr × Obj)) (s:Shared) (σ:St) (H:Hp) (Q:List (V × V)->Hp->Prop),Inv X pins σ H s->qK trs σ H Q ->
  wpAny (model X.prog X.w) X.A (evalPairs (pairTrees keys values X.env pos)) (λvs s'=>∃ ps H',Inv X pins σ H' s'/\VV ps vs/\Q ps H') X.xe s
theorem pps_nil {X:Cx} {pos:Pos}:PPs X pos [] [] []:=λpins s σ H Q I h=>pairTrees_nil_walk ⟨[],H,I,.nil,h⟩
theorem pps_cons {X:Cx} {pos:Pos} {k v:Expr} {ks:List (Option Expr)} {vs:List Expr} {tk tv:TE} {trs:List (TE × TE)} (hk:PE X k tk) (hv:PE X v tv) (hr:PPs X pos ks vs trs) :
  PPs X pos (some k :: ks) (v :: vs) ((tk,tv) :: trs):=λpins s σ H Q I h =>
 pairTrees_cons_walk (thn (hk pins s σ H _ I h) λu s1 zq=>oq23 zq λx H1 I1 rx q1=>thn (hv pins s1 σ H1 _ I1 q1) λw2 s2 zq=>oq23 zq λy H2 I2 ry q2 =>
  thn (hr pins s2 σ H2 _ I2 q2) λws s3 zq=>oq23 zq λps H3 I3 rel q3=>⟨(x,y) :: ps,H3,I3,.cons ⟨rx,ry⟩ rel,q3⟩)
noncomputable def ib (kvs more:List (Key × V)):List (Key × V):=more.foldl (λacc kv=>putK acc kv.1 kv.2) kvs
theorem KV.merge:∀ {more:List (Key × V)} {rs:List (Key × Value)} {kvs:List (Key × V)} {vs:List (Key × Value)},KV more rs->KV kvs vs->KV (ib kvs more) (merged vs rs):=by
 intro more rs kvs vs r
 unfold KV at r
 induction r generalizing kvs vs with
 | nil=>intro q; exact q
 | @cons p q ps qs h t ih =>
  intro r0
  have e:KV (putK kvs p.1 p.2) (stored vs q.1 q.2):=by
   have:=r0.put p.1 h.2
   rw [<- h.1]; exact this
  exact ih e
theorem lG:∀ (more kvs:List (Key × V)),(ib kvs more).length<=kvs.length+more.length:=by
 intro more
 induction more with
 | nil=>exact λkvs=>nz6 _
 | cons p r ih=>exact λkvs=>nz4 (ih (putK kvs p.1 p.2)) (by have h2:=gi kvs p.1 p.2; rw [W3]; lia)
theorem qL {P:X5} {w:World}:∀ {kvs:List (Key × V)} {ws:List (Value × Value)},VV (kvs.map λkv=>(kV kv.1,kv.2)) ws->∃ rs,Carries (aZ P w) ws rs/\KV kvs rs:=by
 intro kvs
 induction kvs with
 | nil=>intro ws r; rw [List.map_nil] at r; cases r; exact ⟨[],E6,.nil⟩
 | cons p kvs ih =>
  intro ws r
  rw [W1] at r
  cases r with
  | @cons a b as bs h t=>exact oq12 (ih t) λrs c q=>⟨(p.1,b.2) :: rs,⟨kA h.1,rfl,c⟩,.cons ⟨rfl,h.2⟩ q⟩
def tDisp (trs:List (TE × TE)):TE:=λσ H Q=>∀ p,H p=none->qK trs σ (upd H p (.dK [])) λps H2=>H2 p=some (.dK [])/\∃ kvs:List (Key × V),ps=kvs.map (λkv=>(kV kv.1,kv.2))/\kvs.length<=15/\Q (.ref p) (upd H2 p (.dK (ib [] kvs)))
theorem pe_disp {X:Cx} {pos:Pos} {keys:List (Option Expr)} {values:List Expr} {trs:List (TE × TE)} (h:PPs X pos keys values trs) (hall:keys.all (·.isSome)=true) (hl:keys.length=values.length) (h0:keys≠[])
  (h15:keys.length<=15):PE X (.Dict keys values pos) (tDisp trs):=by
 intro pins s σ H Q I q
 have hn:=I.hok.fresh (nz6 s.heap.objs.size)
 have I1:=I.laid (a:=s.heap.objs.size) (o:=.dK []) (h':=s.heap.push { cls:=.type "dict",data:=.dict #[] }) (t':=s.toks) (λx x q=>Z5 _ q) (nz6 _) (oH s.heap I.big)
 refine wpAny_Dict_walk (knd:=aZ X.prog X.w) hall hl h0 h15 (thn (h pins _ σ _ _ I1 (q _ hn)) λws s2 zq=>oq24 zq λps H2 I2 rel e zz=>oq13 zz λkvs ep lk q2=>?_)
 subst ep
 refine oq12 (qL (P:=X.prog) (w:=X.w) rel) λrs c rk=>?_
 refine oq03 (dk_of I2.hok e) λz hd zz=>oq12 zz λvs0 r0 dd=>?_
 cases r0
 refine ⟨rs,c,dd,λh' dd' hs=>⟨.ref s.heap.objs.size,_,?_,rfl,q2⟩⟩
 have hz:(ib [] kvs).length<=X7:=by
  have h1:=lG kvs []
  rw [N6] at h1
  rw [X9]; lia
 have he:∃ q,h'.get? s.heap.objs.size=some q:=oq32 dd' λq x x hq x=>⟨q,hq⟩
 exact mU I2 (by rw [e]; exact E6) hs he (dk_new hz hd (rk.merge .nil) dd')
structure M2 (X:Cx) (o:Expr) (m:Str) (apos:Pos) (e f:Expr) (cpos:Pos):Prop where
 base:F6 o m X.env (eval o X.env)=eval o X.env
 few:((backTo cpos (Y9 [e,f] X.env)).all (λx=>!x.1) && (backToKw cpos (keywordEach [] X.env)).all (λx=>x.1.isSome)
  && decide (([e,f]:List Expr).length+([]:List Keyword).length+(if ([]:List Keyword).isEmpty then 0 else 1)<30))=true
 line:(apos.endLine == cpos.line)=true
 trees:backTo cpos (Y9 [e,f] X.env)=[(false,eval e X.env),(false,eval f X.env)]
def IsD (H:Hp) (a:Addr):Prop:=(∃ kvs,Rd H a (.dK kvs))\/∃ kvs,Rd H a (.dT kvs)
theorem isD_at {X:Cx} {pins:List (Addr × Obj)} {σ:St} {H:Hp} {s:Shared} {a:Addr} (I:Inv X pins σ H s) (d:IsD H a) :
  s.TypeIs (.ref a) "dict"/\(∀ b,T1 a=.ref b->∃ ob,s.heap.get? b=some ob/\ob.dict=none)/\(a == M5)=false:=by
 rcases d with ⟨kvs,e⟩ | ⟨kvs,e⟩
 ·refine oq03 (kB I.hok e) λx hd zz=>oq12 zz λvs x dd=>?_
  refine ⟨dd.typeIs,λb q=>?_,hd⟩
  cases q
  refine oq33 dd λob x x h1 h2 x=>?_
  exact ⟨ob,h1,h2.2.1⟩
 ·refine oq03 (kC I.hok e) λx hd zz=>oq12 zz λxs x dd=>?_
  refine ⟨dd.typeIs,λb q=>?_,hd⟩
  cases q
  refine oq33 dd λob x x h1 h2 x=>?_
  exact ⟨ob,h1,h2.2.1⟩
section
variable {X:Cx} {pins:List (Addr × Obj)} {σ:St} {H:Hp} {s:Shared} {a:Addr} {y d:V} {u r:Value} {o:Option V} {A:Around} {E:Value->Shared->Prop}
theorem d_get2 {Q:Value->Shared->Prop} (hu:A.units+1<cLine) (I:Inv X pins σ H s) (g:DGet H a y o) (ry:RelV y u) (rd:RelV d r) (h:∀ w' s',Inv X pins σ H s'->RelV (o.getD d) w'->Q w' s') :
  wpAny (model X.prog X.w) A (call (.builtin "dict.get") [.ref a,u,r]) Q E s:=by
 rcases g with ⟨kvs,k,e,ey,l⟩ | ⟨kvs,k,b,e,ey,eb,l⟩
 ·subst ey
  refine oq03 (kB I.hok e) λz hd zz=>oq12 zz λvs rel dd=>?_
  refine call_meetsIn C5 dd.typeIs PySem.F.entry_dict_get (PySem.F.args_dict_get_3 _ _ _) (meets_dict_get_default (aZ X.prog X.w) a (kA ry) hd r) ⟨_,dd.mapOf,h _ _ (I.tok _) ?_⟩
  rw [l]
  exact (rel.val k).getD rd
 ·subst ey
  cases (show u=T1 b from ry)
  refine oq03 (kC I.hok e) λz hd zz=>oq12 zz λxs rel dd=>?_
  refine call_meetsIn C5 dd.typeIs PySem.F.entry_dict_get (PySem.F.args_dict_get_3 _ _ _) (meetsH_dict_get_default (tupleKind (aZ X.prog X.w)) a b hd r) ⟨L8 hu,k,xs,je I.hok eb,dd,h _ _ (I.tok _) ?_⟩
  rw [l]
  exact (rel.val k).getD rd
end
def tDGet2 (td ty tx:TE):TE:=λσ H Q=>td σ H λx H1=>∃ a,x=.ref a/\IsD H1 a/\ty σ H1 λy H2=>tx σ H2 λz H3=>∃ o,DGet H3 a y o/\Q (o.getD z) H3
section
variable {X:Cx} {o e f:Expr} {apos cpos:Pos} {td ty tx:TE}
theorem oK (hu:X.A.units+1<cLine) (ho:PE X o td) (he:PE X e ty) (hf:PE X f tx) (m:M2 X o "get" apos e f cpos):PE X (.Call (.Attribute o "get" apos) [e,f] [] cpos) (tDGet2 td ty tx):=by
 intro pins s σ H Q I h
 refine wpAny_Call_method m.base m.few m.line PySem.F.plainAttrs_dict C5 PySem.F.type_dict_get (thn (ho pins s σ H _ I h) λu s1 zq=>oq23 zq λx H1 I1 rx zz=>oq13 zz λa ex d q1=>?_)
 subst ex
 obtain rfl:u=T1 a:=rx
 refine oq03 (isD_at I1 d) λt1 t2 x=>?_
 refine ⟨t1,t2,?_⟩
 rw [m.trees]
 refine Calls.callWith_builtin rfl (Calls.evalArgs_plain (Calls.spliced_cons (thn (he pins s1 σ H1 _ I1 q1) λiv s2 zq=>oq23 zq λy H2 I2 ry q2 =>
  Calls.spliced_cons (thn (hf pins s2 σ H2 _ I2 q2) λfv s3 zq=>oq23 zq λz H3 I3 rz zz=>oq12 zz λov g q3=>Calls.spliced_nil ?_))))
 exact d_get2 hu I3 g ry rz λw' s4 I4 rw'=>⟨_,H3,I4,rw',q3⟩
end
end L2
namespace Att
open PySem PySem.W PySem.Calls PyProof.Rows
theorem jS {P:Params} {h:Heap}:∀ (ns:List Int) (vs:List Value),WellAll P h vs (ns.map WData.int)->O5 vs ns:=by
 intro ns
 induction ns with
 | nil =>
  intro vs w
  rw [List.map_nil] at w
  cases w
  exact .nil
 | cons n ns ih =>
  intro vs w
  rw [W1] at w
  cases w with
  | cons a b =>
   cases a
   exact .cons _ _ (ih _ b)
theorem script_of {l:OpenLaw} {n:Nat} (hn:l.most=some n) {P:Params} {h:Heap} {args:List WData} {vals:List Value}
  (hpre:l.row.toRowW.claim.pre args=true) (hwl:WellAll P h vals args) :
  ∃ a vs ns,vals=[T1 a]/\args=[WData.list (ns.map WData.int)]/\h.get? a=some { cls:=.type "list",data:=.seq vs.toArray }/\O5 vs ns/\ns.length<=n:=by
 have hsh:WShape.hasAll [] args [.list .int]=true:=(pre_splitW hpre).1
 have hc:l.pre.holds [] { args:=args }=true:=(pre_splitW hpre).2
 refine oq23 (hasAllW_cons hsh) λd r eq2_ h1 h2=>?_; subst eq2_
 obtain rfl:=hasAllW_nil h2
 refine oq12 (hasW_list h1) λxs eq1_ h3=>?_; subst eq1_
 refine oq11 (items_int h3) λns eq1_=>?_; subst eq1_
 have hlen:ns.length<=n:=by
  unfold OpenLaw.pre at hc
  have h4:(WTm.not (.lt (.lit (.int (n:Int))) (.len (.arg 0)))).holds [] { args:=[.list (ns.map .int)] }=true:=by
   have h4:=(holds_andW hc).1
   rw [hn] at h4
   exact h4
  have h5:=condW_of h4 (w_not (w_lt w_lit (w_len_list (w_arg rfl))))
  rw [Y0] at h5
  refine Nat.le_of_not_lt λq=>?_
  have q':(n:Int)<((ns.length:Nat):Int):=by omega
  first
   | (rw [decide_eq_true q'] at h5; exact absurd h5 (by decide))
   | (simp at h5; omega)
 cases hwl with
 | cons w1 w2 =>
  cases w2
  cases w1 with
  | list ho hall=>exact ⟨_,_,ns,rfl,rfl,ho,jS ns _ hall,hlen⟩
theorem post_true (l:OpenLaw) (args:List WData):l.row.toRowW.claim.post args (.bool true) args=true :=
 postW_of (r:=l.row.toRowW) (X:=(true == true))
  (show WShape.has [] (.bool true) .bool=true by first | rfl | decide | simp [WShape.has,WShape.arms,WShape.armsAll])
  (show (WTm.eq .res (.lit (.bool true))).value [] { args:=args,res:=some (.bool true),after:=args }=some (.bool (true == true)) from w_eq_bool (w_res rfl) w_lit) rfl
theorem oM {l:OpenLaw} {n:Nat} {q:X5} {loose:List Str} {XP:(Str->Option Value)->Heap->Prop} {YP:World->Heap->Prop} {d:DefRec}
  (hn:l.most=some n) (hdf:d.params.defaults=[])
  (call:∀ (w:World) (s₀ s₁:Shared) (mg mb:Str->Option Value) (fa:Addr) (o:Obj) (pm cd doc:Value) (a:Addr) (vs:List Value) (ns:List Int),
   Ground q loose [] XP w s₀ mg mb s₁.heap->YP w s₁.heap ->
   s₁.heap.get? fa=some o->o.data=.func (docDef d.name d.params d.body d.scope pm cd doc)->s₁.heap.CodeRec cd d.name->mg d.name=some (.ref fa) ->
   s₁.heap.get? a=some { cls:=.type "list",data:=.seq vs.toArray }->O5 vs ns->ns.length<=n->s₁.gens=#[] ->
   D7 (model l.prog w) callerA (.call (.ref fa) ⟨[.ref a],[]⟩) (λr s'=>r=.ok (.ret (.bool true))/\OldK s₁.heap s'.heap/\s'.os=s₁.os/\AllBare s'.gens) s₁) :
  WalkO q loose XP YP l.row.toRowW d [] (λf vs=>PySem.call f vs):=by
 intro w s₀ s₁ mg mb G Y fa o pm cd doc dV kV ho hd hcd hD hmg hg args vals as hpre hlay hrd hwl hlo
 obtain rfl:dV=.none:=Dflts.none hD hdf
 obtain rfl:kV=.none:=Dflts.noKw hD
 refine oq35 (script_of hn hpre hwl) λa vs ns eq3_ eq4_ hobj hints hlen=>?_; subst eq3_; subst eq4_
 refine enter_call (codeAny_mono (call w s₀ s₁ mg mb fa o pm cd doc a vs ns G Y ho (fd_plain hd) hcd hmg hobj hints hlen hg) λr s' hq=>?_)
 refine oq04 hq λeq0_ h2 h3 h4=>?_; subst eq0_
 exact ⟨.inl ⟨.bool true,.bool true,[],rfl,λx=>rfl,.bool true,post_true l _,λx=>⟨List.Pairwise.nil,λx hm=>(nomatch hm)⟩⟩,h2,h3,h4⟩
end Att
namespace L2
open PySem PySem.Spec PyProof.Rows
theorem jf:∀ {vs:List Value} {ns:List Int},O5 vs ns->Vals (ns.map V.int) vs:=λp=>by
 induction p with
 | nil=>exact .nil
 | cons n t _ ih=>exact .cons ⟨t,rfl⟩ ih
def Only (H:Hp):Prop:=∀ b,H b=none\/∃ o xs,H b=some (.frz o (.lst xs))
end L2
namespace L2
open PySem PySem.Spec PyProof.Rows
noncomputable def inClass (s:Stmt) (j:Nat):Stmt:=match s with
 | .ClassDef _ _ _ body _ _ _ _ _ _ _=>body.getD j (.Pass ⟨0,0,0,0⟩)
 | _=>.Pass ⟨0,0,0,0⟩
noncomputable def br (s:Stmt):D0:=match s with
 | .FunctionDef _ a _ _ _ _ _ _ _ _=>a
 | _=>{ posonlyargs:=[],args:=[],vararg:=none,kwonlyargs:=[],kw_defaults:=[],kwarg:=none,defaults:=[] }
noncomputable def aW (s:Stmt):List Stmt:=match s with
 | .FunctionDef _ _ b _ _ _ _ _ _ _=>b
 | _=>[]
noncomputable def ae (s:Stmt):Scope:=match s with
 | .FunctionDef _ _ _ _ _ _ sc _ _ _=>sc
 | _=>{ kind:=.function,names:=[],isGenerator:=false,isCoroutine:=false }
abbrev CX0:CXT:=λx x x x x x=>False
abbrev E0:XK:=λx x x=>False
theorem pass0 {X:Cx}:jc CX0 X E0:=λx x x x x x x h=>h.elim
structure Fun (K:Z0) (x qual:Str) (st:Stmt) (f:Addr) (fd:K2):Prop where
 ex:∃ (oc:Value) (od:Option Addr) (kV doc pm:Value) (an:Option Addr) (cdv ct:Value) (osl:Array (Option Value)),
  fd=U4 x qual (br st) (aW st) (ae st) .none kV doc pm an cdv ct/\K.lookup f=some ⟨oc,od,.func fd,osl⟩/\R3 K cdv qual=true
 kp:U3 K (.ref f)=true
section
variable {P:X5} {w:World} {K:Z0} {mg:Str->Option Value} {base:Heap}
theorem Fun.ok {x qual:Str} {st:Stmt} {f:Addr} {fd:K2} {N ps:List Str} {k:Nat} {sp:Sp} (F:Fun K x qual st f fd) (S:FnScope N ps (ae st)) (len:∀ vs H Q E,sp vs H Q E->vs.length=ps.length)
  (hbody:∀ (cdv:Value) (A:Around) (outer:List Env) (s:Shared) (H:Hp) (vs:List V) (Q:VK) (E:XK),Room k (A.deeper (envOfC qual (ae st) s.heap.objs.size f cdv))->sp vs H Q E ->
   ∃ t,PSs (cxOf CX0 P w K mg base N qual (ae st) f cdv A outer s H E).nox (aW st) t/\t { nx:=λa H'=>Q .non H',rt:=Q } (start N vs) H):FnOk P w K mg base CX0 (k+1) f fd ps sp:=by
 refine oq71 F.ex λoc od kV doc pm an cdv zz=>oq23 zz λct osl eq9_ lk hcd=>?_; subst eq9_
 refine fn_of lk hcd S len λA outer s H vs Q E hr hsp=>?_
 refine oq12 (hbody cdv A outer s H vs Q E hr hsp) λt h q=>?_
 exact ⟨t,h.nox,q⟩
theorem Fun.binds {x qual:Str} {st:Stmt} {f:Addr} {fd:K2} {ps:List Str} (F:Fun K x qual st f fd)
  (h:∀ (kV doc pm:Value) (an:Option Addr) (cdv ct:Value) (us:List Value),us.length=ps.length->G0 (U4 x qual (br st) (aW st) (ae st) .none kV doc pm an cdv ct) ⟨us,[]⟩=pure (ps.zip us)):Binds K fd ps []:=by
 refine oq71 F.ex λoc od kV doc pm an cdv zz=>oq23 zz λct osl eq9_ lk hcd=>?_; subst eq9_
 exact .all (h kV doc pm an cdv ct)
theorem fP {x qual:Str} {st:Stmt} {f:Addr} {oc:Value} {od an:Option Addr} {osl:Array (Option Value)} {kV doc pm cdv ct:Value} (l:K.lookup f=some ⟨oc,od,.func (U4 x qual (br st) (aW st) (ae st) .none kV doc pm an cdv ct),osl⟩)
  (c:R3 K cdv qual=true) (k:U3 K (.ref f)=true):Fun K x qual st f (U4 x qual (br st) (aW st) (ae st) .none kV doc pm an cdv ct):=⟨⟨oc,od,kV,doc,pm,an,cdv,ct,osl,rfl,l,c⟩,k⟩
end
theorem aU {A:Around} {k:Nat} (hr:Room k A):A.units+1<cLine:=nz2 (M9 (by decide:1<=64) _) hr.units
section
variable {X:Cx}
theorem pv (i:Nat) {x:Str} {pos:Pos} (hN:autoParam (X.N[i]?=some x) L2.a2q._auto_1) (hv:Vis X.env.scope x:=by first | exact Or.inl rfl | exact Or.inr (Or.inl rfl) | exact Or.inr (Or.inr rfl)) (hd:autoParam ((x == ("__debug__":Str))=false) L2.a0q._auto_1)
  (hcd:autoParam ((x == ("__classdict__":Str))=false) L2.a0q._auto_1):PE X (.Name x pos) (tVar i):=pe_var hN hv hd hcd
end
def Same (H H':Hp):Prop:=∀ b o,H b=some o->H' b=some o
theorem Same.refl (H:Hp):Same H H:=λx x h=>h
theorem Same.trans {H H1 H2:Hp} (a:Same H H1) (b:Same H1 H2):Same H H2:=λc o h=>b c o (a c o h)
theorem Same.free {H H':Hp} (e:Same H H') {l:Addr} (h:H' l=B9):H l=B9:=by
 cases q:H l with
 | none=>rfl
 | some o =>
  rw [e l o q] at h
  cases h
theorem Same.seq {K:Z0} {H H':Hp} {a:Addr} {xs:List V} (e:Same H H') (h:SqL K H a xs):SqL K H' a xs:=by
 rcases h with (h | ⟨o,h⟩) | h
 ·exact .inl (.inl (e _ _ h))
 ·exact .inl (.inr ⟨o,e _ _ h⟩)
 ·exact .inr h
end L2
set_option maxHeartbeats 1000000
namespace Fl
noncomputable def mn (i j:Int):Int:=if j<i then j else i
noncomputable def mx (i j:Int):Int:=if j > i then j else i
noncomputable def kD (a b c:Int):Nat:=(if a<b then (b - a - 1) / c+1 else 0).toNat
noncomputable def cellAt (ns:List Int) (k:Nat):Int:=ns.getD k 0
noncomputable def mixed (n k:Int):Int:=(n % 100000000000000000000 * 40503+k * k * 2503+11) % 2147483587
noncomputable def cI (n k way:Int):Int :=
 if way=0 then mixed n k % 4 else if way=1 then mixed n k % 12 else if way=2 then n % 1000000000000000001
 else if mixed n k / 3 % 2=0 then mixed n k % 3 else 1000000000000000000 - mixed n k % 3
noncomputable def folded (hs:List Int) (c:Nat):List (List Int):=(Z9 (kD 0 ((hs.length:Int) - c+1) c)).map λi=>(hs.drop (i * c)).take c
noncomputable def fj (v:Int) (n:Nat):Int :=
 mx (if v % 5=4 then mx 1 (mn (1+v / 5 % mn 12 n) ((n:Int) / 3)) else 1+v / 5 % mn 12 n) (0 - (0 - (n:Int)) / 12)
noncomputable def cR (ns:List Int) (first:Nat):List Int:=(((ns.drop (first+1)).take 60).zipIdx).map λp=>cI p.1 (p.2:Nat) (cellAt ns first % 5 % 4)
noncomputable def bv (ns:List Int) (first:Nat):List Int:=if cR ns first=[] then [cellAt ns first / 5 % 1000000000000000001] else cR ns first
noncomputable def floorOf (ns:List Int) (first:Nat):List (List Int):=folded (bv ns first) (fj (cellAt ns first) (bv ns first).length).toNat
theorem kE (n k:Int):0<=mixed n k:=E2 _ (by decide)
theorem lH (n k way:Int):0<=cI n k way/\cI n k way<=1000000000000000000:=by
 have h:=kE n k
 unfold cI
 generalize mixed n k=m at *
 split
 ·lia
 ·split
  ·lia
  ·split
   ·lia
   ·split <;> lia
theorem mn12 {n:Nat} (hn:0<n):1<=mn 12 n/\mn 12 n<=12/\mn 12 n<=n:=by unfold mn; split <;> lia
theorem mx_le {a b k:Int} (h1:a<=k) (h2:b<=k):mx a b<=k:=by unfold mx; split <;> assumption
theorem le_mxl (a b:Int):a<=mx a b:=by
 unfold mx; split
 ·exact M0 (by assumption)
 ·exact R0 _
theorem le_mxr (a b:Int):b<=mx a b:=by
 unfold mx; split
 ·exact R0 _
 ·exact G2.mp (by assumption)
theorem mn_lel (a b:Int):mn a b<=a:=by
 unfold mn; split
 ·exact M0 (by assumption)
 ·exact R0 _
theorem twelfth {n:Nat} (h2:n<=60):0 - (0 - (n:Int)) / 12<=12/\0 - (0 - (n:Int)) / 12<=n/\(n:Int)<=12 * (0 - (0 - (n:Int)) / 12):=by lia
theorem jG (v:Int) {n:Nat} (h1:0<n) (h2:n<=60):1<=fj v n/\fj v n<=12/\fj v n<=n/\(n:Int)<=12 * fj v n:=by
 refine oq03 (mn12 h1) λa1 a2 a3=>?_
 have b1:0<=v / 5 % mn 12 n:=E2 _ (D8 a1)
 have b2:1+v / 5 % mn 12 n<=mn 12 n:=by rw [Int.add_comm]; exact E7 _ a1
 refine oq03 (twelfth h2) λq1 q2 q3=>?_
 have p:1<=(if v % 5=4 then mx 1 (mn (1+v / 5 % mn 12 n) ((n:Int) / 3)) else 1+v / 5 % mn 12 n)/\(if v % 5=4 then mx 1 (mn (1+v / 5 % mn 12 n) ((n:Int) / 3)) else 1+v / 5 % mn 12 n)<=mn 12 n:=by
  split
  ·exact ⟨le_mxl _ _,mx_le a1 (V7 (mn_lel _ _) b2)⟩
  ·exact ⟨Int.le_add_of_nonneg_right b1,b2⟩
 unfold fj
 exact (oi04 (V7 p.1 (le_mxl _ _)) (mx_le (V7 p.2 a2) q1) (mx_le (V7 p.2 a3) q2) (V7 q3 (Int.mul_le_mul_of_nonneg_left (le_mxr _ _) (by decide))))
theorem kF {n c:Nat} (hc:0<c) (hcn:c<=n):kD 0 ((n:Int) - c+1) c=n / c:=by
 unfold kD
 rw [if_pos (by lia)]
 have e:(n:Int) - c+1 - 0 - 1=((n - c:Nat):Int):=by lia
 rw [e]
 have e2:(((n - c:Nat):Int) / (c:Int))=(((n - c) / c:Nat):Int):=by norm_cast
 rw [e2]
 have e3:n / c=(n - c) / c+1:=by
  rw [Nat.div_eq n c,if_pos ⟨hc,hcn⟩]
 rw [e3]
 generalize (n - c) / c=q
 lia
structure Shape (rows:List (List Int)) (c:Nat):Prop where
 pos:0<rows.length
 most:rows.length<=12
 cpos:0<c
 cmost:c<=12
 row:∀ r∈rows,r.length=c
 area:rows.length * c<=60
 hts:∀ r∈rows,∀ x∈r,0<=x/\x<=1000000000000000000
theorem iC {hs:List Int} {c:Nat} (hc:0<c) (hc12:c<=12) (hcn:c<=hs.length) (hn:hs.length<=60) (h12:hs.length<=12 * c+(c - 1)) (hb:∀ x∈hs,0<=x/\x<=1000000000000000000):Shape (folded hs c) c:=by
 have e:(folded hs c).length=hs.length / c:=by unfold folded; rw [Y0,V8,kF hc hcn]
 refine ⟨?_,?_,hc,hc12,?_,?_,?_⟩
 ·rw [e]; exact Nat.div_pos hcn hc
 ·rw [e]
  have:hs.length / c<13:=(J2 hc).mpr (by lia)
  lia
 ·intro r hr
  unfold folded at hr
  refine oq12 (W7.mp hr) λi hi eq2_=>?_; subst eq2_
  rw [Q2,kF hc hcn] at hi
  rw [R4,G7]
  have h1:(i+1) * c<=hs.length:=nz4 (Q5 c hi) (Nat.div_mul_le_self _ _)
  rw [Nat.add_mul,Nat.one_mul] at h1
  lia
 ·rw [e]
  exact nz4 (Nat.div_mul_le_self _ _) hn
 ·intro r hr x hx
  unfold folded at hr
  refine oq12 (W7.mp hr) λi hi eq2_=>?_; subst eq2_
  exact hb x (List.mem_of_mem_drop (List.mem_of_mem_take hx))
set_option tactic.hygienic true in
theorem jH (ns:List Int) (first:Nat):0<(bv ns first).length/\(bv ns first).length<=60:=by
 unfold bv
 split
 ·simp
 ·rename_i h
  refine ⟨List.length_pos_iff.mpr h,?_⟩
  unfold cR
  rw [Y0,List.length_zipIdx,R4]
  lia
theorem kG (ns:List Int) (first:Nat):∀ x∈bv ns first,0<=x/\x<=1000000000000000000:=by
 intro x hx
 unfold bv at hx
 split at hx
 ·have e:x=cellAt ns first / 5 % 1000000000000000001:=by simpa using hx
  rw [e]; lia
 ·unfold cR at hx
  refine oq12 (W7.mp hx) λp a eq2_=>?_; subst eq2_
  exact lH _ _ _
theorem oN (ns:List Int) (first:Nat):Shape (floorOf ns first) (fj (cellAt ns first) (bv ns first).length).toNat:=by
 refine oq02 (jH ns first) λh1 h2=>?_
 refine oq04 (jG (cellAt ns first) h1 h2) λa1 a2 a3 a4=>?_
 unfold floorOf
 exact iC (by lia) (by lia) (by lia) h2 (by lia) (kG ns first)
theorem iD {i j c:Nat} (hj:j<c):(i * c+j) / c=i/\(i * c+j) % c=j:=by
 have hc:0<c:=by lia
 constructor
 ·rw [L9,Nat.mul_add_div hc,Nat.div_eq_of_lt hj]; lia
 ·rw [L9,Nat.mul_add_mod,Nat.mod_eq_of_lt hj]
end Fl
namespace Fl
noncomputable def dif (a b:Int):Int:=if a - b<0 then -(a - b) else a - b
theorem oO (a b:Int):dif a b=dif b a:=by unfold dif; split <;> split <;> lia
noncomputable def adj (c:Nat) (reach:Int) (x o:Nat):Bool :=
 decide (dif (o / c:Nat) (x / c:Nat)+dif (o % c:Nat) (x % c:Nat)=1\/(reach=8/\dif (o / c:Nat) (x / c:Nat)=1/\dif (o % c:Nat) (x % c:Nat)=1))
noncomputable def nbL (m c:Nat) (reach:Int) (x:Nat):List Nat:=(Z9 (m * c)).filter (adj c reach x)
theorem adj_comm (c:Nat) (reach:Int) (x o:Nat):adj c reach x o=adj c reach o x:=by
 unfold adj; rw [oO (o / c:Nat),oO (o % c:Nat)]
theorem dU {m c:Nat} {reach:Int} {x o:Nat}:o∈nbL m c reach x↔o<m * c/\adj c reach x o=true:=by
 unfold nbL; rw [X6,Q2]
theorem mW (m c:Nat) (reach:Int) (x:Nat):(nbL m c reach x).length<=m * c:=by
 unfold nbL
 exact nz4 (T7 _ _) (by rw [V8]; exact nz6 _)
theorem m8 (p:Nat->Bool) (n:Nat):(Z9 (n+1)).filter p=(Z9 n).filter p++(if p n=true then [n] else []):=by
 rw [List.range_succ,List.filter_append]
 congr 1
 by_cases h:p n=true
 ·rw [if_pos h]; simp [h]
 ·rw [if_neg h]; simp [h]
theorem gP (p:Nat->Bool) (a:Nat):∀ (b:Nat),a<=b->(∀ i,a<=i->i<b->p i=false)->(Z9 b).filter p=(Z9 a).filter p:=by
 intro b
 induction b with
 | zero=>exact λh x=>Nat.le_zero.mp h ▸ rfl
 | succ b ih =>
  intro h hp
  by_cases e:a=b+1
  ·rw [e]
  ·rw [m8,ih (by lia) λi h1 h2=>hp i h1 (by exact nz8 h2 (W4 _)),hp b (by lia) (by exact W4 _)]
   simp
theorem adj_at {c k:Nat} (hk:k<c) (reach:Int) (x r:Nat):adj c reach x (r * c+k)=decide (dif (r:Nat) (x / c:Nat)+dif (k:Nat) (x % c:Nat)=1\/(reach=8/\dif (r:Nat) (x / c:Nat)=1/\dif (k:Nat) (x % c:Nat)=1)):=by
 refine oq02 (iD (i:=r) hk) λe1 e2=>?_
 unfold adj
 rw [e1,e2]
theorem jI {c:Nat} (hc:0<c) {reach:Int} {x o:Nat} (h:o / c+1<x / c\/x / c+1<o / c):adj c reach x o=false:=by
 unfold adj
 rw [decide_eq_false_iff_not]
 unfold dif
 split <;> split <;> omega
theorem jJ {c:Nat} {reach:Int} {x o:Nat} (h:o % c+1<x % c\/x % c+1<o % c):adj c reach x o=false:=by
 unfold adj
 rw [decide_eq_false_iff_not]
 unfold dif
 split <;> split <;> lia
end Fl
namespace Gr
inductive Rch (nb:Nat->Nat->Prop) (ok:Nat->Prop) (x:Nat):Nat->Prop where
 | here:Rch nb ok x x
 | on {y z:Nat}:Rch nb ok x y->nb y z->ok z->Rch nb ok x z
section
variable {nb:Nat->Nat->Prop} {ok:Nat->Prop} {x y z:Nat}
theorem Rch.closed {S:Nat->Prop} (hx:S x) (hc:∀ y z,S y->nb y z->ok z->S z) (h:Rch nb ok x y):S y:=by
 induction h with
 | here=>exact hx
 | on _ h1 h2 ih=>exact hc _ _ ih h1 h2
theorem Rch.trans (h:Rch nb ok x y) (h':Rch nb ok y z):Rch nb ok x z:=by
 induction h' with
 | here=>exact h
 | on _ h1 h2 ih=>exact .on ih h1 h2
theorem Rch.ok_ (hx:ok x) (h:Rch nb ok x y):ok y:=by
 cases h with
 | here=>exact hx
 | on _ _ h=>exact h
theorem Rch.symm (sy:∀ a b,nb a b->nb b a) (hx:ok x) (h:Rch nb ok x y):Rch nb ok y x:=by
 induction h with
 | here=>exact .here
 | on h1 h2 h3 ih=>exact Rch.trans (.on .here (sy _ _ h2) (h1.ok_ hx)) ih
theorem Rch.mono {nb':Nat->Nat->Prop} {ok':Nat->Prop} (h1:∀ a b,nb a b->ok b->nb' a b/\ok' b) (h:Rch nb ok x y):Rch nb' ok' x y:=by
 induction h with
 | here=>exact .here
 | on _ h2 h3 ih=>exact .on ih (h1 _ _ h2 h3).1 (h1 _ _ h2 h3).2
end
theorem iE:∀ (n:Nat) {l:List Nat},l.Nodup->(∀ x∈l,x<n)->l.length<=n:=by
 intro n
 induction n with
 | zero =>
  intro l hn h
  cases l with
  | nil=>exact nz6 _
  | cons a l=>exact absurd (h a (Z8.mpr (.inl rfl))) (N7 _)
 | succ n ih =>
  intro l hn h
  have h1:=ih (l:=l.erase n) (hn.erase n) λx hx=>by
   have:=(hn.mem_erase_iff).mp hx
   have:=h x this.2
   have:x≠n:=(hn.mem_erase_iff.mp hx).1
   lia
  rw [List.length_erase] at h1
  split at h1
  ·lia
  ·exact nz5 (nz2 h1 (W4 _))
structure Sea (nb:Nat->List Nat) (ok:Nat->Bool) (x:Nat) (ks ws:List Nat):Prop where
 nd:ks.Nodup
 x_in:x∈ks
 rch:∀ k∈ks,Rch (λa b=>b∈nb a) (λa=>ok a=true) x k
 sub:∀ w∈ws,w∈ks
 clo:∀ k∈ks,k ∉ ws->∀ o∈nb k,ok o=true->o∈ks
structure SeaAt (nb:Nat->List Nat) (ok:Nat->Bool) (x u:Nat) (done ks ws:List Nat):Prop where
 nd:ks.Nodup
 x_in:x∈ks
 rch:∀ k∈ks,Rch (λa b=>b∈nb a) (λa=>ok a=true) x k
 sub:∀ w∈ws,w∈ks
 clo:∀ k∈ks,k ∉ ws->k≠u->∀ o∈nb k,ok o=true->o∈ks
 u_in:u∈ks
 dn:∀ o∈done,ok o=true->o∈ks
section
variable {nb:Nat->List Nat} {ok:Nat->Bool} {x u o:Nat} {done ks ws:List Nat}
theorem Sea.start:Sea nb ok x [x] [x]:=⟨by simp,by simp,λk hk=>by simp at hk; subst hk; exact .here,λw hw=>hw,λk hk hn=>absurd hk hn⟩
theorem Sea.take {ws':List Nat} (s:Sea nb ok x ks ws) (hu:u∈ws) (hw:∀ w∈ws,w=u\/w∈ws') (hs:∀ w∈ws',w∈ws):SeaAt nb ok x u [] ks ws' :=
 ⟨s.nd,s.x_in,s.rch,λw h=>s.sub w (hs w h),λk hk hn hne o ho=>s.clo k hk (λz=>(hw k z).elim hne hn) o ho,s.sub u hu,λa h=>nomatch h⟩
theorem SeaAt.skip (s:SeaAt nb ok x u done ks ws) (h:ok o=true->o∈ks):SeaAt nb ok x u (done++[o]) ks ws :=
 ⟨s.nd,s.x_in,s.rch,s.sub,s.clo,s.u_in,λp hp=>by
  rcases Y7.mp hp with z | z
  ·exact s.dn p z
  ·rw [Y8.mp z]; exact h⟩
theorem SeaAt.add {ws':List Nat} (s:SeaAt nb ok x u done ks ws) (ho:o∈nb u) (hok:ok o=true) (hn:o ∉ ks) (hw:∀ w,w∈ws'↔w∈ws\/w=o):SeaAt nb ok x u (done++[o]) (ks++[o]) ws':=by
 refine ⟨?_,S6 _ s.x_in,λk hk=>?_,λw h=>?_,λk hk hnk hne p hp hp'=>?_,S6 _ s.u_in,λp hp hp'=>?_⟩
 ·rw [List.nodup_append]
  exact ⟨s.nd,by simp,λa ha b hb=>by rw [Y8.mp hb]; rintro rfl; exact hn ha⟩
 ·rcases Y7.mp hk with z | z
  ·exact s.rch k z
  ·rw [Y8.mp z]; exact .on (s.rch u s.u_in) ho hok
 ·rcases (hw w).mp h with z | z
  ·exact S6 _ (s.sub w z)
  ·rw [z]; exact Y2 _ (by simp)
 ·rcases Y7.mp hk with z | z
  ·exact S6 _ (s.clo k z (λq=>hnk ((hw k).mpr (.inl q))) hne p hp hp')
  ·exact absurd ((hw k).mpr (.inr (Y8.mp z))) hnk
 ·rcases Y7.mp hp with z | z
  ·exact S6 _ (s.dn p z hp')
  ·exact Y2 _ z
theorem SeaAt.fin (s:SeaAt nb ok x u (nb u) ks ws):Sea nb ok x ks ws :=
 ⟨s.nd,s.x_in,s.rch,s.sub,λk hk hn o ho hok=>by
  by_cases e:k=u
  ·subst e; exact s.dn o ho hok
  ·exact s.clo k hk hn e o ho hok⟩
theorem Sea.all (s:Sea nb ok x ks []) {y:Nat}:y∈ks↔Rch (λa b=>b∈nb a) (λa=>ok a=true) x y :=
 ⟨s.rch y,λh=>h.closed (S:=λz=>z∈ks) s.x_in λa b ha hb hok=>s.clo a ha (by simp) b hb hok⟩
end
end Gr
namespace Gr
def Lv (n:Nat) (ρ:Nat->Nat) (k:Nat) (z:Nat):Prop:=z<n/\ρ z<k
structure Fst (A:Nat->Nat->Prop) (n:Nat) (ρ:Nat->Nat) (k x r:Nat):Prop where
 rch:Rch A (Lv n ρ k) x r
 lv:Lv n ρ k r
 min:∀ y,Rch A (Lv n ρ k) x y->ρ r<=ρ y
inductive Liv (par:Nat->Option (Nat × Nat)):Nat->Nat->Prop where
 | root {s:Nat}:par s=none->Liv par s s
 | up {s m e r:Nat}:par s=some (m,e)->Liv par e r->Liv par s r
section
variable {A:Nat->Nat->Prop} {n:Nat} {ρ:Nat->Nat} {k:Nat} {par par':Nat->Option (Nat × Nat)}
theorem Liv.det {s r r':Nat} (h:Liv par s r) (h':Liv par s r'):r=r':=by
 induction h with
 | root e=>cases h' with
  | root=>rfl
  | up e'=>rw [e] at e'; cases e'
 | up e _ ih=>cases h' with
  | root e'=>rw [e] at e'; cases e'
  | up e' q=>rw [e] at e'; cases e'; exact ih q
theorem Liv.end_ {s r:Nat} (h:Liv par s r):par r=none:=by
 induction h with
 | root e=>exact e
 | up _ _ ih=>exact ih
theorem Liv.more {s r r':Nat} (hp:∀ z,par z≠none->par' z=par z) (h:Liv par s r) (h':Liv par' r r'):Liv par' s r':=by
 induction h with
 | root=>exact h'
 | up e _ ih=>exact .up ((hp _ (by rw [e]; exact nofun)).trans e) (ih h')
theorem Lv.up {z:Nat} (h:Lv n ρ k z):Lv n ρ (k+1) z:=⟨h.1,by have:=h.2; exact nz8 this (W4 _)⟩
theorem Rch.up {x y:Nat} (h:Rch A (Lv n ρ k) x y):Rch A (Lv n ρ (k+1)) x y:=h.mono λa a h1 h2=>⟨h1,h2.up⟩
theorem Fst.same (inj:∀ x y,x<n->y<n->ρ x=ρ y->x=y) {x r r':Nat} (h:Fst A n ρ k x r) (h':Fst A n ρ k x r'):r=r' :=
 inj r r' h.lv.1 h'.lv.1 (W9 (h.min _ h'.rch) (h'.min _ h.rch))
theorem Fst.of_rch (sy:∀ a b,A a b->A b a) {x y r:Nat} (hx:Lv n ρ k x) (h:Rch A (Lv n ρ k) x y) (f:Fst A n ρ k x r):Fst A n ρ k y r :=
 ⟨(h.symm sy hx).trans f.rch,f.lv,λz hz=>f.min z (h.trans hz)⟩
theorem Rch.new (sy:∀ a b,A a b->A b a) (inj:∀ x y,x<n->y<n->ρ x=ρ y->x=y) {c x y:Nat} (hc:c<n) (hρ:ρ c=k) (hx:Lv n ρ k x) (h:Rch A (Lv n ρ (k+1)) x y) :
  Rch A (Lv n ρ k) x y\/∃ o,A c o/\Lv n ρ k o/\Rch A (Lv n ρ k) x o/\(y=c\/∃ o',A c o'/\Lv n ρ k o'/\Rch A (Lv n ρ k) o' y):=by
 have two:∀ {z:Nat},Lv n ρ (k+1) z->Lv n ρ k z\/z=c:=λ{z} h=>by
  by_cases e:ρ z<k
  ·exact .inl ⟨h.1,e⟩
  ·exact .inr (inj z c h.1 hc (by have:=h.2; exact W9 (nz4 (T4 this) (nz3 hρ.symm)) (nz4 (nz3 hρ) (X8.mp e))))
 induction h with
 | here=>exact .inl .here
 | @on y z h1 h2 h3 ih =>
  rcases ih with q | zr1_
  ·rcases two h3 with w | rfl
   ·exact .inl (.on q h2 w)
   ·exact .inr (oi14 y (sy _ _ h2) (q.ok_ hx) q (.inl rfl))
  ·refine oq14 zr1_ λo o1 o2 o3 q=>?_
   rcases two h3 with w | rfl
   ·rcases q with rfl | zr2_
    ·exact .inr (oi14 o o1 o2 o3 (.inr (oi13 z h2 w .here)))
    ·refine oq13 zr2_ λo' p1 p2 p3=>?_
     exact .inr (oi14 o o1 o2 o3 (.inr (oi13 o' p1 p2 (.on p3 h2 w))))
   ·exact .inr (oi14 o o1 o2 o3 (.inl rfl))
theorem Rch.newc (sy:∀ a b,A a b->A b a) (inj:∀ x y,x<n->y<n->ρ x=ρ y->x=y) {c y:Nat} (hc:c<n) (hρ:ρ c=k) (h:Rch A (Lv n ρ (k+1)) c y):y=c\/∃ o',A c o'/\Lv n ρ k o'/\Rch A (Lv n ρ k) o' y:=by
 have two:∀ {z:Nat},Lv n ρ (k+1) z->Lv n ρ k z\/z=c:=λ{z} h=>by
  by_cases e:ρ z<k
  ·exact .inl ⟨h.1,e⟩
  ·exact .inr (inj z c h.1 hc (by have:=h.2; exact W9 (nz4 (T4 this) (nz3 hρ.symm)) (nz4 (nz3 hρ) (X8.mp e))))
 induction h with
 | here=>exact .inl rfl
 | @on y z h1 h2 h3 ih =>
  rcases two h3 with w | rfl
  ·rcases ih with rfl | zr3_
   ·exact .inr (oi13 z h2 w .here)
   ·refine oq13 zr3_ λo' p1 p2 p3=>?_
    exact .inr (oi13 o' p1 p2 (.on p3 h2 w))
  ·exact .inl rfl
structure UF (A:Nat->Nat->Prop) (n:Nat) (ρ:Nat->Nat) (k:Nat) (home:Nat->Option Nat) (par:Nat->Option (Nat × Nat)):Prop where
 dom:∀ x,home x≠none->Lv n ρ k x
 has:∀ x,Lv n ρ k x->∃ s,home x=some s
 hm:∀ x s,home x=some s->Fst A n ρ (ρ x+1) x s
 own:∀ x s,home x=some s->home s=some s
 pr:∀ s m e,par s=some (m,e)->home s=some s/\home e=some e/\Lv n ρ k m/\ρ s<ρ m/\Fst A n ρ (ρ m) s s/\Fst A n ρ (ρ m+1) s e/\e≠s
 liv:∀ x s,home x=some s->∃ r,Liv par s r/\Fst A n ρ k x r
theorem UF.start:UF A n ρ 0 (λx=>none) (λx=>none):=⟨λx h=>absurd rfl h,λx h=>absurd h.2 (N7 _),λx x h=>(nomatch h),λx x h=>(nomatch h),λx x x h=>(nomatch h),λx x h=>(nomatch h)⟩
variable {home home':Nat->Option Nat}
theorem UF.root (u:UF A n ρ k home par) {s r:Nat} (hs:home s=some s) (h:Liv par s r):home r=some r:=by
 induction h with
 | root=>exact hs
 | up e _ ih=>exact ih (u.pr _ _ _ e).2.1
theorem UF.rk_pr (inj:∀ x y,x<n->y<n->ρ x=ρ y->x=y) (u:UF A n ρ k home par) {s m e:Nat} (h:par s=some (m,e)):ρ e<ρ s:=by
 refine oq07 (u.pr s m e h) λh1 h2 h3 h4 h5 h6 h7=>?_
 have:=h6.min s .here
 have ne:ρ e≠ρ s:=λz=>h7 (inj e s h6.lv.1 h5.lv.1 z)
 lia
theorem UF.alone (sy:∀ a b,A a b->A b a) (inj:∀ x y,x<n->y<n->ρ x=ρ y->x=y) (u:UF A n ρ k home par) {c:Nat} (hc:c<n) (hρ:ρ c=k) (no:∀ o,A c o->¬ Lv n ρ k o) (h1:home' c=some c) (h2:∀ x,x≠c->home' x=home x):UF A n ρ (k+1) home' par:=by
 have ncl:¬ Lv n ρ k c:=λz=>by have:=z.2; exact X8.mpr (nz3 hρ.symm) this
 have nec:∀ {x s:Nat},home x=some s->x≠c:=λ{x s} h z=>ncl (u.dom c (by rw [<- z,h]; exact nofun))
 have fc:Fst A n ρ (k+1) c c:=⟨.here,⟨hc,by exact nz2 (nz3 hρ) (W4 _)⟩,λy hy=>by
  rcases hy.newc sy inj hc hρ with rfl | zr4_
  ·exact nz6 _
  ·refine oq13 zr4_ λo p1 p2 i=>?_
   exact absurd p2 (no o p1)⟩
 refine ⟨λx hx=>?_,λx hx=>?_,λx s hx=>?_,λx s hx=>?_,λs m e h=>?_,λx s hx=>?_⟩
 ·by_cases e:x=c
  ·subst e; exact ⟨hc,by exact nz2 (nz3 hρ) (W4 _)⟩
  ·rw [h2 x e] at hx; exact (u.dom x hx).up
 ·by_cases e:x=c
  ·subst e; exact ⟨x,h1⟩
  ·rw [h2 x e]
   refine u.has x ⟨hx.1,?_⟩
   have:ρ x≠k:=λz=>e (inj x c hx.1 hc (by exact W9 (nz4 (nz3 z) (nz3 hρ.symm)) (nz4 (nz3 hρ) (nz3 z.symm))))
   have:=hx.2; lia
 ·by_cases e:x=c
  ·subst e; rw [h1] at hx; cases hx; rw [hρ]; exact fc
  ·rw [h2 x e] at hx; exact u.hm x s hx
 ·by_cases e:x=c
  ·subst e; rw [h1] at hx; cases hx; exact h1
  ·rw [h2 x e] at hx
   have:=u.own x s hx
   rw [h2 s (nec this)]; exact this
 ·refine oq07 (u.pr s m e h) λg1 g2 g3 g4 g5 g6 g7=>?_
  exact (oi07 (by rw [h2 s (nec g1)]; exact g1) (by rw [h2 e (nec g2)]; exact g2) g3.up g4 g5 g6 g7)
 ·by_cases e:x=c
  ·subst e
   rw [h1] at hx; cases hx
   refine (oi12 x (.root ?_) fc)
   cases q:par x with
   | none=>rfl
   | some p=>exact absurd rfl (nec (u.pr x p.1 p.2 q).1)
  ·rw [h2 x e] at hx
   refine oq12 (u.liv x s hx) λr l f=>?_
   have lx:=u.dom x (by rw [hx]; exact nofun)
   refine ⟨r,l,f.rch.up,f.lv.up,λy hy=>?_⟩
   rcases hy.new sy inj hc hρ lx with q | zr5_
   ·exact f.min y q
   ·refine oq13 zr5_ λo p1 p2 i=>?_
    exact absurd p2 (no o p1)
theorem UF.meet (sy:∀ a b,A a b->A b a) (inj:∀ x y,x<n->y<n->ρ x=ρ y->x=y) (u:UF A n ρ k home par) {c elder:Nat} {met:List Nat} (hc:c<n) (hρ:ρ c=k)
  (m1:∀ o s,A c o->home o=some s->∃ r,r∈met/\Liv par s r) (m2:∀ r,r∈met->∃ o s,A c o/\home o=some s/\Liv par s r) (he:elder∈met) (hmin:∀ r,r∈met->ρ elder<=ρ r)
  (h1:home' c=some elder) (h2:∀ x,x≠c->home' x=home x) (p1:∀ s,s∈met->s≠elder->par' s=some (c,elder)) (p2:∀ s,¬ (s∈met/\s≠elder)->par' s=par s):UF A n ρ (k+1) home' par':=by
 have ncl:¬ Lv n ρ k c:=λz=>by have:=z.2; exact X8.mpr (nz3 hρ.symm) this
 have nec:∀ {x s:Nat},home x=some s->x≠c:=λ{x s} h z=>ncl (u.dom c (by rw [<- z,h]; exact nofun))
 have L0:∀ o,A c o->Lv n ρ k o->∃ r,r∈met/\Fst A n ρ k o r:=λo ho lo=>by
  refine oq11 (u.has o lo) λs hs=>?_
  refine oq12 (m1 o s ho hs) λr g1 g2=>?_
  refine oq12 (u.liv o s hs) λr' g3 g4=>?_
  have:=g2.det g3
  subst this
  exact (oi12 r g1 g4)
 have L0':∀ r,r∈met->∃ o,A c o/\Lv n ρ k o/\Fst A n ρ k o r:=λr hr=>by
  refine oq23 (m2 r hr) λo s g1 g2 g3=>?_
  refine oq12 (u.liv o s g2) λr' g4 g5=>?_
  have:=g3.det g4
  subst this
  exact (oi13 o g1 (u.dom o (by rw [g2]; exact nofun)) g5)
 have lc:Lv n ρ (k+1) c:=⟨hc,by exact nz2 (nz3 hρ) (W4 _)⟩
 have L1:Fst A n ρ (k+1) c elder:=by
  refine oq13 (L0' elder he) λo g1 g2 g3=>?_
  refine ⟨Rch.trans (.on .here g1 g2.up) g3.rch.up,g3.lv.up,λy hy=>?_⟩
  rcases hy.newc sy inj hc hρ with rfl | zr6_
  ·have:=g3.lv.2; exact nz5 (nz1 this (nz3 hρ.symm))
  ·refine oq13 zr6_ λo' q1 q2 q3=>?_
   refine oq12 (L0 o' q1 q2) λr' r1 r2=>?_
   exact nz4 (hmin r' r1) (r2.min y q3)
 have L2:∀ x r,Lv n ρ k x->Fst A n ρ k x r->r∈met->Fst A n ρ (k+1) x elder:=λx r lx f hr=>by
  refine oq13 (L0' r hr) λo g1 g2 g3=>?_
  have xc:Rch A (Lv n ρ (k+1)) x c:=.on ((f.rch.trans (g3.rch.symm sy g2)).up) (sy _ _ g1) lc
  exact ⟨xc.trans L1.rch,L1.lv,λy hy=>L1.min y ((xc.symm sy lx.up).trans hy)⟩
 have L3:∀ x r,Lv n ρ k x->Fst A n ρ k x r->r ∉ met->Fst A n ρ (k+1) x r:=λx r lx f hr=>by
  refine ⟨f.rch.up,f.lv.up,λy hy=>?_⟩
  rcases hy.new sy inj hc hρ lx with q | zr7_
  ·exact f.min y q
  ·refine oq14 zr7_ λo q1 q2 q3 i=>?_
   refine oq12 (L0 o q1 q2) λr' r1 r2=>?_
   have:=(f.of_rch sy lx q3).same inj r2
   exact absurd (this ▸ r1) hr
 have pn:∀ r,r∈met->par r=none:=λr hr=>by
  refine oq23 (m2 r hr) λo s g1 g2 g3=>?_
  exact g3.end_
 have hr:∀ r,r∈met->home r=some r:=λr hr=>by
  refine oq23 (m2 r hr) λo s g1 g2 g3=>?_
  exact u.root (u.own o s g2) g3
 have keep:∀ z,par z≠none->par' z=par z:=λz hz=>p2 z λq=>hz (pn z q.1)
 have le:Liv par' elder elder:=.root ((p2 elder λq=>q.2 rfl).trans (pn elder he))
 refine ⟨λx hx=>?_,λx hx=>?_,λx s hx=>?_,λx s hx=>?_,λs m e h=>?_,λx s hx=>?_⟩
 ·by_cases e:x=c
  ·subst e; exact lc
  ·rw [h2 x e] at hx; exact (u.dom x hx).up
 ·by_cases e:x=c
  ·subst e; exact ⟨elder,h1⟩
  ·rw [h2 x e]
   refine u.has x ⟨hx.1,?_⟩
   have:ρ x≠k:=λz=>e (inj x c hx.1 hc (by exact W9 (nz4 (nz3 z) (nz3 hρ.symm)) (nz4 (nz3 hρ) (nz3 z.symm))))
   have:=hx.2; omega
 ·by_cases e:x=c
  ·subst e; rw [h1] at hx; cases hx; rw [hρ]; exact L1
  ·rw [h2 x e] at hx; exact u.hm x s hx
 ·by_cases e:x=c
  ·subst e
   rw [h1] at hx; cases hx
   rw [h2 _ (nec (hr _ he))]; exact hr _ he
  ·rw [h2 x e] at hx
   have:=u.own x s hx
   rw [h2 s (nec this)]; exact this
 ·by_cases q:s∈met/\s≠elder
  ·rw [p1 s q.1 q.2] at h
   cases h
   have hs:=hr s q.1
   refine oq13 (L0' s q.1) λo g1 g2 g3=>?_
   have fs:=g3.of_rch sy g2 g3.rch
   refine (oi07 (by rw [h2 s (nec hs)]; exact hs) (by rw [h2 _ (nec (hr _ he))]; exact hr _ he) lc ?_ (by rw [hρ]; exact fs) (by rw [hρ]; exact L2 s s g3.lv fs q.1) (λz=>q.2 z.symm))
   have:=g3.lv.2; exact nz1 this (nz3 hρ.symm)
  ·rw [p2 s q] at h
   refine oq07 (u.pr s m e h) λg1 g2 g3 g4 g5 g6 g7=>?_
   exact (oi07 (by rw [h2 s (nec g1)]; exact g1) (by rw [h2 e (nec g2)]; exact g2) g3.up g4 g5 g6 g7)
 ·by_cases e:x=c
  ·subst e
   rw [h1] at hx; cases hx
   exact (oi12 _ le L1)
  ·rw [h2 x e] at hx
   refine oq12 (u.liv x s hx) λr l f=>?_
   have lx:=u.dom x (by rw [hx]; exact nofun)
   by_cases q:r∈met
   ·refine (oi12 elder (l.more keep ?_) (L2 x r lx f q))
    by_cases qe:r=elder
    ·rw [qe]; exact le
    ·exact .up (p1 r q qe) le
   ·exact (oi12 r (l.more keep (.root ((p2 r λz=>q z.1).trans l.end_))) (L3 x r lx f q))
end
end Gr
namespace Srt
theorem mid {l r f:Nat} (h:l<r) (h3:r - l<=f+1):l<=(l+r) / 2/\(l+r) / 2<r/\(l+r) / 2 - l<=f/\r - ((l+r) / 2+1)<=f:=by
 have a:l<=(l+r) / 2:=(J3 (by decide)).mpr (by rw [Nat.mul_two]; exact M9 (nz5 h) l)
 have b:(l+r) / 2<r:=(J2 (by decide)).mpr (by rw [Nat.mul_two]; exact Nat.add_lt_add_right h r)
 have c:r - (l+1)<=f:=by rw [Nat.sub_add_eq]; exact Nat.sub_le_of_le_add h3
 refine ⟨a,b,nz4 (Nat.sub_le_sub_right (A0 b) l) ?_,nz4 (Nat.sub_le_sub_left (C8 a) r) c⟩
 rw [Nat.sub_sub,Nat.add_comm]; exact c
open PySem PySem.W PyProof.Rows
def Ok {α:Type} (c:Nat->Nat->Bool) (n:Nat):KasT α->(α->Prop)->Prop
 | .ret a,Q=>Q a
 | .ask i j k,Q=>i<n/\j<n/\Ok c n (k (c i j)) Q
theorem Ok.bind {α β:Type} {c:Nat->Nat->Bool} {n:Nat} {f:α->KasT β} {Q:β->Prop} {t:KasT α}:Ok c n t (λa=>Ok c n (f a) Q)->Ok c n (t.bind f) Q:=by
 induction t with
 | ret a=>exact id
 | ask i j k ih=>exact λh=>⟨h.1,h.2.1,ih _ h.2.2⟩
theorem Ok.mono {α:Type} {c:Nat->Nat->Bool} {n:Nat} {Q Q':α->Prop} (h:∀ a,Q a->Q' a) {t:KasT α}:Ok c n t Q->Ok c n t Q':=by
 induction t with
 | ret a=>exact h a
 | ask i j k ih=>exact λh=>⟨h.1,h.2.1,ih _ h.2.2⟩
theorem Ok.wp {α:Type} {c:Nat->Nat->Bool} {n:Nat} {Q:α->Prop} {cmp:Nat->Nat->(Bool->Shared->Prop)->Shared->Prop} {G:α->Shared->Prop} {s:Shared}
  (hc:∀ i j C,i<n->j<n->C (c i j) s->cmp i j C s) (hG:∀ a,Q a->G a s) {t:KasT α}:Ok c n t Q->t.kasWp cmp G s:=by
 induction t with
 | ret a=>exact hG a
 | ask i j k ih=>exact λh=>hc i j _ h.1 h.2.1 (ih _ h.2.2)
structure Lin (c:Nat->Nat->Bool) (n:Nat):Prop where
 irr:∀ i,i<n->c i i=false
 tr:∀ i j k,i<n->j<n->k<n->c i j=true->c j k=true->c i k=true
 tot:∀ i j,i<n->j<n->i≠j->c i j=false->c j i=true
structure Arr (n:Nat) (p:Array Nat):Prop where
 sz:p.size=n
 pm:p.toList.Perm (Z9 n)
noncomputable abbrev at' (p:Array Nat) (i:Nat):Nat:=p.getD i 0
theorem Arr.get {n:Nat} {p:Array Nat} (a:Arr n p) {i:Nat} (hi:i<n):p[i]?=some (at' p i):=by
 have h:i<p.size:=by rw [a.sz]; exact hi
 simp [at',Array.getD,h]
theorem Arr.lt {n:Nat} {p:Array Nat} (a:Arr n p) {i:Nat} (hi:i<n):at' p i<n:=by
 have h:=a.get hi
 have hm:at' p i∈p.toList:=by
  have:p.toList[i]?=some (at' p i):=by rw [P3]; exact h
  exact W6 this
 have:=a.pm.mem_iff.mp hm
 exact Q2.mp this
theorem Arr.inj {n:Nat} {p:Array Nat} (a:Arr n p) {i j:Nat} (hi:i<n) (hj:j<n) (e:at' p i=at' p j):i=j:=by
 have nd:p.toList.Nodup:=(a.pm.nodup_iff).mpr C9
 have h1:p.toList[i]?=some (at' p i):=by rw [P3]; exact a.get hi
 have h2:p.toList[j]?=some (at' p j):=by rw [P3]; exact a.get hj
 obtain ⟨l1,e1⟩:=Z1.mp h1
 obtain ⟨l2,e2⟩:=Z1.mp h2
 exact (C7 nd).mp (e1.trans (e.trans e2.symm))
def Up (c:Nat->Nat->Bool) (p:Array Nat) (k:Nat):Prop:=∀ i j,i<j->j<k->c (at' p i) (at' p j)=true
def Dn (c:Nat->Nat->Bool) (p:Array Nat) (k:Nat):Prop:=∀ i j,i<j->j<k->c (at' p j) (at' p i)=true
section
variable {c:Nat->Nat->Bool} {n:Nat} (L:Lin c n)
include L
theorem Up.more {p:Array Nat} {m:Nat} (a:Arr n p) (u:Up c p m) (h1:1<=m) (hm:m<n) (h:c (at' p (m - 1)) (at' p m)=true):Up c p (m+1):=by
 intro i j hij hj
 by_cases e:j=m
 ·subst e
  by_cases e2:i=j - 1
  ·subst e2; exact h
  ·exact L.tr _ _ _ (a.lt (by exact nz8 hij hm)) (a.lt (by exact nz2 (T8 _ _) hm)) (a.lt hm) (u i (j - 1) (by lia) (by lia)) h
 ·exact u i j hij (by lia)
theorem Dn.more {p:Array Nat} {m:Nat} (a:Arr n p) (u:Dn c p m) (h1:1<=m) (hm:m<n) (h:c (at' p m) (at' p (m - 1))=true):Dn c p (m+1):=by
 intro i j hij hj
 by_cases e:j=m
 ·subst e
  by_cases e2:i=j - 1
  ·subst e2; exact h
  ·exact L.tr _ _ _ (a.lt hm) (a.lt (by exact nz2 (T8 _ _) hm)) (a.lt (by exact nz8 hij hm)) h (u i (j - 1) (by lia) (by lia))
 ·exact u i j hij (by lia)
theorem ok_asc {p:Array Nat} (a:Arr n p):∀ (f m:Nat),1<=m->m+f=n->Up c p m->Ok c n (kas_asc p f m) λm'=>m<=m'/\m'<=n/\Up c p m'/\(m'<n->c (at' p m') (at' p (m' - 1))=true):=by
 intro f
 induction f with
 | zero=>exact λm h1 hf u=>⟨nz6 _,nz3 hf,u,λh=>absurd h (by rw [show m=n from hf]; exact Q7 _)⟩
 | succ f ih =>
  intro m h1 hf u
  have hm:m<n:=by lia
  refine ⟨a.lt hm,a.lt (by exact nz2 (T8 _ _) hm),?_⟩
  show Ok c n (if (c (at' p m) (at' p (m - 1)))=true then KasT.ret m else kas_asc p f (m+1)) _
  cases e:c (at' p m) (at' p (m - 1)) with
  | true =>
   rw [if_pos rfl]
   exact ⟨nz6 _,by exact nz5 hm,u,λx=>e⟩
  | false =>
   rw [if_neg Z2]
   have h2:c (at' p (m - 1)) (at' p m)=true:=L.tot _ _ (a.lt hm) (a.lt (by exact nz2 (T8 _ _) hm)) (λq=>by have:=a.inj hm (by exact nz2 (T8 _ _) hm) q; lia) e
   exact Ok.mono (λm' zq=>oq04 zq λq1 q2 q3 q4=>(oi04 (by exact nz5 q1) q2 q3 q4)) (ih (m+1) (by exact E3 _ _) (by lia) (Up.more L a u h1 hm h2))
theorem ok_desc {p:Array Nat} (a:Arr n p):∀ (f m:Nat),1<=m->m+f=n->Dn c p m->Ok c n (kas_desc f p m 0) λr=>r.1=p/\r.2.2=0/\m<=r.2.1/\r.2.1<=n/\Dn c p r.2.1:=by
 intro f
 induction f with
 | zero=>exact λm h1 hf u=>⟨rfl,rfl,nz6 _,nz3 hf,u⟩
 | succ f ih =>
  intro m h1 hf u
  have hm:m<n:=by omega
  refine ⟨a.lt hm,a.lt (by exact nz2 (T8 _ _) hm),?_⟩
  show Ok c n (if (c (at' p m) (at' p (m - 1)))=true then (if 0 > 0 then kas_desc f (kas_rev p (m - (0+1)) m) (m+1) 0 else kas_desc f p (m+1) 0)
   else .ask (at' p (m - 1)) (at' p m) λd=>if d=true then .ret (p,m,0) else kas_desc f p (m+1) (0+1)) _
  cases e:c (at' p m) (at' p (m - 1)) with
  | true =>
   rw [if_pos rfl,if_neg (by omega)]
   exact Ok.mono (λr zq=>oq05 zq λq0 q1 q2 q3 q4=>(oi05 q0 q1 (by exact nz5 q2) q3 q4)) (ih (m+1) (by exact E3 _ _) (by omega) (Dn.more L a u h1 hm e))
  | false =>
   rw [if_neg Z2]
   have h2:c (at' p (m - 1)) (at' p m)=true:=L.tot _ _ (a.lt hm) (a.lt (by exact nz2 (T8 _ _) hm)) (λq=>by have:=a.inj hm (by exact nz2 (T8 _ _) hm) q; omega) e
   refine ⟨a.lt (by exact nz2 (T8 _ _) hm),a.lt hm,?_⟩
   show Ok c n (if (c (at' p (m - 1)) (at' p m))=true then KasT.ret (p,m,0) else _) _
   rw [h2,if_pos rfl]
   exact ⟨rfl,rfl,nz6 _,by show m<=n; exact nz5 hm,u⟩
omit L in
theorem Arr.rev {p:Array Nat} (a:Arr n p) (i j:Nat):Arr n (kas_rev p i j) :=
 ⟨(mirror_size _ _ _ _).trans a.sz,((mirror_perm p i j _).toList).trans a.pm⟩
omit L in
theorem rev_at {p:Array Nat} (a:Arr n p) {m:Nat} (hm:m<=n) {k:Nat} (hk:k<m):at' (kas_rev p 0 m) k=at' p (m - 1 - k):=by
 have h:=getElem?_mirror_all (xs:=p) (i:=0) (j:=m) (by rw [a.sz]; exact hm) k
 rw [if_pos ⟨V5 _,hk⟩] at h
 have h1:=(a.rev 0 m).get (i:=k) (by exact nz1 hk hm)
 have h2:=a.get (i:=0+m - 1 - k) (by omega)
 have h3:some (at' (kas_rev p 0 m) k)=some (at' p (0+m - 1 - k)):=h1.symm.trans (h.trans h2)
 rw [Nat.zero_add] at h3
 exact Z3 h3
omit L in
theorem Dn.up {p:Array Nat} {m:Nat} (a:Arr n p) (hm:m<=n) (u:Dn c p m):Up c (kas_rev p 0 m) m:=by
 intro i j hij hj
 rw [rev_at a hm (by exact nz8 hij hj),rev_at a hm hj]
 exact u _ _ (by omega) (by omega)
theorem ok_tail3 {p:Array Nat} {m:Nat} (a:Arr n p) (h1:1<=m) (hm:m<=n) (u:Dn c p m):Ok c n (kas_tail3 m n p) λr=>1<=r.1/\r.1<=n/\Arr n r.2/\Up c r.2 r.1:=by
 refine Ok.bind (Ok.mono (λm' zq=>oq04 zq λq1 q2 q3 x=>?_) (ok_asc L (a.rev 0 m) (n - m) m h1 (by lia) (u.up a hm)))
 exact ⟨by show 1<=m'; exact nz4 h1 q1,q2,a.rev 0 m,q3⟩
theorem ok_count {p:Array Nat} (a:Arr n p) (hn:1<=n):Ok c n (kas_count n p) λr=>1<=r.1/\r.1<=n/\Arr n r.2/\Up c r.2 r.1:=by
 refine Ok.bind (Ok.mono (λm zq=>oq04 zq λq1 q2 q3 q4=>?_) (ok_asc L a (n - 1) 1 (nz6 _) (by omega) λi j hij hj=>absurd hij (by omega)))
 by_cases e:m=n
 ·rw [if_pos (by simp [e])]
  exact ⟨q1,q2,a,q3⟩
 ·rw [if_neg (by simp [e])]
  by_cases h:m > 1
  ·rw [if_pos h]
   have hc:c (at' p 0) (at' p (m - 1))=true:=q3 0 (m - 1) (by omega) (by omega)
   refine ⟨a.lt (by omega),a.lt (by omega),?_⟩
   show Ok c n (if (c (at' p 0) (at' p (m - 1)))=true then KasT.ret (m,p) else _) _
   rw [hc,if_pos rfl]
   exact ⟨q1,q2,a,q3⟩
  ·rw [if_neg h]
   have e1:m=1:=by omega
   subst e1
   have hn2:1<n:=by omega
   have h0:=q4 hn2
   have d2:Dn c p 2:=λi j hij hj=>by
    have ei:i=0:=by omega
    have ej:j=1:=by omega
    subst ei ej
    exact h0
   refine Ok.bind (Ok.mono (λr zq=>oq05 zq λr0 r1 r2 r3 r4=>?_) (ok_desc L a (n - (1+1)) (1+1) (by exact nz5 (W4 _)) (by omega) d2))
   rw [r1,if_neg (by omega),r0]
   exact ok_tail3 L a (by exact nz5 r2) r3 r4
theorem ok_place {p:Array Nat} {k:Nat} (a:Arr n p) (hk:k<n) (u:Up c p k):∀ (f l r:Nat),l<=r->r<=k->r - l<=f->(∀ i,i<l->c (at' p i) (at' p k)=true)->(∀ i,r<=i->i<k->c (at' p k) (at' p i)=true) ->
  Ok c n (kas_place p k f l r) λm=>m<=k/\(∀ i,i<m->c (at' p i) (at' p k)=true)/\∀ i,m<=i->i<k->c (at' p k) (at' p i)=true:=by
 intro f
 induction f with
 | zero=>exact λl r h1 h2 h3 hl hr=>⟨nz4 h1 h2,hl,λi q1 q2=>hr i (nz4 (Nat.le_of_sub_eq_zero (Nat.le_zero.mp h3)) q1) q2⟩
 | succ f ih =>
  intro l r h1 h2 h3 hl hr
  unfold kas_place
  by_cases h:l ≥ r
  ·rw [if_pos h]
   exact ⟨by show l<=k; exact nz4 h1 h2,hl,λi q1 q2=>hr i (by exact nz4 h q1) q2⟩
  ·rw [if_neg h]
   refine oq04 (mid (B0.mp h) h3) λm1 m2 m3 m4=>?_
   have hm:(l+r) / 2<k:=nz1 m2 h2
   refine ⟨a.lt hk,a.lt (by exact nz8 hm hk),?_⟩
   show Ok c n (if (c (at' p k) (at' p ((l+r) / 2)))=true then kas_place p k f l ((l+r) / 2) else kas_place p k f ((l+r) / 2+1) r) _
   cases e:c (at' p k) (at' p ((l+r) / 2)) with
   | true =>
    rw [if_pos rfl]
    refine ih l ((l+r) / 2) m1 (by exact nz5 hm) m3 hl λi q1 q2=>?_
    by_cases ei:i=(l+r) / 2
    ·subst ei; exact e
    ·exact L.tr _ _ _ (a.lt hk) (a.lt (by exact nz8 hm hk)) (a.lt (by exact nz8 q2 hk)) e (u _ _ (E8 q1 (T9 ei)) q2)
   | false =>
    rw [if_neg Z2]
    have h4:c (at' p ((l+r) / 2)) (at' p k)=true:=L.tot _ _ (a.lt hk) (a.lt (by exact nz8 hm hk)) (λq=>by have:=a.inj hk (by exact nz8 hm hk) q; exact absurd hm (this ▸ Q7 _)) e
    refine ih ((l+r) / 2+1) r m2 h2 m4 (λi q=>?_) hr
    by_cases ei:i=(l+r) / 2
    ·subst ei; exact h4
    ·exact L.tr _ _ _ (a.lt (nz2 (T4 q) (nz8 hm hk))) (a.lt (by exact nz8 hm hk)) (a.lt hk) (u i _ (E8 (T4 q) ei) (by exact hm)) h4
omit L in
theorem Arr.bub {p:Array Nat} (a:Arr n p) (k d:Nat):Arr n (bubble p k d):=⟨(bubble_size _ _ _).trans a.sz,((bubble_perm p k d).toList).trans a.pm⟩
omit L in
theorem bub_at {p:Array Nat} (a:Arr n p) {k l i:Nat} (hk:k<n) (hl:l<=k) (hi:i<n):at' (bubble p k (k - l)) i=if i=l then at' p k else if l<i/\i<=k then at' p (i - 1) else at' p i:=by
 have h:=getElem?_bubble (xs:=p) (src:=k) (by rw [a.sz]; exact hk) (k - l) (by exact nz4 (T8 _ _) (nz6 _)) i
 have e:k - (k - l)=l:=by lia
 rw [e] at h
 have h1:=(a.bub k (k - l)).get hi
 rw [h1] at h
 by_cases q:i=l
 ·rw [if_pos q] at h ⊢
  rw [a.get hk] at h
  exact Z3 h
 ·rw [if_neg q] at h ⊢
  by_cases q2:l<i/\i<=k
  ·rw [if_pos q2] at h ⊢
   rw [a.get (by exact nz2 (T8 _ _) hi)] at h
   exact Z3 h
  ·rw [if_neg q2] at h ⊢
   rw [a.get hi] at h
   exact Z3 h
theorem ok_bin:∀ (f k:Nat) {p:Array Nat},Arr n p->k+f=n->Up c p k->Ok c n (kas_bin f p k) λp'=>Arr n p'/\Up c p' n:=by
 intro f
 induction f with
 | zero=>exact λk p a hf u=>⟨a,(show k=n from hf) ▸ u⟩
 | succ f ih =>
  intro k p a hf u
  have hk:k<n:=hf ▸ Nat.lt_add_of_pos_right (Nat.succ_pos f)
  refine Ok.bind (Ok.mono (λl zq=>oq03 zq λq1 q2 q3=>?_) (ok_place L a hk u k 0 k (V5 _) (nz6 _) (by exact nz4 (T8 _ _) (nz6 _)) (λi h=>absurd h (by exact X8.mpr (V5 _))) λi h1 h2=>absurd h2 (by exact X8.mpr h1)))
  refine ih (k+1) (a.bub k (k - l)) ((Nat.succ_add k f).trans hf) λi j hij hj=>?_
  have hjn:j<n:=nz1 hj hk
  have hjk:j<=k:=T4 hj
  rw [bub_at a hk q1 (nz8 hij hjn),bub_at a hk q1 hjn]
  by_cases ei:i=l
  ·rw [if_pos ei,if_neg (λz=>absurd hij (by rw [ei,z]; exact Q7 _)),if_pos ⟨by exact nz2 (nz3 ei.symm) hij,hjk⟩]
   exact q3 _ (A0 (ei ▸ hij)) (nz1 (A1 hij) hjk)
  ·rw [if_neg ei]
   by_cases ej:j=l
   ·rw [if_pos ej,if_neg (λz=>absurd z.1 (X8.mpr (nz5 (ej ▸ hij))))]
    exact q2 i (by exact nz1 hij (nz3 ej))
   ·rw [if_neg ej]
    by_cases h1:l<i/\i<=k
    ·rw [if_pos h1,if_pos ⟨by exact nz8 h1.1 hij,hjk⟩]
     exact u _ _ (Nat.sub_lt_sub_right (Nat.succ_le_of_lt (nz2 (V5 _) h1.1)) hij) (nz1 (A1 hij) hjk)
    ·rw [if_neg h1]
     by_cases h2:l<j/\j<=k
     ·rw [if_pos h2]
      exact u _ _ (nz1 (E8 (X8.mp λz=>h1 ⟨z,nz4 (nz5 hij) hjk⟩) ei) (A0 h2.1)) (nz1 (A1 hij) hjk)
     ·rw [if_neg h2]
      exact u _ _ hij (nz1 (E8 (X8.mp λz=>h2 ⟨z,hjk⟩) ej) q1)
theorem ok_sort (hn:1<=n):Ok c n (kas_sort n) λp=>Arr n p/\Up c p n:=by
 have a:Arr n (V3 (Z9 n)):=⟨by simp,by simp⟩
 refine Ok.bind (Ok.mono (λr zq=>oq04 zq λq1 q2 q3 q4=>?_) (ok_count L a hn))
 by_cases h:r.1<n
 ·rw [if_pos h,Nat.max_eq_left q1]
  exact ok_bin L (n - r.1) r.1 q3 (by lia) q4
 ·rw [if_neg h]
  have e:r.1=n:=by exact W9 q2 (X8.mp h)
  rw [e] at q4
  exact ⟨q3,q4⟩
end
end Srt
namespace L2
open PySem PySem.Spec PyProof.Rows
theorem qM {env:Env}:∀ (names:List (Str × Q4)) (cs:List (Str × Addr)),(∀ y∈names,y.2=.free->∃ c,env.cells.lookup y.1=some c) ->
  ∃ cl,(forIn names cs λ(x:Str × Q4) (r:List (Str × Addr))=>(match x with
   | (name,kind)=>if (kind == O9)=true then do let a <- cellOf env name; pure (K3 ((name,a) :: r)) else pure (K3 r):Sem (ForInStep (List (Str × Addr)))))=pure cl /\
   (∀ p∈cl,p∈cs\/env.cells.lookup p.1=some p.2)/\(∀ p∈cs,p∈cl)/\∀ y∈names,y.2=.free->∃ c,(y.1,c)∈cl:=by
 intro names
 induction names with
 | nil=>exact λcs b=>(oi14 cs rfl (λp h=>.inl h) (λp h=>h) (λy h=>nomatch h))
 | cons x r ih =>
  intro cs h
  cases x with | mk n k=>?_
  by_cases hk:k=.free
  ·refine oq11 (h (n,k) V0 hk) λc hc=>?_
   refine oq14 (ih ((n,c) :: cs) λy hy=>h y (X2 _ hy)) λcl e h1 h2 h3=>?_
   refine (oi14 cl ?_ (λp hp=>?_) (λp hp=>h2 p (X2 _ hp)) (λy hy hf=>?_))
   ·rw [List.forIn_cons]
    have e1:cellOf env n=pure c:=by unfold cellOf; rw [hc]
    simp only [hk,beq_self_eq_true,if_true,e1,pure_bind]
    exact e
   ·exact (h1 p hp).elim (λz=>(Z8.mp z).elim (λz=>.inr (z ▸ hc)) .inl) .inr
   ·exact (Z8.mp hy).elim (λz=>⟨c,z ▸ h2 _ V0⟩) λz=>h3 y z hf
  ·refine oq14 (ih cs λy hy=>h y (X2 _ hy)) λcl e h1 h2 h3=>?_
   refine (oi14 cl ?_ h1 h2 (λy hy hf=>?_))
   ·have hb:(k == O9)=false:=by simpa using hk
    rw [List.forIn_cons]
    simp only [hb,P5,if_false,pure_bind]
    exact e
   ·exact (Z8.mp hy).elim (λz=>absurd ((congrArg Prod.snd z).symm.trans hf) hk) λz=>h3 y z hf
theorem lI {β:Type} {x:Str} {c:β}:∀ {l:List (Str × β)},(x,c)∈l->∃ d,l.lookup x=some d:=by
 intro l
 induction l with
 | nil=>exact λh=>nomatch h
 | cons y r ih =>
  intro h
  rw [N1]
  cases hb:x == y.1 with
  | true=>exact ⟨y.2,rfl⟩
  | false=>exact (Z8.mp h).elim (λz=>absurd hb (by rw [<- z]; simp)) ih
theorem ic {scope:Scope} {env:Env} (h:∀ y∈scope.names,y.2=.free->∃ c,env.cells.lookup y.1=some c) :
  ∃ cl,closureFor scope env=pure cl/\(∀ x c,cl.lookup x=some c->env.cells.lookup x=some c)/\∀ y∈scope.names,y.2=.free->∃ c,cl.lookup y.1=some c:=by
 refine oq14 (qM (env:=env) scope.names [] h) λcl e h1 a h3=>?_
 refine (oi13 cl ?_ (λx c hx=>?_) (λy hy hf=>?_))
 ·unfold closureFor
  show (forIn scope.names [] _ >>= λcs=>pure cs)=pure cl
  refine Eq.trans (congrArg (λm=>m >>= λcs=>pure cs) e) ?_
  rw [pure_bind]
 ·rcases h1 _ (U9 hx) with z | z
  ·exact nomatch z
  ·exact z
 ·refine oq11 (h3 y hy hf) λc hc=>?_
  exact lI hc
theorem hV {env:Env}:∀ {names:List (Str × Q4)} {x:Str},names.lookup x=some .free->∃ k,
  (names.map λ(n,k)=>if (k == O9 && env.scope.kind == .function && env.kindOf n == some .cell) then (n,Q4.cell) else (n,k)).lookup x=some k/\(k=.cell\/k=.free):=by
 intro names x
 induction names with
 | nil=>exact λh=>nomatch h
 | cons y r ih =>
  intro h
  cases y with | mk n k=>?_
  show ∃ k',O0 x ((if (k == O9 && env.scope.kind == .function && env.kindOf n == some .cell)=true then (n,Q4.cell) else (n,k)) :: _)=some k'/\_
  cases hx:x == n with
  | true =>
   simp only [N1,hx] at h
   cases h
   by_cases hc:(O9 == O9 && env.scope.kind == .function && env.kindOf n == some .cell)=true
   ·exact (oi12 .cell (by rw [if_pos hc]; simp [N1,hx]) (.inl rfl))
   ·exact (oi12 .free (by rw [if_neg hc]; simp [N1,hx]) (.inr rfl))
  | false =>
   simp only [N1,hx] at h
   refine oq12 (ih h) λk' e hk=>?_
   refine (oi12 k' ?_ hk)
   by_cases hc:(k == O9 && env.scope.kind == .function && env.kindOf n == some .cell)=true
   ·rw [if_pos hc]; simp only [N1,hx]; exact e
   ·rw [if_neg hc]; simp only [N1,hx]; exact e
section
variable {prog:X5} {w:World} {A:Around} {R:Result->Shared->Prop} {s:Shared}
theorem mX {elt target iter:Expr} {ifs:List Expr} {scope:Scope} {pos:Pos} {it acc:Value} {env:Env} (I:Nat->Shared->Prop)
  (turn:∀ n s,I n s->wpAny (model prog w) A (pyNext it) (λr s₁=>match r with
   | none=>R (.ok .next) s₁
   | some v=>wpAny (model prog w) A (A6 target it v) (λa s'=>wpAny (model prog w) A (assign target env v) (λa s₂ =>
     wpAny (model prog w) A (forIn ifs true λc r=>if r=true then do let ok <- isTrue c env (eval c env); pure (K3 ok) else pure (K3 r)) (λok s₃ =>
      if ok=true then wpAny (model prog w) A (eval elt env) (λx s₄ =>
       wpAny (model prog w) A (call (.builtin "list.append") [acc,x]) (λa s₅=>∃ m,m<n/\I m s₅) (λa a=>False) s₄) (λa a=>False) s₃
      else ∃ m,m<n/\I m s₃) (λa a=>False) s₂) (λa a=>False) s') (λa a=>False) s₁) (λa a=>False) s)
  (n:Nat) (h:I n s):D7 (model prog w) A (.compLoop (.ListComp elt [⟨target,iter,ifs,0⟩] scope pos) 0 it acc env) R s:=by
 refine codeAny_loop rfl I (λn s hI=>?_) n h
 show wpAny _ A ((compTurn (.ListComp elt [⟨target,iter,ifs,0⟩] scope pos) 0 it acc env).onRaise (λx=>do noteFrame x env; theTreesLotGoes x)) _ _ s
 refine wpAny_noted ?_
 rw [compTurn_list]
 refine Z4 (B7 (Z4 (T0 (turn n s hI) (λr s₁ h₁=>?_) λa a z=>z.elim)))
 cases r with
 | none=>exact Y6 h₁
 | some v =>
  refine Z4 (T0 h₁ (λa s' h'=>?_) λa a z=>z.elim)
  refine Z4 (T0 h' (λa s₂ h₂=>Z4 (T0 h₂ (λok s₃ h₃=>?_) λa a z=>z.elim)) λa a z=>z.elim)
  cases ok with
  | false=>exact Y6 ⟨rfl,h₃⟩
  | true =>
   exact Z4 (Z4 (T0 h₃ (λx s₄ h₄=>Z4 (T0 h₄ (λa s₅ h₅=>Y6 (Y6 ⟨rfl,h₅⟩)) λa a z=>z.elim)) λa a z=>z.elim))
end
noncomputable def cS (X:Cx) (N':List Str) (scope:Scope) (cl:List (Str × Addr)) (fp:List Addr) (s3:Shared) (H3:Hp):Cx where
 prog:=X.prog
 w:=X.w
 K:=X.K
 mg:=X.mg
 base:=X.base
 A:=X.A
 N:=N'
 s₀:=s3
 H₀:=H3
 env:=compEnvC scope cl s3.heap.objs.size X.env
 outer:=X.stack
 stack:=X.stack
 ex:=fp
 calm:=X.calm
 fn:=λx=>false
 pn:=[]
 xe:=λx x=>False
def oP (X:Cx) (scope:Scope):List (Str × Nat)->Prop
 | []=>True
 | p :: r=>(X.N[p.2]?=some p.1/\scope.names.lookup p.1=some .free/\(X.env.kindOf p.1=some .cell\/X.env.kindOf p.1=some .free))/\oP X scope r
theorem oP.get {X:Cx} {scope:Scope}:∀ {cap:List (Str × Nat)},oP X scope cap->∀ p∈cap,X.N[p.2]?=some p.1/\scope.names.lookup p.1=some .free/\(X.env.kindOf p.1=some .cell\/X.env.kindOf p.1=some .free):=by
 intro cap
 induction cap with
 | nil=>exact λx p h=>nomatch h
 | cons y r ih=>exact λz p h=>(Z8.mp h).elim (λe=>e ▸ z.1) (ih z.2 p)
noncomputable def st0 (loc:List Str) (cap:List (Str × Nat)) (σ:St):St:=loc.map (λx=>none)++cap.map λp=>(σ[p.2]?).join
theorem st0_len {loc:List Str} {cap:List (Str × Nat)} {σ:St}:(st0 loc cap σ).length=(loc++cap.map (·.1)).length:=by
 unfold st0; simp
theorem st0_get {loc:List Str} {cap:List (Str × Nat)} {σ:St} {i:Nat} {v:V} (h:(st0 loc cap σ)[i]?=some (some v)):∃ p,p∈cap/\(loc++cap.map (·.1))[i]?=some p.1/\σ[p.2]?=some (some v):=by
 unfold st0 at h
 by_cases hi:i<loc.length
 ·rw [X4 (by simpa using hi),Z7] at h
  cases e:loc[i]? with
  | none=>rw [e] at h; cases h
  | some a=>rw [e] at h; cases h
 ·rw [W0 (by simpa using hi),Z7,Y0] at h
  cases e:cap[i - loc.length]? with
  | none=>rw [e] at h; cases h
  | some p =>
   rw [e] at h
   have h':(σ[p.2]?).join=some v:=Z3 h
   refine (oi13 p (W6 e) ?_ ?_)
   ·rw [W0 (by exact X8.mp hi),Z7,e]; rfl
   ·cases e2:σ[p.2]? with
    | none=>rw [e2] at h'; cases h'
    | some o=>rw [e2] at h'; exact congrArg some h'
def Wk:St->St->Prop
 | [],[]=>True
 | none :: r,_ :: t=>Wk r t
 | some v :: r,o :: t=>o=some v/\Wk r t
 | _,_=>False
theorem Wk.len:∀ {a b:St},Wk a b->a.length=b.length:=by
 intro a
 induction a with
 | nil=>intro b h; cases b with | nil=>rfl | cons=>exact R6 h
 | cons o r ih =>
  intro b h
  cases b with
  | nil=>cases o <;> exact R6 h
  | cons o' t=>cases o with | none=>exact congrArg Nat.succ (ih (b:=t) h) | some v=>exact congrArg Nat.succ (ih (b:=t) h.2)
theorem Wk.get:∀ {a b:St},Wk a b->∀ (i:Nat) (v:V),a[i]?=some (some v)->b[i]?=some (some v):=by
 intro a
 induction a with
 | nil=>exact λc i v e=>nomatch e
 | cons o r ih =>
  intro b h i v e
  cases b with
  | nil=>cases o <;> exact R6 h
  | cons o' t =>
   cases i with
   | zero=>cases o with | none=>exact nomatch e | some x=>exact (congrArg some h.1).trans e
   | succ i=>cases o with | none=>exact ih (b:=t) h i v e | some x=>exact ih (b:=t) h.2 i v e
noncomputable def freeOk (ns ms:List (Str × Q4)):Bool:=ns.all λy=>match y.2 with
 | .free=>match ms.lookup y.1 with
  | some .cell=>true
  | some .free=>true
  | _=>false
 | _=>true
theorem kH {ns ms:List (Str × Q4)} (h:freeOk ns ms=true):∀ y∈ns,y.2=.free->ms.lookup y.1=some .cell\/ms.lookup y.1=some .free:=by
 intro y hy hf
 have q:=List.all_eq_true.mp h y hy
 rw [hf] at q
 cases e:ms.lookup y.1 with
 | none=>rw [e] at q; cases q
 | some k =>
  rw [e] at q
  cases k <;> first | exact .inl rfl | exact .inr rfl | cases q
structure CompScope (X:Cx) (loc:List Str) (cap:List (Str × Nat)) (scope:Scope):Prop where
 kind:scope.kind=.function
 nocell:∀ y∈scope.names,y.2≠.cell
 names:∀ y∈scope.names,y.2=.local->scope.names.lookup y.1=some .local
 free0:freeOk scope.names X.env.scope.names=true
 cap:oP X scope cap
 xkind:X.env.scope.kind=.function
theorem CompScope.free {X:Cx} {loc:List Str} {cap:List (Str × Nat)} {scope:Scope} (S:CompScope X loc cap scope):∀ y∈scope.names,y.2=.free->X.env.kindOf y.1=some .cell\/X.env.kindOf y.1=some .free:=kH S.free0
section
variable {X:Cx} {pins:List (Addr × Obj)} {σ:St} {H:Hp} {s:Shared} {loc:List Str} {cap:List (Str × Nat)} {scope:Scope} {cl:List (Str × Addr)} {fp:List Addr}
theorem inv_comp {h1:Heap} (S:CompScope X loc cap scope) (I:Inv X pins σ H s) (hcl:∀ x c,cl.lookup x=some c->X.env.cells.lookup x=some c) (hcl2:∀ y∈scope.names,y.2=.free->∃ c,cl.lookup y.1=some c)
  (hf:∀ b∈fp,FpOk X pins H b) (hlt:∀ b∈fp,b<s.heap.objs.size) (hns:h1.Ns s.heap.objs.size (λa=>none)) (hk:∀ b o,s.heap.get? b=some o->h1.get? b=some o) :
  Inv (cS X (loc++cap.map (·.1)) scope cl fp s H) [] (st0 loc cap σ) H { s with heap:=h1 }:=by
 have fromK:∀ x,(relabel scope X.env).names.lookup x=some .cell\/(relabel scope X.env).names.lookup x=some .free->∃ y∈scope.names,y.2=.free/\y.1=x:=by
  intro x hx
  have:∃ k,(relabel scope X.env).names.lookup x=some k/\(k=.cell\/k=.free):=by
   rcases hx with z | z
   ·exact (oi12 _ z (.inl rfl))
   ·exact (oi12 _ z (.inr rfl))
  refine oq12 this λk e hk=>?_
  have hm:=U9 e
  refine oq12 (W7.mp hm) λy hy e2=>?_
  obtain ⟨n,k'⟩:=y
  have e3:(if (k' == O9 && X.env.scope.kind == .function && X.env.kindOf n == some .cell)=true then (n,Q4.cell) else (n,k'))=(x,k):=e2
  by_cases hc:(k' == O9 && X.env.scope.kind == .function && X.env.kindOf n == some .cell)=true
  ·rw [if_pos hc] at e3
   injection e3 with e4 _
   simp only [N0] at hc
   exact (oi13 (n,k') hy (by simpa using hc.1.1) e4)
  ·rw [if_neg hc] at e3
   injection e3 with e4 e5
   rcases hk with z | z
   ·rw [z] at e5; exact absurd e5 (S.nocell _ hy)
   ·rw [z] at e5; exact (oi13 (n,k') hy e5 e4)
 refine ⟨⟨I.ok.mod,S.kind,I.ok.glob,I.ok.blt,nz6 _,λx y c h1 h2=>I.ok.inj x y c (hcl x c h1) (hcl y c h2),λx hx=>?_,λx c h a=>absurd h (by show ¬ (false=true); decide),I.ok.hd,I.ok.frames,.inl rfl,λb hb=>⟨nz7 (hlt b hb),λx c e=>(hf b hb).2.2.2.2.1 x c (hcl x c e)⟩,I.bs,
   nz4 I.ok.bsz I.sz,λb o e z=>?_,λb hb z=>?_,I.stack,I.stkFree⟩,
  rfl,I.bare,Un.kept hk,(oi12 _ hns (λi x v h1 h2 h3=>?_)),λx c e=>?_,I.hok.fresh (nz6 _),λx c e=>I.freeC x c (hcl x c e),λp hp=>absurd (show p∈([]:List (Addr × Obj)) from hp) (by simp),I.hok.kept hk,st0_len⟩
 ·refine oq13 (fromK x hx) λy hy hfr e=>?_
  subst e
  exact hcl2 y hy hfr
 ·
  have hb:=hf b z
  rcases hb.2.2.2.1 with q | q
  ·exact I.ok.noex b o e q
  ·exact absurd (nz1 (Y4 e) (nz4 I.ok.bsz q)) (Q7 _)
 ·have z':=I.stkSub b z
  rcases Z8.mp z' with q | q
  ·exact (hf b hb).2.1 q
  ·exact (hf b hb).2.2.1 q
 ·refine oq13 (st0_get h2) λp hp e1 e2=>?_
  have e3:x=p.1:=Z3 (h1.symm.trans e1)
  subst e3
  refine oq03 (S.cap.get p hp) λc1 c2 c3=>?_
  refine oq12 I.loc λm a hl=>?_
  have vis:Vis X.env.scope p.1:=by
   rcases c3 with k | k
   ·exact .inr (.inl k)
   ·exact .inr (.inr k)
  refine oq12 (hl p.2 p.1 v c1 e2 vis) λu r l=>?_
  refine (oi12 u r (.inr ⟨?_,?_⟩))
  ·refine oq12 (hV (env:=X.env) c2) λk e hk=>?_
   rcases hk with z | z
   ·subst z; exact .inl e
   ·subst z; exact .inr e
  ·rcases l with zr2_ | zr1_
   ·refine oq02 zr2_ λk a=>?_
    rcases c3 with z | z
    ·rw [k] at z; cases z
    ·rw [k] at z; cases z
   ·refine oq02 zr1_ λa zz=>oq12 zz λc e hc=>?_
    refine oq11 (hcl2 (p.1,.free) (U9 c2) rfl) λc' hc'=>?_
    have:c'=c:=Z3 ((hcl _ _ hc').symm.trans e)
    subst this
    refine oq12 hc λo ho hd=>?_
    exact ⟨c',hc',o,hk _ o ho,hd⟩
 ·refine oq22 (I.cell x c (hcl x c e)) λv o ho hd=>?_
  exact ⟨v,o,hk _ o ho,hd⟩
end
noncomputable def cTurn (g:TG) (tt:TT) (te:TE) (loc:List Str) (cap:List (Str × Nat)) (σ:St) (D:Addr) (ys:List V) (N:List V->Hp->Prop) (x:V) (H':Hp):Prop :=
 g x (st0 loc cap σ) H' λσ3 H3=>Wk (st0 loc cap σ) σ3/\tt σ3 H3 λb H4=>if b=true then te σ3 H4 λv H5=>H5 D=some (.lst ys)/\ys.length<X7/\N (ys++[v]) (upd H5 D (.lst (ys++[v]))) else N ys H4
noncomputable def cGoal (g:TG) (tt:TT) (te:TE) (loc:List Str) (cap:List (Str × Nat)) (σ:St) (D:Addr) (Q:VK) (J:It) (H1:Hp):Prop :=
 ∃ W:Nat->Nat->List V->Hp->Prop,(∃ m,W 0 m [] (upd H1 D (.lst [])))/\∀ i m ys H2,W i m ys H2->H2 D=some (.lst ys) /\
  ((J.stop i H2/\Q (.ref D) H2)\/(J.go i H2/\∃ N:List V->Hp->Prop,(∀ ys' H',N ys' H'->∃ m',m'<m/\W (i+1) m' ys' H')/\∀ x H',J.yld i H2 x H'->cTurn g tt te loc cap σ D ys N x H'))
def m9 (wi:TI) (loc:List Str) (cap:List (Str × Nat)) (g:TG) (tt:TT) (te:TE):TE:=λσ H Q=>wi σ H λJ H1=>∀ D,H1 D=none->cGoal g tt te loc cap σ D Q J H1
def tTrue:TT:=λx H Q=>Q true H
noncomputable def PIfs (X:Cx) (ifs:List Expr) (t:TT):Prop :=
 ∀ (pins:List (Addr × Obj)) (s:Shared) (σ:St) (H:Hp) (Q:Bool->Hp->Prop),Inv X pins σ H s->t σ H Q ->
  wpAny (model X.prog X.w) X.A (forIn ifs true λc r=>if r=true then do let ok <- isTrue c X.env (eval c X.env); pure (K3 ok) else pure (K3 r)) (TP X pins σ Q) X.xe s
theorem bI {X:Cx}:PIfs X [] tTrue:=λx x x H x I h=>wpAny_tests_nil ⟨H,I,h⟩
theorem fw {X:Cx} {c:Expr} {t:TT} (hc:PT X c t):PIfs X [c] t:=λpins s σ H Q I h=>wpAny_tests_one (hc pins s σ H Q I h)
section
variable {X:Cx} {tg iter elt:Expr} {ifs:List Expr} {scope:Scope} {loc:List Str} {cap:List (Str × Nat)} {pos:Pos} {wi:TI} {g:TG} {tt:TT} {te:TE}
theorem comp_loop {Y:Cx} {σ:St} {H3:Hp} {s4:Shared} {fp:List Addr} {it D:Addr} {tn:Nat->Heap->Prop} {J:It} {RR:Result->Shared->Prop} {W:Nat->Nat->List V->Hp->Prop} {m0:Nat} {Q:VK}
  (hc:Y.calm=true) (hx:Y.xe=λa a=>False) (hg:PG Y tg g) (ht:PIfs Y ifs tt) (he:PE Y elt te) (T:Turn Y.prog Y.w Y.K tg J fp it tn) (st4:tn 0 s4.heap) (I4:Inv Y [] (st0 loc cap σ) H3 s4) (f3:∀ b∈fp,H3 b=none) (w0:W 0 m0 [] H3)
  (fpC:∀ {H':Hp},(∀ b∈fp,H' b=none)->∀ b∈fp,FpOk Y [] H' b)
  (turn:∀ i m ys H2,W i m ys H2->H2 D=some (.lst ys)/\((J.stop i H2/\Q (.ref D) H2)\/(J.go i H2/\∃ N:List V->Hp->Prop,(∀ ys' H',N ys' H'->∃ m',m'<m/\W (i+1) m' ys' H')/\∀ x H',J.yld i H2 x H'->cTurn g tt te loc cap σ D ys N x H')))
  (fin:∀ {H':Hp} {s':Shared},Inv Y [] (st0 loc cap σ) H' s'->Q (.ref D) H'->RR (.ok .next) s') :
  D7 (model Y.prog Y.w) Y.A (.compLoop (.ListComp elt [⟨tg,iter,ifs,0⟩] scope pos) 0 (.ref it) (.ref D) Y.env) RR s4:=by
 unfold PG at hg; unfold PIfs at ht; unfold PE at he
 rw [hx] at hg ht he
 have ma:=cw (X:=Y)
 unfold MtM at ma
 rw [hx] at ma
 refine mX (λn s'=>∃ i ys H',Inv Y [] (st0 loc cap σ) H' s'/\tn i s'.heap/\(∀ b∈fp,H' b=none)/\W i n ys H') ?_ m0 (oi34 0 ([]) H3 I4 st4 f3 w0)
 intro n s5 zq; refine oq34 zq λi ys H5 I5 st5 fr5 w5=>?_
 refine oq02 (turn i n ys H5 w5) λhd5 alt=>?_
 rcases alt with zr4_ | zr3_
 ·refine oq02 zr4_ λstop q=>?_
  refine thn (T.done Y rfl rfl rfl hc i [] s5 _ H5 (λa a=>False) I5 (fpC fr5) st5 stop) λr s6 zq=>oq02 zq λhr I6=>?_
  subst hr
  exact fin I6 q
 ·refine oq02 zr3_ λgo zz=>oq12 zz λN hN step=>?_
  refine thn (T.item Y rfl rfl rfl hc i [] s5 _ H5 (λa a=>False) I5 (fpC fr5) st5 go) λr s6 zq=>oq12 zq λu hr h6=>?_
  subst hr
  refine thn h6 λa s7 zq=>oq25 zq λx H7 I7 r7 y7 st7 fr7=>?_
  have I7':=I7.pinned (fpC fr7) (T.obj _ _ st7)
  refine thn (hg _ s7 _ H7 x u _ I7' r7 (step x H7 y7)) λa s8 zq=>oq22 zq λσ8 H8 I8 q8=>?_
  refine oq02 q8 λwk q8=>?_
  have again:∀ {H9:Hp} {s9:Shared} {zs:List V},Inv Y ([]++ko fp s7.heap) σ8 H9 s9->N zs H9->∃ m,m<n/\∃ i ys H',Inv Y [] (st0 loc cap σ) H' s9/\tn i s9.heap/\(∀ b∈fp,H' b=none)/\W i m ys H':=λ{H9 s9 zs} I9 n9=>by
   refine oq12 (hN zs H9 n9) λm' hm w9=>?_
   refine ⟨m',hm,i+1,zs,H9,(I9.weak wk.len wk.get).unpinned,T.keep _ _ _ st7 λb hb o e=>(I9.pin (b,o) (Y2 _ (Y2 _ (fO hb e)))).1,λb hb=>?_,w9⟩
   refine oq12 (T.obj _ _ st7 b hb) λo e d=>?_
   exact (I9.pin (b,o) (Y2 _ (Y2 _ (fO hb e)))).2.1
  refine thn (ht _ s8 σ8 H8 _ I8 q8) λok s9 zq=>oq12 zq λH9 I9 q9=>?_
  cases ok with
  | false =>
   rw [if_neg Z2] at q9 ⊢
   exact again I9 q9
  | true =>
   rw [if_pos rfl] at q9 ⊢
   refine thn (he _ s9 σ8 H9 _ I9 q9) λu' s10 zq=>oq25 zq λv H10 I10 r10 hD10 hl10 n10=>?_
   refine thn (ma _ s10 σ8 H10 (.ref D) [v] (.ref D) [u'] (λa H11=>N (ys++[v]) H11) I10 rfl (.cons r10 .nil) ⟨_,ys,v,rfl,rfl,hD10,hl10,n10⟩) λa s11 zq=>oq23 zq λa H11 I11 a n11=>?_
   exact again I11 n11
theorem kI {pins:List (Addr × Obj)} {σ:St} {H:Hp} {s:Shared} {cl:List (Str × Addr)} {fp:List Addr} {it:Addr} {tn:Nat->Heap->Prop} {J:It} {Q:VK} {E:Value->Shared->Prop} {RR:Value->Addr->Result->Shared->Prop}
  (hc:X.calm=true) (S:CompScope X loc cap scope) (hg:∀ cl fp s3 H3,PG (cS X (loc++cap.map (·.1)) scope cl fp s3 H3) tg g) (ht:∀ cl fp s3 H3,PIfs (cS X (loc++cap.map (·.1)) scope cl fp s3 H3) ifs tt)
  (he:∀ cl fp s3 H3,PE (cS X (loc++cap.map (·.1)) scope cl fp s3 H3) elt te)
  (hcl:∀ x c,cl.lookup x=some c->X.env.cells.lookup x=some c) (hcl2:∀ y∈scope.names,y.2=.free->∃ c,cl.lookup y.1=some c)
  (I:Inv X pins σ H s) (T:Turn X.prog X.w X.K tg J fp it tn) (st:tn 0 s.heap) (hf:∀ b∈fp,FpOk X pins H b)
  (h:∀ D,H D=none->cGoal g tt te loc cap σ D Q J H)
  (hRR:∀ D C s' H' m,Inv X pins σ H' s'->FpOk X pins H' C->s'.heap.Ns C m->Q (.ref D) H'->RR (.ref D) C (.ok .next) s') :
  wpAny (model X.prog X.w) X.A (newList []) (λacc s₃=>wpAny (model X.prog X.w) X.A (newFunctionEnv scope X.env.globals cl [] X.env.qual none .none (some X.env)) (λcenv s₄ =>
   D7 (model X.prog X.w) X.A (.compStart (.ListComp elt [⟨tg,iter,ifs,0⟩] scope pos) 0 (.ref it) acc { cenv with scope:=relabel scope X.env }) (RR acc cenv.locals) s₄) E s₃) E s:=by
 have hlt:∀ b∈fp,b<s.heap.objs.size:=λb hb=>oq12 (T.obj 0 _ st b hb) λo e a=>Y4 e
 have hD:H s.heap.objs.size=none:=I.hok.fresh (nz6 _)
 refine oq12 (h _ hD) λW nn1 turn=>?_; refine oq11 nn1 λm0 w0=>?_
 refine wpAny_newObj_type (wpAny_newFunctionEnv S.nocell (by intro y hy; simp at hy) (λh₁ hns₁ hsb₁=>?_) S.kind)
 have hD2:({ cls:=.type "list",dict:=none,data:=.seq ([]:List Value).toArray }:Obj)={ cls:=.type "list",data:=.seq ([]:List Value).toArray 0 }:=rfl
 have I3:Inv X pins σ (upd H s.heap.objs.size (.lst [])) { s with heap:=s.heap.push { cls:=.type "list",dict:=none,data:=.seq ([]:List Value).toArray } } :=
  I.laid (t':=s.toks) (λb o e=>Z5 _ e) (nz6 _) ⟨V5 _,[],0,.nil,X3 _ rfl⟩
 generalize hS3:({ s with heap:=s.heap.push { cls:=.type "list",dict:=none,data:=.seq ([]:List Value).toArray } }:Shared)=s3 at I3 hns₁ hsb₁ ⊢
 generalize hH3:upd H s.heap.objs.size (.lst [])=H3 at I3 w0
 have sz3:s3.heap.objs.size=s.heap.objs.size+1:=by rw [<- hS3]; exact Heap.size_push ..
 have fp3:∀ b∈fp,FpOk X pins H3 b:=λb hb=>by
  refine oq02 (hf b hb) λf0 fr=>?_
  refine ⟨?_,fr⟩
  rw [<- hH3,am (nz7 (hlt b hb))]; exact f0
 have ltq3:∀ b∈fp,b<s3.heap.objs.size:=λb hb=>by rw [sz3]; exact J8 (hlt b hb)
 have k1:∀ b o,s3.heap.get? b=some o->h₁.get? b=some o:=λb o e=>hsb₁.extBut b o (nz7 (Y4 e)) (Z5 _ e)
 have I4:Inv (cS X (loc++cap.map (·.1)) scope cl fp s3 H3) [] (st0 loc cap σ) H3 { s3 with heap:=h₁ }:=inv_comp S I3 hcl hcl2 fp3 ltq3 (by simpa using hns₁) k1
 have st4:tn 0 h₁:=T.keep 0 _ _ st λb hb o e=>k1 b o (by rw [<- hS3]; exact Z5 _ e)
 have fpC:∀ {H':Hp},(∀ b∈fp,H' b=none)->∀ b∈fp,FpOk (cS X (loc++cap.map (·.1)) scope cl fp s3 H3) [] H' b:=λ{H'} hn b hb =>
  ⟨hn b hb,nz7 (ltq3 b hb),λz=>(I4.ok.exfs b hb z),.inl hb,λx c e=>(hf b hb).2.2.2.2.1 x c (hcl x c e),λp hp=>absurd (show p∈([]:List (Addr × Obj)) from hp) (by simp)⟩
 have toks0:({ s3 with heap:=h₁,toks:=s3.toks+([]:List (Str × Value)).length }:Shared)={ s3 with heap:=h₁ }:=rfl
 rw [toks0]
 have fin:∀ {H':Hp} {s':Shared} {σ':St},Inv (cS X (loc++cap.map (·.1)) scope cl fp s3 H3) [] σ' H' s'->Inv X pins σ H' s':=λ{H' s' σ'} J' =>
  I3.call' J'.os J'.base J'.hok J'.bare λb hb=>by
   refine oq06 (hf b hb) λa f1 f2 f3 f4 f5=>?_
   exact (oi04 f3 f1 f4 f5)
 have loop:D7 (model X.prog X.w) X.A (.compLoop (.ListComp elt [⟨tg,iter,ifs,0⟩] scope pos) 0 (.ref it) (.ref s.heap.objs.size) (compEnvC scope cl s3.heap.objs.size X.env)) (RR (.ref s.heap.objs.size) s3.heap.objs.size) { s3 with heap:=h₁ } :=
  comp_loop (Y:=cS X (loc++cap.map (·.1)) scope cl fp s3 H3) hc rfl (hg cl fp s3 H3) (ht cl fp s3 H3) (he cl fp s3 H3) T st4 I4 (λb hb=>(fp3 b hb).1) w0 fpC turn λI6 q=>oq12 I6.loc λm hn a=>hRR _ _ _ _ m (fin I6) (I3.fpOk (nz6 _) I6.free) hn q
 exact codeAny_compStart_list loop (T.self _ 0 _ _ _ st4 loop)
theorem cg (hc:X.calm=true) (S:CompScope X loc cap scope) (hi:PI X tg iter wi) (hg:∀ cl fp s3 H3,PG (cS X (loc++cap.map (·.1)) scope cl fp s3 H3) tg g) (ht:∀ cl fp s3 H3,PIfs (cS X (loc++cap.map (·.1)) scope cl fp s3 H3) ifs tt)
  (he:∀ cl fp s3 H3,PE (cS X (loc++cap.map (·.1)) scope cl fp s3 H3) elt te) (hs:autoParam (∀ x,foldedSetIterable iter X.env x=pure x) L2.a1q._auto_1) :
  PE X (.ListComp elt [⟨tg,iter,ifs,0⟩] scope pos) (m9 wi loc cap g tt te):=by
 intro pins s σ H Q I h
 refine oq13 (ic (scope:=scope) (env:=X.env) λy hy hf=>I.ok.has y.1 (S.free y hy hf)) λcl hcl0 hcl hcl2=>?_
 rw [eval_ListComp]
 refine wpAny_comprehension_free (use:=none) rfl hs hcl0 S.kind S.names (thn (hi pins s σ H _ I h) λv s1 h1=>thn h1 λitv s2 h2=>?_)
 refine oq56 h2 λit fp tn J H2 e I2 T st2 f2 R=>?_
 subst e
 refine kI (RR:=λacc C=>compPost (model X.prog X.w) X.A X.xe none (EP X pins σ Q) acc C) hc S hg ht he hcl hcl2 I2 T st2 f2 R ?_
 intro D C s' H' m I' fC hn q
 exact ⟨m,hn,λh'' hs''=>⟨.ref D,H',I'.turned (t':=s'.toks) (λb o hb e=>(hs''.2 b hb).trans e) fC.1 fC.2.1 fC.2.2.2.1 fC.2.2.2.2.1 fC.2.2.2.2.2,rfl,q⟩⟩
theorem da {i:Nat} {x:Str} {pos' spos:Pos} (hc:X.calm=true) (S:CompScope X loc cap scope) (hN:X.N.Nodup) (hi':X.N[i]?=some x) (hx:Loc X.env.scope x) (hi:PI X tg iter wi)
  (hg:∀ cl fp s3 H3,PG (cS X (loc++cap.map (·.1)) scope cl fp s3 H3) tg g) (ht:∀ cl fp s3 H3,PIfs (cS X (loc++cap.map (·.1)) scope cl fp s3 H3) ifs tt)
  (he:∀ cl fp s3 H3,PE (cS X (loc++cap.map (·.1)) scope cl fp s3 H3) elt te) (hsw:autoParam (swapsWith (.ListComp elt [⟨tg,iter,ifs,0⟩] scope pos) (some (.Name x pos')) spos.line X.env=pure true) L2.a2q._auto_1)
  (hf:X.fn x=true\/X.env.scope.names.lookup x=some .local:=by first | exact .inl rfl | exact .inr rfl | assumption) (hs:autoParam (∀ x,foldedSetIterable iter X.env x=pure x) L2.a1q._auto_1) :
  PS X (.Assign [.Name x pos'] (.ListComp elt [⟨tg,iter,ifs,0⟩] scope pos) spos) (tAsg (m9 wi loc cap g tt te) (d6 i)):=by
 intro pins s σ H D I h
 refine oq13 (ic (scope:=scope) (env:=X.env) λy hy hf=>I.ok.has y.1 (S.free y hy hf)) λcl hcl0 hcl hcl2=>?_
 rw [exec_Assign_Name_used _ _ _ _ hsw]
 refine Z4 (B7 (Z4 ?_))
 show wpAny _ X.A (do let _ <- comprehension (.ListComp elt [⟨tg,iter,ifs,0⟩] scope pos) scope X.env _ (newList []) false (eval iter X.env) (some (assign (.Name x pos') X.env))) _ _ s
 refine Z4 (thn (wpAny_comprehension_free (use:=some (assign (.Name x pos') X.env)) (Q:=λc s'=>SP X pins D .next s') rfl hs hcl0 S.kind S.names
  (thn (hi pins s σ H _ I h) λv s1 h1=>thn h1 λitv s2 h2=>?_)) λc s' hq=>Y6 (Y6 hq))
 refine oq56 h2 λit fp tn J H2 e I2 T st2 f2 R=>?_
 subst e
 refine kI (RR:=λacc C=>compPost (model X.prog X.w) X.A X.xe (some (assign (.Name x pos') X.env)) (λc s'=>SP X pins D .next s') acc C) hc S hg ht he hcl hcl2 I2 T st2 f2 R ?_
 intro D' C s' H' m I' fC hn q
 show wpAny _ X.A (assign (.Name x pos') X.env (.ref D')) _ _ s'
 refine wpAny_assign_Name (lU I' hN hi' hx (v:=.ref D') rfl (λs'' I'' zq=>oq12 zq λa hsb ha=>?_) hf)
 have hCa:C≠a:=by
  rcases ha with z | z
  ·rw [z]; exact fC.2.1
  ·exact T9 (fC.2.2.2.2.1 x a z)
 refine (oi12 m (hn.sameBut hsb hCa) (λh'' hs''=>⟨_,H',I''.turned (t':=s''.toks) (λb o hb e=>(hs''.2 b hb).trans e) fC.1 fC.2.1 fC.2.2.2.1 fC.2.2.2.2.1 fC.2.2.2.2.2,q⟩))
end
end L2
namespace L2
open PySem PySem.Spec PyProof.Rows
section
variable {X:Cx} {pins:List (Addr × Obj)} {σ:St} {H:Hp} {s:Shared} {h':Heap}
theorem Inv.turnedL {ch:List Addr} {t':Nat} (I:Inv X pins σ H s) (hch:∀ b∈ch,FpOk X pins H b) (k:∀ b u,b ∉ ch->s.heap.get? b=some u->h'.get? b=some u):Inv X pins σ H { s with heap:=h',toks:=t' }:=by
 have nch:∀ b u,H b=some u->b ∉ ch:=λb u e z=>by rw [(hch b z).1] at e; cases e
 refine I.step (g':=s.gens) (d':=s.drawn) (ch:=ch) (λb hb=>?_) (λb u x x hc e x=>k b u hc e) (λb u x x hc e x=>⟨u.slots,k b u hc e⟩)
  (λb u x x n=>n) (λb u hc e=>⟨u,k b u hc e⟩) (λb xs e=>e) (λb u xs e=>e) (λb ps e=>⟨#[],by rw [e]; simp⟩) (λm hm=>?_) (λb u e=>?_) I.bare
 ·have f:=hch b hb; exact (oi04 f.2.2.2.1 f.2.1 f.2.2.2.2.1 f.2.2.2.2.2)
 ·refine oq32 hm λo es ep ho r=>?_
  exact ⟨o,es,ep,k _ o (λz=>(hch _ z).2.1 rfl) ho,r⟩
 ·refine (I.hok b u e).stay (λc v hc q=>k c v ?_ q) (λc q=>q) λc xs q=>q
  rcases hc with z | z
  ·rw [z]; exact nch b u e
  ·exact nch c _ z
theorem Inv.turnNew {a:Addr} {o:HO} {ch:List Addr} {t':Nat} (I:Inv X pins σ H s) (hch:∀ b∈ch,FpOk X pins H b) (ha:s.heap.objs.size<=a) (k:∀ b u,b ∉ ch->s.heap.get? b=some u->h'.get? b=some u)
  (new:bS X.prog X.w (upd H a o) h' a o):Inv X pins σ (upd H a o) { s with heap:=h',toks:=t' }:=by
 have hn:H a=none:=I.hok.fresh ha
 have fa:=I.fpOk ha hn
 have hne:∀ b u,H b=some u->b≠a:=λb u e=>al e hn
 have nch:∀ b u,H b=some u->b ∉ ch:=λb u e z=>by rw [(hch b z).1] at e; cases e
 refine I.step (g':=s.gens) (d':=s.drawn) (ch:=a :: ch) (λb hb=>?_) (λb u x x hc e x=>k b u (λz=>hc (X2 _ z)) e) (λb u x x hc e x=>⟨u.slots,k b u (λz=>hc (X2 _ z)) e⟩)
  (λb u hc x n=>by rw [am (λz=>hc (by rw [z]; exact V0))]; exact n) (λb u hc e=>⟨u,k b u (λz=>hc (X2 _ z)) e⟩)
  (λb xs e=>by rw [am (hne b _ e)]; exact e) (λb u xs e=>by rw [am (hne b _ e)]; exact e) (λb ps e=>⟨#[],by rw [am (hne b _ e),e]; simp⟩) (λm hm=>?_) (λb u e=>?_) I.bare
 ·rcases Z8.mp hb with z | z
  ·rw [z]; exact (oi04 fa.2.2.2.1 fa.2.1 fa.2.2.2.2.1 fa.2.2.2.2.2)
  ·have f:=hch b z; exact (oi04 f.2.2.2.1 f.2.1 f.2.2.2.2.1 f.2.2.2.2.2)
 ·refine oq32 hm λo es ep ho r=>?_
  exact ⟨o,es,ep,k _ o (λz=>(hch _ z).2.1 rfl) ho,r⟩
 ·by_cases hb:b=a
  ·subst hb; rw [ai] at e; cases e; exact new
  ·rw [am hb] at e
   refine (I.hok b u e).stay (λc v hc q=>k c v ?_ q) (λc q=>by rw [am (hne c _ q)]; exact q) λc xs q=>by rw [am (hne c _ q)]; exact q
   rcases hc with z | z
   ·rw [z]; exact nch b u e
   ·exact nch c _ z
end
noncomputable def Ite (K:Z0) (a:Addr):It :=
 ⟨λi H=>∃ xs x,SqL K H a xs/\xs[i]?=some x,λi H x H'=>∃ p y,x=.ref p/\H p=none/\H'=upd H p (.tup [.int (i:Nat),y])/\∀ xs,SqL K H a xs->xs[i]?=some y,λi H=>∃ xs,SqL K H a xs/\xs.length<=i⟩
theorem turn_enum {P:X5} {w:World} {K:Z0} {elts:List Expr} {x1:Nat} {pos:Pos} (a e it:Addr) (hne:e≠it) :
  Turn P w K (.Tuple elts x1 pos) (Ite K a) [e,it] e (λi h=>(∃ old,IsEnum h e it ((i:Nat):Int) old)/\h.IsListIter it a i) where
 mem:=by simp
 obj:=λi h st b hb=>by
  refine oq02 st λnn1 hi=>?_; refine oq11 nn1 λold he=>?_
  have hb':b=e\/b=it:=by simpa using hb
  rcases hb' with z | z
  ·rw [z]; exact (oi12 _ he (λv q=>by have q':Data.fields _=Data.cell v:=q; cases q'))
  ·rw [z]
   refine oq13 hi λo e' c d=>?_
   exact (oi12 o e' (λv q=>by rw [d] at q; cases q))
 keep:=λi h h' st k=>by
  refine oq02 st λnn2 hi=>?_; refine oq11 nn2 λold he=>?_
  exact ⟨⟨old,k e (by simp) _ he⟩,hi.at λo q=>k it (by simp) o q⟩
 item:=by
  intro X hP hw hK hc i pins s σ H E I hf st hg
  subst hP hw hK
  refine oq02 st λnn3 hit=>?_; refine oq11 nn3 λold he=>?_
  refine oq22 hg λxs x hq hx=>?_
  refine oq13 (I.list hq) λits rv p hz=>?_
  refine oq12 (rv.get hx) λu hu ru=>?_
  refine wpAny_pyNext_enum_item he hit p.isList (x:=u) (by simpa using hu) hne λh1 heo hit1 ht1 hz1 hk1=>?_
  refine (oi12 _ rfl (wpAny_letOwnedTupleGo_enum heo λh2 he2 hs2=>?_))
  replace hs2:Heap.SameBut e h1 h2:=hs2
  replace he2:IsEnum h2 e it ((i:Int)+1) u:=he2
  have hlt:e<s.heap.objs.size:=Y4 he
  have hk2:∀ b o,b ∉ [e,it]->s.heap.get? b=some o->h2.get? b=some o:=λb o hb q=>by
   have b1:b≠e:=λz=>hb (by simp [z])
   have b2:b≠it:=λz=>hb (by simp [z])
   exact (hs2.2 b b1).trans (hk1 b o b1 b2 q)
  have t2:h2.get? s.heap.objs.size=some { cls:=.type "tuple",data:=.seq #[.int (i:Nat) s.toks,u] }:=(hs2.2 _ (P8 hlt)).trans ht1
  refine (oi25 (.ref s.heap.objs.size) _ (I.turnNew (t':=s.toks+1) (ch:=[e,it]) (a:=s.heap.objs.size) (o:=.tup [.int (i:Nat),x]) hf (nz6 _) hk2 ?_) rfl ⟨_,x,rfl,I.hok.fresh (nz6 _),rfl,λys hy=>by rw [I.list_inj hy hq]; exact hx⟩ ⟨⟨u,?_⟩,hit1.extBut hs2.extBut (T9 hne)⟩ (λb hb=>?_))
  ·exact ⟨by show 2<=X7; decide,[.int (i:Nat) s.toks,u],.cons ⟨_,rfl⟩ (.cons ru .nil),⟨_,t2,rfl,_,rfl⟩⟩
  ·have e1:((i+1:Nat):Int)=(i:Int)+1:=by push_cast; rfl
   rw [e1]; exact he2
  ·have f:=hf b hb
   have hbl:b≠s.heap.objs.size:=by
    have hb':b=e\/b=it:=by simpa using hb
    rcases hb' with z | z
    ·rw [z]; exact nz7 hlt
    ·refine oq12 hit λo e' y=>?_
     rw [z]; exact nz7 (Y4 e')
   rw [am hbl]; exact f.1
 done:=by
  intro X hP hw hK hc i pins s σ H E I hf st hg
  subst hP hw hK
  refine oq02 st λnn4 hit=>?_; refine oq11 nn4 λold he=>?_
  refine oq12 hg λxs hq hx=>?_
  refine oq13 (I.list hq) λits rv p hz=>?_
  have hl:=rv.length
  exact wpAny_pyNext_enum_end (I.ok.hd hc) he hit p.isList (by simp; exact nz4 (nz3 hl.symm) hx) λh' eb=>⟨rfl,I.turnedL (t':=s.toks) (ch:=[e,it]) hf λb o hb q=>eb b o (λz=>hb (by simp [z])) q⟩
 self:=λy y y y y st h=>by
  refine oq02 st λnn5 y=>?_; refine oq11 nn5 λold he=>?_
  exact wpAny_pyIter_enum he h
section
variable {X:Cx} {elts:List Expr} {x1:Nat} {tpos:Pos}
def iEnum (K:Z0) (ta:TA):TI:=λσ H R=>ta σ H λvs H1=>∃ a,vs=[.ref a]/\(∃ xs,SqL K H1 a xs)/\R (Ite K a) H1
theorem pi_enum {a:Expr} {ta:TA} {p pos:Pos} (hg:Gl X "enumerate") (hm:X.mg "enumerate"=none) (ha:PA X [a] ta) (hs:autoParam (Y9 [a] X.env=[(false,eval a X.env)]) L2.a2q._auto_1) :
  PI X (.Tuple elts x1 tpos) (.Call (.Name "enumerate" p) [a] [] pos) (iEnum X.K ta):=by
 intro pins s σ H R I h
 refine Call_ (fL I hg hm boot_enumerate (R1 (thn (ha pos pins s σ H _ I h) λus s1 zq=>oq23 zq λvs H1 I1 r1 q1=>?_) hs rfl))
 refine oq13 q1 λl e nn6 q=>?_; refine oq11 nn6 λxs hq=>?_
 subst e
 refine oq12 (vals1 r1) λu eq1_ ru=>?_; subst eq1_
 cases ru
 refine oq13 (I1.list hq) λits rv pl hz=>?_
 refine call_enumerate_list pl.isList λh' he hit hsz hk=>wpAny_pyIter_enum he ?_
 have I2:Inv X pins σ H1 { s1 with heap:=h' }:=I1.kept (t':=s1.toks) hk
 refine ⟨s1.heap.objs.size+1,[s1.heap.objs.size+1,s1.heap.objs.size],_,_,H1,rfl,I2,turn_enum l _ _ (Nat.succ_ne_self _),⟨⟨_,he⟩,hit⟩,λb hb=>?_,q⟩
 have hb':b=s1.heap.objs.size+1\/b=s1.heap.objs.size:=by simpa using hb
 have hle:s1.heap.objs.size<=b:=by
  rcases hb' with z | z
  ·rw [z]; exact O8 _
  ·rw [z]; exact nz6 _
 exact I1.fpOk hle (I1.hok.fresh hle)
end
noncomputable def Itq (lo c:Int) (n:Nat):It:=⟨λi a=>i<n,λi H x H'=>H'=H/\x=.int (lo+(i:Nat) * c),λi a=>n<=i⟩
theorem oQ {P:X5} {w:World} {K:Z0} {tg:Expr} (it:Addr) (lo c:Int) (n:Nat):Turn P w K tg (Itq lo c n) [it] it (λi h=>IsRangeIter h it (lo+(i:Nat) * c) ((n:Int) - (i:Nat)) c) where
 mem:=by simp
 obj:=λi h st b hb=>by
  have e:b=it:=by simpa using hb
  subst e
  exact (oi12 _ st (λv z=>by
   have z':Data.fields _=Data.cell v:=z
   cases z'))
 keep:=λi h h' st k=>k it (by simp) _ st
 item:=by
  intro X hP hw hK hc i pins s σ H E I hf st hg
  subst hP hw hK
  refine oq06 (hf it (by simp)) λf0 f1 f2 f3 f4 f5=>?_
  have W:=Walks.range (prog:=X.prog) (w:=X.w) (I.ok.hd hc) it lo c n
  refine W.item i s _ _ hg st λv h' tk hv st' kk=>?_
  refine oq11 hv λt eq1_=>?_; subst eq1_
  have I1:Inv X pins σ H { s with heap:=h',toks:=tk }:=I.turned (λb o hb e=>kk b o (by simpa using hb) e) f0 f1 f3 f4 f5
  exact (oi12 _ rfl (go_of (s:={ s with heap:=h',toks:=tk }) (n:="range_iterator") st' rfl rfl (by decide) (oi25 (.int (lo+(i:Nat) * c)) H I1 ⟨t,rfl⟩ ⟨rfl,rfl⟩ st' (λb hb=>(hf b hb).1))))
 done:=by
  intro X hP hw hK hc i pins s σ H E I hf st hg
  subst hP hw hK
  refine oq06 (hf it (by simp)) λf0 f1 f2 f3 f4 f5=>?_
  exact wpAny_pyNext_range_end (I.ok.hd hc) st (by have:n<=i:=hg; lia) λh' eb=>⟨rfl,I.turned (t':=s.toks) (λb o hb e=>eb b o hb e) f0 f1 f3 f4 f5⟩
 self:=λx x x x x st h=>wpAny_pyIter_rangeiter st h
noncomputable abbrev rcnt (a b c:Int):Nat:=Fl.kD a b c
theorem rcnt_size {a b c:Int} (hc:0<c):((rcnt a b c:Nat):Int)=O1 a b c:=by
 unfold rcnt Fl.kD O1
 rw [if_pos (show c > 0 from hc)]
 by_cases h:a<b
 ·rw [if_pos h]
  have:0<=(b - a - 1) / c:=Int.ediv_nonneg (by omega) (by exact M0 hc)
  omega
 ·rw [if_neg h]; rfl
theorem fits {x:Int} (h:-(2 ^ 62)<=x) (h':x<=2 ^ 62):O6 x=true:=by
 simp only [O6,N0,decide_eq_true_eq]
 exact ⟨V7 (by decide) h,P6 h' (by decide)⟩
theorem qN {a b c:Int} (ha:-(2 ^ 61)<=a) (ha':a<2 ^ 61) (hb:-(2 ^ 61)<=b) (hb':b<2 ^ 61) (hc:0<c) (hc':c<1073741824):N4.Range.small a b c=true:=by
 have fa:∀ {x:Int},-(2 ^ 61)<=x->x<2 ^ 61->O6 x=true:=λh h'=>fits (V7 (by decide) h) (V7 (M0 h') (by decide))
 have fc:O6 c=true:=fits (V7 (by decide) (M0 hc)) (V7 (M0 hc') (by decide))
 unfold N4.Range.small O1
 simp only [show c > 0 from hc,if_true,fa ha ha',fa hb hb',fc,Bool.true_and]
 by_cases h:a<b
 ·rw [if_pos h,fits,fits,Bool.or_true]
  ·rfl
  ·lia
  ·lia
  ·exact V7 (by decide) (V7 (Int.ediv_nonneg (by lia) (by exact M0 hc)) (Int.le_add_of_nonneg_right (by decide)))
  ·have h2:(b - a - 1) / c<=b - a - 1:=Int.ediv_le_self _ (by lia)
   lia
 ·rw [if_neg h]; rfl
section
variable {X:Cx} {tg:Expr}
theorem range_it3 {pins:List (Addr × Obj)} {σ:St} {H:Hp} {s:Shared} {R:It->Hp->Prop} {E:Value->Shared->Prop} {lo hi c:Int} {t u v:Tok} {tk:Nat} (I:Inv X pins σ H s) (h1:-(2 ^ 61)<=lo) (h2:lo<2 ^ 61) (h3:-(2 ^ 61)<=hi) (h4:hi<2 ^ 61) (h5:0<c) (h6:c<1073741824)
  (q:R (Itq lo c (rcnt lo hi c)) H):wpAny (model X.prog X.w) X.A (pyIter (.ref s.heap.objs.size)) (PIE X pins σ tg R) E { s with heap:=s.heap.push { cls:=.type "range",data:=.fields #[.int lo t,.int hi u,.int c v] },toks:=tk }:=by
 refine wpAny_pyIter_range (IsRange.new ..) (qN h1 h2 h3 h4 h5 h6) ?_
 have I1:Inv X pins σ H { s with heap:=s.heap.push { cls:=.type "range",data:=.fields #[.int lo t,.int hi u,.int c v] },toks:=tk }:=I.kept λb o e=>Z5 _ e
 refine ⟨(s.heap.push { cls:=.type "range",data:=.fields #[.int lo t,.int hi u,.int c v] }).objs.size,[(s.heap.push { cls:=.type "range",data:=.fields #[.int lo t,.int hi u,.int c v] }).objs.size],_,_,H,rfl,
  I1.kept (t':=tk) λb o e=>Z5 _ e,oQ _ lo c (rcnt lo hi c),?_,λb hb=>?_,q⟩
 ·have e1:lo+((0:Nat):Int) * c=lo:=by simp
  have e2:((rcnt lo hi c:Nat):Int) - ((0:Nat):Int)=O1 lo hi c:=by rw [rcnt_size h5]; simp
  show IsRangeIter _ _ (lo+((0:Nat):Int) * c) (((rcnt lo hi c:Nat):Int) - ((0:Nat):Int)) c
  rw [e1,e2]
  exact X3 _ rfl
 ·have e:b=(s.heap.push { cls:=.type "range",data:=.fields #[.int lo t,.int hi u,.int c v] }).objs.size:=by simpa using hb
  subst e
  exact I1.fpOk (nz6 _) (I1.hok.fresh (nz6 _))
def iRng3 (ta:TA):TI:=λσ H R=>ta σ H λvs H1=>∃ i j c:Int,vs=[.int i,.int j,.int c]/\(-(2 ^ 61)<=i/\i<2 ^ 61/\-(2 ^ 61)<=j/\j<2 ^ 61/\0<c/\c<1073741824)/\R (Itq i c (rcnt i j c)) H1
theorem pi_range3 {a b c:Expr} {ta:TA} {p pos:Pos} (hg:Gl X "range") (hm:X.mg "range"=none) (ha:PA X [a,b,c] ta) (hs:autoParam (Y9 [a,b,c] X.env=[(false,eval a X.env),(false,eval b X.env),(false,eval c X.env)]) L2.a2q._auto_1)
  (hs2:autoParam (Y9 [b,c] X.env=[(false,eval b X.env),(false,eval c X.env)]) L2.a2q._auto_1):PI X tg (.Call (.Name "range" p) [a,b,c] [] pos) (iRng3 ta):=by
 intro pins s σ H R I h
 refine Call_ (fL I hg hm boot_range (R1 (thn (ha pos pins s σ H _ I h) λus s1 zq=>oq23 zq λvs H1 I1 r1 q1=>?_) (by rw [hs,hs2]) (by rw [hs2]; rfl)))
 obtain ⟨i,j,k,e,nn15,q⟩:=q1; obtain ⟨q1,q2,q3,q4,q5,q6⟩:=nn15
 subst e
 cases r1 with
 | cons r rr =>
  cases rr with
  | cons r' rr =>
   cases rr with
   | cons r'' rr =>
    cases rr
    refine oq11 r λt eq1_=>?_; subst eq1_
    refine oq11 r' λt' eq1_=>?_; subst eq1_
    refine oq11 r'' λt'' eq1_=>?_; subst eq1_
    exact call_range_3 (by exact D8 q5) (range_it3 I1 q1 q2 q3 q4 q5 q6 q) (.inl (PyProof.noPylong_small (by omega)))
end
end L2
namespace L2
open PySem PySem.Spec PyProof.Rows
mutual
def DatV (K:Z0) (H:Hp):PyData->V->Prop
 | .none,v=>v=.non
 | .bool b,v=>v=.bl b
 | .int i,v=>v=.int i
 | .str x,v=>v=.str x
 | .list ds,v=>∃ a xs,v=.ref a/\SqL K H a xs/\i5 K H ds xs
 | .tuple ds,v=>∃ a xs,v=.ref a/\SqT K H a xs/\i5 K H ds xs
 | .dict _,_=>False
def i5 (K:Z0) (H:Hp):List PyData->List V->Prop
 | [],xs=>xs=[]
 | d :: ds,xs=>∃ x r,xs=x :: r/\DatV K H d x/\i5 K H ds r
end
section
variable {X:Cx} {pins:List (Addr × Obj)} {σ:St} {H:Hp} {s:Shared}
theorem DatV.reads (I:Inv X pins σ H s) {d:PyData}:∀ {v:V} {u:Value},DatV X.K H d v->RelV v u->∃ as,Reads s.heap u d as:=by
 refine PyData.rec (motive_1:=λd=>∀ {v:V} {u:Value},DatV X.K H d v->RelV v u->∃ as,Reads s.heap u d as) (motive_2:=λds=>∀ {xs:List V} {us:List Value},i5 X.K H ds xs->Vals xs us->∃ as,ReadsAll s.heap us ds as) (motive_3:=λa=>True) (motive_4:=λa=>True)
  ?_ ?_ ?_ ?_ ?_ ?_ (λa a a a h a=>R6 h) ?_ ?_ trivial (λa a a a=>trivial) (λa a a a=>trivial) d
 ·intro v u h r; cases h; cases r; exact ⟨_,.none⟩
 ·intro b v u h r; cases h; cases r; exact ⟨_,.bool b⟩
 ·intro i v u h r; cases h; refine oq11 r λt z=>⟨[],?_⟩; rw [z]; exact .int i t
 ·intro x v u h r; cases h; refine oq11 r λt z=>⟨[],?_⟩; rw [z]; exact .str x t
 ·intro ds ih v u h r
  refine oq23 h λa xs h1 h2 h3=>?_
  cases h1
  cases r
  exact oq12 (I.list h2) λits rv z=>oq02 z λz a=>oq24 z λo n e hc a hd=>oq11 (ih h3 rv) λas q=>⟨_,.list e hc hd (by simpa using q)⟩
 ·intro ds ih v u h r
  refine oq23 h λa xs h1 h2 h3=>?_
  cases h1
  cases r
  exact oq12 (I.tuple h2) λits rv z=>oq02 z λz a=>oq13 z λo e hc z=>oq11 z λn hd=>oq11 (ih h3 rv) λas q=>⟨_,.tuple e hc hd (by simpa using q)⟩
 ·intro xs us h r; cases h; cases r; exact ⟨_,.nil⟩
 ·intro d ds ih1 ih2 xs us h r
  refine oq23 h λx t h1 h2 h3=>?_
  cases h1
  cases r with
  | cons r1 r2=>exact oq11 (ih1 h2 r1) λas q1=>oq11 (ih2 h3 r2) λbs q2=>⟨_,.cons q1 q2⟩
end
section
variable {X:Cx}
noncomputable def rEqD (K:Z0):R2:=λx y H Q=>∃ dx dy,DatV K H dx x/\DatV K H dy y/\dx.canLay0=true/\dy.canLay0=true/\min dx.depth dy.depth<=60/\Q (.bl (B1 dx dy)) H
noncomputable def rNeD (K:Z0):R2:=λx y H Q=>∃ dx dy,DatV K H dx x/\DatV K H dy y/\dx.canLay0=true/\dy.canLay0=true/\min dx.depth dy.depth<=60/\Q (.bl (!PyData.eqv dx dy)) H
theorem op_eqD (hu:X.A.units+64<cLine):OpR X (U8 .Eq) (rEqD X.K):=by
 intro pins s σ H x y v u Q I rx ry h
 refine oq26 h λdx dy h1 h2 c1 c2 dp q=>?_
 refine oq11 (DatV.reads I h1 rx) λas ra=>?_
 refine oq11 (DatV.reads I h2 ry) λbs rb=>?_
 exact SeqAt.compareEq_reads ra rb c1 c2 (by lia) ⟨.bl _,H,I,rfl,q⟩
theorem bz:OpR X (G9 .FloorDiv) (rI (λx j=>0<j/\j<2 ^ 64) λi j=>.int (i / j)):=opI λi j x x x x x hc q=>by
 have h1:(0:Int)<j:=hc.1
 have h2:j<2 ^ 64:=hc.2
 refine floordiv_int (by exact D8 h1) (by rw [Int.fdiv_eq_ediv_of_nonneg i (by exact M0 h1)]; exact q) (.inl (PyProof.noPylong_of_log2 ?_))
 have h3:j.natAbs≠0:=by omega
 have h4:j.natAbs.log2<64:=(Nat.log2_lt h3).mpr (by omega)
 exact nz8 h4 (by decide)
end
end L2
namespace L2
open PySem PySem.Spec PyProof.Rows
section
variable {g:TG} {tt:TT} {te:TE} {loc:List Str} {cap:List (Str × Nat)} {σ:St} {Q:VK} {J:It} {D:Addr} {H:Hp}
theorem comp_it {n:Nat} (Pv:Nat->List V->Hp->Prop) (h0:Pv 0 [] (upd H D (.lst []))) (hD:∀ i ys H,i<=n->Pv i ys H->H D=some (.lst ys)) (go:∀ i ys H,i<n->Pv i ys H->J.go i H) (st:∀ ys H,Pv n ys H->J.stop n H)
  (hs:∀ i ys H x H',i<n->Pv i ys H->J.yld i H x H'->cTurn g tt te loc cap σ D ys (Pv (i+1)) x H') (hd:∀ ys H,Pv n ys H->Q (.ref D) H):cGoal g tt te loc cap σ D Q J H:=by
 refine ⟨λi m ys H=>m=n - i/\i<=n/\Pv i ys H,(oi13 n (by simp) (V5 _) h0),?_⟩
 intro i m ys H zq; refine oq03 zq λeq0_ hi p=>?_; subst eq0_
 refine ⟨hD i ys H hi p,?_⟩
 by_cases hlt:i<n
 ·exact .inr ⟨go i ys H hlt p,Pv (i+1),λys' H' p'=>(oi14 (n - (i+1)) (by omega) rfl hlt p'),λx H' y=>hs i ys H x H' hlt p y⟩
 ·have e:i=n:=by exact W9 hi (X8.mp hlt)
  subst e
  exact .inl ⟨st ys H p,hd ys H p⟩
end
def av (K:Z0) (mg:Str->Option Value) (x:Str) (st:Stmt) (ps:List Str):Prop:=∃ f fd,Fun K x x st f fd/\Binds K fd ps []/\mg x=some (.ref f)
noncomputable def Has (P:X5) (w:World) (K:Z0) (mg:Str->Option Value) (base:Heap) (k:Nat) (x:Str) (ps:List Str) (sp:Sp):Prop :=
 ∃ f fd,FnOk P w K mg base CX0 k f fd ps sp/\mg x=some (.ref f)/\U3 K (.ref f)=true/\Binds K fd ps []
section
variable {P:X5} {w:World} {K:Z0} {mg:Str->Option Value} {base:Heap}
theorem av.has {x:Str} {st:Stmt} {N ps:List Str} {k:Nat} {sp:Sp} (D:av K mg x st ps) (S:FnScope N ps (ae st)) (len:∀ vs H Q E,sp vs H Q E->vs.length=ps.length)
  (hbody:∀ (f:Addr) (cdv:Value) (A:Around) (outer:List Env) (s:Shared) (H:Hp) (vs:List V) (Q:VK) (E:XK),Room k (A.deeper (envOfC x (ae st) s.heap.objs.size f cdv))->sp vs H Q E ->
   ∃ t,PSs (cxOf CX0 P w K mg base N x (ae st) f cdv A outer s H E).nox (aW st) t/\t { nx:=λa H'=>Q .non H',rt:=Q } (start N vs) H):Has P w K mg base (k+1) x ps sp:=by
 refine oq23 D λf fd F b hm=>?_
 exact ⟨f,fd,F.ok S len λcdv A outer s H vs Q E hr h=>hbody f cdv A outer s H vs Q E hr h,hm,F.kp,b⟩
end
section
variable {X:Cx} {k:Nat} {ps:List Str} {sp:Sp} {x:Str} {p pos:Pos} {e:Expr} {es:List Expr} {t:TA}
theorem ak (G:Has X.prog X.w X.K X.mg X.base k x ps sp) (hr:Room k X.A) (hg:Gl X x) (ha:PA X (e :: es) t) (hdb:autoParam ((x == ("__debug__":Str))=false) L2.a0q._auto_1)
  (he:autoParam (Y9 (e :: es) X.env=(false,eval e X.env) :: Y9 es X.env) L2.a2q._auto_1) (hpl:autoParam ((backTo pos (Y9 es X.env)).any (·.1)=false) L2.a2q._auto_1) :
  PE X (.Call (.Name x p) (e :: es) [] pos) (lY sp [] E0 t):=by
 refine oq24 G λf fd F hm hk hb=>?_
 exact pe_call F hr hg hm hk hb .nil pass0 ha hdb he hpl
end
structure Blt (mg:Str->Option Value):Prop where
 len:mg "len"=none
 range:mg "range"=none
 enumerate:mg "enumerate"=none
 zip:mg "zip"=none
 min:mg "min"=none
 max:mg "max"=none
 abs:mg "abs"=none
 isinstance:mg "isinstance"=none
 int_:mg "int"=none
 bool_:mg "bool"=none
 list_:mg "list"=none
 tuple_:mg "tuple"=none
 sorted:mg "sorted"=none
 set_:mg "set"=none
theorem ce:Q8 "len"=some (.builtin "len"):=by decide +kernel
theorem ie:Q8 "min"=some (.builtin "min"):=by decide +kernel
theorem jg:Q8 "max"=some (.builtin "max"):=by decide +kernel
theorem mY:Q8 "abs"=some (.builtin "abs"):=by decide +kernel
theorem jh:Q8 "sorted"=some (.builtin "sorted"):=by decide +kernel
theorem bo_int:Q8 "int"=some (.type "int"):=by decide +kernel
theorem bo_list:Q8 "list"=some (.type "list"):=by decide +kernel
abbrev Ints (K:Z0) (H:Hp) (a:Addr) (ns:List Int):Prop:=SqL K H a (ns.map V.int)
theorem eE {α β:Type} {F:α->β->Prop}:∀ {l₁:List α} {l₂:List β} {i:Nat} {y:β},Paired F l₁ l₂->l₂[i]?=some y->∃ x,l₁[i]?=some x/\F x y:=by
 intro l₁ l₂ i z p
 induction p generalizing i with
 | nil=>exact λe=>nomatch e
 | cons r t ih =>
  cases i with
  | zero=>exact λe=>oi12 _ rfl (Z3 e ▸ r)
  | succ i=>exact λe=>ih (i:=i) e
theorem gj {α β:Type} {F:α->β->Prop}:∀ {l₁:List α} {l₂:List β} {i:Nat} {x:α},Paired F l₁ l₂->l₁[i]?=some x->∃ y,l₂[i]?=some y/\F x y:=by
 intro l₁ l₂ i z p
 induction p generalizing i with
 | nil=>exact λe=>nomatch e
 | cons r t ih =>
  cases i with
  | zero=>exact λe=>oi12 _ rfl (Z3 e ▸ r)
  | succ i=>exact λe=>ih (i:=i) e
theorem aO {K:Z0} {mg:Str->Option Value} {h:Heap} {x:Str} {st:Stmt} {ps:List Str} {f:Addr} {oc:Value} {od an:Option Addr} {osl:Array (Option Value)} {kV doc pm cdv ct:Value} (X:K.In h) (G:h.Ns U2 mg)
  (a:K0 K U2 x=some (some (.ref f))) (l:K.lookup f=some ⟨oc,od,.func (U4 x x (br st) (aW st) (ae st) .none kV doc pm an cdv ct),osl⟩) (c:R3 K cdv x=true) (k:U3 K (.ref f)=true)
  (hb:∀ (kV doc pm:Value) (an:Option Addr) (cdv ct:Value) (us:List Value),us.length=ps.length->G0 (U4 x x (br st) (aW st) (ae st) .none kV doc pm an cdv ct) ⟨us,[]⟩=pure (ps.zip us)):av K mg x st ps :=
 ⟨f,_,fP (st:=st) l c k,(fP (st:=st) l c k).binds hb,PySem.W.mg_of X G a⟩
theorem aF {H:Hp} {p:Addr} {o:HO} (h:H p=none):Same H (upd H p o):=λb u e=>by rw [am (al e h)]; exact e
section
variable {X:Cx} {K:Z0}
theorem gk (h:X.K=K):SlR X (rSlL K):=by subst h; exact sl_list
theorem aq (h:X.K=K):IxR X (rIxL K):=by subst h; exact ix_list
theorem c7 (h:X.K=K):IxR X (rIxT K):=by subst h; exact ix_tup
theorem op_notInK (h:X.K=K):OpR X (U8 .NotIn) (rIn K true):=by subst h; exact mS
theorem op_eqDK (h:X.K=K) (hu:X.A.units+64<cLine):OpR X (U8 .Eq) (rEqD K):=by subst h; exact op_eqD hu
def rLen (K:Z0):List V->Hp->VK->Prop:=λxs H Q=>∃ p ys,xs=[.ref p]/\(SqL K H p ys\/SqT K H p ys)/\Q (.int ys.length) H
theorem aX (h:X.K=K):gd X (.builtin "len") (rLen K):=by subst h; exact mT
def tTru (K:Z0) (ta:TE):TT:=λσ H Q=>ta σ H λx H'=>∃ k,TruV K x H' k/\Q k H'
theorem mZ {a:Expr} {ta:TE} (h:X.K=K) (ha:PE X a ta) (he:∀ whole,isTrue a X.env whole=(do let v <- whole; standAt a.pos; holding [v] (truthy v))):PT X a (tTru K ta):=by subst h; exact pt_truth ha he
theorem aG {tg l:Expr} {tl:TE} (h:X.K=K) (hl:PE X l tl):PI X tg l (om K tl):=by subst h; exact pi_list hl
theorem kJ {elts:List Expr} {x1:Nat} {tpos:Pos} {a:Expr} {ta:TA} {p pos:Pos} (h:X.K=K) (hg:Gl X "enumerate") (hm:X.mg "enumerate"=none) (ha:PA X [a] ta) (hs:autoParam (Y9 [a] X.env=[(false,eval a X.env)]) L2.a2q._auto_1) :
  PI X (.Tuple elts x1 tpos) (.Call (.Name "enumerate" p) [a] [] pos) (iEnum K ta):=by subst h; exact pi_enum hg hm ha hs
theorem dt {es:List Expr} {k:Nat} {t:TGs} {n:Nat} {pos:Pos} (h:X.K=K) (hc:X.calm=true) (hs:PGs X es t) (hn:autoParam ((E5 es X.env).length=n) L2.a2q._auto_1) (hst:autoParam ((E5 es X.env).findIdx? (·.1)=none) L2.a2q._auto_1) :
  PG X (.Tuple es k pos) (gTup K n t):=by subst h; exact pg_tup hc hs hn hst
section
variable {o e:Expr} {es:List Expr} {to:TE} {t:TA} {name:Str} {apos cpos:Pos} {T id:String} {r:V->List V->Hp->VK->Prop}
theorem fk (h:X.K=K) (pa:PlainAttrs T) (slot:Slot T name id) (hty:typeOf (.builtin id)=pure (.type "method_descriptor")) (hm:MtR X id r) (ho:PE X o to) (ha:PA X (e :: es) t)
  (hbase:autoParam (F6 o name X.env (eval o X.env)=eval o X.env) L2.a2q._auto_1)
  (hfew:((backTo cpos (Y9 (e :: es) X.env)).all (λx=>!x.1) && (backToKw cpos (keywordEach [] X.env)).all (λx=>x.1.isSome)
   && decide ((e :: es).length+([]:List Keyword).length+(if ([]:List Keyword).isEmpty then 0 else 1)<30))=true:=by rfl)
  (hline:autoParam ((apos.endLine == cpos.line)=true) L2.a2q._auto_1) (hs:autoParam (Y9 (e :: es) X.env=(false,eval e X.env) :: Y9 es X.env) L2.a2q._auto_1) (hplain:autoParam ((backTo cpos (Y9 es X.env)).any (·.1)=false) L2.a2q._auto_1) :
  PE X (.Call (.Attribute o name apos) (e :: es) [] cpos) (tBM K T r to t):=by subst h; exact pe_bm pa slot hty hm ho ha hbase hfew hline hs hplain
end
end
class Kon where
 T:List Addr
 Q:Addr->Str
def aV (c:Addr) (q:Str):Heap->Prop:=λh=>h.CodeRec (.ref c) q
def d7:HO->Prop
 | .tbl _=>False
 | _=>True
structure TbG [Kn:Kon] (H:Hp):Prop where
 there:∀ P∈Kon.T,∃ ps,H P=some (.tbl ps)
 good:∀ P ps,H P=some (.tbl ps)->TriplesOk ps.toList/\∀ pos cv,B2 pos ps.toList=some cv->∃ c,cv=.ref c/\H c=some (.ext (aV c (Kon.Q P)))
structure Sm [Kn:Kon] (H H':Hp):Prop where
 kp:∀ b o,d7 o->H b=some o->H' b=some o
 tb:∀ b ps,H b=some (.tbl ps)->∃ more,H' b=some (.tbl (ps++more))
 tg:TbG H->TbG H'
section
variable [Kn:Kon] {H H1 H2 H':Hp} {p:Addr} {o:HO}
theorem Sm.refl (H:Hp):Sm H H:=⟨λx x x h=>h,λx ps h=>⟨#[],by rw [h]; simp⟩,λh=>h⟩
theorem Sm.trans (a:Sm H H1) (b:Sm H1 H2):Sm H H2:=⟨λc o n h=>b.kp c o n (a.kp c o n h),λc ps h=>by
 refine oq11 (a.tb c ps h) λm1 e1=>?_
 refine oq11 (b.tb c _ e1) λm2 e2=>?_
 exact ⟨m1++m2,by rw [e2,Array.append_assoc]⟩,λh=>b.tg (a.tg h)⟩
theorem Sm.some (e:Sm H H') {b:Addr} (h:H b=some o):∃ o',H' b=some o':=by
 cases o with
 | tbl ps=>refine oq11 (e.tb b ps h) λm q=>?_; exact ⟨_,q⟩
 | _=>refine ⟨_,e.kp b _ ?_ h⟩; trivial
theorem Sm.free (e:Sm H H') {l:Addr} (h:H' l=B9):H l=B9:=by
 cases q:H l with
 | none=>rfl
 | some o=>refine oq11 (e.some q) λo' z=>?_; rw [h] at z; cases z
theorem kK {b:Addr} {u:HO} {Q:Prop} (q:upd H p o b=some u) (f:b=p->o=u->Q) (g:b≠p->H b=some u->Q):Q:=(Decidable.em (b=p)).elim (λe=>f e (Z3 (ai.symm.trans ((congrArg (upd H p o) e).symm.trans q)))) λn=>g n ((am n).symm.trans q)
theorem dP {b:Addr} {u:HO} (n:b≠p) (q:H b=some u):upd H p o b=some u:=(am n).trans q
theorem TbG.mv (g:TbG H) (k1:∀ P ps,H P=some (.tbl ps)->H' P=some (.tbl ps)) (k2:∀ c q,H c=some (.ext (aV c q))->H' c=some (.ext (aV c q))) (n:∀ P ps,H' P=some (.tbl ps)->H P=some (.tbl ps)):TbG H' :=
 ⟨λP hP=>(g.there P hP).imp λps e=>k1 P ps e,λP ps q=>⟨(g.good P ps (n P ps q)).1,λpos cv hc=>((g.good P ps (n P ps q)).2 pos cv hc).imp λc z=>⟨z.1,k2 c _ z.2⟩⟩⟩
theorem n0 {ps:Array Value} (e:o=.tbl ps) (n:d7 o):False:=by subst e; exact n
theorem TbG.poke (g:TbG H) (n:d7 o) (h1:∀ q,H p≠some (.ext (aV p q))) (h2:∀ ps,H p≠some (.tbl ps)):TbG (upd H p o):=g.mv (λP ps q=>dP (λz=>h2 ps (z ▸ q)) q) (λc n q=>dP (λz=>h1 n (z ▸ q)) q) λP ps q=>kK q (λx e=>(n0 e n).elim) λx q=>q
theorem TbG.pokN (g:TbG H) (n:d7 o) (h:H p=none):TbG (upd H p o):=g.poke n (λx z=>nomatch h.symm.trans z) λx z=>nomatch h.symm.trans z
theorem kL (h:H p=none) (n:d7 o):Sm H (upd H p o):=⟨λx x x q=>dP (al q h) q,λx ps q=>⟨#[],by rw [Array.append_empty]; exact dP (al q h) q⟩,λg=>g.pokN n h⟩
def NoCode (φ:Heap->Prop):Prop:=∀ c q,φ≠aV c q
def Own:HO->Prop
 | .lst _=>True
 | .dK _=>True
 | .dT _=>True
 | .ext φ=>NoCode φ
 | _=>False
theorem Own.noTbl {u:HO} (h:Own u):d7 u:=by cases u <;> first | exact h | trivial
theorem n4 {u:HO} {c:Addr} {q:Str} (a:Own u) (e:u=.ext (aV c q)):False:=by subst e; exact a c q rfl
theorem TbG.pokO {u:HO} (g:TbG H) (n:d7 o) (h:H p=some u) (a:Own u):TbG (upd H p o):=g.poke n (λx z=>n4 a (Z3 (h.symm.trans z))) λx z=>n0 (Z3 (h.symm.trans z)) a.noTbl
theorem sm_chg {u u':HO} (e:Sm H H1) (h0:H p=none) (h:H1 p=some u) (a:Own u) (b:Own u'):Sm H (upd H1 p u'):=⟨λc o n q=>dP (al q h0) (e.kp c o n q),λc ps q=>(e.tb c ps q).imp λx z=>dP (al q h0) z,λg=>(e.tg g).pokO b.noTbl h a⟩
theorem kN {u:HO} (e:Sm H H1) (h0:H p=none) (h:H1 p=some u) (a:Own u):Sm H (λb=>if b=p then B9 else H1 b):=by
 have k:∀ {c:Addr} {o:HO},H1 c=some o->c≠p->(if c=p then B9 else H1 c)=some o:=λq n=>(if_neg n).trans q
 have ne:∀ {c:Addr} {o:HO},H1 c=some o->(u=o->False)->c≠p:=λq n z=>n (Z3 (h.symm.trans (z ▸ q)))
 exact ⟨λc o n q=>k (e.kp c o n q) (al q h0),λc ps q=>(e.tb c ps q).imp λx z=>k z (al q h0),λg=>(e.tg g).mv (λx x q=>k q (ne q λz=>n0 z a.noTbl)) (λx x q=>k q (ne q λz=>n4 a z)) λP x q=>(Decidable.em (P=p)).elim (λz=>nomatch (if_pos z).symm.trans q) λn=>(if_neg n).symm.trans q⟩
end
def NT (F:Hp):Prop:=∀ b ps,F b≠some (.tbl ps)
theorem kO {F:Hp} {p:Addr} {o:HO} (h:NT F) (n:d7 o):NT (upd F p o):=λb ps q=>by
 by_cases e:b=p
 ·subst e; rw [ai] at q; cases q; exact n
 ·rw [am e] at q; exact h b ps q
structure Rp (α:Type) where
 rel:Hp->V->α->Prop
 mono:∀ {H H':Hp} {v:V} {a:α},Same H H'->rel H v a->rel H' v a
theorem Paired.imp2 {α β:Type} {F G:α->β->Prop} (h:∀ a b,F a b->G a b):∀ {l:List α} {m:List β},Paired F l m->Paired G l m:=λp=>Paired.mapP p h
theorem Paired.setB {α β:Type} {F:α->β->Prop} {x:α} {y:β} (h:F x y):∀ {l:List α} {m:List β} (i:Nat),Paired F l m->Paired F (l.set i x) (m.set i y):=by
 intro l m i p
 induction p generalizing i with
 | nil=>exact .nil
 | cons r t ih =>
  cases i with
  | zero=>exact .cons h t
  | succ i=>exact .cons r (ih i)
theorem Paired.app {α β:Type} {F:α->β->Prop}:∀ {l l':List α} {m m':List β},Paired F l m->Paired F l' m'->Paired F (l++l') (m++m'):=λp s=>by
 induction p with
 | nil=>exact s
 | cons r _ ih=>exact .cons r ih
theorem Paired.takeB {α β:Type} {F:α->β->Prop}:∀ {l:List α} {m:List β} (n:Nat),Paired F l m->Paired F (l.take n) (m.take n):=by
 intro l m n p
 induction p generalizing n with
 | nil=>cases n <;> exact .nil
 | cons r t ih =>
  cases n with
  | zero=>exact .nil
  | succ n=>exact .cons r (ih n)
theorem Paired.dropB {α β:Type} {F:α->β->Prop}:∀ {l:List α} {m:List β} (n:Nat),Paired F l m->Paired F (l.drop n) (m.drop n):=by
 intro l m n p
 induction p generalizing n with
 | nil=>cases n <;> exact .nil
 | cons r t ih =>
  cases n with
  | zero=>exact .cons r t
  | succ n=>exact ih n
noncomputable def rInt:Rp Int:=⟨λx v a=>v=.int a,λx h=>h⟩
noncomputable def bJ:Rp Bool:=⟨λx v a=>v=.bl a,λx h=>h⟩
noncomputable def rOp {α:Type} (r:Rp α):Rp (Option α):=⟨λH v a=>match a with | none=>v=.non | some x=>r.rel H v x,λ{_ _ _ a} e h=>by
 cases a with
 | none=>exact h
 | some x=>exact r.mono e h⟩
theorem Same.rd {H H':Hp} {a:Addr} {u:HO} (e:Same H H') (h:Rd H a u):Rd H' a u:=by
 rcases h with h | zr1_
 ·exact .inl (e _ _ h)
 ·refine oq11 zr1_ λo h=>?_
  exact .inr ⟨o,e _ _ h⟩
noncomputable def rL {α:Type} (r:Rp α):Rp (List α):=⟨λH v xs=>∃ p vs,v=.ref p/\Rd H p (.lst vs)/\Paired (r.rel H) vs xs,λe zq=>oq23 zq λp vs h1 h2 h3=>(oi23 p vs h1 (e.rd h2) (Paired.imp2 (λx x q=>r.mono e q) h3))⟩
noncomputable def rT1 {α:Type} (r:Rp α):Rp α:=⟨λH v x=>∃ p a,v=.ref p/\H p=some (.tup [a])/\r.rel H a x,λe zq=>oq23 zq λp a h1 h2 h3=>(oi23 p a h1 (e _ _ h2) (r.mono e h3))⟩
noncomputable def rT2 {α β:Type} (r:Rp α) (s:Rp β):Rp (α × β):=⟨λH v x=>∃ p a b,v=.ref p/\H p=some (.tup [a,b])/\r.rel H a x.1/\s.rel H b x.2,
 λe zq=>oq34 zq λp a b h1 h2 h3 h4=>(oi34 p a b h1 (e _ _ h2) (r.mono e h3) (s.mono e h4))⟩
noncomputable def rT3 {α β γ:Type} (r:Rp α) (s:Rp β) (t:Rp γ):Rp (α × β × γ):=⟨λH v x=>∃ p a b c,v=.ref p/\H p=some (.tup [a,b,c])/\r.rel H a x.1/\s.rel H b x.2.1/\t.rel H c x.2.2,
 λe zq=>oq45 zq λp a b c h1 h2 h3 h4 h5=>(oi45 p a b c h1 (e _ _ h2) (r.mono e h3) (s.mono e h4) (t.mono e h5))⟩
abbrev dRel {α:Type} (r:Rp α) (H:Hp):Key × V->Int × α->Prop:=λw k=>w.1=.inl k.1/\r.rel H w.2 k.2
noncomputable def rD {α:Type} (r:Rp α):Rp (List (Int × α)):=⟨λH v kvs=>∃ p ws,v=.ref p/\H p=some (.dK ws)/\Paired (dRel r H) ws kvs,
 λe zq=>oq23 zq λp ws h1 h2 h3=>(oi23 p ws h1 (e _ _ h2) (Paired.imp2 (λx x q=>⟨q.1,r.mono e q.2⟩) h3))⟩
noncomputable def del (F:Hp) (p:Addr):Hp:=λb=>if b=p then none else F b
theorem bR {F:Hp} {p b:Addr} (h:b≠p):del F p b=F b:=by unfold del; rw [if_neg h]
theorem cT {F:Hp} {p:Addr}:del F p p=none:=by unfold del; rw [if_pos rfl]
set_option tactic.hygienic true in
theorem dB {F:Hp} {p b:Addr} {o:HO} (h:del F p b=some o):b≠p/\F b=some o:=by
 unfold del at h
 split at h
 ·cases h
 ·rename_i q; exact ⟨q,h⟩
def Chg:HO->Prop
 | .lst _=>True
 | .dK _=>True
 | .dT _=>True
 | .ins _ _ _=>True
 | _=>False
def Flat {α:Type} (r:Rp α):Prop:=∀ {F:Hp} {p:Addr} {o:HO} {v:V} {a:α},F p=some o->Chg o->r.rel F v a->r.rel (del F p) v a
theorem bK:Flat rInt:=λx x h=>h
theorem eV {α:Type} {r:Rp α} (f:Flat r):Flat (rOp r):=λ{_ _ _ _ a} h c q=>by
 cases a with
 | none=>exact q
 | some x=>exact f h c q
theorem tup_del {F:Hp} {p a:Addr} {o:HO} {xs:List V} (h:F p=some o) (c:Chg o) (q:F a=some (.tup xs)):del F p a=some (.tup xs):=by
 rw [bR]
 ·exact q
 ·rintro rfl; rw [h] at q; cases q; exact c
theorem flat_t2 {α β:Type} {r:Rp α} {s:Rp β} (f:Flat r) (g:Flat s):Flat (rT2 r s):=λh c zq=>oq34 zq λp a b h1 h2 h3 h4=>⟨p,a,b,h1,tup_del h c h2,f h c h3,g h c h4⟩
noncomputable def rScr (K:Z0):Rp (List Int):=⟨λH v xs=>∃ p vs,v=.ref p/\SqL K H p vs/\Paired (rInt.rel H) vs xs,λe zq=>oq23 zq λp vs h1 h2 h3=>(oi23 p vs h1 (e.seq h2) (Paired.imp2 (λx x q=>rInt.mono e q) h3))⟩
structure Sq (K:Z0) {α:Type} (rl:Rp (List α)) (r:Rp α):Prop where
 get:∀ {H v xs},rl.rel H v xs->∃ p vs,v=.ref p/\SqL K H p vs/\Paired (r.rel H) vs xs
theorem sq_l {K:Z0} {α:Type} {r:Rp α}:Sq K (rL r) r:=⟨λzq=>oq23 zq λp vs h1 h2 h3=>(oi23 p vs h1 (.inl h2) h3)⟩
theorem sq_s {K:Z0}:Sq K (rScr K) rInt:=⟨λh=>h⟩
inductive Slot:Type 1 where
 | any
 | fr {α:Type} (r:Rp α) (a:α)
 | ol {α:Type} (r:Rp α) (φ:Addr->Prop) (xs:List α)
 | od {α:Type} (r:Rp α) (φ:Addr->Prop) (kvs:List (Int × α))
abbrev tRel {α:Type} (r:Rp α) (H:Hp):List Key × V->(Int × Int) × α->Prop:=λw k=>w.1=[.inl k.1.1,.inl k.1.2]/\r.rel H w.2 k.2
structure NwL (H0 F:Hp) (us:List V) (rows:List (List Int)):Prop where
 pr:Paired (λv row=>∃ q vs,v=.ref q/\F q=some (.lst vs)/\Paired (rInt.rel F) vs row) us rows
 nd:us.Nodup
 nw:∀ q,V.ref q∈us->H0 q=none
theorem NwL.mono {H0 F F':Hp} {us:List V} {rows:List (List Int)} (e:Same F F') (h:NwL H0 F us rows):NwL H0 F' us rows :=
 ⟨Paired.imp2 (λx x z=>oq23 z λq vs h1 h2 h3=>⟨q,vs,h1,e _ _ h2,Paired.imp2 (λx x y=>y) h3⟩) h.pr,h.nd,h.nw⟩
noncomputable def Slot.own:Slot->Bool
 | .ol _ _ _=>true
 | .od _ _ _=>true
 | _=>false
def tt_:Addr->Prop:=λx=>True
def SlOk (H0 F H:Hp):Slot->Option V->Prop
 | .any,_=>True
 | .fr r a,o=>∃ v,o=some v/\r.rel F v a
 | .ol r φ xs,o=>∃ p vs,o=some (.ref p)/\φ p/\H0 p=none/\F p=none/\H p=some (.lst vs)/\Paired (r.rel F) vs xs
 | .od r φ kvs,o=>∃ p ws,o=some (.ref p)/\φ p/\H0 p=none/\F p=none/\H p=some (.dK ws)/\Paired (dRel r F) ws kvs
def UnT:Option HO->Prop
 | none=>True
 | some (.tup _)=>True
 | some _=>False
theorem un_no {o:Option HO} (h:o=none):UnT o:=h ▸ trivial
theorem un_own {o:Option HO} {u:HO} (z:UnT o) (e:o=some u) (h:Own u):False:=by subst e; cases u <;> first | exact z | exact h
theorem Sm.un [Kn:Kon] {H H':Hp} (e:Sm H H') {l:Addr} (h:UnT (H' l)):UnT (H l):=by
 cases q:H l with
 | none=>trivial
 | some o =>
  cases o with
  | tup _=>trivial
  | tbl ps=>refine oq11 (e.tb l ps q) λm z=>?_; rw [z] at h; exact h
  | _=>have z:=e.kp l _ (by trivial) q; rw [z] at h; exact h
theorem oqs6 {σ:St} {i:Nat} {B:Type} {q1 q2 q3 q4 q5:Addr->B->Prop} {Q:Prop} (h:∃ o,σ[i]?=some o/\∃ p w,o=some (V.ref p)/\q1 p w/\q2 p w/\q3 p w/\q4 p w/\q5 p w) (f:∀ p w,σ[i]?=some (some (V.ref p))->q1 p w->q2 p w->q3 p w->q4 p w->q5 p w->Q):Q:=oq12 h λo a z=>oq26 z λp w e a1 a2 a3 a4 a5=>f p w (e ▸ a) a1 a2 a3 a4 a5
structure Fc where
 H0:Hp
 F0:Hp
 L:Hp
structure Fr [Kn:Kon] (C:Fc) (F H:Hp):Prop where
 keep:Sm C.H0 H
 low:Same C.L F
 sub:Same F H
 base:∀ b o,F b=some o->C.F0 b=some o\/UnT (C.H0 b)
 nt:NT F
 tg:TbG H
structure SR [Kn:Kon] (C:Fc) (F:Hp) (Γ:List Slot) (σ:St) (H:Hp):Prop extends Fr C F H where
 len:σ.length=Γ.length
 at_:∀ (i:Nat) s,Γ[i]?=some s->∃ o,σ[i]?=some o/\SlOk C.H0 F H s o
 inj:∀ (i j:Nat) s t p,Γ[i]?=some s->Γ[j]?=some t->s.own=true->t.own=true->σ[i]?=some (some (.ref p))->σ[j]?=some (some (.ref p))->i=j
structure Ext [Kn:Kon] (F H F' H':Hp):Prop where
 hh:Sm H H'
 ff:Same F F'
 sub:Same F' H'
 nw:∀ b o,F' b=some o->F b=some o\/UnT (H b)
 nt:NT F->NT F'
section
variable [Kn:Kon]
theorem Ext.refl {F H:Hp} (h:Same F H):Ext F H F H:=⟨Sm.refl _,Same.refl _,h,λx x q=>.inl q,λz=>z⟩
theorem Ext.trans {F H F1 H1 F2 H2:Hp} (a:Ext F H F1 H1) (b:Ext F1 H1 F2 H2):Ext F H F2 H2:=⟨a.hh.trans b.hh,a.ff.trans b.ff,b.sub,λc o h=>by
 rcases b.nw c o h with q | q
 ·exact a.nw c o q
 ·exact .inr (a.hh.un q),λz=>b.nt (a.nt z)⟩
theorem Ext.new {F H:Hp} {p:Addr} {o:HO} (h:Same F H) (hp:H p=none) (n:autoParam (d7 o) L2.a4q._auto_1):Ext F H (upd F p o) (upd H p o) :=
 ⟨kL hp n,aF (h.free hp),λb u q=>by
  by_cases e:b=p
  ·subst e; rw [ai] at q ⊢; exact q
  ·rw [am e] at q ⊢; exact h b u q,λb u q=>by
  by_cases e:b=p
  ·subst e; exact .inr (un_no hp)
  ·rw [am e] at q; exact .inl q,λz=>kO z n⟩
theorem Ext.newH {F H:Hp} {p:Addr} {o:HO} (h:Same F H) (hp:H p=none) (n:autoParam (d7 o) L2.a4q._auto_1):Ext F H F (upd H p o):=⟨kL hp n,Same.refl _,h.trans (aF hp),λx x q=>.inl q,λz=>z⟩
theorem Fr.grow {C:Fc} {F H F' H':Hp} (f:Fr C F H) (e:Ext F H F' H'):Fr C F' H':=⟨f.keep.trans e.hh,f.low.trans e.ff,e.sub,λb o h=>by
 rcases e.nw b o h with q | q
 ·exact f.base b o q
 ·exact .inr (f.keep.un q),e.nt f.nt,e.hh.tg f.tg⟩
theorem none_of {α:Type _} {o:Option α} (h:∀ w,o=some w->False):o=none:=by
 cases o with
 | none=>rfl
 | some w=>exact (h w rfl).elim
theorem SlOk.mov {H0 F H F' H':Hp} {s:Slot} {o:Option V} (h:SlOk H0 F H s o) (lo:Same F F') (k:∀ p u,o=some (.ref p)->s.own=true->F p=none->H p=some u->Own u->F' p=none/\H' p=some u):SlOk H0 F' H' s o:=by
 cases s with
 | any=>trivial
 | fr r a=>exact oq12 h λv h1 h2=>oi12 v h1 (r.mono lo h2)
 | ol r φ xs=>exact oq26 h λp vs h1 h0 h2 h3 h4 h5=>oq02 (k p _ h1 rfl h3 h4 trivial) λa b=>oi26 p vs h1 h0 h2 a b (Paired.imp2 (λx x q=>r.mono lo q) h5)
 | od r φ kvs=>exact oq26 h λp ws h1 h0 h2 h3 h4 h5=>oq02 (k p _ h1 rfl h3 h4 trivial) λa b=>oi26 p ws h1 h0 h2 a b (Paired.imp2 (λx x q=>⟨q.1,r.mono lo q.2⟩) h5)
theorem SlOk.grow {H0 F H F' H':Hp} {s:Slot} {o:Option V} (e:Ext F H F' H') (h:SlOk H0 F H s o):SlOk H0 F' H' s o:=h.mov e.ff λp x x x h1 h2 hu=>⟨none_of λw q=>(e.nw p w q).elim (λz=>nomatch h1.symm.trans z) λz=>un_own z h2 hu,e.hh.kp _ _ hu.noTbl h2⟩
section
variable {C:Fc} {F H F' H':Hp} {Γ:List Slot} {σ:St}
theorem SR.grow (S:SR C F Γ σ H) (e:Ext F H F' H'):SR C F' Γ σ H':=⟨S.toFr.grow e,S.len,λi s h=>by
 refine oq12 (S.at_ i s h) λo h1 h2=>?_
 exact (oi12 o h1 (h2.grow e)),S.inj⟩
theorem SR.fr {α:Type} {r:Rp α} {a:α} {i:Nat} (S:SR C F Γ σ H) (h:Γ[i]?=some (.fr r a)):∃ v,σ[i]?=some (some v)/\r.rel F v a:=by
 refine oq12 (S.at_ i _ h) λo h1 zz=>oq12 zz λv eq3_ h2=>?_; subst eq3_
 exact (oi12 v h1 h2)
theorem n5 {α:Type _} {l:List α} {i:Nat} {x:α} (h:i<l.length):(l.set i x)[i]?=some x:=L7 h
theorem du {α:Type _} {l:List α} {i j:Nat} {x:α} (h:i≠j):(l.set i x)[j]?=l[j]?:=J9 h
theorem iF {α:Type _} {l:List α} {i j:Nat} {x y:α} (e:i=j) (hl:i<l.length) (h:(l.set i x)[j]?=some y):x=y:=by subst e; exact Z3 ((n5 hl).symm.trans h)
theorem fm {α:Type _} {l:List α} {i j:Nat} {x y:α} {Q:Prop} (h:(l.set i x)[j]?=some y) (f:i=j->x=y->i<l.length->Q) (g:i≠j->l[j]?=some y->Q):Q:=(Decidable.em (i=j)).elim (λe=>have hl:i<l.length:=by rw [e,<- V6]; exact (Z1.mp h).1
 f e (iF e hl h) hl) λn=>g n ((du n).symm.trans h)
theorem SR.pt {s:Slot} {v:Option V} (i:Nat) (S:SR C F Γ σ H) (fr:Fr C F' H') (k:∀ (j:Nat) t,i≠j->Γ[j]?=some t->∃ o,σ[j]?=some o/\SlOk C.H0 F' H' t o) (h:SlOk C.H0 F' H' s v) (np:s.own=true->∀ p,v=some (.ref p)->∀ (j:Nat) t,i≠j->Γ[j]?=some t->t.own=true->σ[j]?=some (some (.ref p))->False):SR C F' (Γ.set i s) (σ.set i v) H':=by
 have lt:i<Γ.length->i<σ.length:=λl=>Nat.lt_of_lt_of_eq l S.len.symm
 exact ⟨fr,by rw [V6,V6]; exact S.len,λj t q=>fm q (λe1 e2 l=>oi12 v (e1 ▸ n5 (lt l)) (e2 ▸ h)) λn q=>oq12 (k j t n q) λo h1 h2=>oi12 o ((du n).trans h1) h2,
  λj m a t p q1 q2 o1 o2 e1 e2=>fm q1 (λa1 a2 l=>fm q2 (λb1 x x=>a1.symm.trans b1) λn q2=>(np (a2 ▸ o1) p (iF a1 (lt l) e1) m t n q2 o2 ((du n).symm.trans e2)).elim) λn1 q1=>fm q2 (λb1 b2 l=>(np (b2 ▸ o2) p (iF b1 (lt l) e2) j a n1 q1 o1 ((du n1).symm.trans e1)).elim) λn2 q2=>S.inj j m a t p q1 q2 o1 o2 ((du n1).symm.trans e1) ((du n2).symm.trans e2)⟩
theorem set_idx {α:Type _} {l:List α} {i:Nat} {a:α} (h:l[i]?=some a):l.set i a=l:=by
 apply D9
 intro j
 by_cases e:i=j
 ·subst e; rw [n5 (Z1.mp h).1,h]
 ·rw [du e]
theorem SR.pk {s s':Slot} {o:Option V} {i:Nat} (S:SR C F Γ σ H) (hi:Γ[i]?=some s) (ho:s'.own=true->s.own=true) (e1:σ[i]?=some o) (fr:Fr C F' H') (k:∀ (j:Nat) t,i≠j->Γ[j]?=some t->∃ o,σ[j]?=some o/\SlOk C.H0 F' H' t o) (h:SlOk C.H0 F' H' s' o):SR C F' (Γ.set i s') σ H' :=
 set_idx e1 ▸ S.pt i fr k h λy p z j t n q o2 e2=>n (S.inj i j s t p hi q (ho y) o2 (z ▸ e1) e2)
theorem SR.mvAt {j:Nat} {t:Slot} (S:SR C F Γ σ H) (q:Γ[j]?=some t) (lo:Same F F') (k:∀ p u,t.own=true->σ[j]?=some (some (.ref p))->F p=none->H p=some u->Own u->F' p=none/\H' p=some u):∃ o,σ[j]?=some o/\SlOk C.H0 F' H' t o:=oq12 (S.at_ j t q) λo h1 h2=>oi12 o h1 (h2.mov lo λp u e ow f h ou=>k p u ow (e ▸ h1) f h ou)
theorem SR.oth {p p':Addr} {i j:Nat} {s t:Slot} (S:SR C F Γ σ H) (hi:Γ[i]?=some s) (ho:s.own=true) (hp:σ[i]?=some (some (.ref p))) (n:i≠j) (q:Γ[j]?=some t) (o:t.own=true) (e:σ[j]?=some (some (.ref p'))):p'≠p:=λz=>n (S.inj i j s t p hi q ho o hp (z ▸ e))
theorem SR.setF {α:Type} {r:Rp α} {a:α} {v:V} (i:Nat) (S:SR C F Γ σ H) (h:r.rel F v a):SR C F (Γ.set i (.fr r a)) (σ.set i (some v)) H:=S.pt i S.toFr (λj t x q=>S.at_ j t q) ⟨v,rfl,h⟩ λz=>nomatch z
theorem qO {H0 F H:Hp} {p:Addr} {s:Slot} (hs:s.own=true) (h:SlOk H0 F H s (some (.ref p))):∃ u,H p=some u/\Own u:=by
 cases s with
 | any=>cases hs
 | fr r a=>cases hs
 | ol r φ xs=>refine oq26 h λp' vs h1 x x x h4 x=>?_; cases h1; exact (oi12 _ h4 trivial)
 | od r φ kvs=>refine oq26 h λp' vs h1 x x x h4 x=>?_; cases h1; exact (oi12 _ h4 trivial)
theorem SR.np {p:Addr} {j:Nat} {t:Slot} (S:SR C F Γ σ H) (hp:H p=none) (q:Γ[j]?=some t) (o:t.own=true) (e:σ[j]?=some (some (.ref p))):False:=oq12 (S.at_ j t q) λo' h1 h2=>oq12 (qO o (Z3 (h1.symm.trans e) ▸ h2)) λx z x=>nomatch hp.symm.trans z
theorem own_upd {H0:Hp} {p:Addr} {u:HO} {s:Slot} (hs:s.own=true) (h:SlOk H0 F (upd H p u) s (some (.ref p))):Own u:=oq12 (qO hs h) λx e1 e2=>Z3 (ai.symm.trans e1) ▸ e2
theorem SR.setO {p:Addr} {u:HO} {s:Slot} (i:Nat) (S:SR C F Γ σ H) (hp:H p=none) (hs:s.own=true) (h:SlOk C.H0 F (upd H p u) s (some (.ref p))):SR C F (Γ.set i s) (σ.set i (some (.ref p))) (upd H p u):=by
 have e:Ext F H F (upd H p u):=Ext.newH S.sub hp (own_upd hs h).noTbl
 exact S.pt i (S.toFr.grow e) (λj t x q=>(S.grow e).at_ j t q) h λx p' z j t x q o e=>S.np hp q o (e.trans (congrArg some z.symm))
theorem SR.chg {p:Addr} {u:HO} {s s':Slot} {i:Nat} (S:SR C F Γ σ H) (hi:Γ[i]?=some s) (ho:s.own=true) (hp:σ[i]?=some (some (.ref p))) (h0:C.H0 p=none) (hF:F p=none) (hs:s'.own=true) (h:SlOk C.H0 F (upd H p u) s' (some (.ref p))) :
  SR C F (Γ.set i s') σ (upd H p u):=by
 refine oq12 (S.at_ i s hi) λo z1 z2=>oq12 (qO ho (Z3 (z1.symm.trans hp) ▸ z2)) λu0 hu0 ou0=>?_
 have ou:=own_upd hs h
 exact S.pk hi (λx=>ho) hp ⟨sm_chg S.keep h0 hu0 ou0 ou,S.low,λb o q=>dP (al q hF) (S.sub b o q),S.base,S.nt,S.tg.pokO ou.noTbl hu0 ou0⟩ (λj t n q=>S.mvAt q (Same.refl _) λp' x o e f hu x=>⟨f,dP (S.oth hi ho hp n q o e) hu⟩) h
end
inductive SubS:Slot->Slot->Prop where
 | any {s:Slot}:SubS s .any
 | rfl {s:Slot}:SubS s s
 | frz {α:Type} {r:Rp α} {φ:Addr->Prop} {xs:List α}:SubS (.ol r φ xs) (.fr (rL r) xs)
 | frd {α:Type} {r:Rp α} {φ:Addr->Prop} {kvs:List (Int × α)}:SubS (.od r φ kvs) (.fr (rD r) kvs)
 | ttD {α:Type} {r:Rp α} {φ:Addr->Prop} {kvs:List (Int × α)}:SubS (.od r φ kvs) (.od r tt_ kvs)
 | tt {α:Type} {r:Rp α} {φ:Addr->Prop} {xs:List α}:SubS (.ol r φ xs) (.ol r tt_ xs)
inductive SubL:List Slot->List Slot->Prop where
 | nil:SubL [] []
 | cons {s s':Slot} {Γ Γ':List Slot}:SubS s s'->SubL Γ Γ'->SubL (s :: Γ) (s' :: Γ')
theorem sbR {s:Slot} {Γ Γ':List Slot} (h:SubL Γ Γ'):SubL (s :: Γ) (s :: Γ'):=.cons .rfl h
theorem sbA {s:Slot} {Γ Γ':List Slot} (h:SubL Γ Γ'):SubL (s :: Γ) (.any :: Γ'):=.cons .any h
theorem SR.freeze {C:Fc} {F H:Hp} {Γ:List Slot} {σ:St} {i:Nat} {s:Slot} (S:SR C F Γ σ H) (hi:Γ[i]?=some s) (p:Addr) (u:HO) (s':Slot) (hs':s'.own=false) (hs:s.own=true) (e1:σ[i]?=some (some (.ref p))) (e2:C.H0 p=none) (e3:F p=none) (e4:H p=some u)
  (e5:SlOk C.H0 (upd F p u) H s' (some (.ref p))) (ou:Own u):SR C (upd F p u) (Γ.set i s') σ H :=
 S.pk hi (λx=>hs) e1 ⟨S.keep,S.low.trans (aF e3),λb o q=>kK q (λa b=>a ▸ b ▸ e4) λx q=>S.sub b o q,λb o q=>kK q (λe x=>.inr (un_no (e ▸ e2))) λx q=>S.base b o q,kO S.nt ou.noTbl,S.tg⟩ (λj t n q=>S.mvAt q (aF e3) λp' x o e f hu x=>⟨(am (S.oth hi hs e1 n q o e)).trans f,hu⟩) e5
theorem SR.weak1 {C:Fc} {F H:Hp} {Γ:List Slot} {σ:St} {i:Nat} {s s':Slot} (S:SR C F Γ σ H) (hi:Γ[i]?=some s) (h:SubS s s'):∃ F',Same F F'/\SR C F' (Γ.set i s') σ H:=by
 have stay:∀ s',(∀ o,SlOk C.H0 F H s o->SlOk C.H0 F H s' o)->(s'.own=true->s.own=true)->∃ F',Same F F'/\SR C F' (Γ.set i s') σ H:=λs' h1 h2=>oq12 (S.at_ i s hi) λo z1 z2=>oi12 F (Same.refl _) (S.pk hi h2 z1 S.toFr (λj t x q=>S.at_ j t q) (h1 o z2))
 cases h with
 | any=>exact stay _ (λx x=>trivial) (λz=>by cases z)
 | rfl=>exact stay _ (λx z=>z) (λz=>z)
 | tt=>exact stay _ (λx zq=>oq23 zq λp vs a x b=>⟨p,vs,a,trivial,b⟩) (λz=>z)
 | ttD=>exact stay _ (λx zq=>oq23 zq λp vs a x b=>⟨p,vs,a,trivial,b⟩) (λz=>z)
 | frz =>
  refine oqs6 (S.at_ i _ hi) λp vs h1 h2 h3 h4 h5 h6=>?_
  exact (oi12 _ (aF h4) (S.freeze hi p _ _ rfl rfl h1 h3 h4 h5 ⟨_,rfl,p,vs,rfl,Rd.of ai,Paired.imp2 (λx x z=>Rp.mono _ (aF h4) z) h6⟩ trivial))
 | frd =>
  refine oqs6 (S.at_ i _ hi) λp vs h1 h2 h3 h4 h5 h6=>?_
  exact (oi12 _ (aF h4) (S.freeze hi p _ _ rfl rfl h1 h3 h4 h5 ⟨_,rfl,p,vs,rfl,ai,Paired.imp2 (λx x z=>⟨z.1,Rp.mono _ (aF h4) z.2⟩) h6⟩ trivial))
theorem SR.weakL {C:Fc} {H:Hp} {σ:St} {Γ Γ':List Slot} (h:SubL Γ Γ'):∀ (Δ:List Slot) {F:Hp},SR C F (Δ++Γ) σ H->∃ F',Same F F'/\SR C F' (Δ++Γ') σ H:=by
 induction h with
 | nil=>exact λΔ F S=>(oi12 F (Same.refl _) S)
 | @cons s s' Γ Γ' h1 _ ih =>
  intro Δ F S
  refine oq12 (S.weak1 (i:=Δ.length) (s:=s) (s':=s') (by simp) h1) λF1 e1 S1=>?_
  have e:(Δ++s :: Γ).set Δ.length s'=(Δ++[s'])++Γ:=by simp
  rw [e] at S1
  refine oq12 (ih (Δ++[s']) S1) λF2 e2 S2=>?_
  exact (oi12 F2 (e1.trans e2) (by simpa using S2))
theorem SR.weak {C:Fc} {F H:Hp} {σ:St} {Γ Γ':List Slot} (S:SR C F Γ σ H) (h:SubL Γ Γ'):∃ F',Same F F'/\SR C F' Γ' σ H:=SR.weakL h [] S
theorem SR.lower {C:Fc} {F H:Hp} {σ:St} {Γ:List Slot} (S:SR C F Γ σ H):SR { C with L:=F } F Γ σ H:=⟨⟨S.keep,Same.refl _,S.sub,S.base,S.nt,S.tg⟩,S.len,S.at_,S.inj⟩
theorem SR.raise {C:Fc} {F F1 H:Hp} {σ:St} {Γ:List Slot} (S:SR { C with L:=F } F1 Γ σ H) (h:Same C.L F):SR C F1 Γ σ H:=⟨⟨S.keep,h.trans S.low,S.sub,S.base,S.nt,S.tg⟩,S.len,S.at_,S.inj⟩
theorem Fr.raise {C:Fc} {F F1 H:Hp} (S:Fr { C with L:=F } F1 H) (h:Same C.L F):Fr C F1 H:=⟨S.keep,h.trans S.low,S.sub,S.base,S.nt,S.tg⟩
end
end L2
namespace Pu
theorem bs {α β:Type} {a:α} {f:α->Option β}:(some a).bind f=f a:=Eq.trans (nza a f) (Eq.refl _)
noncomputable def fdiv (i j:Int):Option Int:=if 0<j/\j<2 ^ 64 then some (i / j) else none
noncomputable def fmod (i j:Int):Option Int:=if 0<j then some (i % j) else none
noncomputable def mul (i j:Int):Option Int:=if (-(2 ^ 64)<i/\i<2 ^ 64)\/(-(2 ^ 64)<j/\j<2 ^ 64) then some (i * j) else none
noncomputable def pow (i j:Int):Option Int:=if 0<=j/\j<=1000000/\i.natAbs<2 ^ 64 then some (i ^ j.toNat) else none
noncomputable def mn (i j:Int):Int:=if j<i then j else i
noncomputable def mx (i j:Int):Int:=if j > i then j else i
noncomputable def ab (i:Int):Int:=if i<0 then -i else i
noncomputable def ofb (b:Bool):Int:=if b then 1 else 0
noncomputable abbrev at_ {α:Type} (xs:List α) (i:Int):Option α:=L2.atI xs i
noncomputable def ln {α:Type} (xs:List α):Int:=xs.length
noncomputable def cut {α:Type} (xs:List α) (lo hi:Option Int):List α:=(xs.drop (HT.sIx xs.length 0 lo)).take (HT.sIx xs.length xs.length hi - HT.sIx xs.length 0 lo)
noncomputable def app {α:Type} (xs:List α) (a:α):Option (List α):=if xs.length<16777216 then some (xs++[a]) else none
noncomputable def cat {α:Type} (xs ys:List α):Option (List α):=if xs.length+ys.length<=16777216 then some (xs++ys) else none
noncomputable def nats (n:Nat):List Int:=(Z9 n).map λ(i:Nat)=>(i:Int)
noncomputable def rng1 (j:Int):Option (List Int):=if -(2 ^ 62)<=j/\j<2 ^ 62 then some (nats j.toNat) else none
noncomputable def rng2 (i j:Int):Option (List Int):=if -(2 ^ 62)<=i/\i<2 ^ 62/\-(2 ^ 62)<=j/\j<2 ^ 62 then some ((Z9 (j - i).toNat).map λ(k:Nat)=>i+(k:Int)) else none
noncomputable def rng3 (i j c:Int):Option (List Int):=if -(2 ^ 61)<=i/\i<2 ^ 61/\-(2 ^ 61)<=j/\j<2 ^ 61/\0<c/\c<1073741824 then some ((Z9 (Fl.kD i j c)).map λ(k:Nat)=>i+(k:Int) * c) else none
noncomputable def enum {α:Type} (xs:List α):List (Int × α):=(xs.zipIdx).map λp=>((p.2:Int),p.1)
noncomputable def find {α:Type} (kvs:List (Int × α)) (k:Int):Option α:=(kvs.find? λkv=>decide (kv.1=k)).map (·.2)
noncomputable def put {α:Type} (kvs:List (Int × α)) (k:Int) (v:α):List (Int × α) :=
 if (kvs.any λkv=>decide (kv.1=k))=true then kvs.map (λkv=>if kv.1=k then (kv.1,v) else kv) else kvs++[(k,v)]
noncomputable def me {β α:Type} (f:β->Option α):List β->Option (List α)
 | []=>some []
 | x :: xs=>(f x).bind λa=>(me f xs).bind λas=>some (a :: as)
noncomputable def bL {β α:Type} (t:β->Option Bool) (f:β->Option α):List β->Option (List α)
 | []=>some []
 | x :: xs=>(t x).bind λb=>if b=true then (f x).bind λa=>(bL t f xs).bind λas=>some (a :: as) else bL t f xs
noncomputable def comp {β α:Type} (f:β->Option α) (xs:List β):Option (List α):=if xs.length<=16777216 then me f xs else none
noncomputable def bX {β α:Type} (t:β->Option Bool) (f:β->Option α) (xs:List β):Option (List α):=if xs.length<=16777216 then bL t f xs else none
inductive Ctl (S R:Type) where
 | nx (s:S) | bk (s:S) | rt (r:R)
noncomputable def forS {S β:Type} (f:S->β->Option S):List β->S->Option S
 | [],s=>some s
 | x :: xs,s=>(f s x).bind λs=>forS f xs s
noncomputable def forC {S R β:Type} (f:S->β->Option (Ctl S R)):List β->S->Option (Ctl S R)
 | [],s=>some (.nx s)
 | x :: xs,s=>(f s x).bind λc=>match c with
  | .nx s=>forC f xs s
  | .bk s=>some (.nx s)
  | .rt r=>some (.rt r)
noncomputable def whS {S:Type} (t:S->Option Bool) (f:S->Option S):Nat->S->Option S
 | 0,_=>none
 | n+1,s=>(t s).bind λb=>if b=true then (f s).bind λs=>whS t f n s else some s
theorem gQ {S β:Type} {f:S->β->Option S} {x:β} {xs:List β} {s:S}:forS f (x :: xs) s=(f s x).bind λs=>forS f xs s:=rfl
theorem ji {S R β:Type} {f:S->β->Option (Ctl S R)} {x:β} {xs:List β} {s:S}:forC f (x :: xs) s=(f s x).bind λc=>match c with
  | .nx s=>forC f xs s
  | .bk s=>some (.nx s)
  | .rt r=>some (.rt r):=rfl
theorem oS {S:Type} {t:S->Option Bool} {f:S->Option S} {n:Nat} {s:S}:whS t f (n+1) s=(t s).bind λb=>if b=true then (f s).bind λs=>whS t f n s else some s:=rfl
theorem qP {β α:Type} {f:β->Option α} {x:β} {xs:List β}:me f (x :: xs)=(f x).bind λa=>(me f xs).bind λas=>some (a :: as):=rfl
noncomputable def andThen {S R T:Type} (o:Option (Ctl S R)) (k:S->Option T) (e:R->T):Option T:=o.bind λc=>match c with
 | .nx s=>k s
 | .bk s=>k s
 | .rt r=>some (e r)
end Pu
namespace L2
section
open PySem PySem.Spec PyProof.Rows
theorem a9 {α β:Type} {o:Option α} {f:α->Option β} {b:β} (h:o.bind f=some b):∃ a,o=some a/\f a=some b:=by
 cases o with
 | none=>cases h
 | some a=>exact (oi12 a rfl h)
variable [Kn:Kon]
section
variable (Γ:List Slot) {α:Type}
def EV (t:TE) (o:Option α) (r:Rp α):Prop:=∀ C F σ H Q a,SR C F Γ σ H->o=some a->(∀ v F' H',Ext F H F' H'->r.rel F' v a->Q v H')->t σ H Q
def EVL (t:TE) (o:Option (List α)) (r:Rp α):Prop:=∀ C F σ H Q xs,SR C F Γ σ H->o=some xs->(∀ p vs F' H1,Ext F H F' H1->H1 p=none->Paired (r.rel F') vs xs->Q (.ref p) (upd H1 p (.lst vs)))->t σ H Q
def EVD (t:TE) (o:Option (List (Int × α))) (r:Rp α):Prop:=∀ C F σ H Q kvs,SR C F Γ σ H->o=some kvs->(∀ p ws F' H1,Ext F H F' H1->H1 p=none->Paired (dRel r F') ws kvs->Q (.ref p) (upd H1 p (.dK ws)))->t σ H Q
def ET (t:TT) (o:Option Bool):Prop:=∀ C F σ H Q b,SR C F Γ σ H->o=some b->(∀ F' H',Ext F H F' H'->Q b H')->t σ H Q
structure Walks (J:It) (F:Hp) {β:Type} (r:Rp β) (xs:List β):Prop where
 go:∀ i H,Same F H->i<xs.length->J.go i H
 stop:∀ H,Same F H->J.stop xs.length H
 yld:∀ i H x H' F1,Same F H->i<xs.length->J.yld i H x H'->Same F F1->Same F1 H->∃ F2 a,xs[i]?=some a/\Ext F1 H F2 H'/\r.rel F2 x a
def IV (t:TI) (o:Option (List α)) (r:Rp α):Prop:=∀ C F σ H R xs,SR C F Γ σ H->o=some xs->(∀ J F' H',Ext F H F' H'->Walks J F' r xs->R J H')->t σ H R
def EO (t:TO) (o:Option (Option Int)):Prop:=∀ C F σ H Q a,SR C F Γ σ H->o=some a->(∀ F' H',Ext F H F' H'->Q a H')->t σ H Q
end
section
variable {Γ:List Slot} {α β γ:Type} {r:Rp α} {s:Rp β} {ta tb tc:TE} {oa:Option α} {ob:Option β} {K:Z0}
theorem a7 {a:α} (i:Nat) (h:Γ[i]?=some (.fr r a)):EV Γ (tVar i) (some a) r:=by
 intro C F σ H Q a' S e k
 cases e
 refine oq12 (S.fr h) λv h1 h2=>?_
 exact ⟨v,h1,k v F H (Ext.refl S.sub) h2⟩
theorem ev_c {v:V} {a:α} (h:∀ F,r.rel F v a):EV Γ (tC v) (some a) r:=by
 intro C F σ H Q a' S e k
 cases e
 exact k v F H (Ext.refl S.sub) (h F)
theorem ag {n:Int}:EV Γ (tC (.int n)) (some n) rInt:=ev_c λx=>rfl
theorem ev_bl {b:Bool}:EV Γ (tC (.bl b)) (some b) bJ:=ev_c λx=>rfl
theorem cU:EV Γ (tC .non) (some none) (rOp r):=ev_c λx=>rfl
theorem EV.cast {t:TE} {o o':Option α} (h:EV Γ t o r) (e:o'=o):EV Γ t o' r:=e ▸ h
theorem dW {t:TE} (h:EV Γ t oa r):EV Γ t (oa.bind λa=>some (some a)) (rOp r):=by
 intro C F σ H Q a' S e k
 refine oq12 (a9 e) λa e1 e2=>?_
 cases e2
 exact h C F σ H Q a S e1 k
theorem cJ {t:TE} {o:Option (Option α)} (h:EV Γ t o (rOp r)):EV Γ t (o.bind λa=>a) r:=by
 intro C F σ H Q a' S e k
 refine oq12 (a9 e) λa e1 e2=>?_
 subst e2
 exact h C F σ H Q _ S e1 k
theorem EV.two {C:Fc} {F H:Hp} {σ:St} {a:α} {b:β} {q:V->V->Hp->Prop} (ha:EV Γ ta oa r) (hb:EV Γ tb ob s) (S:SR C F Γ σ H) (e1:oa=some a) (e2:ob=some b)
  (k:∀ x y F' H',Ext F H F' H'->r.rel F' x a->s.rel F' y b->q x y H'):ta σ H λx H1=>tb σ H1 λy H2=>q x y H2 :=
 ha C F σ H _ a S e1 λx F1 H1 x1 r1=>hb C F1 σ H1 _ b (S.grow x1) e2 λy F2 H2 x2 r2=>k x y F2 H2 (x1.trans x2) (r.mono x2.ff r1) r2
theorem iG {R:R2} {f:α->β->Option γ} {t:Rp γ} (hR:∀ F H x y a b c Q,Same F H->r.rel F x a->s.rel F y b->f a b=some c->(∀ v,t.rel F v c->Q v H)->R x y H Q) (ha:EV Γ ta oa r) (hb:EV Γ tb ob s) :
  EV Γ (tOp R ta tb) (oa.bind λa=>ob.bind λb=>f a b) t:=by
 intro C F σ H Q c S e k
 refine oq12 (a9 e) λa e1 e=>?_
 refine oq12 (a9 e) λb e2 e3=>?_
 exact EV.two ha hb S e1 e2 λx y F' H' x1 r1 r2=>hR F' H' x y a b c _ x1.sub r1 r2 e3 λv rv=>k v F' H' x1 rv
theorem oT {g:Int->Int->V} {f:Int->Int->γ} {t:Rp γ} {ox oy:Option Int} (hg:∀ H i j,t.rel H (g i j) (f i j)) (ha:EV Γ ta ox rInt) (hb:EV Γ tb oy rInt):EV Γ (tOp (rI0 g) ta tb) (ox.bind λa=>oy.bind λb=>some (f a b)) t :=
 iG (λF H x y a b c Q h r1 r2 e k=>by cases e; exact ⟨a,b,r1,r2,k _ (hg F a b)⟩) ha hb
theorem ev_i {Cn:Int->Int->Prop} {g:Int->Int->V} {f:Int->Int->Option γ} {t:Rp γ} {ox oy:Option Int} (hg:∀ H i j c,f i j=some c->Cn i j/\t.rel H (g i j) c) (ha:EV Γ ta ox rInt) (hb:EV Γ tb oy rInt) :
  EV Γ (tOp (rI Cn g) ta tb) (ox.bind λa=>oy.bind λb=>f a b) t :=
 iG (λF H x y a b c Q h r1 r2 e k=>by refine oq02 (hg F a b c e) λh1 h2=>?_; exact ⟨a,b,r1,r2,h1,k _ h2⟩) ha hb
section
variable {ox oy:Option Int}
theorem bi (ha:EV Γ ta ox rInt) (hb:EV Γ tb oy rInt):EV Γ (tOp (rI0 λi j=>.int (i+j)) ta tb) (ox.bind λa=>oy.bind λb=>some (a+b)) rInt:=oT (λx x x=>rfl) ha hb
theorem db (ha:EV Γ ta ox rInt) (hb:EV Γ tb oy rInt):EV Γ (tOp (rI0 λi j=>.int (i - j)) ta tb) (ox.bind λa=>oy.bind λb=>some (a - b)) rInt:=oT (λx x x=>rfl) ha hb
theorem ev_lt (ha:EV Γ ta ox rInt) (hb:EV Γ tb oy rInt):EV Γ (tOp (rI0 λi j=>.bl (decide (i<j))) ta tb) (ox.bind λa=>oy.bind λb=>some (decide (a<b))) bJ:=oT (λx x x=>rfl) ha hb
theorem ev_gt (ha:EV Γ ta ox rInt) (hb:EV Γ tb oy rInt):EV Γ (tOp (rI0 λi j=>.bl (decide (j<i))) ta tb) (ox.bind λa=>oy.bind λb=>some (decide (b<a))) bJ:=oT (λx x x=>rfl) ha hb
theorem ev_ge (ha:EV Γ ta ox rInt) (hb:EV Γ tb oy rInt):EV Γ (tOp (rI0 λi j=>.bl (decide (j<=i))) ta tb) (ox.bind λa=>oy.bind λb=>some (decide (b<=a))) bJ:=oT (λx x x=>rfl) ha hb
set_option tactic.hygienic true in
theorem fq (ha:EV Γ ta ox rInt) (hb:EV Γ tb oy rInt):EV Γ (tOp (rI CMul λi j=>.int (i * j)) ta tb) (ox.bind λa=>oy.bind λb=>Pu.mul a b) rInt:=ev_i (λx i j c e=>by
 unfold Pu.mul at e
 split at e
 ·rename_i h; cases e; exact ⟨h,rfl⟩
 ·cases e) ha hb
set_option tactic.hygienic true in
theorem eG (ha:EV Γ ta ox rInt) (hb:EV Γ tb oy rInt):EV Γ (tOp (rI (λx j=>0<j) λi j=>.int (i % j)) ta tb) (ox.bind λa=>oy.bind λb=>Pu.fmod a b) rInt:=ev_i (λx i j c e=>by
 unfold Pu.fmod at e
 split at e
 ·rename_i h; cases e; exact ⟨h,rfl⟩
 ·cases e) ha hb
set_option tactic.hygienic true in
theorem fQ (ha:EV Γ ta ox rInt) (hb:EV Γ tb oy rInt):EV Γ (tOp (rI (λx j=>0<j/\j<2 ^ 64) λi j=>.int (i / j)) ta tb) (ox.bind λa=>oy.bind λb=>Pu.fdiv a b) rInt:=ev_i (λx i j c e=>by
 unfold Pu.fdiv at e
 split at e
 ·rename_i h; cases e; exact ⟨h,rfl⟩
 ·cases e) ha hb
set_option tactic.hygienic true in
theorem ev_pow (ha:EV Γ ta ox rInt) (hb:EV Γ tb oy rInt):EV Γ (tOp (rI CPow λi j=>.int (i ^ j.toNat)) ta tb) (ox.bind λa=>oy.bind λb=>Pu.pow a b) rInt:=ev_i (λx i j c e=>by
 unfold Pu.pow at e
 split at e
 ·rename_i h; cases e; exact ⟨h,rfl⟩
 ·cases e) ha hb
theorem n6 (ha:EV Γ ta ox rInt):EV Γ (tUn (rU λi=>.int (-i)) ta) (ox.bind λa=>some (-a)) rInt:=by
 intro C F σ H Q c S e k
 refine oq12 (a9 e) λa e1 e=>?_
 cases e
 exact ha C F σ H _ a S e1 λv F' H' x1 r1=>⟨a,r1,k _ F' H' x1 rfl⟩
end
theorem cm {f:α->β->Bool} (hf:∀ H x y a b,r.rel H x a->s.rel H y b->scal x y=true/\decide (x=y)=f a b) (ha:EV Γ ta oa r) (hb:EV Γ tb ob s):EV Γ (tOp rEq ta tb) (oa.bind λa=>ob.bind λb=>some (f a b)) bJ :=
 iG (λF H x y a b c Q h r1 r2 e k=>by cases e; refine oq02 (hf F x y a b r1 r2) λh1 h2=>?_; exact ⟨h1,by rw [h2]; exact k _ rfl⟩) ha hb
theorem kP {f:α->β->Bool} (hf:∀ H x y a b,r.rel H x a->s.rel H y b->scal x y=true/\decide (x=y)=f a b) (ha:EV Γ ta oa r) (hb:EV Γ tb ob s):EV Γ (tOp rNe ta tb) (oa.bind λa=>ob.bind λb=>some (!f a b)) bJ :=
 iG (λF H x y a b c Q h r1 r2 e k=>by cases e; refine oq02 (hf F x y a b r1 r2) λh1 h2=>?_; exact ⟨h1,by rw [h2]; exact k _ rfl⟩) ha hb
theorem dC (H:Hp) (x y:V) (a b:Int) (h1:rInt.rel H x a) (h2:rInt.rel H y b):scal x y=true/\decide (x=y)=decide (a=b):=by
 cases h1; cases h2; exact ⟨rfl,by rw [X1]; simp⟩
theorem sc_oi (H:Hp) (x y:V) (a:Option Int) (b:Int) (h1:(rOp rInt).rel H x a) (h2:rInt.rel H y b):scal x y=true/\decide (x=y)=decide (a=some b):=by
 cases h2
 cases a with
 | none=>cases h1; exact ⟨rfl,by rw [X1]; simp⟩
 | some i=>cases h1; exact ⟨rfl,by rw [X1]; simp⟩
theorem sc_oo (H:Hp) (x y:V) (a b:Option Int) (h1:(rOp rInt).rel H x a) (h2:(rOp rInt).rel H y b):scal x y=true/\decide (x=y)=decide (a=b):=by
 cases a with
 | none =>
  cases h1
  cases b with
  | none=>cases h2; exact ⟨rfl,by rw [X1]; simp⟩
  | some i=>cases h2; exact ⟨rfl,by rw [X1]; simp⟩
 | some j =>
  cases h1
  cases b with
  | none=>cases h2; exact ⟨rfl,by rw [X1]; simp⟩
  | some i=>cases h2; exact ⟨rfl,by rw [X1]; simp⟩
theorem qQ {o:Option (Option α)} (ha:EV Γ ta o (rOp r)) (hr:∀ F a,¬ r.rel F .non a):EV Γ (tOp (λx y H Q=>y=.non/\Q (.bl (decide (x=.non))) H) ta (tC .non)) (o.bind λa=>some a.isNone) bJ:=by
 intro C F σ H Q c S e k
 refine oq12 (a9 e) λa e1 e=>?_
 cases e
 refine ha C F σ H _ a S e1 λv F' H' x1 r1=>⟨rfl,?_⟩
 have:decide (v=.non)=a.isNone:=by
  cases a with
  | none=>cases r1; rfl
  | some x=>exact decide_eq_false λz=>hr F' x (by subst z; exact r1)
 rw [this]; exact k _ F' H' x1 rfl
theorem n8 {o:Option (Option α)} (ha:EV Γ ta o (rOp r)) (hr:∀ F a,¬ r.rel F .non a):EV Γ (tOp (λx y H Q=>y=.non/\Q (.bl (!decide (x=.non))) H) ta (tC .non)) (o.bind λa=>some a.isSome) bJ:=by
 intro C F σ H Q c S e k
 refine oq12 (a9 e) λa e1 e=>?_
 cases e
 refine ha C F σ H _ a S e1 λv F' H' x1 r1=>⟨rfl,?_⟩
 have:(!decide (v=.non))=a.isSome:=by
  cases a with
  | none=>cases r1; rfl
  | some x=>show (!decide (v=.non))=true; rw [decide_eq_false λz=>hr F' x (by subst z; exact r1)]; rfl
 rw [this]; exact k _ F' H' x1 rfl
theorem jj (F:Hp) (a:Int):¬ rInt.rel F .non a:=λh=>nomatch h
theorem ev_chain {g g':Int->Int->Bool} {ox oy oz:Option Int} (ha:EV Γ ta ox rInt) (hb:EV Γ tb oy rInt) (hc:EV Γ tc oz rInt) :
  EV Γ (mO (rI0 λi j=>.bl (g i j)) (rI0 λi j=>.bl (g' i j)) ta tb tc) (ox.bind λa=>oy.bind λb=>if g a b=true then oz.bind λc=>some (g' b c) else some false) bJ:=by
 intro C F σ H Q d S e k
 refine oq12 (a9 e) λa e1 e=>?_
 refine oq12 (a9 e) λb e2 e=>?_
 refine EV.two ha hb S e1 e2 λx y F' H' x1 r1 r2=>⟨a,b,r1,r2,g a b,rfl,?_⟩
 by_cases h:g a b=true
 ·rw [if_pos h] at e ⊢
  refine oq12 (a9 e) λc e3 e=>?_
  cases e
  exact hc C F' σ H' _ c (S.grow x1) e3 λz F2 H2 x2 r3=>⟨b,c,r2,r3,k _ F2 H2 (x1.trans x2) rfl⟩
 ·rw [if_neg h] at e ⊢
  cases e
  exact k _ F' H' x1 rfl
section
variable {t u:TT} {o o':Option Bool}
theorem bf (h:EV Γ ta o bJ):ET Γ (tTest ta) o:=λC F σ H Q b S e k=>h C F σ H _ b S e λv F' H' x1 r1=>(oi12 b r1 (k F' H' x1))
theorem et_b (h:EV Γ ta o bJ):ET Γ (tB ta) o:=λC F σ H Q b S e k=>h C F σ H _ b S e λv F' H' x1 r1=>(oi12 b r1 (k F' H' x1))
theorem ng (h:ET Γ t o) (h':ET Γ u o'):ET Γ (tAnd t u) (o.bind λb=>if b=true then o' else some false):=by
 intro C F σ H Q d S e k
 refine oq12 (a9 e) λa e1 e=>?_
 refine h C F σ H _ a S e1 λF' H' x1=>?_
 cases a with
 | true=>exact h' C F' σ H' _ d (S.grow x1) e λF2 H2 x2=>k F2 H2 (x1.trans x2)
 | false=>cases e; exact k F' H' x1
theorem et_or (h:ET Γ t o) (h':ET Γ u o'):ET Γ (tOr t u) (o.bind λb=>if b=true then some true else o'):=by
 intro C F σ H Q d S e k
 refine oq12 (a9 e) λa e1 e=>?_
 refine h C F σ H _ a S e1 λF' H' x1=>?_
 cases a with
 | true=>cases e; exact k F' H' x1
 | false=>exact h' C F' σ H' _ d (S.grow x1) e λF2 H2 x2=>k F2 H2 (x1.trans x2)
theorem et_not (h:ET Γ t o):ET Γ (tNot t) (o.bind λb=>some (!b)):=by
 intro C F σ H Q d S e k
 refine oq12 (a9 e) λa e1 e=>?_
 cases e
 exact h C F σ H _ a S e1 λF' H' x1=>k F' H' x1
theorem et_true:ET Γ tTrue (some true):=λC F σ H Q b S e k=>by cases e; exact k F H (Ext.refl S.sub)
theorem ni {rl:Rp (List α)} {ol:Option (List α)} (sq:Sq K rl r) (h:EV Γ ta ol rl):ET Γ (tTru K ta) (ol.bind λxs=>some (!xs.isEmpty)):=by
 intro C F σ H Q d S e k
 refine oq12 (a9 e) λa e1 e=>?_
 cases e
 refine h C F σ H _ a S e1 λv F' H' x1 hv=>?_
 refine oq23 (sq.get hv) λp vs e2 h2 h3=>?_
 refine (oi12 (!vs.isEmpty) ?_ ?_)
 ·subst e2; exact .inl (oi12 vs (x1.sub.seq h2) rfl)
 ·have:(!vs.isEmpty)=!a.isEmpty:=by cases h3 <;> rfl
  rw [this]; exact k F' H' x1
theorem ev_and (h:EV Γ ta o bJ) (h':EV Γ tb o' bJ):EV Γ (tAndV ta tb) (o.bind λb=>if b=true then o' else some false) bJ:=by
 intro C F σ H Q d S e k
 refine oq12 (a9 e) λa e1 e=>?_
 refine h C F σ H _ a S e1 λv F' H' x1 r1=>(oi12 a r1 ?_)
 cases a with
 | true=>exact h' C F' σ H' _ d (S.grow x1) e λw F2 H2 x2 r2=>k w F2 H2 (x1.trans x2) r2
 | false=>cases e; exact k _ F' H' x1 rfl
theorem ev_ifx {oa':Option α} (ht:ET Γ t o) (ha:EV Γ ta oa r) (hb:EV Γ tb oa' r):EV Γ (tIf t ta tb) (o.bind λb=>if b=true then oa else oa') r:=by
 intro C F σ H Q d S e k
 refine oq12 (a9 e) λa e1 e=>?_
 refine ht C F σ H _ a S e1 λF' H' x1=>?_
 cases a with
 | true=>exact ha C F' σ H' _ d (S.grow x1) e λw F2 H2 x2 r2=>k w F2 H2 (x1.trans x2) r2
 | false=>exact hb C F' σ H' _ d (S.grow x1) e λw F2 H2 x2 r2=>k w F2 H2 (x1.trans x2) r2
end
end
end
section
open PySem PySem.Spec PyProof.Rows
variable [Kn:Kon]
theorem qR {α:Type} {r:V->α->Prop} {vs:List V} {xs:List α} {i:Int} {a:α} (p:Paired r vs xs) (h:atI xs i=some a):∃ v,atI vs i=some v/\r v a:=by
 unfold atI at h ⊢
 rw [p.length]
 refine oq12 (a9 h) λj e1 e2=>?_
 refine oq12 (eE p e2) λv h1 h2=>?_
 exact (oi12 v (by rw [e1]; exact h1) h2)
theorem qS {α:Type} {r:V->α->Prop} {vs:List V} {xs:List α} {lo hi:Option Int} (p:Paired r vs xs):Paired r (cutV vs lo hi) (Pu.cut xs lo hi):=by
 unfold cutV Pu.cut
 rw [p.length]
 exact Paired.takeB _ (Paired.dropB _ p)
theorem eW {α:Type} {r:Rp α} {F:Hp} {k:Int}:∀ {ws:List (Key × V)} {kvs:List (Int × α)},Paired (dRel r F) ws kvs->(∀ a,Pu.find kvs k=some a->∃ v,valV ws (.inl k)=some v/\r.rel F v a)/\(Pu.find kvs k=none->valV ws (.inl k)=none):=λp=>by
 induction p with
 | nil=>exact ⟨λa h=>(nomatch h),λx=>rfl⟩
 | @cons w kv ws kvs h t ih =>
  refine oq02 h λe1 e2=>?_
  by_cases q:kv.1=k
  ·have e3:w.1=O4 k:=by rw [e1,q]
   have ef:Pu.find (kv :: kvs) k=some kv.2:=by unfold Pu.find; rw [List.find?_cons_of_pos (by simpa using q)]; rfl
   rw [ef,iA e3]
   exact ⟨λa h=>by cases h; exact (oi12 _ rfl e2),λh=>(nomatch h)⟩
  ·have e3:¬ w.1=O4 k:=by rw [e1]; intro z; exact q (O4.inj z)
   have ef:Pu.find (kv :: kvs) k=Pu.find kvs k:=by unfold Pu.find; rw [List.find?_cons_of_neg (by simpa using q)]
   rw [ef,iB e3]
   exact ih
theorem Paired.mapB {α β α' β':Type} {F:α->β->Prop} {G:α'->β'->Prop} {f:α->α'} {g:β->β'} (h:∀ a b,F a b->G (f a) (g b)):∀ {l:List α} {m:List β},Paired F l m->Paired G (l.map f) (m.map g):=λp=>by
 induction p with
 | nil=>exact .nil
 | cons r _ ih=>exact .cons (h _ _ r) ih
theorem qT {α:Type} {r:Rp α} {F:Hp} {k:Int}:∀ {ws:List (Key × V)} {kvs:List (Int × α)},Paired (dRel r F) ws kvs->(ws.any λkv=>decide (kv.1=O4 k))=kvs.any λkv=>decide (kv.1=k):=λp=>by
 induction p with
 | nil=>rfl
 | cons h _ ih =>
  rw [M6,M6,ih,h.1]
  congr 1
  rw [X1]; simp
theorem qU {α:Type} {r:Rp α} {F:Hp} {k:Int} {v:V} {a:α} (hv:r.rel F v a) {ws:List (Key × V)} {kvs:List (Int × α)} (p:Paired (dRel r F) ws kvs):Paired (dRel r F) (putK ws (.inl k) v) (Pu.put kvs k a):=by
 unfold putK Pu.put
 rw [qT p]
 split
 ·refine Paired.mapB (λw kv h=>?_) p
  by_cases q:kv.1=k
  ·rw [if_pos q,if_pos (by rw [h.1,q])]; exact ⟨h.1,hv⟩
  ·rw [if_neg q,if_neg (by rw [h.1]; intro z; exact q (O4.inj z))]; exact h
 ·exact Paired.app p (.cons ⟨rfl,hv⟩ .nil)
section
variable {X:Cx}
noncomputable def rCatS:R2:=λx y H Q=>∃ l b xs zs,x=.ref l/\y=.ref b/\Rd H l (.lst xs)/\Rd H b (.lst zs)/\xs.length+zs.length<=X7/\∀ p,H p=none->Q (.ref p) (upd H p (.lst (xs++zs)))
theorem op_catS:OpR X (G9 .Add) rCatS:=by
 intro pins s σ H x y v u Q I rx ry h
 refine oq46 h λl b xs zs eq4_ eq5_ hH hB hz q=>?_; subst eq4_; subst eq5_
 cases rx
 cases ry
 refine oq02 ((show bS X.prog X.w H s.heap l (.lst xs) from hH.ok I.hok)) λz zz=>oq22 zz λits n r e=>?_
 refine oq02 ((show bS X.prog X.w H s.heap b (.lst zs) from hB.ok I.hok)) λz2 zz=>oq22 zz λits2 n2 r2 e2=>?_
 have hl:=r.length
 have hl2:=r2.length
 refine PySem.P.add_list e e2 ?_ (by rw [Y1,Y1]; lia)
 have ea:its.toArray++its2.toArray=(its++its2).toArray:=by simp
 rw [ea]
 exact ⟨.ref _,_,I.lnew (t':=s.toks) (r.append r2) (by rw [W5]; lia),rfl,q _ I.fresh⟩
end
section
variable (Γ:List Slot) {α τ:Type}
def EVs (n:Nat) (t:TA) (o:Option (List α)) (r:Rp α):Prop:=∀ C F σ H Q xs,SR C F Γ σ H->o=some xs->(∀ vs F' H',Ext F H F' H'->vs.length=n->Paired (r.rel F') vs xs->Q vs H')->t σ H Q
structure RpA (τ:Type) where
 rel:Hp->List V->τ->Prop
 mono:∀ {H H':Hp} {vs:List V} {a:τ},Same H H'->rel H vs a->rel H' vs a
 slots:τ->List Slot
 ok:∀ {F:Hp} {vs:List V} {a:τ},rel F vs a->vs.length=(slots a).length/\∀ (i:Nat) s,(slots a)[i]?=some s->s.own=false/\∃ v,vs[i]?=some v/\∀ H0 H,SlOk H0 F H s (some v)
noncomputable def aOne {α:Type} (r:Rp α):RpA α:=⟨λH vs a=>∃ v,vs=[v]/\r.rel H v a,λe zq=>oq12 zq λv h1 h2=>(oi12 v h1 (r.mono e h2)),λa=>[.fr r a],λ{F vs a} zq=>oq12 zq λv h1 h2=>by
 subst h1
 refine ⟨rfl,λi s h=>?_⟩
 match i,h with
 | 0,h=>cases h; exact ⟨rfl,v,rfl,λx x=>⟨v,rfl,h2⟩⟩
 | i+1,h=>simp at h⟩
noncomputable def aw {α τ:Type} (r:Rp α) (ra:RpA τ):RpA (α × τ):=⟨λH vs a=>∃ v ws,vs=v :: ws/\r.rel H v a.1/\ra.rel H ws a.2,λe zq=>oq23 zq λv ws h1 h2 h3=>(oi23 v ws h1 (r.mono e h2) (ra.mono e h3)),λa=>.fr r a.1 :: ra.slots a.2,λ{F vs a} zq=>oq23 zq λv ws h1 h2 h3=>by
 subst h1
 refine oq02 (ra.ok h3) λl g=>?_
 refine ⟨by simp [l],λi s h=>?_⟩
 match i,h with
 | 0,h=>cases h; exact ⟨rfl,v,rfl,λx x=>⟨v,rfl,h2⟩⟩
 | i+1,h=>exact g i s (by simpa using h)⟩
def EA (t:TA) (o:Option τ) (ra:RpA τ):Prop:=∀ C F σ H Q a,SR C F Γ σ H->o=some a->(∀ vs F' H',Ext F H F' H'->ra.rel F' vs a->Q vs H')->t σ H Q
def spV {γ:Type} (ra:RpA τ) (r:Rp γ) (f:τ->Option γ):Sp:=λvs H Q x=>∃ F a c,Same F H/\NT F/\TbG H/\ra.rel F vs a/\f a=some c/\∀ v F' H',Ext F H F' H'->r.rel F' v c->Q v H'
def spL {γ:Type} (ra:RpA τ) (r:Rp γ) (f:τ->Option (List γ)):Sp:=λvs H Q x=>∃ F a xs,Same F H/\NT F/\TbG H/\ra.rel F vs a/\f a=some xs/\∀ p vs F' H1,Ext F H F' H1->H1 p=none->Paired (r.rel F') vs xs->Q (.ref p) (upd H1 p (.lst vs))
def spD {γ:Type} (ra:RpA τ) (r:Rp γ) (f:τ->Option (List (Int × γ))):Sp:=λvs H Q x=>∃ F a xs,Same F H/\NT F/\TbG H/\ra.rel F vs a/\f a=some xs/\∀ p vs F' H1,Ext F H F' H1->H1 p=none->Paired (dRel r F') vs xs->Q (.ref p) (upd H1 p (.dK vs))
end
section
variable {Γ:List Slot} {α β γ τ:Type} {r:Rp α} {s:Rp β} {q:Rp γ} {ta tb tc:TE} {oa:Option α} {ob:Option β} {oc:Option γ} {K:Z0} {t:TA} {ra:RpA τ} {oτ:Option τ} {oi:Option Int}
theorem ao (h:EV Γ ta oa r):EA Γ (bg ta tNil) oa (aOne r):=λC F σ H Q a S e k=>h C F σ H _ a S e λv F' H' x1 r1=>k _ F' H' x1 ⟨v,rfl,r1⟩
theorem aj (h:EV Γ ta oa r) (h':EA Γ t oτ ra):EA Γ (bg ta t) (oa.bind λa=>oτ.bind λb=>some (a,b)) (aw r ra):=by
 intro C F σ H Q c S e k
 refine oq12 (a9 e) λa e1 e=>?_
 refine oq12 (a9 e) λb e2 e=>?_
 cases e
 exact h C F σ H _ a S e1 λv F' H' x1 r1=>h' C F' σ H' _ b (S.grow x1) e2 λvs F2 H2 x2 r2=>k _ F2 H2 (x1.trans x2) ⟨v,vs,rfl,r.mono x2.ff r1,r2⟩
theorem aA {f:τ->Option γ} (h:EA Γ t oτ ra):EV Γ (lY (spV ra q f) [] E0 t) (oτ.bind f) q:=by
 intro C F σ H Q c S e k
 refine oq12 (a9 e) λa e1 e=>?_
 exact h C F σ H _ a S e1 λvs F' H' x1 r1=>⟨F',a,c,x1.sub,x1.nt S.nt,x1.hh.tg S.tg,by rw [T2]; exact r1,e,λv F2 H2 x2 r2=>k v F2 H2 (x1.trans x2) r2⟩
theorem aC {f:τ->Option (List γ)} (h:EA Γ t oτ ra):EVL Γ (lY (spL ra q f) [] E0 t) (oτ.bind f) q:=by
 intro C F σ H Q c S e k
 refine oq12 (a9 e) λa e1 e=>?_
 exact h C F σ H _ a S e1 λvs F' H' x1 r1=>⟨F',a,c,x1.sub,x1.nt S.nt,x1.hh.tg S.tg,by rw [T2]; exact r1,e,λp ws F2 H2 x2 hp r2=>k p ws F2 H2 (x1.trans x2) hp r2⟩
theorem oU {f:τ->Option (List (Int × γ))} (h:EA Γ t oτ ra):EVD Γ (lY (spD ra q f) [] E0 t) (oτ.bind f) q:=by
 intro C F σ H Q c S e k
 refine oq12 (a9 e) λa e1 e=>?_
 exact h C F σ H _ a S e1 λvs F' H' x1 r1=>⟨F',a,c,x1.sub,x1.nt S.nt,x1.hh.tg S.tg,by rw [T2]; exact r1,e,λp ws F2 H2 x2 hp r2=>k p ws F2 H2 (x1.trans x2) hp r2⟩
theorem EVL.ev {o:Option (List α)} (h:EVL Γ ta o r):EV Γ ta o (rL r):=λC F σ H Q xs S e k=>h C F σ H Q xs S e λp vs F' H1 x1 hp r1 =>
 k _ _ _ (x1.trans (Ext.new x1.sub hp)) ⟨p,vs,rfl,Rd.of ai,Paired.imp2 (λx x z=>r.mono (aF (x1.sub.free hp)) z) r1⟩
theorem EVD.ev {o:Option (List (Int × α))} (h:EVD Γ ta o r):EV Γ ta o (rD r):=λC F σ H Q xs S e k=>h C F σ H Q xs S e λp vs F' H1 x1 hp r1 =>
 k _ _ _ (x1.trans (Ext.new x1.sub hp)) ⟨p,vs,rfl,ai,Paired.imp2 (λx x z=>⟨z.1,r.mono (aF (x1.sub.free hp)) z.2⟩) r1⟩
theorem ev_tup1 (ha:EV Γ ta oa r):EV Γ (tTup (bg ta tNil)) oa (rT1 r):=by
 intro C F σ H Q a S e1 k
 exact ha C F σ H _ a S e1 λx F' H' x1 r1=>⟨by show 1<=X7; decide,λp hp=>k _ _ _ (x1.trans (Ext.new x1.sub hp)) ⟨p,x,rfl,ai,r.mono (aF (x1.sub.free hp)) r1⟩⟩
theorem cG (ha:EV Γ ta oa r) (hb:EV Γ tb ob s):EV Γ (tTup (bg ta (bg tb tNil))) (oa.bind λa=>ob.bind λb=>some (a,b)) (rT2 r s):=by
 intro C F σ H Q c S e k
 refine oq12 (a9 e) λa e1 e=>?_
 refine oq12 (a9 e) λb e2 e=>?_
 cases e
 exact EV.two (q:=λx y H2=>[x,y].length<=X7/\∀ p,H2 p=none->Q (.ref p) (upd H2 p (.tup [x,y]))) ha hb S e1 e2 λx y F' H' x1 r1 r2=>⟨by show 2<=X7; decide,λp hp=>k _ _ _ (x1.trans (Ext.new x1.sub hp)) ⟨p,x,y,rfl,ai,r.mono (aF (x1.sub.free hp)) r1,s.mono (aF (x1.sub.free hp)) r2⟩⟩
theorem ev_tup3 (ha:EV Γ ta oa r) (hb:EV Γ tb ob s) (hc:EV Γ tc oc q):EV Γ (tTup (bg ta (bg tb (bg tc tNil)))) (oa.bind λa=>ob.bind λb=>oc.bind λc=>some (a,b,c)) (rT3 r s q):=by
 intro C F σ H Q c S e k
 refine oq12 (a9 e) λa e1 e=>?_
 refine oq12 (a9 e) λb e2 e=>?_
 refine oq12 (a9 e) λc e3 e=>?_
 cases e
 refine EV.two (q:=λx y H2=>tc σ H2 λz H3=>[x,y,z].length<=X7/\∀ p,H3 p=none->Q (.ref p) (upd H3 p (.tup [x,y,z]))) ha hb S e1 e2 λx y F' H' x1 r1 r2=>?_
 refine hc C F' σ H' _ c (S.grow x1) e3 λz F2 H2 x2 r3=>⟨by show 3<=X7; decide,λp hp=>?_⟩
 have e:=aF (o:=.tup [x,y,z]) (x2.sub.free hp)
 exact k _ _ _ ((x1.trans x2).trans (Ext.new x2.sub hp)) ⟨p,x,y,z,rfl,ai,r.mono (x2.ff.trans e) r1,s.mono (x2.ff.trans e) r2,q.mono e r3⟩
theorem qV {n:Int} {T:Type} {u:Rp T} {o:Option T} (get:T->γ) (h:EV Γ ta o u) (hg:∀ F H v a Q,Same F H->u.rel F v a->(∀ w,q.rel F w (get a)->Q w H)->rIxT K v (.int n) H Q):EV Γ (tOp (rIxT K) ta (tC (.int n))) (o.bind λp=>some (get p)) q:=by
 intro C F σ H Q c S e k
 refine oq12 (a9 e) λa e1 e=>?_
 cases e
 exact h C F σ H _ a S e1 λv F' H' x1 r1=>hg F' H' v a _ x1.sub r1 λw rw=>k w F' H' x1 rw
theorem jX {o:Option (α × β)} (h:EV Γ ta o (rT2 r s)):EV Γ (tOp (rIxT K) ta (tC (.int 0))) (o.bind λp=>some p.1) r:=qV (·.1) h λF H v a Q sb zq k=>oq34 zq λp x y e h1 h2 h3=>⟨p,_,_,x,e,rfl,SqT.of (sb _ _ h1),rfl,k x h2⟩
theorem dX {o:Option (α × β)} (h:EV Γ ta o (rT2 r s)):EV Γ (tOp (rIxT K) ta (tC (.int 1))) (o.bind λp=>some p.2) s:=qV (·.2) h λF H v a Q sb zq k=>oq34 zq λp x y e h1 h2 h3=>⟨p,_,_,y,e,rfl,SqT.of (sb _ _ h1),rfl,k y h3⟩
theorem ev_t3_0 {o:Option (α × β × γ)} (h:EV Γ ta o (rT3 r s q)):EV Γ (tOp (rIxT K) ta (tC (.int 0))) (o.bind λp=>some p.1) r:=qV (·.1) h λF H v a Q sb zq k=>oq45 zq λp x y z e h1 h2 h3 h4=>⟨p,_,_,x,e,rfl,SqT.of (sb _ _ h1),rfl,k x h2⟩
theorem bt:EVs Γ 0 tNil (some []) r:=λC F σ H Q xs S e k=>by cases e; exact k [] F H (Ext.refl S.sub) rfl .nil
theorem bA {n:Nat} {o:Option (List α)} (h:EV Γ ta oa r) (h':EVs Γ n t o r):EVs Γ (n+1) (bg ta t) (oa.bind λa=>o.bind λb=>some (a :: b)) r:=by
 intro C F σ H Q c S e k
 refine oq12 (a9 e) λa e1 e=>?_
 refine oq12 (a9 e) λb e2 e=>?_
 cases e
 exact h C F σ H _ a S e1 λv F' H' x1 r1=>h' C F' σ H' _ b (S.grow x1) e2 λvs F2 H2 x2 l r2=>k _ F2 H2 (x1.trans x2) (by simp [l]) (.cons (r.mono x2.ff r1) r2)
theorem bu {n:Nat} {o:Option (List α)} (h:EVs Γ n t o r) (hn:autoParam (n<=16777216) L2.a0q._auto_1):EVL Γ (tLst t) o r:=λC F σ H Q xs S e k=>h C F σ H _ xs S e λvs F' H' x1 l r1=>⟨by rw [l,X9]; exact hn,λp hp=>k p vs F' H' x1 hp r1⟩
theorem aE {rl:Rp (List α)} {o:Option (List α)} (sq:Sq K rl r) (h:EV Γ ta o rl) (hi:EV Γ tb oi rInt):EV Γ (tOp (rIxL K) ta tb) (o.bind λxs=>oi.bind λi=>Pu.at_ xs i) r :=
 iG (r:=rl) (s:=rInt) (λF H x y a b c Q sb hx r2 e3 k=>by
  refine oq23 (sq.get hx) λp vs e h1 h2=>?_
  refine oq12 (qR h2 e3) λv h3 h4=>?_
  exact ⟨p,vs,b,v,e,r2,sb.seq h1,h3,k v h4⟩) h hi
theorem ev_ixD {o:Option (List (Int × α))} (h:EV Γ ta o (rD r)) (hi:EV Γ tb oi rInt):EV Γ (tDGet ta tb) (o.bind λxs=>oi.bind λi=>Pu.find xs i) r:=by
 intro C F σ H Q c S e k
 refine oq12 (a9 e) λa e1 e=>?_
 refine oq12 (a9 e) λb e2 e=>?_
 refine EV.two (q:=λx y H2=>∃ a v,x=.ref a/\DGet H2 a y (some v)/\Q v H2) h hi S e1 e2 λx y F' H' x1 zq r2=>oq23 zq λp ws e3 h1 h2=>?_
 refine oq12 ((eW (k:=b) h2).1 c e) λv h3 h4=>?_
 exact (oi23 p v e3 (.inl (oi23 ws (.inl b) (.inl (x1.sub _ _ h1)) r2 h3.symm)) (k v F' H' x1 h4))
theorem ev_notinD {o:Option (List (Int × α))} (hi:EV Γ tb oi rInt) (h:EV Γ ta o (rD r)):EV Γ (tDNotIn tb ta) (oi.bind λi=>o.bind λxs=>some (!(Pu.find xs i).isSome)) bJ:=by
 intro C F σ H Q c S e k
 refine oq12 (a9 e) λb e2 e=>?_
 refine oq12 (a9 e) λa e1 e=>?_
 cases e
 refine EV.two (q:=λy x H2=>∃ a o,x=.ref a/\DGet H2 a y o/\Q (.bl (!o.isSome)) H2) hi h S e2 e1 λy x F' H' x1 r2 zq=>oq23 zq λp ws e3 h1 h2=>?_
 refine (oi23 p (valV ws (.inl b)) e3 (.inl (oi23 ws (.inl b) (.inl (x1.sub _ _ h1)) r2 rfl)) ?_)
 have:(valV ws (.inl b)).isSome=(Pu.find a b).isSome:=by
  refine oq02 (eW (k:=b) h2) λg1 g2=>?_
  cases q:Pu.find a b with
  | none=>rw [g2 q]; rfl
  | some z=>refine oq12 (g1 z q) λv h3 s=>?_; rw [h3]; rfl
 rw [this]; exact k _ F' H' x1 rfl
set_option tactic.hygienic true in
theorem evl_cat {o o':Option (List α)} (h:EV Γ ta o (rL r)) (h':EV Γ tb o' (rL r)):EVL Γ (tOp rCatS ta tb) (o.bind λxs=>o'.bind λys=>Pu.cat xs ys) r:=by
 intro C F σ H Q c S e k
 refine oq12 (a9 e) λa e1 e=>?_
 refine oq12 (a9 e) λb e2 e=>?_
 unfold Pu.cat at e
 split at e
 ·rename_i hl
  cases e
  exact EV.two (q:=λx y H2=>rCatS x y H2 Q) h h' S e1 e2 λx y F' H' x1 zq zp=>oq23 zq λp vs e3 h1 h2=>oq23 zp λp' vs' e4 h3 h4=>⟨p,p',vs,vs',e3,e4,x1.sub.rd h1,x1.sub.rd h3,by rw [h2.length,h4.length,X9]; exact hl,λp hp=>k p _ F' H' x1 hp (Paired.app h2 h4)⟩
 ·cases e
theorem eo_none:EO Γ tNoPart (some none):=λC F σ H Q a S e k=>by cases e; exact k F H (Ext.refl S.sub)
theorem dY (h:EV Γ ta oi rInt):EO Γ (tPart ta) (oi.bind λi=>some (some i)):=by
 intro C F σ H Q c S e k
 refine oq12 (a9 e) λa e1 e=>?_
 cases e
 exact h C F σ H _ a S e1 λv F' H' x1 r1=>(oi12 a r1 (k F' H' x1))
theorem iH {rl:Rp (List α)} {o:Option (List α)} {tl th:TO} {ol oh:Option (Option Int)} (sq:Sq K rl r) (h:EV Γ ta o rl) (h1:EO Γ tl ol) (h2:EO Γ th oh):EVL Γ (tSl (rSlL K) ta tl th) (o.bind λxs=>ol.bind λlo=>oh.bind λhi=>some (Pu.cut xs lo hi)) r:=by
 intro C F σ H Q c S e k
 refine oq12 (a9 e) λa e1 e=>?_
 refine oq12 (a9 e) λlo e2 e=>?_
 refine oq12 (a9 e) λhi e3 e=>?_
 cases e
 refine h C F σ H _ a S e1 λx F1 H1 x1 hx=>?_
 refine oq23 (sq.get hx) λp vs e4 z1 z2=>?_
 exact h1 C F1 σ H1 _ lo (S.grow x1) e2 λF2 H2 x2=>h2 C F2 σ H2 _ hi ((S.grow x1).grow x2) e3 λF3 H3 x3 =>
  ⟨p,vs,e4,x3.sub.seq (x3.ff.seq (x2.ff.seq z1)),λp hp=>k p _ F3 H3 ((x1.trans x2).trans x3) hp (qS (Paired.imp2 (λx x z=>r.mono (x2.ff.trans x3.ff) z) z2))⟩
theorem cf {rl:Rp (List α)} {o:Option (List α)} (sq:Sq K rl r) (h:EV Γ ta o rl):EV Γ (tCB (rLen K) (bg ta tNil)) (o.bind λxs=>some (Pu.ln xs)) rInt:=by
 intro C F σ H Q c S e k
 refine oq12 (a9 e) λa e1 e=>?_
 cases e
 refine h C F σ H _ a S e1 λv F' H' x1 hv=>?_
 refine oq23 (sq.get hv) λp vs e2 h1 h2=>?_
 exact ⟨p,vs,by rw [e2],.inl (x1.sub.seq h1),k _ F' H' x1 (by rw [h2.length]; rfl)⟩
theorem nk (h:EV Γ ta oi rInt):EV Γ (tCB (λxs H Q=>∃ i,xs=[.int i]/\Q (.int (if i<0 then -i else i)) H) (bg ta tNil)) (oi.bind λi=>some (Pu.ab i)) rInt:=by
 intro C F σ H Q c S e k
 refine oq12 (a9 e) λa e1 e=>?_
 cases e
 exact h C F σ H _ a S e1 λv F' H' x1 r1=>⟨a,by rw [r1],k _ F' H' x1 rfl⟩
theorem gR {oj:Option Int} (h:EV Γ ta oi rInt) (h':EV Γ tb oj rInt):EV Γ (tCB (λxs H Q=>∃ i j,xs=[.int i,.int j]/\Q (.int (if j<i then j else i)) H) (bg ta (bg tb tNil))) (oi.bind λi=>oj.bind λj=>some (Pu.mn i j)) rInt:=by
 intro C F σ H Q c S e k
 refine oq12 (a9 e) λa e1 e=>?_
 refine oq12 (a9 e) λb e2 e=>?_
 cases e
 exact EV.two (q:=λx y H2=>∃ i j,[x,y]=[.int i,.int j]/\Q (.int (if j<i then j else i)) H2) h h' S e1 e2 λx y F' H' x1 r1 r2=>(oi22 a b (by rw [r1,r2]) (k _ F' H' x1 rfl))
theorem gT {oj:Option Int} (h:EV Γ ta oi rInt) (h':EV Γ tb oj rInt):EV Γ (tCB (λxs H Q=>∃ i j,xs=[.int i,.int j]/\Q (.int (if j > i then j else i)) H) (bg ta (bg tb tNil))) (oi.bind λi=>oj.bind λj=>some (Pu.mx i j)) rInt:=by
 intro C F σ H Q c S e k
 refine oq12 (a9 e) λa e1 e=>?_
 refine oq12 (a9 e) λb e2 e=>?_
 cases e
 exact EV.two (q:=λx y H2=>∃ i j,[x,y]=[.int i,.int j]/\Q (.int (if j > i then j else i)) H2) h h' S e1 e2 λx y F' H' x1 r1 r2=>(oi22 a b (by rw [r1,r2]) (k _ F' H' x1 rfl))
theorem ev_intB {o:Option Bool} (h:EV Γ ta o bJ):EV Γ (tCB (λxs H Q=>(∃ i,xs=[.int i]/\Q (.int i) H)\/∃ k,xs=[.bl k]/\Q (.int (if k then 1 else 0)) H) (bg ta tNil)) (o.bind λb=>some (Pu.ofb b)) rInt:=by
 intro C F σ H Q c S e k
 refine oq12 (a9 e) λa e1 e=>?_
 cases e
 exact h C F σ H _ a S e1 λv F' H' x1 r1=>.inr (oi12 a (by rw [r1]) (k _ F' H' x1 rfl))
structure Fe [DecidableEq α] (r:Rp α):Prop where
 flat:∀ {F v a},r.rel F v a->i4 v=true
 eq:∀ {F v w a b},r.rel F v a->r.rel F w b->eqV v w=decide (a=b)
theorem fe_op:Fe (rOp rInt):=⟨λ{F v a} h=>by cases a <;> cases h <;> rfl,λ{F v w a b} h h'=>by
 cases a <;> cases b <;> cases h <;> cases h'
 ·rfl
 ·rfl
 ·rfl
 ·rw [X1]; simp [eqV]⟩
theorem in_paired [DecidableEq α] (f:Fe r) {F:Hp} {x:V} {a:α} (hx:r.rel F x a):∀ {vs:List V} {xs:List α},Paired (r.rel F) vs xs->inV x vs=decide (a∈xs)/\vs.all i4=true:=λp=>by
 induction p with
 | nil=>exact ⟨by simp [inV],rfl⟩
 | @cons v y vs ys h t ih =>
  refine oq02 ih λi1 i2=>?_
  refine ⟨?_,by rw [List.all_cons,f.flat h,i2]; rfl⟩
  have:inV x (v :: vs)=(eqV v x || inV x vs):=rfl
  rw [this,i1,f.eq h hx,X1,A7,decide_eq_true_eq,decide_eq_true_eq,decide_eq_true_eq,Z8]
  constructor
  ·rintro (z | z)
   ·exact .inl z.symm
   ·exact .inr z
  ·rintro (z | z)
   ·exact .inl z.symm
   ·exact .inr z
theorem ev_notinL [DecidableEq α] {o:Option (List α)} (f:Fe r) (h:EV Γ ta oa r) (h':EV Γ tb o (rL r)):EV Γ (tOp (rIn K true) ta tb) (oa.bind λa=>o.bind λxs=>some (!decide (a∈xs))) bJ :=
 iG (r:=r) (s:=rL r) (λF H x y a b c Q sb r1 zq e3 k=>oq23 zq λp vs e h1 h2=>by
  cases e3
  refine oq02 (in_paired f r1 h2) λi1 i2=>?_
  exact ⟨p,vs,e,.inl (.inl (sb.rd h1)),f.flat r1,i2,by rw [if_pos rfl,i1]; exact k _ rfl⟩) h h'
end
end
section
open PySem PySem.Spec PyProof.Rows
variable [Kn:Kon]
section
variable {Γ:List Slot} {α β γ S R:Type} {r:Rp α} {s:Rp β} {q:Rp γ} {ta tb tc:TE} {ob:Option β} {K:Z0} {oi:Option Int}
theorem eX {F H F' H':Hp} {p:Addr} {u:HO} (hF:F p=none) (hH:H p=some u) (e:Ext (upd F p u) H F' H') (nu:autoParam (d7 u) L2.a4q._auto_1):Ext F H (del F' p) H'/\F' p=some u:=by
 refine ⟨⟨e.hh,λb o h=>?_,λb o h=>e.sub b o (dB h).2,λb o h=>?_,λz b ps q=>e.nt (kO z nu) b ps (dB q).2⟩,e.ff p u ai⟩
 ·have n:b≠p:=al h hF
  rw [bR n]
  exact e.ff b o (by rw [am n]; exact h)
 ·refine oq02 (dB h) λn h=>?_
  rcases e.nw b o h with z | z
  ·rw [am n] at z; exact .inl z
  ·exact .inr z
theorem SR.borrow {C:Fc} {F H:Hp} {σ:St} {i:Nat} {φ:Addr->Prop} {xs:List α} (S:SR C F Γ σ H) (hi:Γ[i]?=some (.ol r φ xs)):∃ p vs,F p=none/\H p=some (.lst vs)/\SR C (upd F p (.lst vs)) (Γ.set i (.fr (rL r) xs)) σ H:=by
 refine oqs6 (S.at_ i _ hi) λp vs h1 h2 h3 h4 h5 h6=>?_
 exact (oi23 p vs h4 h5 (S.freeze hi p _ _ rfl rfl h1 h3 h4 h5 ⟨_,rfl,p,vs,rfl,Rd.of ai,Paired.imp2 (λx x z=>Rp.mono _ (aF h4) z) h6⟩ trivial))
theorem SR.borrowD {C:Fc} {F H:Hp} {σ:St} {i:Nat} {φ:Addr->Prop} {kvs:List (Int × α)} (S:SR C F Γ σ H) (hi:Γ[i]?=some (.od r φ kvs)):∃ p ws,F p=none/\H p=some (.dK ws)/\SR C (upd F p (.dK ws)) (Γ.set i (.fr (rD r) kvs)) σ H:=by
 refine oqs6 (S.at_ i _ hi) λp vs h1 h2 h3 h4 h5 h6=>?_
 exact (oi23 p vs h4 h5 (S.freeze hi p _ _ rfl rfl h1 h3 h4 h5 ⟨_,rfl,p,vs,rfl,ai,Paired.imp2 (λx x z=>⟨z.1,Rp.mono _ (aF h4) z.2⟩) h6⟩ trivial))
noncomputable abbrev brw (Γ:List Slot) (i:Nat) {α:Type} (r:Rp α) (xs:List α):List Slot:=Γ.set i (.fr (rL r) xs)
noncomputable abbrev brwD (Γ:List Slot) (i:Nat) {α:Type} (r:Rp α) (kvs:List (Int × α)):List Slot:=Γ.set i (.fr (rD r) kvs)
theorem jk {φ:Addr->Prop} {xs:List α} (i:Nat) (hi:Γ[i]?=some (.ol r φ xs)) (fl:Flat s) (h:EV (brw Γ i r xs) tb ob s):EV Γ tb ob s:=by
 intro C F σ H Q b S e k
 refine oq23 (S.borrow hi) λp vs h1 h2 S'=>?_
 refine h C _ σ H Q b S' e λv F' H' x1 r1=>?_
 refine oq02 (eX h1 h2 x1) λx2 h3=>?_
 exact k v _ H' x2 (fl h3 trivial r1)
theorem nl {φ:Addr->Prop} {xs:List α} {o:Option (List β)} (i:Nat) (hi:Γ[i]?=some (.ol r φ xs)) (fl:Flat s) (h:EVL (brw Γ i r xs) tb o s):EVL Γ tb o s:=by
 intro C F σ H Q b S e k
 refine oq23 (S.borrow hi) λp vs h1 h2 S'=>?_
 refine h C _ σ H Q b S' e λv ws F' H' x1 hv r1=>?_
 refine oq02 (eX h1 h2 x1) λx2 h3=>?_
 exact k v ws _ H' x2 hv (Paired.imp2 (λx x z=>fl h3 trivial z) r1)
theorem jl {φ:Addr->Prop} {xs:List α} {t:TT} {o:Option Bool} (i:Nat) (hi:Γ[i]?=some (.ol r φ xs)) (h:ET (brw Γ i r xs) t o):ET Γ t o:=by
 intro C F σ H Q b S e k
 refine oq23 (S.borrow hi) λp vs h1 h2 S'=>?_
 refine h C _ σ H Q b S' e λF' H' x1=>?_
 refine oq02 (eX h1 h2 x1) λx2 h3=>?_
 exact k _ H' x2
theorem et_borD {φ:Addr->Prop} {kvs:List (Int × α)} {t:TT} {o:Option Bool} (i:Nat) (hi:Γ[i]?=some (.od r φ kvs)) (h:ET (brwD Γ i r kvs) t o):ET Γ t o:=by
 intro C F σ H Q b S e k
 refine oq23 (S.borrowD hi) λp vs h1 h2 S'=>?_
 refine h C _ σ H Q b S' e λF' H' x1=>?_
 refine oq02 (eX h1 h2 x1) λx2 h3=>?_
 exact k _ H' x2
theorem aQ {rl:Rp (List α)} {o:Option (List α)} (sq:Sq K rl r) (h:EV Γ ta o rl):IV Γ (om K ta) o r:=λC F σ H R xs S e k=>h C F σ H _ xs S e λv F' H' x1 hv=>by
 refine oq23 (sq.get hv) λp vs e2 h1 h2=>?_
 exact (oi13 p e2 ⟨vs,x1.sub.seq h1⟩ (k _ F' H' x1
  ⟨λi H2 sb hi=>⟨vs,vs[i]'(by rw [h2.length]; exact hi),sb.seq h1,by simp⟩,λH2 sb=>⟨vs,sb.seq h1,by rw [h2.length]; exact nz6 _⟩,λi H2 x H3 F1 sb hi zq s1 s2=>oq02 zq λe3 y=>by
    subst e3
    obtain ⟨w,g1,g2⟩:=eE h2 (Z6 hi)
    have ex:x=w:=Z3 ((y vs (sb.seq h1)).symm.trans g1)
    subst ex
    exact (oi23 F1 (xs[i]) (Z6 hi) (Ext.refl s2) (r.mono s1 g2))⟩))
theorem ig {F:Hp} {n:Nat} {f:Nat->Int} {J:It} (hj:J=⟨λi a=>i<n,λi H x H'=>H'=H/\x=.int (f i),λi a=>n<=i⟩):Walks J F rInt ((Z9 n).map f):=by
 subst hj
 refine ⟨λi H a hi=>by simpa using hi,λH a=>by simp,λi H2 x H3 F1 sb hi zq s1 s2=>oq02 zq λe3 y=>?_⟩
 subst e3 y
 have hi':i<n:=by simpa using hi
 exact (oi23 F1 (f i) (by simp [hi']) (Ext.refl s2) rfl)
set_option tactic.hygienic true in
theorem iI (h:EV Γ ta oi rInt):IV Γ (iRng1 (bg ta tNil)) (oi.bind λj=>Pu.rng1 j) rInt:=by
 intro C F σ H R xs S e k
 refine oq12 (a9 e) λj e1 e=>?_
 unfold Pu.rng1 at e
 split at e
 ·rename_i hb
  cases e
  refine h C F σ H _ j S e1 λv F' H' x1 r1=>⟨j,by rw [r1],hb.1,hb.2,k _ F' H' x1 ?_⟩
  refine ig (f:=λi=>(i:Int)) ?_
  unfold Itr
  simp
 ·cases e
set_option tactic.hygienic true in
theorem iv_rng2 {oj:Option Int} (h:EV Γ ta oi rInt) (h':EV Γ tb oj rInt):IV Γ (iRng2 (bg ta (bg tb tNil))) (oi.bind λi=>oj.bind λj=>Pu.rng2 i j) rInt:=by
 intro C F σ H R xs S e k
 refine oq12 (a9 e) λi e1 e=>?_
 refine oq12 (a9 e) λj e2 e=>?_
 unfold Pu.rng2 at e
 split at e
 ·rename_i hb
  cases e
  refine EV.two (q:=λx y H2=>∃ i j:Int,[x,y]=[.int i,.int j]/\(-(2 ^ 62)<=i/\i<2 ^ 62/\-(2 ^ 62)<=j/\j<2 ^ 62)/\R (Itr i (j - i).toNat) H2) h h' S e1 e2 λx y F' H' x1 r1 r2=>(oi23 i j (by rw [r1,r2]) hb (k _ F' H' x1 ?_))
  exact ig (f:=λk=>i+(k:Int)) rfl
 ·cases e
set_option tactic.hygienic true in
theorem iv_rng3 {oj ok:Option Int} (h:EV Γ ta oi rInt) (h':EV Γ tb oj rInt) (h'':EV Γ tc ok rInt):IV Γ (iRng3 (bg ta (bg tb (bg tc tNil)))) (oi.bind λi=>oj.bind λj=>ok.bind λc=>Pu.rng3 i j c) rInt:=by
 intro C F σ H R xs S e k
 refine oq12 (a9 e) λi e1 e=>?_
 refine oq12 (a9 e) λj e2 e=>?_
 refine oq12 (a9 e) λc e3 e=>?_
 unfold Pu.rng3 at e
 split at e
 ·rename_i hb
  cases e
  refine EV.two (q:=λx y H2=>tc σ H2 λz H3=>∃ i j c:Int,[x,y,z]=[.int i,.int j,.int c]/\(-(2 ^ 61)<=i/\i<2 ^ 61/\-(2 ^ 61)<=j/\j<2 ^ 61/\0<c/\c<1073741824)/\R (Itq i c (rcnt i j c)) H3) h h' S e1 e2 λx y F' H' x1 r1 r2=>?_
  refine h'' C F' σ H' _ c (S.grow x1) e3 λz F2 H2 x2 r3=>(oi33 i j c (by rw [r1,r2,r3]) hb (k _ F2 H2 (x1.trans x2) ?_))
  exact ig (f:=λk=>i+(k:Int) * c) rfl
 ·cases e
theorem nn {rl:Rp (List α)} {o:Option (List α)} (sq:Sq K rl r) (h:EV Γ ta o rl):IV Γ (iEnum K (bg ta tNil)) (o.bind λxs=>some (Pu.enum xs)) (rT2 rInt r):=by
 intro C F σ H R ys S e k
 refine oq12 (a9 e) λxs e1 e=>?_
 cases e
 refine h C F σ H _ xs S e1 λv F' H' x1 hv=>?_
 refine oq23 (sq.get hv) λp vs e2 h1 h2=>?_
 refine ⟨p,by rw [e2],⟨vs,x1.sub.seq h1⟩,k _ F' H' x1 ?_⟩
 have len:(Pu.enum xs).length=vs.length:=by unfold Pu.enum; simp [h2.length]
 refine ⟨λi H2 sb hi=>⟨vs,vs[i]'(by rw [<- len]; exact hi),sb.seq h1,by simp⟩,λH2 sb=>⟨vs,sb.seq h1,by rw [len]; exact nz6 _⟩,λi H2 x H3 F1 sb hi y s1 s2=>?_⟩
 refine oq24 y λt z e4 ht e5 hz=>?_
 subst e4 e5
 have hi':i<xs.length:=by rw [<- h2.length,<- len]; exact hi
 obtain ⟨w,g1,g2⟩:=eE h2 (Z6 hi')
 have ex:z=w:=Z3 ((hz vs (sb.seq h1)).symm.trans g1)
 subst ex
 refine ⟨_,((i:Int),xs[i]),?_,Ext.new s2 ht,t,_,_,rfl,ai,rfl,r.mono (s1.trans (aF (s2.free ht))) g2⟩
 unfold Pu.enum
 rw [Z7,A2,Z6 hi']
 simp
def GV (Γ:List Slot) (m:Nat) (g:TG) (r:Rp α) (Γt:α->List Slot):Prop:=∀ C F σ H v x k,SR C F Γ σ H->r.rel F v x->(∀ σ',SR C F (Γt x) σ' H->((∀ j,j<m->σ[j]?=some none)->Wk σ σ')->k σ' H)->g v σ H k
theorem Wk.refl:∀ {a:St},Wk a a:=by
 intro a
 induction a with
 | nil=>trivial
 | cons o r ih=>cases o with | none=>exact ih | some v=>exact ⟨rfl,ih⟩
theorem Wk.set:∀ {a b:St} {i:Nat} {v:V},Wk a b->a[i]?=some none->Wk a (b.set i (some v)):=by
 intro a
 induction a with
 | nil=>exact λc e=>nomatch e
 | cons x r ih =>
  intro b i v h e
  cases b with
  | nil=>cases x <;> exact h.elim
  | cons o t =>
   cases x with
   | none =>
    cases i with
    | zero=>exact h
    | succ i=>exact ih (b:=t) (i:=i) h e
   | some x =>
    cases i with
    | zero=>exact nomatch e
    | succ i=>exact ⟨h.1,ih (b:=t) (i:=i) h.2 e⟩
theorem aJ (i:Nat):GV Γ (i+1) (d6 i) r (λx=>Γ.set i (.fr r x)):=λC F σ H v x k S h q=>q _ (S.setF i h) λz=>Wk.refl.set (z i (by exact W4 _))
theorem eY (i j:Nat):GV Γ (i+j+1) (gTup K 2 (iy (d6 i) (iy (d6 j) gNil))) (rT2 r s) (λx=>(Γ.set i (.fr r x.1)).set j (.fr s x.2)):=λC F σ H v x k S zq q=>oq34 zq λp a b e h1 h2 h3 =>
 ⟨p,_,e,SqT.of (S.sub _ _ h1),rfl,a,[b],rfl,b,[],rfl,rfl,q _ ((S.setF i h2).setF j h3) λz=>(Wk.refl.set (z i (by exact C0 (S7 _ _)))).set (z j (by exact C0 (E3 _ _)))⟩
theorem gv_trip (i j l:Nat):GV Γ (i+j+l+1) (gTup K 3 (iy (d6 i) (iy (d6 j) (iy (d6 l) gNil)))) (rT3 r s q) (λx=>((Γ.set i (.fr r x.1)).set j (.fr s x.2.1)).set l (.fr q x.2.2)):=λC F σ H v x k S zq q=>oq45 zq λp a b c e h1 h2 h3 h4 =>
 ⟨p,_,e,SqT.of (S.sub _ _ h1),rfl,a,[b,c],rfl,b,[c],rfl,c,[],rfl,rfl,q _ (((S.setF i h2).setF j h3).setF l h4) λz=>((Wk.refl.set (z i (by lia))).set (z j (by lia))).set (z l (by exact C0 (E3 _ _)))⟩
noncomputable def csl (loc:List Str) (cap:List (Str × Nat)) (Γ:List Slot):List Slot:=loc.map (λx=>Slot.any)++cap.map λp=>(Γ[p.2]?).getD .any
theorem SR.comp {C:Fc} {F H:Hp} {σ:St} {loc:List Str} {cap:List (Str × Nat)} (S:SR C F Γ σ H) (hc:(cap.map (·.2)).Nodup):SR C F (csl loc cap Γ) (st0 loc cap σ) H:=by
 have get:∀ (i:Nat) s,(csl loc cap Γ)[i]?=some s->s=.any\/∃ p,loc.length<=i/\cap[i - loc.length]?=some p/\Γ[p.2]?=some s:=λi s h=>by
  unfold csl at h
  by_cases hi:i<loc.length
  ·rw [X4 (by simpa using hi),Z7] at h
   cases q:loc[i]? with
   | none=>rw [q] at h; cases h
   | some _=>rw [q] at h; cases h; exact .inl rfl
  ·rw [W0 (by simp; exact X8.mp hi),Y0,Z7] at h
   cases q:cap[i - loc.length]? with
   | none=>rw [q] at h; cases h
   | some p =>
    rw [q] at h
    have h:(Γ[p.2]?).getD .any=s:=by simpa using h
    cases q2:Γ[p.2]? with
    | none=>rw [q2] at h; exact .inl h.symm
    | some s'=>rw [q2] at h; cases h; exact .inr (oi13 p (by exact X8.mp hi) rfl q2)
 have stg:∀ (i:Nat) p,loc.length<=i->cap[i - loc.length]?=some p->(st0 loc cap σ)[i]?=some (σ[p.2]?).join:=λi p hi h=>by
  unfold st0
  rw [W0 (by simp; exact hi),Y0,Z7,h]
  rfl
 refine ⟨S.toFr,by unfold st0 csl; simp,λi s h=>?_,λi j s t p h1 h2 o1 o2 e1 e2=>?_⟩
 ·rcases get i s h with rfl | zr1_
  ·have:i<(st0 loc cap σ).length:=by
    have:=(Z1.mp h).1
    unfold csl at this; unfold st0
    simpa using this
   exact (oi12 _ (Z6 this) trivial)
  ·refine oq13 zr1_ λp hi h1 h2=>?_
   refine oq12 (S.at_ _ s h2) λo h3 h4=>?_
   exact (oi12 o (by rw [stg i p hi h1,h3]; rfl) h4)
 ·rcases get i s h1 with rfl | ⟨p1,hi1,g1,g2⟩
  ·cases o1
  rcases get j t h2 with rfl | ⟨p2,hi2,g3,g4⟩
  ·cases o2
  have e3:σ[p1.2]?=some (some (.ref p)):=by
   refine oq12 (S.at_ _ s g2) λo h3 x=>?_
   rw [stg i p1 hi1 g1,h3] at e1
   rw [h3]; exact e1
  have e4:σ[p2.2]?=some (some (.ref p)):=by
   refine oq12 (S.at_ _ t g4) λo h3 x=>?_
   rw [stg j p2 hi2 g3,h3] at e2
   rw [h3]; exact e2
  have e5:=S.inj _ _ s t p g2 g4 o1 o2 e3 e4
  have a1:(cap.map (·.2))[i - loc.length]?=some p1.2:=by rw [Z7,g1]; rfl
  have a2:(cap.map (·.2))[j - loc.length]?=some p1.2:=by rw [Z7,g3,e5]; rfl
  have l1:=(Z1.mp a1).1
  have l2:=(Z1.mp a2).1
  have:i - loc.length=j - loc.length:=(List.getElem?_inj l1 hc).mp (a1.trans a2.symm)
  lia
end
end
end L2
namespace Pu
section
variable {β α:Type} {t:β->Option Bool} {f:β->Option α}
theorem jm:∀ (l m:List β),bL t f (l++m)=(bL t f l).bind λa=>(bL t f m).bind λb=>some (a++b):=by
 intro l m
 induction l with
 | nil=>cases h:bL t f m <;> simp [bL,h]
 | cons x l ih =>
  rw [List.cons_append,bL,bL,ih]
  cases t x with
  | none=>rfl
  | some b =>
   cases b with
   | false=>rfl
   | true =>
    cases f x with
    | none=>rfl
    | some a =>
     cases h1:bL t f l with
     | none=>rfl
     | some as=>cases h2:bL t f m <;> rfl
theorem mf:∀ {l:List β} {as:List α},bL t f l=some as->as.length<=l.length:=by
 intro l
 induction l with
 | nil=>exact λh=>Z3 h ▸ nz6 _
 | cons x l ih =>
  intro as h
  rw [bL] at h
  refine oq12 (L2.a9 h) λb a h=>?_
  cases b with
  | false=>exact M1 (ih h)
  | true=>exact oq12 (L2.a9 h) λa a h=>oq12 (L2.a9 h) λas' h1 h=>Z3 h ▸ C8 (ih h1)
theorem oV {xs:List β} {as:List α} (h:bL t f xs=some as) {i:Nat} {x:β} (hx:xs[i]?=some x):∃ p b,bL t f (xs.take i)=some p/\t x=some b/\(b=true->∃ c,f x=some c/\bL t f (xs.take (i+1))=some (p++[c]))/\(b=false->bL t f (xs.take (i+1))=some p):=by
 have hi:=(Z1.mp hx).1
 have ex:=(Z1.mp hx).2
 have e:xs=xs.take i++(x :: xs.drop (i+1)):=by rw [<- ex,List.getElem_cons_drop,C6]
 rw [e,jm] at h
 refine oq12 (L2.a9 h) λp h1 h=>?_
 refine oq12 (L2.a9 h) λw h2 a=>?_
 rw [bL] at h2
 refine oq12 (L2.a9 h2) λb h3 h2=>?_
 have et:xs.take (i+1)=xs.take i++[x]:=by rw [<- ex,S8]
 refine (oi24 p b h1 h3 (λhb=>?_) (λhb=>?_))
 ·subst hb
  rw [if_pos rfl] at h2
  refine oq12 (L2.a9 h2) λc h4 a=>?_
  exact (oi12 c h4 (by rw [et,jm,h1]; simp [bL,h3,h4]))
 ·subst hb
  rw [et,jm,h1]; simp [bL,h3]
theorem oW:∀ (xs:List β),me f xs=bL (λa=>some true) f xs:=by
 intro xs
 induction xs with
 | nil=>rfl
 | cons x xs ih=>rw [me,bL,ih]; rfl
end
end Pu
namespace L2
section
open PySem PySem.Spec PyProof.Rows
variable [Kn:Kon]
section
variable {Γ:List Slot} {α β S:Type} {r:Rp α} {rb:Rp β}
set_option tactic.hygienic true in
theorem compIf_at {J:It} {loc:List Str} {cap:List (Str × Nat)} {g:TG} {tt:TT} {te:TE} {t:β->Option Bool} {f:β->Option α} {m:Nat} {Γt:β->List Slot} {C:Fc} {F' H1:Hp} {σ:St} {Q:VK} {xs:List β} {as:List α} (S:SR C F' Γ σ H1) (W:Walks J F' rb xs) (hc:(cap.map (·.2)).Nodup) (hm:m<=loc.length) (hg:GV (csl loc cap Γ) m g rb Γt)
  (ht:∀ x,ET (Γt x) tt (t x)) (he:∀ x,EV (Γt x) te (f x) r) (e:Pu.bX t f xs=some as) (k:∀ p vs F2 H2,Ext F' H1 F2 H2->H2 p=none->Paired (r.rel F2) vs as->Q (.ref p) (upd H2 p (.lst vs))) (D:Addr) (hD:H1 D=none):cGoal g tt te loc cap σ D Q J H1:=by
 unfold Pu.bX at e
 split at e
 case isFalse=>cases e
 rename_i hl
 have sn:∀ j,j<m->(st0 loc cap σ)[j]?=some none:=λj hj=>by
  unfold st0
  rw [X4 (by simp; exact nz1 hj hm),Z7,Z6 (by exact nz1 hj hm)]
  rfl
 refine comp_it (n:=xs.length) (λi ys H2=>∃ F1 G p,H2=upd G D (.lst ys)/\G D=none/\Ext F' H1 F1 G/\Pu.bL t f (xs.take i)=some p/\Paired (r.rel F1) ys p) (oi35 F' H1 ([]) rfl hD (Ext.refl S.sub) (by rw [List.take_zero]; rfl) .nil) ?_ ?_ ?_ ?_ ?_
 ·intro i ys H2 _ zq; refine oq32 zq λF1 G p eq3_ s=>?_; subst eq3_; exact ai
 ·intro i ys H2 hi zq; refine oq34 zq λF1 G p eq3_ hG x2 s=>?_; subst eq3_; exact W.go i _ (x2.ff.trans (x2.sub.trans (aF hG))) hi
 ·intro ys H2 zq; refine oq34 zq λF1 G p eq3_ hG x2 s=>?_; subst eq3_; exact W.stop _ (x2.ff.trans (x2.sub.trans (aF hG)))
 ·rintro i ys H2 x H' hi ⟨F1,G,p,rfl,hG,x2,hp,pr⟩ y
  have sFH:=x2.sub.trans (aF (o:=.lst ys) hG)
  refine oq23 (W.yld i _ x H' F1 (x2.ff.trans sFH) hi y x2.ff sFH) λF2 a ha x3 ra=>?_
  have F1D:F1 D=none:=x2.sub.free hG
  have noD:∀ {A B:Hp},Ext F1 (upd G D (.lst ys)) A B->A D=none:=λ{A B} x=>by
   cases q:A D with
   | none=>rfl
   | some o =>
    rcases x.nw D o q with z | z
    ·rw [F1D] at z; cases z
    ·rw [ai] at z; cases z
  have S3:SR C F2 (csl loc cap Γ) (st0 loc cap σ) H':=((((S.grow x2).comp hc).grow (Ext.newH x2.sub hG)).grow x3)
  have fin:∀ {A B:Hp} {zs:List V} {pp:List α},Ext F1 (upd G D (.lst ys)) A B->Pu.bL t f (xs.take (i+1))=some pp->Paired (r.rel A) zs pp->∃ F1 G p,upd B D (.lst zs)=upd G D (.lst zs)/\G D=none/\Ext F' H1 F1 G/\Pu.bL t f (xs.take (i+1))=some p/\Paired (r.rel F1) zs p:=λ{A B zs pp} x hpp pz=>by
   refine (oi35 A (del B D) pp ?_ cT ⟨kN (x2.hh.trans ((kL (o:=.lst ys) hG trivial).trans x.hh)) hD (x.hh.kp D (.lst ys) trivial ai) trivial,x2.ff.trans x.ff,λb o h=>?_,λb o h=>?_,λz=>x.nt (x2.nt z)⟩ hpp pz)
   ·funext b; unfold upd del; split <;> rfl
   ·rw [bR (al h (noD x))]; exact x.sub b o h
   ·rcases x.nw b o h with z | z
    ·exact x2.nw b o z
    ·have n:b≠D:=by rintro rfl; rw [ai] at z; cases z
     rw [am n] at z; exact .inr (x2.hh.un z)
  refine oq24 (Pu.oV e ha) λp' b h1 h2 h3 h4=>?_
  rw [hp] at h1
  cases h1
  refine hg C F2 _ H' x a _ S3 ra λσ' S4 wk=>⟨wk sn,?_⟩
  refine ht a C F2 σ' H' _ b S4 h2 λF3 H3 x4=>?_
  cases b with
  | false =>
   have hB:H3 D=some (.lst ys):=(x3.trans x4).hh.kp D (.lst ys) trivial ai
   refine oq35 (fin (x3.trans x4) (h4 rfl) (Paired.imp2 (λs s z=>r.mono (x3.ff.trans x4.ff) z) pr)) λF5 G5 p5 q1 q2 q3 q4 q5=>?_
   refine ⟨F5,G5,p5,?_,q2,q3,q4,q5⟩
   rw [<- q1]
   funext b; unfold upd; split
   ·rename_i z; rw [z]; exact hB
   ·rfl
  | true =>
   refine oq12 (h3 rfl) λc h5 h6=>?_
   refine he a C F3 σ' H3 _ c (S4.grow x4) h5 λv F4 H4 x5 rv=>?_
   have x6:=(x3.trans x4).trans x5
   refine (oi03 (x6.hh.kp D (.lst ys) trivial ai) ?_ (fin x6 h6 (Paired.app (Paired.imp2 (λs s z=>r.mono x6.ff z) pr) (.cons rv .nil))))
   have:=Pu.mf hp
   rw [pr.length,X9]
   rw [R4] at this
   lia
 ·intro ys H2 zq; refine oq35 zq λF1 G p eq3_ hG x2 hp pr=>?_; subst eq3_
  rw [P7,e] at hp
  cases hp
  exact k D ys F1 G x2 hG pr
theorem cK {wi:TI} {loc:List Str} {cap:List (Str × Nat)} {g:TG} {tt:TT} {te:TE} {ox:Option (List β)} {t:β->Option Bool} {f:β->Option α} {m:Nat} {Γt:β->List Slot} (hi:IV Γ wi ox rb) (hc:(cap.map (·.2)).Nodup) (hm:m<=loc.length) (hg:GV (csl loc cap Γ) m g rb Γt)
  (ht:∀ x,ET (Γt x) tt (t x)) (he:∀ x,EV (Γt x) te (f x) r):EVL Γ (m9 wi loc cap g tt te) (ox.bind λxs=>Pu.bX t f xs) r:=by
 intro C F σ H Q as S e k
 refine oq12 (a9 e) λxs e1 e=>?_
 exact hi C F σ H _ xs S e1 λJ F' H1 x1 W D hD=>compIf_at (S.grow x1) W hc hm hg ht he e (λp vs F2 H2 x2=>k p vs F2 H2 (x1.trans x2)) D hD
theorem bY {wi:TI} {loc:List Str} {cap:List (Str × Nat)} {g:TG} {te:TE} {ox:Option (List β)} {f:β->Option α} {m:Nat} {Γt:β->List Slot} (hi:IV Γ wi ox rb) (hc:(cap.map (·.2)).Nodup) (hm:m<=loc.length) (hg:GV (csl loc cap Γ) m g rb Γt)
  (he:∀ x,EV (Γt x) te (f x) r):EVL Γ (m9 wi loc cap g tTrue te) (ox.bind λxs=>Pu.comp f xs) r:=by
 have h:=cK (t:=λa=>some true) hi hc hm hg (λa=>et_true) he
 have e:(λxs=>Pu.bX (λa=>some true) f xs)=λxs=>Pu.comp f xs:=by
  funext xs; unfold Pu.bX Pu.comp; rw [Pu.oW]
 rw [e] at h; exact h
end
end
section
open PySem PySem.Spec PyProof.Rows
variable [Kn:Kon]
section
variable {α S T R:Type}
def BV (Γ:List Slot) (t:TS) (o:Option T) (fin:Fc->T->Ends->Prop):Prop:=∀ C F σ H D x,SR C F Γ σ H->o=some x->fin C x D->t D σ H
def finV (r:Rp α):Fc->α->Ends->Prop:=λC a D=>∀ v F H,Fr C F H->r.rel F v a->D.rt v H
def finL (r:Rp α):Fc->List α->Ends->Prop:=λC xs D=>∀ p vs F H,Fr C F H->H p=none->Paired (r.rel F) vs xs->D.rt (.ref p) (upd H p (.lst vs))
def finD (r:Rp α):Fc->List (Int × α)->Ends->Prop:=λC xs D=>∀ p vs F H,Fr C F H->H p=none->Paired (dRel r F) vs xs->D.rt (.ref p) (upd H p (.dK vs))
theorem tbg_del {H:Hp} {p:Addr} {u:HO} (g:TbG H) (h:H p=some u) (a:Own u):TbG (del H p):=by
 have ne:∀ {c:Addr} {o:HO},H c=some o->(u=o->False)->c≠p:=λq n z=>n (Z3 (h.symm.trans (z ▸ q)))
 exact g.mv (λx x q=>(bR (ne q λz=>n0 z a.noTbl)).trans q) (λx x q=>(bR (ne q λz=>n4 a z)).trans q) λx x q=>(dB q).2
structure RFin (rf:Fc->R->Ends->Prop):Prop where
 lo:∀ {C F x D},Same C.L F->rf C x D->rf { C with L:=F } x D
 en:∀ {C x D nx bk ct},rf C x D->rf C x { D with nx:=nx,bk:=bk,ct:=ct }
theorem rfV {r:Rp α}:RFin (finV r):=⟨λe h v F H f q=>h v F H (f.raise e) q,λh=>h⟩
def finS (Γf:S->List Slot):Fc->S->Ends->Prop:=λC s D=>∀ F σ H,SR C F (Γf s) σ H->D.nx σ H/\D.ct σ H
def finC (Γf:S->List Slot) (rf:Fc->R->Ends->Prop):Fc->Pu.Ctl S R->Ends->Prop:=λC c D=>match c with
 | .nx s=>∀ F σ H,SR C F (Γf s) σ H->D.nx σ H/\D.ct σ H
 | .bk s=>∀ F σ H,SR C F (Γf s) σ H->D.bk σ H
 | .rt r=>rf C r D
def finJ (Γj:S->List Slot):Fc->S->Ends->Prop:=λC s D=>∀ F σ H,SR C F (Γj s) σ H->D.nx σ H
end
section
variable {Γ:List Slot} {α β S T R:Type} {r:Rp α} {s:Rp β} {te:TE} {oa:Option α} {u t t':TS} {o o':Option T} {fin:Fc->T->Ends->Prop}
theorem BV.cast (h:BV Γ t o fin) (e:o'=o):BV Γ t o' fin:=e ▸ h
theorem aR (h:BV Γ (tSeq t km) o fin):BV Γ t o fin:=h
theorem iJ (h:BV Γ (tSeq t (tSeq t' u)) o fin):BV Γ (tSeq (tSeq t t') u) o fin:=h
theorem aN (h:BV Γ u o fin):BV Γ (tSeq km u) o fin:=h
theorem bv_sub {Γ':List Slot} (hs:SubL Γ Γ') (h:BV Γ' t o fin):BV Γ t o fin:=λC F σ H D x S e f=>by
 refine oq12 (S.weak hs) λF' a S'=>?_
 exact h C F' σ H D x S' e f
theorem az {f:α->Option T} (i:Nat) (he:EV Γ te oa r) (h:∀ a,BV (Γ.set i (.fr r a)) u (f a) fin):BV Γ (tSeq (tAsg te (d6 i)) u) (oa.bind f) fin:=by
 intro C F σ H D x S e k
 refine oq12 (a9 e) λa e1 e=>?_
 exact he C F σ H _ a S e1 λv F' H' x1 r1=>h a C F' _ H' D x ((S.grow x1).setF i r1) e k
theorem ci {ol:Option (List α)} {f:List α->Option T} (i:Nat) (he:EVL Γ te ol r) (h:∀ a,BV (Γ.set i (.ol r tt_ a)) u (f a) fin):BV Γ (tSeq (tAsg te (d6 i)) u) (ol.bind f) fin:=by
 intro C F σ H D x S e k
 refine oq12 (a9 e) λa e1 e=>?_
 exact he C F σ H _ a S e1 λp vs F' H' x1 hp r1=>h a C F' _ _ D x ((S.grow x1).setO i hp rfl ⟨p,vs,rfl,trivial,(S.grow x1).keep.free hp,x1.sub.free hp,ai,r1⟩) e k
theorem bv_setD {ol:Option (List (Int × α))} {f:List (Int × α)->Option T} (i:Nat) (he:EVD Γ te ol r) (h:∀ a,BV (Γ.set i (.od r tt_ a)) u (f a) fin):BV Γ (tSeq (tAsg te (d6 i)) u) (ol.bind f) fin:=by
 intro C F σ H D x S e k
 refine oq12 (a9 e) λa e1 e=>?_
 exact he C F σ H _ a S e1 λp vs F' H' x1 hp r1=>h a C F' _ _ D x ((S.grow x1).setO i hp rfl ⟨p,vs,rfl,trivial,(S.grow x1).keep.free hp,x1.sub.free hp,ai,r1⟩) e k
theorem bv_asg {g:TG} {m:Nat} {Γt:α->List Slot} {f:α->Option T} (he:EV Γ te oa r) (hg:GV Γ m g r Γt) (h:∀ a,BV (Γt a) u (f a) fin):BV Γ (tSeq (tAsg te g) u) (oa.bind f) fin:=by
 intro C F σ H D x S e k
 refine oq12 (a9 e) λa e1 e=>?_
 exact he C F σ H _ a S e1 λv F' H' x1 r1=>hg C F' σ H' v a _ (S.grow x1) r1 λσ' S' b=>h a C F' σ' H' D x S' e k
theorem bM {tt:TT} {oc:Option Bool} (hc:ET Γ tt oc) (h1:BV Γ (tSeq t u) o fin) (h2:BV Γ (tSeq t' u) o' fin):BV Γ (tSeq (tIfS tt t t') u) (oc.bind λb=>if b=true then o else o') fin:=by
 intro C F σ H D x S e k
 refine oq12 (a9 e) λb e1 e=>?_
 refine hc C F σ H _ b S e1 λF' H' x1=>?_
 cases b with
 | true=>exact h1 C F' σ H' D x (S.grow x1) e k
 | false=>exact h2 C F' σ H' D x (S.grow x1) e k
theorem jY {Γj:S->List Slot} {oj:Option S} {f:S->Option T} (h1:BV Γ t oj (finJ Γj)) (h:∀ s,BV (Γj s) u (f s) fin):BV Γ (tSeq t u) (oj.bind f) fin:=by
 intro C F σ H D x S e k
 refine oq12 (a9 e) λs e1 e=>?_
 exact h1 C F σ H _ s S e1 λF' σ' H' S'=>h s C F' σ' H' D x S' e k
theorem dD {Γj:S->List Slot} (st:S) (hs:SubL Γ (Γj st)):BV Γ km (some st) (finJ Γj):=λC F σ H D x S e k=>by
 cases e
 refine oq12 (S.weak hs) λF' a S'=>?_
 exact k F' σ H S'
theorem b9 (he:EV Γ te oa r):BV Γ (tRet te) oa (finV r):=λC F σ H D x S e k=>he C F σ H _ x S e λv F' H' x1 r1=>k v F' H' (S.toFr.grow x1) r1
theorem bN {ol:Option (List α)} (he:EVL Γ te ol r):BV Γ (tRet te) ol (finL r):=λC F σ H D x S e k=>he C F σ H _ x S e λp vs F' H' x1 hp r1=>k p vs F' H' (S.toFr.grow x1) hp r1
set_option tactic.hygienic true in
theorem gU {φ:Addr->Prop} {xs:List α} (i:Nat) (hi:Γ[i]?=some (.ol r φ xs)):BV Γ (tRet (tVar i)) (some xs) (finL r):=λC F σ H D x S e k=>by
 cases e
 refine oqs6 (S.at_ i _ hi) λp vs h1 h2 h3 h4 h5 h6=>?_
 refine ⟨.ref p,h1,?_⟩
 have eH:H=upd (del H p) p (.lst vs):=by
  funext b; unfold upd del; split
  ·rename_i z; rw [z]; exact h5
  ·rfl
 rw [eH]
 have sd:Sm C.H0 (del H p):=kN S.keep h3 h5 trivial
 refine k p vs F (del H p) ⟨sd,S.low,λb o h=>?_,S.base,S.nt,tbg_del S.tg h5 trivial⟩ cT h6
 rw [bR (al h h4)]; exact S.sub b o h
set_option tactic.hygienic true in
theorem bv_retOD {φ:Addr->Prop} {xs:List (Int × α)} (i:Nat) (hi:Γ[i]?=some (.od r φ xs)):BV Γ (tRet (tVar i)) (some xs) (finD r):=λC F σ H D x S e k=>by
 cases e
 refine oqs6 (S.at_ i _ hi) λp vs h1 h2 h3 h4 h5 h6=>?_
 refine ⟨.ref p,h1,?_⟩
 have eH:H=upd (del H p) p (.dK vs):=by
  funext b; unfold upd del; split
  ·rename_i z; rw [z]; exact h5
  ·rfl
 rw [eH]
 have sd:Sm C.H0 (del H p):=kN S.keep h3 h5 trivial
 refine k p vs F (del H p) ⟨sd,S.low,λb o h=>?_,S.base,S.nt,tbg_del S.tg h5 trivial⟩ cT h6
 rw [bR (al h h4)]; exact S.sub b o h
theorem bT (h:BV Γ (tRet te) o fin):BV Γ (tSeq (tRet te) u) o fin:=λC F σ H D x S e k=>h C F σ H D x S e k
theorem bv_retC {Γf:S->List Slot} {rf:Fc->R->Ends->Prop} {oR:Option R} (h:BV Γ (tRet te) oR rf):BV Γ (tRet te) (oR.bind λa=>some (.rt a)) (finC Γf rf):=λC F σ H D x S e k=>by
 refine oq12 (a9 e) λa e1 e=>?_
 cases e
 exact h C F σ H D a S e1 k
theorem aL {Γf:S->List Slot} (st:S) (hs:SubL Γ (Γf st)):BV Γ km (some st) (finS Γf):=λC F σ H D x S e k=>by
 cases e
 refine oq12 (S.weak hs) λF' a S'=>?_
 exact (k F' σ H S').1
theorem oX {Γf:S->List Slot} {rf:Fc->R->Ends->Prop} (st:S) (hs:SubL Γ (Γf st)):BV Γ km (some (.nx st)) (finC Γf rf):=λC F σ H D x S e k=>by
 cases e
 refine oq12 (S.weak hs) λF' a S'=>?_
 exact (k F' σ H S').1
end
end
section
open PySem PySem.Spec PyProof.Rows
variable [Kn:Kon]
section
variable {Γ:List Slot} {α β S T R:Type} {r:Rp α} {s:Rp β} {rb:Rp β} {ta tb te:TE} {oa:Option α} {K:Z0} {oi:Option Int} {u t tl:TS} {o o':Option T} {fin:Fc->T->Ends->Prop}
theorem oY {J:It} {g:TG} {Γf:S->List Slot} {Γt:S->β->List Slot} {m:Nat} {xs:List β} {body:S->β->Option (Pu.Ctl S R)} {rf:Fc->R->Ends->Prop} {f:S->Option T} {e:R->T} {C:Fc} {F2:Hp} {σ:St} {H:Hp} {D:Ends} {x:T} {st:S} (S2:SR C F2 (Γf st) σ H) (e0:Pu.andThen (Pu.forC body xs st) f e=some x) (k:fin C x D)
  (hw:∀ i F3 s' σ H,SR { C with L:=F2 } F3 (Γf s') σ H->J.stop xs.length H/\∀ hi:i<xs.length,J.go i H/\∀ v H',J.yld i H v H'->∃ F4,Ext F3 H F4 H'/\rb.rel F4 v xs[i])
  (hg:∀ s,GV (Γf s) m g rb (Γt s)) (hb:∀ s x,BV (Γt s x) tl (body s x) (finC Γf rf)) (hr:RFin rf) (he:∀ C x D,fin C (e x) D->rf C x D) (h:∀ s,BV (Γf s) u (f s) fin):tSeq (tFor (λa H R=>R J H) g tl) u D σ H:=by
 have L1:Same C.L F2:=S2.low
 refine ⟨λi m σ H=>∃ F3 s',m=xs.length - i/\i<=xs.length/\SR { C with L:=F2 } F3 (Γf s') σ H/\Pu.andThen (Pu.forC body (xs.drop i) s') f e=some x,⟨xs.length,F2,st,by simp,V5 _,S2.lower,by rw [List.drop_zero]; exact e0⟩,?_⟩
 intro i m σ H zq; refine oq24 zq λF3 s' eq2_ hil S3 e3=>?_; subst eq2_
 by_cases hlt:i<xs.length
 ·refine .inr ⟨((hw i F3 s' σ H S3).2 hlt).1,λσ' H'=>∃ F3 s',i+1<=xs.length/\SR { C with L:=F2 } F3 (Γf s') σ' H'/\Pu.andThen (Pu.forC body (xs.drop (i+1)) s') f e=some x,
   λσ' H' zq=>oq23 zq λF3 s' h1 h2 h3=>⟨xs.length - (i+1),by omega,F3,s',rfl,h1,h2,h3⟩,λv H' y=>?_⟩
  refine oq12 (((hw i F3 s' σ H S3).2 hlt).2 v H' y) λF4 x4 ra=>?_
  rw [<- List.getElem_cons_drop (h:=hlt),Pu.forC] at e3
  unfold Pu.andThen at e3
  refine oq12 (a9 e3) λc1 e4 e5=>?_
  refine oq12 (a9 e4) λc e6 e7=>?_
  refine hg s' _ F4 σ H' v xs[i] _ (S3.grow x4) ra λσ' S4 a=>?_
  refine hb s' xs[i] _ F4 σ' H' _ c S4 e6 ?_
  cases c with
  | nx s2 =>
   have e8:Pu.andThen (Pu.forC body (xs.drop (i+1)) s2) f e=some x:=by unfold Pu.andThen; rw [show Pu.forC body (xs.drop (i+1)) s2=some c1 from e7]; exact e5
   exact λF5 σ5 H5 S5=>⟨⟨F5,s2,hlt,S5,e8⟩,⟨F5,s2,hlt,S5,e8⟩⟩
  | bk s2 =>
   cases e7
   exact λF5 σ5 H5 S5=>h s2 C F5 σ5 H5 D x (S5.raise L1) e5 k
  | rt r2 =>
   cases e7
   cases e5
   exact hr.en (hr.lo L1 (hr.en (nx:=u D) (bk:=D.bk) (ct:=D.ct) (he C r2 D k)))
 ·have ei:i=xs.length:=by exact W9 hil (X8.mp hlt)
  subst ei
  rw [List.drop_length,Pu.forC] at e3
  exact .inl ⟨(hw 0 F3 s' σ H S3).1,h s' C F3 σ H D x (S3.raise L1) e3 k⟩
theorem Walks.at_ {J:It} {F F2 F3:Hp} {xs:List β} {Γ':List Slot} {C:Fc} {σ:St} {H:Hp} (W:Walks J F rb xs) (f2:Same F F2) {i:Nat} (S3:SR { C with L:=F2 } F3 Γ' σ H):J.stop xs.length H/\∀ hi:i<xs.length,J.go i H/\∀ v H',J.yld i H v H'->∃ F4,Ext F3 H F4 H'/\rb.rel F4 v xs[i]:=by
 have fH:Same F H:=f2.trans (S3.low.trans S3.sub)
 exact ⟨W.stop H fH,λhlt=>⟨W.go i H fH hlt,λv H' y=>oq23 (W.yld i H v H' F3 fH hlt y (f2.trans S3.low) S3.sub) λF4 a ha x4 ra=>⟨F4,x4,(Z1.mp ha).2 ▸ ra⟩⟩⟩
theorem nq {wi:TI} {g:TG} {ox:Option (List β)} {Γf:S->List Slot} {Γt:S->β->List Slot} {m:Nat} {body:S->β->Option (Pu.Ctl S R)} {rf:Fc->R->Ends->Prop} {f:S->Option T} {e:R->T} (st:S) (hi:IV Γ wi ox rb) (hs:SubL Γ (Γf st)) (hg:∀ s,GV (Γf s) m g rb (Γt s))
  (hb:∀ s x,BV (Γt s x) tl (body s x) (finC Γf rf)) (hr:RFin rf) (he:∀ C x D,fin C (e x) D->rf C x D) (h:∀ s,BV (Γf s) u (f s) fin):BV Γ (tSeq (tFor wi g tl) u) (ox.bind λxs=>Pu.andThen (Pu.forC body xs st) f e) fin:=by
 intro C F σ H D x S0 e0 k
 refine oq12 (a9 e0) λxs e1 e0=>?_
 exact hi C F σ H _ xs S0 e1 λJ F' H1 x1 W=>oq12 ((S0.grow x1).weak hs) λF2 f2 S2=>oY S2 e0 k (λi F3 s' σ H S3=>W.at_ f2 S3) hg hb hr he h
theorem forS_C {S β T:Type} {body:S->β->Option S} {f:S->Option T} {e:Empty->T}:∀ (xs:List β) (st:S),(Pu.forS body xs st).bind f=Pu.andThen (Pu.forC (λs x=>(body s x).map .nx) xs st) f e:=by
 intro xs
 induction xs with
 | nil=>exact λa=>rfl
 | cons x xs ih =>
  intro st
  show ((body st x).bind λs=>Pu.forS body xs s).bind f=Pu.andThen (((body st x).map Pu.Ctl.nx).bind _) f e
  cases body st x with
  | none=>rfl
  | some s=>exact ih s
theorem bv_nx {Γf:S->List Slot} {o:Option S} {rf:Fc->R->Ends->Prop} (h:BV Γ t o (finS Γf)):BV Γ t (o.map .nx) (finC Γf rf):=λC F σ H D y X e k=>oq12 (V2.mp e) λz e1 e2=>h C F σ H D z X e1 (by rw [<- e2] at k; exact k)
def rfE:Fc->Empty->Ends->Prop:=λa x a=>x.elim
theorem rfE_ok:RFin rfE:=⟨λ{_ _ x _}=>x.elim,λ{_ x _ _ _ _}=>x.elim⟩
theorem bU {wi:TI} {g:TG} {ox:Option (List β)} {Γf:S->List Slot} {Γt:S->β->List Slot} {m:Nat} {body:S->β->Option S} {f:S->Option T} (st:S) (hi:IV Γ wi ox rb) (hs:SubL Γ (Γf st)) (hg:∀ s,GV (Γf s) m g rb (Γt s))
  (hb:∀ s x,BV (Γt s x) tl (body s x) (finS Γf)) (h:∀ s,BV (Γf s) u (f s) fin):BV Γ (tSeq (tFor wi g tl) u) (ox.bind λxs=>(Pu.forS body xs st).bind f) fin :=
 (nq (rf:=rfE) (e:=Empty.elim) st hi hs hg (λs x=>bv_nx (hb s x)) rfE_ok (λa x=>x.elim) h).cast (congrArg ox.bind (funext λxs=>forS_C xs st))
set_option tactic.hygienic true in
theorem bv_forCO {g:TG} {Γf:Addr->S->List Slot} {Γt:Addr->S->β->List Slot} {m:Nat} {xs:List β} {body:S->β->Option (Pu.Ctl S R)} {rf:Fc->R->Ends->Prop} {f:S->Option T} {e:R->T} (st:S) (j:Nat) {φ:Addr->Prop} (hj:Γ[j]?=some (.ol rb φ xs)) (hs:∀ p,SubL (Γ.set j (.ol rb (λb=>b=p) xs)) (Γf p st)) (hjf:∀ p s,(Γf p s)[j]?=some (.ol rb (λb=>b=p) xs)) (hg:∀ p s,GV (Γf p s) m g rb (Γt p s))
  (hb:∀ p s x,BV (Γt p s x) tl (body s x) (finC (Γf p) rf)) (hr:RFin rf) (he:∀ C x D,fin C (e x) D->rf C x D) (h:∀ p s,BV (Γf p s) u (f s) fin):BV Γ (tSeq (tFor (om K (tVar j)) g tl) u) (Pu.andThen (Pu.forC body xs st) f e) fin:=by
 intro C F σ H D x S0 e0 k
 refine oqs6 (S0.at_ j _ hj) λp vs h1 h2 h3 h4 h5 h6=>?_
 have S1:SR C F (Γ.set j (.ol rb (λb=>b=p) xs)) σ H:=by
  have eH:H=upd H p (.lst vs):=by
   funext b; unfold upd; split
   ·rename_i z; rw [z]; exact h5
   ·rfl
  rw [eH]
  exact S0.chg hj rfl h1 h3 h4 rfl ⟨p,vs,rfl,rfl,h3,h4,ai,h6⟩
 refine oq12 (S1.weak (hs p)) λF2 f2 S2=>?_
 refine ⟨.ref p,h1,p,rfl,⟨vs,SqL.of h5⟩,oY S2 e0 k (λi F3 s' σ H S3=>?_) (hg p) (hb p) hr he (h p)⟩
 refine oqs6 (S3.at_ j _ (hjf p s')) λp3 vs3 k1 k2 k3 k4 k5 k6=>?_
 cases k2
 refine ⟨⟨vs3,SqL.of k5,by rw [k6.length]; exact nz6 _⟩,λhlt=>oq12 (eE k6 (Z6 hlt)) λw g1 g2=>⟨⟨vs3,w,SqL.of k5,g1⟩,λv H' y=>⟨F3,?_⟩⟩⟩
 rw [y.1,Z3 ((y.2 vs3 (SqL.of k5)).symm.trans g1)]
 exact ⟨Ext.refl S3.sub,g2⟩
theorem qW {tt:TT} {Γf:S->List Slot} {tf:S->Option Bool} {body:S->Option S} {f:S->Option T} (n:Nat) (st:S) (hs:SubL Γ (Γf st)) (ht:∀ s,ET (Γf s) tt (tf s))
  (hb:∀ s,BV (Γf s) tl (body s) (finS Γf)) (h:∀ s,BV (Γf s) u (f s) fin):BV Γ (tSeq (tWhile tt tl) u) ((Pu.whS tf body n st).bind f) fin:=by
 intro C F σ H D x S0 e0 k
 refine oq12 (S0.weak hs) λF2 f2 S2=>?_
 refine ⟨λm σ H=>∃ F3 s',SR C F3 (Γf s') σ H/\(Pu.whS tf body m s').bind f=some x,⟨n,F2,st,S2,e0⟩,?_⟩
 intro m σ H zq; refine oq22 zq λF3 s' S3 e3=>?_
 cases m with
 | zero=>exact absurd e3 (by simp [Pu.whS])
 | succ m =>
  rw [Pu.whS] at e3
  refine oq12 (a9 e3) λc1 e4 e5=>?_
  refine oq12 (a9 e4) λb e6 e7=>?_
  refine ht s' C F3 σ H _ b S3 e6 λF4 H4 x4=>?_
  cases b with
  | false =>
   rw [if_neg Z2] at e7 ⊢
   cases e7
   exact h s' C F4 σ H4 D x (S3.grow x4) e5 k
  | true =>
   rw [if_pos rfl] at e7 ⊢
   refine oq12 (a9 e7) λc e8 e9=>?_
   refine ⟨λσ' H'=>∃ F3 s',SR C F3 (Γf s') σ' H'/\(Pu.whS tf body m s').bind f=some x,λσ' H' zq=>oq22 zq λF3 s' h1 h2=>⟨m,by exact W4 _,F3,s',h1,h2⟩,hb s' C F4 σ H4 _ c (S3.grow x4) e8 ?_⟩
   exact λF5 σ5 H5 S5=>⟨⟨F5,c,S5,by rw [e9]; exact e5⟩,⟨F5,c,S5,by rw [e9]; exact e5⟩⟩
section
variable {φ:Addr->Prop} {xs:List α} {kvs:List (Int × α)}
set_option tactic.hygienic true in
theorem cN {f:List α->Option T} (i:Nat) (hi:Γ[i]?=some (.ol r φ xs)) (he:EV Γ te oa r) (h:∀ ys,BV (Γ.set i (.ol r φ ys)) u (f ys) fin):BV Γ (tSeq (tDrop (tBM K "list" rAppend (tVar i) (bg te tNil))) u) (oa.bind λa=>(Pu.app xs a).bind f) fin:=by
 intro C F σ H D x S e k
 refine oq12 (a9 e) λa e1 e=>?_
 refine oq12 (a9 e) λys e2 e=>?_
 refine oqs6 (S.at_ i _ hi) λp vs h1 h2 h3 h4 h5 h6=>?_
 refine ⟨.ref p,h1,.inl ⟨rfl,vs,SqL.of h5⟩,he C F σ H _ a S e1 λv F' H' x1 r1=>?_⟩
 have S':=S.grow x1
 refine oqs6 (S'.at_ i _ hi) λp' vs' q1 q2 q3 q4 q5 q6=>?_
 rw [h1] at q1
 cases q1
 unfold Pu.app at e2
 split at e2
 ·rename_i hl
  cases e2
  refine ⟨p,vs',v,rfl,rfl,q5,by rw [q6.length,X9]; exact hl,?_⟩
  exact h _ C F' σ _ D x (S'.chg hi rfl h1 q3 q4 rfl ⟨p,_,rfl,q2,q3,q4,ai,Paired.app q6 (.cons r1 .nil)⟩) e k
 ·cases e2
theorem bv_pop0 {f:α->List α->Option T} (i j:Nat) (hi:Γ[i]?=some (.ol r φ xs)) (hij:i≠j) (h:∀ a ys,BV ((Γ.set i (.ol r φ ys)).set j (.fr r a)) u (f a ys) fin):BV Γ (tSeq (tAsg (tBM K "list" qI (tVar i) (bg (tC (.int 0)) tNil)) (d6 j)) u) (match xs with | []=>none | a :: ys=>f a ys) fin:=by
 intro C F σ H D x S e k
 refine oqs6 (S.at_ i _ hi) λp vs h1 h2 h3 h4 h5 h6=>?_
 cases h6 with
 | nil=>cases e
 | @cons v a vs ys q6 q7 =>
  refine ⟨.ref p,h1,.inl ⟨rfl,_,SqL.of h5⟩,p,v :: vs,0,0,v,rfl,rfl,h5,by decide,by decide,?_,rfl,?_⟩
  ·unfold seqIndex?
   simp
  ·exact h a ys C F _ _ D x ((S.chg (s':=.ol r φ ys) hi rfl h1 h3 h4 rfl ⟨p,_,rfl,h2,h3,h4,ai,q7⟩).setF j q6) e k
def mi (Γ:List Slot) (to:TE) (i:Nat):Prop:=∀ C F σ H Q v,SR C F Γ σ H->σ[i]?=some (some v)->Q v H->to σ H Q
theorem own_var (i:Nat):mi Γ (tVar i) i:=λx x x x x v x h q=>⟨v,h,q⟩
theorem bv_setAtG {to:TE} {f:List α->Option T} (i:Nat) (ho:mi Γ to i) (hi:Γ[i]?=some (.ol r φ xs)) (hk:EV Γ tb oi rInt) (he:EV Γ te oa r) (h:∀ ys,BV (Γ.set i (.ol r φ ys)) u (f ys) fin) :
  BV Γ (tSeq (tAsg te (gSub to tb rSetL)) u) (oa.bind λa=>oi.bind λk=>(ixN xs.length k).bind λj=>f (xs.set j a)) fin:=by
 intro C F σ H D x S e k
 refine oq12 (a9 e) λa e1 e=>?_
 refine oq12 (a9 e) λn e2 e=>?_
 refine oq12 (a9 e) λj e3 e=>?_
 refine he C F σ H _ a S e1 λv F' H' x1 r1=>?_
 refine oq12 (S.at_ i _ hi) λo h1 b=>?_
 obtain ⟨p,rfl⟩:∃ p,o=some (.ref p):=by
  refine oq12 (S.at_ i _ hi) λo' h1' zz=>oq22 zz λp vs eq4_ b=>?_; subst eq4_
  rw [h1] at h1'
  exact ⟨p,Z3 h1'⟩
 refine ho C F' σ H' _ (.ref p) (S.grow x1) h1 (hk C F' σ H' _ n (S.grow x1) e2 λw F2 H2 x2 r2=>?_)
 have S':=(S.grow x1).grow x2
 refine oqs6 (S'.at_ i _ hi) λp' vs' q1 q2 q3 q4 q5 q6=>?_
 rw [h1] at q1
 cases q1
 refine ⟨p,vs',n,j,rfl,r2,q5,by rw [q6.length]; exact e3,?_⟩
 exact h _ C F2 σ _ D x (S'.chg hi rfl h1 q3 q4 rfl ⟨p,_,rfl,q2,q3,q4,ai,Paired.setB (r.mono x2.ff r1) j q6⟩) e k
theorem gl {f:List α->Option T} (i:Nat) (hi:Γ[i]?=some (.ol r φ xs)) (hk:EV Γ tb oi rInt) (he:EV Γ te oa r) (h:∀ ys,BV (Γ.set i (.ol r φ ys)) u (f ys) fin) :
  BV Γ (tSeq (tAsg te (gSub (tVar i) tb rSetL)) u) (oa.bind λa=>oi.bind λk=>(ixN xs.length k).bind λj=>f (xs.set j a)) fin:=bv_setAtG i (own_var i) hi hk he h
set_option tactic.hygienic true in
theorem bv_putG {to:TE} {f:List (Int × α)->Option T} (i:Nat) (ho:mi Γ to i) (hi:Γ[i]?=some (.od r φ kvs)) (hk:EV Γ tb oi rInt) (he:EV Γ te oa r) (h:∀ ys,BV (Γ.set i (.od r φ ys)) u (f ys) fin) :
  BV Γ (tSeq (sDPut to tb te) u) (oa.bind λa=>oi.bind λk=>if kvs.length<16777216 then f (Pu.put kvs k a) else none) fin:=by
 intro C F σ H D x S e k
 refine oq12 (a9 e) λa e1 e=>?_
 refine oq12 (a9 e) λn e2 e=>?_
 split at e
 case isFalse=>cases e
 rename_i hl
 refine he C F σ H _ a S e1 λv F' H' x1 r1=>?_
 refine oq12 (S.at_ i _ hi) λo h1 zz=>oq22 zz λp vs eq4_ b=>?_; subst eq4_
 refine ho C F' σ H' _ (.ref p) (S.grow x1) h1 (hk C F' σ H' _ n (S.grow x1) e2 λw F2 H2 x2 r2=>?_)
 have S':=(S.grow x1).grow x2
 refine oqs6 (S'.at_ i _ hi) λp' vs' q1 q2 q3 q4 q5 q6=>?_
 rw [h1] at q1
 cases q1
 cases r2
 refine (oi23 p _ rfl (DPut.k (k:=O4 n) q5 (by rw [q6.length,X9]; exact hl)) ?_)
 exact h _ C F2 σ _ D x (S'.chg hi rfl h1 q3 q4 rfl ⟨p,_,rfl,q2,q3,q4,ai,qU (r.mono x2.ff r1) q6⟩) e k
theorem bv_put {f:List (Int × α)->Option T} (i:Nat) (hi:Γ[i]?=some (.od r φ kvs)) (hk:EV Γ tb oi rInt) (he:EV Γ te oa r) (h:∀ ys,BV (Γ.set i (.od r φ ys)) u (f ys) fin) :
  BV Γ (tSeq (sDPut (tVar i) tb te) u) (oa.bind λa=>oi.bind λk=>if kvs.length<16777216 then f (Pu.put kvs k a) else none) fin:=bv_putG i (own_var i) hi hk he h
end
theorem evd_new:EVD Γ qJ (some []) r:=λC F σ H Q kvs S e k=>by
 cases e
 exact λp hp=>k p [] F H (Ext.refl S.sub) hp .nil
theorem evd_one (hk:EV Γ ta oi rInt) (hv:EV Γ tb oa r):EVD Γ (tDisp [(ta,tb)]) (oi.bind λi=>oa.bind λa=>some [(i,a)]) r:=by
 intro C F σ H Q kvs S e k
 refine oq12 (a9 e) λi e1 e=>?_
 refine oq12 (a9 e) λa e2 e=>?_
 cases e
 intro p hp
 have S1:=S.grow (Ext.newH (o:=.dK []) S.sub hp)
 have go:ta σ (upd H p (.dK [])) λx H1=>tb σ H1 λy H2=>H2 p=some (.dK [])/\∃ kvs:List (Key × V),[(x,y)]=kvs.map (λkv=>(kV kv.1,kv.2))/\kvs.length<=15/\Q (.ref p) (upd H2 p (.dK (ib [] kvs))):=by
  refine EV.two (q:=λx y H2=>H2 p=some (.dK [])/\∃ kvs:List (Key × V),[(x,y)]=kvs.map (λkv=>(kV kv.1,kv.2))/\kvs.length<=15/\Q (.ref p) (upd H2 p (.dK (ib [] kvs)))) hk hv S1 e1 e2 λx y F' H' x1 r1 r2=>⟨x1.hh.kp p (.dK []) trivial ai,[(.inl i,y)],by rw [r1]; rfl,by simp,?_⟩
  have Fp:F p=none:=S.sub.free hp
  have Fp':F' p=none:=by
   cases q:F' p with
   | none=>rfl
   | some o =>
    rcases x1.nw p o q with z | z
    ·rw [Fp] at z; cases z
    ·rw [ai] at z; cases z
  have eH:upd H' p (.dK (ib [] [(O4 i,y)]))=upd (del H' p) p (.dK [(O4 i,y)]):=by
   funext b; unfold upd del; split <;> rfl
  rw [eH]
  refine k p _ F' (del H' p) ⟨kN ((kL (o:=.dK []) hp trivial).trans x1.hh) hp (x1.hh.kp p (.dK []) trivial ai) trivial,x1.ff,λb o h=>?_,λb o h=>?_,x1.nt⟩ cT (.cons ⟨rfl,r2⟩ .nil)
  ·rw [bR (al h Fp')]; exact x1.sub b o h
  ·rcases x1.nw b o h with z | z
   ·exact .inl z
   ·have n:b≠p:=by rintro rfl; rw [ai] at z; cases z
    rw [am n] at z; exact .inr z
 exact go
end
section
variable {P:X5} {w:World} {K:Z0} {mg:Str->Option Value} {base:Heap} {x:Str} {st:Stmt} {N ps:List Str} {k:Nat} {τ γ:Type} {ra:RpA τ} {r:Rp γ}
theorem SR.begin_ {F H:Hp} {vs:List V} {a:τ} {n:Nat} (sb:Same F H) (nt:NT F) (tg:TbG H) (h:ra.rel F vs a) (hn:N.length - vs.length=n):SR ⟨H,F,F⟩ F (ra.slots a++V1 n .any) (start N vs) H:=by
 refine oq02 (ra.ok h) λl g=>?_
 have noown:∀ (i:Nat) s,(ra.slots a++V1 n .any)[i]?=some s->s.own=false:=λi s h=>by
  by_cases hi:i<(ra.slots a).length
  ·rw [X4 hi] at h; exact (g i s h).1
  ·rw [W0 (by exact X8.mp hi)] at h
   have:=W6 h
   rw [E9] at this
   rw [this.2]; rfl
 refine ⟨⟨Sm.refl _,Same.refl _,sb,λb o h=>.inl h,nt,tg⟩,?_,λi s hs=>?_,λi j s t p h1 h2 o1 o2 x x=>?_⟩
 ·unfold start
  rw [W5,W5,Y0,J0,J0,l,<- hn,l]
 ·unfold start
  by_cases hi:i<(ra.slots a).length
  ·rw [X4 hi] at hs
   refine oq02 (g i s hs) λx zz=>oq12 zz λv g1 g2=>?_
   exact (oi12 (some v) (by rw [X4 (by simp [l,hi]),Z7,g1]; rfl) (g2 H H))
  ·rw [W0 (by exact X8.mp hi)] at hs
   have hm:=W6 hs
   rw [E9] at hm
   have hlt:=(Z1.mp hs).1
   rw [J0] at hlt
   rw [hm.2]
   exact (oi12 none (by rw [W0 (by simp; exact nz4 (nz3 l) (X8.mp hi)),Y0,List.getElem?_replicate,if_pos (by lia)]) trivial)
 ·rw [noown i s h1] at o1; cases o1
noncomputable abbrev fR (P:X5) (w:World) (K:Z0) (mg:Str->Option Value) (base:Heap) (x:Str) (st:Stmt) (N:List Str) (k:Nat) (G:TS->Prop):Prop :=
 ∀ (f:Addr) (cdv:Value) (A:Around) (outer:List Env) (s:Shared) (H:Hp) (E:XK),Room k (A.deeper (envOfC x (ae st) s.heap.objs.size f cdv))->∃ t,PSs (cxOf CX0 P w K mg base N x (ae st) f cdv A outer s H E).nox (aW st) t/\G t
theorem av.pV {f:τ->Option γ} {n:Nat} (D:av K mg x st ps) (S:FnScope N ps (ae st)) (hl:∀ a,(ra.slots a).length=ps.length) (hn:N.length - ps.length=n)
  (h:fR P w K mg base x st N k λt=>∀ a,BV (ra.slots a++V1 n .any) t (f a) (finV r)):Has P w K mg base (k+1) x ps (spV ra r f):=by
 refine D.has S (λvs H Q E h=>?_) λfa cdv A outer s H vs Q E hr hsp=>?_
 ·refine oq35 h λF a c b b b h1 b=>?_; rw [(ra.ok h1).1,hl]
 ·refine oq12 (h fa cdv A outer s H E hr) λt h1 h2=>?_
  refine oq36 hsp λF a c sb nt tg hr' hf q=>?_
  refine (oi12 t h1 (h2 a _ F _ H _ c (SR.begin_ sb nt tg hr' (by rw [(ra.ok hr').1,hl]; exact hn)) hf ?_))
  exact λv F' H' fr rv=>q v F' H' ⟨fr.keep,fr.low,fr.sub,fr.base,λb=>fr.nt⟩ rv
theorem av.pL {f:τ->Option (List γ)} {n:Nat} (D:av K mg x st ps) (S:FnScope N ps (ae st)) (hl:∀ a,(ra.slots a).length=ps.length) (hn:N.length - ps.length=n)
  (h:fR P w K mg base x st N k λt=>∀ a,BV (ra.slots a++V1 n .any) t (f a) (finL r)):Has P w K mg base (k+1) x ps (spL ra r f):=by
 refine D.has S (λvs H Q E h=>?_) λfa cdv A outer s H vs Q E hr hsp=>?_
 ·refine oq35 h λF a c b b b h1 b=>?_; rw [(ra.ok h1).1,hl]
 ·refine oq12 (h fa cdv A outer s H E hr) λt h1 h2=>?_
  refine oq36 hsp λF a c sb nt tg hr' hf q=>?_
  refine (oi12 t h1 (h2 a _ F _ H _ c (SR.begin_ sb nt tg hr' (by rw [(ra.ok hr').1,hl]; exact hn)) hf ?_))
  exact λp vs F' H' fr hp rv=>q p vs F' H' ⟨fr.keep,fr.low,fr.sub,fr.base,λb=>fr.nt⟩ hp rv
theorem av.pD {f:τ->Option (List (Int × γ))} {n:Nat} (D:av K mg x st ps) (S:FnScope N ps (ae st)) (hl:∀ a,(ra.slots a).length=ps.length) (hn:N.length - ps.length=n)
  (h:fR P w K mg base x st N k λt=>∀ a,BV (ra.slots a++V1 n .any) t (f a) (finD r)):Has P w K mg base (k+1) x ps (spD ra r f):=by
 refine D.has S (λvs H Q E h=>?_) λfa cdv A outer s H vs Q E hr hsp=>?_
 ·refine oq35 h λF a c b b b h1 b=>?_; rw [(ra.ok h1).1,hl]
 ·refine oq12 (h fa cdv A outer s H E hr) λt h1 h2=>?_
  refine oq36 hsp λF a c sb nt tg hr' hf q=>?_
  refine (oi12 t h1 (h2 a _ F _ H _ c (SR.begin_ sb nt tg hr' (by rw [(ra.ok hr').1,hl]; exact hn)) hf ?_))
  exact λp vs F' H' fr hp rv=>q p vs F' H' ⟨fr.keep,fr.low,fr.sub,fr.base,λb=>fr.nt⟩ hp rv
end
end
open PySem PySem.Spec PyProof.Rows
structure Dt {α:Type} [DecidableEq α] (r:Rp α) where
 dat:α->PyData
 n:Nat
 ok:∀ {K:Z0} {H v a},r.rel H v a->DatV K H (dat a) v
 lay:∀ a,(dat a).canLay0=true
 dep:∀ a,(dat a).depth<=n
 eqv:∀ a b,B1 (dat a) (dat b)=decide (a=b)
noncomputable def dInt:Dt rInt:=⟨.int,0,λh=>by unfold DatV; exact h,λx=>by rw [C1],λx=>by rw [PyData.depth]; exact nz6 _,λa b=>by rw [B1,X1]; simp⟩
noncomputable def dOp:Dt (rOp rInt):=⟨λa=>match a with | none=>.none | some i=>.int i,0,λ{K H v a} h=>by
  cases a with
  | none=>show DatV K H PyData.none v; unfold DatV; exact h
  | some i=>show DatV K H (PyData.int i) v; unfold DatV; exact h,
 λa=>by cases a <;> (show C1 _=true; rw [C1]),
 λa=>by cases a <;> (show PyData.depth _<=0; rw [PyData.depth]; exact nz6 _),
 λa b=>by cases a <;> cases b <;> (show B1 _ _=_; rw [X1]; simp [B1])⟩
section
variable {α β γ:Type} [DecidableEq α] [DecidableEq β] [DecidableEq γ] {r:Rp α} {s:Rp β}
theorem datVs_of {K:Z0} {H:Hp} (d:Dt r):∀ {vs:List V} {xs:List α},Paired (r.rel H) vs xs->i5 K H (xs.map d.dat) vs:=λp=>by
 induction p with
 | nil=>unfold i5; rfl
 | cons h _ ih=>rw [W1]; unfold i5; exact (oi23 _ _ rfl (d.ok h) ih)
theorem layAll (d:Dt r):∀ xs:List α,C2 (xs.map d.dat)=true:=by
 intro xs
 induction xs with
 | nil=>exact C2.eq_1
 | cons x xs ih=>rw [W1,C2,ih,d.lay]; rfl
theorem depAll (d:Dt r):∀ xs:List α,A8 (xs.map d.dat)<=d.n:=by
 intro xs
 induction xs with
 | nil=>rw [List.map_nil,A8]; exact V5 _
 | cons x xs ih=>rw [W1,A8]; exact Nat.max_le.mpr ⟨d.dep x,ih⟩
theorem eqvAll_of (d:Dt r):∀ xs ys:List α,K6 (xs.map d.dat) (ys.map d.dat)=decide (xs=ys):=by
 intro xs
 induction xs with
 | nil=>intro ys; cases ys <;> simp [K6]
 | cons x xs ih =>
  intro ys
  cases ys with | nil=>simp [K6] | cons y ys=>?_
  rw [W1,W1,K6,ih ys,d.eqv]
  by_cases h:x=y <;> by_cases h':xs=ys <;> simp [h,h']
noncomputable def dL (d:Dt r):Dt (rL r):=⟨λxs=>.list (xs.map d.dat),d.n+1,λ{K H v a} h=>by
  refine oq23 h λp vs eq2_ h1 h2=>?_; subst eq2_
  unfold DatV; exact (oi23 p vs rfl (.inl h1) (datVs_of d h2)),
 λa=>by rw [C1]; exact layAll d a,λa=>by rw [PyData.depth]; have:=depAll d a; exact nz2 this (W4 _),λa b=>by rw [B1]; exact eqvAll_of d a b⟩
noncomputable def dT2 (d:Dt r) (e:Dt s):Dt (rT2 r s):=⟨λx=>.tuple [d.dat x.1,e.dat x.2],max d.n e.n+1,λ{K H v a} h=>by
  refine oq34 h λp x y eq3_ h1 h2 h3=>?_; subst eq3_
  unfold DatV; refine (oi23 p _ rfl (SqT.of h1) ?_)
  unfold i5; refine (oi23 _ _ rfl (d.ok h2) ?_)
  unfold i5; refine (oi23 _ _ rfl (e.ok h3) ?_)
  unfold i5; rfl,
 λa=>by simp [C1,C2,d.lay,e.lay],λa=>by have:=d.dep a.1; have:=e.dep a.2; simp [PyData.depth,A8]; lia,λa b=>by
  rw [B1,K6,K6,K6,d.eqv,e.eqv,X1]
  obtain ⟨a1,a2⟩:=a; obtain ⟨b1,b2⟩:=b
  simp⟩
theorem ev_eqD [Kn:Kon] {Γ:List Slot} {K:Z0} {ta tb:TE} {oa ob:Option α} (d:Dt r) (ha:EV Γ ta oa r) (hb:EV Γ tb ob r) (hn:autoParam (d.n<=60) L2.a0q._auto_1):EV Γ (tOp (rEqD K) ta tb) (oa.bind λa=>ob.bind λb=>some (decide (a=b))) bJ :=
 iG (r:=r) (s:=r) (λF H x y a b c Q sb r1 r2 e k=>by
  cases e
  refine ⟨_,_,d.ok (r.mono sb r1),d.ok (r.mono sb r2),d.lay _,d.lay _,?_,?_⟩
  ·have:=d.dep a; lia
  ·rw [d.eqv]; exact k _ rfl) ha hb
theorem qX [Kn:Kon] {Γ:List Slot} {K:Z0} {ta tb:TE} {oa ob:Option α} (d:Dt r) (ha:EV Γ ta oa r) (hb:EV Γ tb ob r) (hn:autoParam (d.n<=60) L2.a0q._auto_1):EV Γ (tOp (rNeD K) ta tb) (oa.bind λa=>ob.bind λb=>some (!decide (a=b))) bJ :=
 iG (r:=r) (s:=r) (λF H x y a b c Q sb r1 r2 e k=>by
  cases e
  refine ⟨_,_,d.ok (r.mono sb r1),d.ok (r.mono sb r2),d.lay _,d.lay _,?_,?_⟩
  ·have:=d.dep a; omega
  ·rw [d.eqv]; exact k _ rfl) ha hb
end
section
variable [Kn:Kon]
section
variable {Γ:List Slot} {α:Type} {r:Rp α} {ta tb tc:TE} {ox:Option Int} {n m v:Int}
theorem bo (ha:EV Γ ta ox rInt) (hb:EV Γ tb (some n) rInt) (hn:0<n):EV Γ (tOp (rI (λx j=>0<j) λi j=>.int (i % j)) ta tb) (ox.bind λa=>some (a % n)) rInt :=
 (eG ha hb).cast (by unfold Pu.fmod; simp [hn])
theorem cV (ha:EV Γ ta ox rInt) (hb:EV Γ tb (some n) rInt) (hn:0<n/\n<2 ^ 64):EV Γ (tOp (rI (λx j=>0<j/\j<2 ^ 64) λi j=>.int (i / j)) ta tb) (ox.bind λa=>some (a / n)) rInt :=
 (fQ ha hb).cast (by unfold Pu.fdiv; simp only [nza,if_pos hn])
theorem ev_mulT (ha:EV Γ ta ox rInt) (hb:EV Γ tb (some n) rInt) (hn:-(2 ^ 64)<n/\n<2 ^ 64):EV Γ (tOp (rI CMul λi j=>.int (i * j)) ta tb) (ox.bind λa=>some (a * n)) rInt :=
 (fq ha hb).cast (by
  have e:∀ a,Pu.mul a n=some (a * n):=λa=>if_pos (.inr hn)
  simp only [nza,e])
theorem eZ (ha:EV Γ ta (some n) rInt) (hb:EV Γ tb (some m) rInt) (h:Pu.pow n m=some v):EV Γ (tOp (rI CPow λi j=>.int (i ^ j.toNat)) ta tb) (some v) rInt :=
 (ev_pow ha hb).cast (by simp only [nza,h])
section
variable {t u:TT} {a b:Bool}
theorem et_andT (h:ET Γ t (some a)) (h':ET Γ u (some b)):ET Γ (tAnd t u) (some (a && b)):=by
 have:=ng h h'
 cases a <;> exact this
theorem et_orT (h:ET Γ t (some a)) (h':ET Γ u (some b)):ET Γ (tOr t u) (some (a || b)):=by
 have:=et_or h h'
 cases a <;> exact this
theorem ev_andT (h:EV Γ ta (some a) bJ) (h':EV Γ tb (some b) bJ):EV Γ (tAndV ta tb) (some (a && b)) bJ:=by
 have:=ev_and h h'
 cases a <;> exact this
theorem ev_ifxT {x y:α} (ht:ET Γ t (some a)) (ha:EV Γ ta (some x) r) (hb:EV Γ tb (some y) r):EV Γ (tIf t ta tb) (some (if a=true then x else y)) r:=by
 have:=ev_ifx ht ha hb
 cases a <;> exact this
theorem jn {g g':Int->Int->Bool} {x y z:Int} (ha:EV Γ ta (some x) rInt) (hb:EV Γ tb (some y) rInt) (hc:EV Γ tc (some z) rInt):EV Γ (mO (rI0 λi j=>.bl (g i j)) (rI0 λi j=>.bl (g' i j)) ta tb tc) (some (g x y && g' y z)) bJ :=
 (ev_chain ha hb hc).cast (by simp only [nza]; cases g x y <;> rfl)
end
end
def qY (K:Z0):Sp:=λvs H Q x=>∃ (a:Addr) (ns:List Int),vs=[.ref a]/\Ints K H a ns/\ns.length<=63/\TbG H/\∀ H',Q (.bl true) H'
theorem paired_ints {H:Hp}:∀ ns:List Int,Paired (rInt.rel H) (ns.map V.int) ns:=by
 intro ns
 induction ns with
 | nil=>exact .nil
 | cons _ _ ih=>exact .cons rfl ih
noncomputable def ntF (H:Hp):Hp:=λb=>match H b with
 | some (.tbl _)=>none
 | x=>x
set_option tactic.hygienic true in
theorem oZ {H:Hp} {b:Addr} {o:HO} (h:ntF H b=some o):H b=some o/\d7 o:=by
 unfold ntF at h
 split at h
 ·cases h
 ·rename_i x hx
  refine ⟨h,?_⟩
  cases o with
  | tbl ps=>exact absurd h (hx ps)
  | _=>trivial
set_option tactic.hygienic true in
theorem ntF_of {H:Hp} {b:Addr} {o:HO} (h:H b=some o) (n:d7 o):ntF H b=some o:=by
 unfold ntF
 split
 ·rename_i ps e; rw [h] at e; cases e; exact n.elim
 ·exact h
theorem ntF_seq {K:Z0} {H:Hp} {a:Addr} {xs:List V} (h:SqL K H a xs):SqL K (ntF H) a xs:=by
 rcases h with (h | ⟨o,h⟩) | h
 ·exact .inl (.inl (ntF_of h trivial))
 ·exact .inl (.inr ⟨o,ntF_of h trivial⟩)
 ·exact .inr h
theorem Fun.law {P:X5} {w:World} {K:Z0} {mg:Str->Option Value} {base:Heap} {st:Stmt} {N:List Str} {p:Str} {k n:Nat} {f:Addr} {fd:K2} {fl:List Int->Option Bool} (F:Fun K "law" "law" st f fd) (S:FnScope N [p] (ae st)) (hn:N.length - 1=n) (hl:∀ ns,ns.length<=63->fl ns=some true)
  (h:fR P w K mg base "law" st N k λt=>∀ a,BV ((aOne (rScr K)).slots a++V1 n .any) t (fl a) (finV bJ)):FnOk P w K mg base CX0 (k+1) f fd [p] (qY K):=by
 refine F.ok S (λvs H Q E h=>?_) (λcdv A outer s H vs Q E hr hsp=>?_)
 ·refine oq22 h λa ns eq2_ x=>?_; subst eq2_; rfl
 ·refine oq12 (h f cdv A outer s H E hr) λt h1 h2=>?_
  refine oq25 hsp λa ns eq2_ hS hlen tg q=>?_; subst eq2_
  refine (oi12 t h1 (h2 ns _ (ntF H) _ H _ true (SR.begin_ (ra:=aOne (rScr K)) (λb o h=>(oZ h).1) (λb ps h=>(oZ h).2) tg ⟨.ref a,rfl,a,_,rfl,ntF_seq hS,paired_ints ns⟩ hn) (hl ns hlen) ?_))
  intro v F' H' _ rv
  cases rv
  exact q H'
@[reducible] noncomputable def kon0:Kon:=⟨[],λx=>""⟩
theorem tbg0 {H:Hp} (h:Only H):@TbG kon0 H:=@TbG.mk kon0 H (λP hP=>nomatch hP) λP ps e=>by
 rcases h P with z | zr1_
 ·rw [z] at e; cases e
 ·refine oq21 zr1_ λo xs z=>?_
  rw [z] at e; cases e
end
end L2
namespace Pu
noncomputable def srtI (ns:List Int):List Int:=ns.mergeSort λa b=>decide (a<=b)
theorem jo (ns:List Int):(srtI ns).Perm ns:=R7 _ _
theorem jK (ns:List Int):(srtI ns).Pairwise (·<=·):=by
 have h:=Q6 (le:=λa b:Int=>decide (a<=b)) (λa b c h1 h2=>by simp at *; exact V7 h1 h2) (λa b=>by simp; lia) ns
 exact h.imp λh=>by simpa using h
noncomputable def sortI (ns:List Int):Option (List Int):=if ns.length<64 then some (srtI ns) else none
noncomputable def lt2 (a b:Int × Int):Bool:=decide (a.1<b.1\/a.1=b.1/\a.2<b.2)
noncomputable def le2 (a b:Int × Int):Bool:=decide (a.1<b.1\/a.1=b.1/\a.2<=b.2)
noncomputable def srtP (ps:List (Int × Int)):List (Int × Int):=ps.mergeSort le2
noncomputable def sortP (ps:List (Int × Int)):Option (List (Int × Int)):=if ps.length<64/\ps.Nodup then some (srtP ps) else none
theorem jp (ps:List (Int × Int)):(srtP ps).Perm ps:=R7 _ _
theorem jq (a b c:Int × Int) (h1:le2 a b=true) (h2:le2 b c=true):le2 a c=true:=by
 unfold le2 at *; simp only [decide_eq_true_eq] at *; lia
theorem jr (a b:Int × Int):(le2 a b || le2 b a)=true:=by
 unfold le2; simp only [A7,decide_eq_true_eq]; lia
theorem gm (ps:List (Int × Int)):(srtP ps).Pairwise λa b=>le2 a b=true:=Q6 jq jr ps
theorem p6 {a b:Int × Int} (h1:le2 a b=true) (h2:le2 b a=true):a=b:=by
 unfold le2 at *; simp only [decide_eq_true_eq] at *
 obtain ⟨a1,a2⟩:=a; obtain ⟨b1,b2⟩:=b
 simp only at *
 have e1:a1=b1:=by lia
 have e2:a2=b2:=by lia
 rw [e1,e2]
theorem cO {α:Type} {le:α->α->Prop} (anti:∀ a b,le a b->le b a->a=b) {l m:List α} (hp:l.Perm m) (hl:l.Pairwise le) (hm:m.Pairwise le):l=m :=
 hp.eq_of_pairwise (λa b x x h1 h2=>anti a b h1 h2) hl hm
end Pu
namespace L2
section
open PySem PySem.Spec PyProof.Rows
variable [Kn:Kon]
theorem nr {ns:List Int}:∀ {vs:List Value},Vals (ns.map V.int) vs->O5 vs ns:=by
 induction ns with
 | nil=>intro vs h; cases h; exact .nil
 | cons n ns ih =>
  intro vs h
  cases h with
  | cons r t=>refine oq11 r λk eq1_=>?_; subst eq1_; exact .cons n k (ih t)
section
variable {X:Cx} {K:Z0}
theorem ny (h:X.K=K) (hu:X.A.units+64<cLine):OpR X (U8 .NotEq) (rNeD K):=by
 subst h
 intro pins s σ H x y v u Q I rx ry h
 refine oq26 h λdx dy h1 h2 c1 c2 dp q=>?_
 refine oq11 (DatV.reads I h1 rx) λas ra=>?_
 refine oq11 (DatV.reads I h2 ry) λbs rb=>?_
 exact SeqAt.compareNe_reads ra rb c1 c2 (by lia) ⟨.bl _,H,I,rfl,q⟩
end
section
variable {prog:X5} {w:World} {A:Around} {E:Value->Shared->Prop} {s:Shared} {κ:SortKind} {c:Nat->Nat->Bool} {vs:List Value}
open PySem.W
noncomputable def dE (vs:List Value) (p:Array Nat):Array Value:=V3 (p.toList.map λi=>vs.getD i M4)
theorem kQ (p:Array Nat):(dE vs p).size=p.size:=by unfold dE; simp
theorem lJ {a:Addr} {n:Nat} {P:PySem.Fin->Shared->Prop} (ho:s.heap.get? a=some (seqObj "list" vs.toArray n)) (h64:vs.length<64) (L:Srt.Lin c vs.length)
  (hk:2<=vs.length->∀ h':Heap,(∀ b o,b≠a->s.heap.get? b=some o->h'.get? b=some o)->∀ Q':SortKind->Shared->Prop,Q' κ { s with heap:=h' }->wpAny (model prog w) A (keyKind' vs.toArray) Q' E { s with heap:=h' })
  (hc:∀ h':Heap,(∀ b o,b≠a->s.heap.get? b=some o->h'.get? b=some o)->∀ i j C,i<vs.length->j<vs.length->C (c i j) { s with heap:=h' }->kas_ask prog w A κ vs i j C { s with heap:=h' })
  (h:∀ p,Srt.Arr vs.length p->Srt.Up c p vs.length->P (.done (.ret .none)) { s with heap:=sortedHeap s.heap a vs (dE vs p) }) :
  wpAny (model prog w) A (N4.«list.sort» ⟨[.ref a],[]⟩) P E s:=by
 have ha:a<s.heap.objs.size:=Y4 ho
 obtain ⟨e1,ho1⟩:∃ e1,(s.heap.update a (Y5 λx=>(#[]:Array Value))).get? a=some (seqObj "list" #[] e1):=⟨_,N8 ho (λx=>#[])⟩
 generalize hh3:((s.heap.update a (Y5 λx=>(#[]:Array Value))).push (seqObj "tuple" vs.toArray 0)).push (seqObj "list" #[] 0)=h3
 have ho6:h3.get? a=some (seqObj "list" #[] e1):=by
  rw [<- hh3]; exact Z5 _ (Z5 _ ho1)
 have keep:∀ b o,b≠a->s.heap.get? b=some o->h3.get? b=some o:=λb o nb q=>by
  rw [<- hh3]
  refine Z5 _ (Z5 _ ?_)
  rw [V4 _ _ _ _ nb]; exact q
 have fin:∀ p,Srt.Arr vs.length p->Srt.Up c p vs.length->P (.done (.ret .none)) { s with heap:=h3.update a (Y5 λx=>dE vs p) }:=λp a1 a2=>by
  rw [<- hh3]; exact h p a1 a2
 rw [list_sort_plain]
 refine Z4 (listItems_at ho rfl ?_)
 refine Z4 (K7 ho rfl ?_ (by rw [Y1,X9]; exact nz5 (nz8 h64 (by decide))) (V5 _))
 refine Z4 (seqEpoch_at ho1 rfl ?_)
 refine Z4 (wpAny_newTuple ?_ (by show vs.length<=_; rw [X9]; exact nz5 (nz8 h64 (by decide))))
 refine Z4 (F7 ?_ (V5 _))
 refine Q3 ?_
 show wpAny (model prog w) A _ P E { s with heap:=((s.heap.update a (Y5 λx=>(#[]:Array Value))).push (seqObj "tuple" vs.toArray 0)).push (seqObj "list" #[] 0) }
 rw [hh3]
 dsimp only
 have hsz:vs.toArray.size=vs.length:=by simp
 by_cases h2:vs.toArray.size<2
 ·rw [if_pos h2,if_pos h2]
  refine Z4 (Y6 ?_)
  rw [StateT.run_pure]
  refine Z4 (Y6 ?_)
  dsimp only
  refine Z4 (seqEpoch_at ho6 rfl ?_)
  refine Z4 (K7 ho6 rfl ?_ (V5 _) (by rw [Array.size_map]; show (pairsOf vs).size<=_; rw [pairsOf_size,X9]; exact M1 (nz5 (nz8 h64 (by decide)))))
  simp only [bne_self_eq_false,P5,if_false]
  have ep:(arrOf (SortSt.mk' general' (vs.toArray.zip vs.toArray) #[] 7 none)).map (·.2)=dE vs (V3 (Z9 vs.length)):=by
   have e:=kas_range (pairsOf vs)
   rw [pairsOf_size] at e
   show (pairsOf vs).map (·.2)=_
   conv=>lhs; rw [<- e]
   unfold dE
   apply Array.toList_inj.mp
   rw [Array.map_map,Array.toList_map]
   exact W8 λi x=>by show (kas_item (pairsOf vs) i).2=_; rw [kas_item_eq]
  refine Y6 ?_
  rw [ep]
  exact fin _ ⟨by simp,by simp⟩ λi j hij hj=>by lia
 ·rw [if_neg h2,if_neg h2]
  have h2':2<=vs.length:=by exact nz4 (X8.mp h2) (nz3 hsz)
  refine Z4 (hk h2' h3 keep _ ?_)
  have ok:=Srt.ok_sort (c:=c) (n:=vs.length) L (by lia)
  refine Z4 (T0 (kat_run (κ:=κ) (Q:=λst' s'=>s'={ s with heap:=h3 }/\∃ p:Array Nat,Srt.Arr vs.length p/\Srt.Up c p vs.length/\arrOf st'=p.map (kas_item (vs.toArray.zip vs.toArray))/\failedOf st'=none)
   (G:=λp s'=>s'={ s with heap:=h3 }/\Srt.Arr vs.length p/\Srt.Up c p vs.length) rfl h2' h64 (λp st' s' x b2 b3 b4=>⟨b4.1,p,b4.2.1,b4.2.2,b2,b3⟩) (Srt.Ok.wp (hc h3 keep) (λp hp=>⟨rfl,hp⟩) ok)) ?_ λx x e=>e)
  rintro ⟨⟨⟩,st'⟩ s' ⟨rfl,p,b1,b2,b3,b4⟩
  dsimp only
  have hout:(arrOf st').map (·.2)=dE vs p:=kat_snds rfl b3
  rw [hout]
  refine Z4 (seqEpoch_at ho6 rfl ?_)
  refine Z4 (K7 ho6 rfl ?_ (V5 _) (by rw [kQ,b1.sz,X9]; exact M1 (nz5 (nz8 h64 (by decide)))))
  rw [b4]
  simp only [bne_self_eq_false,P5,if_false]
  exact Y6 (fin p b1 b2)
theorem qZ {l:Addr} {Q:Value->Shared->Prop} (hl:s.heap.IsList l vs.toArray) (h64:vs.length<64) (L:Srt.Lin c vs.length)
  (hk:2<=vs.length->∀ h':Heap,(∀ b o,s.heap.get? b=some o->h'.get? b=some o)->∀ Q':SortKind->Shared->Prop,Q' κ { s with heap:=h' }->wpAny (model prog w) A.in1.in1 (keyKind' vs.toArray) Q' E { s with heap:=h' })
  (hc:∀ h':Heap,(∀ b o,s.heap.get? b=some o->h'.get? b=some o)->∀ i j C,i<vs.length->j<vs.length->C (c i j) { s with heap:=h' }->kas_ask prog w A.in1.in1 κ vs i j C { s with heap:=h' })
  (h:∀ p,Srt.Arr vs.length p->Srt.Up c p vs.length->Q (.ref (s.heap.objs.size+1)) { s with heap:=sortedAll s.heap vs (dE vs p) }) :
  wpAny (model prog w) A (call (.builtin "sorted") [.ref l]) Q E s:=by
 refine Calls.call_function_entry kind_sorted plain_sorted entry_sorted (args_sorted1 _) ?_
 unfold N4.«sorted»
 refine Z4 (m:=checkCount "sorted" 1 1 _) (Y6 ?_)
 refine Z4 (collect_list hl ?_ (by rw [X9]; exact nz5 (nz8 h64 (by decide))))
 refine Z4 (F7 ?_ (by rw [X9]; exact nz5 (nz8 h64 (by decide))))
 have hsz:((s.heap.push (seqObj "list" #[] 0)).update s.heap.objs.size (Y5 (·++vs.toArray))).objs.size=s.heap.objs.size+1:=by
  rw [Heap.size_update,size_push']
 have hoL:(((s.heap.push (seqObj "list" #[] 0)).update s.heap.objs.size (Y5 (·++vs.toArray))).push (seqObj "list" vs.toArray 0)).get? (s.heap.objs.size+1)=some (seqObj "list" vs.toArray 0):=by
  rw [<- hsz]; exact X3 _ rfl
 have keep:∀ b o,s.heap.get? b=some o->b≠s.heap.objs.size+1/\(((s.heap.push (seqObj "list" #[] 0)).update s.heap.objs.size (Y5 (·++vs.toArray))).push (seqObj "list" vs.toArray 0)).get? b=some o:=λb o q=>by
  have hlt:b<s.heap.objs.size:=Y4 q
  refine ⟨nz7 (J8 hlt),Z5 _ ?_⟩
  rw [V4 _ _ _ _ (nz7 hlt)]
  exact Z5 _ q
 show wpAny _ _ _ _ _ { s with heap:=((s.heap.push (seqObj "list" #[] 0)).update s.heap.objs.size (Y5 (·++vs.toArray))).push (seqObj "list" vs.toArray 0) }
 rw [hsz]
 refine Z4 (Q3 (wpAny_call_entry slot_list_sort ⟨_,hoL,rfl⟩ entry_list_sort
  (lJ (s:={ s with heap:=((s.heap.push (seqObj "list" #[] 0)).update s.heap.objs.size (Y5 (·++vs.toArray))).push (seqObj "list" vs.toArray 0) }) hoL h64 L
   (λh2 h' k=>hk h2 h' λb o q=>k b o (keep b o q).1 (keep b o q).2) (λh' k=>hc h' λb o q=>k b o (keep b o q).1 (keep b o q).2) λp a1 a2=>(oi12 _ rfl ?_)) (args_list_sort _)))
 exact Y6 (oi12 _ rfl (h p a1 a2))
end
section
variable {X:Cx} {K:Z0}
open PySem.W
theorem p7 (a b:Int × Int):HT.lexLt [a.1,a.2] [b.1,b.2]=Pu.lt2 a b:=by
 unfold Pu.lt2 HT.lexLt HT.lexLt HT.lexLt
 by_cases h:a.1=b.1
 ·rw [if_pos h]
  by_cases h':a.2=b.2
  ·rw [if_pos h',X1]; simp; lia
  ·rw [if_neg h',X1]; simp; lia
 ·rw [if_neg h,X1]; simp; lia
def fS (h:Heap) (vs:List Value) (ps:List (Int × Int)):Prop:=Paired (λv p=>∃ a o xs n t u,v=T1 a/\h.get? a=some o/\o.cls=.type "tuple"/\o.data=.seq xs n/\xs=#[Q9 p.1 t,Q9 p.2 u]) vs ps
theorem fS.kept {h h':Heap} {vs:List Value} {ps:List (Int × Int)} (p:fS h vs ps) (k:∀ b o,h.get? b=some o->h'.get? b=some o):fS h' vs ps:=Paired.imp2 (λx x zq=>oq63 zq λa o xs n t u e1 e2 e3=>(oi63 a o xs n t u e1 (k _ _ e2) e3)) p
theorem fS.tups {h:Heap}:∀ {vs:List Value} {ps:List (Int × Int)},fS h vs ps->∃ fs,KatTups h vs fs/\fs.length=ps.length/\∀ v∈fs,∃ i t,v=Q9 i t:=λp=>by
 induction p with
 | nil=>exact (oi13 ([]) trivial rfl (λx h=>nomatch h))
 | cons z r ih =>
  refine oq65 z λa o xs n t u e1 e2 e3 e4 e5=>?_
  refine oq13 ih λfs g1 g2 g3=>?_
  subst e1 e5
  refine (oi13 (_ :: fs) (KatTups.cons e2 e3 e4 rfl g1) (by simp [g2]) (λv hv=>?_))
  rcases Z8.mp hv with rfl | hv
  ·exact (oi21 _ _ rfl)
  ·exact g3 v hv
theorem mj {prog:X5} {w:World} {A:Around} {s:Shared} {vs:List Value} {ps:List (Int × Int)} (p:fS s.heap vs ps) {i j:Nat} {C:Bool->Shared->Prop} (hi:i<vs.length) (hj:j<vs.length) (h:C (Pu.lt2 (ps.getD i (0,0)) (ps.getD j (0,0))) s) :
  kas_ask prog w A (tuples' true) vs i j C s:=by
 have hl:vs.length=ps.length:=B5 p
 have at':∀ k,k<vs.length->∃ a o xs n t u,vs.getD k M4=T1 a/\s.heap.get? a=some o/\o.data=.seq xs n/\xs=#[Q9 (ps.getD k (0,0)).1 t,Q9 (ps.getD k (0,0)).2 u]:=λk hk=>by
  have zq:=gj p (Z6 hk)
  refine oq12 zq λy e zz=>oq65 zz λa o xs n t u e1 e2 e3 e4 e5=>?_
  have h1:vs.getD k M4=vs[k]:=by simp [hk]
  have h2:ps.getD k (0,0)=y:=by simp [e]
  rw [h1,h2]
  exact (oi64 a o xs n t u e1 e2 e4 e5)
 refine oq64 (at' i hi) λa o xs n t u e1 e2 e3 e4=>?_
 refine oq64 (at' j hj) λa' o' xs' n' t' u' f1 f2 f3 f4=>?_
 unfold kas_ask
 rw [e1,f1]
 generalize ps.getD i (0,0)=x at *
 generalize ps.getD j (0,0)=y at *
 subst e4 f4
 refine kat_lt e2 e3 f2 f3 ?_
 refine kat_cons (wpAny_eqBool_int ?_)
 have second:x.1=y.1->KatLex prog w A true (decide ((#[Q9 x.1 t,Q9 x.2 u]:Array Value).size<(#[Q9 y.1 t',Q9 y.2 u']:Array Value).size)) C [(Q9 x.2 u,Q9 y.2 u')] 1 s:=λh1=>by
  refine kat_cons (wpAny_eqBool_int ?_)
  by_cases h2:x.2=y.2
  ·rw [show (x.2 == y.2)=true by simpa using h2]
   refine kat_yes (kat_nil ?_)
   have e:Pu.lt2 x y=false:=by unfold Pu.lt2; rw [decide_eq_false_iff_not]; lia
   rw [e] at h
   exact h
  ·rw [show (x.2 == y.2)=false by simpa using h2]
   refine kat_no (kat_one _ _ ?_)
   refine lt_int ?_
   have e:Pu.lt2 x y=decide (x.2<y.2):=by unfold Pu.lt2; rw [X1]; simp; lia
   rw [e] at h
   exact h
 by_cases h1:x.1=y.1
 ·rw [show (x.1 == y.1)=true by simpa using h1]
  exact kat_yes (second h1)
 ·rw [show (x.1 == y.1)=false by simpa using h1]
  refine kat_no ?_
  refine oneLt_int ?_
  have e:Pu.lt2 x y=decide (x.1<y.1):=by unfold Pu.lt2; rw [X1]; simp; lia
  rw [e] at h
  exact h
theorem mo {ps:List (Int × Int)} (hn:ps.Nodup):Srt.Lin (λi j=>Pu.lt2 (ps.getD i (0,0)) (ps.getD j (0,0))) ps.length:=by
 refine ⟨λi a=>?_,λi j k a a a h1 h2=>?_,λi j hi hj hne h=>?_⟩
 ·unfold Pu.lt2; rw [decide_eq_false_iff_not]; lia
 ·unfold Pu.lt2 at *; rw [decide_eq_true_eq] at *; lia
 ·have ne:ps.getD i (0,0)≠ps.getD j (0,0):=by
   intro e
   have e1:ps.getD i (0,0)=ps[i]:=by simp [hi]
   have e2:ps.getD j (0,0)=ps[j]:=by simp [hj]
   rw [e1,e2] at e
   exact hne ((C7 hn).mp e)
  generalize ps.getD i (0,0)=x at *
  generalize ps.getD j (0,0)=y at *
  unfold Pu.lt2 at *
  rw [decide_eq_false_iff_not] at h
  rw [decide_eq_true_eq]
  obtain ⟨x1,x2⟩:=x; obtain ⟨y1,y2⟩:=y
  have:¬ (x1=y1/\x2=y2):=λz=>ne (by rw [z.1,z.2])
  simp only at *
  lia
def rSortP (K:Z0):List V->Hp->VK->Prop:=λxs H Q=>∃ p vs ps,xs=[.ref p]/\SqL K H p vs/\Paired ((rT2 rInt rInt).rel H) vs ps/\ps.length<64/\ps.Nodup/\∀ q (ix:List Nat),H q=none->(∀ i∈ix,i<vs.length)->ix.map (λi=>ps.getD i (0,0))=Pu.srtP ps->Q (.ref q) (upd H q (.lst (ix.map λi=>vs.getD i .non)))
theorem Vals.pairs {X:Cx} {pins:List (Addr × Obj)} {σ:St} {H:Hp} {s:Shared} (I:Inv X pins σ H s):∀ {vs:List V} {its:List Value} {ps:List (Int × Int)},Vals vs its->Paired ((rT2 rInt rInt).rel H) vs ps->fS s.heap its ps:=λ{vs its ps} p0 p1=>by
 induction p0 generalizing ps with
 | nil=>cases p1; exact .nil
 | cons r t ih =>
  cases p1 with
  | cons z q =>
   refine .cons ?_ (ih q)
   refine oq34 z λp a b e1 e2 e3 e4=>?_
   subst e1
   cases r
   cases e3
   cases e4
   refine oq02 ((show bS X.prog X.w H s.heap p (.tup [.int _,.int _]) from I.hok p _ e2)) λx zz=>oq12 zz λits' rv zz=>oq13 zz λo h1 h2 zz=>oq11 zz λn h3=>?_
   cases rv with
   | cons r1 rv =>
    cases rv with
    | cons r2 rv =>
     cases rv
     refine oq11 r1 λt1 eq1_=>?_; subst eq1_
     refine oq11 r2 λt2 eq1_=>?_; subst eq1_
     exact (oi65 p o _ n t1 t2 rfl h1 h2 h3 rfl)
theorem up_srt {ps:List (Int × Int)} (hn:ps.Nodup) {p:Array Nat} (a:Srt.Arr ps.length p) (u:Srt.Up (λi j=>Pu.lt2 (ps.getD i (0,0)) (ps.getD j (0,0))) p ps.length):p.toList.map (λi=>ps.getD i (0,0))=Pu.srtP ps:=by
 have e0:ps=(Z9 ps.length).map λi=>ps.getD i (0,0):=by
  apply List.ext_getElem
  ·simp
  ·intro i h1 h2; simp [h1]
 refine Pu.cO (le:=λa b=>Pu.le2 a b=true) (λa b=>Pu.p6) ?_ ?_ (Pu.gm ps)
 ·refine List.Perm.trans ?_ (Pu.jp ps).symm
  have:=a.pm.map λi=>ps.getD i (0,0)
  rw [<- e0] at this
  exact this
 ·rw [List.pairwise_iff_getElem]
  intro i j hi hj hij
  have hsz:p.toList.length=ps.length:=by rw [P0]; exact a.sz
  rw [Y0] at hi hj
  have h:=u i j hij (by exact nz1 hj (nz3 hsz))
  have g:∀ k (hk:k<p.toList.length),Srt.at' p k=p.toList[k]:=λk hk=>by
   unfold Srt.at'
   simp at hk
   simp [hk]
  rw [g i hi,g j hj] at h
  rw [List.getElem_map,List.getElem_map]
  unfold Pu.lt2 at h
  unfold Pu.le2
  rw [decide_eq_true_eq] at *
  omega
end
section
variable {X:Cx} {K:Z0}
open PySem.W
theorem nz {α β:Type} {F:α->β->Prop} {l:List α} {m:List β} {x:α} {y:β} (p:Paired F l m) {i:Nat} (hi:i<l.length):F (l.getD i x) (m.getD i y):=by
 obtain ⟨b,e1,e2⟩:=gj p (Z6 hi)
 have h1:l.getD i x=l[i]:=by simp [hi]
 have h2:m.getD i y=b:=by simp [e1]
 rw [h1,h2]; exact e2
theorem dF {α β γ:Type} {F:β->γ->Prop} {f:α->β} {g:α->γ}:∀ {l:List α},(∀ a∈l,F (f a) (g a))->Paired F (l.map f) (l.map g)
 | [],_=>.nil
 | a :: l,h=>.cons (h a (Z8.mpr (.inl rfl))) (dF λb hb=>h b (Z8.mpr (.inr hb)))
theorem re (h:X.K=K):gd X (.builtin "sorted") (rSortP K):=by
 subst h
 intro pins s σ H xs us Q I r hh
 refine oq36 hh λp vs ps eq3_ hS hP h64 hnd q=>?_; subst eq3_
 refine oq12 (vals1 r) λu eq1_ ru=>?_; subst eq1_
 cases ru
 refine oq13 (I.list hS) λits rv ht hz=>?_
 have hl:=rv.length
 have hl2:=hP.length
 have pa:=Vals.pairs I rv hP
 have el:its.length=ps.length:=by exact W9 (nz4 (nz3 hl.symm) (nz3 hl2)) (nz4 (nz3 hl2.symm) (nz3 hl))
 refine qZ (κ:=tuples' true) (c:=λi j=>Pu.lt2 (ps.getD i (0,0)) (ps.getD j (0,0))) ht.isList (by exact nz2 (nz3 el) h64) (by rw [el]; exact mo hnd) (λh2 h' k Q' hq=>?_) (λh' k i j C hi hj hC=>mj (s:={ s with heap:=h' }) (pa.kept k) hi hj hC) λp1 a1 u1=>?_
 ·refine oq13 ((pa.kept k).tups) λfs g1 g2 g3=>?_
  refine kat_kind (s:={ s with heap:=h' }) (T:=.type "int") g1 (by lia) (λv hv=>?_) rfl hq
  refine oq21 (g3 v hv) λi t eq2_=>?_; subst eq2_
  exact .now
 ·rw [el] at a1 u1
  have eu:=up_srt hnd a1 u1
  refine oq11 (sortedAll_at s.heap its (dE its p1)) λep hat=>?_
  have hlt:∀ i∈p1.toList,i<ps.length:=λi hi=>by
   have:=a1.pm.subset hi
   simpa using this
  refine ⟨.ref _,_,I.laid (t':=s.toks) (o:=.lst (p1.toList.map λi=>vs.getD i .non)) (λb ob q=>sortedAll_old q) (O8 _) ⟨?_,p1.toList.map λi=>its.getD i M4,ep,?_,hat⟩,rfl,q _ _ (I.hok.fresh (O8 _)) (λi hi=>by have:=hlt i hi; exact nz1 this (nz3 hl2.symm)) eu⟩
  ·rw [Y0,P0,a1.sz,X9]; exact nz5 (nz8 h64 (by decide))
  ·exact dF λi hi=>nz rv (by have:=hlt i hi; exact nz1 this (nz3 hl2.symm))
def rSortD:List V->Hp->VK->Prop:=λxs H Q=>∃ p ws ks,xs=[.ref p]/\H p=some (.dK ws)/\ws.map (·.1)=ks.map O4/\ks.length<64/\∀ q,H q=none->Q (.ref q) (upd H q (.lst ((Pu.srtI ks).map V.int)))
theorem rg (hc:X.calm=true):gd X (.builtin "sorted") rSortD:=by
 intro pins s σ H xs us Q I r hh
 refine oq35 hh λp ws ks eq3_ hD hK h64 q=>?_; subst eq3_
 refine oq12 (vals1 r) λu eq1_ ru=>?_; subst eq1_
 cases ru
 refine oq03 (dk_of I.hok hD) λhz lo zz=>oq12 zz λkvs hkv hdo=>?_
 refine oq11 hdo.dictAt λep hat=>?_
 have hl:=hkv.length
 have hl2:ws.length=ks.length:=by have:=congrArg G1 hK; simpa using this
 refine Calls.call_function_entry kind_sorted plain_sorted entry_sorted (args_sorted1 _) ?_
 unfold N4.«sorted»
 refine Z4 (m:=checkCount "sorted" 1 1 _) (Y6 ?_)
 refine Z4 (kdu_collect (A:=X.A.in1) (kdl_dict (knd:=aZ X.prog X.w) (kvs:=kvs) (ep:=ep) lo) (I.ok.hd hc) hat (by exact nz4 (nz3 hl.symm) hz) λh' tk acc hk hacc=>?_)
 have I1:=I.kept (t':=tk) hk
 have hlen:acc.toList.length=ks.length:=by
  rw [P0,hacc.1]; exact W9 (nz4 (nz3 hl.symm) (nz3 hl2)) (nz4 (nz3 hl2.symm) (nz3 hl))
 have hI:O5 acc.toList ks:=by
  have key:∀ (l:List Value) (m:List Int),l.length=m.length->(∀ (i:Nat) v,l[i]?=some v->∃ n t,m[i]?=some n/\v=Q9 n t)->O5 l m:=by
   intro l
   induction l with
   | nil=>intro m e _; cases m with
    | nil=>exact .nil
    | cons _ _=>simp at e
   | cons v l ih=>intro m e h; cases m with
    | nil=>simp at e
    | cons n m =>
     refine oq22 (h 0 v rfl) λn' t e1 eq3_=>?_; subst eq3_
     cases e1
     exact .cons n t (ih m (by simpa using e) λi v hv=>h (i+1) v (by simpa using hv))
  refine key _ _ hlen λi v hv=>?_
  obtain ⟨k,x,h1,h2⟩:=hacc.2 i v (by rw [<- P3]; exact hv)
  obtain ⟨y,e1,e2,e3⟩:=eE hkv h1
  have e4:(ws.map (·.1))[i]?=some y.1:=by rw [Z7,e1]; rfl
  rw [hK,Z7] at e4
  cases q:ks[i]? with
  | none=>rw [q] at e4; cases e4
  | some n =>
   rw [q] at e4
   have e5:y.1=O4 n:=(Z3 e4).symm
   have e6:k=O4 n:=e2.symm.trans e5
   subst e6
   refine oq11 (Value.isInt_shape (k:=n) (v:=v) h2) λt e7=>?_
   exact (oi22 n t rfl e7)
 refine Z4 (F7 ?_ (by rw [hlen,X9]; exact nz5 (nz8 h64 (by decide))))
 have hoL:(h'.push (seqObj "list" acc.toList.toArray 0)).get? h'.objs.size=some (seqObj "list" acc.toList.toArray 0):=X3 _ rfl
 refine Z4 (Q3 (wpAny_call_entry slot_list_sort ⟨_,hoL,rfl⟩ entry_list_sort
  (list_sort_tree (s:={ s with heap:=h'.push (seqObj "list" acc.toList.toArray 0),toks:=tk }) hoL hI (by exact nz2 (nz3 hlen) h64) λout ns' a1 a2 a3=>(oi12 _ rfl ?_)) (args_list_sort _)))
 have e:ns'=Pu.srtI ks:=PySem.W.ksm_same (a2.trans (Pu.jo ks).symm) a3 (Pu.jK ks)
 subst e
 refine oq11 (sortedHeap_at (out:=out) hoL) λe1 hat1=>?_
 refine Y6 ⟨_,rfl,.ref _,_,I1.laid (t':=tk) (o:=.lst ((Pu.srtI ks).map V.int)) (λb ob q=>?_) (nz6 _) ⟨?_,out.toList,e1,jf a1,hat1⟩,rfl,q _ (I1.hok.fresh (nz6 _))⟩
 ·have hlt:b<h'.objs.size:=Y4 q
  rw [sortedHeap_old (nz7 hlt) (by rw [size_push']; exact J8 hlt)]
  exact Z5 _ q
 ·rw [Y0,(Pu.jo ks).length_eq,X9]; exact nz5 (nz8 h64 (by decide))
end
section
variable {Γ:List Slot} {ta:TE} {K:Z0}
set_option tactic.hygienic true in
theorem evl_sortP {o:Option (List (Int × Int))} (h:EV Γ ta o (rL (rT2 rInt rInt))):EVL Γ (tCB (rSortP K) (bg ta tNil)) (o.bind λps=>Pu.sortP ps) (rT2 rInt rInt):=by
 intro C F σ H Q xs S e k
 refine oq12 (a9 e) λps e1 e=>?_
 unfold Pu.sortP at e
 split at e
 ·rename_i h64
  cases e
  refine h C F σ H _ ps S e1 λv F' H' x1 zq=>oq23 zq λp vs e2 h1 h2=>?_
  refine ⟨p,vs,ps,by rw [e2],.inl (x1.sub.rd h1),Paired.imp2 (λx x z=>Rp.mono _ x1.sub z) h2,h64.1,h64.2,λq ix hq hi hx=>?_⟩
  refine k q _ F' H' x1 hq ?_
  rw [<- hx]
  exact dF λi h=>nz h2 (hi i h)
 ·cases e
theorem eI {F:Hp}:∀ {vs:List V} {ns:List Int},Paired (rInt.rel F) vs ns->vs=ns.map V.int:=λp=>by
 induction p with
 | nil=>rfl
 | cons h _ ih=>rw [W1,<- ih]; cases h; rfl
end
end
end L2
namespace Pu
section
variable {α:Type}
noncomputable def index (xs:List Int) (k:Int):Option Int:=if k∈xs/\xs.length<=16777216 then some (xs.idxOf k:Int) else none
noncomputable def pop0 {α T:Type} (xs:List α) (f:α->List α->Option T):Option T:=match xs with
 | []=>none
 | a :: ys=>f a ys
end
end Pu
namespace L2
section
open PySem PySem.Spec PyProof.Rows
variable [Kn:Kon]
section
variable {X:Cx} {K:Z0}
def rIndex (K:Z0):V->List V->Hp->VK->Prop:=λx vs H Q=>∃ (l:Addr) (ns:List Int) (k:Int),x=.ref l/\vs=[.int k]/\SqL K H l (ns.map V.int)/\k∈ns/\Q (.int (ns.idxOf k:Nat)) H
theorem mt_index (h:X.K=K):MtM X "list.index" (rIndex K):=by
 subst h
 intro pins s σ H x vs v us Q I rx rv hh
 refine oq35 hh λl ns k eq3_ eq4_ hS hk q=>?_; subst eq3_; subst eq4_
 cases rx
 refine oq12 rv.one λu eq1_ zz=>oq11 zz λt eq3_=>?_; subst eq1_; subst eq3_
 refine oq13 (I.list hS) λits r ht hz=>?_
 have hi:=nr r
 rw [Y0] at hz
 have hlen:=hi.length
 have hj:ns.idxOf k<ns.length:=M7.mpr hk
 refine oq13 ht.isList λnn1 ho hc zz=>oq11 zz λn hd=>?_; obtain ⟨cls,dd,data,sl⟩:=nn1
 simp only at hc hd
 subst hc hd
 rw [X9] at hz
 refine call_meets PySem.F.slot_list_index ⟨_,ho,rfl⟩ PySem.F.entry_list_index (PySem.F.args_list_index_2 _ _)
  (SeqAt.list_indexAt l its.toArray n dd sl (.int k t) (isInt k) (ns.idxOf k) (by simpa [hlen] using hj) (by lia) ?_ ?_) (oi03 ho (λy hy=>(eq_isInt k t hi y (by simpa using hy)).at _ _) ⟨.int _,H,I.tok _,⟨_,rfl⟩,q⟩)
 ·show isInt k its[ns.idxOf k]=true
  rw [isInt_at k hi _ (by exact nz1 hj (nz3 hlen.symm)) hj]
  simpa using List.getElem_idxOf hj
 ·intro j hjs hlt
  show isInt k its[j]=false
  rw [isInt_at k hi j (by simpa using hjs) (by exact nz8 hlt hj)]
  exact ne_of_lt_idxOf hlt _
end
section
variable {Γ:List Slot} {α S:Type} {r:Rp α} {ta tb:TE} {K:Z0} {o:Option (List Int)} {oi:Option Int}
set_option tactic.hygienic true in
theorem ev_index (h:EV Γ ta o (rL rInt)) (h':EV Γ tb oi rInt):EV Γ (tBM K "list" (rIndex K) ta (bg tb tNil)) (o.bind λxs=>oi.bind λk=>Pu.index xs k) rInt:=by
 intro C F σ H Q c S e k
 refine oq12 (a9 e) λxs e1 e=>?_
 refine oq12 (a9 e) λi e2 e=>?_
 unfold Pu.index at e
 split at e
 ·rename_i hh
  cases e
  refine h C F σ H _ xs S e1 λv F' H' x1 zq=>oq23 zq λp vs e3 h1 h2=>?_
  subst e3
  refine ⟨.inl ⟨rfl,vs,.inl (x1.sub.rd h1)⟩,h' C F' σ H' _ i (S.grow x1) e2 λw F2 H2 x2 r2=>⟨p,xs,i,rfl,by rw [r2],?_,hh.1,k _ F2 H2 (x1.trans x2) rfl⟩⟩
  rw [<- eI h2]; exact .inl (x2.sub.rd (x2.ff.rd h1))
 ·cases e
theorem ev_ltT2 {o o':Option (Int × Int)} (h:EV Γ ta o (rT2 rInt rInt)) (h':EV Γ tb o' (rT2 rInt rInt)):EV Γ (tOp (rLtT K) ta tb) (o.bind λa=>o'.bind λb=>some (Pu.lt2 a b)) bJ :=
 iG (r:=rT2 rInt rInt) (s:=rT2 rInt rInt) (λF H x y a b c Q sb zq zp e k=>oq34 zq λp u v e1 h1 h2 h3=>oq34 zp λp' u' v' e2 h4 h5 h6=>by
  cases e
  cases h2; cases h3; cases h5; cases h6
  exact ⟨p,p',[a.1,a.2],[b.1,b.2],e1,e2,SqT.of (sb _ _ h1),SqT.of (sb _ _ h4),by rw [p7]; exact k _ rfl⟩) h h'
theorem keys_of {F:Hp}:∀ {ws:List (Key × V)} {d:List (Int × α)},Paired (dRel r F) ws d->ws.map (·.1)=(d.map (·.1)).map O4:=λp=>by
 induction p with
 | nil=>rfl
 | cons h _ ih=>rw [W1,W1,W1,ih,h.1]
set_option tactic.hygienic true in
theorem evl_sortD {o:Option (List (Int × α))} (h:EV Γ ta o (rD r)):EVL Γ (tCB rSortD (bg ta tNil)) (o.bind λd=>Pu.sortI (d.map (·.1))) rInt:=by
 intro C F σ H Q xs S e k
 refine oq12 (a9 e) λd e1 e=>?_
 unfold Pu.sortI at e
 split at e
 ·rename_i h64
  cases e
  refine h C F σ H _ d S e1 λv F' H' x1 zq=>oq23 zq λp ws e2 h1 h2=>⟨p,ws,d.map (·.1),by rw [e2],x1.sub _ _ h1,?_,h64,λq hq=>k q _ F' H' x1 hq (paired_ints _)⟩
  exact keys_of h2
 ·cases e
end
section
variable {Γ:List Slot} {α T:Type} {r:Rp α} {K:Z0} {u:TS} {fin:Fc->T->Ends->Prop} {φ:Addr->Prop} {xs:List α}
theorem bv_popF {f:α->List α->Option T} (i j:Nat) (hi:Γ[i]?=some (.ol r φ xs)) (hij:i≠j) (h:∀ a ys,BV ((Γ.set i (.ol r φ ys)).set j (.fr r a)) u (f a ys) fin):BV Γ (tSeq (tAsg (tBM K "list" qI (tVar i) (bg (tC (.int 0)) tNil)) (d6 j)) u) (Pu.pop0 xs f) fin:=bv_pop0 i j hi hij h
end
end
section
open PySem PySem.Spec PyProof.Rows
variable [Kn:Kon]
section
variable {prog:X5} {w:World} {A:Around} {E:Value->Shared->Prop} {s:Shared} {vs ks:List Value} {a kS:Addr}
open PySem.W
def gn (prog:X5) (w:World) (A:Around) (f:Value) (kS:Addr) (Fi:List Value->Shared->Prop):List Value->List Value->Shared->Prop
 | [],ks,s=>Fi ks s
 | x :: r,ks,s=>wpAny (model prog w) A (call f [x]) (λk s1=>(∃ e,s1.heap.get? kS=some (seqObj "list" (V3 ks) e)) /\
   gn prog w A f kS Fi r (ks++[k]) { s1 with heap:=s1.heap.update kS (Y5 (·.push k)) }) (λa a=>False) s
noncomputable def fT (prog:X5) (w:World) (A:Around) (a:Addr) (e1:Nat) (kS:Addr) (vs:List Value) (P:PySem.Fin->Shared->Prop) (ks:List Value) (s:Shared):Prop :=
 s.heap.get? a=some (seqObj "list" #[] e1)/\∃ (κ:SortKind) (c:Nat->Nat->Bool),Srt.Lin c vs.length/\(2<=vs.length->∀ Q':SortKind->Shared->Prop,Q' κ s->wpAny (model prog w) A (keyKind' (V3 ks)) Q' (λx x=>False) s) /\
  (∀ i j C,i<vs.length->j<vs.length->C (c i j) s->kas_ask prog w A κ ks i j C s) /\
  ∀ p,Srt.Arr vs.length p->Srt.Up c p vs.length->P (.done (.ret .none)) { s with heap:=(s.heap.update kS (Y5 λx=>#[])).update a (Y5 λx=>dE vs p) }
theorem mq {st:SortSt} {e e1:Nat} {p:Array Nat} {P:PySem.Fin->Shared->Prop} (hka:kS≠a) (hk:s.heap.get? kS=some (seqObj "list" (V3 ks) e)) (ha:s.heap.get? a=some (seqObj "list" #[] e1)) (hz:ks.length<64)
  (ho:(arrOf st).map (·.2)=dE vs p) (hf:failedOf st=none) (hp:p.size<64) (h:P (.done (.ret .none)) { s with heap:=(s.heap.update kS (Y5 λx=>#[])).update a (Y5 λx=>dE vs p) }) :
  wpAny (model prog w) A (ksk_tail a false e1 (.ref kS) st) P E s:=by
 have ha':(s.heap.update kS (Y5 λx=>(#[]:Array Value))).get? a=some (seqObj "list" #[] e1):=by rw [V4 _ _ _ _ (T9 hka)]; exact ha
 unfold ksk_tail
 rw [ho]
 simp only [P5,if_false]
 refine Z4 (K7 hk rfl ?_ (by rw [Y1,X9]; exact nz5 (nz8 hz (by decide))) (V5 _))
 refine Z4 (wpAny_letGo ?_)
 refine Z4 (seqEpoch_at ha' rfl ?_)
 refine Z4 (K7 ha' rfl ?_ (V5 _) (by rw [kQ,X9]; exact M1 (nz5 (nz8 hp (by decide)))))
 rw [hf]
 simp only [bne_self_eq_false,P5,if_false]
 exact Y6 h
theorem keys_end {e e1:Nat} {P:PySem.Fin->Shared->Prop} (hka:kS≠a) (hk:s.heap.get? kS=some (seqObj "list" (V3 ks) e)) (hl:ks.length=vs.length) (h64:vs.length<64) (h:fT prog w A a e1 kS vs P ks s) :
  wpAny (model prog w) A (ksk_end a false vs.toArray e1 (.ref kS) (V3 ks)) P E s:=by
 refine oq02 h λha zz=>oq24 zz λκ c L hkd hc fin=>?_
 unfold ksk_end
 simp only [P5,if_false]
 by_cases h2:vs.toArray.size<2
 ·rw [if_pos h2,if_pos h2]
  refine Z4 (Y6 ?_)
  rw [StateT.run_pure]
  refine Z4 (Y6 ?_)
  have sz:vs.length<2:=by simpa using h2
  refine mq (p:=V3 (Z9 vs.length)) hka hk ha (by exact nz2 (nz3 hl) h64) ?_ rfl (by simp; exact h64) (fin _ ⟨by simp,by simp⟩ λi j hij hj=>by lia)
  have e2:=kas_range (ks.toArray.zip vs.toArray)
  rw [show (ks.toArray.zip vs.toArray).size=vs.length by simp [hl]] at e2
  exact kat_snds (st:=SortSt.mk' general' (ks.toArray.zip vs.toArray) #[] 7 none) hl e2.symm
 ·rw [if_neg h2,if_neg h2]
  have h2':2<=vs.length:=by simpa using X8.mp h2
  refine Z4 (T0 (hkd h2' (λκ' s'=>κ'=κ/\s'=s) ⟨rfl,rfl⟩) ?_ λx x z=>z.elim)
  intro κ' s' zq; refine oq02 zq λeq0_ eq1_=>?_; subst eq0_; subst eq1_
  have ok:=Srt.ok_sort (c:=c) (n:=vs.length) L (by lia)
  refine Z4 (T0 (kat_run (κ:=κ') (Q:=λst' s2=>s2=s'/\∃ p:Array Nat,Srt.Arr vs.length p/\Srt.Up c p vs.length/\arrOf st'=p.map (kas_item (ks.toArray.zip vs.toArray))/\failedOf st'=none)
   (G:=λp s2=>s2=s'/\Srt.Arr vs.length p/\Srt.Up c p vs.length) hl h2' h64 (λp st' s2 x b2 b3 b4=>⟨b4.1,p,b4.2.1,b4.2.2,b2,b3⟩) (Srt.Ok.wp hc (λp hp=>⟨rfl,hp⟩) ok)) ?_ λx x z=>z)
  rintro ⟨⟨⟩,st'⟩ s2 ⟨rfl,p,b1,b2,b3,b4⟩
  exact mq hka hk ha (by exact nz2 (nz3 hl) h64) (kat_snds hl b3) b4 (by rw [b1.sz]; exact h64) (fin p b1 b2)
theorem keys_loop {f:Value} {Fi:List Value->Shared->Prop} {n:Nat} {body:Value->PUnit->Sem (ForInStep PUnit)} (hn:n<64)
  (hb:∀ x l (s1:Shared) (C:Value->Shared->Prop),G1 l<64->wpAny (model prog w) A (call f [x]) (λk s2=>(∃ e,s2.heap.get? kS=some (seqObj "list" (V3 l) e))/\C k { s2 with heap:=s2.heap.update kS (Y5 (·.push k)) }) (λa a=>False) s1 ->
   wpAny (model prog w) A (body x ⟨⟩) (λr s2=>r=.yield ⟨⟩/\∃ k,(∃ e,s2.heap.get? kS=some (seqObj "list" (V3 (l++[k])) e))/\C k s2) E s1):∀ (r l:List Value) (s1:Shared),l.length+r.length=n ->
   (∃ e,s1.heap.get? kS=some (seqObj "list" (V3 l) e))->gn prog w A f kS Fi r l s1 ->
   wpAny (model prog w) A (forIn r PUnit.unit body) (λa s2=>∃ l,(∃ e,s2.heap.get? kS=some (seqObj "list" (V3 l) e))/\l.length=n/\Fi l s2) E s1:=by
 intro r
 induction r with
 | nil =>
  intro l s1 hl hk h
  rw [List.forIn_nil]
  exact Y6 (oi13 l hk hl h)
 | cons x r ih =>
  intro l s1 hl hk h
  rw [W3] at hl
  rw [List.forIn_cons]
  refine Z4 (T0 (hb x l s1 _ (by lia) h) ?_ λa a z=>z)
  intro q s2 zq; refine oq02 zq λeq0_ zz=>oq12 zz λk hk' h2=>?_; subst eq0_
  exact ih (l++[k]) s2 (by rw [W5,J1]; lia) hk' h2
theorem keys_rest {f:Value} {e1:Nat} {P:PySem.Fin->Shared->Prop} (hka:kS≠a) (hk:s.heap.get? kS=some (seqObj "list" #[] 0)) (h64:vs.length<64) (h:gn prog w A f kS (fT prog w A a e1 kS vs P) vs [] s) :
  wpAny (model prog w) A (ksk_rest a f false vs.toArray e1 (.ref kS)) P E s:=by
 unfold ksk_rest
 refine Z4 (wpAny_rule ?_)
 first
  | rw [List.forIn_toArray]
  | rw [<- Array.forIn_toList]
 refine Z4 (T0 (keys_loop (kS:=kS) h64 (λx l s1 C hz hx=>?_) vs [] s (by simp) ⟨0,hk⟩ h) ?_ λx x z=>z)
 ·refine Z4 (wpAny_attempt (T0 hx ?_ λx x z=>z.elim))
  rintro k s2 ⟨⟨e,he⟩,hC⟩
  have ea:(V3 l).push k=V3 (l++[k]):=by simp
  have hn:∃ e2,(s2.heap.update kS (Y5 (·.push k))).get? kS=some (seqObj "list" (V3 (l++[k])) e2):=⟨_,by rw [<- ea]; exact N8 he (·.push k)⟩
  refine Z4 (K7 he rfl ?_ (by rw [Y1,X9]; exact nz5 (nz8 hz (by decide))) (by rw [Array.size_push,Y1,X9]; lia))
  exact Y6 ⟨rfl,k,hn,hC⟩
 ·rintro _ s2 ⟨l,⟨e,he⟩,hl,fin⟩
  refine Z4 (listItems_at he rfl ?_)
  exact keys_end hka he hl h64 fin
theorem lK {f:Value} {n:Nat} {P:PySem.Fin->Shared->Prop} (ho:s.heap.get? a=some (seqObj "list" vs.toArray n)) (h64:vs.length<64)
  (h:∀ (e1:Nat) (kS:Addr) (h':Heap),(∀ b o,b≠a->s.heap.get? b=some o->h'.get? b=some o)->h'.get? a=some (seqObj "list" #[] e1)->h'.get? kS=some (seqObj "list" #[] 0)->s.heap.objs.size<=kS->kS<h'.objs.size ->
   gn prog w A f kS (fT prog w A a e1 kS vs P) vs [] { s with heap:=h' }):wpAny (model prog w) A (ksk_tree a f false) P E s:=by
 have ha:a<s.heap.objs.size:=Y4 ho
 obtain ⟨e1,ho1⟩:∃ e1,(s.heap.update a (Y5 λx=>(#[]:Array Value))).get? a=some (seqObj "list" #[] e1):=⟨_,N8 ho (λx=>#[])⟩
 have hz:((s.heap.update a (Y5 λx=>(#[]:Array Value))).push (seqObj "tuple" vs.toArray 0)).objs.size=s.heap.objs.size+1:=by rw [size_push',Heap.size_update]
 unfold ksk_tree
 refine Z4 (listItems_at ho rfl ?_)
 refine Z4 (K7 ho rfl ?_ (by rw [Y1,X9]; exact nz5 (nz8 h64 (by decide))) (V5 _))
 refine Z4 (seqEpoch_at ho1 rfl ?_)
 refine Z4 (wpAny_newTuple ?_ (by show vs.length<=_; rw [X9]; exact nz5 (nz8 h64 (by decide))))
 refine Z4 (F7 ?_ (V5 _))
 refine Q3 ?_
 have hkS:(((s.heap.update a (Y5 λx=>(#[]:Array Value))).push (seqObj "tuple" vs.toArray 0)).push (seqObj "list" #[] 0)).get? ((s.heap.update a (Y5 λx=>(#[]:Array Value))).push (seqObj "tuple" vs.toArray 0)).objs.size=some (seqObj "list" #[] 0):=X3 _ rfl
 refine keys_rest (s:={ s with heap:=((s.heap.update a (Y5 λx=>(#[]:Array Value))).push (seqObj "tuple" vs.toArray 0)).push (seqObj "list" #[] 0) }) (by rw [hz]; exact P8 (J8 ha)) hkS h64 (h e1 _ _ (λb o nb q=>?_) ?_ hkS (by rw [hz]; exact O8 _) (Y4 hkS))
 ·refine Z5 _ (Z5 _ ?_)
  rw [V4 _ _ _ _ nb]; exact q
 ·exact Z5 _ (Z5 _ ho1)
theorem rj {l q:Addr} {Q:Value->Shared->Prop} (hl:s.heap.IsList l vs.toArray) (h64:vs.length<64)
  (h:∀ (D:Addr) (e1:Nat) (kS:Addr) (h':Heap),(∀ b o,s.heap.get? b=some o->h'.get? b=some o)->h'.get? D=some (seqObj "list" #[] e1)->h'.get? kS=some (seqObj "list" #[] 0)->s.heap.objs.size<=D->D<kS->kS<h'.objs.size ->
   gn prog w A.in1.in1 (.ref q) kS (fT prog w A.in1.in1 D e1 kS vs λf s'=>Q (.ref D) s') vs [] { s with heap:=h' }) :
  wpAny (model prog w) A (call (.builtin "sorted") [.ref l] [(Str.ofString "key",.ref q)]) Q E s:=by
 refine call_function_entry_kw kind_sorted plain_sorted entry_sorted (ksk_s1 _ _) ?_
 unfold N4.«sorted»
 refine Z4 (m:=checkCount "sorted" 1 1 _) (Y6 ?_)
 refine Z4 (collect_list hl ?_ (by rw [X9]; exact nz5 (nz8 h64 (by decide))))
 refine Z4 (F7 ?_ (by rw [X9]; exact nz5 (nz8 h64 (by decide))))
 have hsz:((s.heap.push (seqObj "list" #[] 0)).update s.heap.objs.size (Y5 (·++vs.toArray))).objs.size=s.heap.objs.size+1:=by
  rw [Heap.size_update,size_push']
 have hoL:(((s.heap.push (seqObj "list" #[] 0)).update s.heap.objs.size (Y5 (·++vs.toArray))).push (seqObj "list" vs.toArray 0)).get? (s.heap.objs.size+1)=some (seqObj "list" vs.toArray 0):=by
  rw [<- hsz]; exact X3 _ rfl
 have keep:∀ b o,s.heap.get? b=some o->b≠s.heap.objs.size+1/\(((s.heap.push (seqObj "list" #[] 0)).update s.heap.objs.size (Y5 (·++vs.toArray))).push (seqObj "list" vs.toArray 0)).get? b=some o:=λb o q=>by
  have hlt:b<s.heap.objs.size:=Y4 q
  refine ⟨nz7 (J8 hlt),Z5 _ ?_⟩
  rw [V4 _ _ _ _ (nz7 hlt)]
  exact Z5 _ q
 show wpAny _ _ _ _ _ { s with heap:=((s.heap.push (seqObj "list" #[] 0)).update s.heap.objs.size (Y5 (·++vs.toArray))).push (seqObj "list" vs.toArray 0) }
 rw [hsz]
 refine Z4 (Q3 (wpAny_call_entry_kw slot_list_sort ⟨_,hoL,rfl⟩ entry_list_sort ?_ (ksk_l1 _ _)))
 rw [ksk_t1]
 refine lK (s:={ s with heap:=((s.heap.push (seqObj "list" #[] 0)).update s.heap.objs.size (Y5 (·++vs.toArray))).push (seqObj "list" vs.toArray 0) }) hoL h64 λe1 kS h' k1 k2 k3 k4 k5=>?_
 have hDk:s.heap.objs.size+1<kS:=by
  have:(((s.heap.push (seqObj "list" #[] 0)).update s.heap.objs.size (Y5 (·++vs.toArray))).push (seqObj "list" vs.toArray 0)).objs.size=s.heap.objs.size+2:=by rw [size_push',hsz]
  have k4':s.heap.objs.size+2<=kS:=by rw [<- this]; exact k4
  (clear k5 k4 k3 k2 k1 keep hoL hsz h h64 hl; lia)
 have hh:=h (s.heap.objs.size+1) e1 kS h' (λb o q=>k1 b o (keep b o q).1 (keep b o q).2) k2 k3 (O8 _) hDk k5
 have mono:∀ (r l:List Value) (s1:Shared),gn prog w A.in1.in1 (.ref q) kS (fT prog w A.in1.in1 (s.heap.objs.size+1) e1 kS vs λf s'=>Q (.ref (s.heap.objs.size+1)) s') r l s1 ->
   gn prog w A.in1.in1 (.ref q) kS (fT prog w A.in1.in1 (s.heap.objs.size+1) e1 kS vs λfin s'=>∃ v,fin=.done (.ret v)/\wpAny (model prog w) A.in1 (ret (.ref (s.heap.objs.size+1))) (λfin s'=>∃ v,fin=.done (.ret v)/\Q v s') E s') r l s1:=by
  intro r
  induction r with
  | nil=>exact λl s1 zq=>oq02 zq λz0 zz=>oq24 zz λκ c z1 z2 z3 z4=>⟨z0,κ,c,z1,z2,z3,λp a1 a2=>(oi12 _ rfl (Y6 (oi12 _ rfl (z4 p a1 a2))))⟩
  | cons x r ih=>exact λl s1 z=>T0 z (λk s2 z2=>⟨z2.1,ih _ _ z2.2⟩) λa a z=>z
 exact mono _ _ _ hh
end
end
section
open PySem PySem.Spec PyProof.Rows
variable [Kn:Kon]
noncomputable def iK (X:Cx) (A:Around) (N':List Str) (qual:Str) (scope:Scope) (f:Addr) (cd:Value) (cl:List (Str × Addr)) (s:Shared) (H:Hp):Cx where
 prog:=X.prog
 w:=X.w
 K:=X.K
 mg:=X.mg
 base:=X.base
 A:=A.deeper (PySem.W.envX qual scope s.heap.objs.size f cd cl)
 N:=N'
 s₀:=s
 H₀:=H
 env:=PySem.W.envX qual scope s.heap.objs.size f cd cl
 outer:=X.stack
 stack:=PySem.W.envX qual scope s.heap.objs.size f cd cl :: X.stack
 ex:=[]
 fn:=λx=>false
 calm:=true
 pn:=[]
 xe:=λx x=>False
structure LamScope (X:Cx) (x:Str) (cap:List (Str × Nat)) (scope:Scope):Prop where
 kind:scope.kind=.function
 co:scope.isCoroutine=false
 gen:scope.isGenerator=false
 nocell:∀ y∈scope.names,y.2≠.cell
 par:scope.names.lookup x=some .local
 free0:freeOk scope.names X.env.scope.names=true
 cap:oP X scope cap
noncomputable def eJ (v:V) (cap:List (Str × Nat)) (σ:St):St:=some v :: cap.map λp=>(σ[p.2]?).join
structure LamCl (X:Cx) (scope:Scope) (cl:List (Str × Addr)):Prop where
 of:∀ x c,cl.lookup x=some c->X.env.cells.lookup x=some c
 has:∀ y∈scope.names,y.2=.free->∃ c,cl.lookup y.1=some c
section
variable {X:Cx} {A:Around} {pins:List (Addr × Obj)} {σ:St} {H:Hp} {s:Shared} {x:Str} {cap:List (Str × Nat)} {scope:Scope} {cl:List (Str × Addr)} {qual:Str} {f:Addr} {cd:Value}
theorem inv_lam {h1:Heap} {t':Nat} {v:V} {u:Value} (S:LamScope X x cap scope) (C:LamCl X scope cl) (I:Inv X pins σ H s) (hA:A.frames=some X.stack) (hh:A.handled=none) (r:RelV v u)
  (hns:h1.Ns s.heap.objs.size (λy=>[(x,u)].reverse.lookup y)) (hk:∀ b o,s.heap.get? b=some o->h1.get? b=some o) :
  Inv (iK X A (x :: cap.map (·.1)) qual scope f cd cl s H) [] (eJ v cap σ) H { s with heap:=h1,toks:=t' }:=by
 have noA:∀ b:Addr,b ∉ (iK X A (x :: cap.map (·.1)) qual scope f cd cl s H).ex:=λb z=>absurd (show b∈([]:List Addr) from z) (by simp)
 refine ⟨⟨I.ok.mod,S.kind,rfl,rfl,nz6 _,λy z c h1 h2=>I.ok.inj y z c (C.of y c h1) (C.of z c h2),λy hy=>?_,λy c h a=>absurd (show (false=true) from h) (by decide),λa=>hh,Around.frames_deeper hA,.inr ⟨rfl,rfl⟩,λb z=>absurd z (noA b),I.bs,
   nz4 I.ok.bsz I.sz,λb a a=>noA b,λb z=>absurd z (noA b),I.stack,I.stkFree⟩,
  rfl,I.bare,Un.kept hk,(oi12 _ hns (λi y z e1 e2 e3=>?_)),λy c e=>?_,I.hok.fresh (nz6 _),λy c e=>I.freeC y c (C.of y c e),λp hp=>absurd (show p∈([]:List (Addr × Obj)) from hp) (by simp),I.hok.kept hk,by simp [iK,eJ]⟩
 ·have hy:scope.names.lookup y=some .cell\/scope.names.lookup y=some .free:=hy
  rcases hy with hy | hy
  ·exact absurd rfl (S.nocell _ (U9 hy))
  ·exact C.has _ (U9 hy) rfl
 ·cases i with
  | zero =>
   have e1:some x=some y:=e1
   have e2:some (some v)=some (some z):=e2
   cases e1; cases e2
   exact (oi12 u r (.inl ⟨S.par,by simp⟩))
  | succ i =>
   have e1:(cap.map (·.1))[i]?=some y:=e1
   have e2:(cap.map λp=>(σ[p.2]?).join)[i]?=some (some z):=e2
   rw [Z7] at e1 e2
   cases q:cap[i]? with
   | none=>rw [q] at e1; cases e1
   | some p =>
    rw [q] at e1 e2
    have e1:p.1=y:=Z3 e1
    have e2:(σ[p.2]?).join=some z:=Z3 e2
    subst e1
    have e4:σ[p.2]?=some (some z):=by
     cases q2:σ[p.2]? with
     | none=>rw [q2] at e2; cases e2
     | some o=>rw [q2] at e2; exact congrArg some e2
    refine oq03 (S.cap.get p (W6 q)) λc1 c2 c3=>?_
    refine oq12 I.loc λm a hl=>?_
    have vis:Vis X.env.scope p.1:=by
     rcases c3 with k | k
     ·exact .inr (.inl k)
     ·exact .inr (.inr k)
    refine oq12 (hl p.2 p.1 z c1 e4 vis) λu' r' l=>?_
    refine (oi12 u' r' (.inr ⟨.inr c2,?_⟩))
    rcases l with zr2_ | zr1_
    ·refine oq02 zr2_ λk a=>?_
     rcases c3 with z | z
     ·rw [k] at z; cases z
     ·rw [k] at z; cases z
    ·refine oq02 zr1_ λa zz=>oq12 zz λc e hc=>?_
     refine oq11 (C.has (p.1,.free) (U9 c2) rfl) λc' hc'=>?_
     have:c'=c:=Z3 ((C.of _ _ hc').symm.trans e)
     subst this
     refine oq12 hc λo ho hd=>?_
     exact ⟨c',hc',o,hk _ o ho,hd⟩
 ·refine oq22 (I.cell y c (C.of y c e)) λv o ho hd=>?_
  exact ⟨v,o,hk _ o ho,hd⟩
open PySem.W in
theorem nA {params:D0} {body:Expr} {pm ctv:Value} {c':Addr} {tb:TE} {v:V} {u:Value} {Q:VK} (S:LamScope X x cap scope) (C:LamCl X scope cl) (I:Inv X pins σ H s) (ho:s.heap.get? f=some (kla_obj "<lambda>" qual params body scope cl pm c' ctv))
  (hA:A.frames=some X.stack) (hh:A.handled=none) (hd:A.depth<L6) (hc:H c'=some (.ext (aV c' qual))) (hb:∀ cl pm cd ct u,G0 (kla_fn "<lambda>" qual params body scope cl pm cd ct) ⟨[u],[]⟩=pure [(x,u)])
  (hp:PE (iK X A (x :: cap.map (·.1)) qual scope f (.ref c') cl s H) body tb) (r:RelV v u) (h:tb (eJ v cap σ) H Q):wpAny (model X.prog X.w) A (call (.ref f) [u]) (EP X pins σ Q) (λa a=>False) s:=by
 have hcd:s.heap.CodeRec (.ref c') qual:=(show bS X.prog X.w H s.heap c' (.ext (aV c' qual)) from I.hok c' _ hc).1
 refine wpAny_call (codeAny_mono (R:=λr s'=>match r with | .ok (.ret u')=>EP X pins σ Q u' s' | _=>False) (kla_callFunE hd ho rfl S.co S.gen rfl hcd ?_) λr s' hr=>?_)
 ·rw [hb]
  refine Y6 (wpAny_newFunctionEnv S.nocell (λy hy=>?_) (λh₁ hns hsb=>⟨I.nolimit.fresh _ hsb,?_⟩) S.kind)
  ·rw [Y8.mp hy]; exact S.par
  have hk₁:∀ b o,s.heap.get? b=some o->h₁.get? b=some o:=λb o e=>hsb.extBut b o (nz7 (Y4 e)) (Z5 _ e)
  refine kla_codeExpr (T0 (hp [] _ _ H Q (inv_lam (qual:=qual) (f:=f) (cd:=.ref c') S C I hA hh r hns hk₁) h) (λu' s' he=>?_) λa a z=>z.elim)
  refine oq23 he λv' H' J rv q=>?_
  exact I.after ⟨v',H',J.os,J.bare,J.base,J.hok,rv,q⟩
 ·cases r with
  | error e=>exact hr.elim
  | ok fl =>
   cases fl with
   | ret u=>exact hr
   | next=>exact hr.elim
   | brk=>exact hr.elim
   | cont=>exact hr.elim
end
def BM (mg:Str->Option Value) (base:Heap):Prop:=∃ bm ob,mg "__builtins__"=some (.ref bm)/\bm≠builtinsNs/\base.get? bm=some ob/\ob.cls=.type "module"/\ob.dict=some builtinsNs/\ob.data=.plain
def TbSt (P:Addr) (H H':Hp):Prop:=H'=H\/∃ (ps:Array Value) (c:Addr) (pos:Pos),H P=some (.tbl ps)/\B2 pos ps.toList=none/\H c=none/\c≠P /\
 H'=upd (upd H P (.tbl (ps++#[rawInt pos.line,rawInt pos.col,.ref c]))) c (.ext (aV c (Kon.Q P)))
set_option tactic.hygienic true in
theorem lL {pos pos':Pos} {c cv:Value} (l:List Value) (h:TriplesOk l) (hc:B2 pos' (l++[rawInt pos.line,rawInt pos.col,c])=some cv):B2 pos' l=some cv\/cv=c:=by
 fun_induction TriplesOk l with
 | case1 =>
  simp only [List.nil_append,rawInt,B2] at hc
  split at hc
  ·cases hc; exact .inr rfl
  ·cases hc
 | case2 a t b u x rest ih =>
  simp only [List.cons_append,B2] at hc ⊢
  split at hc
  ·rename_i z; rw [if_pos z]; exact .inl hc
  ·rename_i z; rw [if_neg z]; exact ih h hc
 | case3 l h1 h2=>exact h.elim
theorem tbl_inj {H:Hp} {b P:Addr} {ps qs:Array Value} (hP:H P=some (.tbl ps)) (q:H b=some (.tbl qs)) (z:b=P):ps=qs:=by
 subst z; have y:=hP.symm.trans q; cases y; rfl
theorem TbSt.sm {P:Addr} {H H':Hp} (t:TbSt P H H'):Sm H H':=by
 rcases t with rfl | ⟨ps,c,pos,hP,hnf,hc,hcP,rfl⟩
 ·exact Sm.refl _
 have old:∀ b o,b≠P->H b=some o->upd (upd H P (.tbl (ps++#[rawInt pos.line,rawInt pos.col,.ref c]))) c (.ext (aV c (Kon.Q P))) b=some o:=λb o nb q=>by
  rw [am (al q hc),am nb]; exact q
 have atP:upd (upd H P (.tbl (ps++#[rawInt pos.line,rawInt pos.col,.ref c]))) c (.ext (aV c (Kon.Q P))) P=some (.tbl (ps++#[rawInt pos.line,rawInt pos.col,.ref c])):=by rw [am (T9 hcP),ai]
 refine ⟨λb o n q=>old b o (λe=>?_) q,λb qs q=>?_,λg=>⟨λP' hP'=>?_,λP' qs q=>?_⟩⟩
 ·subst e; rw [hP] at q; cases q; exact n
 ·by_cases e:b=P
  ·exact ⟨_,by rw [e,<- tbl_inj hP q e]; exact atP⟩
  ·exact ⟨#[],by rw [old b _ e q]; simp⟩
 ·refine oq11 (g.there P' hP') λqs e=>?_
  by_cases e':P'=P
  ·exact ⟨_,(congrArg _ e').trans atP⟩
  ·exact ⟨qs,old _ _ e' e⟩
 ·by_cases e':P'=P
  ·subst e'
   rw [atP] at q
   cases q
   refine oq02 (g.good P' ps hP) λg1 g2=>?_
   have el:(ps++#[rawInt pos.line,rawInt pos.col,T1 c]).toList=ps.toList++[rawInt pos.line,rawInt pos.col,T1 c]:=by simp
   rw [el]
   refine ⟨TriplesOk_snoc _ _ _ _ g1,λpos' cv hcv=>?_⟩
   rcases lL _ g1 hcv with z | z
   ·refine oq12 (g2 pos' cv z) λc2 e1 e2=>?_
    exact (oi12 c2 e1 (old _ _ (λe=>by rw [e,hP] at e2; cases e2) e2))
   ·exact (oi12 c z ai)
  ·have nc:P'≠c:=by rintro rfl; rw [ai] at q; cases q
   rw [am nc,am e'] at q
   refine oq02 (g.good P' qs q) λg1 g2=>?_
   exact ⟨g1,λpos' cv hcv=>by refine oq12 (g2 pos' cv hcv) λc2 e1 e2=>?_; exact (oi12 c2 e1 (old _ _ (λe=>by rw [e,hP] at e2; cases e2) e2))⟩
section
variable {X:Cx} {pins:List (Addr × Obj)} {σ:St} {H:Hp} {s:Shared} {x:Str} {cap:List (Str × Nat)} {scope:Scope} {c P:Addr} {params:D0} {body:Expr} {pos:Pos}
open PySem.W in
theorem tab_no {h:Heap} {g P:Addr} {ps:Array Value} {o:Obj} {es:Array P1} {ep:Nat} (hP:h.get? P=some (tabObj ps)) (e:h.get? g=some o) (hd:o.data=.dict es ep) (q:g=P):False:=by
 subst q; have z:=(congrArg Obj.data (Z3 (hP.symm.trans e))).trans hd; cases z
open PySem.W in
theorem tab_nc {h:Heap} {g P:Addr} {ps:Array Value} {o:Obj} (hP:h.get? P=some (tabObj ps)) (e:h.get? g=some o) (hd:o.cls=.type "module") (q:g=P):False:=by
 subst q; have z:=(congrArg Obj.cls (Z3 (hP.symm.trans e))).trans hd; cases z
theorem dat_no {h:Heap} {b g:Addr} {o ob:Obj} {es:Array P1} {ep:Nat} (e:h.get? g=some o) (e':h.get? b=some ob) (hd:o.data=.dict es ep) (hb:ob.data=.plain) (q:b=g):False:=by
 subst q; have z:=(hb.symm.trans (congrArg Obj.data (Z3 (e'.symm.trans e)))).trans hd; cases z
theorem Inv.addPin {f:Addr} {o:Obj} (I:Inv X pins σ H s) (h1:s.heap.get? f=some o) (h2:H f=none) (h3:f≠X.env.locals) (h4:f ∉ X.fs) (h5:∀ v,o.data≠.cell v):Inv X ((f,o) :: pins) σ H s :=
 I.pins_of λp hp=>by
  rcases Z8.mp hp with rfl | hp
  ·exact (oi05 h1 h2 h3 h4 h5)
  ·exact I.pin p (Y2 _ hp)
open PySem.W in
theorem mk_lam {Q:Value->Shared->Prop} (I:Inv X pins σ H s) (S:LamScope X x cap scope) (tg:TbG H) (hT:P∈Kon.T) (hq:Kon.Q P=X.env.qual++"<lambda>") (hcode:X.env.code=.ref c) (hC:codeHdIn X.K c P=true) (bm:BM X.mg X.base) (hdef:defaultsOf params X.env=([],[]))
  (h:∀ f cl pm c' ctv H' s',Inv X ((f,kla_obj "<lambda>" (Kon.Q P) params body scope cl pm c' ctv) :: pins) σ H' s'->TbSt P H H'->H' c'=some (.ext (aV c' (Kon.Q P)))->LamCl X scope cl->Q (.ref f) s') :
  wpAny (model X.prog X.w) X.A (eval (.Lambda params body scope pos) X.env) Q X.xe s:=by
 refine oq11 (tg.there P hT) λps hP=>?_
 refine oq02 (tg.good P ps hP) λt1 t2=>?_
 have hPo:s.heap.get? P=some (tabObj ps):=(show bS X.prog X.w H s.heap P (.tbl ps) from I.hok P _ hP)
 refine oq13 (ic (scope:=scope) (env:=X.env) λy hy hf=>I.ok.has y.1 (kH S.free0 y hy hf)) λcl hcl hcl1 hcl2=>?_
 have CL:LamCl X scope cl:=⟨hcl1,hcl2⟩
 have hgs:=I.mod.glob.keeps I.bk
 refine oq26 bm λb ob b1 b2 b3 b4 b5 b6=>?_
 have b3':=I.bk _ _ b3
 have hgP:U2≠P:=λq=>oq33 hgs λo es ep e hd i=>tab_no hPo e hd q
 have hbP:b≠P:=λq=>tab_nc hPo b3' b4 q
 have hbG:b≠U2:=λq=>oq33 hgs λo es ep e hd i=>dat_no e b3' hd b6 q
 have bat:s.heap.BuiltinsAt X.mg P:=⟨b,ob,b1,b2,hbG,hbP,b3',b4,b5,b6⟩
 have CD:=codeHd_of_K I.kIn hC
 refine kla_eval hdef ?_
 rw [<- hq]
 cases hf:B2 pos ps.toList with
 | some cv =>
  refine oq12 (t2 pos cv hf) λc' eq1_ e2=>?_; subst eq1_
  refine kla_makeFunctionHit (mg:=X.mg) hcl I.ok.glob hgs hcode CD hPo t1 hf bat λctv h' tk hk hsz=>?_
  have I1:Inv X pins σ H { s with heap:=h'.push (kla_obj "<lambda>" (Kon.Q P) params body scope cl ((X.mg "__name__").getD .none) c' ctv),toks:=tk }:=I.kept λb u e=>Z5 _ (hk b u e)
  exact h h'.objs.size cl ((X.mg "__name__").getD .none) c' ctv H _ (I1.addPin (X3 _ rfl) (I.hok.fresh hsz) (P8 (nz1 I.lt hsz)) (I.nofs hsz) λv z=>nomatch z) (.inl rfl) e2 CL
 | none =>
  refine kla_makeFunction (mg:=X.mg) hcl I.ok.glob hgs hcode CD hPo t1 hf hgP bat λc' ctv h' tk hx hge hlt hrec htb=>?_
  have hcn:H c'=none:=I.hok.fresh hge
  have hcP:c'≠P:=(al hP hcn).symm
  have hPL:P≠X.env.locals:=al hP I.free
  have hsz:s.heap.objs.size<=h'.objs.size:=nz5 (nz2 hge hlt)
  have unt:∀ b,H b=none->b≠P:=λb n=>(al hP n).symm
  have kp:∀ b o,b≠P->s.heap.get? b=some o->(h'.push (kla_obj "<lambda>" (Kon.Q P) params body scope cl ((X.mg "__name__").getD .none) c' ctv)).get? b=some o:=λb o nb e=>Z5 _ (hx b o nb e)
  have hP2:(h'.push (kla_obj "<lambda>" (Kon.Q P) params body scope cl ((X.mg "__name__").getD .none) c' ctv)).get? P=some (tabObj (ps++#[rawInt pos.line,rawInt pos.col,.ref c'])):=Z5 _ htb
  have lkO:∀ b o,b≠P->H b=some o->upd (upd H P (.tbl (ps++#[rawInt pos.line,rawInt pos.col,.ref c']))) c' (.ext (aV c' (Kon.Q P))) b=some o:=λb o nb q=>by
   rw [am (al q hcn),am nb]; exact q
  have lkP:upd (upd H P (.tbl (ps++#[rawInt pos.line,rawInt pos.col,.ref c']))) c' (.ext (aV c' (Kon.Q P))) P=some (.tbl (ps++#[rawInt pos.line,rawInt pos.col,.ref c'])):=by rw [am (T9 hcP),ai]
  have I1:Inv X pins σ (upd (upd H P (.tbl (ps++#[rawInt pos.line,rawInt pos.col,.ref c']))) c' (.ext (aV c' (Kon.Q P)))) { s with heap:=h'.push (kla_obj "<lambda>" (Kon.Q P) params body scope cl ((X.mg "__name__").getD .none) c' ctv),toks:=tk }:=by
   refine I.step (g':=s.gens) (d':=s.drawn) (ch:=[]) (λi z=>nomatch z) (λb o i i i e n=>kp b o (unt b n) e) (λb o i i i e n=>⟨o.slots,kp b o (unt b n) e⟩) (λb o i e n=>?_) (λb o i e=>?_) (λb xs q=>?_) (λb o u q=>?_) (λb qs q=>?_) (λm hm=>?_) (λa o q=>?_) I.bare
   ·rw [am (nz7 (nz1 (Y4 e) hge)),am (unt b n)]; exact n
   ·by_cases z:b=P
    ·exact ⟨_,(congrArg _ z).trans hP2⟩
    ·exact ⟨o,kp b o z e⟩
   ·exact lkO b _ (λz=>by rw [z,hP] at q; cases q) q
   ·exact lkO b _ (λz=>by rw [z,hP] at q; cases q) q
   ·by_cases z:b=P
    ·exact ⟨_,by rw [z,<- tbl_inj hP q z]; exact lkP⟩
    ·exact ⟨#[],by rw [lkO b _ z q]; simp⟩
   ·exact (hm.extBut hx (T9 hPL)).push _
   ·by_cases z:a=c'
    ·subst z
     rw [ai] at q
     cases q
     refine oq44 hrec λc2 oc vs t e2 hoc hd hv=>?_
     cases e2
     refine ⟨⟨a,oc,vs,t,rfl,Z5 _ hoc,hd,hv⟩,⟨oc,Z5 _ hoc⟩,λh1 h2 zq kk=>oq44 zq λc3 oc3 vs3 t3 e3 z1 z2 z3=>?_⟩
     cases e3
     exact ⟨a,oc3,vs3,t3,rfl,kk _ z1,z2,z3⟩
    ·by_cases z2:a=P
     ·subst z2; rw [lkP] at q; cases q; exact hP2
     ·rw [am z,am z2] at q
      refine (I.hok a o q).stay (λb u hb e=>kp b u ?_ e) (λb q=>lkO b _ (λz=>by rw [z,hP] at q; cases q) q) λb xs q=>lkO b _ (λz=>by rw [z,hP] at q; cases q) q
      rcases hb with rfl | hb
      ·exact z2
      ·intro e; rw [e,hP] at hb; cases hb
  exact h h'.objs.size cl ((X.mg "__name__").getD .none) c' ctv _ _ (I1.addPin (X3 _ rfl) (by rw [am (P8 hlt),am (λz=>by rw [z] at hsz; exact absurd (nz1 (I.hok.lt hP) hsz) (Q7 _))]; exact I.hok.fresh hsz) (P8 (nz1 I.lt hsz)) (I.nofs hsz) λv z=>nomatch z)
   (.inr (oi35 ps c' pos hP hf hcn hcP rfl)) ai CL
end
end
end L2
namespace Pu
theorem getD_at {α:Type} {l:List α} {i:Nat} {d:α} (h:i<l.length):l.getD i d=l[i]:=by simp [h]
noncomputable def keysOf (g:Int->Option (Int × Int)):List Int->Option (List (Int × Int))
 | []=>some []
 | x :: xs=>(g x).bind λk=>(keysOf g xs).bind λks=>some (k :: ks)
noncomputable def srtK (ns:List Int) (ps:List (Int × Int)):List Int:=((ps.zip ns).mergeSort λa b=>le2 a.1 b.1).map (·.2)
noncomputable def sortK (g:Int->Option (Int × Int)) (ns:List Int):Option (List Int):=(keysOf g ns).bind λps=>if ns.length<64/\ps.Nodup then some (srtK ns ps) else none
theorem rm {g:Int->Option (Int × Int)}:∀ {ns:List Int} {ps:List (Int × Int)},keysOf g ns=some ps->ps.length=ns.length:=by
 intro ns
 induction ns with
 | nil=>exact λh=>Z3 h ▸ rfl
 | cons n ns ih=>exact λh=>oq12 (L2.a9 h) λk x h=>oq12 (L2.a9 h) λks e h=>Z3 h ▸ congrArg Nat.succ (ih e)
theorem srtK_of {ns:List Int} {ps:List (Int × Int)} (hl:ps.length=ns.length) (hn:ps.Nodup) {ix:List Nat} (hi:∀ i∈ix,i<ns.length) (h:ix.map (λi=>ps.getD i (0,0))=srtP ps):ix.map (λi=>ns.getD i 0)=srtK ns ps:=by
 have hz:ix.map (λi=>(ps.zip ns).getD i ((0,0),0))=(ps.zip ns).mergeSort λa b=>le2 a.1 b.1:=by
  have key:((ps.zip ns).mergeSort λa b=>le2 a.1 b.1).map (·.1)=srtP ps:=by
   refine cO (le:=λa b=>le2 a b=true) (λa b=>p6) ?_ ?_ (gm ps)
   ·refine List.Perm.trans ((R7 _ _).map _) ?_
    rw [show (ps.zip ns).map (·.1)=ps by rw [List.map_fst_zip]; exact nz3 hl]
    exact (jp ps).symm
   ·rw [Q0]
    exact Q6 (λa b c=>jq a.1 b.1 c.1) (λa b=>jr a.1 b.1) (ps.zip ns)
  have inj:∀ a∈ps.zip ns,∀ b∈ps.zip ns,a.1=b.1->a=b:=by
   intro a ha b hb e
   obtain ⟨i,hi,rfl⟩:=List.mem_iff_getElem.mp ha
   obtain ⟨j,hj,rfl⟩:=List.mem_iff_getElem.mp hb
   simp only [List.getElem_zip] at e ⊢
   have:i=j:=(C7 hn).mp e
   subst this
   rfl
  have e1:(ix.map λi=>(ps.zip ns).getD i ((0,0),0)).map (·.1)=((ps.zip ns).mergeSort λa b=>le2 a.1 b.1).map (·.1):=by
   rw [key,<- h,U0]
   apply W8
   intro i hi'
   have h1:=hi i hi'
   show ((ps.zip ns).getD i ((0,0),0)).1=ps.getD i (0,0)
   rw [getD_at (by simp; lia),getD_at (by exact nz1 h1 (nz3 hl.symm))]
   simp
  have lm:∀ (l m:List ((Int × Int) × Int)),(∀ a∈l,a∈ps.zip ns)->(∀ a∈m,a∈ps.zip ns)->l.map (·.1)=m.map (·.1)->l=m:=by
   intro l
   induction l with
   | nil=>intro m _ _ e; cases m with
    | nil=>rfl
    | cons _ _=>cases e
   | cons a l ih=>intro m h1 h2 e; cases m with
    | nil=>cases e
    | cons b m =>
     rw [W1,W1] at e
     injection e with e3 e4
     rw [inj a (h1 a (by simp)) b (h2 b (by simp)) e3,ih m (λx hx=>h1 x (by simp [hx])) (λx hx=>h2 x (by simp [hx])) e4]
  refine lm _ _ (λa ha=>?_) (λa ha=>(R7 _ _).subset ha) e1
  refine oq12 (W7.mp ha) λi hi' eq2_=>?_; subst eq2_
  have h1:=hi i hi'
  rw [getD_at (by simp; lia)]
  exact G8 _
 unfold srtK
 rw [<- hz,U0]
 apply W8
 intro i hi'
 have h1:=hi i hi'
 show ns.getD i 0=((ps.zip ns).getD i ((0,0),0)).2
 rw [getD_at (l:=ps.zip ns) (by simp; lia),getD_at h1]
 simp
end Pu
namespace L2
section
open PySem PySem.Spec PyProof.Rows
variable [Kn:Kon]
def kR (tb:TE) (st:V->St) (fin:List V->Hp->Prop):List V->List V->Hp->Prop
 | [],ks,H=>fin ks H
 | x :: r,ks,H=>tb (st x) H λk H'=>kR tb st fin r (ks++[k]) H'
def rn (vs:List V) (Q:VK) (ks:List V) (H:Hp):Prop:=∃ ps:List (Int × Int),Paired ((rT2 rInt rInt).rel H) ks ps/\ks.length=vs.length/\ps.Nodup /\
 ∀ q (ix:List Nat),H q=none->(∀ i∈ix,i<vs.length)->ix.map (λi=>ps.getD i (0,0))=Pu.srtP ps->Q (.ref q) (upd H q (.lst (ix.map λi=>vs.getD i .non)))
def tSortK (K:Z0) (P:Addr) (cap:List (Str × Nat)) (te tb:TE):TE:=λσ H Q=>te σ H λv H1=>∃ p vs,v=.ref p/\SqL K H1 p vs/\vs.length<64/\TbG H1 /\
 ∀ H2 c,TbSt P H1 H2->H2 c=some (.ext (aV c (Kon.Q P)))->kR (λσ H Q=>H c=some (.ext (aV c (Kon.Q P)))/\tb σ H Q) (λx=>eJ x cap σ) (rn vs Q) vs [] H2
theorem Sm.seq {K:Z0} {H H':Hp} {a:Addr} {xs:List V} (e:Sm H H') (h:SqL K H a xs):SqL K H' a xs:=by
 rcases h with (h | ⟨o,h⟩) | h
 ·exact .inl (.inl (e.kp _ _ trivial h))
 ·exact .inl (.inr ⟨o,e.kp _ _ trivial h⟩)
 ·exact .inr h
section
variable {X:Cx} {A:Around} {pins:List (Addr × Obj)} {σ:St} {H:Hp} {s:Shared} {x:Str} {cap:List (Str × Nat)} {scope:Scope} {cl:List (Str × Addr)} {f:Addr} {cd:Value}
theorem Inv.relist {kS:Addr} {o o':Obj} {h':Heap} (I:Inv X ((kS,o) :: pins) σ H s) (hz:X.s₀.heap.objs.size<=kS) (hp:∀ p∈X.pn++pins,p.1≠kS) (hc:∀ v,o'.data≠.cell v) (k:∀ b ob,b≠kS->s.heap.get? b=some ob->h'.get? b=some ob) (h:h'.get? kS=some o') :
  Inv X ((kS,o') :: pins) σ H { s with heap:=h' }:=by
 refine oq05 (I.pin (kS,o) (Y2 _ (Z8.mpr (.inl rfl)))) λp1 p2 p3 p4 p5=>?_
 have I0:Inv X pins σ H s:=I.pins_of λp hp=>I.pin p (Y2 _ (Z8.mpr (.inr hp)))
 have I1:Inv X pins σ H { s with heap:=h' }:=I0.turned (t':=s.toks) k p2 p3 (.inr hz) (λy c e z=>by
  refine oq22 (I.cell y c e) λv ob ho hd=>?_
  rw [z] at ho
  have:some ob=some o:=ho.symm.trans p1
  cases this
  exact p5 v hd) hp
 exact I1.addPin h p2 p3 p4 hc
open PySem.W in
theorem keys_inv {params:D0} {body:Expr} {pm ctv:Value} {c':Addr} {qual:Str} {tb:TE} {D kS:Addr} {oD:Obj} {Fi:List Value->Shared->Prop} {fin:List V->Hp->Prop} (S:LamScope X x cap scope) (C:LamCl X scope cl)
  (hA:A.frames=some X.stack) (hh:A.handled=none) (hd:A.depth<L6) (hb:∀ cl pm cd ct u,G0 (kla_fn "<lambda>" qual params body scope cl pm cd ct) ⟨[u],[]⟩=pure [(x,u)])
  (hp:∀ f cd cl s H,PE (iK X A (x :: cap.map (·.1)) qual scope f cd cl s H) body tb) (hz:X.s₀.heap.objs.size<=kS) (hpn:∀ p∈X.pn++((D,oD) :: (f,kla_obj "<lambda>" qual params body scope cl pm c' ctv) :: pins),p.1≠kS)
  (hfin:∀ (e:Nat) ks kvs H s,Inv X ((kS,seqObj "list" (V3 kvs) e) :: (D,oD) :: (f,kla_obj "<lambda>" qual params body scope cl pm c' ctv) :: pins) σ H s->Vals ks kvs->fin ks H->Fi kvs s) :
  ∀ (r:List V) (its:List Value) (ks:List V) (kvs:List Value) (e:Nat) (H:Hp) (s:Shared),Inv X ((kS,seqObj "list" (V3 kvs) e) :: (D,oD) :: (f,kla_obj "<lambda>" qual params body scope cl pm c' ctv) :: pins) σ H s ->
   Vals r its->Vals ks kvs->(kR (λσ H Q=>H c'=some (.ext (aV c' qual))/\tb σ H Q) (λv=>eJ v cap σ) fin r ks H)->gn X.prog X.w A (.ref f) kS Fi its kvs s:=λrr its ks kvs e H s I tt rk h=>by
 induction tt generalizing ks kvs e H s with
 | nil=>exact hfin e ks kvs H s I rk h
 | @cons v u _ _ r t ih =>
  refine oq02 h λh0 h=>?_
  have po:=I.pin (f,kla_obj "<lambda>" qual params body scope cl pm c' ctv) (by simp)
  refine T0 (nA S C I po.1 hA hh hd h0 hb (hp _ _ _ _ _) r h) (λk s1 he=>?_) λa a z=>z
  refine oq23 he λkv H1 I1 rv q=>?_
  have pk:=I1.pin (kS,seqObj "list" (V3 kvs) e) (by simp)
  refine ⟨⟨e,pk.1⟩,?_⟩
  have ea:(V3 kvs).push k=V3 (kvs++[k]):=by simp
  obtain ⟨e2,hn⟩:∃ e2,(s1.heap.update kS (Y5 (·.push k))).get? kS=some (seqObj "list" (V3 (kvs++[k])) e2):=⟨_,by rw [<- ea]; exact N8 pk.1 (·.push k)⟩
  exact ih _ _ e2 H1 _ (I1.relist hz hpn (λv z=>nomatch z) (λb ob nb q=>by rw [V4 _ _ _ _ nb]; exact q) hn) (rk.append (.cons rv .nil)) q
theorem keys_done {D kS:Addr} {e e1:Nat} {ks vs:List V} {kvs its:List Value} {Q:VK} {P':List (Addr × Obj)} (I:Inv X ((kS,seqObj "list" (V3 kvs) e) :: (D,seqObj "list" #[] e1) :: pins) σ H s) (hDk:D<kS) (hz:X.s₀.heap.objs.size<=D)
  (hpn:∀ p∈X.pn++pins,p.1≠kS/\p.1≠D) (h64:vs.length<64) (rk:Vals ks kvs) (rv:Vals vs its) (h:rn vs Q ks H):fT X.prog X.w A D e1 kS its (λx s'=>EP X pins σ Q (.ref D) s') kvs s:=by
 refine oq14 h λps hP hl hnd q=>?_
 have pk:=I.pin (kS,seqObj "list" (V3 kvs) e) (by simp)
 have pd:=I.pin (D,seqObj "list" #[] e1) (by simp)
 have l1:=rk.length
 have l2:=rv.length
 have l3:=hP.length
 have pa:=Vals.pairs I rk hP
 have el:its.length=ps.length:=by exact W9 (nz4 (nz3 l2.symm) (nz4 (nz3 hl.symm) (nz3 l3))) (nz4 (nz3 l3.symm) (nz4 (nz3 hl) (nz3 l2)))
 refine ⟨pd.1,tuples' true,λi j=>Pu.lt2 (ps.getD i (0,0)) (ps.getD j (0,0)),by rw [el]; exact mo hnd,λh2 Q' hq=>?_,λi j C hi hj hC=>mj pa (by exact nz1 hi (nz4 (nz3 l2.symm) (nz4 (nz3 hl.symm) (nz3 l1)))) (by exact nz1 hj (nz4 (nz3 l2.symm) (nz4 (nz3 hl.symm) (nz3 l1)))) hC,λp1 a1 u1=>?_⟩
 ·refine oq13 pa.tups λfs g1 g2 g3=>?_
  refine PySem.W.kat_kind (T:=.type "int") g1 (by lia) (λv hv=>?_) rfl hq
  refine oq21 (g3 v hv) λi t eq2_=>?_; subst eq2_
  exact .now
 ·rw [el] at a1 u1
  have eu:=up_srt hnd a1 u1
  have hlt:∀ i∈p1.toList,i<ps.length:=λi hi=>by
   have:=a1.pm.subset hi
   simpa using this
  have neD:∀ b o,b≠kS->b≠D->s.heap.get? b=some o->((s.heap.update kS (Y5 λx=>#[])).update D (Y5 λx=>dE its p1)).get? b=some o:=λb o n1 n2 e=>by
   rw [V4 _ _ _ _ n2,V4 _ _ _ _ n1]; exact e
  have hD1:(s.heap.update kS (Y5 λx=>(#[]:Array Value))).get? D=some (seqObj "list" #[] e1):=by rw [V4 _ _ _ _ (nz7 hDk)]; exact pd.1
  obtain ⟨e2,hD2⟩:∃ e2,((s.heap.update kS (Y5 λx=>#[])).update D (Y5 λx=>dE its p1)).get? D=some (seqObj "list" (dE its p1) e2):=⟨_,N8 hD1 λx=>dE its p1⟩
  have unt:∀ b o,H b=some o->b≠kS/\b≠D:=λb o z=>⟨al z pk.2.1,al z pd.2.1⟩
  have noc:∀ y c,X.env.cells.lookup y=some c->c≠kS/\c≠D:=λy c z=>by
   refine oq22 (I.cell y c z) λv ob ho hd=>?_
   refine ⟨λw=>?_,λw=>?_⟩
   ·rw [w] at ho; exact pk.2.2.2.2 v (by rw [<- Z3 (ho.symm.trans pk.1)]; exact hd)
   ·rw [w] at ho; exact pd.2.2.2.2 v (by rw [<- Z3 (ho.symm.trans pd.1)]; exact hd)
  have I0:Inv X pins σ H s:=I.pins_of λp hp=>I.pin p (Y2 _ (Z8.mpr (.inr (Z8.mpr (.inr hp)))))
  have I1:Inv X pins σ (upd H D (.lst (p1.toList.map λi=>vs.getD i .non))) { s with heap:=(s.heap.update kS (Y5 λx=>#[])).update D (Y5 λx=>dE its p1) }:=by
   refine I0.step (g':=s.gens) (d':=s.drawn) (t':=s.toks) (ch:=[kS,D]) (λb hb=>?_) (λb o x x hc e x=>neD b o (λz=>hc (by simp [z])) (λz=>hc (by simp [z])) e) (λb o x x hc e x=>⟨o.slots,neD b o (λz=>hc (by simp [z])) (λz=>hc (by simp [z])) e⟩)
    (λb o hc x n=>by rw [am λz=>hc (by simp [z])]; exact n) (λb o hc e=>⟨o,neD b o (λz=>hc (by simp [z])) (λz=>hc (by simp [z])) e⟩) (λb xs z=>by rw [am (unt b _ z).2]; exact z) (λb o u z=>by rw [am (unt b _ z).2]; exact z) (λb ps z=>⟨#[],by rw [am (unt b _ z).2,z]; simp⟩) (λm hm=>?_) (λa o z=>?_) I.bare
   ·have hb:b=kS\/b=D:=by simpa using hb
    rcases hb with rfl | rfl
    ·exact (oi04 (.inr (nz4 hz (nz5 hDk))) pk.2.2.1 (λy c z=>(noc y c z).1) (λp hp=>(hpn p hp).1))
    ·exact (oi04 (.inr hz) pd.2.2.1 (λy c z=>(noc y c z).2) (λp hp=>(hpn p hp).2))
   ·refine oq32 hm λo es ep ho r=>?_
    exact ⟨o,es,ep,neD _ o (T9 pk.2.2.1) (T9 pd.2.2.1) ho,r⟩
   ·by_cases w:a=D
    ·subst w
     rw [ai] at z
     cases z
     refine ⟨by rw [Y0,P0,a1.sz,X9]; exact nz5 (nz2 (nz3 l3.symm) (nz2 (nz3 hl) (nz8 h64 (by decide)))),p1.toList.map λi=>its.getD i M4,e2,dF λi hi=>nz rv (by have:=hlt i hi; exact nz1 this (nz4 (nz3 l3.symm) (nz3 hl))),hD2⟩
    ·rw [am w] at z
     refine (I.hok a o z).stay (λb u hb e=>?_) (λb z=>by rw [am (unt b _ z).2]; exact z) λb xs z=>by rw [am (unt b _ z).2]; exact z
     rcases hb with rfl | hb
     ·exact neD _ _ (unt _ _ z).1 (unt _ _ z).2 e
     ·exact neD _ _ (unt _ _ hb).1 (unt _ _ hb).2 e
  exact ⟨.ref D,_,I1,rfl,q D _ pd.2.1 (λi hi=>by have:=hlt i hi; exact nz1 this (nz4 (nz3 l3.symm) (nz3 hl))) eu⟩
def One (Q1:V->Hp->Prop) (xs:List V) (H:Hp):Prop:=match xs with | [v]=>Q1 v H | _=>False
theorem One.got {Q1:V->Hp->Prop} {vv:List V} {us:List Value} {H:Hp} (r:Vals vv us) (q:One Q1 vv H):∃ v u,us=[u]/\RelV v u/\Q1 v H:=by
 cases r with
 | nil=>exact q.elim
 | cons a b =>
  cases b with
  | nil=>exact ⟨_,_,rfl,a,q⟩
  | cons _ _=>exact q.elim
open PySem.W in
theorem pe_sortK {P c:Addr} {params:D0} {body e:Expr} {p pos kpos lpos:Pos} {te tb:TE} (he:PE X e te) (hr:Room 3 X.A) (hm:X.mg "sorted"=none) (bm:BM X.mg X.base) (hC:codeHdIn X.K c P=true) (hT:P∈Kon.T) (hq:Kon.Q P=X.env.qual++"<lambda>") (hcode:X.env.code=.ref c)
  (S:LamScope X x cap scope) (hb:∀ cl pm cd ct u,G0 (kla_fn "<lambda>" (Kon.Q P) params body scope cl pm cd ct) ⟨[u],[]⟩=pure [(x,u)])
  (hp:∀ f cd cl s H,PE (iK X X.A.in1.in1 (x :: cap.map (·.1)) (Kon.Q P) scope f cd cl s H) body tb) (hg:autoParam (Gl X "sorted") L2.a2q._auto_1) (hdef:autoParam (defaultsOf params X.env=([],[])) L2.a2q._auto_1)
  (hst:autoParam (Y9 [e] X.env=(false,eval e X.env) :: Y9 [] X.env) L2.a2q._auto_1) (hpl:autoParam ((backTo pos (Y9 [e] X.env)).any (·.1)=false) L2.a2q._auto_1) :
  PE X (.Call (.Name "sorted" p) [e] [⟨some "key",.Lambda params body scope lpos,kpos⟩] pos) (tSortK X.K P cap te tb):=by
 intro pins s σ H Q I h
 refine P4 (fL I hg hm jh ?_)
 refine PyProof.Rows.callWith_kw ?_ (by rw [hst]; rfl) hpl
 have h1:(bg te tNil) σ H (One λv H1=>∃ p vs,v=.ref p/\SqL X.K H1 p vs/\vs.length<64/\TbG H1/\∀ H2 c,TbSt P H1 H2->H2 c=some (.ext (aV c (Kon.Q P)))->kR (λσ H Q=>H c=some (.ext (aV c (Kon.Q P)))/\tb σ H Q) (λx=>eJ x cap σ) (rn vs Q) vs [] H2):=h
 refine thn (a8 he aa hst pos pins s σ H _ I h1) ?_
 intro us s1 zq; refine oq23 zq λvv H1 I1 r q=>?_
 show wpAny _ _ (evalAll ((do let v <- eval (.Lambda params body scope lpos) X.env; standAt pos; pure v) :: [])) _ _ s1
 refine oq23 (One.got r q) λv u eq2_ ru q9=>oq25 q9 λl vs ev hS h64 tg q8=>?_; subst eq2_; subst ev; clear q9
 cases ru
 refine wpAny_evalAll_cons (Z4 (mk_lam (P:=P) I1 S tg hT hq hcode hC bm hdef λf cl pm c' ctv H2 s2 I2 ts hc' CL=>Z4 (B7 (Y6 (wpAny_evalAll_nil ?_)))))
 show wpAny _ _ (call (.builtin "sorted") [.ref l] [(Str.ofString "key",.ref f)]) _ _ s2
 obtain ⟨its,rv,ht,hz⟩:=I2.list (ts.sm.seq hS)
 have lv:=rv.length
 refine rj ht.isList (by exact nz2 (nz3 lv.symm) h64) λD e1 kS h' k1 k2 k3 k4 k5 k6=>?_
 have I3:Inv X ((f,kla_obj "<lambda>" (Kon.Q P) params body scope cl pm c' ctv) :: pins) σ H2 { s2 with heap:=h' }:=I2.kept (t':=s2.toks) k1
 have big:∀ b,s2.heap.objs.size<=b->H2 b=none/\b≠X.env.locals/\b ∉ X.fs:=λb hb=>(oi03 (I2.hok.fresh hb) (P8 (nz1 I2.lt hb)) (I2.nofs hb))
 have I4:=I3.addPin (f:=D) (o:=seqObj "list" #[] e1) k2 (big D k4).1 (big D k4).2.1 (big D k4).2.2 λv z=>nomatch z
 have k4':s2.heap.objs.size<=kS:=nz4 k4 (nz5 k5)
 have I5:=I4.addPin (f:=kS) (o:=seqObj "list" #[] 0) k3 (big kS k4').1 (big kS k4').2.1 (big kS k4').2.2 λv z=>nomatch z
 have old:∀ p∈X.pn++((f,kla_obj "<lambda>" (Kon.Q P) params body scope cl pm c' ctv) :: pins),p.1<s2.heap.objs.size:=λp hp=>Y4 (I2.pin p hp).1
 have hpn:∀ p∈X.pn++((D,seqObj "list" #[] e1) :: (f,kla_obj "<lambda>" (Kon.Q P) params body scope cl pm c' ctv) :: pins),p.1≠kS:=λp hp=>by
  rcases Y7.mp hp with hp | hp
  ·exact nz7 (nz1 (old p (S6 _ hp)) k4')
  ·rcases Z8.mp hp with rfl | hp
   ·exact nz7 k5
   ·exact nz7 (nz1 (old p (Y2 _ hp)) k4')
 refine keys_inv (A:=X.A.in1.in1) (oD:=seqObj "list" #[] e1) S CL I.ok.frames hr.hd (by have:=hr.dp; show X.A.depth<_; lia) hb hp (nz4 I2.sz k4') hpn (λe2 ks kvs H3 s3 J rk hk=>?_) vs its [] [] 0 H2 _ I5 rv .nil (q8 H2 c' ts hc')
 have K:=keys_done (A:=X.A.in1.in1) (pins:=(f,kla_obj "<lambda>" (Kon.Q P) params body scope cl pm c' ctv) :: pins) (P':=pins) J k5 (nz4 I2.sz k4) (λp hp=>⟨nz7 (nz1 (old p hp) k4'),nz7 (nz1 (old p hp) k4)⟩) h64 rk rv hk
 refine oq02 K λz0 zz=>oq24 zz λκ cc z1 z2 z3 z4=>?_
 refine ⟨z0,κ,cc,z1,z2,z3,λp a1 a2=>?_⟩
 refine oq23 (z4 p a1 a2) λv9 H9 I9 r9 q9=>?_
 exact ⟨v9,H9,I9.pins_of λp hp=>I9.pin p (Y2 _ (Z8.mpr (.inr hp))),r9,q9⟩
end
end
section
open PySem PySem.Spec PyProof.Rows
variable [Kn:Kon]
theorem TbSt.ext {P:Addr} {F H H':Hp} (t:TbSt P H H') (sb:Same F H) (nt:NT F):Ext F H F H':=⟨t.sm,Same.refl _,λb o h=>t.sm.kp b o (by
 cases o with
 | tbl ps=>exact absurd h (nt b ps)
 | _=>trivial) (sb b o h),λx x h=>.inl h,λz=>z⟩
section
variable {Γ:List Slot} {te tb:TE} {K:Z0} {P:Addr} {cap:List (Str × Nat)}
theorem key_ev {C:Fc} {F0 H0:Hp} {σ:St} {c:Addr} {q:Str} {x:Str} {g:Int->Option (Int × Int)} {fin:List V->Hp->Prop} {ps:List (Int × Int)} (hc:(cap.map (·.2)).Nodup) (hb:∀ a,EV ((csl [x] cap Γ).set 0 (.fr rInt a)) tb (g a) (rT2 rInt rInt))
  (hfin:∀ F H ks,Ext F0 H0 F H->Paired ((rT2 rInt rInt).rel F) ks ps->fin ks H):∀ (r:List Int) (ks:List V) (kp pr:List (Int × Int)) (F H:Hp),SR C F Γ σ H->Ext F0 H0 F H->H c=some (.ext (aV c q))->Paired ((rT2 rInt rInt).rel F) ks kp->Pu.keysOf g r=some pr->kp++pr=ps ->
   kR (λσ H Q=>H c=some (.ext (aV c q))/\tb σ H Q) (λv=>eJ v cap σ) fin (r.map V.int) ks H:=by
 intro r
 induction r with
 | nil=>exact λks kp pr F H S x0 h0 hk e ep=>hfin F H ks x0 ((by rw [<- ep,<- Z3 e,T2]:kp=ps) ▸ hk)
 | cons a r ih =>
  intro ks kp pr F H S x0 h0 hk e ep
  refine oq12 (a9 e) λk e1 e=>oq12 (a9 e) λks' e2 e=>?_
  rw [<- Z3 e] at ep
  refine ⟨h0,hb a C F _ H _ k ((S.comp (loc:=[x]) hc).setF 0 (r:=rInt) (a:=a) (v:=.int a) rfl) e1 λv F' H' x1 rv=>?_⟩
  exact ih _ (kp++[k]) ks' F' H' (S.grow x1) (x0.trans x1) (x1.hh.kp _ _ trivial h0) (Paired.app (Paired.imp2 (λb b z=>Rp.mono _ x1.ff z) hk) (.cons rv .nil)) e2 (by rw [List.append_assoc]; exact ep)
set_option tactic.hygienic true in
theorem evl_sortK {o:Option (List Int)} {g:Int->Option (Int × Int)} {x:Str} (hc:(cap.map (·.2)).Nodup) (h:EV Γ te o (rL rInt)) (hb:∀ a,EV ((csl [x] cap Γ).set 0 (.fr rInt a)) tb (g a) (rT2 rInt rInt)):EVL Γ (tSortK K P cap te tb) (o.bind λxs=>Pu.sortK g xs) rInt:=by
 intro C F σ H Q xs S e k
 refine oq12 (a9 e) λns e1 e=>?_
 unfold Pu.sortK at e
 refine oq12 (a9 e) λps e2 e=>?_
 split at e
 ·rename_i hh
  refine oq02 hh λh64 hnd=>?_
  cases e
  have hl:=Pu.rm e2
  refine h C F σ H _ ns S e1 λv F1 H1 x1 zq=>oq23 zq λp vs e3 h1 h2=>?_
  have ev:=eI h2
  subst ev
  refine (oi25 p _ e3 (.inl (x1.sub.rd h1)) (by rw [Y0]; exact h64) ((S.grow x1).tg) (λH2 c ts h0=>?_))
  have x2:=ts.ext (S.grow x1).sub (S.grow x1).nt
  refine key_ev (ps:=ps) hc hb (λF' H' ks x3 hk=>?_) ns [] [] ps F1 H2 ((S.grow x1).grow x2) (x1.trans x2) h0 .nil e2 rfl
  refine ⟨ps,Paired.imp2 (λb b z=>Rp.mono _ x3.sub z) hk,by rw [hk.length,Y0,hl],hnd,λq ix hq hi hx=>?_⟩
  rw [Y0] at hi
  refine k q _ F' H' x3 hq ?_
  rw [<- Pu.srtK_of hl hnd hi hx]
  refine dF λi hi'=>?_
  have:=hi i hi'
  show (ns.map V.int).getD i .non=.int (ns.getD i 0)
  simp [this]
 ·cases e
end
def eL (K:Z0) (mg:Str->Option Value) (x:Str) (st:Stmt) (ps:List Str) (c:Addr):Prop:=∃ f fd,Fun K x x st f fd/\Binds K fd ps []/\mg x=some (.ref f)/\fd.code=.ref c
theorem def_mkC {K:Z0} {mg:Str->Option Value} {h:Heap} {x:Str} {st:Stmt} {ps:List Str} {f c:Addr} {oc:Value} {od an:Option Addr} {osl:Array (Option Value)} {kV doc pm cdv ct:Value} (X:K.In h) (G:h.Ns U2 mg)
  (a:K0 K U2 x=some (some (.ref f))) (l:K.lookup f=some ⟨oc,od,.func (U4 x x (br st) (aW st) (ae st) .none kV doc pm an cdv ct),osl⟩) (hcd:R3 K cdv x=true) (k:U3 K (.ref f)=true) (hc:cdv=.ref c)
  (hb:∀ (kV doc pm:Value) (an:Option Addr) (cdv ct:Value) (us:List Value),us.length=ps.length->G0 (U4 x x (br st) (aW st) (ae st) .none kV doc pm an cdv ct) ⟨us,[]⟩=pure (ps.zip us)):eL K mg x st ps c :=
 ⟨f,_,fP (st:=st) l hcd k,(fP (st:=st) l hcd k).binds hb,PySem.W.mg_of X G a,hc⟩
section
variable {P:X5} {w:World} {K:Z0} {mg:Str->Option Value} {base:Heap} {x:Str} {st:Stmt} {N ps:List Str} {k:Nat} {c:Addr} {τ γ:Type} {ra:RpA τ} {r:Rp γ}
theorem eL.has {sp:Sp} (D:eL K mg x st ps c) (S:FnScope N ps (ae st)) (len:∀ vs H Q E,sp vs H Q E->vs.length=ps.length)
  (hbody:∀ (f:Addr) (A:Around) (outer:List Env) (s:Shared) (H:Hp) (vs:List V) (Q:VK) (E:XK),Room k (A.deeper (envOfC x (ae st) s.heap.objs.size f (.ref c)))->sp vs H Q E ->
   ∃ t,PSs (cxOf CX0 P w K mg base N x (ae st) f (.ref c) A outer s H E).nox (aW st) t/\t { nx:=λa H'=>Q .non H',rt:=Q } (start N vs) H):Has P w K mg base (k+1) x ps sp:=by
 refine oq24 D λf fd F b hm hc=>?_
 refine ⟨f,fd,?_,hm,F.kp,b⟩
 refine oq71 F.ex λoc od kV doc pm an cdv zz=>oq23 zz λct osl e lk hcd=>?_
 subst e
 obtain rfl:cdv=.ref c:=hc
 refine fn_of lk hcd S len λA outer s H vs Q E hr hsp=>?_
 refine oq12 (hbody f A outer s H vs Q E hr hsp) λt h q=>?_
 exact (oi12 t h.nox q)
noncomputable abbrev BodyAtC (P:X5) (w:World) (K:Z0) (mg:Str->Option Value) (base:Heap) (x:Str) (st:Stmt) (N:List Str) (k:Nat) (c:Addr) (G:TS->Prop):Prop :=
 ∀ (f:Addr) (A:Around) (outer:List Env) (s:Shared) (H:Hp) (E:XK),Room k (A.deeper (envOfC x (ae st) s.heap.objs.size f (.ref c)))->∃ t,PSs (cxOf CX0 P w K mg base N x (ae st) f (.ref c) A outer s H E).nox (aW st) t/\G t
theorem eL.pV {f:τ->Option γ} {n:Nat} (D:eL K mg x st ps c) (S:FnScope N ps (ae st)) (hl:∀ a,(ra.slots a).length=ps.length) (hn:N.length - ps.length=n)
  (h:BodyAtC P w K mg base x st N k c λt=>∀ a,BV (ra.slots a++V1 n .any) t (f a) (finV r)):Has P w K mg base (k+1) x ps (spV ra r f):=by
 refine D.has S (λvs H Q E h=>?_) λfa A outer s H vs Q E hr hsp=>?_
 ·refine oq35 h λF a c b b b h1 b=>?_; rw [(ra.ok h1).1,hl]
 ·refine oq12 (h fa A outer s H E hr) λt h1 h2=>?_
  refine oq36 hsp λF a c sb nt tg hr' hf q=>?_
  refine (oi12 t h1 (h2 a _ F _ H _ c (SR.begin_ sb nt tg hr' (by rw [(ra.ok hr').1,hl]; exact hn)) hf ?_))
  exact λv F' H' fr rv=>q v F' H' ⟨fr.keep,fr.low,fr.sub,fr.base,λb=>fr.nt⟩ rv
theorem eL.pL {f:τ->Option (List γ)} {n:Nat} (D:eL K mg x st ps c) (S:FnScope N ps (ae st)) (hl:∀ a,(ra.slots a).length=ps.length) (hn:N.length - ps.length=n)
  (h:BodyAtC P w K mg base x st N k c λt=>∀ a,BV (ra.slots a++V1 n .any) t (f a) (finL r)):Has P w K mg base (k+1) x ps (spL ra r f):=by
 refine D.has S (λvs H Q E h=>?_) λfa A outer s H vs Q E hr hsp=>?_
 ·refine oq35 h λF a c b b b h1 b=>?_; rw [(ra.ok h1).1,hl]
 ·refine oq12 (h fa A outer s H E hr) λt h1 h2=>?_
  refine oq36 hsp λF a c sb nt tg hr' hf q=>?_
  refine (oi12 t h1 (h2 a _ F _ H _ c (SR.begin_ sb nt tg hr' (by rw [(ra.ok hr').1,hl]; exact hn)) hf ?_))
  exact λp vs F' H' fr hp rv=>q p vs F' H' ⟨fr.keep,fr.low,fr.sub,fr.base,λb=>fr.nt⟩ hp rv
end
end
open PySem PySem.Spec PyProof.Rows
@[reducible] noncomputable def konL (l:List (Addr × Str)):Kon:=⟨l.map (·.1),λb=>((l.find? λp=>p.1 == b).map (·.2)).getD ""⟩
def jZ (K:Z0) (T:List Addr) (a:Addr) (H:Hp):Prop:=∀ b u,H b=some u->(b=a/\K.lookup a=none/\∃ o xs,u=.frz o (.lst xs))\/(b∈T/\u=.tbl #[])
theorem law_callT [Kn:Kon] {P:X5} {w:World} {K:Z0} {mg mb:Str->Option Value} {CX:CXT} {k:Nat} {fa a:Addr} {fd:K2} {x:Str} {sp:Sp} {s₁:Shared} {vs:List Value} {ns:List Int}
  (KX:K.In s₁.heap) (hns:s₁.heap.Ns U2 mg) (hb:s₁.heap.Ns builtinsNs mb) (hbb:∀ x:Str,x≠"__name__"->mb x=Q8 x) (hlim:s₁.heap.NoLimit) (hbm:BM mg s₁.heap) (hg:s₁.gens=#[])
  (ha:s₁.heap.get? a=some { cls:=.type "list",data:=.seq vs.toArray }) (hi:O5 vs ns) (hl:ns.length<=X7) (hr:Room k callerA)
  (hT:∀ P∈Kon.T,s₁.heap.get? P=some (PySem.W.tabObj #[])/\(∃ c,N2 K c P=true)/\K.lookup P=none)
  (F:∀ base:Heap,K.In base->base.Ns U2 mg->BM mg base->FnOk P w K mg base CX k fa fd [x] sp) (hbind:∀ (s:Shared) (u:Value),BindsTo s fd ⟨[u],[]⟩ [(x,u)])
  (hsp:∀ H:Hp,TbG H->SqL K H a (ns.map V.int)->sp [.ref a] H (λv i=>v=.bl true) λi i i=>False)
  (hCX:∀ H e s',CX [] H s₁ (λi i i=>False) e s'->False) :
  D7 (model P w) callerA (.call (.ref fa) ⟨[.ref a],[]⟩) (λr s'=>r=.ok (.ret (.bool true))/\OldK s₁.heap s'.heap/\s'.os=s₁.os/\AllBare s'.gens) s₁:=by
 have rv:=jf hi
 have lenV:=hi.length
 have aT:a ∉ Kon.T:=λz=>by
  have:=(hT a z).1
  rw [ha] at this; cases this
 have core:∀ H:Hp,jZ K Kon.T a H->TbG H->SqL K H a (ns.map V.int)->HOk P w H s₁.heap ->
   D7 (model P w) callerA (.call (.ref fa) ⟨[.ref a],[]⟩) (λr s'=>r=.ok (.ret (.bool true))/\OldK s₁.heap s'.heap/\s'.os=s₁.os/\AllBare s'.gens) s₁:=by
  intro H hA tg hS hok
  have free:∀ {b:Addr} {o:Obj},s₁.heap.get? b=some o->(∀ xs n,o.data≠.seq xs n)->(∀ xs,o.data≠.fields xs)->H b=none:=λ{b o} e d1 d2=>by
   cases q:H b with
   | none=>rfl
   | some u =>
    rcases hA b u q with zr2_ | zr1_
    ·refine oq02 zr2_ λz i=>?_
     rw [z,ha] at e; cases e; exact absurd rfl (d1 _ _)
    ·refine oq02 zr1_ λz i=>?_
     rw [(hT b z).1] at e; cases e; exact absurd rfl (d2 _)
  have nsK:∀ {b:Addr} {m:Str->Option Value},s₁.heap.Ns b m->(hidT s₁.heap H).Ns b m:=λ{b m} zq=>oq33 zq λo es ep e d r=>⟨o,es,ep,kh e (free e (λi i z=>by rw [d] at z; cases z) λi z=>by rw [d] at z; cases z),d,r⟩
  have hKb:K.In (hidT s₁.heap H):=λb o e=>kh (KX b o e) (by
   cases q:H b with
   | none=>rfl
   | some u =>
    rcases hA b u q with zr4_ | zr3_
    ·refine oq03 zr4_ λz z2 i=>?_
     rw [z,z2] at e; cases e
    ·refine oq02 zr3_ λz i=>?_
     rw [(hT b z).2.2] at e; cases e)
  have hM:Mod K mg (hidT s₁.heap H):=⟨hKb,nsK hns,(oi12 mb (nsK hb) hbb),oq12 hlim λmc h1 h2=>⟨mc,nsK h1,h2⟩⟩
  have hB:BM mg (hidT s₁.heap H):=by
   refine oq26 hbm λbm ob b1 b2 b3 b4 b5 b6=>?_
   exact ⟨bm,ob,b1,b2,kh b3 (free b3 (λi i z=>by rw [b6] at z; cases z) λi z=>by rw [b6] at z; cases z),b4,b5,b6⟩
  have e0:Env0 P w K mg (hidT s₁.heap H) callerA [] s₁ H:=⟨rfl,hM,λb o e=>of_hidT e,nz3 (hidT_size _ _),trivial,λb hb=>absurd (show b∈([]:List Addr) from hb) (by simp),hok,.of_eq hg⟩
  refine codeAny_mono ((F _ hKb (nsK hns) hB).run callerA [] s₁ H ⟨[.ref a],[]⟩ [.ref a] [.ref a] _ _ hr e0 (hbind s₁ (.ref a)) (.cons rfl .nil) (hsp H tg hS)) λr s' h=>?_
  cases r with
  | error e=>exact (hCX H e s' h).elim
  | ok fl =>
   cases fl with
   | next=>exact R6 h
   | brk=>exact R6 h
   | cont=>exact R6 h
   | ret u =>
    refine oq26 h λv H' os bare un hok' r' q=>?_
    have q':v=.bl true:=q
    subst q'
    obtain rfl:u=Value.bool true:=r'
    have nof:∀ b:Addr,b ∉ frs ([]:List Env):=λb z=>absurd (show b∈([]:List Addr) from z) (by simp)
    refine (oi04 rfl ⟨λb o e=>?_,λb o e=>un.there b o e (by simp)⟩ os bare)
    cases q:H b with
    | none=>exact .inl (un.keep b o e q (nof b) (by simp))
    | some u =>
     rcases hA b u q with zr6_ | zr5_
     ·refine oq03 zr6_ λi i zz=>oq21 zz λob xs z=>?_
      subst z
      have z2:=un.frzs b ob _ q
      refine oq02 (hok b _ q) λe1 i=>?_
      refine oq02 (hok' b _ z2) λe2 i=>?_
      rw [e] at e1; cases e1
      exact .inl e2
     ·refine oq02 zr5_ λz z2=>?_
      subst z2
      refine oq11 (un.tbls b #[] q) λmore z3=>?_
      have z4:s'.heap.get? b=some (PySem.W.tabObj (#[]++more)):=(show bS P w H' s'.heap b (.tbl (#[]++more)) from hok' b _ z3)
      refine oq03 (hT b z) λt1 nn1 i=>?_; refine oq11 nn1 λc t2=>?_
      rw [t1] at e
      cases e
      exact .inr (.inl ⟨((PySem.W.codeHd_of_K KX t2).tab t1).isCodeTable,rfl,#[],more,rfl,z4⟩)
 classical
 have tgOf:∀ H:Hp,(∀ P∈Kon.T,H P=some (.tbl #[]))->jZ K Kon.T a H->TbG H:=λH h1 h2=>⟨λP hP=>⟨#[],h1 P hP⟩,λP ps e=>by
  rcases h2 P _ e with zr8_ | zr7_
  ·refine oq03 zr8_ λi i zz=>oq21 zz λo xs z=>?_
   cases z
  ·refine oq02 zr7_ λi z=>?_
   cases z; exact ⟨trivial,λpos cv h=>by simp [B2] at h⟩⟩
 cases hk:K.lookup a with
 | some o =>
  have e:=KX a o hk
  rw [ha] at e
  cases e
  have s1:jZ K Kon.T a (λb=>if b∈Kon.T then some (.tbl #[]) else none):=λb u z=>by
   by_cases hb:b∈Kon.T
   ·exact .inr ⟨hb,(Z3 ((if_pos hb).symm.trans z)).symm⟩
   ·exact nomatch (if_neg hb).symm.trans z
  refine core (λb=>if b∈Kon.T then some (.tbl #[]) else none) s1 (tgOf _ (λP hP=>if_pos hP) s1) (.inr (oi36 _ vs.toArray _ hk rfl rfl rfl (by rw [Y1,lenV]; exact hl) (by simpa using rv))) λb u z=>?_
  rcases s1 b u z with zr10_ | zr9_
  ·refine oq03 zr10_ λi z2 i=>?_
   rw [hk] at z2; cases z2
  ·refine oq02 zr9_ λz1 z2=>?_
   subst z2; exact (hT b z1).1
 | none =>
  have s1:jZ K Kon.T a (λb=>if b=a then some (.frz { cls:=.type "list",data:=.seq vs.toArray } (.lst (ns.map V.int))) else if b∈Kon.T then some (.tbl #[]) else none):=λb u z=>by
   by_cases hb:b=a
   ·exact .inl ⟨hb,hk,_,_,(Z3 ((if_pos hb).symm.trans z)).symm⟩
   ·have z:=(if_neg hb).symm.trans z
    by_cases hb:b∈Kon.T
    ·exact .inr ⟨hb,(Z3 ((if_pos hb).symm.trans z)).symm⟩
    ·exact nomatch (if_neg hb).symm.trans z
  refine core _ s1 (tgOf _ (λP hP=>(if_neg fun z:P=a=>aT (z ▸ hP)).trans (if_pos hP)) s1) (.inl (.inr ⟨{ cls:=.type "list",data:=.seq vs.toArray },if_pos rfl⟩)) λb u z=>?_
  by_cases hb:b=a
  ·have z':=(if_pos hb).symm.trans z
   cases z'
   subst hb
   exact ⟨ha,by rw [Y0]; exact hl,vs,_,rv,ha⟩
  ·have z':=(if_neg hb).symm.trans z
   by_cases hb:b∈Kon.T
   ·have z':=(if_pos hb).symm.trans z'
    cases z'
    exact (hT b hb).1
   ·exact nomatch (if_neg hb).symm.trans z'
theorem walk_ofT [Kn:Kon] {l:PySem.W.OpenLaw} {n k:Nat} {q:X5} {loose:List Str} {XP:(Str->Option Value)->Heap->Prop} {YP:World->Heap->Prop} {d:DefRec} {K:Params->Z0} {sp:World->Sp} {x:Str}
  (hn:l.most=some n) (hn2:n<=X7) (hdf:d.params.defaults=[]) (hr:Room k callerA)
  (hY:∀ (w:World) (h:Heap),YP w h->(K w.params).In h/\∀ P∈Kon.T,h.get? P=some (PySem.W.tabObj #[]))
  (hC:∀ (w:World),∀ P∈Kon.T,(K w.params).lookup P=none)
  (F:∀ (w:World) (mg:Str->Option Value) (fa:Addr) (h:Heap),(K w.params).In h->h.Ns U2 mg->mg d.name=some (.ref fa) ->
   ∃ fd:K2,(∀ (s:Shared) (u:Value),BindsTo s fd ⟨[u],[]⟩ [(x,u)])/\(∀ P∈Kon.T,∃ c,N2 (K w.params) c P=true) /\
    ∀ base:Heap,(K w.params).In base->base.Ns U2 mg->BM mg base->FnOk l.prog w (K w.params) mg base CX0 k fa fd [x] (sp w))
  (hsp:∀ (w:World) (H:Hp) (a:Addr) (ns:List Int),ns.length<=n->TbG H->SqL (K w.params) H a (ns.map V.int)->sp w [.ref a] H (λv i=>v=.bl true) λi i i=>False) :
  PySem.W.WalkO q loose XP YP l.row.toRowW d [] (λf vs=>PySem.call f vs):=by
 refine Att.oM hn hdf λw s₀ s₁ mg mb fa o pm cd doc a vs ns G Y ho hd i hmg hobj hints hlen hg=>?_
 refine oq02 (hY w _ Y) λKX KT=>?_
 refine oq13 (F w mg fa _ KX G.T.g hmg) λfd hb hcd hF=>?_
 exact law_callT KX G.T.g G.T.b G.T.builtins G.T.nolimit G.T.bmain hg hobj hints (nz4 hlen hn2) hr (λP hP=>(oi03 (KT P hP) (hcd P hP) (hC w P hP))) hF hb (λH tg hS=>hsp w H a ns hlen tg hS) λH e s' z=>z
end L2
namespace Pu
noncomputable def lrng (j:Int):Option (List Int):=if -(2 ^ 62)<=j/\j<2 ^ 62/\j.toNat<=16777216 then some (nats j.toNat) else none
end Pu
namespace L2
section
open PySem PySem.Spec PyProof.Rows
variable [Kn:Kon]
structure LamAt (K:Z0) (mg:Str->Option Value) (base:Heap) (c P:Addr) (x:Str):Prop where
 bm:BM mg base
 hd:N2 K c P=true
 mem:P∈Kon.T
 nm:Kon.Q P=(x++".<locals>.")++"<lambda>"
section
variable {X:Cx} {a:Expr} {te:TE} {p pos:Pos}
def tRng (te:TE):TE:=λσ H Q=>te σ H λv H1=>∃ j:Int,v=.int j/\-(2 ^ 62)<=j/\j<2 ^ 62/\∀ q,H1 q=none->Q (.ref q) (upd H1 q (.rng 0 j))
theorem pe_rng (he:PE X a te) (hg:Gl X "range") (hm:X.mg "range"=none) (hs:autoParam (Y9 [a] X.env=[(false,eval a X.env)]) L2.a2q._auto_1):PE X (.Call (.Name "range" p) [a] [] pos) (tRng te):=by
 intro pins s σ H Q I h
 have h1:(bg te tNil) σ H λxs H1=>∃ j:Int,xs=[.int j]/\-(2 ^ 62)<=j/\j<2 ^ 62/\∀ q,H1 q=none->Q (.ref q) (upd H1 q (.rng 0 j)):=by
  show te σ H λx H1=>∃ j:Int,[x]=[.int j]/\-(2 ^ 62)<=j/\j<2 ^ 62/\∀ q,H1 q=none->Q (.ref q) (upd H1 q (.rng 0 j))
  have e:(λ(x:V) H1=>∃ j:Int,[x]=[.int j]/\-(2 ^ 62)<=j/\j<2 ^ 62/\∀ q,H1 q=none->Q (.ref q) (upd H1 q (.rng 0 j)))=λx H1=>∃ j:Int,x=.int j/\-(2 ^ 62)<=j/\j<2 ^ 62/\∀ q,H1 q=none->Q (.ref q) (upd H1 q (.rng 0 j)):=by
   funext x H1; simp
  rw [e]; exact h
 refine P4 (fL I hg hm boot_range (R1 (thn (a8 he aa hs pos pins s σ H _ I h1) λus s1 zq=>oq23 zq λvs H1 I1 r1 q1=>?_) hs rfl))
 refine oq14 q1 λj e q1 q2 q=>?_
 subst e
 cases r1 with
 | cons r rr =>
  cases rr
  refine oq11 r λt eq1_=>?_; subst eq1_
  exact call_range_1 ⟨.ref _,_,I1.laid (o:=.rng 0 j) (λb o e=>Z5 _ e) (nz6 _) ⟨_,_,_,X3 _ rfl⟩,rfl,q _ (I1.hok.fresh (nz6 _))⟩
def rListR:List V->Hp->VK->Prop:=λxs H Q=>∃ r j,xs=[.ref r]/\H r=some (.rng 0 j)/\-(2 ^ 62)<=j/\j<2 ^ 62/\j.toNat<=16777216/\∀ q,H q=none->Q (.ref q) (upd H q (.lst ((Pu.nats j.toNat).map V.int)))
theorem rp (hc:X.calm=true):gd X (.type "list") rListR:=by
 intro pins s σ H xs us Q I r hh
 refine oq26 hh λl j eq2_ hR h1 h2 h3 q=>?_; subst eq2_
 refine oq12 (vals1 r) λu eq1_ ru=>?_; subst eq1_
 cases ru
 refine oq31 ((show bS X.prog X.w H s.heap l (.rng 0 j) from I.hok l _ hR)) λt u v ho=>?_
 refine call_list_range (n:=j.toNat) (I.ok.hd hc) ho (small_one (by lia) (by lia) h1 h2) (by rw [rangeSize_one]; split <;> lia) (by lia) λh' tk acc c' hk hD hacc=>?_
 have hl:acc.toList.length=j.toNat:=by rw [P0]; exact hacc.1
 refine ⟨.ref _,_,I.laid (t':=tk) (o:=.lst ((Pu.nats j.toNat).map V.int)) hk (nz6 _) ⟨?_,acc.toList,c',?_,by rw [hD]⟩,rfl,q _ (I.hok.fresh (nz6 _))⟩
 ·rw [X9]; simp [Pu.nats]; lia
 ·refine jf ?_
  have key:∀ (l:List Value) (k:Nat),(∀ (i:Nat) v,l[i]?=some v->∃ t,v=Q9 ((k+i:Nat):Int) t)->O5 l ((List.range' k l.length).map λ(i:Nat)=>(i:Int)):=by
   intro l
   induction l with
   | nil=>exact λk a=>.nil
   | cons x l ih =>
    intro k hx
    refine oq11 (hx 0 x rfl) λt e=>?_
    subst e
    rw [W3,List.range'_succ,W1]
    refine .cons _ t (ih (k+1) λi v e=>?_)
    refine oq11 (hx (i+1) v (by simpa using e)) λt e2=>?_
    exact ⟨t,by rw [e2]; congr 2; try lia⟩
  have:=key acc.toList 0 λi v e=>by
   obtain ⟨t,e2⟩:=hacc.2 i v (by rw [<- P3]; exact e)
   exact ⟨t,by rw [e2]; congr 1; try lia⟩
  rw [hl] at this
  unfold Pu.nats
  rw [List.range_eq_range']
  exact this
end
set_option tactic.hygienic true in
theorem p8 {Γ:List Slot} {te:TE} {oi:Option Int} (h:EV Γ te oi rInt):EVL Γ (tCB rListR (bg (tRng te) tNil)) (oi.bind λj=>Pu.lrng j) rInt:=by
 intro C F σ H Q xs S e k
 refine oq12 (a9 e) λj e1 e=>?_
 unfold Pu.lrng at e
 split at e
 ·rename_i hh
  cases e
  refine h C F σ H _ j S e1 λv F' H' x1 r1=>(oi14 j r1 hh.1 hh.2.1 (λq hq=>⟨q,j,rfl,ai,hh.1,hh.2.1,hh.2.2,λl hl=>k l _ F' _ (x1.trans (Ext.newH x1.sub hq)) hl (paired_ints _)⟩))
 ·cases e
end
end L2
namespace Pu
noncomputable def kT (g:Int->Option (Int × Int)):List Int->Int->Int × Int->Option Int
 | [],b,_=>some b
 | x :: xs,b,kb=>(g x).bind λk=>if lt2 k kb=true then kT g xs x k else kT g xs b kb
noncomputable def minK (g:Int->Option (Int × Int)):List Int->Option Int
 | []=>none
 | x :: xs=>(g x).bind λk=>kT g xs x k
end Pu
namespace L2
section
open PySem PySem.Spec PyProof.Rows
variable [Kn:Kon]
def ii (tb:TE) (st:V->St) (sq:Hp->Prop) (Q:VK):List V->V->V->Hp->Prop
 | [],b,_,H=>sq H/\Q b H
 | x :: r,b,kb,H=>sq H/\tb (st x) H λk H'=>∃ pk pb,(rT2 rInt rInt).rel H' k pk/\(rT2 rInt rInt).rel H' kb pb/\(if Pu.lt2 pk pb=true then ii tb st sq Q r x k H' else ii tb st sq Q r b kb H')
def tMinK (K:Z0) (P:Addr) (cap:List (Str × Nat)) (te tb:TE):TE:=λσ H Q=>te σ H λv H1=>∃ p x r,v=.ref p/\SqL K H1 p (x :: r)/\TbG H1 /\
 ∀ H2 c,TbSt P H1 H2->H2 c=some (.ext (aV c (Kon.Q P)))->H2 c=some (.ext (aV c (Kon.Q P)))/\tb (eJ x cap σ) H2 λk H'=>ii (λσ H Q=>H c=some (.ext (aV c (Kon.Q P)))/\tb σ H Q) (λx=>eJ x cap σ) (λH=>SqL K H p (x :: r)) Q r x k H'
section
variable {X:Cx} {pins:List (Addr × Obj)} {σ:St} {H:Hp} {s:Shared} {x:Str} {cap:List (Str × Nat)} {scope:Scope} {cl:List (Str × Addr)} {f:Addr} {cd:Value}
theorem nB {h:Heap} {l i l':Addr} {its:Array Value} {j:Nat} (h1:h.IsList l its) (h2:h.IsListIter i l' j):l≠i:=λz=>by
 refine oq13 h1 λo ho hc x=>?_
 refine oq13 h2 λo2 ho2 hc2 x=>?_
 rw [z,ho2] at ho; cases ho; rw [hc2] at hc; simp at hc
theorem k7 {A B:List (Addr × Obj)} {a:Addr × Obj} {z:Addr} (h:∀ p∈A++B,p.1<z) (ha:a.1≠z):∀ p∈A++a :: B,p.1≠z:=λp hp=>by
 rcases Y7.mp hp with q | q
 ·exact nz7 (h p (S6 _ q))
 ·rcases Z8.mp q with q | q
  ·rw [q]; exact ha
  ·exact nz7 (h p (Y2 _ q))
theorem Inv.noc {a:Addr} {o:Obj} (I:Inv X pins σ H s) (hm:(a,o)∈X.pn++pins):∀ y c,X.env.cells.lookup y=some c->c≠a:=λy c e z=>by
 refine oq22 (I.cell y c e) λv ob ho hd=>?_
 refine oq05 (I.pin (a,o) hm) λq1 x x x q5=>?_
 rw [z] at ho
 have:some ob=some o:=ho.symm.trans q1
 cases this
 exact q5 v hd
theorem Inv.swap {a b:Addr × Obj} (I:Inv X (a :: b :: pins) σ H s):Inv X (b :: a :: pins) σ H s:=I.pins_of λp hp=>I.pin p (Y2 _ (by
 simp only [Z8] at hp ⊢
 rcases hp with h | h | h
 ·exact .inr (.inl h)
 ·exact .inl h
 ·exact .inr (.inr h)))
theorem Inv.drop1 {a:Addr × Obj} (I:Inv X (a :: pins) σ H s):Inv X pins σ H s:=I.pins_of λp hp=>I.pin p (Y2 _ (Z8.mpr (.inr hp)))
theorem Inv.relistT {kS:Addr} {o o':Obj} {h':Heap} {t':Nat} (I:Inv X ((kS,o) :: pins) σ H s) (hz:X.s₀.heap.objs.size<=kS) (hp:∀ p∈X.pn++pins,p.1≠kS) (hc:∀ v,o'.data≠.cell v) (k:∀ b ob,b≠kS->s.heap.get? b=some ob->h'.get? b=some ob) (h:h'.get? kS=some o') :
  Inv X ((kS,o') :: pins) σ H { s with heap:=h',toks:=t' }:=by
 have I1:=(I.relist hz hp hc k h).tok t'
 exact I1
theorem pair_lt {a b:V} {u v:Value} {pa pb:Int × Int} {A:Around} {E:Value->Shared->Prop} {Q:Value->Shared->Prop} (I:Inv X pins σ H s) (ra:RelV a u) (rb:RelV b v) (ha:(rT2 rInt rInt).rel H a pa) (hb:(rT2 rInt rInt).rel H b pb) (hu:A.units<cLine) (h:Q (.bool (Pu.lt2 pa pb)) s) :
  wpAny (model X.prog X.w) A (U8 .Lt u v) Q E s:=by
 refine oq34 ha λp a1 a2 eq3_ h1 h2 h3=>?_; subst eq3_
 refine oq34 hb λp' b1 b2 eq3_ h4 h5 h6=>?_; subst eq3_
 cases ra; cases rb
 cases h2; cases h3; cases h5; cases h6
 refine oq13 (I.tuple (SqT.of (K:=X.K) h1)) λits r1 p1 x=>?_
 refine oq13 (I.tuple (SqT.of (K:=X.K) h4)) λits2 r2 p2 x=>?_
 have i1:O5 its.toArray.toList [pa.1,pa.2]:=intsAre_of (by simpa using r1)
 have i2:O5 its2.toArray.toList [pb.1,pb.2]:=intsAre_of (by simpa using r2)
 refine HT.kz p1 p2 i1 i2 hu ?_
 rw [p7]; exact h
open PySem.W in
theorem min_inv {params:D0} {body:Expr} {pm ctv:Value} {c':Addr} {qual:Str} {tb:TE} {I9 S9 l:Addr} {vs:List V} {Q:VK} {L:List (Addr × Obj)} {R:Result->Shared->Prop} (hfL:(f,kla_obj "<lambda>" qual params body scope cl pm c' ctv)∈L) (hR:∀ u s',EP X L σ Q u s'->R (.ok (.ret u)) s') (S:LamScope X x cap scope) (C:LamCl X scope cl)
  (hA:X.A.frames=some X.stack) (hh:X.A.handled=none) (hd:X.A.depth<L6) (hu:X.A.in1.units<cLine) (hb:∀ cl pm cd ct u,G0 (kla_fn "<lambda>" qual params body scope cl pm cd ct) ⟨[u],[]⟩=pure [(x,u)])
  (hp:∀ f cd cl s H,PE (iK X X.A.in1 (x :: cap.map (·.1)) qual scope f cd cl s H) body tb) (hzI:X.s₀.heap.objs.size<=I9) (hzS:X.s₀.heap.objs.size<=S9) (hIS:I9<S9)
  (hpn:∀ p∈X.pn++L,p.1<I9) :
  ∀ (r:List V) (j:Nat) (bV kV:V) (vb kb:Value) (c:Nat) (oI:Obj) (H:Hp) (s:Shared),vs.drop j=r->j<=vs.length ->
   Inv X ((S9,seqObj "list" #[vb,kb] c) :: (I9,oI) :: L) σ H s->s.heap.IsListIter I9 l j->RelV bV vb->RelV kV kb ->
   ii (λσ H Q=>H c'=some (.ext (aV c' qual))/\tb σ H Q) (λv=>eJ v cap σ) (λH=>SqL X.K H l vs) Q r bV kV H ->
   D7 (model X.prog X.w) X.A (.builtin "min.loop" ⟨[.ref I9,.ref f,.ref S9],[]⟩) R s:=by
 intro r
 induction r with
 | nil =>
  intro j bV kV vb kb c oI H s er hj I hit rb rk h
  refine oq02 h λhS hq=>?_
  have hjl:j=vs.length:=by
   have:=congrArg G1 er
   simp at this; (clear hq hS rk rb hit I er hpn hIS hzS hzI hp hb hu hd hh hA C S; lia)
  subst hjl
  have pS:=I.pin (S9,seqObj "list" #[vb,kb] c) (by simp)
  have pI:=I.pin (I9,oI) (by simp)
  refine oq13 (I.list hS) λits rv ht hz=>?_
  have hlI:=nB ht.isList hit
  have W:=Walks.list (prog:=X.prog) (w:=X.w) (A:=X.A.in1) hh I9 l hlI its.toArray
  have hsz:its.toArray.size=vs.length:=by rw [Y1,<- rv.length]
  refine codeAny_builtin C3 ?_
  rw [A3 R5 _]
  show wpAny _ X.A.in1 (seqItems? (.ref S9) >>= _) _ _ _
  refine Z4 (wpAny_seqItems pS.1 rfl ?_)
  show wpAny _ X.A.in1 (tryCatch (pyNext (.ref I9)) _ >>= _) _ _ _
  refine Z4 (G3 (W.done _ _ _ ⟨by rw [hsz]; exact hit,ht.isList⟩ λh' tk' hk'=>?_))
  have hk2:∀ b o,b≠I9->s.heap.get? b=some o->h'.get? b=some o:=λb o nb e=>hk' b o (by simpa using nb) e
  have hS':=hk2 S9 _ (P8 hIS) pS.1
  show wpAny _ X.A.in1 (updateSeq S9 (λa=>#[]) >>= _) _ _ _
  refine Z4 ?_
  refine wpAny_updateSeq hS' rfl (Z4 (wpAny_letGo (Y6 ?_)))
  have I0:Inv X L σ H s:=I.drop1.drop1
  have I1:=I0.turned (t':=tk') hk2 pI.2.1 pI.2.2.1 (.inr hzI) (I.noc (o:=oI) (by simp)) λp hp=>nz7 (hpn p hp)
  have I2:=I1.turned (h':=h'.update S9 (Y5 λa=>#[])) (t':=tk') (it:=S9) (λb o nb e=>by rw [V4 _ _ _ _ nb]; exact e) pS.2.1 pS.2.2.1 (.inr hzS) (I.noc (o:=seqObj "list" #[vb,kb] c) (by simp)) λp hp=>nz7 (nz8 (hpn p hp) hIS)
  exact hR _ _ ⟨bV,H,I2,rb,hq⟩
 | cons y r ih =>
  intro j bV kV vb kb c oI H s er hj I hit rb rk h
  refine oq03 h λhS h0 h=>?_
  have hjl:j<vs.length:=by
   have:=congrArg G1 er
   simp at this; lia
  have ey:vs[j]?=some y:=by
   have:(vs.drop j)[0]?=some y:=by rw [er]; rfl
   rw [List.getElem?_drop] at this; simpa using this
  have er':vs.drop (j+1)=r:=by
   have:(vs.drop j).drop 1=r:=by rw [er]; rfl
   rw [List.drop_drop] at this; exact this
  have pS:=I.pin (S9,seqObj "list" #[vb,kb] c) (by simp)
  have pI:=I.pin (I9,oI) (by simp)
  refine oq13 (I.list hS) λits rv ht hz=>?_
  have hlI:=nB ht.isList hit
  have W:=Walks.list (prog:=X.prog) (w:=X.w) (A:=X.A.in1) hh I9 l hlI its.toArray
  have hsz:its.toArray.size=vs.length:=by rw [Y1,<- rv.length]
  refine codeAny_builtin C3 ?_
  rw [A3 R5 _]
  show wpAny _ X.A.in1 (seqItems? (.ref S9) >>= _) _ _ _
  refine Z4 (wpAny_seqItems pS.1 rfl ?_)
  show wpAny _ X.A.in1 (tryCatch (pyNext (.ref I9)) _ >>= _) _ _ _
  refine Z4 (G3 (W.item j _ _ _ (by rw [hsz]; exact hjl) ⟨hit,ht.isList⟩ λv h' tk' hP hst' hk'=>?_))
  have hv:its[j]?=some v:=by simpa using hP
  refine oq12 (rv.get ey) λu9 hu9 ru=>?_
  have:u9=v:=Z3 (hu9.symm.trans hv)
  subst this
  have hk2:∀ b o,b≠I9->s.heap.get? b=some o->h'.get? b=some o:=λb o nb e=>hk' b o (by simpa using nb) e
  refine oq13 (id hst'.1) λoI' hoI' hoc hod=>?_
  have I1:=(I.swap.relistT (t':=tk') hzI (k7 hpn (P8 hIS)) (λw z=>by rw [hod] at z; cases z) hk2 hoI').swap
  show wpAny _ X.A.in1 (tryCatch (holding [u9] (call (.ref f) [u9])) _ >>= _) _ _ _
  have po:=I1.pin _ (Y2 _ (.tail _ (.tail _ hfL)))
  refine Z4 (G3 (Q3 (T0 (nA (A:=X.A.in1) S C I1 po.1 hA hh hd h0 hb (hp _ _ _ _ _) ru h) (λk s2 he=>?_) λa a z=>z.elim)))
  refine oq23 he λkv H2 I2 rkv zz=>oq23 zz λpk pb g1 g2 g3=>?_
  have pS2:=I2.pin (S9,seqObj "list" #[vb,kb] c) (by simp)
  have pI2:=I2.pin (I9,oI') (by simp)
  have hit2:s2.heap.IsListIter I9 l (j+1):=⟨oI',pI2.1,hoc,hod⟩
  show wpAny _ X.A.in1 (tryCatch (holding [u9,k] (richCompare .Lt k kb >>= _)) _ >>= _) _ _ _
  refine Z4 (G3 (Q3 (Z4 (pair_lt (A:=X.A.in1) I2 rkv rk g1 g2 hu ?_))))
  refine Z4 (Q3 (R8 ?_))
  refine Z4 (wpAny_letGo (Y6 ?_))
  cases hb':Pu.lt2 pk pb with
  | true =>
   rw [hb',if_pos rfl] at g3
   obtain ⟨c2,hc2⟩:∃ c2,(s2.heap.update S9 (Y5 λa=>#[u9,k])).get? S9=some (seqObj "list" #[u9,k] c2):=⟨_,N8 pS2.1 λa=>#[u9,k]⟩
   simp only [if_true]
   refine Z4 ?_
   refine wpAny_updateSeq pS2.1 rfl (Z4 (wpAny_letGo ?_))
   have I3:=I2.relist (o':=seqObj "list" #[u9,k] c2) (h':=s2.heap.update S9 (Y5 λa=>#[u9,k])) hzS (k7 (λp hp=>nz8 (hpn p hp) hIS) (nz7 hIS)) (λw z=>nomatch z) (λb o nb e=>by rw [V4 _ _ _ _ nb]; exact e) hc2
   have hit3:(s2.heap.update S9 (Y5 λa=>#[u9,k])).IsListIter I9 l (j+1):=⟨oI',by rw [V4 _ _ _ _ (nz7 hIS)]; exact pI2.1,hoc,hod⟩
   exact Y6 ⟨plainId_quiet R5 _,ih (j+1) y kv u9 k c2 oI' H2 _ er' (by exact hjl) I3 hit3 ru rkv g3⟩
  | false =>
   rw [hb',if_neg Z2] at g3
   simp only [P5,if_false]
   refine Z4 (wpAny_letGo ?_)
   exact Y6 ⟨plainId_quiet R5 _,ih (j+1) bV kV vb kb c oI' H2 _ er' (by exact hjl) I2 hit2 rb rk g3⟩
open PySem.W in
theorem min_first {params:D0} {body:Expr} {pm ctv:Value} {c':Addr} {qual:Str} {tb:TE} {I9 S9 l:Addr} {y:V} {rest:List V} {Q:VK} {oI:Obj} {L:List (Addr × Obj)} {R:Result->Shared->Prop} (hfL:(f,kla_obj "<lambda>" qual params body scope cl pm c' ctv)∈L) (hR:∀ u s',EP X L σ Q u s'->R (.ok (.ret u)) s') (S:LamScope X x cap scope) (C:LamCl X scope cl)
  (hA:X.A.frames=some X.stack) (hh:X.A.handled=none) (hd:X.A.depth<L6) (hu:X.A.in1.units<cLine) (hb:∀ cl pm cd ct u,G0 (kla_fn "<lambda>" qual params body scope cl pm cd ct) ⟨[u],[]⟩=pure [(x,u)])
  (hp:∀ f cd cl s H,PE (iK X X.A.in1 (x :: cap.map (·.1)) qual scope f cd cl s H) body tb) (hzI:X.s₀.heap.objs.size<=I9) (hzS:X.s₀.heap.objs.size<=S9) (hIS:I9<S9)
  (hpn:∀ p∈X.pn++L,p.1<I9)
  (I:Inv X ((S9,seqObj "list" #[] 0) :: (I9,oI) :: L) σ H s) (hit:s.heap.IsListIter I9 l 0) (hS:SqL X.K H l (y :: rest)) (h0:H c'=some (.ext (aV c' qual)))
  (q:tb (eJ y cap σ) H λkv H3=>ii (λσ H Q=>H c'=some (.ext (aV c' qual))/\tb σ H Q) (λv=>eJ v cap σ) (λH=>SqL X.K H l (y :: rest)) Q rest y kv H3) :
  D7 (model X.prog X.w) X.A (.builtin "min.loop" ⟨[.ref I9,.ref f,.ref S9],[]⟩) R s:=by
 refine oq13 (I.list hS) λits rv ht hz=>?_
 have hlI:=nB ht.isList hit
 have W:=Walks.list (prog:=X.prog) (w:=X.w) (A:=X.A.in1) hh I9 l hlI its.toArray
 have hsz:0<its.toArray.size:=by rw [Y1,<- rv.length]; exact Nat.succ_pos _
 refine codeAny_builtin C3 ?_
 rw [A3 R5 _]
 have pS:=I.pin (S9,seqObj "list" #[] 0) (by simp)
 show wpAny _ X.A.in1 (seqItems? (.ref S9) >>= _) _ _ _
 refine Z4 (wpAny_seqItems pS.1 rfl ?_)
 show wpAny _ X.A.in1 (tryCatch (pyNext (.ref I9)) _ >>= _) _ _ _
 refine Z4 (G3 (W.item 0 _ _ _ hsz ⟨hit,ht.isList⟩ λv h' tk' hP hst' hk'=>?_))
 have hv:its[0]?=some v:=by simpa using hP
 refine oq12 (rv.get (i:=0) (x:=y) rfl) λu9 hu9 ru=>?_
 have:u9=v:=Z3 (hu9.symm.trans hv)
 subst this
 refine oq13 (id hst'.1) λoI' hoI' hoc hod=>?_
 have I6:=(I.swap.relistT (t':=tk') hzI (k7 hpn (P8 hIS)) (λw z=>by rw [hod] at z; cases z) (λb o nb e=>hk' b o (by simpa using nb) e) hoI').swap
 show wpAny _ X.A.in1 (tryCatch (holding [u9] (call (.ref f) [u9])) _ >>= _) _ _ _
 have po:=I6.pin _ (Y2 _ (.tail _ (.tail _ hfL)))
 refine Z4 (G3 (Q3 (T0 (nA (A:=X.A.in1) S C I6 po.1 hA hh hd h0 hb (hp _ _ _ _ _) ru q) (λk s3 he=>?_) λa a z=>z.elim)))
 refine oq23 he λkv H3 I7 rkv g3=>?_
 have pS2:=I7.pin (S9,seqObj "list" #[] 0) (by simp)
 have pI2:=I7.pin (I9,oI') (by simp)
 refine oq11 (⟨_,N8 pS2.1 λa=>#[u9,k]⟩:∃ c2,(s3.heap.update S9 (Y5 λa=>#[u9,k])).get? S9=some (seqObj "list" #[u9,k] c2)) λc2 hc2=>?_
 show wpAny _ X.A.in1 (updateSeq S9 (λa=>#[u9,k]) >>= _) _ _ _
 refine Z4 ?_
 refine wpAny_updateSeq pS2.1 rfl ?_
 rw [show (toString "min"++toString ".loop":String)="min.loop" by decide]
 have I8:=I7.relist (o':=seqObj "list" #[u9,k] c2) (h':=s3.heap.update S9 (Y5 λa=>#[u9,k])) hzS (k7 (λp hp=>nz8 (hpn p hp) hIS) (nz7 hIS)) (λw z=>nomatch z) (λb o nb e=>by rw [V4 _ _ _ _ nb]; exact e) hc2
 exact Y6 ⟨plainId_quiet R5 _,min_inv (vs:=y :: rest) hfL hR S C hA hh hd hu hb hp hzI hzS hIS hpn rest 1 y kv u9 k c2 oI' H3 _ rfl (C8 (V5 _)) I8 ⟨oI',by rw [V4 _ _ _ _ (nz7 hIS)]; exact pI2.1,hoc,hod⟩ ru rkv g3⟩
open PySem.W in
theorem pe_minK {P c:Addr} {params:D0} {body e:Expr} {p pos kpos lpos:Pos} {te tb:TE} (he:PE X e te) (hr:Room 3 X.A) (hm:X.mg "min"=none) (bm:BM X.mg X.base) (hC:codeHdIn X.K c P=true) (hT:P∈Kon.T) (hq:Kon.Q P=X.env.qual++"<lambda>") (hcode:X.env.code=.ref c)
  (S:LamScope X x cap scope) (hb:∀ cl pm cd ct u,G0 (kla_fn "<lambda>" (Kon.Q P) params body scope cl pm cd ct) ⟨[u],[]⟩=pure [(x,u)])
  (hp:∀ f cd cl s H,PE (iK X X.A.in1 (x :: cap.map (·.1)) (Kon.Q P) scope f cd cl s H) body tb) (hg:autoParam (Gl X "min") L2.a2q._auto_1) (hdef:autoParam (defaultsOf params X.env=([],[])) L2.a2q._auto_1)
  (hst:autoParam (Y9 [e] X.env=(false,eval e X.env) :: Y9 [] X.env) L2.a2q._auto_1) (hpl:autoParam ((backTo pos (Y9 [e] X.env)).any (·.1)=false) L2.a2q._auto_1) :
  PE X (.Call (.Name "min" p) [e] [⟨some "key",.Lambda params body scope lpos,kpos⟩] pos) (tMinK X.K P cap te tb):=by
 intro pins s σ H Q I h
 refine P4 (fL I hg hm ie ?_)
 refine PyProof.Rows.callWith_kw ?_ (by rw [hst]; rfl) hpl
 have h1:(bg te tNil) σ H (One λv H1=>∃ p x r,v=.ref p/\SqL X.K H1 p (x :: r)/\TbG H1/\∀ H2 c,TbSt P H1 H2->H2 c=some (.ext (aV c (Kon.Q P)))->H2 c=some (.ext (aV c (Kon.Q P)))/\tb (eJ x cap σ) H2 λk H'=>ii (λσ H Q=>H c=some (.ext (aV c (Kon.Q P)))/\tb σ H Q) (λx=>eJ x cap σ) (λH=>SqL X.K H p (x :: r)) Q r x k H'):=h
 refine thn (a8 he aa hst pos pins s σ H _ I h1) ?_
 intro us s1 zq; refine oq23 zq λvv H1 I1 r q=>?_
 show wpAny _ _ (evalAll ((do let v <- eval (.Lambda params body scope lpos) X.env; standAt pos; pure v) :: [])) _ _ s1
 refine oq23 (One.got r q) λv u eq2_ ru q9=>oq34 q9 λl y rest ev hS tg q8=>?_; subst eq2_; subst ev; clear q9
 cases ru
 refine wpAny_evalAll_cons (Z4 (mk_lam (P:=P) I1 S tg hT hq hcode hC bm hdef λf cl pm c' ctv H2 s2 I2 ts hc' CL=>Z4 (B7 (Y6 (wpAny_evalAll_nil ?_)))))
 show wpAny _ _ (call (.builtin "min") [.ref l] [(Str.ofString "key",.ref f)]) _ _ s2
 refine oq02 (q8 H2 c' ts hc') λh0 q=>?_
 have hS2:=ts.sm.seq hS
 refine oq13 (I2.list hS2) λits rv ht hz=>?_
 have hname:(toString "min"++toString ".loop":String)="min.loop":=by decide
 refine kmk_tree PySem.F.kind_min PySem.F.plain_min PySem.F.entry_min (kmk_min_key _ _) ?_
 show wpAny _ X.A.in1 (N4.Builtins.bindParams "min" ["key","default"] 0 ⟨[],[(Str.ofString "key",.ref f)]⟩ >>= _) _ _ s2
 refine Z4 (wpAny_of_eq (show N4.Builtins.bindParams "min" ["key","default"] 0 ⟨[],[(Str.ofString "key",.ref f)]⟩=pure [some (.ref f),none] from rfl) ?_)
 refine Z4 (Y6 ?_)
 refine Z4 (wpAny_pyIter_list ht.isList ?_)
 refine Z4 (F7 ?_ (V5 _))
 rw [hname]
 generalize hI9:s2.heap.objs.size=I9
 have hS9:(s2.heap.push { cls:=.type "list_iterator",data:=.fields #[.ref l,.int 0 0] }).objs.size=I9+1:=by rw [<- hI9]; exact size_push' ..
 have gI:((s2.heap.push { cls:=.type "list_iterator",data:=.fields #[.ref l,.int 0 0] }).push (seqObj "list" #[] 0)).get? I9=some { cls:=.type "list_iterator",data:=.fields #[.ref l,.int 0 0] }:=by
  rw [<- hI9]; exact Z5 _ (X3 _ rfl)
 have gS:((s2.heap.push { cls:=.type "list_iterator",data:=.fields #[.ref l,.int 0 0] }).push (seqObj "list" #[] 0)).get? (I9+1)=some (seqObj "list" #[] 0):=by rw [<- hS9]; exact X3 _ rfl
 refine Y6 ⟨plainId_quiet R5 _,?_⟩
 rw [hS9]
 have big:∀ b,I9<=b->H2 b=none/\b≠X.env.locals/\b ∉ X.fs:=λb hb=>(oi03 (I2.hok.fresh (by exact nz4 (nz3 hI9) hb)) (P8 (nz1 I2.lt (by exact nz4 (nz3 hI9) hb))) (I2.nofs (by exact nz4 (nz3 hI9) hb)))
 have I3:Inv X ((f,kla_obj "<lambda>" (Kon.Q P) params body scope cl pm c' ctv) :: pins) σ H2 { s2 with heap:=(s2.heap.push { cls:=.type "list_iterator",data:=.fields #[.ref l,.int 0 0] }).push (seqObj "list" #[] 0) }:=I2.kept (t':=s2.toks) λb o e=>Z5 _ (Z5 _ e)
 have I4:=I3.addPin (f:=I9) gI (big I9 (nz6 _)).1 (big I9 (nz6 _)).2.1 (big I9 (nz6 _)).2.2 λv z=>nomatch z
 have I5:=I4.addPin (f:=I9+1) (o:=seqObj "list" #[] 0) gS (big (I9+1) (O8 _)).1 (big (I9+1) (O8 _)).2.1 (big (I9+1) (O8 _)).2.2 λv z=>nomatch z
 have old:∀ p∈X.pn++((f,kla_obj "<lambda>" (Kon.Q P) params body scope cl pm c' ctv) :: pins),p.1<I9:=λp hp=>by rw [<- hI9]; exact Y4 (I2.pin p hp).1
 have hzI:X.s₀.heap.objs.size<=I9:=by rw [<- hI9]; exact I2.sz
 have hun:X.A.in1.units<cLine:=by have:=hr.un; show X.A.units+1<_; lia
 have hdp:X.A.depth<L6:=by have:=hr.dp; (clear hun hzI old I5 I4 I3 big gS gI hS9 hI9 hname hz ht rv hS2 q h0 CL hc' ts I2 r tg hS I1 h1 h I hpl hst hdef hg hp hb S hcode hq hT hC bm hm hr he; lia)
 refine min_first (y:=y) (rest:=rest) (Q:=Q) (K8 _) (λu s' zz=>oq23 zz λv9 H9 I9' r9 q9=>⟨v9,H9,I9'.drop1,r9,q9⟩) S CL I.ok.frames hr.hd hdp hun hb hp hzI (M1 hzI) (W4 _) old I5 ⟨_,gI,rfl,rfl⟩ hS2 h0 q
end
section
variable {Γ:List Slot} {te tb:TE} {K:Z0} {P:Addr} {cap:List (Str × Nat)}
theorem min_ev {C:Fc} {F0 H0:Hp} {σ:St} {c l:Addr} {q:Str} {x:Str} {g:Int->Option (Int × Int)} {vs:List V} {Q:VK} {res:Int} (hc:(cap.map (·.2)).Nodup) (hb:∀ a,EV ((csl [x] cap Γ).set 0 (.fr rInt a)) tb (g a) (rT2 rInt rInt))
  (hfin:∀ F H,Ext F0 H0 F H->Q (.int res) H):∀ (r:List Int) (b:Int) (kV:V) (kb:Int × Int) (F H:Hp),SR C F Γ σ H->Ext F0 H0 F H->H c=some (.ext (aV c q))->Rd F l (.lst vs)->(rT2 rInt rInt).rel F kV kb->Pu.kT g r b kb=some res ->
   ii (λσ H Q=>H c=some (.ext (aV c q))/\tb σ H Q) (λv=>eJ v cap σ) (λH=>SqL K H l vs) Q (r.map V.int) (.int b) kV H:=by
 intro r
 induction r with
 | nil=>exact λb kV kb F H S x0 h0 hl hk e=>⟨.inl (S.sub.rd hl),Z3 e ▸ hfin F H x0⟩
 | cons a r ih =>
  intro b kV kb F H S x0 h0 hl hk e
  refine oq12 (a9 e) λk e1 e=>?_
  refine ⟨.inl (S.sub.rd hl),h0,hb a C F _ H _ k ((S.comp (loc:=[x]) hc).setF 0 (r:=rInt) (a:=a) (v:=.int a) rfl) e1 λv F' H' x1 rv=>(oi23 k kb (Rp.mono _ x1.sub rv) (Rp.mono _ (x1.ff.trans x1.sub) hk) ?_)⟩
  cases hlt:Pu.lt2 k kb with
  | true =>
   rw [hlt,if_pos rfl] at e
   rw [if_pos rfl]
   exact ih a v k F' H' (S.grow x1) (x0.trans x1) (x1.hh.kp _ _ trivial h0) (x1.ff.rd hl) rv e
  | false =>
   rw [hlt,if_neg Z2] at e
   rw [if_neg Z2]
   exact ih b kV kb F' H' (S.grow x1) (x0.trans x1) (x1.hh.kp _ _ trivial h0) (x1.ff.rd hl) (Rp.mono _ x1.ff hk) e
theorem ev_minK {o:Option (List Int)} {g:Int->Option (Int × Int)} {x:Str} (hc:(cap.map (·.2)).Nodup) (h:EV Γ te o (rL rInt)) (hb:∀ a,EV ((csl [x] cap Γ).set 0 (.fr rInt a)) tb (g a) (rT2 rInt rInt)):EV Γ (tMinK K P cap te tb) (o.bind λxs=>Pu.minK g xs) rInt:=by
 intro C F σ H Q res S e k
 refine oq12 (a9 e) λns e1 e=>?_
 refine h C F σ H _ ns S e1 λv F1 H1 x1 zq=>oq23 zq λp vs e3 h1 h2=>?_
 have ev:=eI h2
 subst ev
 cases ns with
 | nil=>cases e
 | cons a r =>
  unfold Pu.minK at e
  refine oq12 (a9 e) λka e2 e=>?_
  refine (oi34 p (.int a) (r.map V.int) e3 (.inl (x1.sub.rd h1)) ((S.grow x1).tg) (λH2 c ts h0=>⟨h0,?_⟩))
  have x2:=ts.ext (S.grow x1).sub (S.grow x1).nt
  have S2:=(S.grow x1).grow x2
  refine hb a C F1 _ H2 _ ka ((S2.comp (loc:=[x]) hc).setF 0 (r:=rInt) (a:=a) (v:=.int a) rfl) e2 λv F' H' x3 rv=>?_
  exact min_ev hc hb (λF H x4=>k _ F H x4 rfl) r a v ka F' H' (S2.grow x3) ((x1.trans x2).trans x3) (x3.hh.kp _ _ trivial h0) (x3.ff.rd h1) rv e
end
end
section
open PySem PySem.Spec PyProof.Rows
noncomputable abbrev rP:Rp (Option Int × Option Int):=rT2 (rOp rInt) (rOp rInt)
noncomputable abbrev rF:Rp (List (List Int)):=rL (rL rInt)
noncomputable abbrev End_:=List (Int × (Option Int × Option Int))
noncomputable def rM0 (CM:Addr):Rp (List (List Int) × Addr):=⟨λH v x=>∃ m dm vf,v=.ref m/\H m=some (.ins CM dm [("floor",vf),("ended",.ref x.2)])/\rF.rel H vf x.1,
 λe zq=>oq33 zq λm dm vf h1 h2 h3=>(oi33 m dm vf h1 (e _ _ h2) (rF.mono e h3))⟩
noncomputable def rM (CM:Addr):Rp (List (List Int) × End_):=⟨λH v x=>∃ p ws,(rM0 CM).rel H v (x.1,p)/\H p=some (.dK ws)/\Paired (dRel rP H) ws x.2,
 λe zq=>oq23 zq λp ws h1 h2 h3=>(oi23 p ws ((rM0 CM).mono e h1) (e _ _ h2) (Paired.imp2 (λa a q=>⟨q.1,rP.mono e q.2⟩) h3))⟩
noncomputable def rW0 (CM CW:Addr):Rp (List (List Int) × Int × Addr × Addr):=⟨λH v x=>∃ w dw vf m,v=.ref w/\H w=some (.ins CW dw [("floor",vf),("reach",.int x.2.1),("homes",.ref x.2.2.1),("meetings",.ref m)])/\rF.rel H vf x.1/\(rM0 CM).rel H (.ref m) (x.1,x.2.2.2),
 λe zq=>oq44 zq λw dw vf m h1 h2 h3 h4=>(oi44 w dw vf m h1 (e _ _ h2) (rF.mono e h3) ((rM0 CM).mono e h4))⟩
noncomputable def rW (CM CW:Addr):Rp (List (List Int) × Int × List (Option Int) × End_):=⟨λH v x=>∃ h p vs ws,(rW0 CM CW).rel H v (x.1,x.2.1,h,p)/\H h=some (.lst vs)/\Paired ((rOp rInt).rel H) vs x.2.2.1/\H p=some (.dK ws)/\Paired (dRel rP H) ws x.2.2.2,
 λe zq=>oq45 zq λh p vs ws h1 h2 h3 h4 h5=>(oi45 h p vs ws ((rW0 CM CW).mono e h1) (e _ _ h2) (Paired.imp2 (λa a q=>(rOp rInt).mono e q) h3) (e _ _ h4) (Paired.imp2 (λa a q=>⟨q.1,rP.mono e q.2⟩) h5))⟩
structure MK (K:Z0) (CM:Addr):Prop where
 c:Cls K CM
 floor:bq K CM "floor"
 ended:bq K CM "ended"
structure WK (K:Z0) (CW:Addr):Prop where
 c:Cls K CW
 floor:bq K CW "floor"
 reach:bq K CW "reach"
 homes:bq K CW "homes"
 meetings:bq K CW "meetings"
variable [Kn:Kon]
section
variable {Γ:List Slot} {ta:TE} {K:Z0} {CM CW:Addr}
theorem js {α γ:Type} {r:Rp α} {s:Rp γ} {o:Option α} {f:Str} {g:α->γ} (h:EV Γ ta o r) (hf:∀ H v x,r.rel H v x->∃ a C dx fs u,v=.ref a/\H a=some (.ins C dx fs)/\Cls K C/\bq K C f/\fs.lookup f=some u/\s.rel H u (g x)):EV Γ (tFld K ta f) (o.bind λx=>some (g x)) s:=by
 intro C F σ H Q c S e k
 refine oq12 (a9 e) λx e1 e=>?_
 cases e
 refine h C F σ H _ x S e1 λv F' H' x1 r1=>?_
 refine oq56 (hf F' v x r1) λa C' dx fs u h1 h2 h3 h4 h5 h6=>?_
 exact (oi56 a C' dx fs u h1 (x1.sub _ _ h2) h3 h4 h5 (k u F' H' x1 h6))
theorem rq (k:MK K CM) {o:Option (List (List Int) × Addr)} (h:EV Γ ta o (rM0 CM)):EV Γ (tFld K ta "floor") (o.bind λx=>some x.1) rF:=js h λH v x zq=>oq33 zq λm dm vf h1 h2 h3=>(oi56 m CM dm _ vf h1 h2 k.c k.floor rfl h3)
theorem jt (k:MK K CM) {o:Option (List (List Int) × End_)} (h:EV Γ ta o (rM CM)):EV Γ (tFld K ta "ended") (o.bind λx=>some x.2) (rD rP):=js h λH v x zq=>oq23 zq λp ws nm2 h4 h5=>oq33 nm2 λm dm vf h1 h2 h3=>⟨m,CM,dm,_,.ref p,h1,h2,k.c,k.ended,by rfl,p,ws,rfl,h4,h5⟩
theorem ev_wFloor (k:WK K CW) {o:Option (List (List Int) × Int × List (Option Int) × End_)} (h:EV Γ ta o (rW CM CW)):EV Γ (tFld K ta "floor") (o.bind λx=>some x.1) rF:=js h λH v x zq=>oq42 zq λa a a a nm3 a=>oq44 nm3 λm dm vf mm h1 h2 h3 a=>⟨m,CW,dm,_,vf,h1,h2,k.c,k.floor,rfl,h3⟩
theorem ev_wReach (k:WK K CW) {o:Option (List (List Int) × Int × List (Option Int) × End_)} (h:EV Γ ta o (rW CM CW)):EV Γ (tFld K ta "reach") (o.bind λx=>some x.2.1) rInt:=js h λH v x zq=>oq42 zq λa a a a nm4 a=>oq44 nm4 λm dm vf mm h1 h2 h3 a=>⟨m,CW,dm,_,.int x.2.1,h1,h2,k.c,k.reach,by rfl,rfl⟩
theorem gV (k:WK K CW) {o:Option (List (List Int) × Int × List (Option Int) × End_)} (h:EV Γ ta o (rW CM CW)):EV Γ (tFld K ta "homes") (o.bind λx=>some x.2.2.1) (rL (rOp rInt)) :=
 js h λH v x zq=>oq44 zq λhh p vs ws nm5 h4 h5 a=>oq44 nm5 λm dm vf mm h1 h2 h3 a=>⟨m,CW,dm,_,.ref hh,h1,h2,k.c,k.homes,by rfl,hh,vs,rfl,.inl h4,h5⟩
theorem p9 (k:WK K CW) {o:Option (List (List Int) × Int × List (Option Int) × End_)} (h:EV Γ ta o (rW CM CW)):EV Γ (tFld K ta "meetings") (o.bind λx=>some (x.1,x.2.2.2)) (rM CM) :=
 js h λH v x zq=>oq45 zq λhh p vs ws nm6 h4 h5 h7 h8=>oq44 nm6 λm dm vf mm h1 h2 h3 h6=>⟨m,CW,dm,_,.ref mm,h1,h2,k.c,k.meetings,by rfl,p,ws,h6,h7,h8⟩
def Ob {α:Type} (r:Rp α) (C:Addr) (m:Str):Prop:=∀ H v x,r.rel H v x->∃ a dx fs,v=.ref a/\H a=some (.ins C dx fs)/\fs.lookup m=none
theorem ob_m {m:Str} (h1:autoParam (("floor" == m)=false) L2.a0q._auto_1) (h2:autoParam ((m == "floor")=false) L2.a0q._auto_1) (h3:autoParam ((m == "ended")=false) L2.a0q._auto_1):Ob (rM CM) CM m:=λH v x zq=>oq22 zq λp ws nm7 b=>oq33 nm7 λa dm vf e1 e2 e3=>⟨a,dm,_,e1,e2,by simp [O0,h2,h3]⟩
theorem ob_w {m:Str} (h2:autoParam ((m == "floor")=false) L2.a0q._auto_1) (h3:autoParam ((m == "reach")=false) L2.a0q._auto_1) (h4:autoParam ((m == "homes")=false) L2.a0q._auto_1) (h5:autoParam ((m == "meetings")=false) L2.a0q._auto_1):Ob (rW CM CW) CW m:=λH v x zq=>oq42 zq λb b b b nm8 b=>oq43 nm8 λa dm vf b e1 e2 e3=>⟨a,dm,_,e1,e2,by simp [O0,h2,h3,h4,h5]⟩
theorem ob_w0 {m:Str} (h2:autoParam ((m == "floor")=false) L2.a0q._auto_1) (h3:autoParam ((m == "reach")=false) L2.a0q._auto_1) (h4:autoParam ((m == "homes")=false) L2.a0q._auto_1) (h5:autoParam ((m == "meetings")=false) L2.a0q._auto_1):Ob (rW0 CM CW) CW m:=λH v x zq=>oq43 zq λa dm vf b e1 e2 e3=>(oi33 a dm _ e1 e2 (by simp [O0,h2,h3,h4,h5]))
section
variable {α γ τ:Type} {r:Rp α} {q:Rp γ} {ra:RpA τ} {t:TA} {C:Addr} {m:Str} {o:Option α} {oτ:Option τ}
theorem k8 {f:α × τ->Option γ} (ob:Ob r C m) (h:EV Γ ta o r) (ha:EA Γ t oτ ra):EV Γ (lZ C m (spV (aw r ra) q f) [] E0 ta t) (o.bind λx=>oτ.bind λa=>f (x,a)) q:=by
 intro C F σ H Q c S e k
 refine oq12 (a9 e) λx e1 e=>?_
 refine oq12 (a9 e) λa e2 e=>?_
 refine h C F σ H _ x S e1 λv F' H' x1 r1=>?_
 refine oq33 (ob F' v x r1) λad dx fs h1 h2 h3=>?_
 refine (oi34 ad dx fs h1 (x1.sub _ _ h2) h3 (ha C F' σ H' _ a (S.grow x1) e2 λvs F2 H2 x2 r2=>⟨F2,(x,a),c,x2.sub,x2.nt (x1.nt S.nt),x2.hh.tg (x1.hh.tg S.tg),⟨v,vs,by rw [T2],r.mono x2.ff r1,r2⟩,e,λw F3 H3 x3 r3=>k w F3 H3 ((x1.trans x2).trans x3) r3⟩))
theorem pc {f:α × τ->Option (List γ)} (ob:Ob r C m) (h:EV Γ ta o r) (ha:EA Γ t oτ ra):EVL Γ (lZ C m (spL (aw r ra) q f) [] E0 ta t) (o.bind λx=>oτ.bind λa=>f (x,a)) q:=by
 intro C F σ H Q c S e k
 refine oq12 (a9 e) λx e1 e=>?_
 refine oq12 (a9 e) λa e2 e=>?_
 refine h C F σ H _ x S e1 λv F' H' x1 r1=>?_
 refine oq33 (ob F' v x r1) λad dx fs h1 h2 h3=>?_
 refine (oi34 ad dx fs h1 (x1.sub _ _ h2) h3 (ha C F' σ H' _ a (S.grow x1) e2 λvs F2 H2 x2 r2=>⟨F2,(x,a),c,x2.sub,x2.nt (x1.nt S.nt),x2.hh.tg (x1.hh.tg S.tg),⟨v,vs,by rw [T2],r.mono x2.ff r1,r2⟩,e,λp ws F3 H3 x3 hp r3=>k p ws F3 H3 ((x1.trans x2).trans x3) hp r3⟩))
end
theorem pe {α:Type} {r:Rp α} {tb tc:TE} {o:Option (List (Int × α))} {oi:Option Int} {oa:Option α} (h:EV Γ ta o (rD r)) (hi:EV Γ tb oi rInt) (hx:EV Γ tc oa r):EV Γ (tDGet2 ta tb tc) (o.bind λd=>oi.bind λk=>oa.bind λx=>some ((Pu.find d k).getD x)) r:=by
 intro C F σ H Q c S e k
 refine oq12 (a9 e) λd e1 e=>?_
 refine oq12 (a9 e) λi e2 e=>?_
 refine oq12 (a9 e) λx e3 e=>?_
 cases e
 refine h C F σ H _ d S e1 λv F' H' x1 zq=>oq23 zq λp ws e4 h1 h2=>(oi13 p e4 (.inl ⟨ws,.inl (x1.sub _ _ h1)⟩) (hi C F' σ H' _ i (S.grow x1) e2 λy F2 H2 x2 r2=>hx C F2 σ H2 _ x ((S.grow x1).grow x2) e3 λz F3 H3 x3 r3=>?_))
 have h1':H3 p=some (.dK ws):=x3.sub _ _ ((x2.ff.trans x3.ff) _ _ h1)
 have h2':Paired (dRel r F3) ws d:=Paired.imp2 (λa a q=>⟨q.1,r.mono (x2.ff.trans x3.ff) q.2⟩) h2
 refine (oi12 (valV ws (.inl i)) (.inl (oi23 ws (.inl i) (.inl h1') r2 rfl)) (k _ F3 H3 ((x1.trans x2).trans x3) ?_))
 refine oq02 (eW (k:=i) h2') λg1 g2=>?_
 cases q:Pu.find d i with
 | none=>rw [g2 q]; exact r3
 | some w=>refine oq12 (g1 w q) λv h3 h4=>?_; rw [h3]; exact h4
theorem pf {α β γ:Type} {r:Rp α} {s:Rp β} {q:Rp γ} {tb:TE} {o:Option α} {o':Option (β × γ)} (h:EV Γ ta o (rT1 r)) (h':EV Γ tb o' (rT2 s q)):EV Γ (tOp (rCatT K) ta tb) (o.bind λa=>o'.bind λb=>some (a,b.1,b.2)) (rT3 r s q):=by
 intro C F σ H Q c S e k
 refine oq12 (a9 e) λa e1 e=>?_
 refine oq12 (a9 e) λb e2 e=>?_
 cases e
 refine EV.two (q:=λx y H2=>rCatT K x y H2 Q) h h' S e1 e2 λx y F' H' x1 zq zp=>oq23 zq λp u e3 h1 h2=>oq34 zp λp' v w e4 h3 h4 h5=>⟨p,p',[u],[v,w],e3,e4,SqT.of (x1.sub _ _ h1),SqT.of (x1.sub _ _ h3),by simp,by rw [X9]; simp,(λz=>nomatch z),λi q9 hq=>?_⟩
 have x2:=Ext.new (o:=.tup [u,v,w]) x1.sub hq
 exact k _ _ _ (x1.trans x2) ⟨q9,u,v,w,rfl,ai,Rp.mono _ x2.ff h2,Rp.mono _ x2.ff h4,Rp.mono _ x2.ff h5⟩
end
end
section
open PySem PySem.Spec PyProof.Rows
variable [Kn:Kon]
theorem set_same {σ:St} {i:Nat} {v:Option V} (h:σ[i]?=some v):σ.set i v=σ:=set_idx h
section
variable {X:Cx} {pins:List (Addr × Obj)} {σ:St} {H:Hp} {s:Shared}
theorem Inv.ghost {g:Nat} {x:Str} {v:V} (I:Inv X pins σ H s) (hx:X.N[g]?=some x) (nv:¬ Vis X.env.scope x):Inv X pins (σ.set g (some v)) H s :=
 ⟨I.ok,I.os,I.bare,I.base,oq12 I.loc λm hn hl=>(oi12 m hn (λi y u e1 e2 e3=>by
  by_cases e:g=i
  ·subst e
   rw [hx] at e1
   cases e1
   exact absurd e3 nv
  ·rw [O2,if_neg e] at e2
   exact hl i y u e1 e2 e3)),I.cell,I.free,I.freeC,I.pin,I.hok,by rw [V6]; exact I.len⟩
theorem gW {ss:List Stmt} {t:TS} {g:Nat} {x:Str} (h:PSs X ss t) (hx:X.N[g]?=some x) (nv:¬ Vis X.env.scope x):PSs X ss λD σ H=>∃ v,t D (σ.set g (some v)) H :=
 λpins s σ H D I zq=>oq11 zq λv q=>h pins s _ H D (I.ghost hx nv) q
end
noncomputable def i6 (sc:Scope) (x:Str):Bool:=match sc.names.lookup x with
 | some .local=>false
 | some .cell=>false
 | some .free=>false
 | _=>true
theorem iL {sc:Scope} {x:Str} (h:i6 sc x=true):¬ Vis sc x:=by
 unfold i6 at h
 rintro (z | z | z) <;> rw [z] at h <;> cases h
section
variable {C:Fc} {F H:Hp} {Γ:List Slot} {σ:St}
theorem SR.less {p:Addr} {u:HO} (S:SR C F Γ σ H) (no:∀ (j:Nat) t,Γ[j]?=some t->t.own=false) (hp:C.H0 p=some u) (ou:Own u):SR { C with H0:=del C.H0 p } F Γ σ H:=by
 have own:∀ {i:Nat} {s:Slot},Γ[i]?=some s->s.own=true->False:=λh1 o1=>nomatch (no _ _ h1).symm.trans o1
 refine ⟨⟨⟨λb o n q=>S.keep.kp b o n (dB q).2,λb ps q=>S.keep.tb b ps (dB q).2,λx=>S.tg⟩,S.low,S.sub,λb o h=>(S.base b o h).imp id λz=>?_,S.nt,S.tg⟩,S.len,λi s h=>oq12 (S.at_ i s h) λo h1 h2=>oi12 o h1 ?_,λi j s t q h1 h2 o1 o2 x x=>(own h1 o1).elim⟩
 ·show UnT (del C.H0 p b)
  unfold del; split
  ·trivial
  ·exact z
 ·cases s with
  | any=>trivial
  | fr r a=>exact h2
  | ol r φ xs=>exact (own h rfl).elim
  | od r φ kvs=>exact (own h rfl).elim
theorem SR.setG {p:Addr} {s:Slot} (g:Nat) (S:SR C F Γ σ H) (hs:s.own=true) (h:SlOk C.H0 F H s (some (.ref p))) (np:∀ (j:Nat) t,Γ[j]?=some t->t.own=true->σ[j]?≠some (some (.ref p))):SR C F (Γ.set g s) (σ.set g (some (.ref p))) H:=S.pt g S.toFr (λj t x q=>S.at_ j t q) h λx p' z j t x q o e=>np j t q o (e.trans (congrArg some z.symm))
theorem Fr.off {Hx F' H':Hp} {q:Addr} {o:HO} (fr:Fr ⟨Hx,F,F⟩ F' H') (e:Hx q=some o) (f:F q=none) (ou:Own o):F' q=none:=none_of λw z=>(fr.base q w z).elim (λy=>nomatch f.symm.trans y) λy=>un_own y e ou
theorem Fr.via {Hx F' H':Hp} (S:Fr C F H) (fr:Fr ⟨Hx,F,F⟩ F' H') (d:∀ b o,C.H0 b=some o->Hx b=H b):Fr C F' H':=by
 refine ⟨⟨λb o n q=>fr.keep.kp b o n ((d b o q).trans (S.keep.kp b o n q)),λb ps q=>oq11 (S.keep.tb b ps q) λm1 e1=>oq11 (fr.keep.tb b _ ((d b _ q).trans e1)) λm2 e2=>⟨m1++m2,e2.trans (by rw [Array.append_assoc])⟩,λx=>fr.tg⟩,S.low.trans fr.low,fr.sub,λb o q=>(fr.base b o q).elim (S.base b o) λz=>.inr ?_,fr.nt,fr.tg⟩
 cases e:C.H0 b with
 | none=>trivial
 | some o=>exact e ▸ S.keep.un (d b o e ▸ z)
theorem SR.mut {p:Addr} {u u':HO} {F' H':Hp} {s s':Slot} {g:Nat} (S:SR C F Γ σ H) (hg:Γ[g]?=some s) (hs:s.own=true) (hp:σ[g]?=some (some (.ref p))) (h0:C.H0 p=none) (hu:H p=some u) (fr:Fr ⟨del H p,F,F⟩ F' H') (hs':s'.own=true) (h:SlOk C.H0 F' H' s' (some (.ref p))) :
  SR C F' (Γ.set g s') σ H' :=
 S.pk hg (λx=>hs) hp (S.toFr.via fr λb o e=>bR (al e h0)) (λj t n q=>S.mvAt q fr.low λp' x o e f hu ou=>have e:=(bR (S.oth hg hs hp n q o e)).trans hu
  ⟨fr.off e f ou,fr.keep.kp p' _ ou.noTbl e⟩) h
end
section
variable {Γ:List Slot} {C:Fc} {F H:Hp} {σ:St} {CM CW p hh:Addr} {i g g1 g2:Nat} {rows:List (List Int)} {reach:Int} {ended:End_} {homes:List (Option Int)}
theorem SR.borM (S:SR C F Γ σ H) (hi:Γ[i]?=some (.fr (rM0 CM) (rows,p))) (hg:Γ[g]?=some (.od rP (λb=>b=p) ended)):∃ ws,F p=none/\H p=some (.dK ws)/\SR C (upd F p (.dK ws)) ((Γ.set g .any).set i (.fr (rM CM) (rows,ended))) σ H:=by
 refine oqs6 (S.at_ g _ hg) λp' ws h1 eq5_ h3 h4 h5 h6=>?_; subst eq5_
 refine oq12 (S.fr hi) λv q1 q2=>?_
 refine (oi13 ws h4 h5 ?_)
 have S1:=S.freeze hg p' _ .any rfl rfl h1 h3 h4 h5 trivial trivial
 have S2:=S1.setF (r:=rM CM) (a:=(rows,ended)) (v:=v) i ⟨p',ws,(rM0 CM).mono (aF h4) q2,ai,Paired.imp2 (λx x z=>⟨z.1,rP.mono (aF h4) z.2⟩) h6⟩
 rw [set_same q1] at S2
 exact S2
theorem SR.borW (S:SR C F Γ σ H) (hi:Γ[i]?=some (.fr (rW0 CM CW) (rows,reach,hh,p))) (hg1:Γ[g1]?=some (.ol (rOp rInt) (λb=>b=hh) homes)) (hg2:Γ[g2]?=some (.od rP (λb=>b=p) ended)) (hne:g1≠g2) :
  ∃ vs ws,F hh=none/\H hh=some (.lst vs)/\F p=none/\H p=some (.dK ws)/\p≠hh/\SR C (upd (upd F hh (.lst vs)) p (.dK ws)) (((Γ.set g1 .any).set g2 .any).set i (.fr (rW CM CW) (rows,reach,homes,ended))) σ H:=by
 refine oqs6 (S.at_ g1 _ hg1) λp1 vs h1 eq5_ h3 h4 h5 h6=>?_; subst eq5_
 refine oq12 (S.fr hi) λv q1 q2=>?_
 refine oqs6 (S.at_ g2 _ hg2) λp2 ws k1 eq5_ k3 k4 k5 k6=>?_; subst eq5_
 have ne:p2≠p1:=by rintro rfl; rw [h5] at k5; cases k5
 have S1:=S.freeze hg1 p1 _ .any rfl rfl h1 h3 h4 h5 trivial trivial
 have hg2':(Γ.set g1 .any)[g2]?=some (.od rP (λb=>b=p2) ended):=by rw [du hne]; exact hg2
 have F2:upd F p1 (.lst vs) p2=none:=by rw [am ne]; exact k4
 have S2:=S1.freeze hg2' p2 _ .any rfl rfl k1 k3 F2 k5 trivial trivial
 have e1:Same F (upd F p1 (.lst vs)):=aF h4
 have e2:Same (upd F p1 (.lst vs)) (upd (upd F p1 (.lst vs)) p2 (.dK ws)):=aF F2
 refine (oi26 vs ws h4 h5 k4 k5 ne ?_)
 have S3:=S2.setF (r:=rW CM CW) (a:=(rows,reach,homes,ended)) (v:=v) i ⟨p1,p2,vs,ws,(rW0 CM CW).mono (e1.trans e2) q2,by rw [am (T9 ne)]; exact ai,Paired.imp2 (λx x z=>(rOp rInt).mono (e1.trans e2) z) h6,ai,Paired.imp2 (λx x z=>⟨z.1,rP.mono (e1.trans e2) z.2⟩) k6⟩
 rw [set_same q1] at S3
 exact S3
end
section
variable {Γ:List Slot} {β:Type} {s:Rp β} {tb:TE} {ob:Option β} {CM CW p hh:Addr} {rows:List (List Int)} {reach:Int} {ended:End_} {homes:List (Option Int)}
noncomputable abbrev brwM (Γ:List Slot) (i g:Nat) (CM:Addr) (rows:List (List Int)) (ended:End_):List Slot:=(Γ.set g .any).set i (.fr (rM CM) (rows,ended))
noncomputable abbrev brwW (Γ:List Slot) (i g1 g2:Nat) (CM CW:Addr) (rows:List (List Int)) (reach:Int) (homes:List (Option Int)) (ended:End_):List Slot:=((Γ.set g1 .any).set g2 .any).set i (.fr (rW CM CW) (rows,reach,homes,ended))
theorem evl_borM {o:Option (List β)} (i g:Nat) (hi:Γ[i]?=some (.fr (rM0 CM) (rows,p))) (hg:Γ[g]?=some (.od rP (λb=>b=p) ended)) (fl:Flat s) (h:EVL (brwM Γ i g CM rows ended) tb o s):EVL Γ tb o s:=by
 intro C F σ H Q b S e k
 refine oq13 (S.borM hi hg) λws h1 h2 S'=>?_
 refine h C _ σ H Q b S' e λv vs F' H' x1 hv r1=>?_
 refine oq02 (eX h1 h2 x1) λx2 h3=>?_
 exact k v vs _ H' x2 hv (Paired.imp2 (λx x z=>fl h3 trivial z) r1)
theorem pj {F H F' H':Hp} {p q:Addr} {u v:HO} (hF:F p=none) (hH:H p=some u) (hF2:F q=none) (hH2:H q=some v) (ne:q≠p) (e:Ext (upd (upd F p u) q v) H F' H') (nu:autoParam (d7 u) L2.a4q._auto_1) (nv:autoParam (d7 v) L2.a4q._auto_1):Ext F H (del (del F' q) p) H'/\F' q=some v/\del F' q p=some u:=by
 refine oq02 (eX (F:=upd F p u) (p:=q) (by rw [am ne]; exact hF2) hH2 e nv) λx1 h1=>?_
 refine oq02 (eX hF hH x1 nu) λx2 h2=>?_
 exact (oi03 x2 h1 h2)
theorem ev_borW (i g1 g2:Nat) (hi:Γ[i]?=some (.fr (rW0 CM CW) (rows,reach,hh,p))) (hg1:Γ[g1]?=some (.ol (rOp rInt) (λb=>b=hh) homes)) (hg2:Γ[g2]?=some (.od rP (λb=>b=p) ended)) (hne:g1≠g2) (fl:Flat s) (h:EV (brwW Γ i g1 g2 CM CW rows reach homes ended) tb ob s):EV Γ tb ob s:=by
 intro C F σ H Q b S e k
 refine oq26 (S.borW hi hg1 hg2 hne) λvs ws h1 h2 h3 h4 ne S'=>?_
 refine h C _ σ H Q b S' e λv F' H' x1 r1=>?_
 refine oq03 (pj h1 h2 h3 h4 ne x1) λx2 h5 h6=>?_
 exact k v _ H' x2 (fl h6 trivial (fl h5 trivial r1))
theorem evl_borW {o:Option (List β)} (i g1 g2:Nat) (hi:Γ[i]?=some (.fr (rW0 CM CW) (rows,reach,hh,p))) (hg1:Γ[g1]?=some (.ol (rOp rInt) (λb=>b=hh) homes)) (hg2:Γ[g2]?=some (.od rP (λb=>b=p) ended)) (hne:g1≠g2) (fl:Flat s) (h:EVL (brwW Γ i g1 g2 CM CW rows reach homes ended) tb o s):EVL Γ tb o s:=by
 intro C F σ H Q b S e k
 refine oq26 (S.borW hi hg1 hg2 hne) λvs ws h1 h2 h3 h4 ne S'=>?_
 refine h C _ σ H Q b S' e λv us F' H' x1 hv r1=>?_
 refine oq03 (pj h1 h2 h3 h4 ne x1) λx2 h5 h6=>?_
 exact k v us _ H' x2 hv (Paired.imp2 (λx x z=>fl h6 trivial (fl h5 trivial z)) r1)
theorem own_mE {K:Z0} (k:MK K CM) (i g:Nat) (hi:Γ[i]?=some (.fr (rM0 CM) (rows,p))) (hg:Γ[g]?=some (.od rP (λb=>b=p) ended)):mi Γ (tFld K (tVar i) "ended") g:=λC F σ H Q v S hv q=>by
 refine oqs6 (S.at_ g _ hg) λp' ws h1 eq5_ h3 h4 h5 h6=>?_; subst eq5_
 rw [hv] at h1
 cases h1
 refine oq12 (S.fr hi) λw q1 zz=>oq33 zz λm dm vf eq5_ h7 h8=>?_; subst eq5_
 exact ⟨.ref m,q1,m,CM,dm,_,.ref p',rfl,S.sub _ _ h7,k.c,k.ended,by rfl,q⟩
theorem own_wH {K:Z0} (k:WK K CW) (i g:Nat) (hi:Γ[i]?=some (.fr (rW0 CM CW) (rows,reach,hh,p))) (hg:Γ[g]?=some (.ol (rOp rInt) (λb=>b=hh) homes)):mi Γ (tFld K (tVar i) "homes") g:=λC F σ H Q v S hv q=>by
 refine oqs6 (S.at_ g _ hg) λp' ws h1 eq5_ h3 h4 h5 h6=>?_; subst eq5_
 rw [hv] at h1
 cases h1
 refine oq12 (S.fr hi) λw q1 zz=>oq43 zz λm dm vf mm eq6_ h7 h8=>?_; subst eq6_
 exact ⟨.ref m,q1,m,CW,dm,_,.ref p',rfl,S.sub _ _ h7,k.c,k.homes,by rfl,q⟩
end
end
section
open PySem PySem.Spec PyProof.Rows
variable [Kn:Kon]
def bB (K:Z0) (C:Addr) (m qual:Str) (st:Stmt) (ps:List Str):Prop:=∃ f fd,Fun K m qual st f fd/\Binds K fd ps []/\Meth K C m f
noncomputable def HasM (P:X5) (w:World) (K:Z0) (mg:Str->Option Value) (base:Heap) (k:Nat) (C:Addr) (m:Str) (ps:List Str) (sp:Sp):Prop :=
 ∃ f fd,FnOk P w K mg base CX0 k f fd ps sp/\Meth K C m f/\Binds K fd ps []
theorem gX {K:Z0} {C f:Addr} {m qual:Str} {st:Stmt} {ps:List Str} {oc:Value} {od an:Option Addr} {osl:Array (Option Value)} {kV doc pm cdv ct:Value}
  (a:T3 K (.ref C) m=some (some (.ref f))) (l:K.lookup f=some ⟨oc,od,.func (U4 m qual (br st) (aW st) (ae st) .none kV doc pm an cdv ct),osl⟩) (c:R3 K cdv qual=true) (k:U3 K (.ref f)=true) (hf:G6 K (.ref f)=true)
  (hb:∀ (kV doc pm:Value) (an:Option Addr) (cdv ct:Value) (us:List Value),us.length=ps.length->G0 (U4 m qual (br st) (aW st) (ae st) .none kV doc pm an cdv ct) ⟨us,[]⟩=pure (ps.zip us)):bB K C m qual st ps :=
 ⟨f,_,fP (st:=st) l c k,(fP (st:=st) l c k).binds hb,⟨a,hf,k⟩⟩
section
variable {P:X5} {w:World} {K:Z0} {mg:Str->Option Value} {base:Heap} {m qual:Str} {st:Stmt} {N ps:List Str} {k:Nat} {C:Addr} {τ γ:Type} {ra:RpA τ} {r:Rp γ}
theorem bB.has {sp:Sp} (D:bB K C m qual st ps) (S:FnScope N ps (ae st)) (len:∀ vs H Q E,sp vs H Q E->vs.length=ps.length)
  (hbody:∀ (f:Addr) (cdv:Value) (A:Around) (outer:List Env) (s:Shared) (H:Hp) (vs:List V) (Q:VK) (E:XK),Room k (A.deeper (envOfC qual (ae st) s.heap.objs.size f cdv))->sp vs H Q E ->
   ∃ t,PSs (cxOf CX0 P w K mg base N qual (ae st) f cdv A outer s H E).nox (aW st) t/\t { nx:=λx H'=>Q .non H',rt:=Q } (start N vs) H):HasM P w K mg base (k+1) C m ps sp:=by
 refine oq23 D λf fd F b hm=>?_
 exact ⟨f,fd,F.ok S len λcdv A outer s H vs Q E hr h=>hbody f cdv A outer s H vs Q E hr h,hm,b⟩
theorem bB.pV {f:τ->Option γ} {n:Nat} (D:bB K C m qual st ps) (S:FnScope N ps (ae st)) (hl:∀ a,(ra.slots a).length=ps.length) (hn:N.length - ps.length=n)
  (h:fR P w K mg base qual st N k λt=>∀ a,BV (ra.slots a++V1 n .any) t (f a) (finV r)):HasM P w K mg base (k+1) C m ps (spV ra r f):=by
 refine D.has S (λvs H Q E h=>?_) λfa cdv A outer s H vs Q E hr hsp=>?_
 ·refine oq35 h λF a c x x x h1 x=>?_; rw [(ra.ok h1).1,hl]
 ·refine oq12 (h fa cdv A outer s H E hr) λt h1 h2=>?_
  refine oq36 hsp λF a c sb nt tg hr' hf q=>?_
  refine (oi12 t h1 (h2 a _ F _ H _ c (SR.begin_ sb nt tg hr' (by rw [(ra.ok hr').1,hl]; exact hn)) hf ?_))
  exact λv F' H' fr rv=>q v F' H' ⟨fr.keep,fr.low,fr.sub,fr.base,λx=>fr.nt⟩ rv
theorem bB.pL {f:τ->Option (List γ)} {n:Nat} (D:bB K C m qual st ps) (S:FnScope N ps (ae st)) (hl:∀ a,(ra.slots a).length=ps.length) (hn:N.length - ps.length=n)
  (h:fR P w K mg base qual st N k λt=>∀ a,BV (ra.slots a++V1 n .any) t (f a) (finL r)):HasM P w K mg base (k+1) C m ps (spL ra r f):=by
 refine D.has S (λvs H Q E h=>?_) λfa cdv A outer s H vs Q E hr hsp=>?_
 ·refine oq35 h λF a c x x x h1 x=>?_; rw [(ra.ok h1).1,hl]
 ·refine oq12 (h fa cdv A outer s H E hr) λt h1 h2=>?_
  refine oq36 hsp λF a c sb nt tg hr' hf q=>?_
  refine (oi12 t h1 (h2 a _ F _ H _ c (SR.begin_ sb nt tg hr' (by rw [(ra.ok hr').1,hl]; exact hn)) hf ?_))
  exact λp vs F' H' fr hp rv=>q p vs F' H' ⟨fr.keep,fr.low,fr.sub,fr.base,λx=>fr.nt⟩ hp rv
theorem cW {X:Cx} {sp:Sp} {ta:TE} {t:TA} {o e:Expr} {es:List Expr} {apos pos:Pos} {pl:Sem Bool} (G:HasM X.prog X.w X.K X.mg X.base k C m ps sp) (he:PE X o ta) (c:Cls X.K C) (hr:Room k X.A) (ha:PA X (e :: es) t)
  (hst:autoParam (Y9 (e :: es) X.env=(false,eval e X.env) :: Y9 es X.env) L2.a2q._auto_1) (hpl:autoParam ((backTo pos (Y9 es X.env)).any (·.1)=false) L2.a2q._auto_1)
  (ht:eval (.Call (.Attribute o m apos) (e :: es) [] pos) X.env=(do
   let ov <- eval o X.env
   standAt apos.atName
   let (f,first) <- holding [ov] (getMethod ov m pl)
   callWith pos f first (backTo pos (Y9 (e :: es) X.env)) (backToKw pos (keywordEach [] X.env))):=by rfl) :
  PE X (.Call (.Attribute o m apos) (e :: es) [] pos) (lZ C m sp [] E0 ta t):=by
 refine oq23 G λf fd F hm hb=>?_
 exact pe_meth he c hm F hr hb .nil pass0 ha hst hpl ht
end
def spM {τ γ:Type} (CM:Addr) (ra:RpA τ) (r:Rp γ) (f:(List (List Int) × End_) × τ->Option (γ × End_)):Sp:=λvs H Q x=>∃ F v args rows p ws ended a c,vs=v :: args/\Same F H/\NT F/\TbG H/\(rM0 CM).rel F v (rows,p)/\F p=none/\H p=some (.dK ws) /\
 Paired (dRel rP F) ws ended/\ra.rel F args a/\f ((rows,ended),a)=some c/\∀ v' ws' F' H',Fr ⟨del H p,F,F⟩ F' H'->F' p=none->H' p=some (.dK ws')->Paired (dRel rP F') ws' c.2->r.rel F' v' c.1->Q v' H'
def finM {γ:Type} (r:Rp γ) (p:Addr):Fc->γ × End_->Ends->Prop:=λC x D=>∀ v ws F' H',Fr C F' H'->F' p=none->H' p=some (.dK ws)->Paired (dRel rP F') ws x.2->r.rel F' v x.1->D.rt v H'
theorem set_mid {α:Type _} (l:List α) (a b:α) (n:Nat):(l++V1 (n+1) a).set l.length b=l++b :: V1 n a:=by
 rw [List.set_append_right _ _ (nz6 _),Nat.sub_self,List.replicate_succ]; rfl
theorem bv_retM {Γ:List Slot} {γ:Type} {r:Rp γ} {te:TE} {oa:Option γ} {p:Addr} {ended:End_} (g:Nat) (hg:Γ[g]?=some (.od rP (λb=>b=p) ended)) (he:EV Γ te oa r):BV Γ (tRet te) (oa.bind λa=>some (a,ended)) (finM r p):=λC F σ H D x S e k=>by
 refine oq12 (a9 e) λa e1 e=>?_
 cases e
 refine he C F σ H _ a S e1 λv F' H' x1 r1=>?_
 have S':=S.grow x1
 refine oqs6 (S'.at_ g _ hg) λp' ws h1 eq5_ h3 h4 h5 h6=>?_; subst eq5_
 exact k v ws F' H' S'.toFr h4 h5 h6 r1
section
variable {P:X5} {w:World} {K:Z0} {mg:Str->Option Value} {base:Heap} {m qual:Str} {st:Stmt} {N ps:List Str} {k:Nat} {CM:Addr} {τ γ:Type} {ra:RpA τ} {r:Rp γ}
theorem bB.pM {f:(List (List Int) × End_) × τ->Option (γ × End_)} {n:Nat} {gx:Str} (D:bB K CM m qual st ps) (S:FnScope N ps (ae st)) (hl:∀ a,(ra.slots a).length+1=ps.length) (hn:N.length - ps.length=n+1) (hx:N[ps.length]?=some gx) (nv:i6 (ae st) gx=true)
  (h:fR P w K mg base qual st N k λt=>∀ rows p ended a,BV ((.fr (rM0 CM) (rows,p) :: ra.slots a)++.od rP (λb=>b=p) ended :: V1 n .any) t (f ((rows,ended),a)) (finM r p)):HasM P w K mg base (k+1) CM m ps (spM CM ra r f):=by
 refine D.has S (λvs H Q E h=>?_) λfa cdv A outer s H vs Q E hr hsp=>?_
 ·refine oq71 h λF v args rows p ws ended zz=>oq2a zz λa c eq9_ x x x x x x x h1 x=>?_; subst eq9_
  rw [W3,(ra.ok h1).1,hl]
 ·refine oq12 (h fa cdv A outer s H E hr) λt h1 h2=>?_
  refine oq71 hsp λF v args rows p ws ended zz=>oq2b zz λa c eq9_ sb nt tg hm hp hH hw har hf q=>?_; subst eq9_
  refine ⟨_,gW (g:=ps.length) h1 hx (iL nv),.ref p,?_⟩
  have lenA:(v :: args).length=ps.length:=by rw [W3,(ra.ok har).1,hl]
  have S0:=SR.begin_ (ra:=aw (rM0 CM) ra) (N:=N) (a:=((rows,p),a)) (n:=n+1) sb nt tg ⟨v,args,rfl,hm,har⟩ (by rw [lenA]; exact hn)
  have hsl:((aw (rM0 CM) ra).slots ((rows,p),a)).length=ps.length:=by show (ra.slots a).length+1=_; exact hl a
  have no:∀ (j:Nat) t,((aw (rM0 CM) ra).slots ((rows,p),a)++V1 (n+1) Slot.any)[j]?=some t->t.own=false:=λj t ht=>by
   by_cases hj:j<((aw (rM0 CM) ra).slots ((rows,p),a)).length
   ·rw [X4 hj] at ht
    exact ((aw (rM0 CM) ra).ok (F:=F) (vs:=v :: args) ⟨v,args,rfl,hm,har⟩).2 j t ht |>.1
   ·rw [W0 (by exact X8.mp hj)] at ht
    have:=W6 ht
    rw [E9] at this
    rw [this.2]; rfl
  have S1:=S0.less (p:=p) no hH trivial
  have S2:=S1.setG (p:=p) (s:=.od rP (λb=>b=p) ended) ps.length rfl ⟨p,ws,rfl,rfl,cT,hp,hH,hw⟩ λj t h1 h2=>by rw [no j t h1] at h2; cases h2
  rw [<- hsl,set_mid,hsl] at S2
  refine h2 rows p ended a _ F _ H _ c S2 hf ?_
  exact λv' ws' F' H' fr g1 g2 g3 g4=>q v' ws' F' H' fr g1 g2 g3 g4
end
def EM {α:Type} (Γ:List Slot) (g:Nat) (p:Addr) (t:TE) (o:Option (α × End_)) (r:Rp α):Prop:=∀ C F σ H Q x,SR C F Γ σ H->o=some x->(∀ v F' H',SR C F' (Γ.set g (.od rP (λb=>b=p) x.2)) σ H'->r.rel F' v x.1->Q v H')->t σ H Q
section
variable {Γ:List Slot} {α τ:Type} {r:Rp α} {ta tb:TE} {oa:Option α} {CM CW p hh:Addr} {rows:List (List Int)} {reach:Int} {ended:End_} {g:Nat} {K:Z0}
set_option tactic.hygienic true in
theorem set_get {α:Type _} {l:List α} {i:Nat} {x:α} (h:l[i]?=some x):l.set i x=l:=by
 apply D9
 intro j
 rw [O2]
 split
 ·rename_i e
  split
  ·rw [<- e]; exact h.symm
  ·rename_i q; rw [<- e,(List.getElem?_eq_none_iff).mpr (by exact X8.mp q)]
 ·rfl
theorem em_pure (hg:Γ[g]?=some (.od rP (λb=>b=p) ended)) (h:EV Γ ta oa r):EM Γ g p ta (oa.bind λa=>some (a,ended)) r:=λC F σ H Q x S e k=>by
 refine oq12 (a9 e) λa e1 e=>?_
 cases e
 refine h C F σ H _ a S e1 λv F' H' x1 r1=>k v F' H' ?_ r1
 rw [set_get hg]; exact S.grow x1
theorem em_if {tt:TT} {oc:Option Bool} {o o':Option (α × End_)} (hc:ET Γ tt oc) (h1:EM Γ g p ta o r) (h2:EM Γ g p tb o' r):EM Γ g p (tIf tt ta tb) (oc.bind λb=>if b=true then o else o') r:=λC F σ H Q x S e k=>by
 refine oq12 (a9 e) λb e1 e=>?_
 refine hc C F σ H _ b S e1 λF' H' x1=>?_
 cases b with
 | true=>exact h1 C F' σ H' Q x (S.grow x1) e k
 | false=>exact h2 C F' σ H' Q x (S.grow x1) e k
theorem em_meth {m:Str} {ra:RpA τ} {t:TA} {oτ:Option τ} {f:(List (List Int) × End_) × τ->Option (α × End_)} (k:WK K CW) (i:Nat) (hi:Γ[i]?=some (.fr (rW0 CM CW) (rows,reach,hh,p))) (hg:Γ[g]?=some (.od rP (λb=>b=p) ended)) (ha:EA Γ t oτ ra)
  (h2:autoParam ((m == "floor")=false) L2.a0q._auto_1) (h3:autoParam ((m == "ended")=false) L2.a0q._auto_1):EM Γ g p (lZ CM m (spM CM ra r f) [] E0 (tFld K (tVar i) "meetings") t) (oτ.bind λa=>f ((rows,ended),a)) r:=λC F σ H Q x S e kk=>by
 refine oq12 (a9 e) λa e1 e=>?_
 refine oq12 (S.fr hi) λw q1 zz=>oq44 zz λww dw vf mm eq6_ q2 q3 q4=>?_; subst eq6_
 refine oq33 (id q4) λm1 dm vf2 em q5 q6=>?_
 cases em
 refine ⟨.ref ww,q1,ww,CW,dw,_,.ref mm,rfl,S.sub _ _ q2,k.c,k.meetings,by rfl,mm,dm,_,rfl,S.sub _ _ q5,by simp [O0,h2,h3],?_⟩
 refine ha C F σ H _ a S e1 λvs F' H' x1 r1=>?_
 have S':=S.grow x1
 refine oqs6 (S'.at_ g _ hg) λp' ws h1 eq5_ h3 h4 h5 h6=>?_; subst eq5_
 refine ⟨F',.ref mm,vs,rows,p',ws,ended,a,x,by rw [T2],S'.sub,S'.nt,S'.tg,(rM0 CM).mono x1.ff q4,h4,h5,h6,r1,e,λv' ws' F2 H2 fr g1 g2 g3 g4=>kk v' F2 H2 ?_ g4⟩
 exact S'.mut (u':=.dK ws') hg rfl h1 h3 h5 fr rfl ⟨p',ws',rfl,rfl,h3,g1,g2,g3⟩
theorem bv_setAtM {T:Type} {to tk te:TE} {u:TS} {fin:Fc->T->Ends->Prop} {oe:Option (α × End_)} {oi:Option Int} {xs:List α} {φ:Addr->Prop} {f:List α->End_->Option T} (i:Nat) (hgi:g≠i) (ho:∀ e,mi (Γ.set g (.od rP (λb=>b=p) e)) to i) (hi:Γ[i]?=some (.ol r φ xs)) (hk:∀ e,EV (Γ.set g (.od rP (λb=>b=p) e)) tk oi rInt) (he:EM Γ g p te oe r)
  (h:∀ ys e,BV ((Γ.set g (.od rP (λb=>b=p) e)).set i (.ol r φ ys)) u (f ys e) fin):BV Γ (tSeq (tAsg te (gSub to tk rSetL)) u) (oe.bind λx=>oi.bind λk=>(ixN xs.length k).bind λj=>f (xs.set j x.1) x.2) fin:=by
 intro C F σ H D x S e k
 refine oq12 (a9 e) λa e1 e=>?_
 refine oq12 (a9 e) λn e2 e=>?_
 refine oq12 (a9 e) λj e3 e=>?_
 refine he C F σ H _ a S e1 λv F' H' S1 r1=>?_
 have hi':(Γ.set g (.od rP (λb=>b=p) a.2))[i]?=some (.ol r φ xs):=by rw [du hgi]; exact hi
 refine oq12 (S1.at_ i _ hi') λo h1 zz=>oq22 zz λp1 vs1 eq4_ c=>?_; subst eq4_
 refine ho a.2 C F' σ H' _ (.ref p1) S1 h1 (hk a.2 C F' σ H' _ n S1 e2 λw F2 H2 x2 r2=>?_)
 have S':=S1.grow x2
 refine oqs6 (S'.at_ i _ hi') λp' vs' q1 q2 q3 q4 q5 q6=>?_
 rw [h1] at q1
 cases q1
 refine ⟨p1,vs',n,j,rfl,r2,q5,by rw [q6.length]; exact e3,?_⟩
 exact h _ _ C F2 σ _ D x (S'.chg hi' rfl h1 q3 q4 rfl ⟨p1,_,rfl,q2,q3,q4,ai,Paired.setB (r.mono x2.ff r1) j q6⟩) e k
end
noncomputable abbrev Wa:=List (List Int) × Int × List (Option Int) × End_
def spW {τ:Type} (CM CW:Addr) (ra:RpA τ) (f:Wa × τ->Option (List (Option Int) × End_)):Sp:=λvs H Q x=>∃ F v args rows reach hh p hs ws homes ended a c,vs=v :: args/\Same F H/\NT F/\TbG H/\(rW0 CM CW).rel F v (rows,reach,hh,p)/\F hh=none/\H hh=some (.lst hs)/\Paired ((rOp rInt).rel F) hs homes /\
 F p=none/\H p=some (.dK ws)/\Paired (dRel rP F) ws ended/\ra.rel F args a/\f ((rows,reach,homes,ended),a)=some c /\
 ∀ hs' ws' F' H',Fr ⟨del (del H hh) p,F,F⟩ F' H'->F' hh=none->H' hh=some (.lst hs')->Paired ((rOp rInt).rel F') hs' c.1->F' p=none->H' p=some (.dK ws')->Paired (dRel rP F') ws' c.2->Q .non H'
def finW (hh p:Addr):Fc->List (Option Int) × End_->Ends->Prop:=λC c D=>∀ hs ws F σ H,Fr C F H->F hh=none->H hh=some (.lst hs)->Paired ((rOp rInt).rel F) hs c.1->F p=none->H p=some (.dK ws)->Paired (dRel rP F) ws c.2->D.nx σ H
theorem bv_endW {Γ:List Slot} {hh p:Addr} {homes:List (Option Int)} {ended:End_} (g1 g2:Nat) (hg1:Γ[g1]?=some (.ol (rOp rInt) (λb=>b=hh) homes)) (hg2:Γ[g2]?=some (.od rP (λb=>b=p) ended)):BV Γ km (some (homes,ended)) (finW hh p):=λC F σ H D x S e k=>by
 cases e
 refine oqs6 (S.at_ g1 _ hg1) λp1 vs h1 eq5_ h3 h4 h5 h6=>?_; subst eq5_
 refine oqs6 (S.at_ g2 _ hg2) λp2 ws k1 eq5_ k3 k4 k5 k6=>?_; subst eq5_
 exact k vs ws F σ H S.toFr h4 h5 h6 k4 k5 k6
end
section
open PySem PySem.Spec PyProof.Rows
variable [Kn:Kon]
theorem ne_ob {H:Hp} {a b:Addr} {o o':HO} (h:H a=some o) (k:H b=some o') (n:o≠o'):a≠b:=λe=>n (Z3 (h.symm.trans (e ▸ k)))
def tGh (g:Nat) (u:TS):TS:=λD σ H=>∃ v,u D (σ.set g (some v)) H
theorem nC {X:Cx} {ss:List Stmt} {t:TS} {x:Str} (g:Nat) (h:PSs X ss t) (hx:X.N[g]?=some x) (nv:i6 X.env.scope x=true):PSs X ss (tGh g t):=gW h hx (iL nv)
theorem set_mid2 {α:Type _} (l:List α) (a b c:α) (n:Nat):((l++V1 (n+2) a).set l.length b).set (l.length+1) c=l++b :: c :: V1 n a:=by
 rw [set_mid l a b (n+1),List.set_append_right _ _ (O8 _)]
 have:l.length+1 - l.length=1:=by lia
 rw [this,List.replicate_succ]; rfl
section
variable {P:X5} {w:World} {K:Z0} {mg:Str->Option Value} {base:Heap} {m qual:Str} {st:Stmt} {N ps:List Str} {k:Nat} {CM CW:Addr} {τ:Type} {ra:RpA τ}
theorem bB.pW {f:Wa × τ->Option (List (Option Int) × End_)} {n:Nat} {gx gy:Str} (D:bB K CW m qual st ps) (S:FnScope N ps (ae st)) (hl:∀ a,(ra.slots a).length+1=ps.length) (hn:N.length - ps.length=n+2) (hx:N[ps.length]?=some gx) (nvx:i6 (ae st) gx=true) (hy:N[ps.length+1]?=some gy) (nvy:i6 (ae st) gy=true)
  (h:fR P w K mg base qual st N k λt=>∀ rows reach hh p homes ended a,BV ((.fr (rW0 CM CW) (rows,reach,hh,p) :: ra.slots a)++.ol (rOp rInt) (λb=>b=hh) homes :: .od rP (λb=>b=p) ended :: V1 n .any) t (f ((rows,reach,homes,ended),a)) (finW hh p)):HasM P w K mg base (k+1) CW m ps (spW CM CW ra f):=by
 refine D.has S (λvs H Q E h=>?_) λfa cdv A outer s H vs Q E hr hsp=>?_
 ·refine oq71 h λF v args rows reach hh p zz=>oq6d zz λhs ws homes ended a c eq13_ x x x x x x x x x x h1 x=>?_; subst eq13_
  rw [W3,(ra.ok h1).1,hl]
 ·refine oq12 (h fa cdv A outer s H E hr) λt h1 h2=>?_
  refine oq71 hsp λF v args rows reach hh p zz=>oq6d zz λhs ws homes ended a c eq13_ sb nt tg hm hF1 hH1 hw1 hp hH hw har zz=>oq02 zz λhf q=>?_; subst eq13_
  refine ⟨_,gW (g:=ps.length) (gW (g:=ps.length+1) h1 hy (iL nvy)) hx (iL nvx),.ref hh,.ref p,?_⟩
  have ne:p≠hh:=ne_ob hH hH1 nofun
  have lenA:(v :: args).length=ps.length:=by rw [W3,(ra.ok har).1,hl]
  have S0:=SR.begin_ (ra:=aw (rW0 CM CW) ra) (N:=N) (a:=((rows,reach,hh,p),a)) (n:=n+2) sb nt tg ⟨v,args,rfl,hm,har⟩ (by rw [lenA]; exact hn)
  have hsl:((aw (rW0 CM CW) ra).slots ((rows,reach,hh,p),a)).length=ps.length:=by show (ra.slots a).length+1=_; exact hl a
  have no:∀ (j:Nat) t,((aw (rW0 CM CW) ra).slots ((rows,reach,hh,p),a)++V1 (n+2) Slot.any)[j]?=some t->t.own=false:=λj t ht=>by
   by_cases hj:j<((aw (rW0 CM CW) ra).slots ((rows,reach,hh,p),a)).length
   ·rw [X4 hj] at ht
    exact ((aw (rW0 CM CW) ra).ok (F:=F) (vs:=v :: args) ⟨v,args,rfl,hm,har⟩).2 j t ht |>.1
   ·rw [W0 (by exact X8.mp hj)] at ht
    have:=W6 ht
    rw [E9] at this
    rw [this.2]; rfl
  have S1:=S0.less (p:=hh) no hH1 trivial
  have S1':=S1.less (p:=p) no (show del H hh p=some (.dK ws) by rw [bR ne]; exact hH) trivial
  have S2:=S1'.setG (p:=hh) (s:=.ol (rOp rInt) (λb=>b=hh) homes) ps.length rfl ⟨hh,hs,rfl,rfl,by show del (del H hh) p hh=none; rw [bR (T9 ne)]; exact cT,hF1,hH1,hw1⟩ λj t h1 h2=>nomatch (no j t h1).symm.trans h2
  have S3:=S2.setG (p:=p) (s:=.od rP (λb=>b=p) ended) (ps.length+1) rfl ⟨p,ws,rfl,rfl,cT,hp,hH,hw⟩ λj t h1 h2 h3=>fm h1 (λa x l=>ne (V.ref.inj (Z3 (iF a (Nat.lt_of_lt_of_eq l S1'.len.symm) h3))).symm) λx h1=>nomatch (no j t h1).symm.trans h2
  rw [<- hsl,set_mid2,hsl] at S3
  refine h2 rows reach hh p homes ended a _ F _ H _ c S3 hf ?_
  exact λhs' ws' F' x H' fr g1 g2 g3 g4 g5 g6=>q hs' ws' F' H' fr g1 g2 g3 g4 g5 g6
end
theorem SR.mut2 {C:Fc} {F H:Hp} {Γ:List Slot} {σ:St} {hh p:Addr} {u v:HO} {F' H':Hp} {s1 s2 t1 t2:Slot} {g1 g2:Nat} (S:SR C F Γ σ H) (hne:g1≠g2) (hg1:Γ[g1]?=some s1) (hs1:s1.own=true) (hp1:σ[g1]?=some (some (.ref hh))) (h01:C.H0 hh=none) (hu:H hh=some u)
  (hg2:Γ[g2]?=some s2) (hs2:s2.own=true) (hp2:σ[g2]?=some (some (.ref p))) (h02:C.H0 p=none) (hv:H p=some v) (fr:Fr ⟨del (del H hh) p,F,F⟩ F' H') (ht1:t1.own=true) (h1:SlOk C.H0 F' H' t1 (some (.ref hh))) (ht2:t2.own=true) (h2:SlOk C.H0 F' H' t2 (some (.ref p))) :
  SR C F' ((Γ.set g1 t1).set g2 t2) σ H':=by
 have ow:∀ (j:Nat) x,((Γ.set g1 t1).set g2 t2)[j]?=some x->x.own=true->∃ y,Γ[j]?=some y/\y.own=true:=λj x q o=>fm q (λe h h=>⟨s2,e ▸ hg2,hs2⟩) λh q=>fm q (λe h h=>⟨s1,e ▸ hg1,hs1⟩) λh q=>⟨x,q,o⟩
 refine ⟨S.toFr.via fr λb o e=>(bR (al e h02)).trans (bR (al e h01)),by rw [V6,V6]; exact S.len,λj t q=>fm q (λa b h=>oi12 _ (a ▸ hp2) (b ▸ h2)) λn2 q=>fm q (λa b h=>oi12 _ (a ▸ hp1) (b ▸ h1)) λn1 q=>S.mvAt q fr.low λp' h o e f hu ou=>?_,λj k a b p' q1 q2 o1 o2 e1 e2=>(ow j a q1 o1).elim λa' r=>(ow k b q2 o2).elim λb' r'=>S.inj j k a' b' p' r.1 r'.1 r.2 r'.2 e1 e2⟩
 have e:=(bR (S.oth hg2 hs2 hp2 n2 q o e)).trans ((bR (S.oth hg1 hs1 hp1 n1 q o e)).trans hu)
 exact ⟨fr.off e f ou,fr.keep.kp p' _ ou.noTbl e⟩
section
variable {Γ:List Slot} {T τ:Type} {CM CW hh p:Addr} {rows:List (List Int)} {reach:Int} {homes:List (Option Int)} {ended:End_} {u:TS} {fin:Fc->T->Ends->Prop}
theorem bv_come {m:Str} {ra:RpA τ} {t:TA} {oτ:Option τ} {f:Wa × τ->Option (List (Option Int) × End_)} {gg:List (Option Int)->End_->Option T} (i g1 g2:Nat) (hne:g1≠g2) (hi:Γ[i]?=some (.fr (rW0 CM CW) (rows,reach,hh,p))) (hg1:Γ[g1]?=some (.ol (rOp rInt) (λb=>b=hh) homes)) (hg2:Γ[g2]?=some (.od rP (λb=>b=p) ended)) (ha:EA Γ t oτ ra)
  (h:∀ hs es,BV ((Γ.set g1 (.ol (rOp rInt) (λb=>b=hh) hs)).set g2 (.od rP (λb=>b=p) es)) u (gg hs es) fin) (ob:Ob (rW0 CM CW) CW m):BV Γ (tSeq (tDrop (lZ CW m (spW CM CW ra f) [] E0 (tVar i) t)) u) (oτ.bind λa=>(f ((rows,reach,homes,ended),a)).bind λc=>gg c.1 c.2) fin:=by
 intro C F σ H D x S e k
 refine oq12 (a9 e) λa e1 e=>?_
 refine oq12 (a9 e) λc e2 e=>?_
 refine oq12 (S.fr hi) λw q1 q2=>?_
 refine oq33 (ob F w _ q2) λad dx fs z1 z2 z3=>?_
 refine ⟨w,q1,ad,dx,fs,z1,S.sub _ _ z2,z3,ha C F σ H _ a S e1 λvs F' H' x1 r1=>?_⟩
 have S':=S.grow x1
 refine oqs6 (S'.at_ g1 _ hg1) λp1 hs h1 eq5_ h3 h4 h5 h6=>?_; subst eq5_
 refine oqs6 (S'.at_ g2 _ hg2) λp2 ws k1 eq5_ k3 k4 k5 k6=>?_; subst eq5_
 refine oi71 F' w vs rows reach p1 p2 (oi6d hs ws homes ended a c (by rw [T2]) S'.sub S'.nt S'.tg ((rW0 CM CW).mono x1.ff q2) h4 h5 h6 k4 k5 k6 r1 ⟨e2,λhs' ws' F2 H2 fr m1 m2 m3 m4 m5 m6=>?_⟩)
 exact h c.1 c.2 C F2 σ H2 D x (S'.mut2 (u:=.lst hs) (v:=.dK ws) hne hg1 rfl h1 h3 h5 hg2 rfl k1 k3 k5 fr rfl ⟨p1,hs',rfl,rfl,h3,m1,m2,m3⟩ rfl ⟨p2,ws',rfl,rfl,k3,m4,m5,m6⟩) e k
theorem bv_retW (i g1 g2:Nat) (hne:g1≠g2) (hi:Γ[i]?=some (.fr (rW0 CM CW) (rows,reach,hh,p))) (hg1:Γ[g1]?=some (.ol (rOp rInt) (λb=>b=hh) homes)) (hg2:Γ[g2]?=some (.od rP (λb=>b=p) ended)) (hi2:i≠g1/\i≠g2/\i<Γ.length):BV Γ (tRet (tVar i)) (some (rows,reach,homes,ended)) (finV (rW CM CW)):=λC F σ H D x S e k=>by
 cases e
 refine oq26 (S.borW hi hg1 hg2 hne) λvs ws a a a a a S'=>?_
 have hi':(((Γ.set g1 .any).set g2 .any).set i (.fr (rW CM CW) (rows,reach,homes,ended)))[i]?=some (.fr (rW CM CW) (rows,reach,homes,ended)):=n5 (by rw [V6,V6]; exact hi2.2.2)
 refine oq12 (S'.fr hi') λv q1 q2=>?_
 exact ⟨v,q1,k v _ H S'.toFr q2⟩
end
def spIM (CM:Addr):Sp:=λvs H Q a=>∃ x dx vf,vs=[.ref x,vf]/\H x=some (.ins CM dx [])/\∀ p,H p=none->Q .non (upd (upd (upd H x (.ins CM dx [("floor",vf)])) p (.dK [])) x (.ins CM dx [("floor",vf),("ended",.ref p)]))
theorem init_M {K:Z0} {CM:Addr} (k:MK K CM) {vs:List V} {H:Hp} {Q:VK} {E:XK} {N:List Str} (hN:N.length=2) (h:spIM CM vs H Q E):(tSeq (sFld K (tVar 0) (tVar 1) "floor") (sFld K (tVar 0) qJ "ended")) { nx:=λa H'=>Q .non H',rt:=Q } (start N vs) H:=by
 refine oq33 h λx dx vf eq3_ hx q=>?_; subst eq3_
 have es:start N [.ref x,vf]=[some (.ref x),some vf]:=by unfold start; simp [hN]
 rw [es]
 refine ⟨vf,rfl,.ref x,rfl,x,CM,dx,[],rfl,hx,k.c,k.floor,by simp,?_⟩
 intro p hp
 have np:p≠x:=by rintro rfl; rw [ai] at hp; cases hp
 rw [am np] at hp
 refine ⟨.ref x,rfl,x,CM,dx,[("floor",vf)],rfl,by rw [am (T9 np),ai]; rfl,k.c,k.ended,by simp,?_⟩
 exact q p hp
end
section
open PySem PySem.Spec PyProof.Rows
variable [Kn:Kon]
def spIW (CM CW:Addr) (f:List (List Int)->Option (List (Option Int))):Sp:=λvs H Q a=>∃ F x dx vf rows reach homes,vs=[.ref x,vf,.int reach]/\Same F H/\NT F/\TbG H/\F x=none/\H x=some (.ins CW dx [])/\rF.rel F vf rows/\f rows=some homes /\
 ∀ h hs m dm p F' H',Fr ⟨del H x,F,F⟩ F' H'->(F' x=none/\F' h=none/\F' m=none/\F' p=none)->(H h=none/\H m=none/\H p=none)->H' x=some (.ins CW dx [("floor",vf),("reach",.int reach),("homes",.ref h),("meetings",.ref m)])->H' h=some (.lst hs) ->
  Paired ((rOp rInt).rel F') hs homes->H' m=some (.ins CM dm [("floor",vf),("ended",.ref p)])->H' p=some (.dK [])->Q .non H'
theorem TbG.pokI {H:Hp} {p C d:Addr} {fs:List (Str × V)} {o:HO} (g:TbG H) (n:d7 o) (h:H p=some (.ins C d fs)):TbG (upd H p o):=g.poke n (λx z=>nomatch h.symm.trans z) λx z=>nomatch h.symm.trans z
theorem fld_c {K:Z0} {D:Ends} {σ:St} {H:Hp} {x C dx:Addr} {fs:List (Str × V)} {y:V} {f:Str} (e:σ[0]?=some (some (.ref x))) (hx:H x=some (.ins C dx fs)) (c:Cls K C) (n:bq K C f) (l:fs.length<1000) (k:D.nx σ (upd H x (.ins C dx (putF f y fs)))):sFld K (tVar 0) (λa H Q=>Q y H) f D σ H:=⟨.ref x,e,x,C,dx,fs,rfl,hx,c,n,l,k⟩
theorem Ext.offI {F H F' H':Hp} {b C d:Addr} {fs:List (Str × V)} (x:Ext F H F' H') (f:F b=none) (h:H b=some (.ins C d fs)):F' b=none:=none_of λw z=>(x.nw b w z).elim (λy=>nomatch f.symm.trans y) λy=>by rw [h] at y; exact y
theorem nD {H0 F H:Hp} {s0:Slot} {o0:Option V} {Γ:List Slot} {σ:St} (h:SlOk H0 F H s0 o0) (t:∀ (i:Nat) s,Γ[i]?=some s->∃ o,σ[i]?=some o/\SlOk H0 F H s o):∀ (i:Nat) s,(s0 :: Γ)[i]?=some s->∃ o,(o0 :: σ)[i]?=some o/\SlOk H0 F H s o:=λi s e=>by
 cases i with
 | zero=>cases e; exact ⟨_,rfl,h⟩
 | succ i=>exact t i s e
theorem no_own {Γ:List Slot} (h:Γ.all (λs=>!s.own)=true) {i:Nat} {s:Slot} (e:Γ[i]?=some s) (o:s.own=true):False:=by
 have z:=List.all_eq_true.mp h s (W6 e)
 rw [o] at z; cases z
theorem init_W {K:Z0} {CM CW:Addr} (k:WK K CW) {f:List (List Int)->Option (List (Option Int))} {tc:TE} (hc:∀ rows reach,EVL [.any,.fr rF rows,.fr rInt reach] tc (f rows) (rOp rInt)) {vs:List V} {H:Hp} {Q:VK} {E:XK} {N:List Str} (hN:N.length=3) (h:spIW CM CW f vs H Q E) :
  (tSeq (sFld K (tVar 0) (tVar 1) "floor") (tSeq (sFld K (tVar 0) (tVar 2) "reach") (tSeq (sFld K (tVar 0) tc "homes") (sFld K (tVar 0) (tMake CM (spIM CM) [] E0 (bg (tVar 1) tNil)) "meetings")))) { nx:=λa H'=>Q .non H',rt:=Q } (start N vs) H:=by
 refine oq79 h λF x dx vf rows reach homes eq7_ sb nt tg hFx hx hvf hf q=>?_; subst eq7_
 have es:start N [.ref x,vf,.int reach]=[some (.ref x),some vf,some (.int reach)]:=by unfold start; simp [hN]
 rw [es]
 refine oi12 vf rfl (fld_c rfl hx k.c k.floor (by decide) ?_)
 refine oi12 (.int reach) rfl (fld_c (fs:=[("floor",vf)]) rfl ai k.c k.reach (show 1<1000 by decide) ?_)
 rw [upd_upd]
 have sb2:Same F (upd H x (.ins CW dx (putF "reach" (.int reach) [("floor",vf)]))):=λb o e=>by rw [am (al e hFx)]; exact sb b o e
 have tg2:TbG (upd H x (.ins CW dx (putF "reach" (.int reach) [("floor",vf)]))):=tg.pokI trivial hx
 generalize eH2:upd H x (.ins CW dx (putF "reach" (.int reach) [("floor",vf)]))=H2 at sb2 tg2
 have h2x:H2 x=some (.ins CW dx [("floor",vf),("reach",.int reach)]):=by rw [<- eH2,ai]; rfl
 have h2o:∀ b,b≠x->H2 b=H b:=λb n=>by rw [<- eH2,am n]
 have SS:SR ⟨H2,F,F⟩ F [.any,.fr rF rows,.fr rInt reach] [some (.ref x),some vf,some (.int reach)] H2:=by
  exact ⟨⟨Sm.refl _,Same.refl _,sb2,λb o h=>.inl h,nt,tg2⟩,rfl,nD trivial (nD ⟨vf,rfl,hvf⟩ (nD ⟨_,rfl,rfl⟩ nofun)),λi j s t p h1 h2 o1 o2 a a=>(no_own rfl h1 o1).elim⟩
 refine hc rows reach _ F _ H2 _ homes SS hf λhh hs F' H3 x1 hp rh=>?_
 have h3x:H3 x=some (.ins CW dx [("floor",vf),("reach",.int reach)]):=x1.hh.kp _ _ trivial h2x
 have nhx:x≠hh:=al h3x hp
 have F'x:F' x=none:=x1.offI hFx h2x
 have F'h:F' hh=none:=x1.sub.free hp
 have H2h:H2 hh=none:=x1.hh.free hp
 refine fld_c rfl ((am nhx).trans h3x) k.c k.homes (show 2<1000 by decide) ?_
 have tg3:TbG H3:=x1.hh.tg tg2
 have tg4:TbG (upd (upd H3 hh (.lst hs)) x (.ins CW dx (putF "homes" (.ref hh) [("floor",vf),("reach",.int reach)]))):=by
  exact (tg3.pokN (p:=hh) (o:=.lst hs) trivial hp).pokI trivial ((am nhx).trans h3x)
 have h4x':upd (upd H3 hh (.lst hs)) x (.ins CW dx (putF "homes" (.ref hh) [("floor",vf),("reach",.int reach)])) x=some (.ins CW dx [("floor",vf),("reach",.int reach),("homes",.ref hh)]):=by rw [ai]; rfl
 have h4h':upd (upd H3 hh (.lst hs)) x (.ins CW dx (putF "homes" (.ref hh) [("floor",vf),("reach",.int reach)])) hh=some (.lst hs):=by rw [am (T9 nhx),ai]
 have h4o':∀ b,b≠x->b≠hh->upd (upd H3 hh (.lst hs)) x (.ins CW dx (putF "homes" (.ref hh) [("floor",vf),("reach",.int reach)])) b=H3 b:=λb n1 n2=>by rw [am n1,am n2]
 generalize upd (upd H3 hh (.lst hs)) x (.ins CW dx (putF "homes" (.ref hh) [("floor",vf),("reach",.int reach)]))=H4 at tg4 h4x' h4h' h4o'
 refine ⟨vf,rfl,λm dm hm hdm hne=>⟨m,dm,vf,rfl,ai,λp hp5=>⟨rfl,?_⟩⟩⟩
 have mx:m≠x:=(al h4x' hm).symm
 have mh:m≠hh:=(al h4h' hm).symm
 have dmx:dm≠x:=(al h4x' hdm).symm
 have dmh:dm≠hh:=(al h4h' hdm).symm
 have pm:p≠m:=(al ai hp5).symm
 rw [am pm] at hp5
 have pdm:p≠dm:=(al ai hp5).symm
 rw [am pdm] at hp5
 have px:p≠x:=(al h4x' hp5).symm
 have ph:p≠hh:=(al h4h' hp5).symm
 have tg5:TbG (upd (upd (upd (upd (upd H4 dm (.own m)) m (.ins CM dm [])) m (.ins CM dm [("floor",vf)])) p (.dK [])) m (.ins CM dm [("floor",vf),("ended",.ref p)])):=by
  exact ((((tg4.pokN (p:=dm) (o:=.own m) trivial hdm).pokN (p:=m) (o:=.ins CM dm []) trivial ((am (T9 hne)).trans hm)).pokI (p:=m) (o:=.ins CM dm [("floor",vf)]) trivial ai).pokN (p:=p) (o:=.dK []) trivial ((am pm).trans ((am pm).trans ((am pdm).trans hp5)))).pokI (p:=m) (o:=.ins CM dm [("floor",vf),("ended",.ref p)]) trivial ((am (T9 pm)).trans ai)
 have h5o:∀ b,b≠m->b≠dm->b≠p->upd (upd (upd (upd (upd H4 dm (.own m)) m (.ins CM dm [])) m (.ins CM dm [("floor",vf)])) p (.dK [])) m (.ins CM dm [("floor",vf),("ended",.ref p)]) b=H4 b:=λb n1 n2 n3=>by rw [am n1,am n3,am n1,am n1,am n2]
 have h5m:upd (upd (upd (upd (upd H4 dm (.own m)) m (.ins CM dm [])) m (.ins CM dm [("floor",vf)])) p (.dK [])) m (.ins CM dm [("floor",vf),("ended",.ref p)]) m=some (.ins CM dm [("floor",vf),("ended",.ref p)]):=ai
 have h5p:upd (upd (upd (upd (upd H4 dm (.own m)) m (.ins CM dm [])) m (.ins CM dm [("floor",vf)])) p (.dK [])) m (.ins CM dm [("floor",vf),("ended",.ref p)]) p=some (.dK []):=by rw [am pm,ai]
 generalize upd (upd (upd (upd (upd H4 dm (.own m)) m (.ins CM dm [])) m (.ins CM dm [("floor",vf)])) p (.dK [])) m (.ins CM dm [("floor",vf),("ended",.ref p)])=H5 at tg5 h5o h5m h5p
 have h5x:H5 x=some (.ins CW dx [("floor",vf),("reach",.int reach),("homes",.ref hh)]):=by rw [h5o x (T9 mx) (T9 dmx) (T9 px)]; exact h4x'
 have h5h:H5 hh=some (.lst hs):=by rw [h5o hh (T9 mh) (T9 dmh) (T9 ph)]; exact h4h'
 refine fld_c rfl h5x k.c k.meetings (show 3<1000 by decide) ?_
 have tg6:TbG (upd H5 x (.ins CW dx (putF "meetings" (.ref m) [("floor",vf),("reach",.int reach),("homes",.ref hh)]))):=tg5.pokI trivial h5x
 have old:∀ b o,b≠x->H3 b=some o->upd H5 x (.ins CW dx (putF "meetings" (.ref m) [("floor",vf),("reach",.int reach),("homes",.ref hh)])) b=some o:=λb o n e=>by
  have nh:b≠hh:=al e hp
  have e4:H4 b=some o:=by rw [h4o' b n nh]; exact e
  rw [am n,h5o b (al e4 hm) (al e4 hdm) (al e4 hp5)]; exact e4
 have F'm:F' m=none:=x1.sub.free ((h4o' m mx mh).symm.trans hm)
 have F'p:F' p=none:=x1.sub.free ((h4o' p px ph).symm.trans hp5)
 have freeH:∀ b,b≠x->b≠hh->H4 b=none->H b=none:=λb n1 n2 e=>by
  rw [h4o' b n1 n2] at e
  rw [<- h2o b n1]; exact x1.hh.free e
 refine q hh hs m dm p F' _ ⟨⟨λb o n e=>?_,λb ps e=>?_,λa=>tg6⟩,x1.ff,λb o e=>?_,λb o e=>?_,x1.nt nt,tg6⟩ (oi04 F'x F'h F'm F'p) (oi03 (by rw [<- h2o hh (T9 nhx)]; exact H2h) (freeH m mx mh hm) (freeH p px ph hp5)) ?_ (by rw [am (T9 nhx)]; exact h5h) rh (by rw [am mx]; exact h5m) (by rw [am px]; exact h5p)
 ·refine oq02 (dB e) λn1 e=>?_
  exact old b o n1 (x1.hh.kp b o n (by rw [h2o b n1]; exact e))
 ·refine oq02 (dB e) λn1 e=>?_
  refine oq11 (x1.hh.tb b ps (by rw [h2o b n1]; exact e)) λmore e3=>?_
  exact ⟨more,old b _ n1 e3⟩
 ·exact old b o (al e F'x) (x1.sub b o e)
 ·rcases x1.nw b o e with z | z
  ·exact .inl z
  ·refine .inr ?_
   show UnT (del H x b)
   by_cases y:b=x
   ·rw [y,cT]; trivial
   ·rw [bR y,<- h2o b y]; exact z
 ·rw [ai]; rfl
section
variable {Γ:List Slot} {T:Type} {CM CW:Addr} {u:TS} {fin:Fc->T->Ends->Prop} {f:List (List Int)->Option (List (Option Int))}
theorem upd2_el {F:Hp} {w m b:Addr} {o1 o2 u:HO} {Q:Prop} (z:upd (upd F w o1) m o2 b=some u) (f:b=m->o2=u->Q) (g:b=w->o1=u->Q) (h:b≠w->F b=some u->Q):Q:=kK z f λx z=>kK z g h
theorem make_ext {F1 H1 F' H' Hx:Hp} {w m:Addr} {o1 o2:HO} (fr:Fr ⟨Hx,F1,F1⟩ F' H') (k2:∀ b o,H1 b=some o->Hx b=some o) (k3:∀ b,b≠w->UnT (Hx b)->UnT (H1 b)) (hw:H1 w=none) (hm:H1 m=none) (f1:F' w=none) (f3:F' m=none) (q1:H' w=some o1) (q4:H' m=some o2) (t1:d7 o1) (t2:d7 o2):Ext F1 H1 (upd (upd F' w o1) m o2) H' :=
 ⟨⟨λb o n z=>fr.keep.kp b o n (k2 b o z),λb ps z=>fr.keep.tb b ps (k2 b _ z),λx=>fr.tg⟩,λb o z=>have z:=fr.low b o z
  dP (al z f3) (dP (al z f1) z),λb o z=>upd2_el z (λe1 e2=>e1 ▸ e2 ▸ q4) (λe1 e2=>e1 ▸ e2 ▸ q1) λx z=>fr.sub b o z,λb o z=>upd2_el z (λe x=>.inr (un_no (e ▸ hm))) (λe x=>.inr (un_no (e ▸ hw))) λn z=>(fr.base b o z).imp id (k3 b n),λx=>kO (kO fr.nt t1) t2⟩
theorem rA {Γ:List Slot} {σ:St} {b:Addr} {s:Slot} {v:Option V} (g:Nat) (hl:σ.length=Γ.length) (n:∀ (j:Nat) t,Γ[j]?=some t->t.own=true->σ[j]?≠some (some (.ref b))) (h:s.own=true->v≠some (.ref b)) (j:Nat) (t:Slot) (z1:(Γ.set g s)[j]?=some t) (z2:t.own=true):(σ.set g v)[j]?≠some (some (.ref b)):=λz3=>fm z1 (λe1 e2 l=>h (e2 ▸ z2) (iF e1 (Nat.lt_of_lt_of_eq l hl.symm) z3)) λnj z1=>n j t z1 z2 ((du nj).symm.trans z3)
theorem bv_make {t:TA} {oa:Option (List (List Int) × Int)} {gg:List (List Int)->Int->List (Option Int)->Option T} (i g1 g2:Nat) (hne:i≠g1/\i≠g2/\g1≠g2/\g1<Γ.length/\g2<Γ.length) (ha:EA Γ t oa (aw rF (aOne rInt)))
  (h:∀ rows reach hh p homes,BV (((Γ.set i (.fr (rW0 CM CW) (rows,reach,hh,p))).set g1 (.ol (rOp rInt) (λb=>b=hh) homes)).set g2 (.od rP (λb=>b=p) [])) u (gg rows reach homes) fin) :
  BV Γ (tSeq (tAsg (tMake CW (spIW CM CW f) [] E0 t) (d6 i)) (tGh g1 (tGh g2 u))) (oa.bind λa=>(f a.1).bind λhomes=>gg a.1 a.2 homes) fin:=by
 intro C F σ H D x S e k
 refine oq12 (a9 e) λa e1 e=>?_
 refine oq12 (a9 e) λhomes e2 e=>?_
 refine ha C F σ H _ a S e1 λvs F1 H1 x1 r1=>?_
 refine oq23 r1 λvf us eq2_ r2 zz=>oq12 zz λv2 eq5_ r3=>?_; subst eq2_; subst eq5_
 cases r3
 have S1:=S.grow x1
 intro w dx hw hdx nd
 have Fw:F1 w=none:=S1.sub.free hw
 have Fd:F1 dx=none:=S1.sub.free hdx
 refine oi79 F1 w dx vf a.1 a.2 homes rfl (λb o z=>dP (al z Fw) (dP (al z Fd) (S1.sub b o z))) S1.nt ?_ Fw ai r2 e2 λhh hs m dm p F' H' fr zf zn q1 q2 q3 q4 q5=>⟨rfl,oq04 zf λf1 f2 f3 f4=>oq03 zn λn1 n2 n3=>?_⟩
 ·exact (S1.tg.pokN (p:=dx) (o:=.own w) trivial hdx).pokN trivial ((am (T9 nd)).trans hw)
 have frH:∀ b,upd (upd H1 dx (.own w)) w (.ins CW dx []) b=none->H1 b=none/\b≠w:=λb z=>by
  have bw:b≠w:=(al ai z).symm
  have z:=(am bw).symm.trans z
  exact ⟨(am (al ai z).symm).symm.trans z,bw⟩
 refine oq02 (frH hh n1) λn1 hw1=>?_
 refine oq02 (frH m n2) λn2 hw2=>?_
 refine oq02 (frH p n3) λn3 hw3=>?_
 have hm:hh≠m:=ne_ob q2 q4 nofun
 have pm:p≠m:=ne_ob q5 q4 nofun
 have ph:p≠hh:=ne_ob q5 q2 nofun
 have ext:=make_ext fr (λb o z=>(bR (al z hw)).trans (dP (al z hw) (dP (al z hdx) z))) (λb n y=>by
  rw [bR n,am n] at y
  by_cases bd:b=dx
  ·rw [bd,ai] at y; exact y.elim
  ·rw [am bd] at y; exact y) hw n2 f1 f3 q1 q4 trivial trivial
 generalize eF:upd (upd F' w (.ins CW dx [("floor",vf),("reach",.int a.2),("homes",.ref hh),("meetings",.ref m)])) m (.ins CM dm [("floor",vf),("ended",.ref p)])=F2 at ext
 have e3:Same F' F2:=λb o z=>eF ▸ dP (al z f3) (dP (al z f1) z)
 have rf:=rF.mono e3 (rF.mono fr.low r2)
 have S2:=S1.grow ext
 have S3:=S2.setF (r:=rW0 CM CW) (a:=(a.1,a.2,hh,p)) (v:=.ref w) i ⟨w,dx,vf,m,rfl,eF ▸ (am (T9 hw2)).trans ai,rf,m,dm,vf,rfl,eF ▸ ai,rf⟩
 have off:∀ b,b≠m->b≠w->F' b=none->F2 b=none:=λb n1 n2 z=>eF ▸ (am n1).trans ((am n2).trans z)
 have S4:=S3.setG (p:=hh) (s:=.ol (rOp rInt) (λb=>b=hh) homes) g1 rfl ⟨hh,hs,rfl,rfl,S1.keep.free n1,off hh hm hw1 f2,q2,Paired.imp2 (λc c z=>Rp.mono _ e3 z) q3⟩ (rA i S1.len (λj t q o z=>S1.np n1 q o z) nofun)
 have S5:=S4.setG (p:=p) (s:=.od rP (λb=>b=p) []) g2 rfl ⟨p,[],rfl,rfl,S1.keep.free n3,off p pm hw3 f4,q5,.nil⟩ (rA g1 S3.len (rA i S1.len (λj t q o z=>S1.np n3 q o z) nofun) λc z=>ph (V.ref.inj (Z3 z)).symm)
 exact ⟨.ref hh,.ref p,h a.1 a.2 hh p homes C _ _ H' D x S5 e k⟩
end
end
section
open PySem PySem.Spec PyProof.Rows
variable [Kn:Kon]
def ij (K:Z0) (mg:Str->Option Value) (x:Str) (C:Addr) (qual:Str) (st:Stmt) (ps:List Str):Prop:=∃ f fd,Fun K "__init__" qual st f fd/\Binds K fd ps []/\Mk K C f/\mg x=some (.ref C)
noncomputable def HasI (P:X5) (w:World) (K:Z0) (mg:Str->Option Value) (base:Heap) (k:Nat) (x:Str) (C:Addr) (ps:List Str) (sp:Sp):Prop :=
 ∃ f fd,FnOk P w K mg base CX0 k f fd ps sp/\Mk K C f/\Binds K fd ps []/\mg x=some (.ref C)
theorem init_mk {K:Z0} {mg:Str->Option Value} {h:Heap} {x qual:Str} {C f:Addr} {st:Stmt} {ps:List Str} {oc:Value} {od an:Option Addr} {osl:Array (Option Value)} {kV doc pm cdv ct:Value} (X:K.In h) (G:h.Ns U2 mg)
  (a:K0 K U2 x=some (some (.ref C))) (i:T3 K (.ref C) "__init__"=some (some (.ref f))) (l:K.lookup f=some ⟨oc,od,.func (U4 "__init__" qual (br st) (aW st) (ae st) .none kV doc pm an cdv ct),osl⟩) (c:R3 K cdv qual=true) (k:U3 K (.ref f)=true) (hf:G6 K (.ref f)=true)
  (mk:F9 K C=true) (kc:U3 K (.ref C)=true)
  (hb:∀ (kV doc pm:Value) (an:Option Addr) (cdv ct:Value) (us:List Value),us.length=ps.length->G0 (U4 "__init__" qual (br st) (aW st) (ae st) .none kV doc pm an cdv ct) ⟨us,[]⟩=pure (ps.zip us)):ij K mg x C qual st ps :=
 ⟨f,_,fP (st:=st) l c k,(fP (st:=st) l c k).binds hb,⟨mk,i,hf,kc⟩,PySem.W.mg_of X G a⟩
section
variable {P:X5} {w:World} {K:Z0} {mg:Str->Option Value} {base:Heap} {x qual:Str} {st:Stmt} {N ps:List Str} {k:Nat} {C:Addr}
theorem ij.has {sp:Sp} (D:ij K mg x C qual st ps) (S:FnScope N ps (ae st)) (len:∀ vs H Q E,sp vs H Q E->vs.length=ps.length)
  (hbody:∀ (f:Addr) (cdv:Value) (A:Around) (outer:List Env) (s:Shared) (H:Hp) (vs:List V) (Q:VK) (E:XK),Room k (A.deeper (envOfC qual (ae st) s.heap.objs.size f cdv))->sp vs H Q E ->
   ∃ t,PSs (cxOf CX0 P w K mg base N qual (ae st) f cdv A outer s H E).nox (aW st) t/\t { nx:=λa H'=>Q .non H',rt:=Q } (start N vs) H):HasI P w K mg base (k+1) x C ps sp:=by
 refine oq24 D λf fd F b hm hg=>?_
 exact ⟨f,fd,F.ok S len λcdv A outer s H vs Q E hr h=>hbody f cdv A outer s H vs Q E hr h,hm,b,hg⟩
theorem kU {X:Cx} {sp:Sp} {t:TA} {e:Expr} {es:List Expr} {p pos:Pos} (G:HasI X.prog X.w X.K X.mg X.base k x C ps sp) (hr:Room (k+1) X.A) (hg:Gl X x) (ha:PA X (e :: es) t) (hdb:autoParam ((x == ("__debug__":Str))=false) L2.a0q._auto_1)
  (he:autoParam (Y9 (e :: es) X.env=(false,eval e X.env) :: Y9 es X.env) L2.a2q._auto_1) (hpl:autoParam ((backTo pos (Y9 es X.env)).any (·.1)=false) L2.a2q._auto_1):PE X (.Call (.Name x p) (e :: es) [] pos) (tMake C sp [] E0 t):=by
 refine oq24 G λf fd F hm hb hg'=>?_
 exact pe_make hm F hr hg hg' hb .nil pass0 ha hdb he hpl
end
end
section
open PySem PySem.Spec PyProof.Rows
section
variable {X:Cx} {K:Z0}
theorem c8 {e:Expr} {f:Str} {pos:Pos} {ta:TE} (h:X.K=K) (he:PE X e ta) (hb:F6 e f X.env (eval e X.env)=eval e X.env):PE X (.Attribute e f pos) (tFld K ta f):=by subst h; exact pe_fld he hb
theorem pq (h:X.K=K):OpR X (G9 .Add) (rCatT K):=by subst h; exact op_catT
end
variable [Kn:Kon]
section
variable {Γ:List Slot} {K:Z0} {ta:TE}
theorem gv_tripC {α β γ:Type} {r:Rp α} {s:Rp β} {q:Rp γ}:GV Γ 3 (gTup K 3 (iy (d6 0) (iy (d6 1) (iy (d6 2) gNil)))) (rT3 r s q) (λx=>((Γ.set 0 (.fr r x.1)).set 1 (.fr s x.2.1)).set 2 (.fr q x.2.2)):=λC F σ H v x k S zq q=>oq45 zq λp a b c e h1 h2 h3 h4 =>
 ⟨p,_,e,SqT.of (S.sub _ _ h1),rfl,a,[b,c],rfl,b,[c],rfl,c,[],rfl,rfl,q _ (((S.setF 0 h2).setF 1 h3).setF 2 h4) λz=>((Wk.refl.set (z 0 (by decide))).set (z 1 (by decide))).set (z 2 (by decide))⟩
theorem EVL.cast {α:Type} {r:Rp α} {o o':Option (List α)} (h:EVL Γ ta o r) (e:o'=o):EVL Γ ta o' r:=e ▸ h
theorem em_some {g:Nat} {p:Addr} {α:Type} {r:Rp α} {o:Option (α × End_)} (h:EM Γ g p ta o r):EM Γ g p ta (o.bind λx=>some (some x.1,x.2)) (rOp r):=λC F σ H Q x S e k=>by
 refine oq12 (a9 e) λy e1 e=>?_
 cases e
 exact h C F σ H Q y S e1 λv F' H' S' r1=>k v F' H' S' r1
end
section
variable {Γ:List Slot} {α β S T:Type} {r:Rp α} {s:Rp β} {K:Z0} {u tl:TS} {fin:Fc->T->Ends->Prop}
theorem bv_forSO {g:TG} {Γf:Addr->S->List Slot} {Γt:Addr->S->α->List Slot} {m:Nat} {xs:List α} {body:S->α->Option S} {f:S->Option T} (st:S) (j:Nat) {φ:Addr->Prop} (hj:Γ[j]?=some (.ol r φ xs)) (hs:∀ p,SubL (Γ.set j (.ol r (λb=>b=p) xs)) (Γf p st)) (hjf:∀ p s,(Γf p s)[j]?=some (.ol r (λb=>b=p) xs)) (hg:∀ p s,GV (Γf p s) m g r (Γt p s))
  (hb:∀ p s x,BV (Γt p s x) tl (body s x) (finS (Γf p))) (h:∀ p s,BV (Γf p s) u (f s) fin):BV Γ (tSeq (tFor (om K (tVar j)) g tl) u) ((Pu.forS body xs st).bind f) fin :=
 (bv_forCO (rf:=rfE) (e:=Empty.elim) st j hj hs hjf hg (λp s x=>bv_nx (hb p s x)) rfE_ok (λa x=>x.elim) h).cast (forS_C xs st)
end
end
end L2
namespace Pu
noncomputable def pw {α:Type} (d:List (Int × α)) (k:Option Int):Option α:=k.bind λi=>find d i
end Pu
namespace L2
open PySem PySem.Spec PyProof.Rows
section
variable {prog:X5} {w:World} {A:Around} {E:Value->Shared->Prop} {s:Shared}
theorem pA {Q:Int->Shared->Prop} (h:Q 4238894112 { s with toks:=s.toks+1 }):wpAny (model prog w) A (pyHash .none) Q E s:=by
 have hT:s.TypeIs .none "NoneType":=rfl
 show wpAny _ _ (pyHashByItsType .none) Q E s
 unfold pyHashByItsType
 have hv:[M4].any Value.onHeap=false:=rfl
 refine Z4 ?_
 rw [cRoomFor,if_neg (by rw [hv]; exact Z2)]; refine Y6 ?_
 refine Z4 (wpAny_specialOf hT N3.lookup ?_)
 show wpAny _ _ (if (some (Value.builtin "NoneType.__hash__") == some M4)=true then _ else _) Q E s
 rw [if_neg (by rw [beq_builtin_none]; exact Z2)]
 refine Z4 (wpAny_specialOf hT N3.lookup ?_)
 show wpAny _ _ (callSpecialIfBoundUnlessNone? .none "__hash__" _ >>= _) Q E s
 refine Z4 (wpAny_callSpecialIfBoundUnlessNone?_slot hT N3
  (wpAny_call_entry N3 hT PySem.F.entry_NoneType_hash
   (show wpAny _ _ (do ret (<- mkInt 4238894112)) _ _ s from wpAny_ret_mkInt ?_) (PySem.F.args_NoneType_hash_1 _)))
 show wpAny _ _ (if (decide (-(2:Int) ^ 63<=4238894112) && decide ((4238894112:Int)<2 ^ 63))=true then _ else _) Q E _
 rw [if_pos (by decide)]
 exact Y6 h
end
noncomputable def optIs:Option Key->Value->Bool
 | none,.none=>true
 | none,_=>false
 | some k,v=>gb k v
theorem eM {v:Value} (h:optIs none v=true):v=.none:=by
 cases v <;> first | rfl | cases h
theorem ju {k:Key} {v:Value} (h:gb k v=true):optIs none v=false:=by
 rcases be h with ⟨i,t,rfl,rfl⟩ | ⟨x,t,rfl,rfl⟩ <;> rfl
noncomputable def optKind (prog:X5) (w:World):PySem.KeyKind prog w (Option Key) where
 is:=optIs
 hash:=λk=>match k with | none=>4238894112 | some k=>keyH w k
 inj:=λv a b ha hb=>by
  cases a with
  | none=>cases b with
   | none=>rfl
   | some b=>rw [ju (show gb b v=true from hb)] at ha; cases ha
  | some a=>cases b with
   | none=>rw [ju (show gb a v=true from ha)] at hb; cases hb
   | some b=>rw [(aZ prog w).inj v a b ha hb]
 byValue:=λk v h=>by
  cases k with
  | none=>rw [eM h]; rfl
  | some k=>exact (aZ prog w).byValue k v h
 pyHash:=λ{A E s k v Q} hv h=>by
  cases k with
  | none=>rw [eM hv]; exact pA h
  | some k=>exact (aZ prog w).pyHash (k:=k) hv h
 eqBool:=λ{A E s a b u v Q} hu hv h=>by
  cases a with
  | none =>
   rw [eM hu]
   cases b with
   | none=>rw [eM hv]; exact U1.same _ _ _ _ _ (by simpa using h)
   | some b =>
    rcases be hv with zr2_ | zr1_
    ·refine oq22 zr2_ λi t eq2_ eq3_=>?_; subst eq2_; subst eq3_
     exact U1.none_int i t _ _ _ _ (by simpa using h)
    ·refine oq22 zr1_ λx t eq2_ eq3_=>?_; subst eq2_; subst eq3_
     exact U1.none_str x t _ _ _ _ (by simpa using h)
  | some a =>
   cases b with
   | none =>
    rw [eM hv]
    rcases be hu with zr4_ | zr3_
    ·refine oq22 zr4_ λi t eq2_ eq3_=>?_; subst eq2_; subst eq3_
     exact U1.int_none i t _ _ _ _ (by simpa using h)
    ·refine oq22 zr3_ λx t eq2_ eq3_=>?_; subst eq2_; subst eq3_
     exact U1.str_none x t _ _ _ _ (by simpa using h)
   | some b =>
    refine (aZ prog w).eqBool (a:=a) (b:=b) hu hv ?_
    have:decide (some a=some b)=decide (a=b):=by simp
    rw [this] at h; exact h
 «strs»:=λk x t v h=>by
  cases k with
  | none=>cases h
  | some k=>exact (aZ prog w).strs k x t v h
theorem mapOf_opt {P:X5} {w:World} {h:Heap} {a:Addr} {f:Key->Option Value} (m:h.MapOf (aZ P w) a f):h.MapOf (optKind P w) a (λk=>k.bind f):=by
 refine oq35 m λo es ep h1 h2 h3 h4 h5=>?_
 refine ⟨o,es,ep,h1,h2,h3,λe he=>?_,λk=>?_⟩
 ·refine oq12 (h4 e he) λk g1 g2=>?_
  exact (oi12 (some k) g1 g2)
 ·cases k with
  | some k=>exact h5 k
  | none =>
   show findBy optIs es none=none
   unfold findBy
   rw [Option.map_eq_none_iff,Array.find?_eq_none]
   intro e he
   refine oq12 (h4 e he) λk g1 x=>?_
   rw [ju (show gb k e.key=true from g1)]
   exact Z2
section
variable {X:Cx} {pins:List (Addr × Obj)} {σ:St} {H:Hp} {s:Shared} {a:Addr} {A:Around} {E:Value->Shared->Prop} {u:Value}
theorem d_inN {kvs:List (Key × V)} {Q:Value->Shared->Prop} (I:Inv X pins σ H s) (e:H a=some (.dK kvs)) (h:∀ s',Inv X pins σ H s'->Q (.bool false) s'):wpAny (model X.prog X.w) A (U8 .In .none (.ref a)) Q E s:=by
 refine oq03 (dk_of I.hok e) λz hd zz=>oq12 zz λvs rel dd=>?_
 exact wpAny_in_of (knd:=optKind X.prog X.w) (k:=none) rfl hd (mapOf_opt dd.mapOf) (h _ (I.tok _))
def tDInO (ty td:TE):TE:=λσ H Q=>ty σ H λy H1=>td σ H1 λx H2=>∃ a kvs,x=.ref a/\H2 a=some (.dK kvs)/\((y=.non/\Q (.bl false) H2)\/∃ k,y=kV k/\Q (.bl (valV kvs k).isSome) H2)
theorem pc_dinO {i o:Expr} {ty td:TE} (hu:X.A.units+1<cLine) (hi:PE X i ty) (ho:PE X o td):PC X .In i o (tDInO ty td):=by
 intro pins s σ H Q I h
 refine thn (hi pins s σ H _ I h) λiv s1 zq=>oq23 zq λy H1 I1 ry q1=>thn (ho pins s1 σ H1 _ I1 q1) λu s2 zq=>oq23 zq λx H2 I2 rx zz=>oq23 zz λa kvs ex g q2=>?_
 subst ex
 obtain rfl:u=T1 a:=rx
 rcases q2 with zr6_ | zr5_
 ·refine oq02 zr6_ λeq0_ q2=>?_; subst eq0_
  obtain rfl:iv=M4:=ry
  exact d_inN I2 g λs3 I3=>⟨.bl false,H2,I3,rfl,q2⟩
 ·refine oq12 zr5_ λk eq1_ q2=>?_; subst eq1_
  exact d_in hu I2 (DGet.k (k:=k) g) ry λs3 I3=>⟨.bl (valV kvs k).isSome,H2,I3,rfl,q2⟩
end
section
variable [Kn:Kon] {Γ:List Slot} {α:Type} {r:Rp α} {ta tb:TE}
theorem ev_inDO {oi:Option (Option Int)} {o:Option (List (Int × α))} (hi:EV Γ ta oi (rOp rInt)) (hd:EV Γ tb o (rD r)):EV Γ (tDInO ta tb) (oi.bind λk=>o.bind λd=>some ((Pu.pw d k).isSome)) bJ:=by
 intro C F σ H Q b S e k
 refine oq12 (a9 e) λi e1 e=>?_
 refine oq12 (a9 e) λd e2 e=>?_
 cases e
 refine hi C F σ H _ i S e1 λv F' H' x1 r1=>hd C F' σ H' _ d (S.grow x1) e2 λw F2 H2 x2 zq=>oq23 zq λp ws e4 h1 h2=>(oi23 p ws e4 (x2.sub _ _ h1) ?_)
 cases i with
 | none=>exact .inl ⟨r1,k _ F2 H2 (x1.trans x2) rfl⟩
 | some i =>
  have r1:v=.int i:=r1
  refine .inr (oi12 (.inl i) r1 ?_)
  refine oq02 (eW (k:=i) h2) λg1 g2=>?_
  have eb:(valV ws (.inl i)).isSome=(Pu.pw d (some i)).isSome:=by
   show _=(Pu.find d i).isSome
   cases q:Pu.find d i with
   | none=>rw [g2 q]; rfl
   | some x=>refine oq12 (g1 x q) λv h3 h4=>?_; rw [h3]; rfl
  rw [eb]
  exact k _ F2 H2 (x1.trans x2) rfl
end
section
variable [Kn:Kon]
def EVG {α:Type} (Γ:List Slot) (t:TE) (o:Option α) (r:Rp α):Prop:=∀ C F σ H Q x,SR C F Γ σ H->o=some x->(∀ v G F' H',Ext F H F' H'->Same G F'->(∀ b u,G b=some u->H b=none)->r.rel G v x->Q v H')->t σ H Q
theorem EVG.ev {α:Type} {Γ:List Slot} {t:TE} {o:Option α} {r:Rp α} (h:EVG Γ t o r):EV Γ t o r:=λC F σ H Q x S e k=>h C F σ H Q x S e λv a F' H' x1 s a q=>k v F' H' x1 (r.mono s q)
def Gnd {α:Type} (r:Rp α):Prop:=∀ {F F':Hp} {v:V} {a:α},r.rel F v a->r.rel F' v a
theorem gnd_int:Gnd rInt:=λh=>h
noncomputable def nil_:Hp:=λx=>none
noncomputable def rLn {α:Type} (r:Rp α):Rp (List α):=⟨λH v xs=>∃ p vs,v=.ref p/\H p=some (.lst vs)/\Paired (r.rel H) vs xs,λe zq=>oq23 zq λp vs h1 h2 h3=>(oi23 p vs h1 (e _ _ h2) (Paired.imp2 (λx x q=>r.mono e q) h3))⟩
noncomputable def rLd {α:Type} (r:Rp α):Rp (List α):=⟨λH v xs=>∃ p vs,v=.ref p/\H p=some (.lst vs)/\vs.Nodup/\Paired (r.rel H) vs xs,λe zq=>oq24 zq λp vs h1 h2 h0 h3=>(oi24 p vs h1 (e _ _ h2) h0 (Paired.imp2 (λx x q=>r.mono e q) h3))⟩
def Thg {α:Type} (r:Rp α):Prop:=∀ {H:Hp} {v:V} {a:α},r.rel H v a->∃ q u,v=.ref q/\H q=some u
theorem thg_ln {α:Type} {r:Rp α}:Thg (rLn r):=λzq=>oq23 zq λp vs h1 h2 x=>(oi22 p _ h1 h2)
def Le {α:Type} (r s:Rp α):Prop:=∀ {H:Hp} {v:V} {a:α},r.rel H v a->s.rel H v a
theorem le_ln {α:Type} {r s:Rp α} (h:Le r s):Le (rLn r) (rL s):=λzq=>oq23 zq λp vs h1 h2 h3=>⟨p,vs,h1,Rd.of h2,Paired.imp2 (λx x q=>h q) h3⟩
theorem le_ld {α:Type} {r s:Rp α} (h:Le r s):Le (rLd r) (rL s):=λzq=>oq24 zq λp vs h1 h2 x h3=>⟨p,vs,h1,Rd.of h2,Paired.imp2 (λx x q=>h q) h3⟩
theorem le_rfl {α:Type} {r:Rp α}:Le r r:=λh=>h
theorem ev_leR {α:Type} {Γ:List Slot} {t:TE} {o:Option α} {r s:Rp α} (l:Le r s) (h:EV Γ t o r):EV Γ t o s:=λC F σ H Q x S e k=>h C F σ H Q x S e λv F' H' x1 q=>k v F' H' x1 (l q)
section
variable {Γ:List Slot} {α β:Type} {r:Rp α} {rb:Rp β} {te:TE}
theorem evg_l {o:Option (List α)} (g:Gnd r) (h:EVL Γ te o r):EVG Γ te o (rLn r):=λC F σ H Q xs S e k=>h C F σ H Q xs S e λp vs F' H1 x1 hp pr=>by
 refine k (.ref p) (upd nil_ p (.lst vs)) (upd F' p (.lst vs)) _ (x1.trans (Ext.new x1.sub hp)) (λb u z=>?_) (λb u z=>?_) ⟨p,vs,rfl,ai,Paired.imp2 (λx x z=>g z) pr⟩
 ·by_cases e:b=p
  ·subst e; rw [ai] at z ⊢; exact z
  ·rw [am e] at z; cases z
 ·by_cases e:b=p
  ·subst e; exact x1.hh.free hp
  ·rw [am e] at z; cases z
noncomputable def un (A B:Hp):Hp:=λb=>match A b with | some u=>some u | none=>B b
theorem un_l {A B:Hp} {b:Addr} {u:HO} (h:A b=some u):un A B b=some u:=by unfold un; rw [h]
theorem un_r {A B:Hp} {b:Addr} (h:A b=none):un A B b=B b:=by unfold un; rw [h]
def CI (r:Rp α) (t:β->Option Bool) (f:β->Option α) (xs:List β) (H F' H1:Hp) (D:Addr) (i:Nat) (ys:List V) (H2:Hp):Prop:=∃ F1 G p N,H2=upd G D (.lst ys)/\G D=none/\Ext F' H1 F1 G/\Pu.bL t f (xs.take i)=some p/\Same N F1/\(∀ b u,N b=some u->H b=none)/\ys.Nodup/\Paired (r.rel N) ys p
theorem ci_no {F1 G:Hp} {D:Addr} {ys:List V} (F1D:F1 D=none) {A B:Hp} (x:Ext F1 (upd G D (.lst ys)) A B):A D=none:=by
 cases q:A D with
 | none=>rfl
 | some o =>
  rcases x.nw D o q with z | z
  ·rw [F1D] at z; cases z
  ·rw [ai] at z; cases z
theorem ci_fin {t:β->Option Bool} {f:β->Option α} {xs:List β} {H F' H1 F1 G A B M:Hp} {D:Addr} {i:Nat} {ys zs:List V} {pp:List α} (hD:H1 D=none) (hG:G D=none) (x2:Ext F' H1 F1 G) (x:Ext F1 (upd G D (.lst ys)) A B) (hpp:Pu.bL t f (xs.take i)=some pp) (sM:Same M A) (fM:∀ b u,M b=some u->H b=none) (nM:zs.Nodup) (pz:Paired (r.rel M) zs pp):CI r t f xs H F' H1 D i zs (upd B D (.lst zs)):=by
 refine (oi48 A (del B D) pp M ?_ cT ⟨kN (x2.hh.trans ((kL (o:=.lst ys) hG trivial).trans x.hh)) hD (x.hh.kp D (.lst ys) trivial ai) trivial,x2.ff.trans x.ff,λb o h=>?_,λb o h=>?_,λz=>x.nt (x2.nt z)⟩ hpp sM fM nM pz)
 ·funext b; unfold upd del; split <;> rfl
 ·rw [bR (al h (ci_no (x2.sub.free hG) x))]; exact x.sub b o h
 ·rcases x.nw b o h with z | z
  ·exact x2.nw b o z
  ·have n:b≠D:=by rintro rfl; rw [ai] at z; cases z
   rw [am n] at z; exact .inr (x2.hh.un z)
set_option tactic.hygienic true in
theorem rB {wi:TI} {loc:List Str} {cap:List (Str × Nat)} {g:TG} {tt:TT} {ox:Option (List β)} {t:β->Option Bool} {f:β->Option α} {m:Nat} {Γt:β->List Slot} (tr:Thg r) (hi:IV Γ wi ox rb) (hc:(cap.map (·.2)).Nodup) (hm:m<=loc.length) (hg:GV (csl loc cap Γ) m g rb Γt)
  (ht:∀ x,ET (Γt x) tt (t x)) (he:∀ x,EVG (Γt x) te (f x) r):EVG Γ (m9 wi loc cap g tt te) (ox.bind λxs=>Pu.bX t f xs) (rLd r):=by
 intro C F σ H Q as S e k
 refine oq12 (a9 e) λxs e1 e=>?_
 unfold Pu.bX at e
 split at e
 case isFalse=>cases e
 rename_i hl
 refine hi C F σ H _ xs S e1 λJ F' H1 x1 W D hD=>?_
 have sn:∀ j,j<m->(st0 loc cap σ)[j]?=some none:=λj hj=>by
  unfold st0
  rw [X4 (by simp; exact nz1 hj hm),Z7,Z6 (by exact nz1 hj hm)]
  rfl
 refine comp_it (n:=xs.length) (CI r t f xs H F' H1 D) (oi48 F' H1 ([]) nil_ rfl hD (Ext.refl x1.sub) (by rw [List.take_zero]; rfl) (λh h z=>nomatch z) (λh h z=>nomatch z) .nil .nil) ?_ ?_ ?_ ?_ ?_
 ·intro i ys H2 _ zq; refine oq42 zq λF1 G p N eq4_ h=>?_; subst eq4_; exact ai
 ·intro i ys H2 hi zq; refine oq44 zq λF1 G p N eq4_ hG x2 h=>?_; subst eq4_; exact W.go i _ (x2.ff.trans (x2.sub.trans (aF hG))) hi
 ·intro ys H2 zq; refine oq44 zq λF1 G p N eq4_ hG x2 h=>?_; subst eq4_; exact W.stop _ (x2.ff.trans (x2.sub.trans (aF hG)))
 ·intro i ys H2 x H' hi zq y; refine oq48 zq λF1 G p N eq4_ hG x2 hp sN fN nN pr=>?_; subst eq4_
  have sFH:=x2.sub.trans (aF (o:=.lst ys) hG)
  refine oq23 (W.yld i _ x H' F1 (x2.ff.trans sFH) hi y x2.ff sFH) λF2 a ha x3 ra=>?_
  have S3:SR C F2 (csl loc cap Γ) (st0 loc cap σ) H':=(((((S.grow x1).grow x2).comp hc).grow (Ext.newH x2.sub hG)).grow x3)
  refine oq24 (Pu.oV e ha) λp' b h1 h2 h3 h4=>?_
  rw [hp] at h1
  cases h1
  refine hg C F2 _ H' x a _ S3 ra λσ' S4 wk=>⟨wk sn,?_⟩
  refine ht a C F2 σ' H' _ b S4 h2 λF3 H3 x4=>?_
  cases b with
  | false =>
   have hB:H3 D=some (.lst ys):=(x3.trans x4).hh.kp D (.lst ys) trivial ai
   have eq:upd H3 D (.lst ys)=H3:=by
    funext b; unfold upd; split
    ·rename_i z; rw [z]; exact hB.symm
    ·rfl
   exact eq ▸ ci_fin hD hG x2 (x3.trans x4) (h4 rfl) (sN.trans (x3.ff.trans x4.ff)) fN nN pr
  | true =>
   refine oq12 (h3 rfl) λc h5 h6=>?_
   refine he a C F3 σ' H3 _ c (S4.grow x4) h5 λv Gi F4 H4 x5 si fi rv=>?_
   have x6:=(x3.trans x4).trans x5
   have disj:∀ b u,N b=some u->Gi b=none:=λb u z=>by
    cases q:Gi b with
    | none=>rfl
    | some w =>
     have:=(x3.trans x4).sub b u ((x3.trans x4).ff b u (sN b u z))
     rw [fi b w q] at this; cases this
   have sNi:Same N (un Gi N):=λb u z=>by rw [un_r (disj b u z)]; exact z
   have sGi:Same Gi (un Gi N):=λb u z=>un_l z
   have hfree:∀ b,H3 b=none->H b=none:=λb z=>by
    have z2:=(x3.trans x4).hh.free z
    have n:b≠D:=by rintro rfl; rw [ai] at z2; cases z2
    rw [am n] at z2
    exact x1.hh.free (x2.hh.free z2)
   refine (oi03 (x6.hh.kp D (.lst ys) trivial ai) ?_ (ci_fin (M:=un Gi N) hD hG x2 x6 h6 (λb u z=>?_) (λb u z=>?_) ?_ (Paired.app (Paired.imp2 (λh h z=>r.mono sNi z) pr) (.cons (r.mono sGi rv) .nil))))
   ·have:=Pu.mf hp
    rw [pr.length,X9]
    rw [R4] at this
    lia
   ·cases q:Gi b with
    | some w=>rw [un_l q] at z; cases z; exact si b _ q
    | none=>rw [un_r q] at z; exact x6.ff b u (sN b u z)
   ·cases q:Gi b with
    | some w=>exact hfree b (fi b w q)
    | none=>rw [un_r q] at z; exact fN b u z
   ·refine oq22 (tr rv) λq w eq2_ hq=>?_; subst eq2_
    rw [List.nodup_append]
    refine (oi03 nN (by simp) (λy hy z hz=>?_))
    rw [Y8.mp hz]
    rintro rfl
    refine oq11 (J4.mp hy) λj hj=>?_
    refine oq12 (gj pr hj) λc' h hc'=>?_
    refine oq22 (tr hc') λq' w' e9 hq'=>?_
    cases e9
    rw [disj q w' hq'] at hq; cases hq
 ·intro ys H2 zq; refine oq48 zq λF1 G p N eq4_ hG x2 hp sN fN nN pr=>?_; subst eq4_
  rw [P7,e] at hp
  cases hp
  have hDH:H D=none:=x1.hh.free hD
  have ND:N D=none:=by
   cases q:N D with
   | none=>rfl
   | some w=>have:=x2.sub D w (sN D w q); rw [hG] at this; cases this
  refine k (.ref D) (upd N D (.lst ys)) (upd F1 D (.lst ys)) _ ((x1.trans x2).trans (Ext.new x2.sub hG)) (λb u z=>?_) (λb u z=>?_) ⟨D,ys,rfl,ai,nN,Paired.imp2 (λh h z=>r.mono (aF ND) z) pr⟩
  ·by_cases e:b=D
   ·subst e; rw [ai] at z ⊢; exact z
   ·rw [am e] at z ⊢; exact sN b u z
  ·by_cases e:b=D
   ·subst e; exact hDH
   ·rw [am e] at z; exact fN b u z
theorem evg_comp {wi:TI} {loc:List Str} {cap:List (Str × Nat)} {g:TG} {ox:Option (List β)} {f:β->Option α} {m:Nat} {Γt:β->List Slot} (tr:Thg r) (hi:IV Γ wi ox rb) (hc:(cap.map (·.2)).Nodup) (hm:m<=loc.length) (hg:GV (csl loc cap Γ) m g rb Γt)
  (he:∀ x,EVG (Γt x) te (f x) r):EVG Γ (m9 wi loc cap g tTrue te) (ox.bind λxs=>Pu.comp f xs) (rLd r):=by
 have h:=rB (t:=λa=>some true) tr hi hc hm hg (λa=>et_true) he
 have e:(λxs=>Pu.bX (λa=>some true) f xs)=λxs=>Pu.comp f xs:=by
  funext xs; unfold Pu.bX Pu.comp; rw [Pu.oW]
 rw [e] at h; exact h
def spG {τ:Type} (ra:RpA τ) (r:Rp α) (f:τ->Option α):Sp:=λvs H Q x=>∃ F a c,Same F H/\NT F/\TbG H/\ra.rel F vs a/\f a=some c/\∀ v G F' H',Ext F H F' H'->Same G F'->(∀ b u,G b=some u->H b=none)->r.rel G v c->Q v H'
def finG (r:Rp α):Fc->α->Ends->Prop:=λC a D=>∀ v G F H,Fr C F H->Same G F->(∀ b u,G b=some u->C.H0 b=none)->r.rel G v a->D.rt v H
theorem bv_retG {o:Option α} (he:EVG Γ te o r):BV Γ (tRet te) o (finG r):=λC F σ H D x S e k=>he C F σ H _ x S e λv G F' H' x1 s1 f1 r1=>k v G F' H' (S.toFr.grow x1) s1 (λb u z=>S.keep.free (f1 b u z)) r1
end
end
end L2
namespace Pu
noncomputable def memO (a:Option Int) (xs:List (Option Int)):Bool:=decide (a∈xs)
theorem bcg {α β:Type} {o o':Option α} {f g:α->Option β} (e:o=o') (h:∀ a,f a=g a):o.bind f=o'.bind g:=by subst e; exact congrArg (Option.bind o) (funext h)
theorem scg {S β:Type} {f g:S->β->Option S} {l:List β} {s:S} (h:∀ s x,f s x=g s x):forS f l s=forS g l s:=congrArg (forS · l s) (funext λs=>funext λx=>h s x)
end Pu
namespace L2
section
open PySem PySem.Spec PyProof.Rows
variable [Kn:Kon]
noncomputable abbrev rNN:Rp (List (List Int)):=rLd (rLn rInt)
theorem rC {Γ:List Slot} {K:Z0} {ta tb:TE} {oa:Option (Option Int)} {o:Option (List (Option Int))} (h:EV Γ ta oa (rOp rInt)) (h':EV Γ tb o (rL (rOp rInt))):EV Γ (tOp (rIn K true) ta tb) (oa.bind λa=>o.bind λxs=>some (!Pu.memO a xs)) bJ:=by
 have e:=ev_notinL (K:=K) fe_op h h'
 have:(λ(a:Option Int)=>o.bind λxs=>some (!Pu.memO a xs))=λa=>o.bind λxs=>some (!@decide (a∈xs) (@List.instDecidableMemOfLawfulBEq _ instBEqOfDecidableEq _ a xs)):=by
  funext a; congr 1; funext xs; congr 2; exact decide_eq_decide.mpr Iff.rfl
 rw [this]; exact e
noncomputable def rH2 {α β:Type} (r:Rp α) (s:Rp β):Rp (α × β):=⟨λH v x=>∃ p a b,v=.ref p/\H p=some (.lst [a,b])/\r.rel H a x.1/\s.rel H b x.2,λe zq=>oq34 zq λp a b h1 h2 h3 h4=>(oi34 p a b h1 (e _ _ h2) (r.mono e h3) (s.mono e h4))⟩
section
variable {Γ:List Slot} {α β:Type} {r:Rp α} {s:Rp β} {ta tb:TE} {oa:Option α} {ob:Option β} {K:Z0}
theorem ev_h2_0 {o:Option (α × β)} (h:EV Γ ta o (rH2 r s)):EV Γ (tOp (rIxL K) ta (tC (.int 0))) (o.bind λx=>some x.1) r:=by
 intro C F σ H Q c S e k
 refine oq12 (a9 e) λx e1 e=>?_
 cases e
 refine h C F σ H _ x S e1 λv F' H' x1 zq=>oq34 zq λp a b e2 h1 h2 h3=>?_
 exact ⟨p,[a,b],0,a,e2,rfl,SqL.of (x1.sub _ _ h1),rfl,k a F' H' x1 h2⟩
theorem ev_lst2 (h:EV Γ ta oa r) (h':EV Γ tb ob s):EV Γ (tLst (bg ta (bg tb tNil))) (oa.bind λa=>ob.bind λb=>some (a,b)) (rH2 r s):=by
 intro C F σ H Q c S e k
 refine oq12 (a9 e) λa e1 e=>?_
 refine oq12 (a9 e) λb e2 e=>?_
 cases e
 refine h C F σ H _ a S e1 λv F' H' x1 r1=>h' C F' σ H' _ b (S.grow x1) e2 λw F2 H2 x2 r2=>⟨by rw [X9]; simp,λp hp=>?_⟩
 have x3:=Ext.new (o:=.lst [v,w]) x2.sub hp
 exact k (.ref p) _ _ ((x1.trans x2).trans x3) ⟨p,v,w,rfl,ai,r.mono (x2.ff.trans x3.ff) r1,s.mono x3.ff r2⟩
end
end
section
open PySem PySem.Spec PyProof.Rows
section
variable {α:Type}
theorem len1:∀ {us:List α},us.length=1->∃ a,us=[a]:=λh=>List.length_eq_one_iff.mp h
theorem len2 {us:List α} (h:us.length=2):∃ a1 a2,us=[a1,a2]:=by
 cases us with
 | nil=>cases h
 | cons a us =>
  refine oq11 (len1 (Nat.succ.inj h)) λa2 eq1_=>?_; subst eq1_
  exact (oi21 a a2 rfl)
theorem len3 {us:List α} (h:us.length=3):∃ a1 a2 a3,us=[a1,a2,a3]:=by
 cases us with
 | nil=>cases h
 | cons a us =>
  refine oq21 (len2 (Nat.succ.inj h)) λa2 a3 eq2_=>?_; subst eq2_
  exact (oi31 a a2 a3 rfl)
theorem len4 {us:List α} (h:us.length=4):∃ a1 a2 a3 a4,us=[a1,a2,a3,a4]:=by
 cases us with
 | nil=>cases h
 | cons a us =>
  refine oq31 (len3 (Nat.succ.inj h)) λa2 a3 a4 eq3_=>?_; subst eq3_
  exact (oi41 a a2 a3 a4 rfl)
theorem len5 {us:List α} (h:us.length=5):∃ a1 a2 a3 a4 a5,us=[a1,a2,a3,a4,a5]:=by
 cases us with
 | nil=>cases h
 | cons a us =>
  refine oq41 (len4 (Nat.succ.inj h)) λa2 a3 a4 a5 eq4_=>?_; subst eq4_
  exact (oi51 a a2 a3 a4 a5 rfl)
end
variable [Kn:Kon]
section
variable {τ:Type} {ra:RpA τ}
section
variable {P:X5} {w:World} {K:Z0} {mg:Str->Option Value} {base:Heap} {x:Str} {st:Stmt} {N ps:List Str} {k:Nat}
theorem av.pG {γ:Type} {r:Rp γ} {f:τ->Option γ} {n:Nat} (D:av K mg x st ps) (S:FnScope N ps (ae st)) (hl:∀ a,(ra.slots a).length=ps.length) (hn:N.length - ps.length=n)
  (h:fR P w K mg base x st N k λt=>∀ a,BV (ra.slots a++V1 n .any) t (f a) (finG r)):Has P w K mg base (k+1) x ps (spG ra r f):=by
 refine D.has S (λvs H Q E h=>?_) λfa cdv A outer s H vs Q E hr hsp=>?_
 ·refine oq35 h λF a c b b b h1 b=>?_; rw [(ra.ok h1).1,hl]
 ·refine oq12 (h fa cdv A outer s H E hr) λt h1 h2=>?_
  refine oq36 hsp λF a c sb nt tg hr' hf q=>?_
  refine (oi12 t h1 (h2 a _ F _ H _ c (SR.begin_ sb nt tg hr' (by rw [(ra.ok hr').1,hl]; exact hn)) hf ?_))
  exact λv G F' H' fr g1 g2 g3=>q v G F' H' ⟨fr.keep,fr.low,fr.sub,fr.base,λb=>fr.nt⟩ g1 g2 g3
end
section
variable {Γ:List Slot} {t:TA} {oτ:Option τ}
theorem pB {γ:Type} {q:Rp γ} {f:τ->Option γ} (h:EA Γ t oτ ra):EVG Γ (lY (spG ra q f) [] E0 t) (oτ.bind f) q:=by
 intro C F σ H Q c S e k
 refine oq12 (a9 e) λa e1 e=>?_
 exact h C F σ H _ a S e1 λvs F' H' x1 r1=>⟨F',a,c,x1.sub,x1.nt S.nt,x1.hh.tg S.tg,by rw [T2]; exact r1,e,λv G F2 H2 x2 sG fG r2=>k v G F2 H2 (x1.trans x2) sG (λb u z=>x1.hh.free (fG b u z)) r2⟩
end
end
end
section
open PySem PySem.Spec PyProof.Rows
noncomputable abbrev Rd_:=List (Int × Int)
noncomputable abbrev Dr_:=List (Int × Option Int)
variable [Kn:Kon]
end
section
open PySem PySem.Spec PyProof.Rows
variable [Kn:Kon]
section
variable {Γ:List Slot} {β:Type} {s:Rp β} {tb:TE} {ob:Option β}
theorem evg_borL {α:Type} {r:Rp α} {φ:Addr->Prop} {xs:List α} (i:Nat) (hi:Γ[i]?=some (.ol r φ xs)) (h:EVG (brw Γ i r xs) tb ob s):EVG Γ tb ob s:=by
 intro C F σ H Q b S e k
 refine oq23 (S.borrow hi) λp vs h1 h2 S'=>?_
 refine h C _ σ H Q b S' e λv G F' H' x1 sG fG r1=>?_
 refine oq02 (eX h1 h2 x1) λx2 h3=>k v G _ H' x2 (λb u z=>?_) fG r1
 rw [bR (λ(y:b=p)=>nomatch (y ▸ fG b u z).symm.trans h2)]
 exact sG b u z
end
end
open PySem PySem.Spec PyProof.Rows
def EntAt (h:Heap) (d:Addr) (es:Array P1) (ep:Nat):Prop:=∃ o,h.get? d=some o/\o.ExactDict/\o.data=.dict es ep
theorem EntAt.typeIs {s:Shared} {d:Addr} {es:Array P1} {ep:Nat} (x:EntAt s.heap d es ep):s.TypeIs (.ref d) "dict":=let ⟨o,a,b,_⟩:=x; ⟨o,a,b.1⟩
end L2
namespace Pu
section
variable {α β γ δ ε:Type} {oa:Option α} {ob:Option β} {oc:Option γ} {od:Option δ}
theorem as2 {F:α × β->Option ε}:(oa.bind λa=>ob.bind λb=>F (a,b))=(oa.bind λa=>ob.bind λb=>some (a,b)).bind F:=by cases oa <;> cases ob <;> rfl
theorem as3 {F:α × β × γ->Option ε}:(oa.bind λa=>ob.bind λb=>oc.bind λc=>F (a,b,c))=(oa.bind λa=>(ob.bind λb=>oc.bind λc=>some (b,c)).bind λb=>some (a,b)).bind F:=by cases oa <;> cases ob <;> cases oc <;> rfl
theorem as4 {F:α × β × γ × δ->Option ε}:(oa.bind λa=>ob.bind λb=>oc.bind λc=>od.bind λd=>F (a,b,c,d))=(oa.bind λa=>(ob.bind λb=>(oc.bind λc=>od.bind λd=>some (c,d)).bind λb'=>some (b,b')).bind λb=>some (a,b)).bind F:=by cases oa <;> cases ob <;> cases oc <;> cases od <;> rfl
end
end Pu
namespace L2
section
variable [Kn:Kon] {Γ:List Slot} {α:Type} {r:Rp α} {ta:TE}
theorem EVG.cast {o o':Option α} (h:EVG Γ ta o r) (e:o'=o):EVG Γ ta o' r:=e ▸ h
end
end L2
namespace Pf
open PySem L2
noncomputable def mixed (a:Int) (p_k:Int):Option Int :=
 ((((Pu.mul p_k p_k).bind λx1=>some (x1 * 2503)).bind λx2=>some (((a % 100000000000000000000) * 40503)+x2)).bind λx3=>some (x3+11)).bind λx4=>some (x4 % 2147483587)
noncomputable def dc (a:(Int × Int)) (b:Int) (c:Int):Option (List Int) :=
 (Pu.fdiv c a.2).bind λd=>(Pu.fmod c a.2).bind λe=>(some (if (decide (b=8))=true then 2 else 1)).bind λf=>(Pu.rng2 (Pu.mx 0 (d - 1)) (Pu.mn a.1 (d+2))).bind λx17=>(Pu.forS (λ(s9:(List Int)) (x8:Int)=>(Pu.rng2 (Pu.mx 0 (e - 1)) (Pu.mn a.2 (e+2))).bind λx16=>(Pu.forS (λ(s11:(List Int)) (x10:Int)=>if (decide (0<(Pu.ab (x8 - d))+(Pu.ab (x10 - e))) && decide ((Pu.ab (x8 - d))+(Pu.ab (x10 - e))<=f))=true then ((Pu.mul x8 a.2).bind λx12=>some (x12+x10)).bind λx15=>(Pu.app s11 x15).bind λg=>some (g) else some (s11)) x16 s9).bind λ(s11:(List Int))=>some (s11)) x17 ([])).bind λ(s9:(List Int))=>some (s9)
noncomputable def bp (a:List Int) (p_k:Int):Option Int :=
 if (decide (p_k<Pu.ln a))=true then Pu.at_ a p_k else some (0)
noncomputable def cI (a:Int) (p_k:Int) (b:Int):Option Int :=
 (Pf.mixed a p_k).bind λc=>if (decide (b=0))=true then some (c % 4) else if (decide (b=1))=true then some (c % 12) else if (decide (b=2))=true then some (a % (1000000000000000000+1)) else Pu.at_ ([c % 3,1000000000000000000 - (c % 3)]) ((c / 3) % 2)
noncomputable def folded (a:List Int) (b:Int):Option (List (List Int)) :=
 (Pu.rng3 0 (((Pu.ln a) - b)+1) b).bind λx2=>Pu.comp (λ(y1:Int)=>some (Pu.cut a (some y1) (some (y1+b)))) x2
noncomputable def floor (a:List Int) (b:Int):Option (List (List Int)) :=
 ((Pf.bp a b).bind λx1=>some (x1 % 5)).bind λc=>(Pu.comp (λ(y4:(Int × Int))=>Pf.cI y4.2 y4.1 (c % 4)) (Pu.enum (Pu.cut a (some (b+1)) (some (b+61))))).bind λd=>(if (decide (d=[]))=true then ((((Pf.bp a b).bind λx8=>some (x8 / 5)).bind λx9=>some (x9 % (1000000000000000000+1))).bind λx10=>some ([x10])).bind λe=>some (e) else some (d)).bind λs7=>((((Pf.bp a b).bind λx13=>some (x13 / 5)).bind λx14=>Pu.fmod x14 (Pu.mn 12 (Pu.ln s7))).bind λx15=>some (1+x15)).bind λf=>(if (decide (c=4))=true then (some (Pu.mx 1 (Pu.mn f ((Pu.ln s7) / 3)))).bind λg=>some (g) else some (f)).bind λs18=>Pf.folded s7 (Pu.mx s18 (0 - ((0 - (Pu.ln s7)) / 12)))
noncomputable def reach (a:List Int) (b:Int):Option Int :=
 (((Pf.bp a b).bind λx1=>Pf.mixed x1 7).bind λx2=>some (x2 % 2)).bind λx3=>Pu.at_ ([4,8]) x3
noncomputable def f6 (a:List (List Int)):Option (List Int) :=
 (Pu.forS (λ(s3:(List Int)) (x2:List Int)=>(Pu.cat s3 x2).bind λb=>some (b)) a ([])).bind λ(s3:(List Int))=>some (s3)
noncomputable def cP (a:List Int):Option (List Int) :=
 ((Pu.comp (λ(y1:(Int × Int))=>some ((y1.2,y1.1))) (Pu.enum a)).bind λx2=>Pu.sortP x2).bind λx4=>Pu.comp (λ(y3:(Int × Int))=>some (y3.2)) x4
noncomputable def places (a:List Int):Option (List Int) :=
 (Pu.comp (λ(y1:Int)=>some (0)) a).bind λb=>((Pf.cP a).bind λx4=>some (Pu.enum x4)).bind λx10=>(Pu.forS (λ(s6:(List Int)) (x5:(Int × Int))=>(ixN (s6).length x5.2).bind λj8=>(λc=>some (c)) ((s6).set j8 (x5.1))) x10 b).bind λ(s6:(List Int))=>some (s6)
noncomputable def next (a:(Int × Int)) (b:Int) (c:Int):Option (List Int) :=
 (some (a)).bind λt2=>(Pu.forS (λ(s5:(List Int)) (x4:Int)=>(Pu.forS (λ(s7:(List Int)) (x6:Int)=>((Pu.fdiv c t2.2).bind λx8=>some (x8+x4)).bind λd=>((Pu.fmod c t2.2).bind λx11=>some (x11+x6)).bind λe=>(some ((decide (0<=d) && decide (d<t2.1)) && (decide (0<=e) && decide (e<t2.2)))).bind λf=>if (f && ((decide (((Pu.ab x4)+(Pu.ab x6))=1)) || ((decide (b=8)) && (decide (((Pu.ab x4)+(Pu.ab x6))=2)))))=true then ((Pu.mul d t2.2).bind λx17=>some (x17+e)).bind λx20=>(Pu.app s7 x20).bind λg=>some (g) else some (s7)) ([-1,0,1]) s5).bind λ(s7:(List Int))=>some (s7)) ([-1,0,1]) ([])).bind λ(s5:(List Int))=>some (s5)
noncomputable def gp (a:List (List Int)) (b:Int):Option (List (List Int)) :=
 (((Pu.at_ a 0).bind λx1=>some (Pu.ln x1)).bind λx2=>some ((Pu.ln a,x2))).bind λc=>((Pu.mul c.1 c.2).bind λx5=>Pu.rng1 x5).bind λx7=>Pu.comp (λ(y6:Int)=>Pf.next c b y6) x7
noncomputable def size_of (a:List (List Int)):Option ((Int × Int)) :=
 (if (!a.isEmpty)=true then (Pu.at_ a 0).bind λx1=>some (Pu.ln x1) else some (0)).bind λb=>some ((Pu.ln a,b))
noncomputable def bF (a:List (List Int)) (b:Int):Option Int :=
 ((Pf.size_of a).bind λx1=>some (x1.2)).bind λc=>((Pu.fdiv b c).bind λx4=>Pu.at_ a x4).bind λx5=>(Pu.fmod b c).bind λx6=>Pu.at_ x5 x6
noncomputable def bZ (a:List (List Int)) (b:Int):Option ((Int × Int)) :=
 (Pf.bF a b).bind λx1=>some ((x1,b))
noncomputable def bO (a:List (List Int)) (b:Int) (c:Int):Option (Bool) :=
 (Pf.bZ a b).bind λx1=>(Pf.bZ a c).bind λx2=>some (Pu.lt2 x1 x2)
noncomputable def fz (a:List (List Int)) (b:Int) (c:Int) (d:Int):Option (List (Int × Option Int)) :=
 (Pf.size_of a).bind λe=>(Pu.whS (λ(s5:(List (Int × Option Int)) × (List Int))=>some (!s5.2.isEmpty)) (λ(s5:(List (Int × Option Int)) × (List Int))=>Pu.pop0 s5.2 λf g=>(Pf.dc e b f).bind λx18=>(Pu.forS (λ(s10:(List (Int × Option Int)) × (List Int)) (x9:Int)=>(if (!(Pu.find s10.1 x9).isSome)=true then (Pf.bO a d x9).bind λx11=>some (!x11) else some false).bind λx17=>if x17=true then if (s10.1).length<16777216 then (λh=>(Pu.app s10.2 x9).bind λi=>some ((h,i))) (Pu.put s10.1 x9 (some (f))) else none else some ((s10.1,s10.2))) x18 (s5.1,g)).bind λ(s10:(List (Int × Option Int)) × (List Int))=>some ((s10.1,s10.2))) 100000 ([(c,none)],[c])).bind λ(s5:(List (Int × Option Int)) × (List Int))=>some (s5.1)
noncomputable def cD (a:List (List Int)) (b:Int) (c:Int) (d:Int):Option (List Int) :=
 (Pf.bO a d c).bind λx2=>if x2=true then some ([]) else (Pf.fz a b c d).bind λx1=>Pu.sortI (x1.map (·.1))
noncomputable def de (a:List (List Int)):Option (List Int) :=
 (Pf.size_of a).bind λb=>(Pu.mul b.1 b.2).bind λx3=>Pu.lrng x3
noncomputable def bC (a:List (List Int)):Option (List Int) :=
 (Pf.de a).bind λx2=>Pu.sortK (λ(c1:Int)=>Pf.bZ a c1) x2
noncomputable def dv (a:List (List Int)):Option (List (Option Int)) :=
 (Pf.de a).bind λx1=>Pu.comp (λ(_y2:Int)=>some (none:Option Int)) x1
noncomputable def bj (a:Wa) (b:Int):Option (List Int) :=
 ((Pf.size_of a.1).bind λx1=>Pf.dc x1 a.2.1 b).bind λc=>Pu.bX (λ(y4:Int)=>(Pu.at_ a.2.2.1 y4).bind λx5=>some (x5.isSome)) (λ(y4:Int)=>(Pu.at_ a.2.2.1 y4).bind λx6=>x6) c
noncomputable def bG (a:List (List Int) × End_) (b:Int):Option Int :=
 (Pu.whS (λ(s2:Int)=>some ((Pu.find a.2 s2).isSome)) (λ(s2:Int)=>(((Pu.find a.2 s2).bind λx3=>some (x3.2)).bind λx5=>x5).bind λc=>some (c)) 100000 b).bind λ(s2:Int)=>some (s2)
noncomputable def cp (a:List (List Int)) (b:List Int):Option Int :=
 Pu.minK (λ(c1:Int)=>Pf.bZ a c1) b
noncomputable def bP (a:List (List Int) × End_) (b:List Int) (c:Int):Option (Int × End_) :=
 (Pu.comp (λ(y1:Int)=>Pf.bG a y1) b).bind λd=>(Pf.cp a.1 d).bind λe=>(Pu.forS (λ(s5:End_) (x4:Int)=>if (!decide (x4=e))=true then if s5.length<16777216 then some (Pu.put s5 x4 (some c,some e)) else none else some s5) d a.2).bind λs5=>some (e,s5)
noncomputable def bD (a:Wa) (b:Int):Option (List (Option Int) × End_) :=
 (Pf.bj a b).bind λc=>(if (!c.isEmpty)=true then Pf.bP (a.1,a.2.2.2) c b else some (b,a.2.2.2)).bind λx=>(ixN a.2.2.1.length b).bind λj=>some (a.2.2.1.set j (some x.1),x.2)
noncomputable def eN (a:List (List Int)) (b:Int) (d:List Int):Option (Wa) :=
 (Pf.dv a).bind λe=>(Pu.forS (λ(s3:List (Option Int) × End_) (x2:Int)=>(Pf.bD (a,b,s3.1,s3.2) x2).bind λc=>some (c.1,c.2)) d (e,[])).bind λs=>some (a,b,s.1,s.2)
noncomputable def cE (a:List (List Int) × End_) (b:List Int):Option (List ((Int × (Option Int) × (Option Int)))) :=
 Pu.comp (λ(y1:Int)=>some (((y1),((Pu.find a.2 y1).getD (none,none)).1,((Pu.find a.2 y1).getD (none,none)).2))) b
noncomputable def nE (a:List (List Int)) (b:Int):Option (List ((Int × (Option Int) × (Option Int)))) :=
 (Pf.bC a).bind λc=>(Pf.eN a b c).bind λd=>(Pu.bX (λ(y5:Int)=>(Pu.at_ d.2.2.1 y5).bind λx6=>some (decide (x6=some y5))) (λ(y5:Int)=>some (y5)) c).bind λx7=>Pf.cE (d.1,d.2.2.2) x7
noncomputable def k9 (a:List (List Int)) (b:Int) (c:Option Int):Option (Option Int) :=
 if (c.isNone)=true then some (none) else (((c).bind λx1=>Pf.bF a x1).bind λx2=>(Pf.bF a b).bind λx3=>some (x2 - x3)).bind λx4=>some (some (x4))
noncomputable def gq (a:List Int):Option (List Int) :=
 (Pu.comp (λ(y1:Int)=>some (0:Int)) a).bind λb=>((Pf.cP a).bind λx4=>some (Pu.enum x4)).bind λx10=>(Pu.forS (λ(s6:(List Int)) (x5:(Int × Int))=>(ixN (s6).length x5.2).bind λj8=>(λc=>some (c)) ((s6).set j8 (x5.1))) x10 b).bind λ(s6:(List Int))=>some (s6)
noncomputable def pC (a:List (List Int)) (b:Int):Option (List (Option Int)) :=
 ((Pf.bC a).bind λx1=>Pf.eN a b x1).bind λx2=>some (x2.2.2.1)
noncomputable def digits (a:Int) (b:Int) (c:Int):Option (List Int) :=
 (Pu.rng1 b).bind λx11=>(Pu.forS (λ(s3:Int × (List Int)) (x2:Int)=>(Pu.fmod s3.1 c).bind λx8=>(Pu.app s3.2 x8).bind λd=>(Pu.fdiv s3.1 c).bind λe=>some ((e,d))) x11 (a,[])).bind λ(s3:Int × (List Int))=>((Pu.mul b (Pu.ofb (decide (0<s3.1)))).bind λx9=>some ((some x9))).bind λx10=>some (Pu.cut s3.2 none x10)
noncomputable def gY (a:List Int) (b:Int):Option (List (List Int)) :=
 ((Pf.bp a b).bind λx1=>Pf.digits x1 62 (1000000000000000000+1)).bind λc=>if (!decide (c=[]))=true then (((Pu.at_ c 0).bind λx4=>some (x4 % 12)).bind λx5=>some (1+x5)).bind λd=>((((((((Pu.at_ c 1).bind λx8=>some (x8 % 12)).bind λx9=>some (1+x9)).bind λx10=>(Pu.fdiv 60 d).bind λx11=>some (Pu.mn x10 x11)).bind λx12=>Pu.mul d x12).bind λx13=>some (2+x13)).bind λx14=>some ((some x14))).bind λx15=>some (Pu.cut c (some 2) x15)).bind λx16=>Pf.folded x16 d else ((Pf.bp a b).bind λx17=>some (x17 % 5)).bind λe=>(Pu.comp (λ(y20:(Int × Int))=>Pf.cI y20.2 y20.1 (e % 4)) (Pu.enum (Pu.cut a (some (b+1)) (some (b+61))))).bind λf=>(if (decide (f=[]))=true then ((((Pf.bp a b).bind λx24=>some (x24 / 5)).bind λx25=>some (x25 % (1000000000000000000+1))).bind λx26=>some ([x26])).bind λg=>some (g) else some (f)).bind λs23=>((((Pf.bp a b).bind λx29=>some (x29 / 5)).bind λx30=>Pu.fmod x30 (Pu.mn 12 (Pu.ln s23))).bind λx31=>some (1+x31)).bind λh=>(if (decide (e=4))=true then (some (Pu.mx 1 (Pu.mn h ((Pu.ln s23) / 3)))).bind λi=>some (i) else some (h)).bind λs34=>Pf.folded s23 (Pu.mx s34 (0 - ((0 - (Pu.ln s23)) / 12)))
noncomputable def aH (a:List (List Int) × End_) (b:Option Int):Option (Option Int) :=
 (Pu.whS (λ(s2:(Option Int))=>some ((Pu.pw a.2 s2).isSome)) (λ(s2:(Option Int))=>(((s2).bind λx3=>Pu.find a.2 x3).bind λx4=>some (x4.2)).bind λc=>some (c)) 100000 b).bind λ(s2:(Option Int))=>some (s2)
noncomputable def bb (a:List (List Int) × End_) (b:List Int) (c:Int):Option (Int × End_) :=
 (Pu.comp (λ(y1:Int)=>(Pf.aH a (some y1)).bind λx=>x) b).bind λd=>(Pf.cp a.1 d).bind λe=>(Pu.forS (λ(s5:End_) (x4:Int)=>if (!decide (x4=e))=true then if s5.length<16777216 then some (Pu.put s5 x4 (some c,some e)) else none else some s5) d a.2).bind λs5=>some (e,s5)
noncomputable def bn (a:Wa) (b:Int):Option (List (Option Int) × End_) :=
 (Pf.bj a b).bind λc=>(if (!c.isEmpty)=true then Pf.bb (a.1,a.2.2.2) c b else some (b,a.2.2.2)).bind λx=>(ixN a.2.2.1.length b).bind λj=>some (a.2.2.1.set j (some x.1),x.2)
noncomputable def b7 (a:Wa) (b:Int):Option (Option Int) :=
 (Pu.at_ a.2.2.1 b).bind λx1=>Pf.aH (a.1,a.2.2.2) x1
noncomputable def cx (a:List (List Int)) (d:Int) (e:Int) (f:Int):Option (Option Int) :=
 (Pf.dv a).bind λg=>(Pf.bC a).bind λxs=>Pu.andThen (Pu.forC (λ(s3:List (Option Int) × End_) (x2:Int)=>(Pf.bn (a,d,s3.1,s3.2) x2).bind λc=>(Pf.b7 (a,d,c.1,c.2) e).bind λst=>(if st.isSome=true then (Pf.b7 (a,d,c.1,c.2) f).bind λo=>some (decide (st=o)) else some false).bind λb=>if b=true then some (.rt (some x2)) else some (.nx (c.1,c.2))) xs (g,[])) (λh=>some none) (λx=>x)
noncomputable def gZ (a:List (List Int)) (b:Int) (c:Int) (d:Int) (e:Int):Option (List Int) :=
 (Pf.fz a b d e).bind λf=>(Pu.whS (λ(s4:(List Int))=>(Pu.at_ s4 (-1)).bind λx5=>some (!decide (x5=d))) (λ(s4:(List Int))=>(((Pu.at_ s4 (-1)).bind λx6=>Pu.find f x6).bind λx7=>x7).bind λx10=>(Pu.app s4 x10).bind λg=>some (g)) 100000 ([c])).bind λ(s4:(List Int))=>some (s4)
noncomputable def aK (a:List (List Int)) (b:Int) (c:Int) (d:Int):Option (List Int) :=
 ((Pf.bO a c d).bind λx1=>some (!x1)).bind λx7=>if x7=true then some ([]) else (Pf.bC a).bind λe=>(((Pu.index e d).bind λx4=>some (x4 - 1)).bind λx5=>Pu.at_ e x5).bind λx6=>Pf.cD a b c x6
noncomputable def cy (a:List (List Int)) (b:Int) (c:Int) (d:Int):Option ((Int × (List Int) × (List Int))) :=
 ((Pf.cx a b c d).bind λx2=>x2).bind λe=>(Pf.gZ a b c d e).bind λf=>(Pf.aK a b c e).bind λx6=>some ((e,f,x6))
noncomputable def cX (a:List (List Int)) (b:Int) (d:List Int):Option (Wa) :=
 (Pf.dv a).bind λe=>(Pu.forS (λ(s3:List (Option Int) × End_) (x2:Int)=>(Pf.bn (a,b,s3.1,s3.2) x2).bind λc=>some (c.1,c.2)) d (e,[])).bind λs=>some (a,b,s.1,s.2)
noncomputable def df (a:List (List Int)) (b:Int):Option (List ((Int × (Option Int) × (Option Int)))) :=
 (Pf.bC a).bind λc=>(Pf.cX a b c).bind λd=>(Pu.bX (λ(y5:Int)=>(Pu.at_ d.2.2.1 y5).bind λx6=>some (decide (x6=some y5))) (λ(y5:Int)=>some (y5)) c).bind λx7=>Pf.cE (d.1,d.2.2.2) x7
noncomputable def ik (a:List (Option Int)) (b:List Int):Option (Option Int) :=
 (Pu.at_ a 0).bind λc=>(Pu.forS (λ(s4:(Option Int)) (x3:Option Int)=>(((x3).bind λx5=>Pu.at_ b x5).bind λx7=>((s4).bind λx6=>Pu.at_ b x6).bind λx8=>some (decide (x7<x8))).bind λx10=>if x10=true then some (x3) else some (s4)) a c).bind λ(s4:(Option Int))=>some (s4)
noncomputable def pE (a:List Int) (b:List Int) (c:List (List Int)):Option (((List ((Int × (Option Int) × (Option Int)))) × (List (Option Int)))) :=
 (Pu.comp (λ(y1:Int)=>some (none)) b).bind λd=>(Pu.comp (λ(y4:Int)=>some (none)) b).bind λe=>(Pu.forS (λ(s9:(List (Option Int)) × (List (Option Int)) × (List (Int × ((Option Int) × (Option Int))))) (x8:Int)=>(Pu.at_ c x8).bind λx48=>(Pu.forS (λ(s12:(List (Option Int))) (x11:Int)=>(((Pu.at_ a x11).bind λx13=>(Pu.at_ a x8).bind λx14=>some (decide (x13<x14))).bind λx16=>if x16=true then (Pu.at_ s9.1 x11).bind λx15=>some (!Pu.memO x15 s12) else some false).bind λx20=>if x20=true then (Pu.at_ s9.1 x11).bind λx19=>(Pu.app s12 x19).bind λf=>some (f) else some (s12)) x48 ([])).bind λ(s12:(List (Option Int)))=>(ixN (s9.1).length x8).bind λj22=>(λg=>(if (!decide (s12=[]))=true then (Pf.ik s12 a).bind λx28=>(ixN (g).length x8).bind λj26=>(λh=>some (h)) ((g).set j26 (x28)) else some (g)).bind λs24=>(Pu.at_ s24 x8).bind λx47=>(ixN (s9.2.1).length x8).bind λj30=>(λi=>(Pu.forS (λ(s33:(List (Option Int)) × (List (Int × ((Option Int) × (Option Int))))) (x32:Option Int)=>((Pu.at_ s33.1 x8).bind λx34=>some (!decide (x32=x34))).bind λx46=>if x46=true then ((Pu.at_ s33.1 x8).bind λx35=>some ((some (x8),x35))).bind λx44=>(x32).bind λx45=>if (s33.2).length<16777216 then (λj=>(Pu.comp (λ(y39:Option Int)=>((Pu.at_ s33.1 x8).bind λx40=>some ([y39,x40])).bind λx41=>Pu.at_ x41 (Pu.ofb (decide (y39=x32)))) s33.1).bind λk=>some ((k,j))) (Pu.put s33.2 x45 (x44)) else none else some ((s33.1,s33.2))) s12 (s24,s9.2.2)).bind λ(s33:(List (Option Int)) × (List (Int × ((Option Int) × (Option Int)))))=>some ((s33.1,i,s33.2))) ((s9.2.1).set j30 (x47))) ((s9.1).set j22 (some (x8)))) b (d,e,[])).bind λ(s9:(List (Option Int)) × (List (Option Int)) × (List (Int × ((Option Int) × (Option Int)))))=>(Pu.bX (λ(y49:Int)=>(Pu.at_ s9.2.1 y49).bind λx50=>some (decide (x50=some y49))) (λ(y49:Int)=>some (((y49),((Pu.find s9.2.2 y49).getD (none,none)).1,((Pu.find s9.2.2 y49).getD (none,none)).2))) b).bind λl=>some ((l,s9.2.1))
noncomputable def bQ (a:List (List Int)):Option (List Int) :=
 (Pf.de a).bind λx2=>Pu.comp (λ(y1:Int)=>Pf.bF a y1) x2
noncomputable def gr (a:(Int × Int)) (b:List Int):Option (List (List Int)) :=
 (Pu.rng1 a.1).bind λx7=>Pu.comp (λ(y2:Int)=>((Pu.mul y2 a.2).bind λx3=>some ((some x3))).bind λx5=>((Pu.mul (y2+1) a.2).bind λx4=>some ((some x4))).bind λx6=>some (Pu.cut b x5 x6)) x7
noncomputable def gs (a:Int) (b:List ((Int × (Option Int)))) (c:List Int):Option Int :=
 if (decide ((a % 5)=0))=true then some (1+((a / 5) % 4)) else if (decide ((a % 5)=1))=true then some (1+((a / 5) % 12)) else if (decide ((a % 5)=2))=true then some (1+((a / 5) % 1000000000000000000)) else ((Pu.fmod (a / 5) (Pu.ln b)).bind λx1=>Pu.at_ b x1).bind λt3=>if (t3.2.isNone)=true then some (1000000000000000000) else (((((t3.2).bind λx4=>(Pu.at_ c t3.1).bind λx5=>some (x4 - x5)).bind λx6=>some (x6+(a % 5))).bind λx7=>some (x7 - 3)).bind λx8=>some (Pu.mn 1000000000000000000 x8)).bind λx9=>some (Pu.mx 1 x9)
noncomputable def dG (a:List (List Int)) (b:Int) (c:Int):Option (List ((Int × (Option Int)))) :=
 (Pf.f6 a).bind λd=>(((Pf.gq d).bind λx3=>(Pf.cP d).bind λx4=>(Pf.gp a b).bind λx5=>Pf.pE x3 x4 x5).bind λx6=>some (x6.1)).bind λe=>(Pu.forS (λ(s11:(List ((Int × (Option Int))))) (x10:(Int × (Option Int) × (Option Int)))=>if (x10.2.1.isNone)=true then (Pu.app s11 (x10.1,none)).bind λf=>some (f) else ((((x10.2.1).bind λx14=>Pu.at_ d x14).bind λx15=>(Pu.at_ d x10.1).bind λx16=>some (x15 - x16)).bind λx17=>some (decide (c<=x17))).bind λx24=>if x24=true then ((((x10.2.1).bind λx18=>Pu.at_ d x18).bind λx19=>some (some (x19))).bind λx20=>some ((x10.1,x20))).bind λx23=>(Pu.app s11 x23).bind λg=>some (g) else some (s11)) e ([])).bind λ(s11:(List ((Int × (Option Int)))))=>some (s11)
noncomputable def cF (a:List (List Int)) (b:Int) (c:Int):Option (List ((Int × (Option Int)))) :=
 ((Pf.df a b).bind λx2=>Pu.bX (λ(y1:(Int × (Option Int) × (Option Int)))=>some (y1.2.1.isSome)) (λ(y1:(Int × (Option Int) × (Option Int)))=>some ((y1.1,y1.2.1))) x2).bind λd=>Pu.bX (λ(y5:(Int × (Option Int)))=>((Pf.k9 a y5.1 y5.2).bind λx6=>x6).bind λx7=>some (decide (x7<c))) (λ(y5:(Int × (Option Int)))=>some ((y5.1,y5.2))) d
noncomputable def dg (a:List (List Int)) (b:Int) (c:Int):Option (List (List Int)) :=
 (Pf.bQ a).bind λd=>(Pf.cF a b c).bind λx17=>(Pu.forS (λ(s4:(List Int)) (x3:(Int × (Option Int)))=>((x3.2).bind λx5=>Pf.aK a b x3.1 x5).bind λx15=>(Pu.forS (λ(s7:(List Int)) (x6:Int)=>((Pu.at_ s7 x6).bind λx9=>((x3.2).bind λx8=>Pf.bF a x8).bind λx10=>some (Pu.mx x9 x10)).bind λx14=>(ixN (s7).length x6).bind λj12=>(λe=>some (e)) ((s7).set j12 (x14))) x15 s4).bind λ(s7:(List Int))=>some (s7)) x17 d).bind λ(s4:(List Int))=>(Pf.size_of a).bind λx16=>Pf.gr x16 s4
noncomputable def iM (a:List Int):Option (Bool) :=
 (Pf.gY a 3).bind λb=>(Pf.reach a 0).bind λc=>(Pf.f6 b).bind λd=>((Pf.bp a 1).bind λx7=>(Pf.dG b c 0).bind λx8=>Pf.gs x7 x8 d).bind λe=>(Pf.dg b c e).bind λf=>(Pf.f6 f).bind λg=>if (!decide ((Pu.ln g)=(Pu.ln d)))=true then some (false) else ((Pf.dG f c 1).bind λx15=>(Pf.dG b c e).bind λx16=>some (!decide (x15=x16))).bind λx54=>if x54=true then some (false) else ((Pu.rng1 (Pu.ln d)).bind λx20=>Pu.bX (λ(y17:Int)=>(Pu.at_ g y17).bind λx18=>(Pu.at_ d y17).bind λx19=>some (decide (x18=x19))) (λ(y17:Int)=>some (y17)) x20).bind λh=>(Pu.rng1 4).bind λx53=>Pu.andThen (Pu.forC (λ(s24:Unit) (x23:Int)=>((((Pf.bp a 2).bind λx25=>Pf.mixed x25 x23).bind λx26=>Pu.fmod x26 (Pu.ln h)).bind λx27=>Pu.at_ h x27).bind λi=>((((Pf.bp a 2).bind λx30=>Pf.mixed x30 (x23+9)).bind λx31=>Pu.fmod x31 (Pu.ln h)).bind λx32=>Pu.at_ h x32).bind λj=>(if (decide (x23=0))=true then (((Pf.bp a 2).bind λx36=>Pu.fmod x36 (Pu.ln h)).bind λx37=>Pu.at_ h x37).bind λk=>((((Pf.bp a 2).bind λx40=>Pu.fdiv x40 (Pu.ln h)).bind λx41=>Pu.fmod x41 (Pu.ln h)).bind λx42=>Pu.at_ h x42).bind λl=>some ((k,l)) else some ((i,j))).bind λs35=>(((Pf.cy f c s35.1 s35.2).bind λx45=>some (x45.1)).bind λx46=>Pu.at_ g x46).bind λm=>((((Pf.cy b c s35.1 s35.2).bind λx49=>some (x49.1)).bind λx50=>Pu.at_ d x50).bind λx51=>some (!decide (m=x51))).bind λx52=>if x52=true then some (.rt (false)) else some (.nx ())) x53 ()) (λ(s24:Unit)=>some (true)) (λx=>x)
end Pf
namespace Pu
section
variable {S R T β α:Type}
theorem gu {f:S->β->Option S} (I:Nat->S->Prop):∀ {xs:List β} {s:S},I 0 s->(∀ i x s,xs[i]?=some x->I i s->∃ s',f s x=some s'/\I (i+1) s')->∃ s',forS f xs s=some s'/\I xs.length s':=by
 intro xs
 induction xs generalizing I with
 | nil=>exact λh0 a=>oi12 _ rfl h0
 | cons x xs ih =>
  intro s h0 h
  exact oq12 (h 0 x s rfl h0) λs1 e1 h1=>oq12 (ih (λi=>I (i+1)) (s:=s1) h1 λi y t hy ht=>h (i+1) y t hy ht) λs2 e2 h2=>(oi12 s2 (by rw [gQ,e1]; exact e2) h2)
theorem forC_inv {f:S->β->Option (Ctl S R)} (I:Nat->S->Prop):∀ {xs:List β} {s:S},I 0 s->(∀ i x s,xs[i]?=some x->I i s->∃ s',f s x=some (.nx s')/\I (i+1) s')->∃ s',forC f xs s=some (.nx s')/\I xs.length s':=by
 intro xs
 induction xs generalizing I with
 | nil=>exact λh0 a=>oi12 _ rfl h0
 | cons x xs ih =>
  intro s h0 h
  exact oq12 (h 0 x s rfl h0) λs1 e1 h1=>oq12 (ih (λi=>I (i+1)) (s:=s1) h1 λi y t hy ht=>h (i+1) y t hy ht) λs2 e2 h2=>(oi12 s2 (by rw [ji,e1]; exact e2) h2)
theorem forC_unit {f:Unit->β->Option (Ctl Unit R)} {xs:List β} (h:∀ x∈xs,f () x=some (.nx ())):forC f xs ()=some (.nx ()):=by
 refine oq12 (forC_inv (f:=f) (λa a=>True) (xs:=xs) (s:=()) trivial λi x s hx a=>(oi12 () (h x (W6 hx)) trivial)) λs' e a=>?_
 exact e
theorem rE {k:S->Option T} {e:R->T} {o:Option (Ctl S R)} {s:S} (h:o=some (.nx s)):andThen o k e=k s:=by subst h; rfl
theorem nF {f:Unit->β->Option (Ctl Unit R)} {xs:List β} {k:Unit->Option T} {e:R->T} (h:∀ x∈xs,f () x=some (.nx ())):andThen (forC f xs ()) k e=k ():=rE (forC_unit h)
theorem hE {f:S->β->Option S} {k:S->Option T} {o:Option T} (I:Nat->S->Prop) {xs:List β} {s:S} (h0:I 0 s) (h:∀ i x s,xs[i]?=some x->I i s->∃ s',f s x=some s'/\I (i+1) s') (hk:∀ s',I xs.length s'->k s'=o):(forS f xs s).bind k=o:=by
 refine oq12 (gu I h0 h) λs' e q=>?_
 rw [e]; exact hk s' q
theorem whS_inv {t:S->Option Bool} {f:S->Option S} (I:S->Prop) (μ:S->Nat) (h:∀ s,I s->∃ b,t s=some b/\(b=true->∃ s',f s=some s'/\I s'/\μ s'<μ s)):∀ {n:Nat} {s:S},I s->μ s<n->∃ s',whS t f n s=some s'/\I s'/\t s'=some false:=by
 intro n
 induction n with
 | zero=>exact λx hn=>absurd hn (N7 _)
 | succ n ih =>
  intro s hI hn
  refine oq12 (h s hI) λb e1 e2=>?_
  cases b with
  | false=>exact (oi13 s (by rw [oS,e1]; rfl) hI e1)
  | true =>
   refine oq13 (e2 rfl) λs1 e3 h1 h2=>?_
   refine oq13 (ih h1 (nz1 h2 (T4 hn))) λs2 e4 h3 h4=>?_
   exact (oi13 s2 (by rw [oS,e1,nza,if_pos rfl,e3]; exact e4) h3 h4)
theorem whS_then {t:S->Option Bool} {f:S->Option S} {k:S->Option T} {o:Option T} (I:S->Prop) (μ:S->Nat) {n:Nat} {s:S} (h0:I s) (hn:μ s<n) (h:∀ s,I s->∃ b,t s=some b/\(b=true->∃ s',f s=some s'/\I s'/\μ s'<μ s)) (hk:∀ s',I s'->t s'=some false->k s'=o):(whS t f n s).bind k=o:=by
 refine oq13 (whS_inv I μ h h0 hn) λs' e h1 h2=>?_
 rw [e]; exact hk s' h1 h2
theorem whS_ex {t:S->Option Bool} {f:S->Option S} {k:S->Option T} {P:T->Prop} (I:S->Prop) (μ:S->Nat) {n:Nat} {s:S} (h0:I s) (hn:μ s<n) (h:∀ s,I s->∃ b,t s=some b/\(b=true->∃ s',f s=some s'/\I s'/\μ s'<μ s)) (hk:∀ s',I s'->t s'=some false->∃ o,k s'=some o/\P o):∃ o,(whS t f n s).bind k=some o/\P o:=by
 refine oq13 (whS_inv I μ h h0 hn) λs' e h1 h2=>?_
 rw [e]; exact hk s' h1 h2
theorem iN {f:S->β->Option S} {k:S->Option T} {P:T->Prop} (I:Nat->S->Prop) {xs:List β} {s:S} (h0:I 0 s) (h:∀ i x s,xs[i]?=some x->I i s->∃ s',f s x=some s'/\I (i+1) s') (hk:∀ s',I xs.length s'->∃ o,k s'=some o/\P o):∃ o,(forS f xs s).bind k=some o/\P o:=by
 refine oq12 (gu I h0 h) λs' e q=>?_
 rw [e]; exact hk s' q
theorem gv (n:Nat):(nats n).length=n:=by unfold nats; simp
theorem iO {n:Nat} {x:Int}:x∈nats n↔∃ i:Nat,i<n/\x=(i:Int):=by
 unfold nats
 simp only [W7,Q2]
 constructor
 ·intro zq; refine oq12 zq λi h eq2_=>?_; subst eq2_; exact (oi12 i h rfl)
 ·intro zq; refine oq12 zq λi h eq2_=>?_; subst eq2_; exact (oi12 i h rfl)
theorem gw {n:Nat} (h:n<=1000000):rng1 (n:Int)=some (nats n):=by
 unfold rng1
 rw [if_pos ⟨by lia,by lia⟩,X0]
theorem rng2_ok {i j:Int} (h1:-1000000<=i) (h2:i<=1000000) (h3:-1000000<=j) (h4:j<=1000000):rng2 i j=some ((Z9 (j - i).toNat).map λ(k:Nat)=>i+(k:Int)):=by
 unfold rng2
 rw [if_pos (oi04 (by lia) (by lia) (by lia) (by lia))]
theorem gz {xs:List α} {a:α} (h:xs.length<=1000000):app xs a=some (xs++[a]):=by
 unfold app
 rw [if_pos (by exact nz2 h (by decide))]
theorem cat_ok {xs ys:List α} (h:xs.length+ys.length<=1000000):cat xs ys=some (xs++ys):=by
 unfold cat
 rw [if_pos (by exact nz5 (nz2 h (by decide)))]
theorem kX {i j:Int} (h:-(2 ^ 64)<i/\i<2 ^ 64):mul i j=some (i * j):=by
 unfold mul
 rw [if_pos (.inl h)]
theorem ke {i j:Int} (h:-(2 ^ 64)<j/\j<2 ^ 64):mul i j=some (i * j):=by
 unfold mul
 rw [if_pos (.inr h)]
theorem hJ {i j:Int} (h:0<j/\j<2 ^ 64):fdiv i j=some (i / j):=by
 unfold fdiv
 rw [if_pos h]
theorem fU {i j:Int} (h:0<j):fmod i j=some (i % j):=by
 unfold fmod
 rw [if_pos h]
theorem cj {f:β->Option α} {g:β->α} {xs:List β} (hl:xs.length<=1000000) (h:∀ x∈xs,f x=some (g x)):comp f xs=some (xs.map g):=by
 unfold comp
 rw [if_pos (by exact nz5 (nz2 hl (by decide)))]
 clear hl
 induction xs with
 | nil=>rfl
 | cons x xs ih =>
  rw [qP,h x (Z8.mpr (.inl rfl)),nza,ih λy hy=>h y (Z8.mpr (.inr hy))]
  rfl
theorem eB {t:β->Option Bool} {f:β->Option α} {p:β->Bool} {g:β->α} {xs:List β} (hl:xs.length<=1000000) (ht:∀ x∈xs,t x=some (p x)) (h:∀ x∈xs,p x=true->f x=some (g x)):bX t f xs=some ((xs.filter p).map g):=by
 unfold bX
 rw [if_pos (by exact nz5 (nz2 hl (by decide)))]
 clear hl
 induction xs with
 | nil=>rfl
 | cons x xs ih =>
  rw [bL,ht x (Z8.mpr (.inl rfl)),nza,ih (λy hy=>ht y (Z8.mpr (.inr hy))) λy hy=>h y (Z8.mpr (.inr hy))]
  cases q:p x with
  | false=>rw [if_neg Z2,D2 (by simp [q])]
  | true =>
   rw [if_pos rfl,h x (Z8.mpr (.inl rfl)) q,D3 q]
   rfl
theorem aP {xs:List α} {i:Nat}:at_ xs (i:Int)=xs[i]?:=by
 unfold at_ L2.atI L2.ixN
 rw [if_pos (by exact O7.mpr (V5 _))]
 by_cases h:i<xs.length
 ·rw [if_pos (by exact U5.mpr h)]; simp
 ·rw [if_neg (by exact G2.mpr (O7.mpr (X8.mp h)))]; simp; exact X8.mp h
theorem pF {xs:List α} {i:Nat} {x:Int × α} (h:(enum xs)[i]?=some x):∃ a,xs[i]?=some a/\x=((i:Int),a):=by
 unfold enum at h
 rw [Z7,A2] at h
 cases q:xs[i]? with
 | none=>rw [q] at h; cases h
 | some a=>rw [q] at h; simp at h; exact (oi12 a rfl h.symm)
theorem enum_mem {xs:List α} {x:Int × α} (h:x∈enum xs):∃ (i:Nat) (a:α),xs[i]?=some a/\x=((i:Int),a):=by
 refine oq11 (J4.mp h) λi hi=>?_
 refine oq12 (pF hi) λa h1 h2=>?_
 exact (oi22 i a h1 h2)
theorem kY (xs:List α):(enum xs).length=xs.length:=by unfold enum; simp
theorem cut_to {xs:List α} {j:Nat}:cut xs none (some (j:Int))=xs.take j:=by
 unfold cut
 rw [HT.sIx_none,HT.mQ,List.drop_zero,Nat.sub_zero]
 by_cases h:j<=xs.length
 ·rw [Nat.min_eq_left h]
 ·rw [Nat.min_eq_right (by exact nz5 (B0.mp h)),K1 (nz6 _),K1 (by exact nz5 (B0.mp h))]
theorem kf {xs:List α} {i j:Nat}:cut xs (some (i:Int)) (some (j:Int))=(xs.drop i).take (j - i):=by
 unfold cut
 rw [HT.mQ,HT.mQ]
 by_cases h:i<=xs.length
 ·rw [Nat.min_eq_left h]
  by_cases h2:j<=xs.length
  ·rw [Nat.min_eq_left h2]
  ·rw [Nat.min_eq_right (by exact nz5 (B0.mp h2)),K1 (by simp),K1 (by simp; omega)]
 ·rw [Nat.min_eq_right (a:=i) (by exact nz5 (B0.mp h)),List.drop_of_length_le (nz6 _),List.drop_of_length_le (by exact nz5 (B0.mp h))]
  simp
end
end Pu
namespace Fl
noncomputable abbrev cl (l:List Nat):List Int:=l.map λ(o:Nat)=>(o:Int)
theorem ba (l:List Nat):(cl l).length=l.length:=by simp
theorem gA {l:List Nat} {x:Int}:x∈cl l↔∃ o,o∈l/\x=(o:Int):=by
 simp only [W7]
 constructor
 ·intro zq; refine oq12 zq λo h eq2_=>?_; subst eq2_; exact (oi12 o h rfl)
 ·intro zq; refine oq12 zq λo h eq2_=>?_; subst eq2_; exact (oi12 o h rfl)
theorem fV {l:List Nat} {x:Nat}:(x:Int)∈cl l↔x∈l:=by
 rw [gA]
 constructor
 ·intro zq; refine oq12 zq λo h e=>?_
  have:x=o:=by lia
  rw [this]; exact h
 ·exact λh=>(oi12 x h rfl)
theorem rG (a b:Int):Pu.ab (a - b)=dif a b:=rfl
end Fl
namespace Pf
open Fl Pu
theorem iP {n k:Int} (h1:-(2 ^ 31)<k) (h2:k<2 ^ 31):Pf.mixed n k=some (Fl.mixed n k):=by
 unfold Pf.mixed
 rw [kX ⟨by lia,by lia⟩]
 rfl
theorem pH {i j:Nat} (hi:i<=1000) (hj:j<=1000):rng2 (i:Int) (j:Int)=some ((Z9 (j - i)).map λ(k:Nat)=>((i+k:Nat):Int)):=by
 rw [rng2_ok (by lia) (by exact O7.mpr (nz5 (nz2 hi (by decide)))) (by lia) (by exact O7.mpr (nz5 (nz2 hj (by decide)))),Int.toNat_sub]
 simp only [E4]
theorem mx_dn (R:Nat):Pu.mx 0 ((R:Int) - 1)=((R - 1:Nat):Int):=by unfold Pu.mx; split <;> omega
theorem mn_up (m R:Nat):Pu.mn (m:Int) ((R:Int)+2)=((min m (R+2):Nat):Int):=by unfold Pu.mn; split <;> lia
theorem pJ {a b:Nat} (h1:a<=b+1) (h2:b<=a+1):0<=dif a b/\dif a b<=1:=by unfold dif; split <;> lia
theorem near_iff {p q ms reach:Int} (b1:0<=p/\p<=1) (b2:0<=q/\q<=1) (e:ms=(if reach=8 then 2 else 1)):(p+q=1\/(reach=8/\p=1/\q=1))↔(0<p+q/\p+q<=ms):=by
 subst e; split <;> lia
theorem rng_get {α:Type} {f:Nat->α} {n j:Nat} {y:α} (h:((Z9 n).map f)[j]?=some y):j<n/\y=f j:=by
 rw [Z7] at h
 refine oq12 (V2.mp h) λk hk eq2_=>?_; subst eq2_
 obtain ⟨h1,h2⟩:=Z1.mp hk
 rw [V8] at h1
 rw [List.getElem_range] at h2
 exact ⟨h1,by rw [h2]⟩
theorem pK {R m:Nat} (h:R<m):R - 1+(min m (R+2) - (R - 1))=min m (R+2):=Nat.add_sub_cancel' (Nat.le_min.mpr ⟨nz4 (T8 _ _) (nz5 h),nz4 (T8 _ _) (S7 _ _)⟩)
theorem span_at {R m i:Nat} (h:i<min m (R+2) - (R - 1)):R - 1+i<m/\R - 1+i<=R+1/\R<=R - 1+i+1 :=
 have q:=Nat.lt_min.mp (Nat.add_lt_of_lt_sub' h)
 ⟨q.1,T4 q.2,Nat.le_add_of_sub_le (S7 _ _)⟩
theorem pN {R m v:Nat} (h:min m (R+2)<=v) (h2:v<m):R+1<v:=by lia
theorem i7 {m c x:Nat} {reach:Int} (hc0:0<c) (hcm:c<=1000) (hmm:m<=1000) (hx:x<m * c):Pf.dc ((m:Int),(c:Int)) reach (x:Int)=some (cl (nbL m c reach x)):=by
 have hxr:x / c<m:=A4 (by rw [L9]; exact hx)
 have hxc:x % c<c:=Nat.mod_lt _ hc0
 have d1:((x:Nat):Int) / ((c:Nat):Int)=((x / c:Nat):Int):=(B3 x c).symm
 have d2:((x:Nat):Int) % ((c:Nat):Int)=((x % c:Nat):Int):=(Int.natCast_emod x c).symm
 have c1:(0:Int)<(c:Int):=U5.mpr hc0
 have c2:((c:Nat):Int)<2 ^ 64:=P6 (O7.mpr hcm) (by decide)
 unfold Pf.dc
 simp only
 rw [hJ ⟨c1,c2⟩,nza,fU c1,nza,d1,d2,nza]
 generalize hR:x / c=R at hxr
 generalize hC:x % c=C at hxc
 generalize hms:(if (decide (reach=8))=true then (2:Int) else 1)=ms
 have ems:ms=(if reach=8 then 2 else 1):=by rw [<- hms]; simp
 have lR:R - 1<=1000:=nz4 (T8 _ _) (nz4 (nz5 hxr) hmm)
 have lC:C - 1<=1000:=nz4 (T8 _ _) (nz4 (nz5 hxc) hcm)
 rw [mx_dn,mn_up,mx_dn,mn_up,pH lR (nz4 (A9 _ _) hmm),nza]
 have key:∀ (s:List Int) (r:Nat),r<m->r<=R+1->R<=r+1->s=cl ((Z9 (r * c)).filter (adj c reach x)) ->
   ∃ s',((rng2 ((C - 1:Nat):Int) ((min c (C+2):Nat):Int)).bind λx16=>(Pu.forS (λ(s11:List Int) (x10:Int)=>if (decide (0<(Pu.ab ((r:Int) - (R:Int)))+(Pu.ab (x10 - (C:Int)))) && decide ((Pu.ab ((r:Int) - (R:Int)))+(Pu.ab (x10 - (C:Int)))<=ms))=true then ((Pu.mul (r:Int) (c:Int)).bind λx12=>some (x12+x10)).bind λx15=>(Pu.app s11 x15).bind λfound14=>some (found14) else some (s11)) x16 s).bind λs11=>some s11)=some s'/\s'=cl ((Z9 ((r+1) * c)).filter (adj c reach x)):=by
  intro s r hr1 hr2 hr3 es
  have hrc:r * c+c<=m * c:=by rw [<- M3]; exact Q5 c hr1
  have hmc:m * c<=1000000:=C4 hmm hcm
  rw [pH lC (nz4 (A9 _ _) hcm),nza]
  refine (oi12 _ (hE (λj s=>s=cl ((Z9 (r * c+(C - 1+j))).filter (adj c reach x))) ?_ ?_ ?_) rfl)
  rotate_left 2
  ·rintro s' e2
   show some s'=some _
   congr 1
   rw [e2,Nat.add_mul,Nat.one_mul,Y0,V8,pK hxc,gP _ (r * c+min c (C+2)) (r * c+c) (M9 (A9 _ _) _) λo h1 h2=>?_]
   refine oq11 (show ∃ k,o=r * c+k from ⟨o - r * c,(Nat.add_sub_cancel' (nz4 (S7 _ _) h1)).symm⟩) λk eq1_=>?_; subst eq1_
   have hk:=Nat.lt_of_add_lt_add_left h2
   refine jJ (.inr ?_)
   rw [(iD (i:=r) hk).2,hC]
   exact pN (Nat.le_of_add_le_add_left h1) hk
  ·rw [es,Nat.add_zero,gP _ (r * c) _ (S7 _ _) λo h1 h2=>?_]
   refine oq11 (show ∃ k,o=r * c+k from ⟨o - r * c,(Nat.add_sub_cancel' h1).symm⟩) λk eq1_=>?_; subst eq1_
   have hk:=Nat.lt_of_add_lt_add_left h2
   refine jJ (.inl ?_)
   rw [(iD (i:=r) (nz8 (nz1 hk (T8 _ _)) hxc)).2,hC]
   exact Nat.add_lt_of_lt_sub hk
  ·intro j y s hy es
   refine oq02 (rng_get hy) λhj eq1_=>?_; subst eq1_
   refine oq03 (span_at hj) λk1 k2 k3=>?_
   rw [show r * c+(C - 1+(j+1))=r * c+(C - 1+j)+1 from rfl,m8,adj_at k1]
   generalize C - 1+j=k at k1 k2 k3 es
   rw [rG,rG,hR,hC]
   have l2:s.length<=1000000:=by
    rw [es,ba]
    refine nz4 (T7 _ _) ?_
    rw [V8]
    exact nz4 (M9 (nz5 k1) _) (nz4 hrc hmc)
   have iff:=near_iff (pJ hr2 hr3) (pJ k2 k3) ems
   by_cases hcond:0<dif (r:Nat) (R:Nat)+dif (k:Nat) (C:Nat)/\dif (r:Nat) (R:Nat)+dif (k:Nat) (C:Nat)<=ms
   ·refine (oi12 (s++[((r * c+k:Nat):Int)]) ?_ ?_)
    ·rw [if_pos (by simpa using hcond),ke ⟨Int.lt_trans (by decide) c1,c2⟩,nza,nza,gz l2,nza,E4,N9]
    ·rw [decide_eq_true (iff.mpr hcond),if_pos rfl,es]; unfold cl; rw [List.map_append]; rfl
   ·refine (oi12 s ?_ ?_)
    ·rw [if_neg (by simpa using hcond)]
    ·rw [decide_eq_false λh=>hcond (iff.mp h),if_neg Z2,T2]; exact es
 refine hE (λi s=>s=cl ((Z9 ((R - 1+i) * c)).filter (adj c reach x))) ?_ ?_ ?_
 rotate_left 2
 ·rintro s' e2
  rw [e2]
  congr 2
  unfold nbL
  rw [Y0,V8,pK hxr,gP _ (min m (R+2) * c) (m * c) (Q5 c (A9 _ _)) λo h1 h2=>?_]
  refine jI hc0 (.inr ?_)
  rw [hR]
  exact pN ((J3 hc0).mpr h1) ((J2 hc0).mpr h2)
 ·rw [Nat.add_zero,gP _ 0 _ (V5 _) λo a ho=>?_]
  ·rfl
  ·refine jI hc0 (.inl ?_)
   rw [hR]
   exact Nat.add_lt_of_lt_sub ((J2 hc0).mpr ho)
 ·intro i y s hy es
  refine oq02 (rng_get hy) λhi eq1_=>?_; subst eq1_
  refine oq03 (span_at hi) λk1 k2 k3=>?_
  exact key s (R - 1+i) k1 k2 k3 es
theorem dh (ns:List Int) (k:Nat):Pf.bp ns (k:Int)=some (cellAt ns k):=by
 unfold Pf.bp cellAt Pu.ln
 by_cases h:k<ns.length
 ·rw [if_pos (by simpa using h),aP]; simp [h]
 ·rw [if_neg (by simpa using h)]; simp [h]
theorem height_eq {n k way:Int} (h1:-(2 ^ 31)<k) (h2:k<2 ^ 31):Pf.cI n k way=some (Fl.cI n k way):=by
 have hm:=kE n k
 unfold Pf.cI Fl.cI
 rw [Pf.iP h1 h2,nza]
 by_cases e0:way=0
 ·rw [if_pos (by simpa using e0),if_pos e0]
 rw [if_neg (by simpa using e0),if_neg e0]
 by_cases e1:way=1
 ·rw [if_pos (by simpa using e1),if_pos e1]
 rw [if_neg (by simpa using e1),if_neg e1]
 by_cases e2:way=2
 ·rw [if_pos (by simpa using e2),if_pos e2]
  rfl
 rw [if_neg (by simpa using e2),if_neg e2]
 generalize Fl.mixed n k=p at *
 have hz:p / 3 % 2=0\/p / 3 % 2=1:=by lia
 rcases hz with z | z
 ·rw [z,if_pos rfl]; rfl
 ·rw [z,if_neg (by lia)]; rfl
theorem mr {hs:List Int} {c:Nat} (hc:0<c) (hcn:c<=hs.length) (hn:hs.length<=1000):Pf.folded hs (c:Int)=some (Fl.folded hs c):=by
 have e:kD 0 ((hs.length:Int) - c+1) c=hs.length / c:=kF hc hcn
 have hd:hs.length / c<=hs.length:=Nat.div_le_self _ _
 unfold Pf.folded Pu.rng3 Pu.ln Fl.folded
 rw [if_pos (oi06 (by lia) (by lia) (by lia) (by lia) (by exact U5.mpr hc) (by exact U5.mpr (nz2 hcn (nz2 hn (by decide))))),nza,cj (g:=λy=>Pu.cut hs (some y) (some (y+(c:Int)))) (by rw [Y0,V8,e]; exact nz5 (nz2 hd (nz2 hn (by decide)))) λx x=>rfl,U0]
 congr 1
 refine W8 λi x=>?_
 show Pu.cut hs (some (0+(i:Int) * (c:Int))) (some (0+(i:Int) * (c:Int)+(c:Int)))=_
 have e1:(0:Int)+(i:Int) * (c:Int)=((i * c:Nat):Int):=by rw [Int.zero_add,N9]
 have e2:(0:Int)+(i:Int) * (c:Int)+(c:Int)=((i * c+c:Nat):Int):=by rw [e1,E4]
 rw [e2,e1,kf,D4]
theorem floor_eq (ns:List Int) (first:Nat) (hf:first<=100):Pf.floor ns (first:Int)=some (floorOf ns first):=by
 refine oq02 (jH ns first) λl1 l2=>?_
 refine oq04 (jG (cellAt ns first) l1 l2) λc1 c2 c3 c4=>?_
 unfold Pf.floor
 simp only [dh,bs]
 have e1:((first:Nat):Int)+1=((first+1:Nat):Int):=by lia
 have e2:((first:Nat):Int)+61=((first+61:Nat):Int):=by lia
 rw [e1,e2,kf,show first+61 - (first+1)=60 by lia]
 have eh:Pu.comp (λ(y4:Int × Int)=>Pf.cI y4.2 y4.1 (cellAt ns first % 5 % 4)) (Pu.enum ((ns.drop (first+1)).take 60))=some (cR ns first):=by
  rw [cj (g:=λy=>Fl.cI y.2 y.1 (cellAt ns first % 5 % 4))]
  ·unfold cR Pu.enum; rw [U0]; rfl
  ·rw [kY,R4]; lia
  ·intro y hy
   refine oq22 (enum_mem hy) λi a hi eq3_=>?_; subst eq3_
   have hi':=(Z1.mp hi).1
   rw [R4] at hi'
   exact height_eq (by lia) (by lia)
 rw [eh,nza]
 have e3:(if (decide (cR ns first=[]))=true then some [cellAt ns first / 5 % (1000000000000000000+1)] else some (cR ns first))=some (bv ns first):=by
  unfold bv
  by_cases h:cR ns first=[]
  ·rw [if_pos (by simpa using h),if_pos h]; rfl
  ·rw [if_neg (by simpa using h),if_neg h]
 rw [e3,nza]
 have ef:floorOf ns first=Fl.folded (bv ns first) (fj (cellAt ns first) (bv ns first).length).toNat:=rfl
 rw [ef]
 clear ef e3 eh
 generalize bv ns first=hs at *
 have hm:=mn12 l1
 have hmn:Pu.mn 12 (Pu.ln hs)=Fl.mn 12 hs.length:=rfl
 rw [hmn,fU (by lia),nza,nza]
 have e5:(if (decide (cellAt ns first % 5=4))=true then some (Pu.mx 1 (Pu.mn (1+cellAt ns first / 5 % Fl.mn 12 hs.length) (Pu.ln hs / 3))) else some (1+cellAt ns first / 5 % Fl.mn 12 hs.length))=some (if cellAt ns first % 5=4 then Fl.mx 1 (Fl.mn (1+cellAt ns first / 5 % Fl.mn 12 hs.length) ((hs.length:Int) / 3)) else 1+cellAt ns first / 5 % Fl.mn 12 hs.length):=by
  by_cases h:cellAt ns first % 5=4
  ·rw [if_pos (by simpa using h),if_pos h]; rfl
  ·rw [if_neg (by simpa using h),if_neg h]
 rw [e5,nza]
 have e6:Pu.mx (if cellAt ns first % 5=4 then Fl.mx 1 (Fl.mn (1+cellAt ns first / 5 % Fl.mn 12 hs.length) ((hs.length:Int) / 3)) else 1+cellAt ns first / 5 % Fl.mn 12 hs.length) (0 - (0 - Pu.ln hs) / 12)=fj (cellAt ns first) hs.length:=rfl
 rw [e6]
 generalize fj (cellAt ns first) hs.length=cc at *
 obtain ⟨k,rfl⟩:∃ k:Nat,cc=(k:Int):=⟨cc.toNat,by lia⟩
 rw [X0]
 exact mr (by lia) (by lia) (by exact nz5 (nz2 l2 (by decide)))
theorem reach_eq (ns:List Int) (k:Nat):∃ r,Pf.reach ns (k:Int)=some r/\(r=4\/r=8):=by
 unfold Pf.reach
 rw [dh,nza,Pf.iP (by lia) (by lia),nza,nza]
 have hm:=kE (cellAt ns k) 7
 generalize Fl.mixed (cellAt ns k) 7=p at *
 have hz:p % 2=0\/p % 2=1:=by lia
 rcases hz with z | z <;> rw [z]
 ·exact (oi12 4 rfl (.inl rfl))
 ·exact (oi12 8 rfl (.inr rfl))
theorem il (rows:List (List Int)) (h:rows.flatten.length<=1000000):Pf.f6 rows=some rows.flatten:=by
 unfold Pf.f6
 refine hE (λi s=>s=(rows.take i).flatten) rfl ?_ λs' e=>by rw [e,P7]
 intro i r s hr es
 have hi:=(Z1.mp hr).1
 have er:=(Z1.mp hr).2
 have e1:(rows.take (i+1)).flatten=s++r:=by
  have e0:rows.take (i+1)=rows.take i++[rows[i]]:=(S8 hi).symm
  rw [e0,es,er]; simp
 have hle:(s++r).length<=rows.flatten.length:=by
  rw [<- e1]
  have e2:rows.flatten=(rows.take (i+1)).flatten++(rows.drop (i+1)).flatten:=by rw [<- List.flatten_append,C6]
  rw [e2,W5]; exact S7 _ _
 rw [W5] at hle
 exact (oi12 (s++r) (by rw [cat_ok (by exact nz4 hle h)]; rfl) e1.symm)
end Pf
namespace Fl
noncomputable def hgt (rows:List (List Int)) (c x:Nat):Int:=(rows.getD (x / c) []).getD (x % c) 0
theorem bE {rows:List (List Int)} {c:Nat} (h:∀ r∈rows,r.length=c):rows.flatten.length=rows.length * c:=by
 induction rows with
 | nil=>simp
 | cons r rs ih =>
  rw [List.flatten_cons,W5,ih λq hq=>h q (Z8.mpr (.inr hq)),h r (Z8.mpr (.inl rfl)),W3,M3]
  lia
theorem kZ {rows:List (List Int)} {c:Nat} (hc:0<c) (h:∀ r∈rows,r.length=c) {x:Nat} (hx:x<rows.length * c):rows.flatten[x]?=some (hgt rows c x):=by
 induction rows generalizing x with
 | nil=>simp at hx
 | cons r rs ih =>
  have hr:=h r (Z8.mpr (.inl rfl))
  rw [List.flatten_cons]
  by_cases hlt:x<c
  ·rw [X4 (by exact nz1 hlt (nz3 hr.symm)),Z6 (by exact nz1 hlt (nz3 hr.symm))]
   unfold hgt
   rw [Nat.div_eq_of_lt hlt,Nat.mod_eq_of_lt hlt]
   simp [hr,hlt]
  ·rw [W0 (by exact nz4 (nz3 hr) (X8.mp hlt)),hr]
   rw [W3,M3] at hx
   rw [ih (λq hq=>h q (Z8.mpr (.inr hq))) (by omega)]
   unfold hgt
   have e1:x / c=(x - c) / c+1:=by rw [Nat.div_eq x c,if_pos ⟨hc,by exact X8.mp hlt⟩]
   have e2:x % c=(x - c) % c:=by rw [Nat.mod_eq_sub_mod (by exact X8.mp hlt)]
   rw [e1,e2]
   simp
end Fl
namespace Pf
open Fl Pu
section
variable {rows:List (List Int)} {c:Nat}
theorem eO (hp:0<rows.length) (h:∀ r∈rows,r.length=c):Pf.size_of rows=some ((rows.length:Int),(c:Int)):=by
 unfold Pf.size_of
 cases rows with
 | nil=>simp at hp
 | cons r rs =>
  have hr:=h r (Z8.mpr (.inl rfl))
  rw [if_pos (by simp)]
  have e0:Pu.at_ (r :: rs) 0=some r:=aP (i:=0)
  rw [e0,nza,nza]
  unfold Pu.ln
  rw [hr]
theorem iQ (hc:0<c) (hcm:c<=1000) (h:∀ r∈rows,r.length=c) {x:Nat} (hx:x<rows.length * c):Pf.bF rows (x:Int)=some (hgt rows c x):=by
 have hp:0<rows.length:=by
  rcases Nat.eq_zero_or_pos rows.length with z | z
  ·rw [z] at hx; simp at hx
  ·exact z
 have hq:x / c<rows.length:=A4 (by rw [L9]; exact hx)
 have hm:x % c<c:=Nat.mod_lt _ hc
 unfold Pf.bF
 rw [eO hp h,nza,nza,hJ ⟨by lia,by lia⟩,nza,fU (by lia),<- B3,aP,Z6 hq,nza,nza,<- Int.natCast_emod,aP]
 have hr:=h _ (G8 hq)
 rw [Z6 (by exact nz1 hm (nz3 hr.symm))]
 unfold hgt
 simp [hq,hr,hm]
noncomputable def key (rows:List (List Int)) (c x:Nat):Int × Int:=(hgt rows c x,(x:Int))
theorem dZ (hc:0<c) (hcm:c<=1000) (h:∀ r∈rows,r.length=c) {x:Nat} (hx:x<rows.length * c):Pf.bZ rows (x:Int)=some (key rows c x):=by
 unfold Pf.bZ
 rw [iQ hc hcm h hx]; rfl
theorem dM (hc:0<c) (hcm:c<=1000) (h:∀ r∈rows,r.length=c) {x y:Nat} (hx:x<rows.length * c) (hy:y<rows.length * c):Pf.bO rows (x:Int) (y:Int)=some (lt2 (key rows c x) (key rows c y)):=by
 unfold Pf.bO
 rw [dZ hc hcm h hx,dZ hc hcm h hy]; rfl
end
end Pf
namespace Pu
section
variable {α:Type}
theorem find_some {d:List (Int × α)} {k:Int}:(find d k).isSome=decide (k∈d.map (·.1)):=by
 unfold find
 rw [J7,X1,decide_eq_true_eq,List.find?_isSome]
 simp only [W7,decide_eq_true_eq]
theorem put_new {d:List (Int × α)} {k:Int} {v:α} (h:k ∉ d.map (·.1)):put d k v=d++[(k,v)]:=by
 unfold put
 rw [if_neg]
 rw [List.any_eq_true]
 intro zq; refine oq12 zq λe he hk=>?_
 exact h (W7.mpr (oi12 e he (by simpa using hk)))
end
end Pu
namespace Fl
theorem mw (l m:List Nat):cl (l++m)=cl l++cl m:=by simp
noncomputable def Par (nb:Nat->List Nat) (x:Nat) (d:List (Int × Option Int)):Prop :=
 ∀ (i:Nat) e,d[i]?=some e->(i=0/\e=((x:Int),none))\/∃ (j:Nat) (p k:Nat),j<i/\e=((k:Int),some (p:Int))/\(d[j]?).map (·.1)=some (p:Int)/\k∈nb p
theorem Par.start {nb:Nat->List Nat} {x:Nat}:Par nb x [((x:Int),none)]:=λi e h=>by
 cases i with
 | zero=>exact .inl ⟨rfl,(Z3 h).symm⟩
 | succ i=>exact nomatch h
theorem Par.add {nb:Nat->List Nat} {x k p:Nat} {d:List (Int × Option Int)} (h:Par nb x d) (hp:(p:Int)∈d.map (·.1)) (hk:k∈nb p):Par nb x (d++[((k:Int),some (p:Int))]):=λi e he=>by
 by_cases hi:i<d.length
 ·rw [X4 hi] at he
  rcases h i e he with z | zr1_
  ·exact .inl z
  ·refine oq34 zr1_ λj q k' hj e1 e2 e3=>?_
   exact .inr (oi34 j q k' hj e1 (by rw [X4 (by exact nz8 hj hi)]; exact e2) e3)
 ·rw [W0 (by exact X8.mp hi)] at he
  have hi2:i - d.length=0:=by
   have:=(Z1.mp he).1
   simp at this; exact W9 (nz3 this) (V5 _)
  rw [hi2] at he
  cases he
  refine oq11 (J4.mp hp) λj hj=>?_
  have hj':j<d.length:=by have:=(Z1.mp hj).1; simpa using this
  refine .inr (oi34 j p k (by exact nz1 hj' (X8.mp hi)) rfl ?_ hk)
  rw [X4 hj',<- Z7]; exact hj
end Fl
namespace Gr
open Fl Pu
theorem bnk {α β:Type} {o:Option α} {a:α} {f:α->Option β} {r:Option β} (h:o=some a) (k:f a=r):o.bind f=r:=by
 subst h; exact k
theorem bind_two {α β:Type} (o:Option (α × β)):(o.bind λs=>some (s.1,s.2))=o:=by cases o <;> rfl
def Tk (ws:List Nat) (u:Nat) (ws':List Nat):Prop:=u∈ws/\(∀ w∈ws,w=u\/w∈ws')/\(∀ w∈ws',w∈ws)/\ws.length=ws'.length+1
theorem Tk.first {u:Nat} {ws':List Nat}:Tk (u :: ws') u ws':=⟨V0,λa h=>Z8.mp h,λa h=>X2 _ h,rfl⟩
section
variable {β:Type} {nb:Nat->List Nat} {ok:Nat->Bool} {n x u j:Nat} {P:List (Int × β)->Prop} {v:β}
def Net (n j:Nat) (P:List (Int × β)->Prop) (d:List (Int × β)) (kk ws:List Nat):Prop:=d.map (·.1)=cl kk/\(∀ k∈kk,k<n)/\P d/\kk.length=ws.length+j
noncomputable def Look (nb:Nat->List Nat) (ok:Nat->Bool) (u:Nat) (v:β) (g:List (Int × β) × List Int->Int->Option (List (Int × β) × List Int)):Prop :=
 ∀ (o:Nat) (d:List (Int × β)) (w:List Int),o∈nb u->((o:Int)∈d.map (·.1)\/ok o=false->g (d,w) (o:Int)=some (d,w))/\((o:Int) ∉ d.map (·.1)->ok o=true->d.length<=10000->w.length<=10000->g (d,w) (o:Int)=some (d++[((o:Int),v)],w++[(o:Int)]))
theorem Net.snoc {d:List (Int × β)} {kk ws:List Nat} {o:Nat} (h:Net n j P d kk ws) (ho:o<n) (hp:P (d++[((o:Int),v)])):Net n j P (d++[((o:Int),v)]) (kk++[o]) (ws++[o]) :=
 ⟨by rw [List.map_append,h.1,mw]; rfl,λk hk=>(Y7.mp hk).elim (h.2.1 k) λz=>nz2 (nz3 (Y8.mp z)) ho,hp,by rw [W5,W5,h.2.2.2]; exact Nat.add_right_comm _ _ _⟩
theorem look_of {d:List (Int × β)} {w:List Int} {o:Int} {X:Option Bool} {b:Bool} (hX:X=some b) :
  (o∈d.map (·.1)\/b=false->((if (!(find d o).isSome)=true then X else some false).bind λq=>if q=true then if d.length<16777216 then (app w o).bind λl=>some (put d o v,l) else none else some (d,w))=some (d,w)) /\
  (o ∉ d.map (·.1)->b=true->d.length<=10000->w.length<=10000->((if (!(find d o).isSome)=true then X else some false).bind λq=>if q=true then if d.length<16777216 then (app w o).bind λl=>some (put d o v,l) else none else some (d,w))=some (d++[(o,v)],w++[o])):=by
 subst hX
 rw [find_some]
 refine ⟨λh=>bnk (a:=false) ?_ rfl,λh1 h2 h3 h4=>?_⟩
 ·rcases h with h | h
  ·rw [decide_eq_true h]; rfl
  ·subst h; exact ite_self _
 ·rw [decide_eq_false h1,h2,put_new h1,gz (nz4 h4 (by decide))]
  exact if_pos (nz2 h3 (by decide))
theorem look_one {g:List (Int × β) × List Int->Int->Option (List (Int × β) × List Int)} (hn:n<=10000) (hnb:∀ o∈nb u,o<n) (hP:∀ d o,P d->(u:Int)∈d.map (·.1)->o∈nb u->P (d++[((o:Int),v)])) (hg:Look nb ok u v g) {o:Nat} {done kk ws:List Nat} {d:List (Int × β)} (ho:o∈nb u) (sa:SeaAt nb ok x u done kk ws) (nt:Net n j P d kk ws) :
  ∃ d' kk' ws',g (d,cl ws) (o:Int)=some (d',cl ws')/\SeaAt nb ok x u (done++[o]) kk' ws'/\Net n j P d' kk' ws':=by
 have hl:kk.length<=10000:=nz4 (iE n sa.nd nt.2.1) hn
 have hd:d.length=kk.length:=(Y0 (·.1)).symm.trans ((congrArg G1 nt.1).trans (ba kk))
 by_cases hin:o∈kk
 ·exact oi33 d kk ws ((hg o d (cl ws) ho).1 (.inl (nt.1 ▸ fV.mpr hin))) (sa.skip λa=>hin) nt
 ·cases hok:ok o with
  | false=>exact oi33 d kk ws ((hg o d (cl ws) ho).1 (.inr hok)) (sa.skip λz=>absurd (hok.symm.trans z) Z2) nt
  | true =>
   refine oi33 _ _ _ (((hg o d (cl ws) ho).2 (λz=>hin (fV.mp (nt.1 ▸ z))) hok (nz4 (nz3 hd) hl) ?_).trans (congrArg (λw=>some (d++[((o:Int),v)],w)) (mw ws [o]).symm)) (sa.add ho hok hin λw=>?_) (nt.snoc (hnb o ho) (hP d o nt.2.2.1 (nt.1 ▸ fV.mpr sa.u_in) ho))
   ·rw [ba]; exact nz4 (S7 _ _) (nz4 (nz3 nt.2.2.2.symm) hl)
   ·rw [Y7,Y8]
theorem look_all {g:List (Int × β) × List Int->Int->Option (List (Int × β) × List Int)} (hn:n<=10000) (hnb:∀ o∈nb u,o<n) (hP:∀ d o,P d->(u:Int)∈d.map (·.1)->o∈nb u->P (d++[((o:Int),v)])) (hg:Look nb ok u v g) :
  ∀ (os done:List Nat) (d:List (Int × β)) (kk ws:List Nat),(∀ o∈os,o∈nb u)->SeaAt nb ok x u done kk ws->Net n j P d kk ws->∃ d' kk' ws',forS g (cl os) (d,cl ws)=some (d',cl ws')/\SeaAt nb ok x u (done++os) kk' ws'/\Net n j P d' kk' ws':=by
 intro os
 induction os with
 | nil=>exact λdone d kk ws a sa nt=>oi33 d kk ws rfl ((T2 done).symm ▸ sa) nt
 | cons o os ih =>
  exact λdone d kk ws ho sa nt=>oq33 (look_one hn hnb hP hg (ho o V0) sa nt) λd1 k1 w1 e1 s1 n1=>oq33 (ih (done++[o]) d1 k1 w1 (λp hp=>ho p (X2 _ hp)) s1 n1) λd2 k2 w2 e2 s2 n2 =>
   oi33 d2 k2 w2 (bnk e1 e2) ((List.append_assoc done [o] os) ▸ s2) n2
theorem sea_walk {V:Nat->β} {t:List (Int × β) × List Int->Option Bool} {f:List (Int × β) × List Int->Option (List (Int × β) × List Int)} (hn:n<=10000) (hnb:∀ u,u<n->∀ o∈nb u,o<n) (hP:∀ (u:Nat) d (o:Nat),P d->(u:Int)∈d.map (·.1)->o∈nb u->P (d++[((o:Int),V u)]))
  (ht:∀ d w,t (d,w)=some (!decide (w=[]))) (hf:∀ d w ws,(∀ k∈w :: ws,k<n)->∃ u ws' g,Tk (w :: ws) u ws'/\f (d,cl (w :: ws))=forS g (cl (nb u)) (d,cl ws')/\Look nb ok u (V u) g) :
  ∀ (N j:Nat) (d:List (Int × β)) (kk ws:List Nat),n<N+j->Sea nb ok x kk ws->Net n j P d kk ws->∃ d' kk',whS t f N (d,cl ws)=some (d',[])/\Sea nb ok x kk' []/\d'.map (·.1)=cl kk'/\(∀ k∈kk',k<n)/\P d':=by
 intro N
 induction N with
 | zero=>exact λj d kk ws hN sa nt=>absurd (nz4 (E3 j _) (nz4 (nz3 nt.2.2.2.symm) (iE n sa.nd nt.2.1))) (B0.mpr (nz1 hN (nz3 (Nat.zero_add j))))
 | succ N ih =>
  intro j d kk ws hN sa nt
  cases ws with | nil=>exact oi25 d kk (bnk (ht d []) rfl) sa nt.1 nt.2.1 nt.2.2.1 | cons w ws=>?_
  exact oq33 (hf d w ws λk hk=>nt.2.1 k (sa.sub k hk)) λu ws' g tk ef lk=>oq33 (look_all hn (hnb u (nt.2.1 u (sa.sub u tk.1))) (hP u) lk (nb u) [] d kk ws' (λa h=>h) (sa.take tk.1 tk.2.1 tk.2.2.1) ⟨nt.1,nt.2.1,nt.2.2.1,nt.2.2.2.trans ((congrArg (·+j) tk.2.2.2).trans ((Nat.add_assoc _ _ _).trans (congrArg (ws'.length+·) (Nat.add_comm 1 j))))⟩) λd1 k1 w1 e1 s1 n1 =>
   oq25 (ih (j+1) d1 k1 w1 (nz1 hN (nz3 ((Nat.add_assoc _ _ _).trans (congrArg (N+·) (Nat.add_comm 1 j))))) s1.fin n1) λd2 k2 e2 s2 m2 l2 p2=>oi25 d2 k2 (bnk (ht d _) (bnk (ef.trans e1) e2)) s2 m2 l2 p2
theorem sea_start {V:Nat->β} {t:List (Int × β) × List Int->Option Bool} {f:List (Int × β) × List Int->Option (List (Int × β) × List Int)} (hn:n<=10000) (hx:x<n) (hnb:∀ u,u<n->∀ o∈nb u,o<n) (h0:P [((x:Int),v)]) (hP:∀ (u:Nat) d (o:Nat),P d->(u:Int)∈d.map (·.1)->o∈nb u->P (d++[((o:Int),V u)]))
  (ht:∀ d w,t (d,w)=some (!decide (w=[]))) (hf:∀ d w ws,(∀ k∈w :: ws,k<n)->∃ u ws' g,Tk (w :: ws) u ws'/\f (d,cl (w :: ws))=forS g (cl (nb u)) (d,cl ws')/\Look nb ok u (V u) g) :
  ∃ d' kk',whS t f 100000 ([((x:Int),v)],[(x:Int)])=some (d',[])/\Sea nb ok x kk' []/\d'.map (·.1)=cl kk'/\(∀ k∈kk',k<n)/\P d' :=
 sea_walk hn hnb hP ht hf 100000 0 [((x:Int),v)] [x] [x] (nz2 hn (by decide)) Sea.start ⟨rfl,λk hk=>nz2 (nz3 (Y8.mp hk)) hx,h0,rfl⟩
end
end Gr
namespace Pf
open Fl Pu Gr
section
variable {rows:List (List Int)} {c:Nat} {reach:Int} {x last:Nat}
noncomputable abbrev upTo (rows:List (List Int)) (c last:Nat) (y:Nat):Bool:=!lt2 (key rows c last) (key rows c y)
theorem iR (hc:0<c) (hcm:c<=100) (hm:rows.length<=100) (h:∀ r∈rows,r.length=c) (hx:x<rows.length * c) (hl:last<rows.length * c) :
  ∃ d ks,Pf.fz rows reach (x:Int) (last:Int)=some d/\d.map (·.1)=cl ks/\ks.Nodup/\(∀ y,y∈ks↔Rch (λa b=>b∈nbL rows.length c reach a) (λy=>upTo rows c last y=true) x y)/\Par (nbL rows.length c reach) x d:=by
 have hp:0<rows.length:=Nat.pos_of_ne_zero λz=>N7 x (by rw [z,Nat.zero_mul] at hx; exact hx)
 have hmc:rows.length * c<=10000:=C4 hm hcm
 have hc2:c<=1000:=nz4 hcm (by decide)
 refine oq25 (sea_start (n:=rows.length * c) (nb:=nbL rows.length c reach) (ok:=upTo rows c last) (V:=λu=>some (u:Int)) (P:=Par (nbL rows.length c reach) x) (t:=λs=>some (!s.2.isEmpty)) hmc hx (λu i o ho=>(dU.mp ho).1) Par.start (λu d o h1 h2 h3=>h1.add h2 h3) (λd w=>by cases w <;> rfl) λd u ws hu=>oi33 u ws _ Tk.first (bnk (i7 hc hc2 (nz4 hm (by decide)) (hu u V0)) (bind_two _)) λo d w ho=>look_of (v:=some (u:Int)) (X:=(Pf.bO rows last o).bind λq=>some !q) (b:=upTo rows c last o) (bnk (dM hc hc2 h hl (dU.mp ho).1) rfl)) λd kk e sea m l p=>oi25 d kk (bnk (eO hp h) (bnk e rfl)) m sea.nd (λy=>sea.all) p
theorem jv (hc:0<c) (hcm:c<=100) (hm:rows.length<=100) (h:∀ r∈rows,r.length=c) (h64:rows.length * c<64) (hx:x<rows.length * c) (hl:last<rows.length * c) :
  ∃ ks:List Nat,Pf.cD rows reach (x:Int) (last:Int)=some (cl ks)/\ks.Pairwise (·<·)/\(upTo rows c last x=false->ks=[])/\(upTo rows c last x=true->∀ y,y∈ks↔Rch (λa b=>b∈nbL rows.length c reach a) (λy=>upTo rows c last y=true) x y):=by
 unfold Pf.cD
 rw [dM hc (by exact nz5 (nz2 hcm (by decide))) h hl hx,nza]
 cases q:lt2 (key rows c last) (key rows c x) with
 | true=>exact (oi14 ([]) (by rw [if_pos rfl]; rfl) .nil (λe=>rfl) (λz=>by unfold upTo at z; rw [q] at z; cases z))
 | false =>
  rw [if_neg Z2]
  refine oq25 (iR (reach:=reach) hc hcm hm h hx hl) λd ks e1 e2 e3 e4 e=>?_
  have hlt:∀ k∈ks,k<rows.length * c:=λk hk=>by
   have:=(e4 k).mp hk
   cases this with
   | here=>exact hx
   | on _ h1 _=>exact (dU.mp h1).1
  have hlen:ks.length<=rows.length * c:=iE _ e3 hlt
  rw [e1,nza,e2]
  unfold Pu.sortI
  rw [if_pos (by rw [ba]; exact nz2 hlen h64)]
  refine (oi14 (ks.mergeSort λa b=>decide (a<=b)) ?_ ?_ (λz=>(by unfold upTo at z; rw [q] at z; cases z)) (λe y=>?_))
  ·congr 1
   refine cO (le:=(·<=·)) (λa b h1 h2=>Int.le_antisymm h1 h2) ((jo _).trans ((R7 ks _).map _).symm) (jK _) ?_
   rw [Q0]
   have:=Q6 (le:=λa b:Nat=>decide (a<=b)) (λa b c h1 h2=>by simp at *; exact nz4 h1 h2) (λa b=>by simp; lia) ks
   exact this.imp λh=>by simp at h; exact O7.mpr h
  ·have s1:=Q6 (le:=λa b:Nat=>decide (a<=b)) (λa b c h1 h2=>by simp at *; exact nz4 h1 h2) (λa b=>by simp; lia) ks
   have s2:(ks.mergeSort λa b=>decide (a<=b)).Nodup:=((R7 ks _).nodup_iff).mpr e3
   exact List.Pairwise.imp₂ (λa b h1 h2=>by simp at h1; lia) s1 s2
  ·rw [(R7 ks _).mem_iff]; exact e4 y
end
end Pf
namespace Fl
open Pu
noncomputable def hk (hs:List Int) (x:Nat):Int × Int:=(hs.getD x 0,(x:Int))
theorem dz {rows:List (List Int)} {c:Nat} (hc:0<c) (h:∀ r∈rows,r.length=c) {x:Nat} (hx:x<rows.length * c):hk rows.flatten x=Pf.key rows c x:=by
 unfold hk Pf.key
 have:=kZ hc h hx
 rw [U7,this]; rfl
theorem lt2_as {a b:Int × Int} (h1:lt2 a b=true):lt2 b a=false:=by
 unfold lt2 at *; simp only [decide_eq_true_eq] at *; rw [decide_eq_false_iff_not]; omega
theorem lt2_ir (a:Int × Int):lt2 a a=false:=by unfold lt2; rw [decide_eq_false_iff_not]; lia
structure Ord (hs:List Int) (os:List Nat):Prop where
 pm:os.Perm (Z9 hs.length)
 up:os.Pairwise λa b=>lt2 (hk hs a) (hk hs b)=true
section
variable {hs:List Int} {os:List Nat}
theorem Ord.nd (o:Ord hs os):os.Nodup:=(o.pm.nodup_iff).mpr C9
theorem Ord.mem (o:Ord hs os) {x:Nat}:x∈os↔x<hs.length:=by rw [o.pm.mem_iff,Q2]
theorem Ord.len (o:Ord hs os):os.length=hs.length:=by rw [o.pm.length_eq,V8]
noncomputable abbrev rk (os:List Nat) (x:Nat):Nat:=os.idxOf x
theorem Ord.rk_lt (o:Ord hs os) {x:Nat} (hx:x<hs.length):rk os x<hs.length:=by rw [<- o.len]; exact M7.mpr (o.mem.mpr hx)
theorem Ord.at_rk (o:Ord hs os) {x:Nat} (hx:x<hs.length):os[rk os x]?=some x:=by
 have h:=M7.mpr (o.mem.mpr hx)
 rw [Z6 h,List.getElem_idxOf h]
theorem Ord.rk_at (o:Ord hs os) {i x:Nat} (h:os[i]?=some x):rk os x=i:=by
 have hi:=(Z1.mp h).1
 have e:=(Z1.mp h).2
 rw [<- e]
 exact o.nd.idxOf_getElem i hi
theorem Ord.lt_iff (o:Ord hs os) {x y:Nat} (hx:x<hs.length) (hy:y<hs.length):rk os x<rk os y↔lt2 (hk hs x) (hk hs y)=true:=by
 have go:∀ {x y:Nat},x<hs.length->y<hs.length->rk os x<rk os y->lt2 (hk hs x) (hk hs y)=true:=λ{x y} hx hy h=>by
  have h1:=o.at_rk hx
  have h2:=o.at_rk hy
  have e1:=(Z1.mp h1)
  have e2:=(Z1.mp h2)
  obtain ⟨l1,e1⟩:=e1
  obtain ⟨l2,e2⟩:=e2
  have:=List.pairwise_iff_getElem.mp o.up _ _ l1 l2 h
  rw [e1,e2] at this
  exact this
 refine ⟨go hx hy,λh=>?_⟩
 rcases Nat.lt_trichotomy (rk os x) (rk os y) with z | z | z
 ·exact z
 ·have e1:=o.at_rk hx
  rw [z,o.at_rk hy] at e1
  cases e1
  rw [lt2_ir] at h; cases h
 ·have:=lt2_as (go hy hx z)
  rw [this] at h; cases h
theorem Ord.le_iff (o:Ord hs os) {x y:Nat} (hx:x<hs.length) (hy:y<hs.length):rk os x<=rk os y↔lt2 (hk hs y) (hk hs x)=false:=by
 rw [<- X8,o.lt_iff hy hx,Bool.not_eq_true]
end
end Fl
namespace Pf
open Fl Pu
theorem hk_nd (hs:List Int):((Z9 hs.length).map (hk hs)).Nodup:=by
 rw [List.Nodup,Q0]
 refine C9.imp λ{a b} hab e=>hab ?_
 have:(hk hs a).2=(hk hs b).2:=by rw [e]
 unfold hk at this
 simp only at this
 lia
theorem enum_hk {hs:List Int} (h:hs.length<=1000000):Pu.comp (λ(y1:Int × Int)=>some ((y1.2,y1.1))) (Pu.enum hs)=some ((Z9 hs.length).map (hk hs)):=by
 rw [cj (g:=fun y:Int × Int=>(y.2,y.1)) (by rw [kY]; exact h) λx x=>rfl]
 congr 1
 apply D9
 intro i
 unfold Pu.enum hk
 rw [Z7,Z7,Z7,A2]
 by_cases hi:i<hs.length
 ·rw [Z6 hi,L4 hi]; simp [hi]
 ·rw [J5 (by exact X8.mp hi),J5 (by simp; exact X8.mp hi)]; rfl
theorem srtP_ord {hs:List Int} (h:hs.length<=1000000):∃ os,Pu.comp (λ(y3:Int × Int)=>some (y3.2)) (srtP ((Z9 hs.length).map (hk hs)))=some (cl os)/\Ord hs os:=by
 have pm:=jp ((Z9 hs.length).map (hk hs))
 have so:=gm ((Z9 hs.length).map (hk hs))
 generalize srtP ((Z9 hs.length).map (hk hs))=qs at pm so
 have hl:qs.length=hs.length:=by rw [pm.length_eq]; simp
 rw [cj (g:=fun y:Int × Int=>y.2) (nz4 (nz3 hl) h) λx x=>rfl]
 have form:∀ q∈qs,q=hk hs q.2.toNat:=λq hq=>by
  refine oq12 (W7.mp (pm.mem_iff.mp hq)) λi x e=>?_
  rw [<- e]; unfold hk; simp
 refine ⟨qs.map λq=>q.2.toNat,?_,?_,?_⟩
 ·congr 1
  unfold cl
  rw [U0]
  refine W8 λq hq=>?_
  have:=form q hq
  rw [this]; unfold hk; simp
 ·have:=pm.map λq=>q.2.toNat
  rw [U0] at this
  refine this.trans ?_
  have e:((Z9 hs.length).map ((fun q:Int × Int=>q.2.toNat) ∘ hk hs))=Z9 hs.length:=by
   conv=>rhs; rw [<- List.map_id (Z9 hs.length)]
   refine W8 λi x=>?_
   unfold hk; simp
  rw [e]
 ·rw [Q0]
  have ndq:qs.Nodup:=(pm.nodup_iff).mpr (hk_nd hs)
  refine (M8 ?_ (so.and ndq))
  intro a b ha hb ⟨h1,h2⟩
  rw [<- form a ha,<- form b hb]
  unfold le2 at h1
  unfold lt2
  rw [decide_eq_true_eq] at *
  obtain ⟨a1,a2⟩:=a; obtain ⟨b1,b2⟩:=b
  have:¬ (a1=b1/\a2=b2):=λz=>h2 (by rw [z.1,z.2])
  simp only at *
  lia
theorem nG {hs:List Int} (h64:hs.length<64):∃ os,Pf.cP hs=some (cl os)/\Ord hs os:=by
 have h6:hs.length<=1000000:=nz5 (nz8 h64 (by decide))
 refine oq12 (srtP_ord h6) λos e o=>⟨os,?_,o⟩
 unfold Pf.cP
 rw [enum_hk h6,nza]
 unfold Pu.sortP
 rw [if_pos ⟨by simp; exact h64,hk_nd hs⟩]
 exact e
theorem iS {n i:Nat} (h:i<n):L2.ixN n (i:Int)=some i:=by
 unfold L2.ixN
 rw [if_pos (by exact O7.mpr (V5 _)),if_pos (by exact U5.mpr h),X0]
theorem places_eq {hs:List Int} (h64:hs.length<64) {os:List Nat} (ho:Pf.cP hs=some (cl os)) (o:Ord hs os):∃ pl:List Int,Pf.places hs=some pl/\pl.length=hs.length/\∀ x,x<hs.length->pl[x]?=some (rk os x:Int):=by
 unfold Pf.places
 rw [cj (g:=λb=>(0:Int)) (by exact nz5 (nz8 h64 (by decide))) λb b=>rfl,nza,ho,nza,nza]
 refine iN (λi s=>s.length=hs.length/\∀ j,j<i->∀ x,os[j]?=some x->s[x]?=some (j:Int)) ?_ ?_ ?_
 ·exact ⟨by simp,λj hj=>absurd hj (N7 _)⟩
 ·rintro i ⟨k,y⟩ s hy ⟨l,g⟩
  refine oq12 (pF hy) λa h1 h2=>?_
  obtain ⟨rfl,rfl⟩:k=(i:Int)/\y=a:=by cases h2; exact ⟨rfl,rfl⟩
  rw [Z7] at h1
  obtain ⟨z,hz,rfl⟩:∃ z,os[i]?=some z/\(z:Int)=y:=by
   cases q:os[i]? with
   | none=>rw [q] at h1; cases h1
   | some z=>rw [q] at h1; exact (oi12 z rfl (Z3 h1))
  have hzl:z<hs.length:=o.mem.mp (W6 hz)
  simp only
  rw [iS (by exact nz1 hzl (nz3 l.symm)),nza]
  refine (oi13 _ rfl (by rw [V6]; exact l) (λj hj x hx=>?_))
  rw [O2]
  by_cases hjx:z=x
  ·rw [if_pos hjx,if_pos (by exact nz1 hzl (nz3 l.symm))]
   have e1:=o.rk_at hz
   have e2:=o.rk_at hx
   rw [hjx] at e1
   congr 1
   lia
  ·rw [if_neg hjx]
   refine g j ?_ x hx
   rcases Nat.lt_succ_iff_lt_or_eq.mp hj with z1 | z1
   ·exact z1
   ·subst z1
    rw [hx] at hz
    cases hz
    exact absurd rfl hjx
 ·intro s zq; refine oq02 zq λl g=>?_
  refine (oi13 s rfl l (λx hx=>?_))
  refine g (rk os x) ?_ x (o.at_rk hx)
  rw [kY,ba,o.len]
  exact o.rk_lt hx
theorem pO {S:Type} {α β:Type} {f:List α->β->Option (List α)} {p:β->Bool} {v:β->α} {B:Nat} (h:∀ s x,s.length<=B->f s x=some (if p x=true then s++[v x] else s)):∀ {xs:List β} {s:List α},s.length+xs.length<=B->forS f xs s=some (s++(xs.filter p).map v):=by
 intro xs
 induction xs with
 | nil=>exact λ{s} _=>congrArg some (T2 s).symm
 | cons x xs ih =>
  intro s hl
  rw [W3] at hl
  rw [gQ,h s x (by lia),nza]
  cases q:p x with
  | true=>rw [if_pos rfl,ih (by simp; lia),D3 q]; simp
  | false=>rw [if_neg Z2,ih (by lia),D2 (by simp [q])]
noncomputable def stp (m c:Nat) (reach:Int) (R C:Nat) (d a:Int):Bool :=
 ((decide (0<=(R:Int)+d) && decide ((R:Int)+d<(m:Int))) && (decide (0<=(C:Int)+a) && decide ((C:Int)+a<(c:Int)))) && ((decide (Pu.ab d+Pu.ab a=1)) || ((decide (reach=8)) && (decide (Pu.ab d+Pu.ab a=2))))
theorem next_list {m c x:Nat} {reach:Int} (hc0:0<c) (hcm:c<=1000) (hmm:m<=1000) (hx:x<m * c):Pf.next ((m:Int),(c:Int)) reach (x:Int)=some (([-1,0,1]:List Int).flatMap λd=>(([-1,0,1]:List Int).filter (stp m c reach (x / c) (x % c) d)).map λa=>(((x / c:Nat):Int)+d) * (c:Int)+(((x % c:Nat):Int)+a)):=by
 have d1:((x:Nat):Int) / ((c:Nat):Int)=((x / c:Nat):Int):=(B3 x c).symm
 have d2:((x:Nat):Int) % ((c:Nat):Int)=((x % c:Nat):Int):=(Int.natCast_emod x c).symm
 unfold Pf.next
 simp only [bs,hJ (show 0<((c:Nat):Int)/\((c:Nat):Int)<2 ^ 64 by lia),fU (show 0<((c:Nat):Int) by exact U5.mpr hc0),d1,d2,ke (show -(2 ^ 64)<((c:Nat):Int)/\((c:Nat):Int)<2 ^ 64 by lia)]
 generalize x / c=R
 generalize x % c=C
 have inner:∀ (d:Int) (s:List Int),s.length<=100->forS (λ(s7:List Int) (x6:Int)=>if (((decide (0<=(R:Int)+d) && decide ((R:Int)+d<(m:Int))) && (decide (0<=(C:Int)+x6) && decide ((C:Int)+x6<(c:Int)))) && ((decide (Pu.ab d+Pu.ab x6=1)) || ((decide (reach=8)) && (decide (Pu.ab d+Pu.ab x6=2)))))=true then (Pu.app s7 (((R:Int)+d) * (c:Int)+((C:Int)+x6))).bind λf=>some f else some s7) [-1,0,1] s =
   some (s++(([-1,0,1]:List Int).filter (stp m c reach R C d)).map λa=>((R:Int)+d) * (c:Int)+((C:Int)+a)):=λd s hs=>by
  refine pO (S:=Unit) (B:=1000) (λs x hs=>?_) (by simp; exact nz5 (nz2 hs (by decide)))
  show (if stp m c reach R C d x=true then _ else _)=_
  cases q:stp m c reach R C d x with
  | true=>rw [if_pos rfl,if_pos rfl,gz (by exact nz5 (nz2 hs (by decide)))]; rfl
  | false=>rw [if_neg Z2,if_neg Z2]
 have l3:∀ d,((([-1,0,1]:List Int).filter (stp m c reach R C d)).map λa=>((R:Int)+d) * (c:Int)+((C:Int)+a)).length<=3:=λd=>by
  rw [Y0]; exact T7 _ _
 refine hE (λi s=>s=(([-1,0,1]:List Int).take i).flatMap (λd=>(([-1,0,1]:List Int).filter (stp m c reach R C d)).map λa=>((R:Int)+d) * (c:Int)+((C:Int)+a))/\s.length<=3 * i) ⟨rfl,by simp⟩ ?_ λs e=>by rw [e.1]; rfl
 intro i d s hd zq; refine oq02 zq λes hs=>?_
 have hi:i<3:=(Z1.mp hd).1
 refine (oi13 _ (by rw [inner d s (by lia)]; rfl) ?_ ?_)
 ·have:([-1,0,1]:List Int).take (i+1)=([-1,0,1]:List Int).take i++[d]:=by
   have e:=(Z1.mp hd).2
   rw [<- e,S8]
  rw [this,List.flatMap_append,es]
  simp
 ·rw [W5]; have:=l3 d; lia
theorem jw {m c R C:Nat} {reach d a:Int} (h:stp m c reach R C d a=true):∃ r k:Nat,(R:Int)+d=(r:Int)/\(C:Int)+a=(k:Int)/\r<m/\k<c/\(ab d+ab a=1\/(reach=8/\ab d+ab a=2)):=by
 unfold stp at h
 simp only [N0,A7,decide_eq_true_eq] at h
 refine oq02 h λnn1 h5=>?_; refine oq03 nn1 λnn2 h3 h4=>?_; refine oq02 nn2 λh1 h2=>?_
 refine oq11 (D5 h1) λr hr=>?_
 refine oq11 (D5 h3) λk hk=>?_
 rw [hr] at h2
 rw [hk] at h4
 exact (oi25 r k hr hk (U5.mp h2) (U5.mp h4) h5)
theorem l0 (a b:Int):a+(b - a)=b:=by lia
theorem dif_ab {r R:Nat} {d:Int} (e:(R:Int)+d=(r:Int)):dif (r:Nat) (R:Nat)=ab d:=by
 rw [<- rG,<- e,Int.add_comm,Int.add_sub_cancel]
theorem ab_one {d:Int} (h:d=-1\/d=0\/d=1):0<=ab d/\ab d<=1:=by rcases h with rfl | rfl | rfl <;> decide
theorem one_ab {d:Int} (h:ab d<=1):d=-1\/d=0\/d=1:=by unfold ab at h; split at h <;> lia
theorem ab_nn (d:Int):0<=ab d:=by unfold ab; split <;> lia
theorem two_of {p q reach:Int} (b1:0<=p/\p<=1) (b2:0<=q/\q<=1) (h:p+q=1\/(reach=8/\p+q=2)):p+q=1\/(reach=8/\p=1/\q=1):=by lia
theorem of_two {p q reach:Int} (b1:0<=p) (b2:0<=q) (h:p+q=1\/(reach=8/\p=1/\q=1)):p<=1/\q<=1/\(p+q=1\/(reach=8/\p+q=2)):=by lia
theorem in_rows {r k m c:Nat} (h1:r<m) (h2:k<c):r * c+k<m * c:=by
 have:=Q5 c (Nat.succ_le_of_lt h1)
 rw [M3] at this
 exact nz1 (Nat.add_lt_add_left h2 _) this
theorem next_eq {m c x:Nat} {reach:Int} (hc0:0<c) (hcm:c<=1000) (hmm:m<=1000) (hx:x<m * c):Pf.next ((m:Int),(c:Int)) reach (x:Int)=some (cl (nbL m c reach x)):=by
 rw [next_list hc0 hcm hmm hx]
 congr 1
 have d3:∀ {d:Int},d∈([-1,0,1]:List Int)->d=-1\/d=0\/d=1:=λ{d} h=>by simpa using h
 have d3':∀ {d:Int},d=-1\/d=0\/d=1->d∈([-1,0,1]:List Int):=λ{d} h=>by simpa using h
 have val:∀ {r k:Nat},((r:Int)) * (c:Int)+(k:Int)=((r * c+k:Nat):Int):=by intro r k; rw [E4,N9]
 have s2:(cl (nbL m c reach x)).Pairwise (·<·):=by
  unfold cl nbL
  rw [Q0]
  refine (List.pairwise_lt_range.filter _).imp λh=>?_
  exact U5.mpr h
 have s1:(([-1,0,1]:List Int).flatMap λd=>(([-1,0,1]:List Int).filter (stp m c reach (x / c) (x % c) d)).map λa=>(((x / c:Nat):Int)+d) * (c:Int)+(((x % c:Nat):Int)+a)).Pairwise (·<·):=by
  have base:([-1,0,1]:List Int).Pairwise (·<·):=by decide
  rw [List.pairwise_flatMap]
  refine ⟨λd e=>?_,base.imp λ{d d'} hd u hu v hv=>?_⟩
  ·rw [Q0]
   exact (base.filter _).imp λ{a b} h=>Int.add_lt_add_left (Int.add_lt_add_left h _) _
  ·refine oq12 (W7.mp hu) λa ha eq2_=>?_; subst eq2_
   refine oq12 (W7.mp hv) λa' ha' eq2_=>?_; subst eq2_
   refine oq25 (jw (X6.mp ha).2) λr k e1 e2 e h1 e=>?_
   refine oq25 (jw (X6.mp ha').2) λr' k' e3 e4 e h2 e=>?_
   have hr:(r:Int)<(r':Int):=by rw [<- e1,<- e3]; exact Int.add_lt_add_left hd _
   rw [e1,e2,e3,e4,val,val]
   exact U5.mpr (nz1 (in_rows (U5.mp hr) h1) (S7 _ _))
 have mem:∀ y:Int,y∈(([-1,0,1]:List Int).flatMap λd=>(([-1,0,1]:List Int).filter (stp m c reach (x / c) (x % c) d)).map λa=>(((x / c:Nat):Int)+d) * (c:Int)+(((x % c:Nat):Int)+a))↔y∈cl (nbL m c reach x):=by
  intro y
  rw [List.mem_flatMap,gA]
  constructor
  ·intro zq; refine oq12 zq λd hd hy=>?_
   refine oq12 (W7.mp hy) λa ha eq2_=>?_; subst eq2_
   refine oq02 (X6.mp ha) λha1 ha2=>?_
   refine oq25 (jw ha2) λr k e1 e2 h1 h2 h3=>?_
   refine (oi12 (r * c+k) (dU.mpr ⟨in_rows h1 h2,?_⟩) (by rw [e1,e2,val]))
   rw [adj_at h2,decide_eq_true_eq,dif_ab e1,dif_ab e2]
   exact two_of (ab_one (d3 hd)) (ab_one (d3 ha1)) h3
  ·intro zq; refine oq12 zq λo ho eq2_=>?_; subst eq2_
   refine oq02 (dU.mp ho) λh1 h2=>?_
   have ho1:o / c<m:=A4 (by rw [L9]; exact h1)
   have ho2:o % c<c:=Nat.mod_lt _ hc0
   unfold adj at h2
   rw [decide_eq_true_eq] at h2
   refine oq03 (of_two (ab_nn _) (ab_nn _) h2) λb1 b2 b3=>?_
   refine (oi12 (((o / c:Nat):Int) - ((x / c:Nat):Int)) (d3' (one_ab b1)) (W7.mpr (oi12 (((o % c:Nat):Int) - ((x % c:Nat):Int)) (X6.mpr ⟨d3' (one_ab b2),?_⟩) ?_)))
   ·unfold stp
    simp only [N0,A7,decide_eq_true_eq,l0]
    exact ⟨(oi03 ⟨Int.natCast_nonneg _,U5.mpr ho1⟩ (Int.natCast_nonneg _) (U5.mpr ho2)),b3⟩
   ·rw [l0,l0,val,L9,Nat.div_add_mod]
 have n1:=s1.imp (S:=(·≠·)) λh=>Int.ne_of_lt h
 have n2:=s2.imp (S:=(·≠·)) λh=>Int.ne_of_lt h
 exact cO (le:=(·<·)) (λa b h1 h2=>absurd h1 (by exact G2.mpr (M0 h2))) ((List.perm_ext_iff_of_nodup n1 n2).mpr mem) s1 s2
theorem pP {rows:List (List Int)} {c:Nat} {reach:Int} (hp:0<rows.length) (hc0:0<c) (hcm:c<=1000) (hmm:rows.length<=1000) (h:∀ r∈rows,r.length=c):Pf.gp rows reach=some ((Z9 (rows.length * c)).map λx=>cl (nbL rows.length c reach x)):=by
 have hmc:rows.length * c<=1000 * 1000:=C4 hmm hcm
 unfold Pf.gp
 have e0:Pu.at_ rows 0=some (rows[0]'hp):=(aP (i:=0)).trans (Z6 hp)
 have hr:=h _ (G8 hp)
 rw [e0]
 simp only [bs,Pu.ln]
 rw [hr,kX ⟨by omega,by omega⟩,nza,<- N9,gw (by omega),nza]
 rw [cj (g:=λy=>cl (nbL rows.length c reach y.toNat)) (by rw [gv]; omega) λy hy=>?_]
 ·unfold nats
  rw [U0]
  rfl
 ·refine oq12 (iO.mp hy) λi hi eq2_=>?_; subst eq2_
  rw [X0]
  exact next_eq hc0 hcm hmm hi
end Pf
namespace Fl
open Pu
theorem nats_cl (n:Nat):nats n=cl (Z9 n):=rfl
theorem ord_nd (hs:List Int):((Z9 hs.length).map (hk hs)).Nodup:=Pf.hk_nd hs
theorem srtK_ord (hs:List Int):∃ os,srtK (cl (Z9 hs.length)) ((Z9 hs.length).map (hk hs))=cl os/\Ord hs os:=by
 unfold srtK
 have ez:((Z9 hs.length).map (hk hs)).zip (cl (Z9 hs.length))=(Z9 hs.length).map λ(x:Nat)=>(hk hs x,(x:Int)):=by
  unfold cl
  rw [List.zip_map']
 rw [ez]
 have pm:=R7 ((Z9 hs.length).map λ(x:Nat)=>(hk hs x,(x:Int))) λa b=>le2 a.1 b.1
 have so:(((Z9 hs.length).map λ(x:Nat)=>(hk hs x,(x:Int))).mergeSort λa b=>le2 a.1 b.1).Pairwise λa b=>le2 a.1 b.1=true:=Q6 (λa b c=>jq a.1 b.1 c.1) (λa b=>jr a.1 b.1) _
 generalize (((Z9 hs.length).map λ(x:Nat)=>(hk hs x,(x:Int))).mergeSort λa b=>le2 a.1 b.1)=qs at pm so
 have form:∀ q∈qs,q=(hk hs q.2.toNat,(q.2.toNat:Int)):=λq hq=>by
  refine oq12 (W7.mp (pm.mem_iff.mp hq)) λi h e=>?_
  rw [<- e]; simp
 refine ⟨qs.map λq=>q.2.toNat,?_,?_,?_⟩
 ·unfold cl
  rw [U0]
  refine W8 λq hq=>?_
  have:=form q hq
  rw [this]; simp
 ·have:=pm.map λq=>q.2.toNat
  rw [U0] at this
  refine this.trans ?_
  have e:((Z9 hs.length).map ((fun q:(Int × Int) × Int=>q.2.toNat) ∘ λ(x:Nat)=>(hk hs x,(x:Int))))=Z9 hs.length:=by
   conv=>rhs; rw [<- List.map_id (Z9 hs.length)]
   refine W8 λi h=>?_
   simp
  rw [e]
 ·rw [Q0]
  have nd:qs.Nodup:=by
   rw [pm.nodup_iff,List.Nodup,Q0]
   refine C9.imp λ{a b} hab e=>hab ?_
   have:=(Prod.mk.inj e).2
   lia
  refine (M8 ?_ (so.and nd))
  intro a b ha hb ⟨h1,h2⟩
  have fa:=form a ha
  have fb:=form b hb
  have ne:a.2.toNat≠b.2.toNat:=λz=>h2 (by rw [fa,fb,z])
  rw [fa,fb] at h1
  simp only at h1
  unfold le2 at h1
  unfold lt2
  rw [decide_eq_true_eq] at *
  unfold hk at *
  simp only at *
  lia
end Fl
namespace Pf
open Fl Pu
section
variable {rows:List (List Int)} {c:Nat}
theorem ed (hp:0<rows.length) (hcm:c<=1000) (hm:rows.length<=1000) (h:∀ r∈rows,r.length=c):Pf.de rows=some (cl (Z9 (rows.length * c))):=by
 unfold Pf.de
 have hb:rows.length * c<=1000000:=by
  have:=C4 hm hcm
  lia
 rw [eO hp h,nza,kX ⟨by simp; lia,by simp; exact U5.mpr (nz2 hm (by decide))⟩,nza]
 have e:(rows.length:Int) * (c:Int)=((rows.length * c:Nat):Int):=by simp
 simp only
 rw [e]
 unfold Pu.lrng
 rw [if_pos (oi03 (by lia) (by lia) (by lia)),X0,nats_cl]
theorem keysOf_cl {g:Int->Option (Int × Int)} {f:Nat->Int × Int}:∀ {l:List Nat},(∀ x∈l,g (x:Int)=some (f x))->Pu.keysOf g (cl l)=some (l.map f):=by
 intro l
 induction l with
 | nil=>exact λa=>rfl
 | cons x l ih =>
  intro h
  show Pu.keysOf g ((x:Int) :: cl l)=_
  rw [Pu.keysOf,h x (Z8.mpr (.inl rfl)),nza,ih λy hy=>h y (Z8.mpr (.inr hy))]
  rfl
theorem pQ (hp:0<rows.length) (hc:0<c) (hcm:c<=1000) (hm:rows.length<=1000) (h:∀ r∈rows,r.length=c) (h64:rows.length * c<64):∃ os,Pf.bC rows=some (cl os)/\Ord rows.flatten os:=by
 have hfl:rows.flatten.length=rows.length * c:=bE h
 refine oq12 (srtK_ord rows.flatten) λos e o=>?_
 refine (oi12 os ?_ o)
 unfold Pf.bC
 rw [ed hp hcm hm h,nza]
 unfold Pu.sortK
 rw [keysOf_cl (f:=hk rows.flatten) λx hx=>by
  have hx:=Q2.mp hx
  rw [dZ hc hcm h hx,dz hc h hx],nza]
 rw [hfl] at e
 have nd:=ord_nd rows.flatten
 rw [hfl] at nd
 rw [if_pos ⟨by rw [ba,V8]; exact h64,nd⟩,e]
end
end Pf
namespace Pu
section
variable {α:Type}
set_option tactic.hygienic true in
theorem pR {d:List (Int × α)} {k j:Int} {v:α}:find (put d k v) j=if j=k then some v else find d j:=by
 unfold put
 split
 ·rename_i h
  unfold find
  induction d with
  | nil=>simp at h
  | cons e d ih =>
   rw [W1,P2,P2]
   by_cases hk:e.1=k
   ·rw [if_pos hk]
    by_cases hj:j=k
    ·subst hj; simp [hk]
    ·rw [if_neg hj]
     have:¬ e.1=j:=λz=>hj (z.symm.trans hk)
     simp only [this,decide_false]
     by_cases hr:(d.any λkv=>decide (kv.1=k))=true
     ·have:=ih hr
      rw [if_neg hj] at this
      exact this
     ·have e2:d.map (λkv=>if kv.1=k then (kv.1,v) else kv)=d:=by
       conv=>rhs; rw [<- List.map_id d]
       refine W8 λkv hkv=>?_
       rw [if_neg]
       ·rfl
       ·intro z
        exact hr (List.any_eq_true.mpr (oi12 kv hkv (by simp [z])))
      rw [e2]
   ·rw [if_neg hk]
    have hr:(d.any λkv=>decide (kv.1=k))=true:=by
     rw [M6] at h
     simpa [hk] using h
    have:=ih hr
    by_cases hj:e.1=j
    ·subst hj
     simp [hk]
    ·simp only [hj,decide_false]
     exact this
 ·rename_i h
  unfold find
  rw [List.find?_append]
  by_cases hj:j=k
  ·subst hj
   have:(d.find? λkv=>decide (kv.1=j))=none:=by
    rw [List.find?_eq_none]
    intro kv hkv z
    exact h (List.any_eq_true.mpr (oi12 kv hkv z))
   rw [this]; simp
  ·rw [if_neg hj]
   have:¬ k=j:=λz=>hj z.symm
   simp [this]
theorem put_len {d:List (Int × α)} {k:Int} {v:α}:(put d k v).length<=d.length+1:=by
 unfold put
 split
 ·rw [Y0]; exact nz5 (W4 _)
 ·simp
end
end Pu
namespace Fl
open Pu Gr
def Nb (m c:Nat) (reach:Int) (a b:Nat):Prop:=a<m * c/\b<m * c/\adj c reach a b=true
theorem Nb.sy {m c:Nat} {reach:Int} (a b:Nat) (h:Nb m c reach a b):Nb m c reach b a:=⟨h.2.1,h.1,by rw [adj_comm]; exact h.2.2⟩
theorem jx {m c:Nat} {reach:Int} {a b:Nat} (ha:a<m * c):Nb m c reach a b↔b∈nbL m c reach a:=by
 rw [dU]; exact ⟨λh=>⟨h.2.1,h.2.2⟩,λh=>⟨ha,h.1,h.2⟩⟩
theorem Ord.inj {hs:List Int} {os:List Nat} (o:Ord hs os) (x y:Nat) (hx:x<hs.length) (hy:y<hs.length) (e:rk os x=rk os y):x=y:=by
 have h1:=o.at_rk hx
 rw [e,o.at_rk hy] at h1
 exact (Z3 h1).symm
def ca (n:Nat) (homes:List (Option Int)) (home:Nat->Option Nat):Prop:=homes.length=n/\∀ x,x<n->homes[x]?=some ((home x).map λ(s:Nat)=>(s:Int))
def eP (ended:L2.End_) (par:Nat->Option (Nat × Nat)):Prop:=∀ s:Nat,find ended (s:Int)=(par s).map λp=>(some (p.1:Int),some (p.2:Int))
end Fl
namespace Pf
open Fl Pu Gr
section
variable {rows:List (List Int)} {c:Nat} {reach:Int} {os:List Nat} {home:Nat->Option Nat} {par:Nat->Option (Nat × Nat)} {homes:List (Option Int)} {ended:L2.End_} {k n:Nat} {A:Nat->Nat->Prop}
theorem my {ρ:Nat->Nat} (inj:∀ x y,x<n->y<n->ρ x=ρ y->x=y) (u:UF A n ρ k home par) (hk:k<=1000) (he:eP ended par) {s r:Nat} (hs:home s=some s) (h:Liv par s r):Pf.bG (rows,ended) (s:Int)=some (r:Int):=by
 unfold Pf.bG
 refine whS_then (λz=>∃ t:Nat,z=(t:Int)/\home t=some t/\Liv par t r) (λz=>ρ z.toNat) (oi13 s rfl hs h) ?_ ?_ ?_
 ·rw [X0]
  have:=(u.dom s (by rw [hs]; exact nofun)).2
  exact nz8 this (nz2 hk (by decide))
 ·intro z zq; refine oq13 zq λt eq1_ ht hl=>?_; subst eq1_
  refine (oi12 _ rfl (λhb=>?_))
  simp only
  rw [he t] at hb ⊢
  cases q:par t with
  | none=>rw [q] at hb; cases hb
  | some p =>
   obtain ⟨m,e⟩:=p
   refine (oi13 (e:Int) rfl (oi13 e rfl ((u.pr t m e q).2.1) ?_) ?_)
   ·cases hl with
    | root z=>rw [q] at z; cases z
    | up z w=>rw [q] at z; cases z; exact w
   ·rw [X0,X0]
    exact u.rk_pr inj q
 ·rintro z ⟨t,rfl,ht,hl⟩ hb
  simp only at hb
  rw [he t] at hb
  cases hl with
  | root=>rfl
  | up q _=>rw [q] at hb; cases hb
theorem jT (hp:0<rows.length) (hc:0<c) (hcm:c<=1000) (hm:rows.length<=1000) (h:∀ r∈rows,r.length=c) (hh:ca (rows.length * c) homes home) {x:Nat} (hx:x<rows.length * c) :
  Pf.bj (rows,reach,homes,ended) (x:Int)=some (cl (((nbL rows.length c reach x).filter λo=>(home o).isSome).map λo=>(home o).getD 0)):=by
 unfold Pf.bj
 have hb:rows.length * c<=1000 * 1000:=C4 hm hcm
 simp only
 rw [eO hp h,nza,i7 hc hcm hm hx,nza]
 have mem:∀ y∈cl (nbL rows.length c reach x),∃ o:Nat,y=(o:Int)/\o<rows.length * c:=λy hy=>by
  refine oq12 (gA.mp hy) λo ho eq2_=>?_; subst eq2_
  exact (oi12 o rfl ((dU.mp ho).1))
 rw [eB (p:=λy=>(home y.toNat).isSome) (g:=λy=>(((home y.toNat).getD 0:Nat):Int)) (by rw [ba]; have:=mW rows.length c reach x; lia)]
 ·congr 1
  unfold cl
  rw [K4,U0,U0]
  rfl
 ·intro y hy
  refine oq12 (mem y hy) λo eq1_ ho=>?_; subst eq1_
  rw [aP,hh.2 o ho,nza,X0]
  cases home o <;> rfl
 ·intro y hy hq
  refine oq12 (mem y hy) λo eq1_ ho=>?_; subst eq1_
  rw [X0] at hq ⊢
  rw [aP,hh.2 o ho,nza]
  cases q:home o with
  | none=>rw [q] at hq; cases hq
  | some s=>rfl
theorem minGo_ok {hs:List Int} (o:Ord hs os) {g:Int->Option (Int × Int)} (hg:∀ x,x<hs.length->g (x:Int)=some (hk hs x)):∀ {l:List Nat} {b:Nat},(∀ x∈l,x<hs.length)->b<hs.length->∃ e:Nat,Pu.kT g (cl l) (b:Int) (hk hs b)=some (e:Int)/\(e=b\/e∈l)/\rk os e<=rk os b/\∀ x∈l,rk os e<=rk os x:=by
 intro l
 induction l with
 | nil=>exact λ{b} _ _=>(oi14 b rfl (.inl rfl) (nz6 _) (λa h=>nomatch h))
 | cons x l ih =>
  intro b hl hb
  have hx:=hl x (Z8.mpr (.inl rfl))
  show ∃ e:Nat,Pu.kT g ((x:Int) :: cl l) (b:Int) (hk hs b)=_/\_
  rw [Pu.kT,hg x hx,nza]
  cases q:lt2 (hk hs x) (hk hs b) with
  | true =>
   rw [if_pos rfl]
   exact oq14 (ih (b:=x) (λy hy=>hl y (Z8.mpr (.inr hy))) hx) λe h1 h2 h3 h4=>(oi14 e h1 (.inr (Z8.mpr h2)) (nz5 (nz2 h3 ((o.lt_iff hx hb).mpr q)))
    (λy hy=>(Z8.mp hy).elim (λz=>z ▸ h3) (h4 y)))
  | false =>
   rw [if_neg Z2]
   exact oq14 (ih (b:=b) (λy hy=>hl y (Z8.mpr (.inr hy))) hb) λe h1 h2 h3 h4=>(oi14 e h1 (h2.imp id λz=>Z8.mpr (.inr z)) h3
    (λy hy=>(Z8.mp hy).elim (λz=>z ▸ nz4 h3 ((o.le_iff hb hx).mpr q)) (h4 y)))
theorem l6 (hc:0<c) (hcm:c<=1000) (h:∀ r∈rows,r.length=c) (o:Ord rows.flatten os) {l:List Nat} (hl:∀ x∈l,x<rows.length * c) (ne:l≠[]):∃ e:Nat,Pf.cp rows (cl l)=some (e:Int)/\e∈l/\∀ x∈l,rk os e<=rk os x:=by
 have hfl:rows.flatten.length=rows.length * c:=bE h
 have hg:∀ x,x<rows.flatten.length->Pf.bZ rows (x:Int)=some (hk rows.flatten x):=λx hx=>by
  rw [dZ hc hcm h (by exact nz1 hx (nz3 hfl)),dz hc h (by exact nz1 hx (nz3 hfl))]
 unfold Pf.cp
 cases l with
 | nil=>exact absurd rfl ne
 | cons b l =>
  have hb:=hl b (Z8.mpr (.inl rfl))
  show ∃ e:Nat,Pu.minK (λc1=>Pf.bZ rows c1) ((b:Int) :: cl l)=_/\_
  rw [Pu.minK,hg b (by exact nz1 hb (nz3 hfl.symm)),nza]
  obtain ⟨e,h1,h2,h3,h4⟩:=minGo_ok o (g:=λc1=>Pf.bZ rows c1) hg (l:=l) (b:=b) (λy hy=>by have:=hl y (Z8.mpr (.inr hy)); exact nz1 this (nz3 hfl.symm)) (by exact nz1 hb (nz3 hfl.symm))
  refine (oi13 e h1 ?_ (λx hx=>?_))
  ·rcases h2 with z | z
   ·exact Z8.mpr (.inl z)
   ·exact Z8.mpr (.inr z)
  ·rcases Z8.mp hx with z | z
   ·rw [z]; exact h3
   ·exact h4 x z
theorem pT (hc:0<c) (hcm:c<=1000) (h:∀ r∈rows,r.length=c) (o:Ord rows.flatten os) (u:UF A (rows.length * c) (rk os) k home par) (hk:k<=1000) (he:eP ended par) (hel:ended.length<=1000000) {hs:List Nat} (hhs:∀ s∈hs,home s=some s) (hl:hs.length<=1000) (ne:hs≠[]) (x:Nat) :
  ∃ (met:List Nat) (elder:Nat) (ended':L2.End_),Pf.bP (rows,ended) (cl hs) (x:Int)=some ((elder:Int),ended')/\(∀ s∈hs,∃ r,r∈met/\Liv par s r)/\(∀ r∈met,∃ s,s∈hs/\Liv par s r)/\elder∈met/\(∀ r∈met,rk os elder<=rk os r) /\
   eP ended' (λs=>if s∈met/\s≠elder then some (x,elder) else par s)/\ended'.length<=ended.length+hs.length:=by
 have hfl:rows.flatten.length=rows.length * c:=bE h
 have inj:∀ x y,x<rows.length * c->y<rows.length * c->rk os x=rk os y->x=y:=λx y hx hy=>o.inj x y (by exact nz1 hx (nz3 hfl.symm)) (by exact nz1 hy (nz3 hfl.symm))
 have rt:∀ s,∃ r,s∈hs->Liv par s r:=λs=>by
  by_cases q:s∈hs
  ·refine oq12 (u.liv s s (hhs s q)) λr h1 a=>?_
   exact ⟨r,λa=>h1⟩
  ·exact ⟨0,λz=>absurd z q⟩
 refine oq11 (show ∃ root:Nat->Nat,∀ s∈hs,Liv par s (root s) from ⟨λs=>(rt s).choose,λs hs=>(rt s).choose_spec hs⟩) λroot hroot=>?_
 have e1:Pu.comp (λ(y1:Int)=>Pf.bG (rows,ended) y1) (cl hs)=some (cl (hs.map root)):=by
  rw [cj (g:=λy=>((root y.toNat:Nat):Int)) (by rw [ba]; exact nz5 (nz2 hl (by decide)))]
  ·congr 1
   unfold cl
   rw [U0,U0]; rfl
  ·intro y hy
   refine oq12 (gA.mp hy) λs hs' eq2_=>?_; subst eq2_
   rw [X0]
   exact my inj u hk he (hhs s hs') (hroot s hs')
 have hmet:∀ r∈hs.map root,r<rows.length * c:=λr hr=>by
  refine oq12 (W7.mp hr) λs hs' eq2_=>?_; subst eq2_
  have:=u.root (hhs s hs') (hroot s hs')
  exact (u.dom _ (by rw [this]; exact nofun)).1
 refine oq13 (l6 hc hcm h o hmet (by simpa using ne)) λelder g1 g2 g3=>?_
 have e3:∃ ended',Pu.forS (λ(s5:L2.End_) (x4:Int)=>if (!decide (x4=(elder:Int)))=true then if s5.length<16777216 then some (Pu.put s5 x4 (some (x:Int),some (elder:Int))) else none else some s5) (cl (hs.map root)) ended=some ended' /\
   (∀ s:Nat,find ended' (s:Int)=if s∈(hs.map root).take (cl (hs.map root)).length/\s≠elder then some (some (x:Int),some (elder:Int)) else find ended (s:Int))/\ended'.length<=ended.length+(cl (hs.map root)).length:=by
  refine gu (λi (e:L2.End_)=>(∀ s:Nat,find e (s:Int)=if s∈(hs.map root).take i/\s≠elder then some (some (x:Int),some (elder:Int)) else find ended (s:Int))/\e.length<=ended.length+i) ⟨λs=>by simp,by exact S7 _ _⟩ ?_
  intro i y e hy zq; refine oq02 zq λh1 h2=>?_
  have hi:i<(cl (hs.map root)).length:=(Z1.mp hy).1
  rw [ba,Y0] at hi
  unfold cl at hy
  rw [Z7] at hy
  refine oq12 (V2.mp hy) λr hr eq2_=>?_; subst eq2_
  have tk:(hs.map root).take (i+1)=(hs.map root).take i++[r]:=by
   have e:=(Z1.mp hr).2
   rw [<- e,S8]
  by_cases q:r=elder
  ·refine (oi13 e (by rw [if_neg (by simp [q])]) (λs=>?_) (by lia))
   rw [h1 s,tk]
   have:(s∈(hs.map root).take i++[r]/\s≠elder)↔(s∈(hs.map root).take i/\s≠elder):=by
    rw [Y7,Y8]
    constructor
    ·rintro ⟨z | z,w⟩
     ·exact ⟨z,w⟩
     ·exact absurd (z.trans q) w
    ·intro zq; refine oq02 zq λz w=>?_; exact ⟨.inl z,w⟩
   simp only [this]
  ·refine (oi13 _ (by rw [if_pos (by simp; (clear tk hy hr hi h2 h1 g3 g2 g1 hmet e1 hroot rt inj hfl ne hl hhs hel he hk u o h hcm hc; lia)),if_pos (by lia)]) (λs=>?_) (by have:=put_len (d:=e) (k:=(r:Int)) (v:=(some (x:Int),some (elder:Int))); lia))
   rw [pR,tk]
   by_cases qs:s=r
   ·subst qs
    rw [if_pos rfl,if_pos ⟨by simp,q⟩]
   ·rw [if_neg (by (clear q tk hy hr hi h2 h1 g3 g2 g1 hmet e1 hroot rt inj hfl ne hl hhs hel he hk u o h hcm hc; lia)),h1 s]
    have:(s∈(hs.map root).take i++[r]/\s≠elder)↔(s∈(hs.map root).take i/\s≠elder):=by
     rw [Y7,Y8]
     constructor
     ·rintro ⟨z | z,w⟩
      ·exact ⟨z,w⟩
      ·exact absurd z qs
     ·intro zq; refine oq02 zq λz w=>?_; exact ⟨.inl z,w⟩
    simp only [this]
 refine oq13 e3 λended' f1 f2 f3=>?_
 refine (oi37 (hs.map root) elder ended' ?_ (λs hs'=>(oi12 (root s) (W7.mpr (oi12 s hs' rfl)) (hroot s hs'))) (λr hr=>?_) g2 g3 (λs=>?_) ?_)
 ·unfold Pf.bP
  simp only
  rw [e1,nza,g1,nza,f1,nza]
 ·refine oq12 (W7.mp hr) λs hs' eq2_=>?_; subst eq2_
  exact (oi12 s hs' (hroot s hs'))
 ·show find ended' (s:Int)=(if s∈hs.map root/\s≠elder then some (x,elder) else par s).map _
  rw [f2 s,ba,P7]
  by_cases q:s∈hs.map root/\s≠elder
  ·rw [if_pos q,if_pos q]; rfl
  ·rw [if_neg q,if_neg q]; exact he s
 ·rw [ba,Y0] at f3; exact f3
theorem jL (hp:0<rows.length) (hc:0<c) (hcm:c<=1000) (hm:rows.length<=1000) (h:∀ r∈rows,r.length=c) (h64:rows.length * c<1000) (o:Ord rows.flatten os) (u:UF (Nb rows.length c reach) (rows.length * c) (rk os) k home par) (hk:k<=1000) (he:eP ended par) (hel:ended.length<=k * 1000) (hh:ca (rows.length * c) homes home)
  {x:Nat} (hx:x<rows.length * c) (hr:rk os x=k):∃ homes' ended' home' par',Pf.bD (rows,reach,homes,ended) (x:Int)=some (homes',ended')/\UF (Nb rows.length c reach) (rows.length * c) (rk os) (k+1) home' par'/\eP ended' par'/\ended'.length<=(k+1) * 1000/\ca (rows.length * c) homes' home':=by
 have hfl:rows.flatten.length=rows.length * c:=bE h
 have inj:∀ x y,x<rows.length * c->y<rows.length * c->rk os x=rk os y->x=y:=λx y hx hy=>o.inj x y (by exact nz1 hx (nz3 hfl.symm)) (by exact nz1 hy (nz3 hfl.symm))
 have nbl:=mW rows.length c reach x
 unfold Pf.bD
 rw [jT hp hc hcm hm h hh hx,nza]
 have set_ok:∀ v:Nat,ca (rows.length * c) (homes.set x (some (v:Int))) (λy=>if y=x then some v else home y):=λv=>by
  refine ⟨by rw [V6]; exact hh.1,λy hy=>?_⟩
  show _=some ((if y=x then some v else home y).map _)
  rw [O2]
  by_cases e:x=y
  ·subst e
   rw [if_pos rfl,if_pos (by rw [hh.1]; exact hx),if_pos rfl]; rfl
  ·rw [if_neg e,if_neg (λz=>e z.symm)]; exact hh.2 y hy
 have hix:L2.ixN homes.length (x:Int)=some x:=iS (by rw [hh.1]; exact hx)
 generalize eh:((nbL rows.length c reach x).filter λo=>(home o).isSome).map (λo=>(home o).getD 0)=hs
 have memhs:∀ s,s∈hs↔∃ o',Nb rows.length c reach x o'/\home o'=some s:=λs=>by
  rw [<- eh,W7]
  constructor
  ·intro zq; refine oq12 zq λo' h1 h2=>?_
   refine oq02 (X6.mp h1) λh3 h4=>?_
   refine oq11 (Option.isSome_iff_exists.mp h4) λt ht=>?_
   rw [ht] at h2
   exact (oi12 o' ((jx hx).mpr h3) (by rw [ht]; exact congrArg some h2))
  ·intro zq; refine oq12 zq λo' h1 h2=>?_
   exact (oi12 o' (X6.mpr ⟨(jx hx).mp h1,by rw [h2]; rfl⟩) (by rw [h2]; rfl))
 have hlen:hs.length<=1000:=by
  rw [<- eh,Y0]
  have:=T7 (λo=>(home o).isSome) (nbL rows.length c reach x)
  exact nz5 (nz2 this (nz2 nbl h64))
 by_cases ne:hs=[]
 ·refine (oi45 _ _ (λy=>if y=x then some x else home y) par ?_ ?_ he (by lia) (set_ok x))
  ·rw [ne,if_neg (by simp),nza]
   simp only
   rw [hix,nza]
  ·refine u.alone Nb.sy inj hx hr (λo' h1 h2=>?_) (if_pos rfl) λy hy=>if_neg hy
   refine oq11 (u.has o' h2) λs hs'=>?_
   have:s∈hs:=(memhs s).mpr (oi12 o' h1 hs')
   rw [ne] at this; cases this
 ·refine oq37 (pT hc hcm h o u hk he (by lia) (hs:=hs) (λs hs'=>by
   refine oq12 ((memhs s).mp hs') λo' h1 h2=>?_
   exact u.own o' s h2) hlen ne x) λmet elder ended' g1 g2 g3 g4 g5 g6 g7=>?_
  refine (oi45 _ _ (λy=>if y=x then some elder else home y) (λs=>if s∈met/\s≠elder then some (x,elder) else par s) ?_ ?_ g6 (by lia) (set_ok elder))
  ·rw [if_pos (by cases hs with | nil=>exact absurd rfl ne | cons=>rfl),g1,nza]
   simp only
   rw [hix,nza]
  ·refine u.meet Nb.sy inj (met:=met) (elder:=elder) hx hr (λo' s h1 h2=>g2 s ((memhs s).mpr (oi12 o' h1 h2))) (λr hr'=>?_) g4 g5 (if_pos rfl) (λy hy=>if_neg hy) (λs h1 h2=>if_pos ⟨h1,h2⟩) λs hs'=>if_neg hs'
   refine oq12 (g3 r hr') λs h1 h2=>?_
   refine oq12 ((memhs s).mp h1) λo' h3 h4=>?_
   exact (oi23 o' s h3 h4 h2)
theorem lM (hp:0<rows.length) (hc:0<c) (hcm:c<=1000) (hm:rows.length<=1000) (h:∀ r∈rows,r.length=c) (h64:rows.length * c<1000) (o:Ord rows.flatten os) {ks:List Nat} (hks:∀ i x,ks[i]?=some x->x<rows.length * c/\rk os x=i):∃ homes ended home par,Pf.eN rows reach (cl ks)=some (rows,reach,homes,ended) /\
  UF (Nb rows.length c reach) (rows.length * c) (rk os) ks.length home par/\eP ended par/\ca (rows.length * c) homes home:=by
 have hfl:rows.flatten.length=rows.length * c:=bE h
 have e0:Pf.dv rows=some ((Z9 (rows.length * c)).map λz=>none):=by
  unfold Pf.dv
  rw [ed hp hcm hm h,nza,cj (g:=λz=>(none:Option Int)) (by rw [ba,V8]; exact nz5 (nz8 h64 (by decide))) λz z=>rfl]
  congr 1
  unfold cl
  rw [U0]; rfl
 have hkl:∀ i,i<ks.length->i<1000:=λi hi=>by
  obtain ⟨h1,h2⟩:=hks i _ (Z6 hi)
  have:=o.rk_lt (x:=ks[i]) (by exact nz1 h1 (nz3 hfl.symm))
  exact nz2 (nz3 h2.symm) (nz8 this (nz2 (nz3 hfl) h64))
 unfold Pf.eN
 rw [e0,nza]
 have key:∃ w,(Pu.forS (λ(s3:List (Option Int) × L2.End_) (x2:Int)=>(Pf.bD (rows,reach,s3.1,s3.2) x2).bind λc=>some (c.1,c.2)) (cl ks) ((Z9 (rows.length * c)).map λz=>none,[])).bind (λs=>some (rows,reach,s.1,s.2))=some w /\
   ∃ home par,UF (Nb rows.length c reach) (rows.length * c) (rk os) (cl ks).length home par/\eP w.2.2.2 par/\ca (rows.length * c) w.2.2.1 home/\w.1=rows/\w.2.1=reach:=by
  refine iN (λi s=>∃ home par,UF (Nb rows.length c reach) (rows.length * c) (rk os) i home par/\eP s.2 par/\s.2.length<=i * 1000/\ca (rows.length * c) s.1 home) ?_ ?_ ?_
  ·exact ⟨λz=>none,λz=>none,UF.start,λz=>rfl,by simp,by simp,λx hx=>by rw [Z7,L4 hx]; rfl⟩
  ·rintro i y ⟨homes,ended⟩ hy zq; refine oq24 zq λhome par u he hel hh=>?_
   unfold cl at hy
   rw [Z7] at hy
   refine oq12 (V2.mp hy) λx hx eq2_=>?_; subst eq2_
   refine oq02 (hks i x hx) λh1 h2=>?_
   have hi:=hkl i (Z1.mp hx).1
   refine oq45 (jL hp hc hcm hm h h64 o u (by exact nz5 hi) he hel hh h1 h2) λhomes' ended' home' par' g1 g2 g3 g4 g5=>?_
   simp only
   exact oi12 (homes',ended') (by rw [g1]; rfl) (oi24 home' par' g2 g3 g4 g5)
  ·rintro ⟨homes,ended⟩ zq; refine oq24 zq λhome par u he hel hh=>?_
   exact oi12 _ rfl (oi25 home par u he hh rfl rfl)
 refine oq12 key λw e1 zz=>oq25 zz λhome par u he hh e2 e3=>?_
 obtain ⟨a,b,d,e⟩:=w
 simp only at e2 e3
 subst e2 e3
 rw [ba] at u
 exact (oi44 d e home par e1 u he hh)
theorem nH {hs:List Int} (o:Ord hs os) {i x:Nat} (h:os[i]?=some x):x<hs.length/\rk os x=i:=⟨o.mem.mp (W6 h),o.rk_at h⟩
theorem rH (hp:0<rows.length) (hc:0<c) (hcm:c<=1000) (hm:rows.length<=1000) (h:∀ r∈rows,r.length=c) (h64:rows.length * c<64):∃ os home par,Pf.bC rows=some (cl os)/\Ord rows.flatten os/\UF (Nb rows.length c reach) (rows.length * c) (rk os) (rows.length * c) home par /\
  Pf.nE rows reach=some ((os.filter λx=>decide (home x=some x)).map λ(x:Nat)=>((x:Int),(par x).map (λp=>(p.1:Int)),(par x).map (λp=>(p.2:Int))))/\∃ homes,Pf.pC rows reach=some homes/\ca (rows.length * c) homes home:=by
 have hfl:rows.flatten.length=rows.length * c:=bE h
 refine oq12 (pQ hp hc hcm hm h h64) λos eo o=>?_
 have olen:=o.len
 refine oq44 (lM (reach:=reach) hp hc hcm hm h (nz8 h64 (by decide)) o (ks:=os) λi x hx=>by
  refine oq02 (nH o hx) λh1 h2=>?_
  exact ⟨by exact nz1 h1 (nz3 hfl),h2⟩) λhomes ended home par e1 u he hh=>?_
 rw [olen,hfl] at u
 refine ⟨os,home,par,eo,o,u,?_,homes,by unfold Pf.pC; rw [eo,nza,e1]; rfl,hh⟩
 unfold Pf.nE
 rw [eo,nza,e1,nza]
 simp only
 rw [eB (p:=λy=>decide (home y.toNat=some y.toNat)) (g:=λy=>y) (by rw [ba]; exact nz5 (nz2 (nz3 olen) (nz2 (nz3 hfl) (nz8 h64 (by decide)))))]
 ·rw [nza,List.map_id']
  have ef:(cl os).filter (λy=>decide (home y.toNat=some y.toNat))=cl (os.filter λx=>decide (home x=some x)):=by
   unfold cl
   rw [K4]
   rfl
  rw [ef]
  unfold Pf.cE
  have fl:=T7 (λx=>decide (home x=some x)) os
  rw [cj (g:=λy=>(y,((Pu.find ended y).getD (none,none)).1,((Pu.find ended y).getD (none,none)).2)) (by rw [ba]; exact nz5 (nz2 fl (nz2 (nz3 olen) (nz2 (nz3 hfl) (nz8 h64 (by decide)))))) λa a=>rfl]
  congr 1
  unfold cl
  rw [U0]
  refine W8 λx a=>?_
  simp only [B8]
  rw [he x]
  cases par x <;> rfl
 ·intro y hy
  refine oq12 (gA.mp hy) λx hx eq2_=>?_; subst eq2_
  have hx':=o.mem.mp hx
  rw [aP,hh.2 x (by exact nz1 hx' (nz3 hfl)),nza,X0]
  congr 1
  cases q:home x with
  | none=>simp
  | some s=>simp; lia
 ·intro y hy _; rfl
end
end Pf
namespace Fl
theorem pU {l:List Nat} (h:l.Nodup):(cl l).Nodup:=by
 unfold cl
 rw [List.Nodup,Q0]
 exact h.imp λhab e=>hab (by lia)
open Pu Gr
theorem Ord.uniq {hs:List Int} {os os':List Nat} (o:Ord hs os) (o':Ord hs os'):os=os' :=
 cO (le:=λa b=>lt2 (hk hs a) (hk hs b)=true) (λa b h1 h2=>by rw [lt2_as h1] at h2; cases h2) (o.pm.trans o'.pm.symm) o.up o'.up
end Fl
namespace Pf
open Fl Pu Gr
theorem pX (hs:List Int):Pf.gq hs=Pf.places hs:=rfl
theorem digits_eq (v:Int) (many:Nat) (hm:many<=1000) {base:Int} (hb:0<base/\base<2 ^ 64):∃ ds,Pf.digits v (many:Int) base=some ds/\(ds=[]\/ds.length=many)/\∀ d∈ds,0<=d/\d<base:=by
 unfold Pf.digits
 rw [gw (by exact nz5 (nz2 hm (by decide))),bs]
 refine iN (λi (s:Int × List Int)=>s.2.length=i/\∀ d∈s.2,0<=d/\d<base) ⟨rfl,λx h=>nomatch h⟩ ?_ ?_
 ·rintro i y ⟨z,ds⟩ hy ⟨h1,h2⟩
  have hi:=(Z1.mp hy).1
  rw [gv] at hi
  simp only at h1 h2 ⊢
  rw [fU hb.1,bs,gz (by exact nz5 (nz2 (nz3 h1) (nz8 hi (nz2 hm (by decide))))),bs,hJ hb,bs]
  refine (oi13 _ rfl (by simp [h1]) (λd hd=>?_))
  rcases Y7.mp hd with q | q
  ·exact h2 d q
  ·rw [Y8.mp q]
   exact ⟨E2 _ (by exact D8 hb.1),E7 _ hb.1⟩
 ·rintro ⟨z,ds⟩ ⟨h1,h2⟩
  simp only at h1 h2 ⊢
  rw [gv] at h1
  rw [kX (by lia),bs,bs]
  by_cases q:0<z
  ·rw [decide_eq_true q]
   have e:(many:Int) * Pu.ofb true=((many:Nat):Int):=by unfold Pu.ofb; simp
   rw [e,cut_to,<- h1,P7]
   exact (oi13 ds rfl (.inr rfl) h2)
  ·rw [decide_eq_false q]
   have e:(many:Int) * Pu.ofb false=((0:Nat):Int):=by unfold Pu.ofb; simp
   rw [e,cut_to,List.take_zero]
   exact (oi13 ([]) rfl (.inl rfl) (λx h=>nomatch h))
theorem one_mod (a:Int):∃ c:Nat,1+a % 12=(c:Int)/\1<=c/\c<=12:=(oi13 ((1+a % 12).toNat) (by lia) (by lia) (by lia))
set_option tactic.hygienic true in
theorem mn_60 {r c:Nat} (h:1<=r) (h1:1<=c) (h2:c<=12):∃ k:Nat,Pu.mn (r:Int) (60 / (c:Int))=(k:Int)/\1<=k/\k<=r/\c * k<=60:=by
 have e:(60:Int) / (c:Int)=((60 / c:Nat):Int):=(B3 60 c).symm
 have h5:5<=60 / c:=(J3 h1).mpr (Nat.mul_le_mul_left 5 h2)
 rw [e]
 unfold Pu.mn
 split
 ·rename_i q
  exact (oi14 (60 / c) rfl (nz4 (by decide) h5) (nz5 (U5.mp q)) (Nat.mul_div_le 60 c))
 ·rename_i q
  exact (oi14 r rfl h (nz6 _) (nz4 (Nat.mul_le_mul_left c (O7.mp (G2.mp q))) (Nat.mul_div_le 60 c)))
theorem rJ (ns:List Int) (first:Nat) (hf:first<=100):∃ rows c,Pf.gY ns (first:Int)=some rows/\Shape rows c:=by
 unfold Pf.gY
 rw [dh,bs]
 obtain ⟨ds,e1,h1,h2⟩:=digits_eq (cellAt ns first) 62 (by exact nz5 (by decide)) (base:=1000000000000000001) ⟨by decide,by lia⟩
 rw [show Pf.digits (cellAt ns first) 62 (1000000000000000000+1)=some ds from e1,bs]
 by_cases q:ds=[]
 ·rw [if_neg (by simp [q])]
  have:=floor_eq ns first hf
  unfold Pf.floor at this
  rw [dh] at this
  exact (oi22 _ _ this (oN ns first))
 ·rw [if_pos (by simp [q])]
  have hl:ds.length=62:=h1.resolve_left q
  have g0:Pu.at_ ds 0=some ds[0]:=(aP (i:=0)).trans (Z6 (by lia))
  have g1:Pu.at_ ds 1=some ds[1]:=(aP (i:=1)).trans (Z6 (by lia))
  rw [g0,bs,bs,bs,g1,bs,bs,bs]
  refine oq13 (one_mod ds[0]) λc hc c1 c2=>?_
  refine oq13 (one_mod ds[1]) λr hr r1 r2=>?_
  rw [hc,hr]
  have c0:(0:Int)<(c:Int):=U5.mpr c1
  have c64:(c:Int)<2 ^ 64:=P6 (O7.mpr c2) (by decide)
  rw [hJ ⟨c0,c64⟩,bs,bs,kX ⟨Int.lt_trans (by decide) c0,c64⟩,bs,bs,bs,bs]
  refine oq13 (mn_60 (c:=c) r1 c1 c2) λk hk k1 k2=>?_
  rw [hk,<- N9]
  have hck1:c<=c * k:=Nat.le_mul_of_pos_right _ k1
  have hck12:c * k<=12 * c:=by rw [L9]; exact Q5 c (nz4 k2.1 r2)
  have hck:c * k<=60:=k2.2
  generalize c * k=w at hck hck1 hck12 ⊢
  have e2:Pu.cut ds (some 2) (some (2+(w:Int)))=(ds.drop 2).take w:=by
   have:=kf (xs:=ds) (i:=2) (j:=2+w)
   rw [D4] at this
   rw [<- this]
   congr 2
  rw [e2]
  have el:((ds.drop 2).take w).length=w:=by rw [R4,G7]; (clear e2 hck12 k2 k1 hk c64 c0 r2 r1 hr c2 c1 g1 g0 q h2 h1 e1 hf; lia)
  refine (oi22 _ c (mr c1 (by rw [el]; exact hck1) (by rw [el]; exact nz4 hck (by decide))) (iC c1 c2 (by rw [el]; exact hck1) (by rw [el]; exact hck) (by rw [el]; exact nz4 hck12 (S7 _ _)) λx hx=>?_))
  have:=h2 x (List.mem_of_mem_drop (List.mem_of_mem_take hx))
  exact ⟨this.1,Int.lt_add_one_iff.mp this.2⟩
end Pf
namespace Fl
open Pu Gr
theorem pY (a:Int):dif a a=0:=by unfold dif; rw [Int.sub_self]; rfl
theorem pZ {a:Nat} (h:1<=a):dif ((a - 1:Nat):Int) (a:Int)=1:=by
 refine oq11 (Nat.exists_eq_add_of_le' h) λb eq1_=>?_; subst eq1_
 rw [Nat.add_sub_cancel,E4]
 unfold dif
 split <;> lia
theorem nb_down {m c:Nat} {reach:Int} (hc:0<c) {x:Nat} (hx:x<m * c) (h0:0<x):∃ y,y<x/\Nb m c reach x y:=by
 by_cases h:x % c=0
 ·have h1:c<=x:=by
   rcases Nat.lt_or_ge x c with z | z
   ·rw [Nat.mod_eq_of_lt z] at h; lia
   ·exact z
  refine ⟨x - c,by lia,hx,by exact nz2 (T8 _ _) hx,?_⟩
  unfold adj
  rw [decide_eq_true_eq]
  refine .inl ?_
  have e1:(x - c) / c=x / c - 1:=by
   have:=Nat.sub_mul_div x c 1
   rw [Nat.mul_one] at this; exact this
  have e2:(x - c) % c=x % c:=(Nat.mod_eq_sub_mod h1).symm
  have h2:1<=x / c:=(J3 hc).mpr (by lia)
  rw [e1,e2,pY,pZ h2]
  rfl
 ·have e:x=x / c * c+x % c:=by rw [L9]; exact (Nat.div_add_mod x c).symm
  have h1:x % c<c:=Nat.mod_lt _ hc
  have h2:x - 1=x / c * c+(x % c - 1):=by lia
  refine ⟨x - 1,by lia,hx,by exact nz2 (T8 _ _) hx,?_⟩
  refine oq02 (iD (i:=x / c) (j:=x % c - 1) (c:=c) (by exact nz2 (T8 _ _) h1)) λe1 e2=>?_
  unfold adj
  rw [decide_eq_true_eq]
  refine .inl ?_
  rw [h2,e1,e2,pY,pZ (Nat.pos_of_ne_zero h)]
  rfl
theorem l7 {m c:Nat} {reach:Int} {ρ:Nat->Nat} {n:Nat} (hc:0<c) (hn:n=m * c) (hρ:∀ x,x<n->ρ x<n):∀ x,x<n->Rch (Nb m c reach) (Lv n ρ n) x 0:=λx=>by
 induction x using Nat.strongRecOn with
 | ind x ih =>
  intro hx
  by_cases h0:x=0
  ·subst h0; exact .here
  ·obtain ⟨y,h1,h2⟩:=nb_down (reach:=reach) hc (show x<m * c by exact nz1 hx (nz3 hn)) (by lia)
   exact Rch.trans (.on .here h2 ⟨by exact nz8 h1 hx,hρ y (by exact nz8 h1 hx)⟩) (ih y h1 (by exact nz8 h1 hx))
end Fl
namespace Pu
theorem forC_find {S R β:Type} {f:S->β->Option (Ctl S R)} {P:R->Prop} (I:Nat->S->Prop):∀ {xs:List β} {s:S},I 0 s->(∀ i x s,xs[i]?=some x->I i s->(∃ s',f s x=some (.nx s')/\I (i+1) s')\/∃ r,f s x=some (.rt r)/\P r) ->
  (∃ s',forC f xs s=some (.nx s')/\I xs.length s')\/∃ r,forC f xs s=some (.rt r)/\P r:=by
 intro xs
 induction xs generalizing I with
 | nil=>exact λh0 a=>.inl (oi12 _ rfl h0)
 | cons x xs ih =>
  intro s h0 h
  refine (h 0 x s rfl h0).elim (λzr=>oq12 zr λs' e h1=>?_) λzr=>oq12 zr λr e h1=>.inr (oi12 r (by rw [ji,e]; rfl) h1)
  rw [ji,e]
  exact ih (λi=>I (i+1)) (s:=s') h1 λi y t hy ht=>h (i+1) y t hy ht
theorem at_last {α:Type} (l:List α) (a:α):at_ (l++[a]) (-1)=some a:=by
 unfold at_ L2.atI L2.ixN
 rw [if_neg (by lia),if_pos (by simp; lia)]
 have:((-1:Int)+((l++[a]).length:Int)).toNat=l.length:=by simp; lia
 simp only [this,nza]
 simp
theorem find_at {α:Type}:∀ {d:List (Int × α)} {i:Nat} {k:Int} {v:α},(d.map (·.1)).Nodup->d[i]?=some (k,v)->find d k=some v:=by
 intro d i k v
 induction d generalizing i with
 | nil=>exact λx h=>nomatch h
 | cons e d ih =>
  intro hn h
  unfold find at ih ⊢
  rw [P2]
  cases i with
  | zero=>rw [show e=(k,v) from Z3 h]; simp
  | succ i =>
   have hn':=E1.mp (show (e.1 :: d.map (·.1)).Nodup from hn)
   have ne:¬ e.1=k:=λz=>hn'.1 (by rw [z]; exact W7.mpr (oi12 (k,v) (W6 (i:=i) h) rfl))
   simp only [ne,decide_false]
   exact ih hn'.2 h
end Pu
namespace Pf
open Fl Pu Gr
theorem jM (p:List (List Int) × L2.End_) (s:Int):(Pf.aH p (some s)).bind (λx=>x)=Pf.bG p s:=by
 unfold Pf.aH Pf.bG
 have:∀ (n:Nat) (s:Int),(Pu.whS (λ(s2:Option Int)=>some ((Pu.pw p.2 s2).isSome)) (λ(s2:Option Int)=>(((s2).bind λx3=>Pu.find p.2 x3).bind λx4=>some (x4.2)).bind λhere6=>some (here6)) n (some s)).bind (λx=>x) =
   Pu.whS (λ(s2:Int)=>some ((Pu.find p.2 s2).isSome)) (λ(s2:Int)=>(((Pu.find p.2 s2).bind λx3=>some (x3.2)).bind λx5=>x5).bind λhere6=>some (here6)) n s:=λn=>by
  induction n with
  | zero=>intro s; rfl
  | succ n ih =>
   intro s
   rw [Pu.whS,Pu.whS,bs,bs]
   have e0:Pu.pw p.2 (some s)=Pu.find p.2 s:=rfl
   simp only [e0,nza]
   cases q:Pu.find p.2 s with
   | none=>rfl
   | some e =>
    simp only [Option.isSome_some,if_true,nza]
    cases q2:e.2 with
    | none =>
     cases n with
     | zero=>rfl
     | succ n=>rw [Pu.whS]; rfl
    | some e2=>exact ih e2
 have h:=this 100000 s
 rw [nz9]
 show Option.bind _ (λx=>x)=_
 rw [h]
 cases Pu.whS (λ(s2:Int)=>some ((Pu.find p.2 s2).isSome)) (λ(s2:Int)=>(((Pu.find p.2 s2).bind λx3=>some (x3.2)).bind λx5=>x5).bind λhere6=>some (here6)) 100000 s <;> rfl
theorem lN (p:List (List Int) × L2.End_):Pf.aH p none=some none:=by
 unfold Pf.aH
 rw [Pu.whS]; rfl
theorem lO:Pf.bb=Pf.bP:=by
 funext p l m
 unfold Pf.bb Pf.bP
 simp only [jM]
theorem i8:Pf.bn=Pf.bD:=by
 funext p x
 unfold Pf.bn Pf.bD
 rw [lO]
section
variable {rows:List (List Int)} {c:Nat} {reach:Int} {os:List Nat}
theorem iT {ρ:Nat->Nat} {A:Nat->Nat->Prop} {n k:Nat} {home:Nat->Option Nat} {par:Nat->Option (Nat × Nat)} {homes:List (Option Int)} {ended:L2.End_} (inj:∀ x y,x<n->y<n->ρ x=ρ y->x=y) (u:UF A n ρ k home par) (hk:k<=1000) (he:eP ended par) (hh:ca n homes home) {x:Nat} (hx:x<n) :
  (home x=none/\Pf.b7 (rows,reach,homes,ended) (x:Int)=some none)\/∃ r,Lv n ρ k x/\Fst A n ρ k x r/\Pf.b7 (rows,reach,homes,ended) (x:Int)=some (some (r:Int)):=by
 unfold Pf.b7
 simp only
 rw [aP,hh.2 x hx,bs]
 cases q:home x with
 | none=>exact .inl ⟨rfl,lN _⟩
 | some s =>
  refine oq12 (u.liv x s q) λr h1 h2=>?_
  refine .inr (oi13 r (u.dom x (by rw [q]; exact nofun)) h2 ?_)
  have e:=my (rows:=rows) inj u hk he (u.own x s q) h1
  rw [<- jM] at e
  show Pf.aH (rows,ended) (some (s:Int))=_
  cases z:Pf.aH (rows,ended) (some (s:Int)) with
  | none=>rw [z] at e; cases e
  | some w=>rw [z] at e; rw [show w=some (r:Int) from e]
theorem rK (hp:0<rows.length) (hc:0<c) (hcm:c<=1000) (hm:rows.length<=1000) (h:∀ r∈rows,r.length=c) (h64:rows.length * c<64) (o:Ord rows.flatten os) (eo:Pf.bC rows=some (cl os)) {one other:Nat} (h1:one<rows.length * c) (h2:other<rows.length * c) :
  ∃ m:Nat,Pf.cx rows reach (one:Int) (other:Int)=some (some (m:Int))/\m<rows.length * c/\rk os one<=rk os m/\rk os other<=rk os m/\Rch (Nb rows.length c reach) (Lv (rows.length * c) (rk os) (rk os m+1)) one other /\
   ∀ k,Lv (rows.length * c) (rk os) k one->Lv (rows.length * c) (rk os) k other->Rch (Nb rows.length c reach) (Lv (rows.length * c) (rk os) k) one other->rk os m<k:=by
 have hfl:rows.flatten.length=rows.length * c:=bE h
 have olen:=o.len
 have inj:∀ x y,x<rows.length * c->y<rows.length * c->rk os x=rk os y->x=y:=λx y hx hy=>o.inj x y (by exact nz1 hx (nz3 hfl.symm)) (by exact nz1 hy (nz3 hfl.symm))
 have hρ:∀ x,x<rows.length * c->rk os x<rows.length * c:=λx hx=>by have:=o.rk_lt (x:=x) (by exact nz1 hx (nz3 hfl.symm)); exact nz1 this (nz3 hfl)
 have e0:Pf.dv rows=some ((Z9 (rows.length * c)).map λt=>none):=by
  unfold Pf.dv
  rw [ed hp hcm hm h,nza,cj (g:=λt=>(none:Option Int)) (by rw [ba,V8]; exact nz5 (nz8 h64 (by decide))) λt t=>rfl]
  congr 1
  unfold cl
  rw [U0]; rfl
 unfold Pf.cx
 rw [e0,bs,eo,bs,i8]
 have key:=forC_find (f:=λ(s3:List (Option Int) × L2.End_) (x2:Int)=>(Pf.bD (rows,reach,s3.1,s3.2) x2).bind λc=>(Pf.b7 (rows,reach,c.1,c.2) (one:Int)).bind λst=>(if st.isSome=true then (Pf.b7 (rows,reach,c.1,c.2) (other:Int)).bind λo=>some (decide (st=o)) else some false).bind λb=>if b=true then some (Ctl.rt (some x2)) else some (Ctl.nx (c.1,c.2)))
  (P:=λ(r:Option Int)=>∃ m:Nat,r=some (m:Int)/\m<rows.length * c/\rk os one<=rk os m/\rk os other<=rk os m/\Rch (Nb rows.length c reach) (Lv (rows.length * c) (rk os) (rk os m+1)) one other /\
   ¬ (Lv (rows.length * c) (rk os) (rk os m) one/\Lv (rows.length * c) (rk os) (rk os m) other/\Rch (Nb rows.length c reach) (Lv (rows.length * c) (rk os) (rk os m)) one other))
  (λi s=>(∃ home par,UF (Nb rows.length c reach) (rows.length * c) (rk os) i home par/\eP s.2 par/\s.2.length<=i * 1000/\ca (rows.length * c) s.1 home) /\
   ¬ (Lv (rows.length * c) (rk os) i one/\Lv (rows.length * c) (rk os) i other/\Rch (Nb rows.length c reach) (Lv (rows.length * c) (rk os) i) one other))
  (xs:=cl os) (s:=((Z9 (rows.length * c)).map λt=>none,[]))
  ⟨⟨λt=>none,λt=>none,UF.start,λt=>rfl,by simp,by simp,λx hx=>by rw [Z7,L4 hx]; rfl⟩,λz=>absurd z.1.2 (N7 _)⟩ λi y s hy zq=>oq02 zq λzw nj=>oq24 zw λhome par u he hel hh=>by
   obtain ⟨homes,ended⟩:=s
   unfold cl at hy
   rw [Z7] at hy
   refine oq12 (V2.mp hy) λx hx eq2_=>?_; subst eq2_
   refine oq02 (nH o hx) λg1 g2=>?_
   have hi:i<64:=by
    have:=(Z1.mp hx).1
    exact nz8 this (nz2 (nz3 olen) (nz2 (nz3 hfl) h64))
   have hxn:x<rows.length * c:=by exact nz1 g1 (nz3 hfl)
   refine oq45 (jL hp hc hcm hm h (nz8 h64 (by decide)) o u (nz4 (nz5 hi) (by decide)) he hel hh hxn g2) λhomes' ended' home' par' f1 f2 f3 f4 f5=>?_
   rcases iT (rows:=rows) (reach:=reach) inj f2 (by exact nz8 hi (by decide)) f3 f5 h1 with zr6_ | zr5_
   ·refine oq02 zr6_ λa1 a2=>?_
    exact .inl (oi13 (homes',ended') (bnk f1 (bnk a2 (bnk (a:=false) (if_neg Z2) (if_neg Z2)))) (oi24 home' par' f2 f3 f4 f5) (λz=>oq11 (f2.has one z.1) λs hs=>nomatch a1.symm.trans hs))
   ·refine oq13 zr5_ λr a0 a1 a2=>?_
    rcases iT (rows:=rows) (reach:=reach) inj f2 (by exact nz8 hi (by decide)) f3 f5 h2 with zr8_ | zr7_
    ·refine oq02 zr8_ λb1 b2=>?_
     exact .inl (oi13 (homes',ended') (bnk f1 (bnk a2 (bnk (a:=false) ((if_pos rfl).trans (bnk b2 (congrArg some (decide_eq_false nofun)))) (if_neg Z2)))) (oi24 home' par' f2 f3 f4 f5) (λz=>oq11 (f2.has other z.2.1) λs hs=>nomatch b1.symm.trans hs))
    ·refine oq13 zr7_ λr' b0 b1 b2=>?_
     by_cases q:r=r'
     ·subst q
      exact .inr ⟨_,bnk f1 (bnk a2 (bnk (a:=true) ((if_pos rfl).trans (bnk b2 (congrArg some (decide_eq_true rfl)))) (if_pos rfl))),x,rfl,hxn,nz4 (T4 a0.2) (nz3 g2.symm),nz4 (T4 b0.2) (nz3 g2.symm),by rw [g2]; exact a1.rch.trans (b1.rch.symm Nb.sy b0),by rw [g2]; exact nj⟩
     ·exact .inl (oi13 (homes',ended') (bnk f1 (bnk a2 (bnk (a:=false) ((if_pos rfl).trans (bnk b2 (congrArg some (decide_eq_false λe=>q (K9 (Z3 e)))))) (if_neg Z2)))) (oi24 home' par' f2 f3 f4 f5) (λz=>q ((a1.of_rch Nb.sy a0 z.2.2).same inj b1)))
 rcases key with zr10_ | zr9_
 ·refine oq13 zr10_ λs' e t nj=>?_
  exfalso
  rw [ba,olen,hfl] at nj
  exact nj (oi03 ⟨h1,hρ _ h1⟩ ⟨h2,hρ _ h2⟩ ((l7 hc rfl hρ one h1).trans ((l7 hc rfl hρ other h2).symm Nb.sy ⟨h2,hρ _ h2⟩)))
 ·refine oq12 zr9_ λr e zz=>oq16 zz λm eq3_ g1 g2 g3 g4 g5=>?_; subst eq3_
  refine (oi16 m (by rw [show Pu.forC _ _ _=_ from e]; rfl) g1 g2 g3 g4 (λk k1 k2 k3=>?_))
  rcases Nat.lt_or_ge (rk os m) k with z | z
  ·exact z
  ·exact absurd (oi03 ⟨k1.1,nz1 k1.2 z⟩ ⟨k2.1,nz1 k2.2 z⟩ (k3.mono λa b q1 q2=>⟨q1,q2.1,nz1 q2.2 z⟩)) g5
theorem nI (hc:0<c) (h:∀ r∈rows,r.length=c) (o:Ord rows.flatten os) {x y last:Nat} (hx:x<rows.length * c) (hl:last<rows.length * c):Rch (λa b=>b∈nbL rows.length c reach a) (λy=>upTo rows c last y=true) x y↔Rch (Nb rows.length c reach) (Lv (rows.length * c) (rk os) (rk os last+1)) x y:=by
 have hfl:rows.flatten.length=rows.length * c:=bE h
 have up:∀ z,z<rows.length * c->(upTo rows c last z=true↔rk os z<=rk os last):=λz hz=>by
  rw [o.le_iff (by exact nz1 hz (nz3 hfl.symm)) (by exact nz1 hl (nz3 hfl.symm)),dz hc h hz,dz hc h hl]
  unfold upTo
  simp
 constructor
 ·intro hr
  have:y<rows.length * c/\Rch (Nb rows.length c reach) (Lv (rows.length * c) (rk os) (rk os last+1)) x y:=by
   induction hr with
   | here=>exact ⟨hx,.here⟩
   | on _ g2 g3 ih =>
    have hz:=(dU.mp g2).1
    exact ⟨hz,.on ih.2 ((jx ih.1).mpr g2) ⟨hz,by have:=(up _ hz).mp g3; exact nz2 this (W4 _)⟩⟩
  exact this.2
 ·intro hr
  induction hr with
  | here=>exact .here
  | on _ g2 g3 ih=>exact .on ih ((jx g2.1).mp g2) ((up _ g3.1).mpr (by have:=g3.2; exact T4 this))
theorem fB (hc:0<c) (hcm:c<=100) (hm:rows.length<=100) (h:∀ r∈rows,r.length=c) (h64:rows.length * c<64) (o:Ord rows.flatten os) (eo:Pf.bC rows=some (cl os)) {x later:Nat} (hx:x<rows.length * c) (hl:later<rows.length * c) :
  ∃ ks:List Nat,Pf.aK rows reach (x:Int) (later:Int)=some (cl ks)/\ks.Pairwise (·<·)/\(¬ rk os x<rk os later->ks=[])/\(rk os x<rk os later->∀ y,y∈ks↔Rch (Nb rows.length c reach) (Lv (rows.length * c) (rk os) (rk os later)) x y):=by
 have hfl:rows.flatten.length=rows.length * c:=bE h
 have olen:=o.len
 unfold Pf.aK
 rw [dM hc (by exact nz5 (nz2 hcm (by decide))) h hx hl,bs,bs]
 have lt:lt2 (key rows c x) (key rows c later)=decide (rk os x<rk os later):=by
  rw [X1,decide_eq_true_eq,o.lt_iff (by exact nz1 hx (nz3 hfl.symm)) (by exact nz1 hl (nz3 hfl.symm)),dz hc h hx,dz hc h hl]
 rw [lt]
 by_cases q:rk os x<rk os later
 ·rw [if_neg (by simp [q]),eo,bs]
  have hlo:=o.at_rk (x:=later) (by exact nz1 hl (nz3 hfl.symm))
  have hrl:=o.rk_lt (x:=later) (by exact nz1 hl (nz3 hfl.symm))
  have ei:Pu.index (cl os) (later:Int)=some (rk os later:Int):=by
   unfold Pu.index
   rw [if_pos ⟨fV.mpr (o.mem.mpr (by exact nz1 hl (nz3 hfl.symm))),by rw [ba]; exact nz5 (nz2 (nz3 olen) (nz2 (nz3 hfl) (nz8 h64 (by decide))))⟩]
   congr 2
   have h1:(cl os)[rk os later]?=some (later:Int):=by unfold cl; rw [Z7,hlo]; rfl
   have hlt:=(Z1.mp h1).1
   have:=(Z1.mp h1).2
   rw [<- this]
   exact (pU o.nd).idxOf_getElem _ hlt
  obtain ⟨l,hlp⟩:∃ l,os[rk os later - 1]?=some l:=⟨_,Z6 (by exact nz2 (T8 _ _) (nz1 hrl (nz3 olen.symm)))⟩
  refine oq02 (nH o hlp) λhl1 hl2=>?_
  have ea:Pu.at_ (cl os) ((rk os later:Int) - 1)=some (l:Int):=by
   have e:((rk os later:Int) - 1)=((rk os later - 1:Nat):Int):=by lia
   rw [e,aP]; unfold cl; rw [Z7,hlp]; rfl
  rw [ei,bs,bs,ea,bs]
  refine oq14 (jv (reach:=reach) hc hcm hm h h64 hx (last:=l) (by exact nz1 hl1 (nz3 hfl))) λks k1 k2 k3 k4=>?_
  refine (oi14 ks k1 k2 (λz=>absurd q z) (λa y=>?_))
  have up:upTo rows c l x=true:=by
   unfold upTo
   have:=(o.le_iff (x:=x) (y:=l) (by exact nz1 hx (nz3 hfl.symm)) (by exact hl1)).mp (by (clear k4 k3 k2 k1 ea hl1 hlp ei hrl hlo lt olen hfl hl hx eo o h64 h hm hcm hc; lia))
   rw [dz hc h hx,dz hc h (by exact nz1 hl1 (nz3 hfl))] at this
   rw [this]; rfl
  rw [k4 up y,nI hc h o hx (by exact nz1 hl1 (nz3 hfl))]
  have:rk os l+1=rk os later:=by lia
  rw [this]
 ·rw [if_pos (by simp [q])]
  exact (oi14 ([]) rfl .nil (λa=>rfl) (λz=>absurd z q))
end
end Pf
namespace Gr
section
variable {A:Nat->Nat->Prop} {n k:Nat} {ρ:Nat->Nat} {home home':Nat->Option Nat} {par par':Nat->Option (Nat × Nat)}
theorem Rch.upto {k k' x y:Nat} (h:k<=k') (r:Rch A (Lv n ρ k) x y):Rch A (Lv n ρ k') x y:=r.mono λa a h1 h2=>⟨h1,h2.1,nz1 h2.2 h⟩
theorem Fst.no {k k' s e:Nat} (inj:∀ x y,x<n->y<n->ρ x=ρ y->x=y) (h:k<=k') (f:Fst A n ρ k' s s) (g:Fst A n ρ k s e):e=s :=
 inj e s g.lv.1 f.lv.1 (W9 (g.min s .here) (f.min e (g.rch.upto h)))
theorem UF.home_eq (inj:∀ x y,x<n->y<n->ρ x=ρ y->x=y) (u:UF A n ρ k home par) (u':UF A n ρ k home' par') (x:Nat):home x=home' x:=by
 cases q:home x with
 | none =>
  cases q':home' x with
  | none=>rfl
  | some s =>
   refine oq11 (u.has x (u'.dom x (by rw [q']; exact nofun))) λs' hs=>?_
   rw [q] at hs; cases hs
 | some s =>
  refine oq11 (u'.has x (u.dom x (by rw [q]; exact nofun))) λs' hs=>?_
  rw [hs,(u.hm x s q).same inj (u'.hm x s' hs)]
theorem UF.par_some (inj:∀ x y,x<n->y<n->ρ x=ρ y->x=y) (u:UF A n ρ k home par) (u':UF A n ρ k home' par') {s m e:Nat} (h:par s=some (m,e)):par' s=some (m,e):=by
 refine oq07 (u.pr s m e h) λh1 a h3 a h5 h6 h7=>?_
 rw [u.home_eq inj u'] at h1
 cases q:par' s with
 | none =>
  refine oq12 (u'.liv s s h1) λr l f=>?_
  cases l with
  | root=>exact absurd (Fst.no inj (show ρ m+1<=k from h3.2) f h6) h7
  | up z _=>rw [q] at z; cases z
 | some p =>
  obtain ⟨m',e'⟩:=p
  refine oq07 (u'.pr s m' e' q) λa a g3 a g5 g6 g7=>?_
  have em:ρ m=ρ m':=by
   rcases Nat.lt_trichotomy (ρ m) (ρ m') with z | z | z
   ·exact absurd (Fst.no inj z g5 h6) h7
   ·exact z
   ·exact absurd (Fst.no inj z h5 g6) g7
  have:=inj m m' h3.1 g3.1 em
  subst this
  rw [h6.same inj g6]
theorem UF.par_eq (inj:∀ x y,x<n->y<n->ρ x=ρ y->x=y) (u:UF A n ρ k home par) (u':UF A n ρ k home' par') (s:Nat):par s=par' s:=by
 cases q:par s with
 | some p=>exact (u.par_some inj u' q).symm
 | none =>
  cases q':par' s with
  | none=>rfl
  | some p=>rw [u'.par_some inj u q'] at q; cases q
end
end Gr
namespace Pf
open Fl Pu Gr
noncomputable abbrev cs (l:List Nat):List (Option Int):=l.map λ(x:Nat)=>some (x:Int)
theorem nJ {l:List Nat} {r:Nat}:some (r:Int)∈cs l↔r∈l:=by
 rw [W7]
 exact ⟨λzq=>oq12 zq λa h e=>by rw [<- K9 (Z3 e)]; exact h,λh=>(oi12 r h rfl)⟩
theorem nK (l:List Nat):(cs l).length=l.length:=Y0 ..
theorem eldest_eq {pl:List Int} {n:Nat} {ρ:Nat->Nat} (hp:∀ i,i<n->pl[i]?=some (ρ i:Int)) {l:List Nat} (hl:∀ x∈l,x<n) (ne:l≠[]):∃ e:Nat,Pf.ik (cs l) pl=some (some (e:Int))/\e∈l/\∀ x∈l,ρ e<=ρ x:=by
 cases l with
 | nil=>exact absurd rfl ne
 | cons b l =>
  unfold Pf.ik
  have e0:Pu.at_ (cs (b :: l)) ((0:Nat):Int)=some (some (b:Int)):=by rw [aP]; rfl
  rw [show Pu.at_ (cs (b :: l)) 0=some (some (b:Int)) from e0,bs]
  have key:∃ o:Option Int,(Pu.forS (λ(s4:(Option (Int))) (x3:Option (Int))=>(((x3).bind λx5=>Pu.at_ pl x5).bind λx7=>((s4).bind λx6=>Pu.at_ pl x6).bind λx8=>some (decide (x7<x8))).bind λx10=>if x10=true then some (x3) else some (s4)) (cs (b :: l)) (some (b:Int))).bind (λ(s4:(Option (Int)))=>some (s4))=some o/\∃ e:Nat,o=some (e:Int)/\e∈b :: l/\∀ x∈(b :: l).take (cs (b :: l)).length,ρ e<=ρ x:=by
   refine iN (λi s=>∃ e:Nat,s=some (e:Int)/\e∈b :: l/\∀ x∈(b :: l).take i,ρ e<=ρ x) (oi13 b rfl V0 (λx h=>nomatch h)) ?_ λs h=>(oi12 s rfl h)
   intro i y s hy zq; refine oq13 zq λe eq1_ h1 h2=>?_; subst eq1_
   rw [Z7] at hy
   refine oq12 (V2.mp hy) λx hx eq2_=>?_; subst eq2_
   have hxm:=W6 hx
   have tk:(b :: l).take (i+1)=(b :: l).take i++[x]:=by
    have e:=(Z1.mp hx).2
    rw [<- e,S8]
   simp only [bs]
   rw [aP,hp x (hl x hxm),bs,aP,hp e (hl e h1),bs,bs]
   by_cases q:ρ x<ρ e
   ·refine ⟨_,by rw [if_pos (decide_eq_true (U5.mpr q))],x,rfl,hxm,λz hz=>?_⟩
    rw [tk,Y7,Y8] at hz
    rcases hz with hz | rfl
    ·exact nz4 (nz5 q) (h2 z hz)
    ·exact nz6 _
   ·refine ⟨_,by rw [if_neg (by rw [decide_eq_true_eq,U5]; exact q)],e,rfl,h1,λz hz=>?_⟩
    rw [tk,Y7,Y8] at hz
    rcases hz with hz | rfl
    ·exact h2 z hz
    ·exact X8.mp q
  refine oq12 key λo e1 zz=>oq13 zz λe eq3_ h1 h2=>?_; subst eq3_
  refine (oi13 e e1 h1 ?_)
  rwa [nK,P7] at h2
section
variable {m c n:Nat} {reach:Int} {os:List Nat} {bes:List (List Int)} {pl:List Int}
noncomputable def nL (A:Nat->Nat->Prop) (n:Nat) (ρ:Nat->Nat) (k:Nat) (ls:List (Option Int)):Prop :=
 ls.length=n/\∀ x,x<n->ρ x<k->∃ r:Nat,ls[x]?=some (some (r:Int))/\Fst A n ρ k x r
theorem met_eq {ls:List (Option Int)} (inj:∀ x y,x<n->y<n->rk os x=rk os y->x=y) (hmc:n=m * c) (hn:n<64) (hp:∀ i,i<n->pl[i]?=some (rk os i:Int)) {x:Nat} (hx:x<n) (hl:nL (Nb m c reach) n (rk os) (rk os x) ls) :
  ∃ met:List Nat,(∀ r,r∈met↔∃ o,Nb m c reach x o/\rk os o<rk os x/\Fst (Nb m c reach) n (rk os) (rk os x) o r)/\met.length<=64 /\
   Pu.forS (λ(s12:List (Option Int)) (x11:Int)=>(((Pu.at_ pl x11).bind λx13=>(Pu.at_ pl (x:Int)).bind λx14=>some (decide (x13<x14))).bind λx16=>if x16=true then (Pu.at_ ls x11).bind λx15=>some (!Pu.memO x15 s12) else some false).bind λx20=>if x20=true then (Pu.at_ ls x11).bind λx19=>(Pu.app s12 x19).bind λmet18=>some met18 else some s12) (cl (nbL m c reach x)) []=some (cs met):=by
 have nbl:=mW m c reach x
 have key:=gu (f:=λ(s12:List (Option Int)) (x11:Int)=>(((Pu.at_ pl x11).bind λx13=>(Pu.at_ pl (x:Int)).bind λx14=>some (decide (x13<x14))).bind λx16=>if x16=true then (Pu.at_ ls x11).bind λx15=>some (!Pu.memO x15 s12) else some false).bind λx20=>if x20=true then (Pu.at_ ls x11).bind λx19=>(Pu.app s12 x19).bind λmet18=>some met18 else some s12)
  (λi s=>∃ met:List Nat,s=cs met/\met.length<=i/\∀ r,r∈met↔∃ o,o∈(nbL m c reach x).take i/\rk os o<rk os x/\Fst (Nb m c reach) n (rk os) (rk os x) o r) (xs:=cl (nbL m c reach x)) (s:=[]) (oi13 ([]) rfl (nz6 _) (λr=>⟨λh=>(nomatch h),λzq=>oq12 zq λo h t=>(nomatch h)⟩)) ?_
 ·refine oq12 key λs e zz=>oq13 zz λmet eq3_ h1 h2=>?_; subst eq3_
  rw [ba] at h1 h2
  refine (oi13 met (λr=>?_) (by exact nz5 (nz2 h1 (nz2 nbl (nz2 (nz3 hmc.symm) hn)))) e)
  rw [h2 r,P7]
  exact ⟨λzq=>oq12 zq λo a b=>(oi12 o ((jx (hmc ▸ hx)).mpr a) b),λzq=>oq12 zq λo a b=>(oi12 o ((jx (hmc ▸ hx)).mp a) b)⟩
 ·intro i y s hy zq; refine oq13 zq λmet eq1_ h1 h2=>?_; subst eq1_
  have hi:i<(nbL m c reach x).length:=by have:=(Z1.mp hy).1; rwa [ba] at this
  unfold cl at hy
  rw [Z7] at hy
  refine oq12 (V2.mp hy) λo ho eq2_=>?_; subst eq2_
  have hon:o<n:=hmc ▸ (dU.mp (W6 ho)).1
  have tk:(nbL m c reach x).take (i+1)=(nbL m c reach x).take i++[o]:=by
   have e:=(Z1.mp ho).2
   rw [<- e,S8]
  rw [aP,hp o hon,bs,aP,hp x hx,bs,bs,aP]
  by_cases q:rk os o<rk os x
  ·refine oq12 (hl.2 o hon q) λr e1 f=>?_
   rw [if_pos (decide_eq_true (U5.mpr q)),e1,bs,bs,bs]
   by_cases hm:r∈met
   ·refine ⟨_,by rw [if_neg (by unfold Pu.memO; rw [decide_eq_true (nJ.mpr hm)]; decide)],met,rfl,by exact nz5 (nz2 h1 (W4 _)),λr'=>?_⟩
    rw [h2 r',tk]
    constructor
    ·intro zq; refine oq12 zq λa b d=>?_; exact (oi12 a (Y7.mpr (.inl b)) d)
    ·intro zq; refine oq13 zq λa b d1 d2=>?_
     rcases Y7.mp b with b | b
     ·exact (oi13 a b d1 d2)
     ·rw [Y8] at b
      subst b
      rw [d2.same inj f]
      exact (h2 r).mp hm
   ·refine ⟨_,by rw [if_pos (by unfold Pu.memO; rw [decide_eq_false λz=>hm (nJ.mp z)]; rfl),gz (by rw [nK]; lia),bs],met++[r],by unfold cs; rw [List.map_append]; rfl,by rw [W5,J1]; exact nz2 h1 (W4 _),λr'=>?_⟩
    rw [Y7,Y8,h2 r',tk]
    constructor
    ·rintro (⟨a,b,d⟩ | rfl)
     ·exact (oi12 a (Y7.mpr (.inl b)) d)
     ·exact (oi13 o (Y7.mpr (.inr (Y8.mpr rfl))) q f)
    ·intro zq; refine oq13 zq λa b d1 d2=>?_
     rcases Y7.mp b with b | b
     ·exact .inl (oi13 a b d1 d2)
     ·rw [Y8] at b
      subst b
      exact .inr (d2.same inj f)
  ·rw [if_neg (by rw [decide_eq_true_eq,U5]; exact q),bs]
   refine ⟨_,if_neg Z2,met,rfl,by exact nz5 (nz2 h1 (W4 _)),λr'=>?_⟩
   rw [h2 r',tk]
   constructor
   ·intro zq; refine oq12 zq λa b d=>?_; exact (oi12 a (Y7.mpr (.inl b)) d)
   ·intro zq; refine oq13 zq λa b d1 d2=>?_
    rcases Y7.mp b with b | b
    ·exact (oi13 a b d1 d2)
    ·rw [Y8] at b
     subst b
     exact absurd d1 q
noncomputable def shB (x:Int) (s33:(List (Option (Int))) × (List (Int × ((Option (Int)) × (Option (Int)))))) (x32:Option (Int)):Option ((List (Option (Int))) × (List (Int × ((Option (Int)) × (Option (Int)))))):=((Pu.at_ s33.1 x).bind λx34=>some (!decide (x32=x34))).bind λx46=>if x46=true then ((Pu.at_ s33.1 x).bind λx35=>some ((some (x),x35))).bind λx44=>(x32).bind λx45=>if (s33.2).length<16777216 then (λends38=>(Pu.comp (λ(y39:Option (Int))=>((Pu.at_ s33.1 x).bind λx40=>some ([y39,x40])).bind λx41=>Pu.at_ x41 (Pu.ofb (decide (y39=x32)))) s33.1).bind λlies43=>some ((lies43,ends38))) (Pu.put s33.2 x45 (x44)) else none else some ((s33.1,s33.2))
noncomputable def swB (bes:List (List Int)) (pl:List Int) (s9:(List (Option (Int))) × (List (Option (Int))) × (List (Int × ((Option (Int)) × (Option (Int)))))) (x8:Int):Option ((List (Option (Int))) × (List (Option (Int))) × (List (Int × ((Option (Int)) × (Option (Int)))))):=(Pu.at_ bes x8).bind λx48=>(Pu.forS (λ(s12:(List (Option (Int)))) (x11:Int)=>(((Pu.at_ pl x11).bind λx13=>(Pu.at_ pl x8).bind λx14=>some (decide (x13<x14))).bind λx16=>if x16=true then (Pu.at_ s9.1 x11).bind λx15=>some (!Pu.memO x15 s12) else some false).bind λx20=>if x20=true then (Pu.at_ s9.1 x11).bind λx19=>(Pu.app s12 x19).bind λmet18=>some (met18) else some (s12)) x48 ([])).bind λ(s12:(List (Option (Int))))=>(L2.ixN (s9.1).length x8).bind λj22=>(λlies23=>(if (!decide (s12=[]))=true then (Pf.ik s12 pl).bind λx28=>(L2.ixN (lies23).length x8).bind λj26=>(λlies27=>some (lies27)) ((lies23).set j26 (x28)) else some (lies23)).bind λs24=>(Pu.at_ s24 x8).bind λx47=>(L2.ixN (s9.2.1).length x8).bind λj30=>(λhomes31=>(Pu.forS (shB x8) s12 (s24,s9.2.2)).bind λ(s33:(List (Option (Int))) × (List (Int × ((Option (Int)) × (Option (Int))))))=>some ((s33.1,homes31,s33.2))) ((s9.2.1).set j30 (x47))) ((s9.1).set j22 (some (x8)))
theorem shB_same {x e:Nat} {l1:List (Option Int)} {e1:List (Int × Option Int × Option Int)} (ex:l1[x]?=some (some (e:Int))):shB (x:Int) (l1,e1) (some (e:Int))=some (l1,e1):=bnk (bnk (aP.trans ex) rfl) (if_neg (by simp))
theorem shB_other {x e r:Nat} {l1:List (Option Int)} {e1:List (Int × Option Int × Option Int)} (ex:l1[x]?=some (some (e:Int))) (q':¬ (some (r:Int):Option Int)=some (e:Int)) (hl:l1.length<=1000000) (hel:e1.length<16777216):shB (x:Int) (l1,e1) (some (r:Int))=some (l1.map (λv=>if v=some (r:Int) then some (e:Int) else v),Pu.put e1 (r:Int) (some (x:Int),some (e:Int))) :=
 bnk (bnk (aP.trans ex) rfl) ((if_pos (by simpa using q')).trans (bnk (bnk (aP.trans ex) rfl) ((if_pos hel).trans (bnk (cj hl λv a=>bnk (bnk (aP.trans ex) rfl) (by
  by_cases z:v=some (r:Int)
  ·rw [if_pos z,decide_eq_true z]; rfl
  ·rw [if_neg z,decide_eq_false z]; rfl)) rfl))))
theorem shut_eq {x e:Nat} {met:List Nat} {ls:List (Option Int)} {ends:L2.End_} {par:Nat->Option (Nat × Nat)} (hlx:ls[x]?=some (some (e:Int))) (hl:ls.length<=64) (hm:met.length<=64) (hel:ends.length<=100000) (he:eP ends par) :
  ∃ ls' ends',Pu.forS (shB (x:Int)) (cs met) (ls,ends)=some (ls',ends') /\
   ls'=ls.map (λv=>if v∈cs met/\v≠some (e:Int) then some (e:Int) else v)/\eP ends' (λs=>if s∈met/\s≠e then some (x,e) else par s)/\ends'.length<=ends.length+64:=by
 have key:=gu (f:=shB (x:Int))
  (λi s=>s.1=ls.map (λv=>if v∈cs (met.take i)/\v≠some (e:Int) then some (e:Int) else v)/\s.2.length<=ends.length+i/\∀ t:Nat,find s.2 (t:Int)=if t∈met.take i/\t≠e then some (some (x:Int),some (e:Int)) else find ends (t:Int)) (xs:=cs met) (s:=(ls,ends)) (oi03 ?_ (nz6 _) (λt=>by simp)) ?_
 ·refine oq14 key λzp e1 h1 h2 h3=>?_
  obtain ⟨ls',ends'⟩:=zp
  rw [nK] at h1 h2 h3
  rw [P7] at h1 h3
  refine (oi24 ls' ends' e1 h1 (λt=>?_) (nz4 h2 (M9 hm _)))
  show find ends' (t:Int)=(if t∈met/\t≠e then some (x,e) else par t).map _
  rw [show find ends' (t:Int)=_ from h3 t]
  by_cases q:t∈met/\t≠e
  ·rw [if_pos q,if_pos q]; rfl
  ·rw [if_neg q,if_neg q]; exact he t
 ·simp
 ·rintro i y ⟨l1,e1⟩ hy zq; refine oq03 zq λh1 h2 h3=>?_
  simp only at h1 h2 h3 ⊢
  have hi:i<met.length:=by have:=(Z1.mp hy).1; rwa [nK] at this
  rw [Z7] at hy
  refine oq12 (V2.mp hy) λr hr eq2_=>?_; subst eq2_
  have tk:met.take (i+1)=met.take i++[r]:=by
   have e:=(Z1.mp hr).2
   rw [<- e,S8]
  have ex:l1[x]?=some (some (e:Int)):=by rw [h1,Z7,hlx]; simp
  have mt:∀ v:Option Int,v∈cs (met.take (i+1))↔v∈cs (met.take i)\/v=some (r:Int):=λv=>by
   rw [tk]; unfold cs; rw [List.map_append,Y7]; simp
  by_cases q:r=e
  ·refine (oi14 _ (q.symm ▸ shB_same ex) ?_ (M1 h2) (λt=>?_))
   ·rw [h1]
    refine W8 λv a=>?_
    have:(v∈cs (met.take i)/\v≠some (e:Int))↔(v∈cs (met.take (i+1))/\v≠some (e:Int)):=by
     rw [mt,q]
     exact ⟨λz=>⟨.inl z.1,z.2⟩,λz=>⟨z.1.resolve_right z.2,z.2⟩⟩
    simp only [this]
   ·rw [h3 t,tk]
    have:(t∈met.take i++[r]/\t≠e)↔(t∈met.take i/\t≠e):=by
     rw [Y7,Y8,q]
     exact ⟨λz=>⟨z.1.resolve_right z.2,z.2⟩,λz=>⟨.inl z.1,z.2⟩⟩
    simp only [this]
  ·have q':¬ (some (r:Int):Option Int)=some (e:Int):=λz=>q (K9 (Z3 z))
   refine (oi14 _ (shB_other ex q' (by rw [h1,Y0]; exact nz5 (nz2 hl (by decide))) (by lia)) ?_ ?_ (λt=>?_))
   ·simp only
    rw [h1,U0]
    refine W8 λv a=>?_
    simp only [B8]
    by_cases z:v∈cs (met.take i)/\v≠some (e:Int)
    ·rw [if_pos z,if_neg (λw=>q' w.symm),if_pos ⟨(mt v).mpr (.inl z.1),z.2⟩]
    ·rw [if_neg z]
     by_cases w:v=some (r:Int)
     ·rw [if_pos w,if_pos ⟨(mt v).mpr (.inr w),by rw [w]; exact q'⟩]
     ·rw [if_neg w,if_neg λy=>z ⟨((mt v).mp y.1).resolve_right w,y.2⟩]
   ·have:=put_len (d:=e1) (k:=(r:Int)) (v:=(some (x:Int),some (e:Int)))
    simp only; lia
   ·simp only
    rw [pR,tk]
    by_cases qs:t=r
    ·subst qs
     rw [if_pos rfl,if_pos ⟨by simp,q⟩]
    ·rw [if_neg (by lia),h3 t]
     have:(t∈met.take i++[r]/\t≠e)↔(t∈met.take i/\t≠e):=by
      rw [Y7,Y8]
      exact ⟨λz=>⟨z.1.resolve_right qs,z.2⟩,λz=>⟨.inl z.1,z.2⟩⟩
     simp only [this]
theorem rN {ls homes:List (Option Int)} {ends:L2.End_} {home:Nat->Option Nat} {par:Nat->Option (Nat × Nat)} {k:Nat} (inj:∀ x y,x<n->y<n->rk os x=rk os y->x=y) (hmc:n=m * c) (hn:n<64) (hb:∀ i,i<n->bes[i]?=some (cl (nbL m c reach i))) (hp:∀ i,i<n->pl[i]?=some (rk os i:Int))
  (u:UF (Nb m c reach) n (rk os) k home par) (hk:k<=64) (he:eP ends par) (hel:ends.length<=k * 64) (hh:ca n homes home) (hl:nL (Nb m c reach) n (rk os) k ls) {x:Nat} (hx:x<n) (hr:rk os x=k) :
  ∃ ls' homes' ends' home' par',swB bes pl (ls,homes,ends) (x:Int)=some (ls',homes',ends') /\
   UF (Nb m c reach) n (rk os) (k+1) home' par'/\eP ends' par'/\ends'.length<=(k+1) * 64/\ca n homes' home'/\nL (Nb m c reach) n (rk os) (k+1) ls':=by
 have sy:=Nb.sy (m:=m) (c:=c) (reach:=reach)
 refine oq13 (met_eq (pl:=pl) (reach:=reach) inj hmc hn hp hx (hr ▸ hl)) λmet hmet ml em=>?_
 rw [hr] at hmet
 have ix:L2.ixN ls.length (x:Int)=some x:=iS (by rw [hl.1]; exact hx)
 have ixh:L2.ixN homes.length (x:Int)=some x:=iS (by rw [hh.1]; exact hx)
 have lx:Lv n (rk os) (k+1) x:=⟨hx,by rw [hr]; exact W4 _⟩
 have H9:∃ e:Nat,(if (!decide (cs met=[]))=true then (Pf.ik (cs met) pl).bind λx28=>(L2.ixN (ls.set x (some (x:Int))).length (x:Int)).bind λj26=>(λlies27=>some (lies27)) ((ls.set x (some (x:Int))).set j26 (x28)) else some (ls.set x (some (x:Int))))=some (ls.set x (some (e:Int)))/\(met≠[]->e∈met) /\
   ∃ home',home'=(λy=>if y=x then some e else home y)/\∃ par':Nat->Option (Nat × Nat),par'=(λs=>if s∈met/\s≠e then some (x,e) else par s)/\UF (Nb m c reach) n (rk os) (k+1) home' par':=by
  by_cases ne:met=[]
  ·refine ⟨x,by rw [ne]; rfl,λz=>absurd ne z,_,rfl,_,rfl,?_⟩
   have ep:(λs=>if s∈met/\s≠x then some (x,x) else par s)=par:=by funext s; rw [if_neg (by rw [ne]; exact λz=>nomatch z.1)]
   rw [ep]
   refine u.alone sy inj hx hr (λo ho lo=>?_) (if_pos rfl) λy hy=>if_neg hy
   refine oq12 (hl.2 o lo.1 lo.2) λr a f=>?_
   have:=(hmet r).mpr (oi13 o ho lo.2 f)
   rw [ne] at this; cases this
  ·refine oq13 (eldest_eq (l:=met) hp (λr h=>by refine oq13 ((hmet r).mp h) λo a a f=>?_; exact f.lv.1) ne) λe e1 e2 e3=>?_
   refine ⟨e,?_,λa=>e2,_,rfl,_,rfl,?_⟩
   ·have:cs met≠[]:=λz=>ne (List.map_eq_nil_iff.mp z)
    rw [if_pos (by rw [decide_eq_false this]; rfl),e1,bs,V6,ix,bs,List.set_set]
   ·refine u.meet sy inj (met:=met) (elder:=e) hx hr (λo s ho hs=>?_) (λr h=>?_) e2 e3 (if_pos rfl) (λy hy=>if_neg hy) (λs h1 h2=>if_pos ⟨h1,h2⟩) λs hs=>if_neg hs
    ·refine oq12 (u.liv o s hs) λr h1 h2=>?_
     have lo:=u.dom o (by rw [hs]; exact nofun)
     exact (oi12 r ((hmet r).mpr (oi13 o ho lo.2 h2)) h1)
    ·refine oq13 ((hmet r).mp h) λo h1 h2 h3=>?_
     refine oq11 (u.has o ⟨nz1 h1.2.1 (nz3 hmc.symm),h2⟩) λs hs=>?_
     refine oq12 (u.liv o s hs) λr' g1 g2=>?_
     rw [h3.same inj g2]
     exact (oi23 o s h1 hs g1)
 refine oq13 H9 λe es ee zz=>oq12 zz λhome' eh zz=>oq12 zz λpar' ep u'=>?_
 have hlx:(ls.set x (some (e:Int)))[x]?=some (some (e:Int)):=by rw [O2,if_pos rfl,if_pos (by rw [hl.1]; exact hx)]
 have k64:k * 64<=4096:=Q5 64 hk
 refine oq24 (shut_eq (x:=x) (e:=e) (met:=met) (ls:=ls.set x (some (e:Int))) (ends:=ends) (par:=par) hlx (by rw [V6,hl.1]; exact nz5 hn) ml (by exact nz5 (nz2 hel (nz2 k64 (by decide)))) he) λls' ends' g1 g2 g3 g4=>?_
 refine oi56 ls' (homes.set x (some (e:Int))) ends' home' par' (bnk (aP.trans (hb x hx)) (bnk em (bnk ix (bnk es (bnk (aP.trans hlx) (bnk ixh (bnk g1 rfl))))))) u' (ep ▸ g3) (by rw [M3]; lia) ⟨by rw [V6]; exact hh.1,λy hy=>?_⟩ ⟨by rw [g2,Y0,V6]; exact hl.1,λy hy hyk=>?_⟩
 ·rw [O2,eh]
  show _=some ((if y=x then some e else home y).map _)
  by_cases q:y=x
  ·subst q
   rw [if_pos rfl,if_pos (by rw [hh.1]; exact hy),if_pos rfl]; rfl
  ·rw [if_neg (λz=>q z.symm),if_neg q]; exact hh.2 y hy
 ·have hme:∀ {r:Nat},r∈met->e∈met:=λ{r} h=>ee λz=>by rw [z] at h; cases h
  have fe:Fst (Nb m c reach) n (rk os) (k+1) x e:=by
   have:=u'.hm x e (by rw [eh]; exact if_pos rfl)
   rwa [hr] at this
  rw [g2,Z7]
  by_cases q:y=x
  ·subst q
   exact (oi12 e (by rw [hlx,K5,if_neg (λz=>z.2 rfl)]) fe)
  ·have hyk':rk os y<k:=by
    rcases Nat.lt_succ_iff_lt_or_eq.mp hyk with z | z
    ·exact z
    ·exact absurd (inj y x hy hx (z.trans hr.symm)) q
   refine oq12 (hl.2 y hy hyk') λr e1 f=>?_
   rw [O2,if_neg (λz=>q z.symm),e1,K5]
   by_cases hm:r∈met
   ·refine (oi12 e ?_ ?_)
    ·by_cases z:r=e
     ·rw [z,if_neg (λw=>w.2 rfl)]
     ·rw [if_pos ⟨nJ.mpr hm,λw=>z (K9 (Z3 w))⟩]
    ·refine oq13 ((hmet r).mp hm) λo h1 h2 h3=>?_
     have lo:Lv n (rk os) k o:=⟨nz1 h1.2.1 (nz3 hmc.symm),h2⟩
     have ry:Rch (Nb m c reach) (Lv n (rk os) k) o y:=h3.rch.trans (f.rch.symm sy ⟨hy,hyk'⟩)
     exact Fst.of_rch sy lx ((Rch.on .here h1 lo.up).trans ry.up) fe
   ·refine ⟨r,by rw [if_neg λz=>hm (nJ.mp z.1)],f.rch.up,f.lv.up,λz hz=>?_⟩
    rcases Rch.new sy inj hx hr ⟨hy,hyk'⟩ hz with h | zr1_
    ·exact f.min z h
    ·refine oq14 zr1_ λo h1 h2 h3 a=>?_
     exact absurd ((hmet r).mpr (oi13 o h1 h2.2 (Fst.of_rch sy ⟨hy,hyk'⟩ h3 f))) hm
theorem swept_eq {hs:List Int} (o:Ord hs os) (hs64:hs.length=n) (hmc:n=m * c) (hn:n<64) (hb:∀ i,i<n->bes[i]?=some (cl (nbL m c reach i))) (hp:∀ i,i<n->pl[i]?=some (rk os i:Int)) :
  ∃ homes home par,UF (Nb m c reach) n (rk os) n home par/\ca n homes home/\Pf.pE pl (cl os) bes=some ((os.filter λx=>decide (home x=some x)).map λ(x:Nat)=>((x:Int),(par x).map (λp=>(p.1:Int)),(par x).map (λp=>(p.2:Int))),homes):=by
 have inj:∀ x y,x<n->y<n->rk os x=rk os y->x=y:=λx y hx hy=>o.inj x y (by exact nz1 hx (nz3 hs64.symm)) (by exact nz1 hy (nz3 hs64.symm))
 have olen:=o.len
 unfold Pf.pE
 have e0:Pu.comp (λ(_:Int)=>some (none:Option Int)) (cl os)=some ((cl os).map λa=>none):=cj (by rw [ba]; exact nz5 (nz2 (nz3 olen) (nz2 (nz3 hs64) (nz8 hn (by decide))))) λa a=>rfl
 rw [e0,bs,bs]
 have key:=iN (P:=λ(w:List (Int × Option Int × Option Int) × List (Option Int))=>∃ home par,UF (Nb m c reach) n (rk os) n home par/\ca n w.2 home/\w.1=(os.filter λx=>decide (home x=some x)).map λ(x:Nat)=>((x:Int),(par x).map (λp=>(p.1:Int)),(par x).map (λp=>(p.2:Int))))
  (f:=swB bes pl)
  (k:=λ(s9:(List (Option (Int))) × (List (Option (Int))) × (List (Int × ((Option (Int)) × (Option (Int))))))=>(Pu.bX (λ(y49:Int)=>(Pu.at_ s9.2.1 y49).bind λx50=>some (decide (x50=some y49))) (λ(y49:Int)=>some (((y49),((Pu.find s9.2.2 y49).getD (none,none)).1,((Pu.find s9.2.2 y49).getD (none,none)).2))) (cl os)).bind λtree52=>some ((tree52,s9.2.1)))
  (λi s=>∃ home par,UF (Nb m c reach) n (rk os) i home par/\eP s.2.2 par/\s.2.2.length<=i * 64/\ca n s.2.1 home/\nL (Nb m c reach) n (rk os) i s.1) (xs:=cl os) (s:=((cl os).map λa=>none,(cl os).map λa=>none,[])) ?_ ?_ ?_
 ·refine oq12 key λzp e1 zq=>oq23 zq λhome par u hh et=>?_
  exact (oi33 zp.2 home par u hh (e1.trans (congrArg (λz=>some (z,zp.2)) et)))
 ·refine ⟨λa=>none,λa=>none,UF.start,λa=>rfl,V5 _,⟨by rw [Y0,ba]; exact W9 (nz4 (nz3 olen) (nz3 hs64)) (nz4 (nz3 hs64.symm) (nz3 olen.symm)),λx hx=>?_⟩,by rw [Y0,ba]; exact W9 (nz4 (nz3 olen) (nz3 hs64)) (nz4 (nz3 hs64.symm) (nz3 olen.symm)),λx hx h=>absurd h (N7 _)⟩
  rw [Z7,Z6 (by rw [ba]; exact nz1 hx (nz4 (nz3 hs64.symm) (nz3 olen.symm)))]; rfl
 ·rintro i y ⟨ls,homes,ends⟩ hy zq; refine oq25 zq λhome par u he hel hh hl=>?_
  unfold cl at hy
  rw [Z7] at hy
  refine oq12 (V2.mp hy) λx hx eq2_=>?_; subst eq2_
  refine oq02 (nH o hx) λh1 h2=>?_
  have:=(Z1.mp hx).1
  refine oq56 (rN (pl:=pl) inj hmc hn hb hp u (by (clear h1 hy hx hl hh hel he u e0 inj hp hb o; exact nz5 (nz8 this (nz2 (nz3 olen) (nz2 (nz3 hs64) hn))))) he hel hh hl (x:=x) (by exact nz1 h1 (nz3 hs64)) h2) λls' homes' ends' home' par' g1 g2 g3 g4 g5 g6=>?_
  exact oi12 (ls',homes',ends') g1 (oi25 home' par' g2 g3 g4 g5 g6)
 ·rintro ⟨ls,homes,ends⟩ zq; refine oq25 zq λhome par u he hel hh hl=>?_
  simp only at he hh ⊢
  rw [ba,olen,hs64] at u
  rw [eB (p:=λy=>decide (home y.toNat=some y.toNat)) (g:=λy=>(y,((Pu.find ends y).getD (none,none)).1,((Pu.find ends y).getD (none,none)).2)) (by rw [ba]; exact nz5 (nz2 (nz3 olen) (nz2 (nz3 hs64) (nz8 hn (by decide))))) (λy hy=>?_) λa a a=>rfl,bs]
  ·refine ⟨_,rfl,home,par,u,hh,?_⟩
   simp only
   unfold cl
   rw [K4,U0]
   refine (W8 λx a=>?_)
   simp only [B8]
   rw [he x]
   cases par x <;> rfl
  ·refine oq12 (gA.mp hy) λx hx eq2_=>?_; subst eq2_
   have hx':=o.mem.mp hx
   rw [aP,hh.2 x (by exact nz1 hx' (nz3 hs64)),bs,X0]
   congr 1
   cases q:home x with
   | none=>simp
   | some s=>simp; (clear q hx' hy hx hl hh hel he u e0 olen inj hp hb hn hmc hs64 o; lia)
end
end Pf
namespace Gr
structure By (n:Nat) (h:Nat->Int) (ρ:Nat->Nat):Prop where
 lt:∀ x y,x<n->y<n->(ρ x<ρ y↔h x<h y\/h x=h y/\x<y)
 top:∀ x,x<n->ρ x<n
def Cv (n:Nat) (h:Nat->Int) (t:Int) (x:Nat):Prop:=x<n/\h x<=t
def Root (A:Nat->Nat->Prop) (n:Nat) (h:Nat->Int) (ρ:Nat->Nat) (t:Int) (s:Nat):Prop:=Cv n h t s/\∀ y,Rch A (Cv n h t) s y->ρ s<=ρ y
theorem min_ex {P:Nat->Prop} {f:Nat->Nat}:∀ (N x:Nat),f x<=N->P x->∃ r,P r/\∀ y,P y->f r<=f y:=by
 intro N
 induction N with
 | zero=>exact λx hN hx=>⟨x,hx,λa a=>nz4 hN (V5 _)⟩
 | succ N ih=>exact λx hN hx=>Classical.byCases (λ(q:∃ y,P y/\f y<f x)=>oq12 q λy h1 h2=>ih y (T4 (nz1 h2 hN)) h1) λq=>⟨x,hx,λy hy=>Nat.le_of_not_lt λz=>q ⟨y,hy,z⟩⟩
section
variable {A:Nat->Nat->Prop} {n:Nat} {h:Nat->Int} {ρ:Nat->Nat} {home:Nat->Option Nat} {par:Nat->Option (Nat × Nat)} {t:Int} {x y s r m:Nat}
theorem By.inj (b:By n h ρ) (x y:Nat) (hx:x<n) (hy:y<n) (e:ρ x=ρ y):x=y:=by
 have a:=b.lt x y hx hy
 have c:=b.lt y x hy hx
 lia
theorem By.le (b:By n h ρ) (hx:x<n) (hy:y<n) (e:ρ x<=ρ y):h x<=h y:=by
 have c:=b.lt y x hy hx
 lia
theorem By.lt_of (b:By n h ρ) (hx:x<n) (hy:y<n) (e:h x<h y):ρ x<ρ y:=(b.lt x y hx hy).mpr (.inl e)
theorem cv_lv (b:By n h ρ) (hm:m<n) (e:t<h m) (r:Rch A (Cv n h t) x y):Rch A (Lv n ρ (ρ m)) x y:=r.mono λa a h1 h2=>⟨h1,h2.1,b.lt_of h2.1 hm (P6 h2.2 e)⟩
theorem lv_cv (b:By n h ρ) (hm:m<n) (e:h m<=t) (r:Rch A (Lv n ρ (ρ m+1)) x y):Rch A (Cv n h t) x y:=r.mono λa a h1 h2=>⟨h1,h2.1,V7 (b.le h2.1 hm (T4 h2.2)) e⟩
theorem qa (sy:∀ a b,A a b->A b a) (hx:Cv n h t x):∃ r,Rch A (Cv n h t) x r/\Root A n h ρ t r :=
 oq12 (min_ex (P:=λy=>Rch A (Cv n h t) x y) (f:=ρ) _ x (nz6 _) .here) λr h1 h2=>⟨r,h1,h1.ok_ hx,λy hy=>h2 y (h1.trans hy)⟩
theorem f7 (b:By n h ρ) (u:UF A n ρ n home par) (hs:Cv n h t s):Root A n h ρ t s↔home s=some s/\∀ m e,par s=some (m,e)->t<h m:=by
 constructor
 ·intro f
  refine ⟨oq11 (u.has s ⟨hs.1,b.top s hs.1⟩) λs0 e0=>?_,λm e hp=>Int.not_le.mp λq=>?_⟩
  ·have g:=u.hm s s0 e0
   have e:s0=s:=b.inj s0 s g.lv.1 hs.1 (W9 (g.min s .here) (f.2 s0 (lv_cv b hs.1 hs.2 g.rch)))
   rw [e0,e]
  ·refine oq07 (u.pr s m e hp) λx x h3 x x h6 h7=>h7 ?_
   exact b.inj e s h6.lv.1 hs.1 (W9 (h6.min s .here) (f.2 e (lv_cv b h3.1 q h6.rch)))
 ·intro z
  refine ⟨hs,λy hy=>?_⟩
  cases q:par s with
  | none =>
   refine oq12 (u.liv s s z.1) λr l f=>?_
   cases l with
   | root _=>exact f.min y (hy.mono λx x h1 h2=>⟨h1,h2.1,b.top _ h2.1⟩)
   | up g _=>exact nomatch q.symm.trans g
  | some p =>
   refine oq07 (u.pr s p.1 p.2 q) λx x h3 x h5 x x=>h5.min y (cv_lv b h3.1 (z.2 p.1 p.2 q) hy)
def Long (h:Nat->Int) (home:Nat->Option Nat) (par:Nat->Option (Nat × Nat)) (l:Int) (s:Nat):Prop:=home s=some s/\∀ m e,par s=some (m,e)->l<=h m - h s
structure Put (A:Nat->Nat->Prop) (n:Nat) (h:Nat->Int) (ρ:Nat->Nat) (home:Nat->Option Nat) (par:Nat->Option (Nat × Nat)) (l:Int) (h':Nat->Int):Prop where
 up:∀ x,x<n->h x<=h' x
 all:∀ x s m e,x<n->home s=some s->par s=some (m,e)->h m - h s<l->Rch A (Lv n ρ (ρ m)) s x->h m<=h' x
 from_:∀ x,x<n->h' x=h x\/∃ s m e,home s=some s/\par s=some (m,e)/\h m - h s<l/\Rch A (Lv n ρ (ρ m)) s x/\h' x=h m
section
variable {l:Int} {h':Nat->Int} {ρ':Nat->Nat} {home':Nat->Option Nat} {par':Nat->Option (Nat × Nat)}
theorem hO (sy:∀ a b,A a b->A b a) (b:By n h ρ) (u:UF A n ρ n home par) (p:Put A n h ρ home par l h') (hx:x<n):h' x<=t↔h x<=t/\∃ r,Rch A (Cv n h t) x r/\Root A n h ρ t r/\Long h home par l r:=by
 constructor
 ·intro q
  have hc:Cv n h t x:=⟨hx,V7 (p.up x hx) q⟩
  refine ⟨hc.2,oq12 (qa (ρ:=ρ) sy hc) λr h1 h2=>⟨r,h1,h2,((f7 b u h2.1).mp h2).1,λm e hp=>G2.mp λz=>?_⟩⟩
  have lt:=((f7 b u h2.1).mp h2).2 m e hp
  refine oq07 (u.pr r m e hp) λg1 c g3 c c c c=>?_
  exact absurd (V7 (p.all x r m e hx g1 hp z (cv_lv b g3.1 lt (h1.symm sy hc))) q) (Int.not_le.mpr lt)
 ·intro ⟨q,zq⟩
  refine (p.from_ x hx).elim (λe=>e ▸ q) λz=>oq35 z λs m e g1 g2 g3 g4 g5=>g5 ▸ G2.mp λlt=>?_
  refine oq13 zq λr r1 r2 r3=>oq07 (u.pr s m e g2) λc c h3 c h5 c c=>?_
  have sr:Rch A (Lv n ρ (ρ m)) s r:=g4.trans (cv_lv b h3.1 lt r1)
  have le:=h5.min r sr
  have hr:r≠s:=λz=>by
   subst z
   exact absurd (r3.2 m e g2) (Int.not_le.mpr g3)
  cases qp:par r with
  | none =>
   refine oq12 (u.liv r r r3.1) λr' lq f=>?_
   cases lq with
   | root _ =>
    have:=f.min s ((sr.symm sy h5.lv).mono λc c h1 h2=>⟨h1,h2.1,b.top _ h2.1⟩)
    exact hr (b.inj r s r2.1.1 h5.lv.1 (W9 this le))
   | up g _=>exact nomatch qp.symm.trans g
  | some q2 =>
   refine oq07 (u.pr r q2.1 q2.2 qp) λc c k3 c k5 c c=>?_
   have c1:=r3.2 q2.1 q2.2 qp
   by_cases c2:ρ m<=ρ q2.1
   ·have:=k5.min s ((sr.symm sy h5.lv).mono λc c h1 h2=>⟨h1,h2.1,nz1 h2.2 c2⟩)
    exact hr (b.inj r s r2.1.1 h5.lv.1 (W9 this le))
   ·have c3:=b.le k3.1 h3.1 (nz5 (Nat.lt_of_not_le c2))
    have c4:=b.le h5.lv.1 r2.1.1 le
    lia
theorem iU (sy:∀ a b,A a b->A b a) (b:By n h ρ) (u:UF A n ρ n home par) (p:Put A n h ρ home par l h') (hx:Cv n h' t x):Rch A (Cv n h' t) x y↔Rch A (Cv n h t) x y:=by
 constructor
 ·exact λr=>r.mono λc c h1 h2=>⟨h1,h2.1,V7 (p.up _ h2.1) h2.2⟩
 ·intro r
  refine oq02 ((hO sy b u p hx.1).mp hx.2) λhx1 zq=>oq13 zq λr0 r1 r2 r3=>?_
  have hc:Cv n h t x:=⟨hx.1,hx1⟩
  induction r with
  | here=>exact .here
  | @on y z h1 h2 h3 ih=>exact .on ih h2 ⟨h3.1,(hO sy b u p h3.1).mpr ⟨h3.2,r0,((Rch.on h1 h2 h3).symm sy hc).trans r1,r2,r3⟩⟩
theorem cQ (sy:∀ a b,A a b->A b a) (b:By n h ρ) (u:UF A n ρ n home par) (p:Put A n h ρ home par l h') (hl:1<=l) (hs:s<n) (g:Long h home par l s):h' s=h s:=by
 refine Int.le_antisymm ((hO sy b u p hs).mpr ⟨R0 _,s,.here,(f7 b u ⟨hs,R0 _⟩).mpr ⟨g.1,λm e q=>?_⟩,g⟩) (p.up s hs)
 have:=g.2 m e q
 lia
theorem mz (sy:∀ a b,A a b->A b a) (b:By n h ρ) (b':By n h' ρ') (u:UF A n ρ n home par) (p:Put A n h ρ home par l h') (hl:1<=l) (hs:s<n) (g:Long h home par l s) (ht:h s<=t):Root A n h ρ t s↔Root A n h' ρ' t s:=by
 have e:=cQ sy b u p hl hs g
 have hc:Cv n h' t s:=⟨hs,by rw [e]; exact ht⟩
 constructor
 ·intro f
  refine ⟨hc,λy hy=>Nat.le_of_not_lt λz=>?_⟩
  have yn:y<n:=(hy.ok_ hc).1
  have r1:=f.2 y ((iU sy b u p hc).mp hy)
  have a1:=(b'.lt y s yn hs).mp z
  have a2:=b.lt y s yn hs
  have a3:=b.le hs yn r1
  have a4:=p.up y yn
  lia
 ·intro f
  refine oq02 ((hO sy b u p hs).mp hc.2) λhx1 zq=>oq13 zq λr r1 r2 r3=>?_
  have er:=cQ sy b u p hl r2.1.1 r3
  have q1:=f.2 r ((iU sy b u p hc).mpr r1)
  have q2:=r2.2 s (r1.symm sy ⟨hs,hx1⟩)
  have a1:=b'.lt r s r2.1.1 hs
  have a2:=b.lt r s r2.1.1 hs
  have e0:r=s:=by
   by_cases z:ρ r=ρ s
   ·exact b.inj r s r2.1.1 hs z
   ·lia
  exact e0 ▸ r2
theorem gB (sy:∀ a b,A a b->A b a) (b:By n h ρ) (b':By n h' ρ') (u:UF A n ρ n home par) (u':UF A n ρ' n home' par') (p:Put A n h ρ home par l h') (hl:1<=l) (hs:s<n):Long h home par l s↔Long h' home' par' 1 s:=by
 have hc:Cv n h' (h' s) s:=⟨hs,R0 _⟩
 have rb:=f7 b' u' hc
 constructor
 ·intro g
  have e:=cQ sy b u p hl hs g
  have f:Root A n h ρ (h s) s:=(f7 b u ⟨hs,R0 _⟩).mpr ⟨g.1,λm e q=>by have:=g.2 m e q; lia⟩
  have f':=rb.mp (by rw [e]; exact (mz sy b b' u p hl hs g (R0 _)).mp f)
  exact ⟨f'.1,λm e q=>by have:=f'.2 m e q; lia⟩
 ·intro g
  have f:=rb.mpr ⟨g.1,λm e q=>by have:=g.2 m e q; lia⟩
  refine oq02 ((hO sy b u p hs).mp (R0 (h' s))) λhx1 zq=>oq13 zq λr r1 r2 r3=>?_
  have er:=cQ sy b u p hl r2.1.1 r3
  have q1:=f.2 r ((iU sy b u p hc).mpr r1)
  have q2:=r2.2 s (r1.symm sy ⟨hs,hx1⟩)
  have a1:=b'.lt r s r2.1.1 hs
  have a2:=b.lt r s r2.1.1 hs
  have e0:r=s:=by
   by_cases z:ρ r=ρ s
   ·exact b.inj r s r2.1.1 hs z
   ·lia
  exact e0 ▸ r3
theorem long_ends (sy:∀ a b,A a b->A b a) (b:By n h ρ) (b':By n h' ρ') (u:UF A n ρ n home par) (u':UF A n ρ' n home' par') (p:Put A n h ρ home par l h') (hl:1<=l) (hs:s<n) (g:Long h home par l s):(par s).map (λq=>h q.1)=(par' s).map λq=>h' q.1:=by
 have e:=cQ sy b u p hl hs g
 have g':=(gB sy b b' u u' p hl hs).mp g
 have key:∀ t,h s<=t->((∀ m e,par s=some (m,e)->t<h m)↔∀ m e,par' s=some (m,e)->t<h' m):=λt ht=>by
  have r1:=f7 b u (t:=t) ⟨hs,ht⟩
  have r2:=f7 b' u' (t:=t) (s:=s) ⟨hs,by rw [e]; exact ht⟩
  have r3:=mz sy b b' u p hl hs g ht
  exact ⟨λz=>(r2.mp (r3.mp (r1.mpr ⟨g.1,z⟩))).2,λz=>(r1.mp (r3.mpr (r2.mpr ⟨g'.1,z⟩))).2⟩
 cases q:par s with
 | none =>
  cases q':par' s with
  | none=>rfl
  | some p' =>
   have k1:=g'.2 p'.1 p'.2 q'
   have:=(key (h' p'.1) (by lia)).mp (λm e z=>nomatch q.symm.trans z) p'.1 p'.2 q'
   exact absurd this (Int.lt_irrefl _)
 | some p0 =>
  have k0:=g.2 p0.1 p0.2 q
  cases q':par' s with
  | none =>
   have:=(key (h p0.1) (by lia)).mpr (λm e z=>nomatch q'.symm.trans z) p0.1 p0.2 q
   exact absurd this (Int.lt_irrefl _)
  | some p' =>
   have k1:=g'.2 p'.1 p'.2 q'
   refine congrArg some (Int.le_antisymm (G2.mp λz=>?_) (G2.mp λz=>?_))
   ·have:=(key (h' p'.1) (by lia)).mp (λm e y=>by cases q.symm.trans y; exact z) p'.1 p'.2 q'
    exact absurd this (Int.lt_irrefl _)
   ·have:=(key (h p0.1) (by lia)).mpr (λm e y=>by cases q'.symm.trans y; exact z) p0.1 p0.2 q
    exact absurd this (Int.lt_irrefl _)
def nO (A:Nat->Nat->Prop) (n:Nat) (ρ:Nat->Nat) (a c m:Nat):Prop:=m<n/\ρ a<=ρ m/\ρ c<=ρ m/\Rch A (Lv n ρ (ρ m+1)) a c/\¬ (Lv n ρ (ρ m) a/\Lv n ρ (ρ m) c/\Rch A (Lv n ρ (ρ m)) a c)
theorem qb {a c:Nat} (b:By n h ρ) (ha:a<n) (hc:c<n) (j:nO A n ρ a c m):h m<=t↔h a<=t/\h c<=t/\Rch A (Cv n h t) a c:=by
 refine oq05 j λj1 j2 j3 j4 j5=>⟨λq=>⟨V7 (b.le ha j1 j2) q,V7 (b.le hc j1 j3) q,lv_cv b j1 q j4⟩,λq=>G2.mp λz=>j5 ⟨⟨ha,b.lt_of ha j1 (P6 q.1 z)⟩,⟨hc,b.lt_of hc j1 (P6 q.2.1 z)⟩,cv_lv b j1 z q.2.2⟩⟩
theorem join_same {a c m':Nat} (sy:∀ a b,A a b->A b a) (b:By n h ρ) (b':By n h' ρ') (u:UF A n ρ n home par) (p:Put A n h ρ home par l h') (ha:a<n) (hc:c<n) (ea:h' a=h a) (ec:h' c=h c) (j:nO A n ρ a c m) (j':nO A n ρ' a c m'):h' m'=h m:=by
 have key:∀ t,h' m'<=t↔h m<=t:=λt=>by
  rw [qb b' ha hc j',qb b ha hc j,ea,ec]
  exact ⟨λq=>⟨q.1,q.2.1,(iU sy b u p ⟨ha,by rw [ea]; exact q.1⟩).mp q.2.2⟩,λq=>⟨q.1,q.2.1,(iU sy b u p ⟨ha,by rw [ea]; exact q.1⟩).mpr q.2.2⟩⟩
 exact Int.le_antisymm ((key _).mpr (R0 _)) ((key _).mp (R0 _))
end
end
end Gr
namespace K28
open PySem PySem.Spec PyProof.Rows L2
noncomputable def top (i:Nat):Stmt:=PySem.Challenge.pw_floodtree_k28_whole_kept_lakes.main.body.getD i (.Pass ⟨0,0,0,0⟩)
noncomputable abbrev spLaw:=@L2.qY
noncomputable abbrev l8:Stmt:=top 33
noncomputable abbrev jy:Stmt:=top 29
noncomputable abbrev l9:Stmt:=top 32
noncomputable abbrev nP:Stmt:=top 30
noncomputable abbrev lb:Stmt:=top 31
noncomputable abbrev nQ:Stmt:=top 34
noncomputable abbrev nR:Stmt:=top 35
noncomputable abbrev jz:Stmt:=top 36
noncomputable abbrev nS:Stmt:=top 44
noncomputable abbrev lf:Stmt:=top 41
noncomputable abbrev nT:Stmt:=top 42
noncomputable abbrev nU:Stmt:=top 37
noncomputable abbrev lg:Stmt:=top 38
noncomputable abbrev rO:Stmt:=top 39
noncomputable abbrev im:Stmt:=top 40
noncomputable abbrev nV:Stmt:=top 43
noncomputable abbrev jA:Stmt:=top 1
noncomputable abbrev gC:Stmt:=top 4
noncomputable abbrev gD:Stmt:=top 3
noncomputable abbrev cz:Stmt:=top 5
noncomputable abbrev gE:Stmt:=top 7
noncomputable abbrev di:Stmt:=top 10
noncomputable abbrev bc:Stmt:=inClass (top 12) 0
noncomputable abbrev bx:Stmt:=inClass (top 13) 0
noncomputable abbrev fW:Stmt:=top 2
noncomputable abbrev cr:Stmt:=inClass (top 13) 2
noncomputable abbrev cY:Stmt:=inClass (top 12) 1
noncomputable abbrev cb:Stmt:=top 9
noncomputable abbrev cC:Stmt:=inClass (top 12) 2
noncomputable abbrev dj:Stmt:=inClass (top 13) 3
noncomputable abbrev cZ:Stmt:=top 14
noncomputable abbrev dN:Stmt:=inClass (top 12) 3
noncomputable abbrev jB:Stmt:=top 15
noncomputable abbrev jC:Stmt:=top 21
noncomputable abbrev ft:Stmt:=top 22
noncomputable abbrev eQ:Stmt:=top 8
noncomputable abbrev gF:Stmt:=top 17
noncomputable abbrev dO:Stmt:=top 18
noncomputable abbrev cL:Stmt:=top 19
noncomputable abbrev io:Stmt:=top 6
noncomputable abbrev ip:Stmt:=top 23
noncomputable abbrev d0:Stmt:=inClass (top 13) 1
noncomputable abbrev cu:Stmt:=top 25
noncomputable abbrev gG:Stmt:=top 26
noncomputable abbrev eR:Stmt:=top 27
noncomputable abbrev iV:Stmt:=top 45
section
variable [Kn:Kon] {P:X5} {w:World} {K:Z0} {mg:Str->Option Value} {base:Heap}
variable {CM CW:Addr}
section
variable [Kn:Kon] (P:X5) (w:World) (K:Z0) (mg:Str->Option Value) (base:Heap) (CM CW:Addr)
abbrev f9:Prop:=Has P w K mg base 2 "all_cells" ["floor"] (spL (aOne (rL (rL rInt))) rInt λx=>Pf.de x)
abbrev hW:Prop:=HasI P w K mg base 1 "Meetings" CM ["self","floor"] (spIM CM)
abbrev d4:Prop:=HasM P w K mg base 1 CM "living" ["self","start"] (spV (aw (rM CM) (aOne (rOp rInt))) (rOp rInt) λx=>Pf.aH x.1 x.2)
abbrev lP:Prop:=Has P w K mg base 7 "earliest_of" ["floor","cells"] (spV (aw (rL (rL rInt)) (aOne (rL rInt))) rInt λx=>Pf.cp x.1 x.2)
abbrev dH:Prop:=HasM P w K mg base 2 CW "homes_around" ["self","cell"] (spL (aw (rW CM CW) (aOne rInt)) rInt λx=>Pf.bj x.1 x.2)
abbrev hZ:Prop:=HasM P w K mg base 8 CM "let_meet" ["self","starts","meet"] (spM CM (aw (rL rInt) (aOne rInt)) rInt λx=>Pf.bb x.1 x.2.1 x.2.2)
abbrev fD:Prop:=HasI P w K mg base 4 "Water" CW ["self","floor","reach"] (spIW CM CW λx=>Pf.dv x)
abbrev fE:Prop:=HasM P w K mg base 9 CW "let_come" ["self","cell"] (spW CM CW (aOne rInt) λx=>Pf.bn x.1 x.2)
abbrev iq:Prop:=Has P w K mg base 7 "in_order" ["floor"] (spL (aOne (rL (rL rInt))) rInt λx=>Pf.bC x)
abbrev fg:Prop:=HasM P w K mg base 2 CW "start_now" ["self","cell"] (spV (aw (rW CM CW) (aOne rInt)) (rOp rInt) λx=>Pf.b7 x.1 x.2)
abbrev qc:Prop:=Has P w K mg base 1 "_law_digits" ["_law_cell","_law_many","_law_base"] (spL (aw rInt (aw rInt (aOne rInt))) rInt λx=>Pf.digits x.1 x.2.1 x.2.2)
abbrev hU:Prop:=Has P w K mg base 1 "_law_cell_at" ["_law_script","_law_k"] (spV (aw (rScr K) (aOne rInt)) rInt λx=>Pf.bp x.1 x.2)
abbrev qd:Prop:=Has P w K mg base 1 "_law_folded" ["_law_heights_here","_law_columns"] (spL (aw (rL rInt) (aOne rInt)) (rL rInt) λx=>Pf.folded x.1 x.2)
abbrev kg:Prop:=Has P w K mg base 1 "_law_mixed" ["_law_number","_law_k"] (spV (aw rInt (aOne rInt)) rInt λx=>Pf.mixed x.1 x.2)
abbrev qf:Prop:=Has P w K mg base 2 "_law_height" ["_law_number","_law_k","_law_way"] (spV (aw rInt (aw rInt (aOne rInt))) rInt λx=>Pf.cI x.1 x.2.1 x.2.2)
abbrev H_floor:Prop:=Has P w K mg base 3 "_law_floor" ["_law_script","_law_first"] (spL (aw (rScr K) (aOne rInt)) (rL rInt) λx=>Pf.gY x.1 x.2)
abbrev H_reach:Prop:=Has P w K mg base 2 "_law_reach" ["_law_script","_law_first"] (spV (aw (rScr K) (aOne rInt)) rInt λx=>Pf.reach x.1 x.2)
abbrev jD:Prop:=Has P w K mg base 1 "_law_heights" ["_law_floor_here"] (spL (aOne (rL (rL rInt))) rInt λx=>Pf.f6 x)
abbrev H_least:Prop:=Has P w K mg base 1 "_law_least" ["_law_cell","_law_lakes_here","_law_heights_here"] (spV (aw rInt (aw (rL (rT2 rInt (rOp rInt))) (aOne (rL rInt)))) rInt λx=>Pf.gs x.1 x.2.1 x.2.2)
abbrev qg:Prop:=Has P w K mg base 1 "_law_eldest" ["_law_some","_law_places_here"] (spV (aw (rL (rOp rInt)) (aOne (rL rInt))) (rOp rInt) λx=>Pf.ik x.1 x.2)
abbrev H_swept:Prop:=Has P w K mg base 2 "_law_swept" ["_law_places_here","_law_order_here","_law_beside"] (spV (aw (rL rInt) (aw (rL rInt) (aOne (rL (rL rInt))))) (rH2 (rL (rT3 rInt (rOp rInt) (rOp rInt))) (rL (rOp rInt))) λx=>Pf.pE x.1 x.2.1 x.2.2)
abbrev nW:Prop:=Has P w K mg base 1 "_law_order" ["_law_heights_here"] (spL (aOne (rL rInt)) rInt λx=>Pf.cP x)
abbrev qh:Prop:=Has P w K mg base 2 "_law_places" ["_law_heights_here"] (spL (aOne (rL rInt)) rInt λx=>Pf.gq x)
abbrev H_next:Prop:=Has P w K mg base 1 "_law_next" ["_law_size","_law_reach_here","_law_cell"] (spL (aw (rT2 rInt rInt) (aw rInt (aOne rInt))) rInt λx=>Pf.next x.1 x.2.1 x.2.2)
abbrev lh:Prop:=Has P w K mg base 2 "_law_all_next" ["_law_floor_here","_law_reach_here"] (spL (aw (rL (rL rInt)) (aOne rInt)) (rL rInt) λx=>Pf.gp x.1 x.2)
abbrev H_lakes:Prop:=Has P w K mg base 3 "_law_lakes" ["_law_floor_here","_law_reach_here","_law_least_here"] (spL (aw (rL (rL rInt)) (aw rInt (aOne rInt))) (rT2 rInt (rOp rInt)) λx=>Pf.dG x.1 x.2.1 x.2.2)
abbrev eC:Prop:=Has P w K mg base 1 "size_of" ["floor"] (spV (aOne (rL (rL rInt))) (rT2 rInt rInt) λx=>Pf.size_of x)
abbrev dI:Prop:=Has P w K mg base 2 "height_of" ["floor","cell"] (spV (aw (rL (rL rInt)) (aOne rInt)) rInt λx=>Pf.bF x.1 x.2)
abbrev dQ:Prop:=Has P w K mg base 3 "heights_by_number" ["floor"] (spL (aOne (rL (rL rInt))) rInt λx=>Pf.bQ x)
abbrev fh:Prop:=Has P w K mg base 3 "order_key" ["floor","cell"] (spV (aw (rL (rL rInt)) (aOne rInt)) (rT2 rInt rInt) λx=>Pf.bZ x.1 x.2)
abbrev fX:Prop:=Has P w K mg base 1 "neighbours" ["size","reach","cell"] (spL (aw (rT2 rInt rInt) (aw rInt (aOne rInt))) rInt λx=>Pf.dc x.1 x.2.1 x.2.2)
abbrev fY:Prop:=HasM P w K mg base 1 CM "tree" ["self","starts"] (spL (aw (rM CM) (aOne (rL rInt))) (rT3 rInt (rOp rInt) (rOp rInt)) λx=>Pf.cE x.1 x.2)
abbrev nX:Prop:=Has P w K mg base 11 "water_over" ["floor","reach","cells"] (spV (aw rF (aw rInt (aOne (rL rInt)))) (rW CM CW) λx=>Pf.cX x.1 x.2.1 x.2.2)
abbrev mB:Prop:=Has P w K mg base 12 "tree_of" ["floor","reach"] (spL (aw (rL (rL rInt)) (aOne rInt)) (rT3 rInt (rOp rInt) (rOp rInt)) λx=>Pf.df x.1 x.2)
abbrev mC:Prop:=Has P w K mg base 3 "life_of" ["floor","start","meet"] (spV (aw (rL (rL rInt)) (aw rInt (aOne (rOp rInt)))) (rOp rInt) λx=>Pf.k9 x.1 x.2.1 x.2.2)
abbrev i9:Prop:=Has P w K mg base 13 "short_lived" ["floor","reach","least"] (spL (aw (rL (rL rInt)) (aw rInt (aOne rInt))) (rT2 rInt (rOp rInt)) λx=>Pf.cF x.1 x.2.1 x.2.2)
abbrev d5:Prop:=Has P w K mg base 4 "comes_before" ["floor","one","other"] (spV (aw (rL (rL rInt)) (aw rInt (aOne rInt))) bJ λx=>Pf.bO x.1 x.2.1 x.2.2)
abbrev gH:Prop:=Has P w K mg base 5 "ways_back" ["floor","reach","cell","last"] (spD (aw (rL (rL rInt)) (aw rInt (aw rInt (aOne rInt)))) (rOp rInt) λx=>Pf.fz x.1 x.2.1 x.2.2.1 x.2.2.2)
abbrev fZ:Prop:=Has P w K mg base 6 "stretch_under" ["floor","reach","cell","last"] (spL (aw (rL (rL rInt)) (aw rInt (aw rInt (aOne rInt)))) rInt λx=>Pf.cD x.1 x.2.1 x.2.2.1 x.2.2.2)
abbrev cM:Prop:=Has P w K mg base 8 "stretch_ahead_of" ["floor","reach","cell","later"] (spL (aw (rL (rL rInt)) (aw rInt (aw rInt (aOne rInt)))) rInt λx=>Pf.aK x.1 x.2.1 x.2.2.1 x.2.2.2)
abbrev li:Prop:=Has P w K mg base 1 "floor_of" ["size","heights"] (spG (aw (rT2 rInt rInt) (aOne (rL rInt))) rNN λx=>Pf.gr x.1 x.2)
abbrev lj:Prop:=Has P w K mg base 14 "put_away" ["floor","reach","least"] (spG (aw (rL (rL rInt)) (aw rInt (aOne rInt))) rNN λx=>Pf.dg x.1 x.2.1 x.2.2)
abbrev jN:Prop:=Has P w K mg base 6 "way_under" ["floor","reach","one","other","last"] (spL (aw (rL (rL rInt)) (aw rInt (aw rInt (aw rInt (aOne rInt))))) rInt λx=>Pf.gZ x.1 x.2.1 x.2.2.1 x.2.2.2.1 x.2.2.2.2)
abbrev ll:Prop:=Has P w K mg base 11 "joining_cell" ["floor","reach","one","other"] (spV (aw rF (aw rInt (aw rInt (aOne rInt)))) (rOp rInt) λx=>Pf.cx x.1 x.2.1 x.2.2.1 x.2.2.2)
abbrev gJ:Prop:=Has P w K mg base 12 "pass_between" ["floor","reach","one","other"] (spV (aw (rL (rL rInt)) (aw rInt (aw rInt (aOne rInt)))) (rT3 rInt (rL rInt) (rL rInt)) λx=>Pf.cy x.1 x.2.1 x.2.2.1 x.2.2.2)
end
theorem gK (D:ij K mg "Meetings" CM "Meetings.__init__" bc ["self","floor"]) (B:Blt mg) (kM:MK K CM) (kW:WK K CW):HasI P w K mg base 1 "Meetings" CM ["self","floor"] (spIM CM):=by
 have sc:FnScope ["self","floor"] ["self","floor"] (ae bc):=⟨rfl,rfl,rfl,by decide +kernel,rfl,by decide +kernel,by decide +kernel⟩
 refine D.has sc (λvs H Q E h=>?_) λf cdv A outer s H vs Q E hr h=>?_
 ·exact oq32 h λx x x e x=>congrArg G1 e
 ·exact ⟨_,ac (jb (pv 0) (pv 1) rfl) (ah (jb (pv 0) oJ rfl)),init_M kM rfl h⟩
theorem iW (D:ij K mg "Water" CW "Water.__init__" bx ["self","floor","reach"]) (B:Blt mg) (kM:MK K CM) (kW:WK K CW) (G05:f9 P w K mg base) (G101:hW P w K mg base CM):HasI P w K mg base 4 "Water" CW ["self","floor","reach"] (spIW CM CW λx=>Pf.dv x):=by
 have sc:FnScope ["self","floor","reach"] ["self","floor","reach"] (ae bx):=⟨rfl,rfl,rfl,by decide +kernel,rfl,by decide +kernel,by decide +kernel⟩
 refine D.has sc (λvs H Q E h=>?_) λf cdv A outer s H vs Q E hr h=>?_
 ·exact oq72 h λa a a a a a a e a=>congrArg G1 e
 ·exact ⟨_,ac (jb (pv 0) (pv 1) rfl) (ac (jb (pv 0) (pv 2) rfl) (ac (jb (pv 0) (cg (loc:=["cell"]) (cap:=[]) rfl ⟨rfl,by decide +kernel,by decide +kernel,rfl,trivial,rfl⟩ (aG (K:=K) rfl (ak G05 (hr.mono (by decide)) rfl (a8 (pv 1) aa))) (λa a a a=>(ar (i:=0) (show (["cell"]:List Str).Nodup by decide +kernel) rfl (Or.inl rfl))) (λa a a a=>bI) (λa a a a=>ck)) rfl)
   (ah (jb (pv 0) (kU G101 (hr.mono (by decide)) rfl (a8 (pv 1) aa)) rfl)))),
   init_W kW (λrows reach=>(show EVL _ _ _ _ from bY (aQ sq_l (aC (ao (a7 1 rfl))).ev) (by decide) (by decide) (aJ 0) λy=>cU).cast (by unfold Pf.dv; simp only [Pu.bs])) rfl h⟩
theorem gL (D:bB K CM "let_meet" "Meetings.let_meet" cC ["self","starts","meet"]) (B:Blt mg) (kM:MK K CM) (kW:WK K CW) (G13:d4 P w K mg base CM) (G102:lP P w K mg base):HasM P w K mg base 8 CM "let_meet" ["self","starts","meet"] (spM CM (aw (rL rInt) (aOne rInt)) rInt λx=>Pf.bb x.1 x.2.1 x.2.2):=by
  have sc:FnScope ["self","starts","meet","#ended","met","elder","start"] ["self","starts","meet"] (ae cC):=⟨rfl,rfl,rfl,by decide +kernel,rfl,by decide +kernel,by decide +kernel⟩
  have nd:=sc.nd
  refine D.pM (n:=3) (gx:="#ended") sc (λh=>rfl) rfl rfl (by decide +kernel) λf cdv A outer s H E hr=>?_
  have hu:=aU hr
  refine ⟨_,ac (da (loc:=["start"]) (cap:=[("self",0)]) (i:=4) rfl ⟨rfl,by decide +kernel,by decide +kernel,rfl,⟨⟨rfl,rfl,by first | exact Or.inl rfl | exact Or.inr rfl⟩,trivial⟩,rfl⟩ nd rfl (Or.inl rfl) (aG (K:=K) rfl (pv 1)) (λh h h h=>(ar (i:=0) (show (["start","self"]:List Str).Nodup by decide +kernel) rfl (Or.inl rfl))) (λh h h h=>bI) (λh h h h=>(cW G13 (pv 1) kM.c (hr.mono (by decide)) (a8 (pv 0) aa))))
    (ac (au (i:=5) nd rfl (Or.inl rfl) (ak G102 (hr.mono (by decide)) rfl (a8 (c8 (K:=K) rfl (pv 0) rfl) (a8 (pv 4) aa))))
    (ac (c6 W2 rfl (aG (K:=K) rfl (pv 4)) (ar (i:=6) nd rfl (Or.inl rfl))
      (ah (bH (aB oq (pv 6) (pv 5) (aI _)) (ah (mV hu (c8 (K:=K) rfl (pv 0) rfl) (pv 6) (cH (a8 (pv 2) (a8 (pv 5) aa))) rfl)) aM)))
    (ah (ax (pv 5))))),λrows p ended a=>BV.cast
    (az 4 (evl_borM 0 3 rfl rfl bK (bY (aQ sq_l (a7 1 rfl)) (by decide) (by decide) (aJ 0) λy=>cJ (k8 ob_m (a7 1 rfl) (ao (dW (a7 0 rfl)))))).ev λmet =>
     az 5 (aA (aj (rq kM (a7 0 rfl)) (ao (a7 4 rfl)))) λelder =>
     bU (Γf:=λ(s:End_)=>[.fr (rM0 CM) (rows,p),.fr (rL rInt) a.1,.fr rInt a.2,.od rP (λb=>b=p) s,.fr (rL rInt) met,.fr rInt elder,.any]) ended (aQ sq_l (a7 4 rfl)) (sbR (sbR (sbR (sbR (sbR (sbR (sbA .nil))))))) (λh=>aJ 6)
      (λs x=>aR (bM (bf (kP dC (a7 6 rfl) (a7 5 rfl)))
        (bv_putG 3 (own_mE kM 0 3 rfl rfl) rfl (a7 6 rfl) (cG (dW (a7 2 rfl)) (dW (a7 5 rfl))) λy=>aL y (sbR (sbR (sbR (sbR (sbR (sbR (sbA .nil))))))))
        (aN (aL s (sbR (sbR (sbR (sbR (sbR (sbR (sbA .nil)))))))))))
      λs=>bv_retM 3 rfl (a7 5 rfl))
    (by unfold Pf.bb; first | (simp only [Pu.bs,nz9]; done) | (simp only [Pu.bs,nz9]; rfl))⟩
theorem iX (D:bB K CW "let_come" "Water.let_come" dj ["self","cell"]) (B:Blt mg) (kM:MK K CM) (kW:WK K CW) (G103:dH P w K mg base CM CW) (G104:hZ P w K mg base CM):HasM P w K mg base 9 CW "let_come" ["self","cell"] (spW CM CW (aOne rInt) λx=>Pf.bn x.1 x.2):=by
  have sc:FnScope ["self","cell","#homes","#ended","homes"] ["self","cell"] (ae dj):=⟨rfl,rfl,rfl,by decide +kernel,rfl,by decide +kernel,by decide +kernel⟩
  have nd:=sc.nd
  refine D.pW (n:=1) (gx:="#homes") (gy:="#ended") sc (λb=>rfl) rfl rfl (by decide +kernel) rfl (by decide +kernel) λf cdv A outer s H E hr=>?_
  have hu:=aU hr
  refine ⟨_,ac (au (i:=4) nd rfl (Or.inl rfl) (cW G103 (pv 0) kW.c (hr.mono (by decide)) (a8 (pv 1) aa)))
    (ah (gc (kj (mZ (K:=K) rfl (pv 4) (λb=>rfl)) (cW G104 (c8 (K:=K) rfl (pv 0) rfl) kM.c (hr.mono (by decide)) (a8 (pv 4) (a8 (pv 1) aa))) (pv 1)) (ja (c8 (K:=K) rfl (pv 0) rfl) (pv 1) set_list))),λrows reach hh p homes ended a=>BV.cast
    (az 4 (evl_borW 0 2 3 rfl rfl rfl (by decide) bK (pc ob_w (a7 0 rfl) (ao (a7 1 rfl)))).ev λhs =>
     aR (bv_setAtM (g:=3) 2 (by decide) (λe=>own_wH kW 0 2 rfl rfl) rfl (λe=>a7 1 rfl) (em_some (em_if (ni sq_l (a7 4 rfl)) (em_meth kW 0 rfl rfl (aj (a7 4 rfl) (ao (a7 1 rfl)))) (em_pure rfl (a7 1 rfl))))
      λys e=>bv_endW 2 3 rfl rfl))
    (by unfold Pf.bn; first | (simp only [Pu.bs,nz9]; done) | (simp only [Pu.bs,nz9]; rfl))⟩
theorem lQ (D:av K mg "water_over" cZ ["floor","reach","cells"]) (B:Blt mg) (kM:MK K CM) (kW:WK K CW) (G14:fD P w K mg base CM CW) (G15:fE P w K mg base CM CW):Has P w K mg base 11 "water_over" ["floor","reach","cells"] (spV (aw rF (aw rInt (aOne (rL rInt)))) (rW CM CW) λx=>Pf.cX x.1 x.2.1 x.2.2):=by
  have sc:FnScope ["floor","reach","cells","#homes","#ended","water","cell"] ["floor","reach","cells"] (ae cZ):=⟨rfl,rfl,rfl,by decide +kernel,rfl,by decide +kernel,by decide +kernel⟩
  have nd:=sc.nd
  refine D.pV sc (λh=>rfl) rfl λf cdv A outer s H E hr=>?_
  have hu:=aU hr
  refine ⟨_,ac (au (i:=5) nd rfl (Or.inl rfl) (kU G14 (hr.mono (by decide)) rfl (a8 (pv 0) (a8 (pv 1) aa))))
    (nC (x:="#homes") 3 (nC (x:="#ended") 4 (ac (c6 W2 rfl (aG (K:=K) rfl (pv 2)) (ar (i:=6) nd rfl (Or.inl rfl)) (ah (dq (cW G15 (pv 5) kW.c (hr.mono (by decide)) (a8 (pv 6) aa)))))
      (ah (ax (pv 5)))) rfl (show i6 (ae cZ) "#ended"=true by decide +kernel)) rfl (show i6 (ae cZ) "#homes"=true by decide +kernel)),λa=>BV.cast
    (bv_make 5 3 4 ⟨by decide,by decide,by decide,(show 3<7 by decide),(show 4<7 by decide)⟩ (aj (a7 0 rfl) (ao (a7 1 rfl))) λrows reach hh p homes =>
     bU (Γf:=λ(s:List (Option Int) × End_)=>[.fr rF a.1,.fr rInt a.2.1,.fr (rL rInt) a.2.2,.ol (rOp rInt) (λb=>b=hh) s.1,.od rP (λb=>b=p) s.2,.fr (rW0 CM CW) (rows,reach,hh,p),.any]) (homes,[]) (aQ sq_l (a7 2 rfl)) (sbR (sbR (sbR (sbR (sbR (sbR (sbA .nil))))))) (λh=>aJ 6)
      (λs x=>aR (bv_come 5 3 4 (by decide) rfl rfl rfl (ao (a7 6 rfl)) (λhs es=>aL (hs,es) (sbR (sbR (sbR (sbR (sbR (sbR (sbA .nil)))))))) ob_w0))
      λs=>bv_retW 5 3 4 (by decide) rfl rfl rfl ⟨by decide,by decide,(show 5<7 by decide)⟩)
    (by unfold Pf.cX; first | (simp only [Pu.bs,nz9]; done) | (simp only [Pu.bs,nz9]; rfl))⟩
theorem jU (D:av K mg "joining_cell" cu ["floor","reach","one","other"]) (B:Blt mg) (kM:MK K CM) (kW:WK K CW) (G14:fD P w K mg base CM CW) (G06:iq P w K mg base) (G15:fE P w K mg base CM CW) (G90:fg P w K mg base CM CW):Has P w K mg base 11 "joining_cell" ["floor","reach","one","other"] (spV (aw rF (aw rInt (aw rInt (aOne rInt)))) (rOp rInt) λx=>Pf.cx x.1 x.2.1 x.2.2.1 x.2.2.2):=by
  have sc:FnScope ["floor","reach","one","other","#homes","#ended","water","cell","start"] ["floor","reach","one","other"] (ae cu):=⟨rfl,rfl,rfl,by decide +kernel,rfl,by decide +kernel,by decide +kernel⟩
  have nd:=sc.nd
  refine D.pV sc (λy=>rfl) rfl λf cdv A outer s H E hr=>?_
  have hu:=aU hr
  refine ⟨_,ac (au (i:=6) nd rfl (Or.inl rfl) (kU G14 (hr.mono (by decide)) rfl (a8 (pv 0) (a8 (pv 1) aa))))
    (nC (x:="#homes") 4 (nC (x:="#ended") 5 (ac (c6 W2 rfl (aG (K:=K) rfl (ak G06 (hr.mono (by decide)) rfl (a8 (pv 0) aa))) (ar (i:=7) nd rfl (Or.inl rfl))
      (ac (dq (cW G15 (pv 6) kW.c (hr.mono (by decide)) (a8 (pv 7) aa)))
      (ac (au (i:=8) nd rfl (Or.inl rfl) (cW G90 (pv 6) kW.c (hr.mono (by decide)) (a8 (pv 2) aa)))
      (ah (bH (PW.pt (ki (aB mM (pv 8) ck (aI _)) (iw (aB dA (pv 8) (cW G90 (pv 6) kW.c (hr.mono (by decide)) (a8 (pv 3) aa)) (aI _))))) (ah (ax (pv 7))) aM)))))
      (ah (ax ck))) rfl (show i6 (ae cu) "#ended"=true by decide +kernel)) rfl (show i6 (ae cu) "#homes"=true by decide +kernel)),λa=>BV.cast
    (bv_make 6 4 5 ⟨by decide,by decide,by decide,(show 4<9 by decide),(show 5<9 by decide)⟩ (aj (a7 0 rfl) (ao (a7 1 rfl))) λrows reach hh p homes =>
     nq (Γf:=λ(s:List (Option Int) × End_)=>[.fr rF a.1,.fr rInt a.2.1,.fr rInt a.2.2.1,.fr rInt a.2.2.2,.ol (rOp rInt) (λb=>b=hh) s.1,.od rP (λb=>b=p) s.2,.fr (rW0 CM CW) (rows,reach,hh,p),.any,.any]) (rf:=finV (rOp rInt)) (e:=(λx=>x)) (homes,[]) (aQ sq_l (aC (ao (a7 0 rfl))).ev) (sbR (sbR (sbR (sbR (sbR (sbR (sbR (sbA (sbA .nil))))))))) (λy=>aJ 7)
      (λs x=>bv_come 6 4 5 (by decide) rfl rfl rfl (ao (a7 7 rfl)) (λhs es =>
        az 8 (ev_borW 6 4 5 rfl rfl rfl (by decide) (eV bK) (k8 ob_w (a7 6 rfl) (ao (a7 2 rfl)))) λst =>
        aR (bM (ng (bf (n8 (a7 8 rfl) jj)) (bf (cm sc_oo (a7 8 rfl) (ev_borW 6 4 5 rfl rfl rfl (by decide) (eV bK) (k8 ob_w (a7 6 rfl) (ao (a7 3 rfl)))))))
          (bT (bv_retC (b9 (dW (a7 7 rfl)))))
          (aN (oX (hs,es) (sbR (sbR (sbR (sbR (sbR (sbR (sbR (sbA (sbA .nil)))))))))))) ) ob_w0)
      rfV (λy y y h=>h) λs=>b9 cU)
    (by unfold Pf.cx; first | (simp only [Pu.bs,nz9]; done) | (simp only [Pu.bs,nz9]; rfl))⟩
theorem mD:FnScope ["_law_cell","_law_many","_law_base","_law_found","_law_k"] ["_law_cell","_law_many","_law_base"] (ae l8):=⟨rfl,rfl,rfl,by decide +kernel,rfl,by decide +kernel,by decide +kernel⟩
theorem ok_digits (D:av K mg "_law_digits" l8 ["_law_cell","_law_many","_law_base"]) (B:Blt mg) (kM:MK K CM) (kW:WK K CW) :qc P w K mg base:=by
 have nd:=mD.nd
 refine D.pL mD (λx=>rfl) rfl λf cdv A outer s H E hr=>?_
 have hu:=aU hr
 exact ⟨_,(ac (au (i:=3) nd rfl (Or.inl rfl) (bW aa))
   (ac (c6 W2 rfl (fu rfl B.range (a8 (pv 1) aa)) (ar (i:=4) nd rfl (Or.inl rfl))
   (ac (dq (fk (K:=K) rfl U6 T5 T6 cw (pv 3) (a8 (ap b8 (pv 0) (pv 2)) aa)))
   (ah (au (i:=0) nd rfl (Or.inl rfl) (ap bz (pv 0) (pv 2))))))
   (ah (ax (gh (gk (K:=K) rfl) (pv 3) po_none (dS (ap eD (pv 1) (jd lW (by rfl) B.int_ bo_int (a8 (mN op_gt (pv 0) af (aI _)) aa))))))))),
  λa=>BV.cast (ci 3 (bu (r:=rInt) bt) λfound1=>(bU (Γf:=λ(s3:Int × (List (Int)))=>[.fr rInt (s3.1),.fr rInt (a.2.1),.fr rInt (a.2.2),.ol rInt tt_ (s3.2),.any]) ((a.1,found1)) (iI (a7 1 rfl)) (sbR (sbR (sbR (sbR (sbA .nil))))) (λx=>(aJ 4))
  (λs3 x2=>(cN 3 rfl (eG (a7 0 rfl) (a7 2 rfl)) λfound4=>(aR (az 0 (fQ (a7 0 rfl) (a7 2 rfl)) λcell6=>(aL ((cell6,found4)) (sbR (sbR (sbR (sbR (sbA .nil))))))))))
  λs3=>(bN (nl 3 rfl bK (iH sq_l (a7 3 rfl) eo_none (dY (fq (a7 1 rfl) (ev_intB (ev_gt (a7 0 rfl) ag))))))))) (by unfold Pf.digits; first | rfl | (simp only [Pu.bs]; done) | (simp only [Pu.bs,nz9]; done))⟩
theorem lr:FnScope ["_law_script","_law_k"] ["_law_script","_law_k"] (ae jy):=⟨rfl,rfl,rfl,by decide +kernel,rfl,by decide +kernel,by decide +kernel⟩
theorem rQ (D:av K mg "_law_cell_at" jy ["_law_script","_law_k"]) (B:Blt mg) (kM:MK K CM) (kW:WK K CW) :hU P w K mg base:=by
 have nd:=lr.nd
 refine D.pV lr (λx=>rfl) rfl λf cdv A outer s H E hr=>?_
 have hu:=aU hr
 exact ⟨_,(ac (bH (aB kq (pv 1) (ay (aX (K:=K) rfl) (by rfl) B.len ce (a8 (pv 0) aa)) (aI _))
   (ah (ax (aD (aq (K:=K) rfl) (pv 0) (pv 1) (λx x=>rfl))))
   aM)
   (ah (ax af))),
  λa=>BV.cast (bM (bf (ev_lt (a7 1 rfl) (cf sq_s (a7 0 rfl))))
  (bT (b9 (aE sq_s (a7 0 rfl) (a7 1 rfl))))
  (aN (b9 ag))) (by unfold Pf.bp; first | rfl | (simp only [Pu.bs]; done) | (simp only [Pu.bs,nz9]; done))⟩
theorem mE:FnScope ["_law_heights_here","_law_columns"] ["_law_heights_here","_law_columns"] (ae l9):=⟨rfl,rfl,rfl,by decide +kernel,rfl,by decide +kernel,by decide +kernel⟩
theorem ok_folded (D:av K mg "_law_folded" l9 ["_law_heights_here","_law_columns"]) (B:Blt mg) (kM:MK K CM) (kW:WK K CW) :qd P w K mg base:=by
 have nd:=mE.nd
 refine D.pL mE (λx=>rfl) rfl λf cdv A outer s H E hr=>?_
 have hu:=aU hr
 exact ⟨_,(ah (ax (cg (loc:=["_law_k"]) (cap:=[("_law_heights_here",0),("_law_columns",1)]) rfl ⟨rfl,by decide +kernel,by decide +kernel,rfl,⟨⟨rfl,rfl,by first | exact Or.inl rfl | exact Or.inr rfl⟩,⟨⟨rfl,rfl,by first | exact Or.inl rfl | exact Or.inr rfl⟩,trivial⟩⟩,rfl⟩  (pi_range3 rfl B.range (a8 af (a8 (ap bh (ap d9 (ay (aX (K:=K) rfl) (by rfl) B.len ce (a8 (pv 0) aa)) (pv 1)) af) (a8 (pv 1) aa)))) (λx x x x=>(ar (i:=0) (show (["_law_k","_law_heights_here","_law_columns"]:List Str).Nodup by decide +kernel) rfl (Or.inl rfl))) (λx x x x=>bI) (λx x x x=>(gh (gk (K:=K) rfl) (pv 1) (dS (pv 0)) (dS (ap bh (pv 0) (pv 2)))))))),
  λa=>BV.cast (bN (bY (iv_rng3 ag (bi (db (cf sq_l (a7 0 rfl)) (a7 1 rfl)) ag) (a7 1 rfl)) (by decide) (by decide) (aJ 0) λy1=>((iH sq_l (a7 1 rfl) (dY (a7 0 rfl)) (dY (bi (a7 0 rfl) (a7 2 rfl))))).ev)) (by unfold Pf.folded; first | rfl | (simp only [Pu.bs]; done) | (simp only [Pu.bs,nz9]; done))⟩
theorem qi:FnScope ["_law_number","_law_k"] ["_law_number","_law_k"] (ae nP):=⟨rfl,rfl,rfl,by decide +kernel,rfl,by decide +kernel,by decide +kernel⟩
theorem ok_mixed (D:av K mg "_law_mixed" nP ["_law_number","_law_k"]) (B:Blt mg) (kM:MK K CM) (kW:WK K CW) :kg P w K mg base:=by
 have nd:=qi.nd
 refine D.pV qi (λx=>rfl) rfl λf cdv A outer s H E hr=>?_
 have hu:=aU hr
 exact ⟨_,(ah (ax (ap b8 (ap bh (ap bh (ap eD (ap b8 (pv 0) (ap gf af af)) af) (ap eD (ap eD (pv 1) (pv 1)) af)) af) af))),
  λa=>BV.cast (b9 (bo (bi (bi (ev_mulT (bo (a7 0 rfl) (eZ (v:=100000000000000000000) ag ag (by decide)) (by decide)) ag (by decide)) (ev_mulT (fq (a7 1 rfl) (a7 1 rfl)) ag (by decide))) ag) ag (by decide))) (by unfold Pf.mixed; first | rfl | (simp only [Pu.bs]; done) | (simp only [Pu.bs,nz9]; done))⟩
theorem mF:FnScope ["_law_number","_law_k","_law_way","_law_part"] ["_law_number","_law_k","_law_way"] (ae lb):=⟨rfl,rfl,rfl,by decide +kernel,rfl,by decide +kernel,by decide +kernel⟩
theorem ok_height (D:av K mg "_law_height" lb ["_law_number","_law_k","_law_way"]) (B:Blt mg) (kM:MK K CM) (kW:WK K CW) (G03:kg P w K mg base):qf P w K mg base:=by
 have nd:=mF.nd
 refine D.pV mF (λx=>rfl) rfl λf cdv A outer s H E hr=>?_
 have hu:=aU hr
 exact ⟨_,(ac (au (i:=3) nd rfl (Or.inl rfl) (ak G03 (hr.mono (by decide)) rfl (a8 (pv 0) (a8 (pv 1) aa))))
   (ac (bH (aB dA (pv 2) af (aI _))
   (ah (ax (ap b8 (pv 3) af)))
   aM)
   (ac (bH (aB dA (pv 2) af (aI _))
   (ah (ax (ap b8 (pv 3) af)))
   aM)
   (ac (bH (aB dA (pv 2) af (aI _))
   (ah (ax (ap b8 (pv 0) (ap bh (ap gf af af) af))))
   aM)
   (ah (ax (aD (aq (K:=K) rfl) (bW (a8 (ap b8 (pv 3) af) (a8 (ap d9 (ap gf af af) (ap b8 (pv 3) af)) aa))) (ap b8 (ap bz (pv 3) af) af) (λx x=>rfl)))))))),
  λa=>BV.cast (az 3 (aA (aj (a7 0 rfl) (ao (a7 1 rfl)))) λpart1=>(bM (bf (cm dC (a7 2 rfl) ag))
  (bT (b9 (bo (a7 3 rfl) ag (by decide))))
  (aN (bM (bf (cm dC (a7 2 rfl) ag))
  (bT (b9 (bo (a7 3 rfl) ag (by decide))))
  (aN (bM (bf (cm dC (a7 2 rfl) ag))
  (bT (b9 (bo (a7 0 rfl) (bi (eZ (v:=1000000000000000000) ag ag (by decide)) ag) (by decide))))
  (aN (b9 (aE sq_l ((bu (bA (bo (a7 3 rfl) ag (by decide)) (bA (db (eZ (v:=1000000000000000000) ag ag (by decide)) (bo (a7 3 rfl) ag (by decide))) bt)))).ev (bo (cV (a7 3 rfl) ag (by decide)) ag (by decide))))))))))) (by unfold Pf.cI; first | rfl | (simp only [Pu.bs]; done) | (simp only [Pu.bs,nz9]; done))⟩
theorem qj:FnScope ["_law_script","_law_first","_law_told","_law_columns","_law_way","_law_heights_here"] ["_law_script","_law_first"] (ae nQ):=⟨rfl,rfl,rfl,by decide +kernel,rfl,by decide +kernel,by decide +kernel⟩
theorem ok_floor (D:av K mg "_law_floor" nQ ["_law_script","_law_first"]) (B:Blt mg) (kM:MK K CM) (kW:WK K CW) (G105:qc P w K mg base) (G00:hU P w K mg base) (G91:qd P w K mg base) (G106:qf P w K mg base):H_floor P w K mg base:=by
 have nd:=qj.nd
 refine D.pL qj (λx=>rfl) rfl λf cdv A outer s H E hr=>?_
 have hu:=aU hr
 exact ⟨_,(ac (au (i:=2) nd rfl (Or.inl rfl) (ak G105 (hr.mono (by decide)) rfl (a8 (ak G00 (hr.mono (by decide)) rfl (a8 (pv 0) (a8 (pv 1) aa))) (a8 af (a8 (ap bh (ap gf af af) af) aa)))))
   (ac (bH (aB (ny (K:=K) rfl hr.units) (pv 2) (bW aa) (aI _))
   (ac (au (i:=3) nd rfl (Or.inl rfl) (ap bh af (ap b8 (aD (aq (K:=K) rfl) (pv 2) af (λx x=>rfl)) af)))
   (ah (ax (ak G91 (hr.mono (by decide)) rfl (a8 (gh (gk (K:=K) rfl) (pv 2) (dS af) (dS (ap bh af (ap eD (pv 3) (ay (eA rfl) (by rfl) B.min ie (a8 (ap bh af (ap b8 (aD (aq (K:=K) rfl) (pv 2) af (λx x=>rfl)) af)) (a8 (ap bz af (pv 3)) aa))))))) (a8 (pv 3) aa))))))
   aM)
   (ac (au (i:=4) nd rfl (Or.inr rfl) (ap b8 (ak G00 (hr.mono (by decide)) rfl (a8 (pv 0) (a8 (pv 1) aa))) af))
   (ac (da (loc:=["_law_k","_law_number"]) (cap:=[("_law_way",4)]) (i:=5) rfl ⟨rfl,by decide +kernel,by decide +kernel,rfl,⟨⟨rfl,rfl,by first | exact Or.inl rfl | exact Or.inr rfl⟩,trivial⟩,rfl⟩ nd rfl (Or.inl rfl) (kJ (K:=K) rfl rfl B.enumerate (a8 (gh (gk (K:=K) rfl) (pv 0) (dS (ap bh (pv 1) af)) (dS (ap bh (pv 1) af))) aa)) (λx x x x=>(dt (K:=K) (n:=2) rfl rfl (aS (ar (i:=0) (show (["_law_k","_law_number","_law_way"]:List Str).Nodup by decide +kernel) rfl (Or.inl rfl)) (aS (ar (i:=1) (show (["_law_k","_law_number","_law_way"]:List Str).Nodup by decide +kernel) rfl (Or.inl rfl)) dr)))) (λx x x x=>bI) (λx x x x=>(ak G106 (hr.mono (by decide)) rfl (a8 (pv 1) (a8 (pv 0) (a8 (ap b8 (pv 2) af) aa))))))
   (ac (bH (aB (op_eqDK (K:=K) rfl hr.units) (pv 5) (bW aa) (aI _))
   (ah (au (i:=5) nd rfl (Or.inl rfl) (bW (a8 (ap b8 (ap bz (ak G00 (hr.mono (by decide)) rfl (a8 (pv 0) (a8 (pv 1) aa))) af) (ap bh (ap gf af af) af)) aa))))
   aM)
   (ac (au (i:=3) nd rfl (Or.inl rfl) (ap bh af (ap b8 (ap bz (ak G00 (hr.mono (by decide)) rfl (a8 (pv 0) (a8 (pv 1) aa))) af) (ay (eA rfl) (by rfl) B.min ie (a8 af (a8 (ay (aX (K:=K) rfl) (by rfl) B.len ce (a8 (pv 5) aa)) aa))))))
   (ac (bH (aB dA (pv 4) af (aI _))
   (ah (au (i:=3) nd rfl (Or.inl rfl) (ay (eg rfl) (by rfl) B.max jg (a8 af (a8 (ay (eA rfl) (by rfl) B.min ie (a8 (pv 3) (a8 (ap bz (ay (aX (K:=K) rfl) (by rfl) B.len ce (a8 (pv 5) aa)) af) aa))) aa)))))
   aM)
   (ah (ax (ak G91 (hr.mono (by decide)) rfl (a8 (pv 5) (a8 (ay (eg rfl) (by rfl) B.max jg (a8 (pv 3) (a8 (ap d9 af (ap bz (ap d9 af (ay (aX (K:=K) rfl) (by rfl) B.len ce (a8 (pv 5) aa))) af)) aa))) aa)))))))))))),
  λa=>BV.cast (az 2 ((EVL.cast (aC (aj (aA (aj (a7 0 rfl) (ao (a7 1 rfl)))) (aj ag (ao (bi (eZ (v:=1000000000000000000) ag ag (by decide)) ag))))) Pu.as3)).ev λtold2=>(bM (bf (qX (dL dInt) (a7 2 rfl) ((bu (r:=rInt) bt)).ev))
  (iJ (az 3 (bi ag (bo (aE sq_l (a7 2 rfl) ag) ag (by decide))) λcolumns6=>(bT (bN (EVL.cast (aC (aj ((iH sq_l (a7 2 rfl) (dY ag) (dY (bi ag (fq (a7 3 rfl) (gR (bi ag (bo (aE sq_l (a7 2 rfl) ag) ag (by decide))) (fQ ag (a7 3 rfl)))))))).ev (ao (a7 3 rfl)))) Pu.as2)))))
  (aN (az 4 (bo (aA (aj (a7 0 rfl) (ao (a7 1 rfl)))) ag (by decide)) λway18=>(az 5 ((bY (nn sq_l ((iH sq_s (a7 0 rfl) (dY (bi (a7 1 rfl) ag)) (dY (bi (a7 1 rfl) ag)))).ev) (by decide) (by decide) (eY 0 1) λy20=>(aA (aj (a7 1 rfl) (aj (a7 0 rfl) (ao (bo (a7 2 rfl) ag (by decide)))))))).ev λheights_here21=>(jY (Γj:=λ(s23:(List (Int)))=>[.fr (rScr K) (a.1),.fr rInt (a.2),.fr (rL rInt) (told2),.any,.fr rInt (way18),.fr (rL rInt) (s23)]) (aR (bM (bf (ev_eqD (dL dInt) (a7 5 rfl) ((bu (r:=rInt) bt)).ev))
  (az 5 ((bu (bA (bo (cV (aA (aj (a7 0 rfl) (ao (a7 1 rfl)))) ag (by decide)) (bi (eZ (v:=1000000000000000000) ag ag (by decide)) ag) (by decide)) bt))).ev λheights_here27=>(dD (heights_here27) (sbR (sbR (sbR (sbA (sbR (sbR .nil))))))))
  (aN (dD (heights_here21) (sbR (sbR (sbR (sbA (sbR (sbR .nil)))))))))) λs23=>(az 3 (bi ag (eG (cV (aA (aj (a7 0 rfl) (ao (a7 1 rfl)))) ag (by decide)) (gR ag (cf sq_l (a7 5 rfl))))) λcolumns32=>(jY (Γj:=λ(s34:Int)=>[.fr (rScr K) (a.1),.fr rInt (a.2),.fr (rL rInt) (told2),.fr rInt (s34),.fr rInt (way18),.fr (rL rInt) (s23)]) (aR (bM (bf (cm dC (a7 4 rfl) ag))
  (az 3 (gT ag (gR (a7 3 rfl) (cV (cf sq_l (a7 5 rfl)) ag (by decide)))) λcolumns35=>(dD (columns35) (sbR (sbR (sbR (sbR (sbR (sbR .nil))))))))
  (aN (dD (columns32) (sbR (sbR (sbR (sbR (sbR (sbR .nil)))))))))) λs34=>(bN (aC (aj (a7 5 rfl) (ao (gT (a7 3 rfl) (db ag (cV (db ag (cf sq_l (a7 5 rfl))) ag (by decide)))))))))))))))) (by unfold Pf.gY; dsimp only [nza])⟩
theorem qk:FnScope ["_law_script","_law_first"] ["_law_script","_law_first"] (ae nR):=⟨rfl,rfl,rfl,by decide +kernel,rfl,by decide +kernel,by decide +kernel⟩
theorem ok_reach (D:av K mg "_law_reach" nR ["_law_script","_law_first"]) (B:Blt mg) (kM:MK K CM) (kW:WK K CW) (G00:hU P w K mg base) (G03:kg P w K mg base):H_reach P w K mg base:=by
 have nd:=qk.nd
 refine D.pV qk (λx=>rfl) rfl λf cdv A outer s H E hr=>?_
 have hu:=aU hr
 exact ⟨_,(ah (ax (aD (aq (K:=K) rfl) (bW (a8 af (a8 af aa))) (ap b8 (ak G03 (hr.mono (by decide)) rfl (a8 (ak G00 (hr.mono (by decide)) rfl (a8 (pv 0) (a8 (pv 1) aa))) (a8 af aa))) af) (λx x=>rfl)))),
  λa=>BV.cast (b9 (aE sq_l ((bu (bA ag (bA ag bt)))).ev (bo (EV.cast (aA (aj (aA (aj (a7 0 rfl) (ao (a7 1 rfl)))) (ao ag))) Pu.as2) ag (by decide)))) (by unfold Pf.reach; first | rfl | (simp only [Pu.bs]; done) | (simp only [Pu.bs,nz9]; done))⟩
theorem lu:FnScope ["_law_floor_here","_law_heights_here","_law_row"] ["_law_floor_here"] (ae jz):=⟨rfl,rfl,rfl,by decide +kernel,rfl,by decide +kernel,by decide +kernel⟩
theorem rR (D:av K mg "_law_heights" jz ["_law_floor_here"]) (B:Blt mg) (kM:MK K CM) (kW:WK K CW) :jD P w K mg base:=by
 have nd:=lu.nd
 refine D.pL lu (λx=>rfl) rfl λf cdv A outer s H E hr=>?_
 have hu:=aU hr
 exact ⟨_,(ac (au (i:=1) nd rfl (Or.inl rfl) (bW aa))
   (ac (c6 W2 rfl (aG (K:=K) rfl (pv 0)) (ar (i:=2) nd rfl (Or.inl rfl))
   (ah (au (i:=1) nd rfl (Or.inl rfl) (ap op_catS (pv 1) (pv 2)))))
   (ah (ax (pv 1))))),
  λa=>BV.cast (ci 1 (bu (r:=rInt) bt) λheights_here1=>(bU (Γf:=λ(s3:(List (Int)))=>[.fr (rL (rL rInt)) (a),.ol rInt tt_ (s3),.any]) (heights_here1) (aQ sq_l (a7 0 rfl)) (sbR (sbR (sbA .nil))) (λx=>(aJ 2))
  (λs3 x2=>(aR (ci 1 (nl 1 rfl bK (evl_cat (a7 1 rfl) (a7 2 rfl))) λheights_here4=>(aL (heights_here4) (sbR (sbR (sbA .nil)))))))
  λs3=>(gU 1 rfl))) (by unfold Pf.f6; first | rfl | (simp only [Pu.bs]; done) | (simp only [Pu.bs,nz9]; done))⟩
theorem ql:FnScope ["_law_cell","_law_lakes_here","_law_heights_here","_law_start","_law_high"] ["_law_cell","_law_lakes_here","_law_heights_here"] (ae nS):=⟨rfl,rfl,rfl,by decide +kernel,rfl,by decide +kernel,by decide +kernel⟩
theorem ok_least (D:av K mg "_law_least" nS ["_law_cell","_law_lakes_here","_law_heights_here"]) (B:Blt mg) (kM:MK K CM) (kW:WK K CW) :H_least P w K mg base:=by
 have nd:=ql.nd
 refine D.pV ql (λx=>rfl) rfl λf cdv A outer s H E hr=>?_
 have hu:=aU hr
 exact ⟨_,(ac (bH (aB dA (ap b8 (pv 0) af) af (aI _))
   (ah (ax (ap bh af (ap b8 (ap bz (pv 0) af) af))))
   aM)
   (ac (bH (aB dA (ap b8 (pv 0) af) af (aI _))
   (ah (ax (ap bh af (ap b8 (ap bz (pv 0) af) af))))
   aM)
   (ac (bH (aB dA (ap b8 (pv 0) af) af (aI _))
   (ah (ax (ap bh af (ap b8 (ap bz (pv 0) af) (ap gf af af)))))
   aM)
   (ac (gc (aD (aq (K:=K) rfl) (pv 1) (ap b8 (ap bz (pv 0) af) (ay (aX (K:=K) rfl) (by rfl) B.len ce (a8 (pv 1) aa))) (λx x=>rfl)) (dt (K:=K) (n:=2) rfl rfl (aS (ar (i:=3) nd rfl (Or.inl rfl)) (aS (ar (i:=4) nd rfl (Or.inl rfl)) dr))))
   (ac (bH (aB qz (pv 4) ck (aI _))
   (ah (ax (ap gf af af)))
   aM)
   (ah (ax (ay (eg rfl) (by rfl) B.max jg (a8 af (a8 (ay (eA rfl) (by rfl) B.min ie (a8 (ap gf af af) (a8 (ap d9 (ap bh (ap d9 (pv 4) (aD (aq (K:=K) rfl) (pv 2) (pv 3) (λx x=>rfl))) (ap b8 (pv 0) af)) af) aa))) aa)))))))))),
  λa=>BV.cast (bM (bf (cm dC (bo (a7 0 rfl) ag (by decide)) ag))
  (bT (b9 (bi ag (bo (cV (a7 0 rfl) ag (by decide)) ag (by decide)))))
  (aN (bM (bf (cm dC (bo (a7 0 rfl) ag (by decide)) ag))
  (bT (b9 (bi ag (bo (cV (a7 0 rfl) ag (by decide)) ag (by decide)))))
  (aN (bM (bf (cm dC (bo (a7 0 rfl) ag (by decide)) ag))
  (bT (b9 (bi ag (bo (cV (a7 0 rfl) ag (by decide)) (eZ (v:=1000000000000000000) ag ag (by decide)) (by decide)))))
  (aN (bv_asg (aE sq_l (a7 1 rfl) (eG (cV (a7 0 rfl) ag (by decide)) (cf sq_l (a7 1 rfl)))) (eY 3 4) λt2=>(bM (bf (qQ (a7 4 rfl) jj))
  (bT (b9 (eZ (v:=1000000000000000000) ag ag (by decide))))
  (aN (b9 (gT ag (gR (eZ (v:=1000000000000000000) ag ag (by decide)) (db (bi (db (cJ (a7 4 rfl)) (aE sq_l (a7 2 rfl) (a7 3 rfl))) (bo (a7 0 rfl) ag (by decide))) ag))))))))))))) (by unfold Pf.gs; dsimp only [nza])⟩
theorem mG:FnScope ["_law_some","_law_places_here","_law_first","_law_start"] ["_law_some","_law_places_here"] (ae lf):=⟨rfl,rfl,rfl,by decide +kernel,rfl,by decide +kernel,by decide +kernel⟩
theorem ok_eldest (D:av K mg "_law_eldest" lf ["_law_some","_law_places_here"]) (B:Blt mg) (kM:MK K CM) (kW:WK K CW) :qg P w K mg base:=by
 have nd:=mG.nd
 refine D.pV mG (λx=>rfl) rfl λf cdv A outer s H E hr=>?_
 have hu:=aU hr
 exact ⟨_,(ac (au (i:=2) nd rfl (Or.inl rfl) (aD (aq (K:=K) rfl) (pv 0) af (λx x=>rfl)))
   (ac (c6 W2 rfl (aG (K:=K) rfl (pv 0)) (ar (i:=3) nd rfl (Or.inl rfl))
   (ah (bH (aB kq (aD (aq (K:=K) rfl) (pv 1) (pv 3) (λx x=>rfl)) (aD (aq (K:=K) rfl) (pv 1) (pv 2) (λx x=>rfl)) (aI _))
   (ah (au (i:=2) nd rfl (Or.inl rfl) (pv 3)))
   aM)))
   (ah (ax (pv 2))))),
  λa=>BV.cast (az 2 (aE sq_l (a7 0 rfl) ag) λfirst1=>(bU (Γf:=λ(s4:(Option (Int)))=>[.fr (rL (rOp rInt)) (a.1),.fr (rL rInt) (a.2),.fr (rOp rInt) (s4),.any]) (first1) (aQ sq_l (a7 0 rfl)) (sbR (sbR (sbR (sbA .nil)))) (λx=>(aJ 3))
  (λs4 x3=>(aR (bM (bf (ev_lt (aE sq_l (a7 1 rfl) (cJ (a7 3 rfl))) (aE sq_l (a7 1 rfl) (cJ (a7 2 rfl)))))
  (az 2 (a7 3 rfl) λfirst9=>(aL (first9) (sbR (sbR (sbR (sbA .nil))))))
  (aN (aL (s4) (sbR (sbR (sbR (sbA .nil)))))))))
  λs4=>(b9 (a7 2 rfl)))) (by unfold Pf.ik; first | rfl | (simp only [Pu.bs]; done) | (simp only [Pu.bs,nz9]; done))⟩
theorem qm:FnScope ["_law_places_here","_law_order_here","_law_beside","_law_lies","_law_cell","_law_homes","_law_ends","_law_met","_law_other","_law_start","_law_tree"] ["_law_places_here","_law_order_here","_law_beside"] (ae nT):=⟨rfl,rfl,rfl,by decide +kernel,rfl,by decide +kernel,by decide +kernel⟩
theorem ok_swept (D:av K mg "_law_swept" nT ["_law_places_here","_law_order_here","_law_beside"]) (B:Blt mg) (kM:MK K CM) (kW:WK K CW) (G107:qg P w K mg base):H_swept P w K mg base:=by
 have nd:=qm.nd
 refine D.pV qm (λx=>rfl) rfl λf cdv A outer s H E hr=>?_
 have hu:=aU hr
 exact ⟨_,(ac (au (i:=3) nd rfl (Or.inr rfl) (cg (loc:=["_law_cell"]) (cap:=[]) rfl ⟨rfl,by decide +kernel,by decide +kernel,rfl,trivial,rfl⟩  (aG (K:=K) rfl (pv 1)) (λx x x x=>(ar (i:=0) (show (["_law_cell"]:List Str).Nodup by decide +kernel) rfl (Or.inl rfl))) (λx x x x=>bI) (λx x x x=>ck)))
   (ac (au (i:=5) nd rfl (Or.inr rfl) (cg (loc:=["_law_cell"]) (cap:=[]) rfl ⟨rfl,by decide +kernel,by decide +kernel,rfl,trivial,rfl⟩  (aG (K:=K) rfl (pv 1)) (λx x x x=>(ar (i:=0) (show (["_law_cell"]:List Str).Nodup by decide +kernel) rfl (Or.inl rfl))) (λx x x x=>bI) (λx x x x=>ck)))
   (ac (au (i:=6) nd rfl (Or.inr rfl) oJ)
   (ac (c6 W2 rfl (aG (K:=K) rfl (pv 1)) (ar (i:=4) nd rfl (Or.inr rfl))
   (ac (au (i:=7) nd rfl (Or.inl rfl) (bW aa))
   (ac (c6 W2 rfl (aG (K:=K) rfl (aD (aq (K:=K) rfl) (pv 2) (pv 4) (λx x=>rfl))) (ar (i:=8) nd rfl (Or.inl rfl))
   (ah (bH (PW.pt (ki (aB kq (aD (aq (K:=K) rfl) (pv 0) (pv 8) (λx x=>rfl)) (aD (aq (K:=K) rfl) (pv 0) (pv 4) (λx x=>rfl)) (aI _)) (iw (aB (op_notInK (K:=K) rfl) (aD (aq (K:=K) rfl) (pv 3) (pv 8) (λx x=>rfl)) (pv 7) (by with_unfolding_all rfl)))))
   (ah (dq (fk (K:=K) rfl U6 T5 T6 cw (pv 7) (a8 (aD (aq (K:=K) rfl) (pv 3) (pv 8) (λx x=>rfl)) aa))))
   aM)))
   (ac (gc (pv 4) (ja (pv 3) (pv 4) set_list))
   (ac (bH (aB (ny (K:=K) rfl hr.units) (pv 7) (bW aa) (aI _))
   (ah (gc (ak G107 (hr.mono (by decide)) rfl (a8 (pv 7) (a8 (pv 0) aa))) (ja (pv 3) (pv 4) set_list)))
   aM)
   (ac (gc (aD (aq (K:=K) rfl) (pv 3) (pv 4) (λx x=>rfl)) (ja (pv 5) (pv 4) set_list))
   (ah (c6 W2 rfl (aG (K:=K) rfl (pv 7)) (ar (i:=9) nd rfl (Or.inr rfl))
   (ah (bH (aB oq (pv 9) (aD (aq (K:=K) rfl) (pv 3) (pv 4) (λx x=>rfl)) (aI _))
   (ac (mV hu (pv 6) (pv 9) (cH (a8 (pv 4) (a8 (aD (aq (K:=K) rfl) (pv 3) (pv 4) (λx x=>rfl)) aa))) rfl)
   (ah (au (i:=3) nd rfl (Or.inr rfl) (cg (loc:=["_law_one"]) (cap:=[("_law_lies",3),("_law_cell",4),("_law_start",9)]) rfl ⟨rfl,by decide +kernel,by decide +kernel,rfl,⟨⟨rfl,rfl,by first | exact Or.inl rfl | exact Or.inr rfl⟩,⟨⟨rfl,rfl,by first | exact Or.inl rfl | exact Or.inr rfl⟩,⟨⟨rfl,rfl,by first | exact Or.inl rfl | exact Or.inr rfl⟩,trivial⟩⟩⟩,rfl⟩  (aG (K:=K) rfl (pv 3)) (λx x x x=>(ar (i:=0) (show (["_law_one","_law_lies","_law_cell","_law_start"]:List Str).Nodup by decide +kernel) rfl (Or.inl rfl))) (λx x x x=>bI) (λx x x x=>(aD (aq (K:=K) rfl) (bW (a8 (pv 0) (a8 (aD (aq (K:=K) rfl) (pv 1) (pv 2) (λx x=>rfl)) aa))) (jd lW (by rfl) B.int_ bo_int (a8 (mN dA (pv 0) (pv 3) (aI _)) aa)) (λx x=>rfl)))))))
   aM))))))))))
   (ac (da (loc:=["_law_start"]) (cap:=[("_law_ends",6),("_law_homes",5)]) (i:=10) rfl ⟨rfl,by decide +kernel,by decide +kernel,rfl,⟨⟨rfl,rfl,by first | exact Or.inl rfl | exact Or.inr rfl⟩,⟨⟨rfl,rfl,by first | exact Or.inl rfl | exact Or.inr rfl⟩,trivial⟩⟩,rfl⟩ nd rfl (Or.inl rfl) (aG (K:=K) rfl (pv 1)) (λx x x x=>(ar (i:=0) (show (["_law_start","_law_ends","_law_homes"]:List Str).Nodup by decide +kernel) rfl (Or.inl rfl))) (λx x x x=>(fw (aB dA (aD (aq (K:=K) rfl) (pv 2) (pv 0) (λx x=>rfl)) (pv 0) (aI _)))) (λx x x x=>(ap (pq (K:=K) rfl) (cH (a8 (pv 0) aa)) (oK hu (pv 1) (pv 0) (cH (a8 ck (a8 ck aa))) ⟨rfl,rfl,rfl,rfl⟩))))
   (ah (ax (bW (a8 (pv 10) (a8 (pv 5) aa)))))))))),
  λa=>BV.cast (ci 3 (bY (aQ sq_l (a7 1 rfl)) (by decide) (by decide) (aJ 0) λy1=>cU) λlies2=>(ci 5 (bY (aQ sq_l (a7 1 rfl)) (by decide) (by decide) (aJ 0) λy4=>cU) λhomes5=>(bv_setD 6 evd_new λends7=>(bU (Γf:=λ(s9:(List (Option (Int))) × (List (Option (Int))) × (List (Int × ((Option (Int)) × (Option (Int))))))=>[.fr (rL rInt) (a.1),.fr (rL rInt) (a.2.1),.fr (rL (rL rInt)) (a.2.2),.ol (rOp rInt) tt_ (s9.1),.any,.ol (rOp rInt) tt_ (s9.2.1),.od (rT2 (rOp rInt) (rOp rInt)) tt_ (s9.2.2),.any,.any,.any,.any]) ((lies2,homes5,ends7)) (aQ sq_l (a7 1 rfl)) (sbR (sbR (sbR (sbR (sbA (sbR (sbR (sbA (sbA (sbA (sbA .nil))))))))))) (λx=>(aJ 4))
  (λs9 x8=>(ci 7 (bu (r:=(rOp rInt)) bt) λmet10=>(bU (Γf:=λ(s12:(List (Option (Int))))=>[.fr (rL rInt) (a.1),.fr (rL rInt) (a.2.1),.fr (rL (rL rInt)) (a.2.2),.ol (rOp rInt) tt_ (s9.1),.fr rInt (x8),.ol (rOp rInt) tt_ (s9.2.1),.od (rT2 (rOp rInt) (rOp rInt)) tt_ (s9.2.2),.ol (rOp rInt) tt_ (s12),.any,.any,.any]) (met10) (aQ sq_l (aE sq_l (a7 2 rfl) (a7 4 rfl))) (sbR (sbR (sbR (sbR (sbR (sbR (sbR (sbR (sbA (sbA (sbA .nil))))))))))) (λx=>(aJ 8))
  (λs12 x11=>(aR (bM (jl 7 rfl (jl 3 rfl (ng (bf (ev_lt (aE sq_l (a7 0 rfl) (a7 8 rfl)) (aE sq_l (a7 0 rfl) (a7 4 rfl)))) (bf (rC (aE sq_l (a7 3 rfl) (a7 8 rfl)) (a7 7 rfl))))))
  (cN 7 rfl (jk 3 rfl (eV bK) (aE sq_l (a7 3 rfl) (a7 8 rfl))) λmet17=>(aL (met17) (sbR (sbR (sbR (sbR (sbR (sbR (sbR (sbR (sbA (sbA (sbA .nil)))))))))))))
  (aN (aL (s12) (sbR (sbR (sbR (sbR (sbR (sbR (sbR (sbR (sbA (sbA (sbA .nil))))))))))))))))
  λs12=>(gl 3 rfl (a7 4 rfl) (dW (a7 4 rfl)) λlies21=>(jY (Γj:=λ(s24:(List (Option (Int))))=>[.fr (rL rInt) (a.1),.fr (rL rInt) (a.2.1),.fr (rL (rL rInt)) (a.2.2),.ol (rOp rInt) tt_ (s24),.fr rInt (x8),.ol (rOp rInt) tt_ (s9.2.1),.od (rT2 (rOp rInt) (rOp rInt)) tt_ (s9.2.2),.ol (rOp rInt) tt_ (s12),.any,.any,.any]) (aR (bM (jl 7 rfl (bf (qX (dL dOp) (a7 7 rfl) ((bu (r:=(rOp rInt)) bt)).ev)))
  (gl 3 rfl (a7 4 rfl) (jk 7 rfl (eV bK) (aA (aj (a7 7 rfl) (ao (a7 0 rfl))))) λlies25=>(dD (lies25) (sbR (sbR (sbR (sbR (sbR (sbR (sbR (sbR (sbA (sbA (sbA .nil)))))))))))))
  (aN (dD (lies21) (sbR (sbR (sbR (sbR (sbR (sbR (sbR (sbR (sbA (sbA (sbA .nil))))))))))))))) λs24=>(gl 5 rfl (a7 4 rfl) (jk 3 rfl (eV bK) (aE sq_l (a7 3 rfl) (a7 4 rfl))) λhomes29=>(aR (bv_forSO (Γf:=λ(p33:Addr) (s33:(List (Option (Int))) × (List (Int × ((Option (Int)) × (Option (Int))))))=>[.fr (rL rInt) (a.1),.fr (rL rInt) (a.2.1),.fr (rL (rL rInt)) (a.2.2),.ol (rOp rInt) tt_ (s33.1),.fr rInt (x8),.ol (rOp rInt) tt_ (homes29),.od (rT2 (rOp rInt) (rOp rInt)) tt_ (s33.2),.ol (rOp rInt) (λb=>b=p33) (s12),.any,.any,.any]) ((s24,s9.2.2)) 7 rfl (λp33=>(sbR (sbR (sbR (sbR (sbR (sbR (sbR (sbR (sbA (sbA (sbA .nil)))))))))))) (λx x=>rfl) (λx x=>(aJ 9))
  (λp33 s33 x32=>(aR (bM (jl 3 rfl (bf (kP sc_oo (a7 9 rfl) (aE sq_l (a7 3 rfl) (a7 4 rfl)))))
  (iJ (bv_put 6 rfl (cJ (a7 9 rfl)) (jk 3 rfl (flat_t2 (eV bK) (eV bK)) (cG (dW (a7 4 rfl)) (aE sq_l (a7 3 rfl) (a7 4 rfl)))) λends36=>(ci 3 (nl 3 rfl (eV bK) (bY (aQ sq_l (a7 3 rfl)) (by decide) (by decide) (aJ 0) λy39=>(aE sq_l ((bu (bA (a7 0 rfl) (bA (aE sq_l (a7 1 rfl) (a7 2 rfl)) bt)))).ev (ev_intB (cm sc_oo (a7 0 rfl) (a7 3 rfl)))))) λlies42=>(aL ((lies42,ends36)) (sbR (sbR (sbR (sbR (sbR (sbR (sbR (sbR (sbA (sbA (sbA .nil)))))))))))))))
  (aN (aL ((s33.1,s33.2)) (sbR (sbR (sbR (sbR (sbR (sbR (sbR (sbR (sbA (sbA (sbA .nil))))))))))))))))
  λp33 s33=>(aL ((s33.1,homes29,s33.2)) (sbR (sbR (sbR (sbR (sbA (sbR (sbR (sbA (sbA (sbA (sbA .nil))))))))))))))))))))
  λs9=>(bv_sub (sbR (sbR (sbR (sbR (sbA (.cons .frz (.cons .frd (sbA (sbA (sbA (sbA .nil))))))))))) (az 10 ((cK (aQ sq_l (a7 1 rfl)) (by decide) (by decide) (aJ 0) (λy49=>(bf (cm sc_oi (aE sq_l (a7 2 rfl) (a7 0 rfl)) (a7 0 rfl)))) λy49=>(pf (ev_tup1 (a7 0 rfl)) (pe (a7 1 rfl) (a7 0 rfl) (cG cU cU))))).ev λtree51=>(b9 (ev_lst2 (a7 10 rfl) (a7 5 rfl))))))))) (by unfold Pf.pE; refine (Pu.bcg rfl λx=>Pu.bcg rfl λx=>Pu.bcg (Pu.scg λx x=>?_) λx=>?_) <;> first | rfl | (dsimp only [nza]; done) | (simp only [Pu.bs]; done) | (simp only [Pu.bs,nz9]; done))⟩
theorem qo:FnScope ["_law_heights_here"] ["_law_heights_here"] (ae nU):=⟨rfl,rfl,rfl,by decide +kernel,rfl,by decide +kernel,by decide +kernel⟩
theorem ok_order (D:av K mg "_law_order" nU ["_law_heights_here"]) (B:Blt mg) (kM:MK K CM) (kW:WK K CW) :nW P w K mg base:=by
 have nd:=qo.nd
 refine D.pL qo (λx=>rfl) rfl λf cdv A outer s H E hr=>?_
 have hu:=aU hr
 exact ⟨_,(ah (ax (cg (loc:=["_law_high","_law_cell"]) (cap:=[]) rfl ⟨rfl,by decide +kernel,by decide +kernel,rfl,trivial,rfl⟩  (aG (K:=K) rfl (ay (re (K:=K) rfl) (by rfl) B.sorted jh (a8 (cg (loc:=["_law_cell","_law_high"]) (cap:=[]) rfl ⟨rfl,by decide +kernel,by decide +kernel,rfl,trivial,rfl⟩  (kJ (K:=K) rfl rfl B.enumerate (a8 (pv 0) aa)) (λx x x x=>(dt (K:=K) (n:=2) rfl rfl (aS (ar (i:=0) (show (["_law_cell","_law_high"]:List Str).Nodup by decide +kernel) rfl (Or.inl rfl)) (aS (ar (i:=1) (show (["_law_cell","_law_high"]:List Str).Nodup by decide +kernel) rfl (Or.inl rfl)) dr)))) (λx x x x=>bI) (λx x x x=>(cH (a8 (pv 1) (a8 (pv 0) aa))))) aa))) (λx x x x=>(dt (K:=K) (n:=2) rfl rfl (aS (ar (i:=0) (show (["_law_high","_law_cell"]:List Str).Nodup by decide +kernel) rfl (Or.inl rfl)) (aS (ar (i:=1) (show (["_law_high","_law_cell"]:List Str).Nodup by decide +kernel) rfl (Or.inl rfl)) dr)))) (λx x x x=>bI) (λx x x x=>(pv 1))))),
  λa=>BV.cast (bN (bY (aQ sq_l ((evl_sortP ((bY (nn sq_l (a7 0 rfl)) (by decide) (by decide) (eY 0 1) λy1=>(cG (a7 1 rfl) (a7 0 rfl)))).ev)).ev) (by decide) (by decide) (eY 0 1) λy3=>(a7 1 rfl))) (by unfold Pf.cP; first | rfl | (simp only [Pu.bs]; done) | (simp only [Pu.bs,nz9]; done))⟩
theorem mH:FnScope ["_law_heights_here","_law_places_here","_law_place","_law_cell"] ["_law_heights_here"] (ae lg):=⟨rfl,rfl,rfl,by decide +kernel,rfl,by decide +kernel,by decide +kernel⟩
theorem ok_places (D:av K mg "_law_places" lg ["_law_heights_here"]) (B:Blt mg) (kM:MK K CM) (kW:WK K CW) (G16:nW P w K mg base):qh P w K mg base:=by
 have nd:=mH.nd
 refine D.pL mH (λx=>rfl) rfl λf cdv A outer s H E hr=>?_
 have hu:=aU hr
 exact ⟨_,(ac (da (loc:=["_law_high"]) (cap:=[]) (i:=1) rfl ⟨rfl,by decide +kernel,by decide +kernel,rfl,trivial,rfl⟩ nd rfl (Or.inl rfl) (aG (K:=K) rfl (pv 0)) (λx x x x=>(ar (i:=0) (show (["_law_high"]:List Str).Nodup by decide +kernel) rfl (Or.inl rfl))) (λx x x x=>bI) (λx x x x=>af))
   (ac (c6 W2 rfl (kJ (K:=K) rfl rfl B.enumerate (a8 (ak G16 (hr.mono (by decide)) rfl (a8 (pv 0) aa)) aa)) (dt (K:=K) (n:=2) rfl rfl (aS (ar (i:=2) nd rfl (Or.inl rfl)) (aS (ar (i:=3) nd rfl (Or.inl rfl)) dr)))
   (ah (gc (pv 2) (ja (pv 1) (pv 3) set_list))))
   (ah (ax (pv 1))))),
  λa=>BV.cast (ci 1 (bY (aQ sq_l (a7 0 rfl)) (by decide) (by decide) (aJ 0) λy1=>ag) λplaces_here2=>(bU (Γf:=λ(s6:(List (Int)))=>[.fr (rL rInt) (a),.ol rInt tt_ (s6),.any,.any]) (places_here2) (nn sq_l ((aC (ao (a7 0 rfl)))).ev) (sbR (sbR (sbA (sbA .nil)))) (λx=>(eY 2 3))
  (λs6 x5=>(aR (gl 1 rfl (a7 3 rfl) (a7 2 rfl) λplaces_here7=>(aL (places_here7) (sbR (sbR (sbA (sbA .nil))))))))
  λs6=>(gU 1 rfl))) (by unfold Pf.gq; first | rfl | (simp only [Pu.bs]; done) | (simp only [Pu.bs,nz9]; done))⟩
theorem sc_next:FnScope ["_law_size","_law_reach_here","_law_cell","_law_rows","_law_columns","_law_found","_law_down","_law_aside","_law_row","_law_column","_law_inside","_law_off"] ["_law_size","_law_reach_here","_law_cell"] (ae rO):=⟨rfl,rfl,rfl,by decide +kernel,rfl,by decide +kernel,by decide +kernel⟩
theorem ok_next (D:av K mg "_law_next" rO ["_law_size","_law_reach_here","_law_cell"]) (B:Blt mg) (kM:MK K CM) (kW:WK K CW) :H_next P w K mg base:=by
 have nd:=sc_next.nd
 refine D.pL sc_next (λx=>rfl) rfl λf cdv A outer s H E hr=>?_
 have hu:=aU hr
 exact ⟨_,(ac (gc (pv 0) (dt (K:=K) (n:=2) rfl rfl (aS (ar (i:=3) nd rfl (Or.inl rfl)) (aS (ar (i:=4) nd rfl (Or.inl rfl)) dr))))
   (ac (au (i:=5) nd rfl (Or.inl rfl) (bW aa))
   (ac (c6 W2 rfl (aG (K:=K) rfl (bW (a8 (pe_un mL af) (a8 af (a8 af aa))))) (ar (i:=6) nd rfl (Or.inl rfl))
   (ah (c6 W2 rfl (aG (K:=K) rfl (bW (a8 (pe_un mL af) (a8 af (a8 af aa))))) (ar (i:=7) nd rfl (Or.inl rfl))
   (ac (au (i:=8) nd rfl (Or.inl rfl) (ap bh (ap bz (pv 2) (pv 4)) (pv 6)))
   (ac (au (i:=9) nd rfl (Or.inl rfl) (ap bh (ap b8 (pv 2) (pv 4)) (pv 7)))
   (ac (au (i:=10) nd rfl (Or.inl rfl) (pe_and (ot op_le kq af (pv 8) (pv 3)) (pe_one (ot op_le kq af (pv 9) (pv 4)))))
   (ac (au (i:=11) nd rfl (Or.inl rfl) (ap bh (ay iz (by rfl) B.abs mY (a8 (pv 6) aa)) (ay iz (by rfl) B.abs mY (a8 (pv 7) aa))))
   (ah (bH (PW.pt (ki (mK (pv 10)) (iw (PW.pt (pw_or (aB dA (pv 11) af (aI _)) (pw_or1 (PW.pt (ki (aB dA (pv 1) af (aI _)) (iw (aB dA (pv 11) af (aI _)))))))))))
   (ah (dq (fk (K:=K) rfl U6 T5 T6 cw (pv 5) (a8 (ap bh (ap eD (pv 8) (pv 4)) (pv 9)) aa))))
   aM)))))))))
   (ah (ax (pv 5)))))),
  λa=>BV.cast (bv_asg (a7 0 rfl) (eY 3 4) λt1=>(ci 5 (bu (r:=rInt) bt) λfound3=>(bU (Γf:=λ(s5:(List (Int)))=>[.fr (rT2 rInt rInt) (a.1),.fr rInt (a.2.1),.fr rInt (a.2.2),.fr rInt (t1.1),.fr rInt (t1.2),.ol rInt tt_ (s5),.any,.any,.any,.any,.any,.any]) (found3) (aQ sq_l ((bu (bA (n6 ag) (bA ag (bA ag bt))))).ev) (sbR (sbR (sbR (sbR (sbR (sbR (sbA (sbA (sbA (sbA (sbA (sbA .nil)))))))))))) (λx=>(aJ 6))
  (λs5 x4=>(aR (bU (Γf:=λ(s7:(List (Int)))=>[.fr (rT2 rInt rInt) (a.1),.fr rInt (a.2.1),.fr rInt (a.2.2),.fr rInt (t1.1),.fr rInt (t1.2),.ol rInt tt_ (s7),.fr rInt (x4),.any,.any,.any,.any,.any]) (s5) (aQ sq_l ((bu (bA (n6 ag) (bA ag (bA ag bt))))).ev) (sbR (sbR (sbR (sbR (sbR (sbR (sbR (sbA (sbA (sbA (sbA (sbA .nil)))))))))))) (λx=>(aJ 7))
  (λs7 x6=>(az 8 (bi (fQ (a7 2 rfl) (a7 4 rfl)) (a7 6 rfl)) λrow9=>(az 9 (bi (eG (a7 2 rfl) (a7 4 rfl)) (a7 7 rfl)) λcolumn12=>(az 10 (ev_andT (jn ag (a7 8 rfl) (a7 3 rfl)) (jn ag (a7 9 rfl) (a7 4 rfl))) λinside14=>(az 11 (bi (nk (a7 6 rfl)) (nk (a7 7 rfl))) λoff16=>(aR (bM (et_andT (et_b (a7 10 rfl)) (et_orT (bf (cm dC (a7 11 rfl) ag)) (et_andT (bf (cm dC (a7 1 rfl) ag)) (bf (cm dC (a7 11 rfl) ag)))))
  (cN 5 rfl (bi (fq (a7 8 rfl) (a7 4 rfl)) (a7 9 rfl)) λfound18=>(aL (found18) (sbR (sbR (sbR (sbR (sbR (sbR (sbR (sbA (sbA (sbA (sbA (sbA .nil))))))))))))))
  (aN (aL (s7) (sbR (sbR (sbR (sbR (sbR (sbR (sbR (sbA (sbA (sbA (sbA (sbA .nil)))))))))))))))))))))
  λs7=>(aL (s7) (sbR (sbR (sbR (sbR (sbR (sbR (sbA (sbA (sbA (sbA (sbA (sbA .nil))))))))))))))))
  λs5=>(gU 5 rfl)))) (by unfold Pf.next; first | rfl | (simp only [Pu.bs]; done) | (simp only [Pu.bs,nz9]; done))⟩
theorem jO:FnScope ["_law_floor_here","_law_reach_here","_law_size"] ["_law_floor_here","_law_reach_here"] (ae im):=⟨rfl,rfl,rfl,by decide +kernel,rfl,by decide +kernel,by decide +kernel⟩
theorem qr (D:av K mg "_law_all_next" im ["_law_floor_here","_law_reach_here"]) (B:Blt mg) (kM:MK K CM) (kW:WK K CW) (G108:H_next P w K mg base):lh P w K mg base:=by
 have nd:=jO.nd
 refine D.pL jO (λx=>rfl) rfl λf cdv A outer s H E hr=>?_
 have hu:=aU hr
 exact ⟨_,(ac (au (i:=2) nd rfl (Or.inr rfl) (cH (a8 (ay (aX (K:=K) rfl) (by rfl) B.len ce (a8 (pv 0) aa)) (a8 (ay (aX (K:=K) rfl) (by rfl) B.len ce (a8 (aD (aq (K:=K) rfl) (pv 0) af (λx x=>rfl)) aa)) aa))))
   (ah (ax (cg (loc:=["_law_cell"]) (cap:=[("_law_size",2),("_law_reach_here",1)]) rfl ⟨rfl,by decide +kernel,by decide +kernel,rfl,⟨⟨rfl,rfl,by first | exact Or.inl rfl | exact Or.inr rfl⟩,⟨⟨rfl,rfl,by first | exact Or.inl rfl | exact Or.inr rfl⟩,trivial⟩⟩,rfl⟩  (fu rfl B.range (a8 (ap eD (aD (c7 (K:=K) rfl) (pv 2) af (λx x=>rfl)) (aD (c7 (K:=K) rfl) (pv 2) af (λx x=>rfl))) aa)) (λx x x x=>(ar (i:=0) (show (["_law_cell","_law_size","_law_reach_here"]:List Str).Nodup by decide +kernel) rfl (Or.inl rfl))) (λx x x x=>bI) (λx x x x=>(ak G108 (hr.mono (by decide)) rfl (a8 (pv 1) (a8 (pv 2) (a8 (pv 0) aa))))))))),
  λa=>BV.cast (az 2 (cG (cf sq_l (a7 0 rfl)) (cf sq_l (aE sq_l (a7 0 rfl) ag))) λsize3=>(bN (bY (iI (fq (jX (a7 2 rfl)) (dX (a7 2 rfl)))) (by decide) (by decide) (aJ 0) λy6=>((aC (aj (a7 1 rfl) (aj (a7 2 rfl) (ao (a7 0 rfl)))))).ev))) (by unfold Pf.gp; first | rfl | (simp only [Pu.bs]; done) | (simp only [Pu.bs,nz9]; done))⟩
theorem qt:FnScope ["_law_floor_here","_law_reach_here","_law_least_here","_law_heights_here","_law_tree","_law_found","_law_start","_law_meet","_law_into"] ["_law_floor_here","_law_reach_here","_law_least_here"] (ae nV):=⟨rfl,rfl,rfl,by decide +kernel,rfl,by decide +kernel,by decide +kernel⟩
theorem ok_lakes (D:av K mg "_law_lakes" nV ["_law_floor_here","_law_reach_here","_law_least_here"]) (B:Blt mg) (kM:MK K CM) (kW:WK K CW) (G09:jD P w K mg base) (G109:H_swept P w K mg base) (G16:nW P w K mg base) (G110:qh P w K mg base) (G111:lh P w K mg base):H_lakes P w K mg base:=by
 have nd:=qt.nd
 refine D.pL qt (λx=>rfl) rfl λf cdv A outer s H E hr=>?_
 have hu:=aU hr
 exact ⟨_,(ac (au (i:=3) nd rfl (Or.inl rfl) (ak G09 (hr.mono (by decide)) rfl (a8 (pv 0) aa)))
   (ac (au (i:=4) nd rfl (Or.inl rfl) (aD (aq (K:=K) rfl) (ak G109 (hr.mono (by decide)) rfl (a8 (ak G110 (hr.mono (by decide)) rfl (a8 (pv 3) aa)) (a8 (ak G16 (hr.mono (by decide)) rfl (a8 (pv 3) aa)) (a8 (ak G111 (hr.mono (by decide)) rfl (a8 (pv 0) (a8 (pv 1) aa))) aa)))) af (λx x=>rfl)))
   (ac (au (i:=5) nd rfl (Or.inl rfl) (bW aa))
   (ac (c6 W2 rfl (aG (K:=K) rfl (pv 4)) (dt (K:=K) (n:=3) rfl rfl (aS (ar (i:=6) nd rfl (Or.inl rfl)) (aS (ar (i:=7) nd rfl (Or.inl rfl)) (aS (ar (i:=8) nd rfl (Or.inl rfl)) dr))))
   (ah (bH (aB qz (pv 7) ck (aI _))
   (ah (dq (fk (K:=K) rfl U6 T5 T6 cw (pv 5) (a8 (cH (a8 (pv 6) (a8 ck aa))) aa))))
   (ah (bH (aB op_ge (ap d9 (aD (aq (K:=K) rfl) (pv 3) (pv 7) (λx x=>rfl)) (aD (aq (K:=K) rfl) (pv 3) (pv 6) (λx x=>rfl))) (pv 2) (aI _))
   (ah (dq (fk (K:=K) rfl U6 T5 T6 cw (pv 5) (a8 (cH (a8 (pv 6) (a8 (aD (aq (K:=K) rfl) (pv 3) (pv 7) (λx x=>rfl)) aa))) aa))))
   aM)))))
   (ah (ax (pv 5))))))),
  λa=>BV.cast (az 3 ((aC (ao (a7 0 rfl)))).ev λheights_here1=>(az 4 (ev_h2_0 (EV.cast (aA (aj ((aC (ao (a7 3 rfl)))).ev (aj ((aC (ao (a7 3 rfl)))).ev (ao ((aC (aj (a7 0 rfl) (ao (a7 1 rfl))))).ev)))) Pu.as3)) λtree7=>(ci 5 (bu (r:=(rT2 rInt (rOp rInt))) bt) λfound9=>(bU (Γf:=λ(s11:(List ((Int × (Option (Int))))))=>[.fr (rL (rL rInt)) (a.1),.fr rInt (a.2.1),.fr rInt (a.2.2),.fr (rL rInt) (heights_here1),.fr (rL (rT3 rInt (rOp rInt) (rOp rInt))) (tree7),.ol (rT2 rInt (rOp rInt)) tt_ (s11),.any,.any,.any]) (found9) (aQ sq_l (a7 4 rfl)) (sbR (sbR (sbR (sbR (sbR (sbR (sbA (sbA (sbA .nil))))))))) (λx=>(gv_trip 6 7 8))
  (λs11 x10=>(aR (bM (bf (qQ (a7 7 rfl) jj))
  (cN 5 rfl (cG (a7 6 rfl) cU) λfound12=>(aL (found12) (sbR (sbR (sbR (sbR (sbR (sbR (sbA (sbA (sbA .nil)))))))))))
  (bM (bf (ev_ge (db (aE sq_l (a7 3 rfl) (cJ (a7 7 rfl))) (aE sq_l (a7 3 rfl) (a7 6 rfl))) (a7 2 rfl)))
  (cN 5 rfl (cG (a7 6 rfl) (dW (aE sq_l (a7 3 rfl) (cJ (a7 7 rfl))))) λfound21=>(aL (found21) (sbR (sbR (sbR (sbR (sbR (sbR (sbA (sbA (sbA .nil)))))))))))
  (aN (aL (s11) (sbR (sbR (sbR (sbR (sbR (sbR (sbA (sbA (sbA .nil)))))))))))))))
  λs11=>(gU 5 rfl))))) (by unfold Pf.dG; dsimp only [nza])⟩
theorem lw:FnScope ["floor","columns"] ["floor"] (ae jA):=⟨rfl,rfl,rfl,by decide +kernel,rfl,by decide +kernel,by decide +kernel⟩
theorem rS (D:av K mg "size_of" jA ["floor"]) (B:Blt mg) (kM:MK K CM) (kW:WK K CW) :eC P w K mg base:=by
 have nd:=lw.nd
 refine D.pV lw (λx=>rfl) rfl λf cdv A outer s H E hr=>?_
 have hu:=aU hr
 exact ⟨_,(ac (au (i:=1) nd rfl (Or.inl rfl) (kj (mZ (K:=K) rfl (pv 0) (λx=>rfl)) (ay (aX (K:=K) rfl) (by rfl) B.len ce (a8 (aD (aq (K:=K) rfl) (pv 0) af (λx x=>rfl)) aa)) af))
   (ah (ax (cH (a8 (ay (aX (K:=K) rfl) (by rfl) B.len ce (a8 (pv 0) aa)) (a8 (pv 1) aa)))))),
  λa=>BV.cast (az 1 (ev_ifx (ni sq_l (a7 0 rfl)) (cf sq_l (aE sq_l (a7 0 rfl) ag)) ag) λcolumns2=>(b9 (cG (cf sq_l (a7 0 rfl)) (a7 1 rfl)))) (by unfold Pf.size_of; first | rfl | (simp only [Pu.bs]; done) | (simp only [Pu.bs,nz9]; done))⟩
theorem iY:FnScope ["floor","size"] ["floor"] (ae gC):=⟨rfl,rfl,rfl,by decide +kernel,rfl,by decide +kernel,by decide +kernel⟩
theorem nY (D:av K mg "all_cells" gC ["floor"]) (B:Blt mg) (kM:MK K CM) (kW:WK K CW) (G01:eC P w K mg base):f9 P w K mg base:=by
 have nd:=iY.nd
 refine D.pL iY (λx=>rfl) rfl λf cdv A outer s H E hr=>?_
 have hu:=aU hr
 exact ⟨_,(ac (au (i:=1) nd rfl (Or.inl rfl) (ak G01 (hr.mono (by decide)) rfl (a8 (pv 0) aa)))
   (ah (ax (jd (rp rfl) (by rfl) B.list_ bo_list (a8 (pe_rng (ap eD (aD (c7 (K:=K) rfl) (pv 1) af (λx x=>rfl)) (aD (c7 (K:=K) rfl) (pv 1) af (λx x=>rfl))) rfl B.range) aa))))),
  λa=>BV.cast (az 1 (aA (ao (a7 0 rfl))) λsize1=>(bN (p8 (fq (jX (a7 1 rfl)) (dX (a7 1 rfl)))))) (by unfold Pf.de; first | rfl | (simp only [Pu.bs]; done) | (simp only [Pu.bs,nz9]; done))⟩
theorem iZ:FnScope ["floor","cell","columns"] ["floor","cell"] (ae gD):=⟨rfl,rfl,rfl,by decide +kernel,rfl,by decide +kernel,by decide +kernel⟩
theorem nZ (D:av K mg "height_of" gD ["floor","cell"]) (B:Blt mg) (kM:MK K CM) (kW:WK K CW) (G01:eC P w K mg base):dI P w K mg base:=by
 have nd:=iZ.nd
 refine D.pV iZ (λx=>rfl) rfl λf cdv A outer s H E hr=>?_
 have hu:=aU hr
 exact ⟨_,(ac (au (i:=2) nd rfl (Or.inl rfl) (aD (c7 (K:=K) rfl) (ak G01 (hr.mono (by decide)) rfl (a8 (pv 0) aa)) af (λx x=>rfl)))
   (ah (ax (aD (aq (K:=K) rfl) (aD (aq (K:=K) rfl) (pv 0) (ap bz (pv 1) (pv 2)) (λx x=>rfl)) (ap b8 (pv 1) (pv 2)) (λx x=>rfl))))),
  λa=>BV.cast (az 2 (dX (aA (ao (a7 0 rfl)))) λcolumns2=>(b9 (aE sq_l (aE sq_l (a7 0 rfl) (fQ (a7 1 rfl) (a7 2 rfl))) (eG (a7 1 rfl) (a7 2 rfl))))) (by unfold Pf.bF; first | rfl | (simp only [Pu.bs]; done) | (simp only [Pu.bs,nz9]; done))⟩
theorem dJ:FnScope ["floor"] ["floor"] (ae cz):=⟨rfl,rfl,rfl,by decide +kernel,rfl,by decide +kernel,by decide +kernel⟩
theorem gM (D:av K mg "heights_by_number" cz ["floor"]) (B:Blt mg) (kM:MK K CM) (kW:WK K CW) (G05:f9 P w K mg base) (G02:dI P w K mg base):dQ P w K mg base:=by
 have nd:=dJ.nd
 refine D.pL dJ (λx=>rfl) rfl λf cdv A outer s H E hr=>?_
 have hu:=aU hr
 exact ⟨_,(ah (ax (cg (loc:=["cell"]) (cap:=[("floor",0)]) rfl ⟨rfl,by decide +kernel,by decide +kernel,rfl,⟨⟨rfl,rfl,by first | exact Or.inl rfl | exact Or.inr rfl⟩,trivial⟩,rfl⟩  (aG (K:=K) rfl (ak G05 (hr.mono (by decide)) rfl (a8 (pv 0) aa))) (λx x x x=>(ar (i:=0) (show (["cell","floor"]:List Str).Nodup by decide +kernel) rfl (Or.inl rfl))) (λx x x x=>bI) (λx x x x=>(ak G02 (hr.mono (by decide)) rfl (a8 (pv 1) (a8 (pv 0) aa))))))),
  λa=>BV.cast (bN (bY (aQ sq_l ((aC (ao (a7 0 rfl)))).ev) (by decide) (by decide) (aJ 0) λy1=>(aA (aj (a7 1 rfl) (ao (a7 0 rfl)))))) (by unfold Pf.bQ; first | rfl | (simp only [Pu.bs]; done) | (simp only [Pu.bs,nz9]; done))⟩
theorem j0:FnScope ["floor","cell"] ["floor","cell"] (ae gE):=⟨rfl,rfl,rfl,by decide +kernel,rfl,by decide +kernel,by decide +kernel⟩
theorem o4 (D:av K mg "order_key" gE ["floor","cell"]) (B:Blt mg) (kM:MK K CM) (kW:WK K CW) (G02:dI P w K mg base):fh P w K mg base:=by
 have nd:=j0.nd
 refine D.pV j0 (λx=>rfl) rfl λf cdv A outer s H E hr=>?_
 have hu:=aU hr
 exact ⟨_,(ah (ax (cH (a8 (ak G02 (hr.mono (by decide)) rfl (a8 (pv 0) (a8 (pv 1) aa))) (a8 (pv 1) aa))))),
  λa=>BV.cast (b9 (cG (aA (aj (a7 0 rfl) (ao (a7 1 rfl)))) (a7 1 rfl))) (by unfold Pf.bZ; first | rfl | (simp only [Pu.bs]; done) | (simp only [Pu.bs,nz9]; done))⟩
theorem jP:FnScope ["floor"] ["floor"] (ae di):=⟨rfl,rfl,rfl,by decide +kernel,rfl,by decide +kernel,by decide +kernel⟩
theorem qu {c9 P9:Addr} (D:eL K mg "in_order" di ["floor"] c9) (L:LamAt K mg base c9 P9 "in_order") (B:Blt mg) (kM:MK K CM) (kW:WK K CW) (G05:f9 P w K mg base) (G04:fh P w K mg base):Has P w K mg base 7 "in_order" ["floor"] (spL (aOne (rL (rL rInt))) rInt λx=>Pf.bC x):=by
 have nd:=jP.nd
 refine D.pL jP (λa=>rfl) rfl λf A outer s H E hr=>?_
 have hu:=aU hr
 exact ⟨_,(ah (ax (pe_sortK (x:="cell") (cap:=[("floor",0)]) (ak G05 (hr.mono (by decide)) rfl (a8 (pv 0) aa)) (hr.mono (by decide)) B.sorted L.bm L.hd L.mem L.nm rfl ⟨rfl,rfl,rfl,by decide +kernel,rfl,rfl,⟨⟨rfl,rfl,by first | exact Or.inl rfl | exact Or.inr rfl⟩,trivial⟩⟩ (λa a a a a=>rfl) (λa a a a a=>have hl:=(hr.mono (j:=6) (by decide)).in1.in1.deeper _; (ak G04 (hl.mono (by decide)) rfl (a8 (pv 1) (a8 (pv 0) aa))))))),
  λa=>BV.cast (bN (evl_sortK (x:="cell") (by decide) ((aC (ao (a7 0 rfl)))).ev λc1=>(aA (aj (a7 1 rfl) (ao (a7 0 rfl)))))) (by unfold Pf.bC; first | rfl | (simp only [Pu.bs]; done) | (simp only [Pu.bs,nz9]; done))⟩
theorem ia:FnScope ["size","reach","cell","row","column","most_steps","found","other_row","other_column"] ["size","reach","cell"] (ae fW):=⟨rfl,rfl,rfl,by decide +kernel,rfl,by decide +kernel,by decide +kernel⟩
theorem lS (D:av K mg "neighbours" fW ["size","reach","cell"]) (B:Blt mg) (kM:MK K CM) (kW:WK K CW) :fX P w K mg base:=by
 have nd:=ia.nd
 refine D.pL ia (λx=>rfl) rfl λf cdv A outer s H E hr=>?_
 have hu:=aU hr
 exact ⟨_,(ac (au (i:=3) nd rfl (Or.inl rfl) (ap bz (pv 2) (aD (c7 (K:=K) rfl) (pv 0) af (λx x=>rfl))))
   (ac (au (i:=4) nd rfl (Or.inl rfl) (ap b8 (pv 2) (aD (c7 (K:=K) rfl) (pv 0) af (λx x=>rfl))))
   (ac (au (i:=5) nd rfl (Or.inl rfl) (kj (aB dA (pv 1) af (aI _)) af af))
   (ac (au (i:=6) nd rfl (Or.inl rfl) (bW aa))
   (ac (c6 W2 rfl (lV rfl B.range (a8 (ay (eg rfl) (by rfl) B.max jg (a8 af (a8 (ap d9 (pv 3) af) aa))) (a8 (ay (eA rfl) (by rfl) B.min ie (a8 (aD (c7 (K:=K) rfl) (pv 0) af (λx x=>rfl)) (a8 (ap bh (pv 3) af) aa))) aa))) (ar (i:=7) nd rfl (Or.inl rfl))
   (ah (c6 W2 rfl (lV rfl B.range (a8 (ay (eg rfl) (by rfl) B.max jg (a8 af (a8 (ap d9 (pv 4) af) aa))) (a8 (ay (eA rfl) (by rfl) B.min ie (a8 (aD (c7 (K:=K) rfl) (pv 0) af (λx x=>rfl)) (a8 (ap bh (pv 4) af) aa))) aa))) (ar (i:=8) nd rfl (Or.inl rfl))
   (ah (bH (pt_chain kq op_le af (ap bh (ay iz (by rfl) B.abs mY (a8 (ap d9 (pv 7) (pv 3)) aa)) (ay iz (by rfl) B.abs mY (a8 (ap d9 (pv 8) (pv 4)) aa))) (pv 5))
   (ah (dq (fk (K:=K) rfl U6 T5 T6 cw (pv 6) (a8 (ap bh (ap eD (pv 7) (aD (c7 (K:=K) rfl) (pv 0) af (λx x=>rfl))) (pv 8)) aa))))
   aM)))))
   (ah (ax (pv 6)))))))),
  λa=>BV.cast (az 3 (fQ (a7 2 rfl) (dX (a7 0 rfl))) λrow1=>(az 4 (eG (a7 2 rfl) (dX (a7 0 rfl))) λcolumn3=>(az 5 (ev_ifxT (bf (cm dC (a7 1 rfl) ag)) ag ag) λmost_steps5=>(ci 6 (bu (r:=rInt) bt) λfound7=>(bU (Γf:=λ(s9:(List (Int)))=>[.fr (rT2 rInt rInt) (a.1),.fr rInt (a.2.1),.fr rInt (a.2.2),.fr rInt (row1),.fr rInt (column3),.fr rInt (most_steps5),.ol rInt tt_ (s9),.any,.any]) (found7) (iv_rng2 (gT ag (db (a7 3 rfl) ag)) (gR (jX (a7 0 rfl)) (bi (a7 3 rfl) ag))) (sbR (sbR (sbR (sbR (sbR (sbR (sbR (sbA (sbA .nil))))))))) (λx=>(aJ 7))
  (λs9 x8=>(aR (bU (Γf:=λ(s11:(List (Int)))=>[.fr (rT2 rInt rInt) (a.1),.fr rInt (a.2.1),.fr rInt (a.2.2),.fr rInt (row1),.fr rInt (column3),.fr rInt (most_steps5),.ol rInt tt_ (s11),.fr rInt (x8),.any]) (s9) (iv_rng2 (gT ag (db (a7 4 rfl) ag)) (gR (dX (a7 0 rfl)) (bi (a7 4 rfl) ag))) (sbR (sbR (sbR (sbR (sbR (sbR (sbR (sbR (sbA .nil))))))))) (λx=>(aJ 8))
  (λs11 x10=>(aR (bM (bf (jn ag (bi (nk (db (a7 7 rfl) (a7 3 rfl))) (nk (db (a7 8 rfl) (a7 4 rfl)))) (a7 5 rfl)))
  (cN 6 rfl (bi (fq (a7 7 rfl) (dX (a7 0 rfl))) (a7 8 rfl)) λfound13=>(aL (found13) (sbR (sbR (sbR (sbR (sbR (sbR (sbR (sbR (sbA .nil)))))))))))
  (aN (aL (s11) (sbR (sbR (sbR (sbR (sbR (sbR (sbR (sbR (sbA .nil))))))))))))))
  λs11=>(aL (s11) (sbR (sbR (sbR (sbR (sbR (sbR (sbR (sbA (sbA .nil)))))))))))))
  λs9=>(gU 6 rfl)))))) (by unfold Pf.dc; first | rfl | (simp only [Pu.bs]; done) | (simp only [Pu.bs,nz9]; done))⟩
theorem d8:FnScope ["self","cell","around"] ["self","cell"] (ae cr):=⟨rfl,rfl,rfl,by decide +kernel,rfl,by decide +kernel,by decide +kernel⟩
theorem ga (D:bB K CW "homes_around" "Water.homes_around" cr ["self","cell"]) (B:Blt mg) (kM:MK K CM) (kW:WK K CW) (G01:eC P w K mg base) (G17:fX P w K mg base):dH P w K mg base CM CW:=by
 have nd:=d8.nd
 refine D.pL d8 (λx=>rfl) rfl λf cdv A outer s H E hr=>?_
 have hu:=aU hr
 exact ⟨_,(ac (au (i:=2) nd rfl (Or.inl rfl) (ak G17 (hr.mono (by decide)) rfl (a8 (ak G01 (hr.mono (by decide)) rfl (a8 (c8 (K:=K) rfl (pv 0) rfl) aa)) (a8 (c8 (K:=K) rfl (pv 0) rfl) (a8 (pv 1) aa)))))
   (ah (ax (cg (loc:=["other"]) (cap:=[("self",0)]) rfl ⟨rfl,by decide +kernel,by decide +kernel,rfl,⟨⟨rfl,rfl,by first | exact Or.inl rfl | exact Or.inr rfl⟩,trivial⟩,rfl⟩  (aG (K:=K) rfl (pv 2)) (λx x x x=>(ar (i:=0) (show (["other","self"]:List Str).Nodup by decide +kernel) rfl (Or.inl rfl))) (λx x x x=>(fw (aB mM (aD (aq (K:=K) rfl) (c8 (K:=K) rfl (pv 1) rfl) (pv 0) (λx x=>rfl)) ck (aI _)))) (λx x x x=>(aD (aq (K:=K) rfl) (c8 (K:=K) rfl (pv 1) rfl) (pv 0) (λx x=>rfl))))))),
  λa=>BV.cast (az 2 ((EVL.cast (aC (aj (aA (ao (ev_wFloor kW (a7 0 rfl)))) (aj (ev_wReach kW (a7 0 rfl)) (ao (a7 1 rfl))))) Pu.as3)).ev λaround2=>(bN (cK (aQ sq_l (a7 2 rfl)) (by decide) (by decide) (aJ 0) (λy4=>(bf (n8 (aE sq_l (gV kW (a7 1 rfl)) (a7 0 rfl)) jj))) λy4=>(cJ (aE sq_l (gV kW (a7 1 rfl)) (a7 0 rfl)))))) (by unfold Pf.bj; first | rfl | (simp only [Pu.bs]; done) | (simp only [Pu.bs,nz9]; done))⟩
theorem eS:FnScope ["self","start","here"] ["self","start"] (ae cY):=⟨rfl,rfl,rfl,by decide +kernel,rfl,by decide +kernel,by decide +kernel⟩
theorem ir (D:bB K CM "living" "Meetings.living" cY ["self","start"]) (B:Blt mg) (kM:MK K CM) (kW:WK K CW) :d4 P w K mg base CM:=by
 have nd:=eS.nd
 refine D.pV eS (λx=>rfl) rfl λf cdv A outer s H E hr=>?_
 have hu:=aU hr
 exact ⟨_,(ac (au (i:=2) nd rfl (Or.inl rfl) (pv 1))
   (ac (kn W2 (pt_cmp (pc_dinO hu (pv 2) (c8 (K:=K) rfl (pv 0) rfl)))
   (ah (au (i:=2) nd rfl (Or.inl rfl) (aD (c7 (K:=K) rfl) (pe_dget hu (c8 (K:=K) rfl (pv 0) rfl) (pv 2) (λx x=>rfl)) af (λx x=>rfl)))))
   (ah (ax (pv 2))))),
  λa=>BV.cast (az 2 (a7 1 rfl) λhere1=>(qW (Γf:=λ(s2:(Option (Int)))=>[.fr (rM CM) (a.1),.fr (rOp rInt) (a.2),.fr (rOp rInt) (s2)]) 100000 (here1) (sbR (sbR (sbR .nil))) (λs2=>(et_b (ev_inDO (a7 2 rfl) (jt kM (a7 0 rfl)))))
  (λs2=>(aR (az 2 (dX (ev_ixD (jt kM (a7 0 rfl)) (cJ (a7 2 rfl)))) λhere5=>(aL (here5) (sbR (sbR (sbR .nil)))))))
  λs2=>(b9 (a7 2 rfl)))) (by unfold Pf.aH; first | rfl | (simp only [Pu.bs]; done) | (simp only [Pu.bs,nz9]; done))⟩
theorem gN:FnScope ["floor","cells"] ["floor","cells"] (ae cb):=⟨rfl,rfl,rfl,by decide +kernel,rfl,by decide +kernel,by decide +kernel⟩
theorem ly {c9 P9:Addr} (D:eL K mg "earliest_of" cb ["floor","cells"] c9) (L:LamAt K mg base c9 P9 "earliest_of") (B:Blt mg) (kM:MK K CM) (kW:WK K CW) (G04:fh P w K mg base):Has P w K mg base 7 "earliest_of" ["floor","cells"] (spV (aw (rL (rL rInt)) (aOne (rL rInt))) rInt λx=>Pf.cp x.1 x.2):=by
 have nd:=gN.nd
 refine D.pV gN (λa=>rfl) rfl λf A outer s H E hr=>?_
 have hu:=aU hr
 exact ⟨_,(ah (ax (pe_minK (x:="cell") (cap:=[("floor",0)]) (pv 1) (hr.mono (by decide)) B.min L.bm L.hd L.mem L.nm rfl ⟨rfl,rfl,rfl,by decide +kernel,rfl,rfl,⟨⟨rfl,rfl,by first | exact Or.inl rfl | exact Or.inr rfl⟩,trivial⟩⟩ (λa a a a a=>rfl) (λa a a a a=>have hl:=(hr.mono (j:=5) (by decide)).in1.deeper _; (ak G04 (hl.mono (by decide)) rfl (a8 (pv 1) (a8 (pv 0) aa))))))),
  λa=>BV.cast (b9 (ev_minK (x:="cell") (by decide) (a7 1 rfl) λc1=>(aA (aj (a7 1 rfl) (ao (a7 0 rfl)))))) (by unfold Pf.cp; first | rfl | (simp only [Pu.bs]; done) | (simp only [Pu.bs,nz9]; done))⟩
theorem fF:FnScope ["self","starts"] ["self","starts"] (ae dN):=⟨rfl,rfl,rfl,by decide +kernel,rfl,by decide +kernel,by decide +kernel⟩
theorem jE (D:bB K CM "tree" "Meetings.tree" dN ["self","starts"]) (B:Blt mg) (kM:MK K CM) (kW:WK K CW) :fY P w K mg base CM:=by
 have nd:=fF.nd
 refine D.pL fF (λx=>rfl) rfl λf cdv A outer s H E hr=>?_
 have hu:=aU hr
 exact ⟨_,(ah (ax (cg (loc:=["start"]) (cap:=[("self",0)]) rfl ⟨rfl,by decide +kernel,by decide +kernel,rfl,⟨⟨rfl,rfl,by first | exact Or.inl rfl | exact Or.inr rfl⟩,trivial⟩,rfl⟩  (aG (K:=K) rfl (pv 1)) (λx x x x=>(ar (i:=0) (show (["start","self"]:List Str).Nodup by decide +kernel) rfl (Or.inl rfl))) (λx x x x=>bI) (λx x x x=>(ap (pq (K:=K) rfl) (cH (a8 (pv 0) aa)) (oK hu (c8 (K:=K) rfl (pv 1) rfl) (pv 0) (cH (a8 ck (a8 ck aa))) ⟨rfl,rfl,rfl,rfl⟩)))))),
  λa=>BV.cast (bN (bY (aQ sq_l (a7 1 rfl)) (by decide) (by decide) (aJ 0) λy1=>(pf (ev_tup1 (a7 0 rfl)) (pe (jt kM (a7 1 rfl)) (a7 0 rfl) (cG cU cU))))) (by unfold Pf.cE; first | rfl | (simp only [Pu.bs]; done) | (simp only [Pu.bs,nz9]; done))⟩
theorem lz:FnScope ["floor","reach","order","water"] ["floor","reach"] (ae jB):=⟨rfl,rfl,rfl,by decide +kernel,rfl,by decide +kernel,by decide +kernel⟩
theorem rT (D:av K mg "tree_of" jB ["floor","reach"]) (B:Blt mg) (kM:MK K CM) (kW:WK K CW) (G06:iq P w K mg base) (G112:nX P w K mg base CM CW) (G113:fY P w K mg base CM):mB P w K mg base:=by
 have nd:=lz.nd
 refine D.pL lz (λx=>rfl) rfl λf cdv A outer s H E hr=>?_
 have hu:=aU hr
 exact ⟨_,(ac (au (i:=2) nd rfl (Or.inl rfl) (ak G06 (hr.mono (by decide)) rfl (a8 (pv 0) aa)))
   (ac (au (i:=3) nd rfl (Or.inr rfl) (ak G112 (hr.mono (by decide)) rfl (a8 (pv 0) (a8 (pv 1) (a8 (pv 2) aa)))))
   (ah (ax (cW G113 (c8 (K:=K) rfl (pv 3) rfl) kM.c (hr.mono (by decide)) (a8 (cg (loc:=["cell"]) (cap:=[("water",3)]) rfl ⟨rfl,by decide +kernel,by decide +kernel,rfl,⟨⟨rfl,rfl,by first | exact Or.inl rfl | exact Or.inr rfl⟩,trivial⟩,rfl⟩  (aG (K:=K) rfl (pv 2)) (λx x x x=>(ar (i:=0) (show (["cell","water"]:List Str).Nodup by decide +kernel) rfl (Or.inl rfl))) (λx x x x=>(fw (aB dA (aD (aq (K:=K) rfl) (c8 (K:=K) rfl (pv 1) rfl) (pv 0) (λx x=>rfl)) (pv 0) (aI _)))) (λx x x x=>(pv 0))) aa)))))),
  λa=>BV.cast (az 2 ((aC (ao (a7 0 rfl)))).ev λorder1=>(az 3 (aA (aj (a7 0 rfl) (aj (a7 1 rfl) (ao (a7 2 rfl))))) λwater3=>(bN (pc ob_m (p9 kW (a7 3 rfl)) (ao ((cK (aQ sq_l (a7 2 rfl)) (by decide) (by decide) (aJ 0) (λy5=>(bf (cm sc_oi (aE sq_l (gV kW (a7 1 rfl)) (a7 0 rfl)) (a7 0 rfl)))) λy5=>(a7 0 rfl))).ev))))) (by unfold Pf.df; first | rfl | (simp only [Pu.bs]; done) | (simp only [Pu.bs,nz9]; done))⟩
theorem lA:FnScope ["floor","start","meet"] ["floor","start","meet"] (ae jC):=⟨rfl,rfl,rfl,by decide +kernel,rfl,by decide +kernel,by decide +kernel⟩
theorem rV (D:av K mg "life_of" jC ["floor","start","meet"]) (B:Blt mg) (kM:MK K CM) (kW:WK K CW) (G02:dI P w K mg base):mC P w K mg base:=by
 have nd:=lA.nd
 refine D.pV lA (λx=>rfl) rfl λf cdv A outer s H E hr=>?_
 have hu:=aU hr
 exact ⟨_,(ac (bH (aB qz (pv 2) ck (aI _))
   (ah (ax ck))
   aM)
   (ah (ax (ap d9 (ak G02 (hr.mono (by decide)) rfl (a8 (pv 0) (a8 (pv 2) aa))) (ak G02 (hr.mono (by decide)) rfl (a8 (pv 0) (a8 (pv 1) aa))))))),
  λa=>BV.cast (bM (bf (qQ (a7 2 rfl) jj))
  (bT (b9 cU))
  (aN (b9 (dW (db (EV.cast (aA (aj (a7 0 rfl) (ao (cJ (a7 2 rfl))))) Pu.as2) (aA (aj (a7 0 rfl) (ao (a7 1 rfl))))))))) (by unfold Pf.k9; first | rfl | (simp only [Pu.bs]; done) | (simp only [Pu.bs,nz9]; done))⟩
theorem gO:FnScope ["floor","reach","least","ending"] ["floor","reach","least"] (ae ft):=⟨rfl,rfl,rfl,by decide +kernel,rfl,by decide +kernel,by decide +kernel⟩
theorem lB (D:av K mg "short_lived" ft ["floor","reach","least"]) (B:Blt mg) (kM:MK K CM) (kW:WK K CW) (G114:mB P w K mg base) (G115:mC P w K mg base):i9 P w K mg base:=by
 have nd:=gO.nd
 refine D.pL gO (λx=>rfl) rfl λf cdv A outer s H E hr=>?_
 have hu:=aU hr
 exact ⟨_,(ac (da (loc:=["start","meet","into"]) (cap:=[]) (i:=3) rfl ⟨rfl,by decide +kernel,by decide +kernel,rfl,trivial,rfl⟩ nd rfl (Or.inl rfl) (aG (K:=K) rfl (ak G114 (hr.mono (by decide)) rfl (a8 (pv 0) (a8 (pv 1) aa)))) (λx x x x=>(dt (K:=K) (n:=3) rfl rfl (aS (ar (i:=0) (show (["start","meet","into"]:List Str).Nodup by decide +kernel) rfl (Or.inl rfl)) (aS (ar (i:=1) (show (["start","meet","into"]:List Str).Nodup by decide +kernel) rfl (Or.inl rfl)) (aS (ar (i:=2) (show (["start","meet","into"]:List Str).Nodup by decide +kernel) rfl (Or.inl rfl)) dr))))) (λx x x x=>(fw (aB mM (pv 1) ck (aI _)))) (λx x x x=>(cH (a8 (pv 0) (a8 (pv 1) aa)))))
   (ah (ax (cg (loc:=["start","meet"]) (cap:=[("floor",0),("least",2)]) rfl ⟨rfl,by decide +kernel,by decide +kernel,rfl,⟨⟨rfl,rfl,by first | exact Or.inl rfl | exact Or.inr rfl⟩,⟨⟨rfl,rfl,by first | exact Or.inl rfl | exact Or.inr rfl⟩,trivial⟩⟩,rfl⟩  (aG (K:=K) rfl (pv 3)) (λx x x x=>(dt (K:=K) (n:=2) rfl rfl (aS (ar (i:=0) (show (["start","meet","floor","least"]:List Str).Nodup by decide +kernel) rfl (Or.inl rfl)) (aS (ar (i:=1) (show (["start","meet","floor","least"]:List Str).Nodup by decide +kernel) rfl (Or.inl rfl)) dr)))) (λx x x x=>(fw (aB kq (ak G115 (hr.mono (by decide)) rfl (a8 (pv 2) (a8 (pv 0) (a8 (pv 1) aa)))) (pv 3) (aI _)))) (λx x x x=>(cH (a8 (pv 0) (a8 (pv 1) aa)))))))),
  λa=>BV.cast (az 3 ((cK (aQ sq_l ((aC (aj (a7 0 rfl) (ao (a7 1 rfl))))).ev) (by decide) (by decide) gv_tripC (λy1=>(bf (n8 (a7 1 rfl) jj))) λy1=>(cG (a7 0 rfl) (a7 1 rfl)))).ev λending3=>(bN (cK (aQ sq_l (a7 3 rfl)) (by decide) (by decide) (eY 0 1) (λy5=>(bf (ev_lt (cJ (aA (aj (a7 2 rfl) (aj (a7 0 rfl) (ao (a7 1 rfl)))))) (a7 3 rfl)))) λy5=>(cG (a7 0 rfl) (a7 1 rfl))))) (by unfold Pf.cF; first | rfl | (simp only [Pu.bs]; done) | (simp only [Pu.bs,nz9]; done))⟩
theorem g8:FnScope ["floor","one","other"] ["floor","one","other"] (ae eQ):=⟨rfl,rfl,rfl,by decide +kernel,rfl,by decide +kernel,by decide +kernel⟩
theorem jV (D:av K mg "comes_before" eQ ["floor","one","other"]) (B:Blt mg) (kM:MK K CM) (kW:WK K CW) (G04:fh P w K mg base):d5 P w K mg base:=by
 have nd:=g8.nd
 refine D.pV g8 (λx=>rfl) rfl λf cdv A outer s H E hr=>?_
 have hu:=aU hr
 exact ⟨_,(ah (ax (mN (op_ltT (Nat.lt_of_succ_lt (aU hr))) (ak G04 (hr.mono (by decide)) rfl (a8 (pv 0) (a8 (pv 1) aa))) (ak G04 (hr.mono (by decide)) rfl (a8 (pv 0) (a8 (pv 2) aa))) (aI _)))),
  λa=>BV.cast (b9 (ev_ltT2 (aA (aj (a7 0 rfl) (ao (a7 1 rfl)))) (aA (aj (a7 0 rfl) (ao (a7 2 rfl)))))) (by unfold Pf.bO; first | rfl | (simp only [Pu.bs]; done) | (simp only [Pu.bs,nz9]; done))⟩
theorem j7:FnScope ["floor","reach","cell","last","size","back","waiting","here","other"] ["floor","reach","cell","last"] (ae gF):=⟨rfl,rfl,rfl,by decide +kernel,rfl,by decide +kernel,by decide +kernel⟩
theorem o5 (D:av K mg "ways_back" gF ["floor","reach","cell","last"]) (B:Blt mg) (kM:MK K CM) (kW:WK K CW) (G01:eC P w K mg base) (G17:fX P w K mg base) (G07:d5 P w K mg base):gH P w K mg base:=by
 have nd:=j7.nd
 refine D.pD j7 (λx=>rfl) rfl λf cdv A outer s H E hr=>?_
 have hu:=aU hr
 exact ⟨_,(ac (au (i:=4) nd rfl (Or.inl rfl) (ak G01 (hr.mono (by decide)) rfl (a8 (pv 0) aa)))
   (ac (au (i:=5) nd rfl (Or.inl rfl) (pe_disp (pps_cons (pv 2) ck pps_nil) rfl rfl (by simp) (by decide)))
   (ac (au (i:=6) nd rfl (Or.inl rfl) (bW (a8 (pv 2) aa)))
   (ac (kn W2 (mZ (K:=K) rfl (pv 6) (λx=>rfl))
   (ac (au (i:=7) nd rfl (Or.inl rfl) (fk (K:=K) rfl U6 PySem.F.slot_list_pop PySem.F.type_list_pop mt_popAt (pv 6) (a8 af aa)))
   (ah (c6 W2 rfl (aG (K:=K) rfl (ak G17 (hr.mono (by decide)) rfl (a8 (pv 4) (a8 (pv 1) (a8 (pv 7) aa))))) (ar (i:=8) nd rfl (Or.inl rfl))
   (ah (bH (PW.pt (ki (pt_cmp (pc_dnotin hu (pv 8) (pv 5))) (iw (pt_not (mK (ak G07 (hr.mono (by decide)) rfl (a8 (pv 0) (a8 (pv 3) (a8 (pv 8) aa)))))))))
   (ac (mV hu (pv 5) (pv 8) (pv 7) rfl)
   (ah (dq (fk (K:=K) rfl U6 T5 T6 cw (pv 6) (a8 (pv 8) aa)))))
   aM))))))
   (ah (ax (pv 5))))))),
  λa=>BV.cast (az 4 (aA (ao (a7 0 rfl))) λsize1=>(bv_setD 5 (evd_one (a7 2 rfl) cU) λback3=>(ci 6 (bu (bA (a7 2 rfl) bt)) λwaiting4=>(qW (Γf:=λ(s5:(List (Int × Option (Int))) × (List (Int)))=>[.fr (rL (rL rInt)) (a.1),.fr rInt (a.2.1),.fr rInt (a.2.2.1),.fr rInt (a.2.2.2),.fr (rT2 rInt rInt) (size1),.od (rOp rInt) tt_ (s5.1),.ol rInt tt_ (s5.2),.any,.any]) 100000 ((back3,waiting4)) (sbR (sbR (sbR (sbR (sbR (sbR (sbR (sbA (sbA .nil))))))))) (λs5=>(jl 6 rfl (ni sq_l (a7 6 rfl))))
  (λs5=>(bv_popF 6 7 rfl (by decide) λhere6 waiting8=>(aR (bU (Γf:=λ(s10:(List (Int × Option (Int))) × (List (Int)))=>[.fr (rL (rL rInt)) (a.1),.fr rInt (a.2.1),.fr rInt (a.2.2.1),.fr rInt (a.2.2.2),.fr (rT2 rInt rInt) (size1),.od (rOp rInt) tt_ (s10.1),.ol rInt tt_ (s10.2),.fr rInt (here6),.any]) ((s5.1,waiting8)) (aQ sq_l ((aC (aj (a7 4 rfl) (aj (a7 1 rfl) (ao (a7 7 rfl)))))).ev) (sbR (sbR (sbR (sbR (sbR (sbR (sbR (sbR (sbA .nil))))))))) (λx=>(aJ 8))
  (λs10 x9=>(aR (bM (et_borD 5 rfl (ng (et_b (ev_notinD (a7 8 rfl) (a7 5 rfl))) (et_not (et_b (aA (aj (a7 0 rfl) (aj (a7 3 rfl) (ao (a7 8 rfl)))))))))
  (iJ (bv_put 5 rfl (a7 8 rfl) (dW (a7 7 rfl)) λback12=>(cN 6 rfl (a7 8 rfl) λwaiting15=>(aL ((back12,waiting15)) (sbR (sbR (sbR (sbR (sbR (sbR (sbR (sbR (sbA .nil)))))))))))))
  (aN (aL ((s10.1,s10.2)) (sbR (sbR (sbR (sbR (sbR (sbR (sbR (sbR (sbA .nil))))))))))))))
  λs10=>(aL ((s10.1,s10.2)) (sbR (sbR (sbR (sbR (sbR (sbR (sbR (sbA (sbA .nil))))))))))))))
  λs5=>(bv_retOD 5 rfl))))) (by unfold Pf.fz; first | rfl | (simp only [Pu.bs]; done) | (simp only [Pu.bs,nz9]; done))⟩
theorem fI:FnScope ["floor","reach","cell","last"] ["floor","reach","cell","last"] (ae dO):=⟨rfl,rfl,rfl,by decide +kernel,rfl,by decide +kernel,by decide +kernel⟩
theorem jF (D:av K mg "stretch_under" dO ["floor","reach","cell","last"]) (B:Blt mg) (kM:MK K CM) (kW:WK K CW) (G07:d5 P w K mg base) (G18:gH P w K mg base):fZ P w K mg base:=by
 have nd:=fI.nd
 refine D.pL fI (λx=>rfl) rfl λf cdv A outer s H E hr=>?_
 have hu:=aU hr
 exact ⟨_,(ac (bH (mK (ak G07 (hr.mono (by decide)) rfl (a8 (pv 0) (a8 (pv 3) (a8 (pv 2) aa)))))
   (ah (ax (bW aa)))
   aM)
   (ah (ax (ay (rg rfl) (by rfl) B.sorted jh (a8 (ak G18 (hr.mono (by decide)) rfl (a8 (pv 0) (a8 (pv 1) (a8 (pv 2) (a8 (pv 3) aa))))) aa))))),
  λa=>BV.cast (bM (et_b (aA (aj (a7 0 rfl) (aj (a7 3 rfl) (ao (a7 2 rfl))))))
  (bT (bN (bu (r:=rInt) bt)))
  (aN (bN (evl_sortD ((oU (aj (a7 0 rfl) (aj (a7 1 rfl) (aj (a7 2 rfl) (ao (a7 3 rfl))))))).ev)))) (by unfold Pf.cD; first | rfl | (simp only [Pu.bs]; done) | (simp only [Pu.bs,nz9]; done))⟩
theorem dR:FnScope ["floor","reach","cell","later","order"] ["floor","reach","cell","later"] (ae cL):=⟨rfl,rfl,rfl,by decide +kernel,rfl,by decide +kernel,by decide +kernel⟩
theorem i0 (D:av K mg "stretch_ahead_of" cL ["floor","reach","cell","later"]) (B:Blt mg) (kM:MK K CM) (kW:WK K CW) (G06:iq P w K mg base) (G07:d5 P w K mg base) (G116:fZ P w K mg base):cM P w K mg base:=by
 have nd:=dR.nd
 refine D.pL dR (λx=>rfl) rfl λf cdv A outer s H E hr=>?_
 have hu:=aU hr
 exact ⟨_,(ac (bH (pt_not (mK (ak G07 (hr.mono (by decide)) rfl (a8 (pv 0) (a8 (pv 2) (a8 (pv 3) aa))))))
   (ah (ax (bW aa)))
   aM)
   (ac (au (i:=4) nd rfl (Or.inl rfl) (ak G06 (hr.mono (by decide)) rfl (a8 (pv 0) aa)))
   (ah (ax (ak G116 (hr.mono (by decide)) rfl (a8 (pv 0) (a8 (pv 1) (a8 (pv 2) (a8 (aD (aq (K:=K) rfl) (pv 4) (ap d9 (fk (K:=K) rfl U6 PySem.F.slot_list_index PySem.F.type_list_index (mt_index (K:=K) rfl) (pv 4) (a8 (pv 3) aa)) af) (λx x=>rfl)) aa))))))))),
  λa=>BV.cast (bM (et_not (et_b (aA (aj (a7 0 rfl) (aj (a7 2 rfl) (ao (a7 3 rfl)))))))
  (bT (bN (bu (r:=rInt) bt)))
  (aN (az 4 ((aC (ao (a7 0 rfl)))).ev λorder2=>(bN (EVL.cast (aC (aj (a7 0 rfl) (aj (a7 1 rfl) (aj (a7 2 rfl) (ao (aE sq_l (a7 4 rfl) (db (ev_index (a7 4 rfl) (a7 3 rfl)) ag))))))) Pu.as4))))) (by unfold Pf.aK; first | rfl | (simp only [Pu.bs]; done) | (simp only [Pu.bs,nz9]; done))⟩
theorem jQ:FnScope ["size","heights","columns"] ["size","heights"] (ae io):=⟨rfl,rfl,rfl,by decide +kernel,rfl,by decide +kernel,by decide +kernel⟩
theorem qv (D:av K mg "floor_of" io ["size","heights"]) (B:Blt mg) (kM:MK K CM) (kW:WK K CW) :li P w K mg base:=by
 have nd:=jQ.nd
 refine D.pG jQ (λx=>rfl) rfl λf cdv A outer s H E hr=>?_
 have hu:=aU hr
 exact ⟨_,(ac (au (i:=2) nd rfl (Or.inr rfl) (aD (c7 (K:=K) rfl) (pv 0) af (λx x=>rfl)))
   (ah (ax (cg (loc:=["row"]) (cap:=[("heights",1),("columns",2)]) rfl ⟨rfl,by decide +kernel,by decide +kernel,rfl,⟨⟨rfl,rfl,by first | exact Or.inl rfl | exact Or.inr rfl⟩,⟨⟨rfl,rfl,by first | exact Or.inl rfl | exact Or.inr rfl⟩,trivial⟩⟩,rfl⟩  (fu rfl B.range (a8 (aD (c7 (K:=K) rfl) (pv 0) af (λx x=>rfl)) aa)) (λx x x x=>(ar (i:=0) (show (["row","heights","columns"]:List Str).Nodup by decide +kernel) rfl (Or.inl rfl))) (λx x x x=>bI) (λx x x x=>(gh (gk (K:=K) rfl) (pv 1) (dS (ap eD (pv 0) (pv 2))) (dS (ap eD (ap bh (pv 0) af) (pv 2))))))))),
  λa=>BV.cast (az 2 (dX (a7 0 rfl)) λcolumns1=>(bv_retG (evg_comp thg_ln (iI (jX (a7 0 rfl))) (by decide) (by decide) (aJ 0) λy2=>(evg_l gnd_int (iH sq_l (a7 1 rfl) (dY (fq (a7 0 rfl) (a7 2 rfl))) (dY (fq (bi (a7 0 rfl) ag) (a7 2 rfl)))))))) (by unfold Pf.gr; first | rfl | (simp only [Pu.bs]; done) | (simp only [Pu.bs,nz9]; done))⟩
theorem jR:FnScope ["floor","reach","least","heights","start","meet","cell"] ["floor","reach","least"] (ae ip):=⟨rfl,rfl,rfl,by decide +kernel,rfl,by decide +kernel,by decide +kernel⟩
theorem qw (D:av K mg "put_away" ip ["floor","reach","least"]) (B:Blt mg) (kM:MK K CM) (kW:WK K CW) (G01:eC P w K mg base) (G02:dI P w K mg base) (G117:dQ P w K mg base) (G118:i9 P w K mg base) (G19:cM P w K mg base) (G119:li P w K mg base):lj P w K mg base:=by
 have nd:=jR.nd
 refine D.pG jR (λx=>rfl) rfl λf cdv A outer s H E hr=>?_
 have hu:=aU hr
 exact ⟨_,(ac (au (i:=3) nd rfl (Or.inl rfl) (ak G117 (hr.mono (by decide)) rfl (a8 (pv 0) aa)))
   (ac (c6 W2 rfl (aG (K:=K) rfl (ak G118 (hr.mono (by decide)) rfl (a8 (pv 0) (a8 (pv 1) (a8 (pv 2) aa))))) (dt (K:=K) (n:=2) rfl rfl (aS (ar (i:=4) nd rfl (Or.inl rfl)) (aS (ar (i:=5) nd rfl (Or.inl rfl)) dr)))
   (ah (c6 W2 rfl (aG (K:=K) rfl (ak G19 (hr.mono (by decide)) rfl (a8 (pv 0) (a8 (pv 1) (a8 (pv 4) (a8 (pv 5) aa)))))) (ar (i:=6) nd rfl (Or.inl rfl))
   (ah (gc (ay (eg rfl) (by rfl) B.max jg (a8 (aD (aq (K:=K) rfl) (pv 3) (pv 6) (λx x=>rfl)) (a8 (ak G02 (hr.mono (by decide)) rfl (a8 (pv 0) (a8 (pv 5) aa))) aa))) (ja (pv 3) (pv 6) set_list))))))
   (ah (ax (ak G119 (hr.mono (by decide)) rfl (a8 (ak G01 (hr.mono (by decide)) rfl (a8 (pv 0) aa)) (a8 (pv 3) aa))))))),
  λa=>BV.cast (ci 3 (aC (ao (a7 0 rfl))) λheights1=>(bU (Γf:=λ(s4:(List (Int)))=>[.fr (rL (rL rInt)) (a.1),.fr rInt (a.2.1),.fr rInt (a.2.2),.ol rInt tt_ (s4),.any,.any,.any]) (heights1) (aQ sq_l ((aC (aj (a7 0 rfl) (aj (a7 1 rfl) (ao (a7 2 rfl)))))).ev) (sbR (sbR (sbR (sbR (sbA (sbA (sbA .nil))))))) (λx=>(eY 4 5))
  (λs4 x3=>(aR (bU (Γf:=λ(s7:(List (Int)))=>[.fr (rL (rL rInt)) (a.1),.fr rInt (a.2.1),.fr rInt (a.2.2),.ol rInt tt_ (s7),.fr rInt (x3.1),.fr (rOp rInt) (x3.2),.any]) (s4) (aQ sq_l ((EVL.cast (aC (aj (a7 0 rfl) (aj (a7 1 rfl) (aj (a7 4 rfl) (ao (cJ (a7 5 rfl))))))) Pu.as4)).ev) (sbR (sbR (sbR (sbR (sbR (sbR (sbA .nil))))))) (λx=>(aJ 6))
  (λs7 x6=>(aR (gl 3 rfl (a7 6 rfl) (jk 3 rfl bK (gT (aE sq_l (a7 3 rfl) (a7 6 rfl)) (EV.cast (aA (aj (a7 0 rfl) (ao (cJ (a7 5 rfl))))) Pu.as2))) λheights11=>(aL (heights11) (sbR (sbR (sbR (sbR (sbR (sbR (sbA .nil)))))))))))
  λs7=>(aL (s7) (sbR (sbR (sbR (sbR (sbA (sbA (sbA .nil)))))))))))
  λs4=>(bv_retG (evg_borL 3 rfl (EVG.cast (pB (aj (aA (ao (a7 0 rfl))) (ao (a7 3 rfl)))) Pu.as2))))) (by unfold Pf.dg; first | rfl | (simp only [Pu.bs]; done) | (simp only [Pu.bs,nz9]; done))⟩
theorem eU:FnScope ["self","cell"] ["self","cell"] (ae d0):=⟨rfl,rfl,rfl,by decide +kernel,rfl,by decide +kernel,by decide +kernel⟩
theorem iu (D:bB K CW "start_now" "Water.start_now" d0 ["self","cell"]) (B:Blt mg) (kM:MK K CM) (kW:WK K CW) (G13:d4 P w K mg base CM):fg P w K mg base CM CW:=by
 have nd:=eU.nd
 refine D.pV eU (λx=>rfl) rfl λf cdv A outer s H E hr=>?_
 have hu:=aU hr
 exact ⟨_,(ah (ax (cW G13 (c8 (K:=K) rfl (pv 0) rfl) kM.c (hr.mono (by decide)) (a8 (aD (aq (K:=K) rfl) (c8 (K:=K) rfl (pv 0) rfl) (pv 1) (λx x=>rfl)) aa)))),
  λa=>BV.cast (b9 (k8 ob_m (p9 kW (a7 0 rfl)) (ao (aE sq_l (gV kW (a7 0 rfl)) (a7 1 rfl))))) (by unfold Pf.b7; first | rfl | (simp only [Pu.bs]; done) | (simp only [Pu.bs,nz9]; done))⟩
theorem j9:FnScope ["floor","reach","one","other","last","back","way"] ["floor","reach","one","other","last"] (ae gG):=⟨rfl,rfl,rfl,by decide +kernel,rfl,by decide +kernel,by decide +kernel⟩
theorem o6 (D:av K mg "way_under" gG ["floor","reach","one","other","last"]) (B:Blt mg) (kM:MK K CM) (kW:WK K CW) (G18:gH P w K mg base):jN P w K mg base:=by
 have nd:=j9.nd
 refine D.pL j9 (λx=>rfl) rfl λf cdv A outer s H E hr=>?_
 have hu:=aU hr
 exact ⟨_,(ac (au (i:=5) nd rfl (Or.inl rfl) (ak G18 (hr.mono (by decide)) rfl (a8 (pv 0) (a8 (pv 1) (a8 (pv 3) (a8 (pv 4) aa))))))
   (ac (au (i:=6) nd rfl (Or.inl rfl) (bW (a8 (pv 2) aa)))
   (ac (kn W2 (aB oq (aD (aq (K:=K) rfl) (pv 6) (pe_un mL af) (λx x=>rfl)) (pv 3) (aI _))
   (ah (dq (fk (K:=K) rfl U6 T5 T6 cw (pv 6) (a8 (pe_dget hu (pv 5) (aD (aq (K:=K) rfl) (pv 6) (pe_un mL af) (λx x=>rfl)) (λx x=>rfl)) aa)))))
   (ah (ax (pv 6)))))),
  λa=>BV.cast (az 5 ((oU (aj (a7 0 rfl) (aj (a7 1 rfl) (aj (a7 3 rfl) (ao (a7 4 rfl))))))).ev λback1=>(ci 6 (bu (bA (a7 2 rfl) bt)) λway3=>(qW (Γf:=λ(s4:(List (Int)))=>[.fr (rL (rL rInt)) (a.1),.fr rInt (a.2.1),.fr rInt (a.2.2.1),.fr rInt (a.2.2.2.1),.fr rInt (a.2.2.2.2),.fr (rD (rOp rInt)) (back1),.ol rInt tt_ (s4)]) 100000 (way3) (sbR (sbR (sbR (sbR (sbR (sbR (sbR .nil))))))) (λs4=>(jl 6 rfl (bf (kP dC (aE sq_l (a7 6 rfl) (n6 ag)) (a7 3 rfl)))))
  (λs4=>(aR (cN 6 rfl (jk 6 rfl bK (cJ (ev_ixD (a7 5 rfl) (aE sq_l (a7 6 rfl) (n6 ag))))) λway8=>(aL (way8) (sbR (sbR (sbR (sbR (sbR (sbR (sbR .nil)))))))))))
  λs4=>(gU 6 rfl)))) (by unfold Pf.gZ; first | rfl | (simp only [Pu.bs]; done) | (simp only [Pu.bs,nz9]; done))⟩
theorem g9:FnScope ["floor","reach","one","other","latest","way"] ["floor","reach","one","other"] (ae eR):=⟨rfl,rfl,rfl,by decide +kernel,rfl,by decide +kernel,by decide +kernel⟩
theorem jW (D:av K mg "pass_between" eR ["floor","reach","one","other"]) (B:Blt mg) (kM:MK K CM) (kW:WK K CW) (G19:cM P w K mg base) (G120:ll P w K mg base) (G121:jN P w K mg base):gJ P w K mg base:=by
 have nd:=g9.nd
 refine D.pV g9 (λx=>rfl) rfl λf cdv A outer s H E hr=>?_
 have hu:=aU hr
 exact ⟨_,(ac (au (i:=4) nd rfl (Or.inl rfl) (ak G120 (hr.mono (by decide)) rfl (a8 (pv 0) (a8 (pv 1) (a8 (pv 2) (a8 (pv 3) aa))))))
   (ac (au (i:=5) nd rfl (Or.inl rfl) (ak G121 (hr.mono (by decide)) rfl (a8 (pv 0) (a8 (pv 1) (a8 (pv 2) (a8 (pv 3) (a8 (pv 4) aa)))))))
   (ah (ax (cH (a8 (pv 4) (a8 (pv 5) (a8 (ak G19 (hr.mono (by decide)) rfl (a8 (pv 0) (a8 (pv 1) (a8 (pv 2) (a8 (pv 4) aa))))) aa)))))))),
  λa=>BV.cast (az 4 (cJ (aA (aj (a7 0 rfl) (aj (a7 1 rfl) (aj (a7 2 rfl) (ao (a7 3 rfl))))))) λlatest1=>(az 5 ((aC (aj (a7 0 rfl) (aj (a7 1 rfl) (aj (a7 2 rfl) (aj (a7 3 rfl) (ao (a7 4 rfl)))))))).ev λway4=>(b9 (ev_tup3 (a7 4 rfl) (a7 5 rfl) ((aC (aj (a7 0 rfl) (aj (a7 1 rfl) (aj (a7 2 rfl) (ao (a7 4 rfl))))))).ev)))) (by unfold Pf.cy; first | rfl | (simp only [Pu.bs]; done) | (simp only [Pu.bs,nz9]; done))⟩
theorem sc_law:FnScope ["_law_script","_law_floor_here","_law_reach_here","_law_heights_here","_law_least_here","_law_found","_law_land","_law_kept","_law_k","_law_one","_law_other","_law_high"] ["_law_script"] (ae iV):=⟨rfl,rfl,rfl,by decide +kernel,rfl,by decide +kernel,by decide +kernel⟩
theorem ok_law {f:Addr} {fd:K2} (F:Fun K "law" "law" iV f fd) (B:Blt mg) (kM:MK K CM) (kW:WK K CW) (G00:hU P w K mg base) (G03:kg P w K mg base) (G122:H_floor P w K mg base) (G123:H_reach P w K mg base) (G09:jD P w K mg base) (G124:H_least P w K mg base) (G20:H_lakes P w K mg base) (G125:lj P w K mg base) (G92:gJ P w K mg base) (hl:∀ ns:List Int,ns.length<=63->Pf.iM ns=some true):FnOk P w K mg base CX0 15 f fd ["_law_script"] (qY K):=by
 have nd:=sc_law.nd
 refine F.law (fl:=Pf.iM) sc_law rfl hl λf cdv A outer s H E hr=>?_
 have hu:=aU hr
 exact ⟨_,(ac (au (i:=1) nd rfl (Or.inl rfl) (ak G122 (hr.mono (by decide)) rfl (a8 (pv 0) (a8 af aa))))
   (ac (au (i:=2) nd rfl (Or.inl rfl) (ak G123 (hr.mono (by decide)) rfl (a8 (pv 0) (a8 af aa))))
   (ac (au (i:=3) nd rfl (Or.inr rfl) (ak G09 (hr.mono (by decide)) rfl (a8 (pv 1) aa)))
   (ac (au (i:=4) nd rfl (Or.inl rfl) (ak G124 (hr.mono (by decide)) rfl (a8 (ak G00 (hr.mono (by decide)) rfl (a8 (pv 0) (a8 af aa))) (a8 (ak G20 (hr.mono (by decide)) rfl (a8 (pv 1) (a8 (pv 2) (a8 af aa)))) (a8 (pv 3) aa)))))
   (ac (au (i:=5) nd rfl (Or.inl rfl) (ak G125 (hr.mono (by decide)) rfl (a8 (pv 1) (a8 (pv 2) (a8 (pv 4) aa)))))
   (ac (au (i:=6) nd rfl (Or.inr rfl) (ak G09 (hr.mono (by decide)) rfl (a8 (pv 5) aa)))
   (ac (bH (aB oq (ay (aX (K:=K) rfl) (by rfl) B.len ce (a8 (pv 6) aa)) (ay (aX (K:=K) rfl) (by rfl) B.len ce (a8 (pv 3) aa)) (aI _))
   (ah (ax pe_bl))
   aM)
   (ac (bH (aB (ny (K:=K) rfl hr.units) (ak G20 (hr.mono (by decide)) rfl (a8 (pv 5) (a8 (pv 2) (a8 af aa)))) (ak G20 (hr.mono (by decide)) rfl (a8 (pv 1) (a8 (pv 2) (a8 (pv 4) aa)))) (aI _))
   (ah (ax pe_bl))
   aM)
   (ac (da (loc:=["_law_cell"]) (cap:=[("_law_land",6),("_law_heights_here",3)]) (i:=7) rfl ⟨rfl,by decide +kernel,by decide +kernel,rfl,⟨⟨rfl,rfl,by first | exact Or.inl rfl | exact Or.inr rfl⟩,⟨⟨rfl,rfl,by first | exact Or.inl rfl | exact Or.inr rfl⟩,trivial⟩⟩,rfl⟩ nd rfl (Or.inl rfl) (fu rfl B.range (a8 (ay (aX (K:=K) rfl) (by rfl) B.len ce (a8 (pv 3) aa)) aa)) (λb b b b=>(ar (i:=0) (show (["_law_cell","_law_land","_law_heights_here"]:List Str).Nodup by decide +kernel) rfl (Or.inl rfl))) (λb b b b=>(fw (aB dA (aD (aq (K:=K) rfl) (pv 1) (pv 0) (λb b=>rfl)) (aD (aq (K:=K) rfl) (pv 2) (pv 0) (λb b=>rfl)) (aI _)))) (λb b b b=>(pv 0)))
   (ac (c6 W2 rfl (fu rfl B.range (a8 af aa)) (ar (i:=8) nd rfl (Or.inl rfl))
   (ac (au (i:=9) nd rfl (Or.inl rfl) (aD (aq (K:=K) rfl) (pv 7) (ap b8 (ak G03 (hr.mono (by decide)) rfl (a8 (ak G00 (hr.mono (by decide)) rfl (a8 (pv 0) (a8 af aa))) (a8 (pv 8) aa))) (ay (aX (K:=K) rfl) (by rfl) B.len ce (a8 (pv 7) aa))) (λb b=>rfl)))
   (ac (au (i:=10) nd rfl (Or.inl rfl) (aD (aq (K:=K) rfl) (pv 7) (ap b8 (ak G03 (hr.mono (by decide)) rfl (a8 (ak G00 (hr.mono (by decide)) rfl (a8 (pv 0) (a8 af aa))) (a8 (ap bh (pv 8) af) aa))) (ay (aX (K:=K) rfl) (by rfl) B.len ce (a8 (pv 7) aa))) (λb b=>rfl)))
   (ac (bH (aB dA (pv 8) af (aI _))
   (ac (au (i:=9) nd rfl (Or.inl rfl) (aD (aq (K:=K) rfl) (pv 7) (ap b8 (ak G00 (hr.mono (by decide)) rfl (a8 (pv 0) (a8 af aa))) (ay (aX (K:=K) rfl) (by rfl) B.len ce (a8 (pv 7) aa))) (λb b=>rfl)))
   (ah (au (i:=10) nd rfl (Or.inl rfl) (aD (aq (K:=K) rfl) (pv 7) (ap b8 (ap bz (ak G00 (hr.mono (by decide)) rfl (a8 (pv 0) (a8 af aa))) (ay (aX (K:=K) rfl) (by rfl) B.len ce (a8 (pv 7) aa))) (ay (aX (K:=K) rfl) (by rfl) B.len ce (a8 (pv 7) aa))) (λb b=>rfl)))))
   aM)
   (ac (au (i:=11) nd rfl (Or.inl rfl) (aD (aq (K:=K) rfl) (pv 6) (aD (c7 (K:=K) rfl) (ak G92 (hr.mono (by decide)) rfl (a8 (pv 5) (a8 (pv 2) (a8 (pv 9) (a8 (pv 10) aa))))) af (λb b=>rfl)) (λb b=>rfl)))
   (ah (bH (aB oq (pv 11) (aD (aq (K:=K) rfl) (pv 3) (aD (c7 (K:=K) rfl) (ak G92 (hr.mono (by decide)) rfl (a8 (pv 1) (a8 (pv 2) (a8 (pv 9) (a8 (pv 10) aa))))) af (λb b=>rfl)) (λb b=>rfl)) (aI _))
   (ah (ax pe_bl))
   aM)))))))
   (ah (ax pe_bl)))))))))))),
  λa=>BV.cast (az 1 ((aC (aj (a7 0 rfl) (ao ag)))).ev λfloor_here1=>(az 2 (aA (aj (a7 0 rfl) (ao ag))) λreach_here3=>(az 3 ((aC (ao (a7 1 rfl)))).ev λheights_here5=>(az 4 (EV.cast (aA (aj (aA (aj (a7 0 rfl) (ao ag))) (aj ((aC (aj (a7 1 rfl) (aj (a7 2 rfl) (ao ag))))).ev (ao (a7 3 rfl))))) Pu.as3) λleast_here9=>(az 5 (ev_leR (le_ld (le_ln le_rfl)) ((pB (aj (a7 1 rfl) (aj (a7 2 rfl) (ao (a7 4 rfl)))))).ev) λfound11=>(az 6 ((aC (ao (a7 5 rfl)))).ev λland13=>(bM (bf (kP dC (cf sq_l (a7 6 rfl)) (cf sq_l (a7 3 rfl))))
  (bT (b9 ev_bl))
  (aN (bM (bf (qX (dL (dT2 dInt dOp)) ((aC (aj (a7 5 rfl) (aj (a7 2 rfl) (ao ag))))).ev ((aC (aj (a7 1 rfl) (aj (a7 2 rfl) (ao (a7 4 rfl)))))).ev))
  (bT (b9 ev_bl))
  (aN (az 7 ((cK (iI (cf sq_l (a7 3 rfl))) (by decide) (by decide) (aJ 0) (λy17=>(bf (cm dC (aE sq_l (a7 1 rfl) (a7 0 rfl)) (aE sq_l (a7 2 rfl) (a7 0 rfl))))) λy17=>(a7 0 rfl))).ev λkept21=>(nq (Γf:=λ(s24:Unit)=>[.fr (rScr K) (a),.fr (rL (rL rInt)) (floor_here1),.fr rInt (reach_here3),.fr (rL rInt) (heights_here5),.fr rInt (least_here9),.fr (rL (rL rInt)) (found11),.fr (rL rInt) (land13),.fr (rL rInt) (kept21),.any,.any,.any,.any]) (rf:=finV bJ) (e:=(λx=>x)) (()) (iI ag) (sbR (sbR (sbR (sbR (sbR (sbR (sbR (sbR (sbA (sbA (sbA (sbA .nil)))))))))))) (λb=>(aJ 8))
  (λs24 x23=>(az 9 (aE sq_l (a7 7 rfl) (eG (EV.cast (aA (aj (aA (aj (a7 0 rfl) (ao ag))) (ao (a7 8 rfl)))) Pu.as2) (cf sq_l (a7 7 rfl)))) λone28=>(az 10 (aE sq_l (a7 7 rfl) (eG (EV.cast (aA (aj (aA (aj (a7 0 rfl) (ao ag))) (ao (bi (a7 8 rfl) ag)))) Pu.as2) (cf sq_l (a7 7 rfl)))) λother33=>(jY (Γj:=λ(s35:Int × Int)=>[.fr (rScr K) (a),.fr (rL (rL rInt)) (floor_here1),.fr rInt (reach_here3),.fr (rL rInt) (heights_here5),.fr rInt (least_here9),.fr (rL (rL rInt)) (found11),.fr (rL rInt) (land13),.fr (rL rInt) (kept21),.fr rInt (x23),.fr rInt (s35.1),.fr rInt (s35.2),.any]) (aR (bM (bf (cm dC (a7 8 rfl) ag))
  (iJ (az 9 (aE sq_l (a7 7 rfl) (eG (aA (aj (a7 0 rfl) (ao ag))) (cf sq_l (a7 7 rfl)))) λone38=>(az 10 (aE sq_l (a7 7 rfl) (eG (fQ (aA (aj (a7 0 rfl) (ao ag))) (cf sq_l (a7 7 rfl))) (cf sq_l (a7 7 rfl)))) λother43=>(dD ((one38,other43)) (sbR (sbR (sbR (sbR (sbR (sbR (sbR (sbR (sbR (sbR (sbR (sbA .nil))))))))))))))))
  (aN (dD ((one28,other33)) (sbR (sbR (sbR (sbR (sbR (sbR (sbR (sbR (sbR (sbR (sbR (sbA .nil)))))))))))))))) λs35=>(az 11 (aE sq_l (a7 6 rfl) (ev_t3_0 (aA (aj (a7 5 rfl) (aj (a7 2 rfl) (aj (a7 9 rfl) (ao (a7 10 rfl)))))))) λhigh47=>(aR (bM (bf (kP dC (a7 11 rfl) (aE sq_l (a7 3 rfl) (ev_t3_0 (aA (aj (a7 1 rfl) (aj (a7 2 rfl) (aj (a7 9 rfl) (ao (a7 10 rfl))))))))))
  (bT (bv_retC (b9 ev_bl)))
  (aN (oX (()) (sbR (sbR (sbR (sbR (sbR (sbR (sbR (sbR (sbA (sbA (sbA (sbA .nil)))))))))))))))))))))
  rfV (λb b b h=>h) λs24=>(b9 ev_bl))))))))))))) (by unfold Pf.iM; first | (simp only [Pu.bs]; done) | (simp only [Pu.bs,nz9]; done) | (simp only [Pu.bs,nz9]; rfl))⟩
end
open Fl Pu Gr
section
variable {S β:Type}
theorem mI {I:S->Prop} {f:S->β->Option S} {g:S->β->S}:∀ {xs:List β} {s:S},I s->(∀ x∈xs,∀ s,I s->f s x=some (g s x)/\I (g s x))->forS f xs s=some (xs.foldl g s)/\I (xs.foldl g s):=by
 intro xs
 induction xs with
 | nil=>exact λi a=>⟨rfl,i⟩
 | cons x xs ih =>
  intro s i h
  refine oq02 (h x V0 s i) λe1 i1=>?_
  rw [Pu.gQ,e1,bs,List.foldl_cons]
  exact ih i1 λy hy=>h y (X2 _ hy)
end
noncomputable def up (v:Int) (ks:List Nat) (s:List Int):List Int:=ks.foldl (λs y=>s.set y (Pu.mx (s.getD y 0) v)) s
theorem up_eq {o:Option Int} {v:Int} {ks:List Nat} {s:List Int} {n:Nat} (ho:o=some v) (hs:s.length=n) (hk:∀ y∈ks,y<n) :
  Pu.forS (λ(s7:(List (Int))) (x6:Int)=>((Pu.at_ s7 x6).bind λx9=>o.bind λx10=>some (Pu.mx x9 x10)).bind λx14=>(L2.ixN (s7).length x6).bind λj12=>(λheights13=>some (heights13)) ((s7).set j12 (x14))) (cl ks) s=some (up v ks s)/\(up v ks s).length=n:=by
 subst ho
 have key:=mI (I:=λ(s:List Int)=>s.length=n) (f:=λ(s7:(List (Int))) (x6:Int)=>((Pu.at_ s7 x6).bind λx9=>(some v).bind λx10=>some (Pu.mx x9 x10)).bind λx14=>(L2.ixN (s7).length x6).bind λj12=>(λheights13=>some (heights13)) ((s7).set j12 (x14))) (g:=λs (y:Int)=>s.set y.toNat (Pu.mx (s.getD y.toNat 0) v)) (xs:=cl ks) hs ?_
 ·unfold cl at key
  rw [List.foldl_map] at key
  exact key
 ·rintro y hy s hs
  refine oq12 (gA.mp hy) λz hz eq2_=>?_; subst eq2_
  have hz':z<s.length:=by rw [hs]; exact hk z hz
  rw [aP,Z6 hz',bs,bs,bs,Pf.iS hz',bs,X0]
  refine ⟨?_,by rw [V6]; exact hs⟩
  rw [U7,Z6 hz']
  rfl
noncomputable def one (hg:Nat->Int) (par:Nat->Option (Nat × Nat)) (ks:Nat->Nat->List Nat) (least:Int) (s:List Int) (x:Nat):List Int :=
 match par x with
 | some p=>if hg p.1 - hg x<least then up (hg p.1) (ks x p.1) s else s
 | none=>s
theorem qx {m c:Nat} {hs:List Int} (hm:m<=1000) (hc:c<=1000):Pf.gr ((m:Int),(c:Int)) hs=some ((Z9 m).map λy=>(hs.drop (y * c)).take c):=by
 have c1:-(2 ^ 64)<((c:Nat):Int):=Int.lt_of_lt_of_le (by decide) (Int.natCast_nonneg c)
 have c2:((c:Nat):Int)<2 ^ 64:=P6 (O7.mpr hc) (by decide)
 unfold Pf.gr
 simp only
 rw [gw (nz4 hm (by decide)),bs,cj (g:=λy=>(hs.drop (y.toNat * c)).take c) (by rw [gv]; exact nz4 hm (by decide)) λy hy=>?_]
 ·unfold nats
  rw [U0]
  congr 1
 ·refine oq12 (iO.mp hy) λi x eq2_=>?_; subst eq2_
  rw [ke ⟨c1,c2⟩,bs,bs,ke ⟨c1,c2⟩,bs,bs,X0]
  have e1:(i:Int) * (c:Int)=((i * c:Nat):Int):=(N9 i c).symm
  have e2:((i:Int)+1) * (c:Int)=(((i+1) * c:Nat):Int):=(N9 (i+1) c).symm
  rw [e1,e2,kf,M3,D4]
theorem rX {c:Nat}:∀ (m:Nat) (S:List Int),S.length=m * c->((Z9 m).map λy=>(S.drop (y * c)).take c).flatten=S:=by
 intro m
 induction m with
 | zero=>intro S h; rw [Nat.zero_mul] at h; rw [List.length_eq_zero_iff.mp h]; rfl
 | succ m ih =>
  intro S h
  rw [List.range_succ_eq_map,W1,U0,List.flatten_cons,Nat.zero_mul,List.drop_zero]
  have e:((Z9 m).map ((λy=>(S.drop (y * c)).take c) ∘ Nat.succ)).flatten=S.drop c:=by
   rw [<- ih (S.drop c) (by rw [G7,h,M3,Nat.add_sub_cancel])]
   refine congrArg List.flatten (W8 λy x=>?_)
   show (S.drop ((y+1) * c)).take c=_
   rw [List.drop_drop,M3,Nat.add_comm]
  rw [e,C6]
section
variable {rows:List (List Int)} {c:Nat} {reach:Int} {os:List Nat} {home:Nat->Option Nat} {par:Nat->Option (Nat × Nat)} {ks:Nat->Nat->List Nat} {least:Int}
theorem put_2_eq (hpos:0<rows.length) (hc:0<c) (hcm:c<=100) (hm:rows.length<=100) (h:∀ r∈rows,r.length=c) (h64:rows.length * c<64) (o:Ord rows.flatten os) (u:UF (Nb rows.length c reach) (rows.length * c) (rk os) (rows.length * c) home par)
  (et:Pf.df rows reach=some ((os.filter λx=>decide (home x=some x)).map λ(x:Nat)=>((x:Int),(par x).map (λp=>(p.1:Int)),(par x).map (λp=>(p.2:Int)))))
  (hks:∀ x m,x<rows.length * c->m<rows.length * c->rk os x<rk os m->Pf.aK rows reach (x:Int) (m:Int)=some (cl (ks x m))/\∀ y∈ks x m,y<rows.length * c) :
  Pf.dg rows reach least=some ((Z9 rows.length).map λy=>(((os.filter λx=>decide (home x=some x)).foldl (one (hgt rows c) par ks least) rows.flatten).drop (y * c)).take c)/\((os.filter λx=>decide (home x=some x)).foldl (one (hgt rows c) par ks least) rows.flatten).length=rows.length * c:=by
 have hfl:rows.flatten.length=rows.length * c:=bE h
 have hc1:c<=1000:=nz4 hcm (by decide)
 have hm1:rows.length<=1000:=nz4 hm (by decide)
 have olen:=o.len
 have T60:(os.filter λx=>decide (home x=some x)).length<=64:=nz4 (T7 _ _) (by rw [olen,hfl]; exact nz5 h64)
 have hT:∀ x∈os.filter λx=>decide (home x=some x),x<rows.length * c:=λx hx=>hfl ▸ o.mem.mp (X6.mp hx).1
 have ho:∀ x,x<rows.length * c->Pf.bF rows (x:Int)=some (hgt rows c x):=λx hx=>Pf.iQ hc hc1 h hx
 have e0:Pf.bQ rows=some rows.flatten:=by
  unfold Pf.bQ
  rw [Pf.ed hpos hc1 hm1 h,bs,cj (g:=λy=>hgt rows c y.toNat) (by rw [ba,V8]; exact nz5 (nz8 h64 (by decide))) λy hy=>?_]
  ·congr 1
   unfold cl
   rw [U0]
   apply D9
   intro i
   by_cases hi:i<rows.length * c
   ·rw [Z7,L4 hi,kZ hc h hi]; rfl
   ·rw [J5 (by rw [Y0,V8]; exact X8.mp hi),J5 (by rw [hfl]; exact X8.mp hi)]
  ·refine oq12 (gA.mp hy) λx hx eq2_=>?_; subst eq2_
   rw [ho x (Q2.mp hx),X0]
 have short:Pf.cF rows reach least=some (((os.filter λx=>decide (home x=some x)).filter λx=>match par x with | some p=>decide (hgt rows c p.1 - hgt rows c x<least) | none=>false).map λ(x:Nat)=>((x:Int),(par x).map (λp=>(p.1:Int)))):=by
  unfold Pf.cF
  rw [et,bs,eB (p:=λ(y:Int × Option Int × Option Int)=>y.2.1.isSome) (g:=λ(y:Int × Option Int × Option Int)=>(y.1,y.2.1)) (by rw [Y0]; exact nz5 (nz2 T60 (by decide))) (λa a=>rfl) λa a a=>rfl,bs]
  have e1:(((os.filter λx=>decide (home x=some x)).map λ(x:Nat)=>((x:Int),(par x).map (λp=>(p.1:Int)),(par x).map (λp=>(p.2:Int)))).filter λy=>y.2.1.isSome).map (λy=>(y.1,y.2.1))=((os.filter λx=>decide (home x=some x)).filter λx=>(par x).isSome).map λ(x:Nat)=>((x:Int),(par x).map (λp=>(p.1:Int))):=by
   rw [K4,U0]
   congr 1
   refine List.filter_congr λx a=>?_
   simp only [B8,J7]
  rw [e1,eB (p:=λ(y:Int × Option Int)=>match par y.1.toNat with | some p=>decide (hgt rows c p.1 - hgt rows c y.1.toNat<least) | none=>false) (g:=λy=>y) (by rw [Y0]; exact nz4 (T7 _ _) (by exact nz5 (nz2 T60 (by decide)))) (λy hy=>?_) λa a a=>rfl,List.map_id',K4,List.filter_filter]
  ·congr 2
   refine List.filter_congr λx a=>?_
   simp only [B8,X0]
   cases par x <;> simp
  ·refine oq12 (W7.mp hy) λx hx eq2_=>?_; subst eq2_
   refine oq02 (X6.mp hx) λhx1 hx2=>?_
   simp only [X0]
   cases q:par x with
   | none=>rw [q] at hx2; cases hx2
   | some p =>
    have h3:=(u.pr x p.1 p.2 q).2.2.1
    unfold Pf.k9
    simp only [K5]
    rw [if_neg (by simp),bs,ho p.1 h3.1,bs,ho x (hT x hx1),bs,bs,bs,bs]
 have key:=mI (I:=λ(s:List Int)=>s.length=rows.length * c) (s:=rows.flatten) (xs:=((os.filter λx=>decide (home x=some x)).filter λx=>match par x with | some p=>decide (hgt rows c p.1 - hgt rows c x<least) | none=>false).map λ(x:Nat)=>((x:Int),(par x).map (λp=>(p.1:Int))))
  (f:=λ(s4:(List (Int))) (x3:(Int × (Option (Int))))=>((x3.2).bind λx5=>Pf.aK rows reach x3.1 x5).bind λx15=>(Pu.forS (λ(s7:(List (Int))) (x6:Int)=>((Pu.at_ s7 x6).bind λx9=>((x3.2).bind λx8=>Pf.bF rows x8).bind λx10=>some (Pu.mx x9 x10)).bind λx14=>(L2.ixN (s7).length x6).bind λj12=>(λheights13=>some (heights13)) ((s7).set j12 (x14))) x15 s4).bind λ(s7:(List (Int)))=>some (s7))
  (g:=λs (y:Int × Option Int)=>one (hgt rows c) par ks least s y.1.toNat) hfl ?_
 ·refine oq02 key λk1 k2=>?_
  have eT:(((os.filter λx=>decide (home x=some x)).filter λx=>match par x with | some p=>decide (hgt rows c p.1 - hgt rows c x<least) | none=>false).map λ(x:Nat)=>((x:Int),(par x).map (λp=>(p.1:Int)))).foldl (λs (y:Int × Option Int)=>one (hgt rows c) par ks least s y.1.toNat) rows.flatten=(os.filter λx=>decide (home x=some x)).foldl (one (hgt rows c) par ks least) rows.flatten:=by
   rw [List.foldl_map,List.foldl_filter]
   congr 1
   funext s x
   rw [X0]
   unfold one
   cases q:par x with
   | none=>rfl
   | some p =>
    by_cases z:hgt rows c p.1 - hgt rows c x<least
    ·simp only [decide_eq_true z,if_pos z,if_true]
    ·simp only [decide_eq_false z,if_neg z]; rfl
  rw [eT] at k1 k2
  refine ⟨?_,k2⟩
  unfold Pf.dg
  exact bnk e0 (bnk short (bnk k1 (bnk (Pf.eO hpos h) (qx hm1 hc1))))
 ·rintro y hy s hs
  refine oq12 (W7.mp hy) λx hx eq2_=>?_; subst eq2_
  refine oq02 (X6.mp hx) λhx1 hx2=>?_
  simp only [X0]
  unfold one
  cases q:par x with
  | none=>rw [q] at hx2; cases hx2
  | some p =>
   rw [q] at hx2
   have z:=of_decide_eq_true hx2
   refine oq05 (u.pr x p.1 p.2 q) λa a h3 h4 a=>?_
   refine oq02 (hks x p.1 (hT x hx1) h3.1 h4) λk1 k3=>?_
   simp only [K5]
   rw [if_pos z,bs,k1,bs]
   refine oq02 (up_eq (o:=(some (p.1:Int)).bind λx8=>Pf.bF rows x8) (v:=hgt rows c p.1) (ks:=ks x p.1) (by rw [bs,ho p.1 h3.1]) hs k3) λw1 w2=>?_
   exact ⟨by rw [w1,bs],w2⟩
end
theorem mx_ge (a b:Int):a<=Pu.mx a b/\b<=Pu.mx a b/\(Pu.mx a b=a\/Pu.mx a b=b):=by unfold Pu.mx; split <;> lia
theorem up_get {v:Int}:∀ {ks:List Nat} {s:List Int} {x:Nat},x<s.length->s.getD x 0<=(up v ks s).getD x 0/\(x∈ks->v<=(up v ks s).getD x 0)/\((up v ks s).getD x 0=s.getD x 0\/x∈ks/\(up v ks s).getD x 0=v):=by
 intro ks
 induction ks with
 | nil=>exact λa=>⟨R0 _,(λz=>nomatch z),.inl rfl⟩
 | cons y ks ih =>
  intro s x hx
  have ih:=ih (s:=s.set y (Pu.mx (s.getD y 0) v)) (x:=x) (by rw [V6]; exact hx)
  show s.getD x 0<=(up v ks (s.set y (Pu.mx (s.getD y 0) v))).getD x 0/\(x∈y :: ks->v<=(up v ks (s.set y (Pu.mx (s.getD y 0) v))).getD x 0)/\((up v ks (s.set y (Pu.mx (s.getD y 0) v))).getD x 0=s.getD x 0\/x∈y :: ks/\(up v ks (s.set y (Pu.mx (s.getD y 0) v))).getD x 0=v)
  have g:(s.set y (Pu.mx (s.getD y 0) v)).getD x 0=if y=x then Pu.mx (s.getD x 0) v else s.getD x 0:=by
   rw [U7,U7,U7]
   by_cases e:y=x
   ·subst e; rw [L7 hx,if_pos rfl]; rfl
   ·rw [J9 e,if_neg e]
  have m:=mx_ge (s.getD x 0) v
  rw [g] at ih
  by_cases e:y=x
  ·rw [if_pos e] at ih
   have xin:x∈y :: ks:=e ▸ V0
   refine ⟨V7 m.1 ih.1,λa=>V7 m.2.1 ih.1,ih.2.2.elim (λz=>m.2.2.elim (λw=>.inl (z.trans w)) λw=>.inr ⟨xin,z.trans w⟩) λz=>.inr ⟨xin,z.2⟩⟩
  ·rw [if_neg e] at ih
   exact ⟨ih.1,λz=>ih.2.1 ((Z8.mp z).elim (λw=>absurd w.symm e) id),ih.2.2.imp id λz=>⟨X2 _ z.1,z.2⟩⟩
theorem up_len {v:Int}:∀ {ks:List Nat} {s:List Int},(up v ks s).length=s.length:=by
 intro ks
 induction ks with
 | nil=>exact rfl
 | cons y ks ih=>exact λ{s}=>(ih (s:=s.set y (Pu.mx (s.getD y 0) v))).trans (V6 ..)
section
variable {h:Nat->Int} {par:Nat->Option (Nat × Nat)} {ks:Nat->Nat->List Nat} {l:Int}
def By1 (h:Nat->Int) (par:Nat->Option (Nat × Nat)) (ks:Nat->Nat->List Nat) (l:Int) (s x:Nat) (v:Int):Prop:=∃ m e,par s=some (m,e)/\h m - h s<l/\x∈ks s m/\v=h m
theorem one_get {S:List Int} {s x:Nat} (hx:x<S.length):(one h par ks l S s).length=S.length/\S.getD x 0<=(one h par ks l S s).getD x 0/\(∀ v,By1 h par ks l s x v->v<=(one h par ks l S s).getD x 0)/\((one h par ks l S s).getD x 0=S.getD x 0\/By1 h par ks l s x ((one h par ks l S s).getD x 0)):=by
 cases q:par s with
 | none =>
  rw [show one h par ks l S s=S by unfold one; rw [q]]
  exact ⟨rfl,R0 _,(λv z=>oq21 z λm e z=>nomatch q.symm.trans z.1),.inl rfl⟩
 | some p =>
  rw [show one h par ks l S s=if h p.1 - h s<l then up (h p.1) (ks s p.1) S else S by unfold one; rw [q]]
  by_cases z:h p.1 - h s<l
  ·rw [if_pos z]
   have g:=up_get (v:=h p.1) (ks:=ks s p.1) hx
   refine ⟨up_len,g.1,λv w=>oq24 w λm e w1 a w3 w4=>?_,g.2.2.imp id λw=>⟨p.1,p.2,q,z,w.1,w.2⟩⟩
   have ep:p=(m,e):=Z3 (q.symm.trans w1)
   subst ep
   rw [w4]; exact g.2.1 w3
  ·rw [if_neg z]
   refine ⟨rfl,R0 _,λv w=>oq24 w λm e w1 w2 a a=>?_,.inl rfl⟩
   have ep:p=(m,e):=Z3 (q.symm.trans w1)
   subst ep
   exact absurd w2 z
theorem all_get {x:Nat}:∀ {T:List Nat} {S:List Int},x<S.length->S.getD x 0<=(T.foldl (one h par ks l) S).getD x 0/\(∀ s∈T,∀ v,By1 h par ks l s x v->v<=(T.foldl (one h par ks l) S).getD x 0)/\((T.foldl (one h par ks l) S).getD x 0=S.getD x 0\/∃ s∈T,By1 h par ks l s x ((T.foldl (one h par ks l) S).getD x 0)):=by
 intro T
 induction T with
 | nil=>exact λa=>⟨R0 _,(λa z=>nomatch z),.inl rfl⟩
 | cons t T ih =>
  intro S hx
  have g:=one_get (h:=h) (par:=par) (ks:=ks) (l:=l) (s:=t) hx
  have ih:=ih (S:=one h par ks l S t) (by rw [g.1]; exact hx)
  rw [List.foldl_cons]
  refine ⟨V7 g.2.1 ih.1,λs hs v w=>(Z8.mp hs).elim (λe=>?_) λhs=>ih.2.1 s hs v w,?_⟩
  ·subst e; exact V7 (g.2.2.1 v w) ih.1
  ·refine ih.2.2.elim (λe=>g.2.2.2.elim (λe2=>.inl (e.trans e2)) λb=>.inr ⟨t,V0,e ▸ b⟩) λb=>.inr (oq12 b λs hs b=>⟨s,X2 _ hs,b⟩)
end
theorem forS_pick {β γ:Type} {f:List γ->β->Option (List γ)} {g:Nat->β} {p:Nat->Bool} {out:Nat->γ}:∀ (xs:List Nat) (acc:List γ),acc.length+xs.length<=1000->(∀ x∈xs,∀ s:List γ,s.length<=1000->f s (g x)=some (if p x=true then s++[out x] else s))->forS f (xs.map g) acc=some (acc++(xs.filter p).map out):=by
 intro xs
 induction xs with
 | nil=>exact λacc a a=>congrArg some (T2 acc).symm
 | cons x xs ih =>
  intro acc hl h
  rw [W3] at hl
  have e:=h x V0 acc (by lia)
  rw [W1,Pu.gQ,e,bs]
  have ih:=λacc' ha=>ih acc' ha λy hy=>h y (X2 _ hy)
  cases q:p x with
  | true=>rw [if_pos rfl,ih _ (by rw [W5,J1]; lia),D3 q,W1,List.append_assoc]; rfl
  | false=>rw [if_neg Z2,ih _ (by lia),D2 (by rw [q]; exact Z2)]
open Classical in
noncomputable def fJ (os:List Nat) (h:Nat->Int) (home:Nat->Option Nat) (par:Nat->Option (Nat × Nat)) (l:Int):List (Int × Option Int):=(os.filter λs=>decide (Long h home par l s)).map λ(s:Nat)=>((s:Int),(par s).map λq=>h q.1)
noncomputable abbrev hf (rows:List (List Int)) (x:Nat):Int:=rows.flatten.getD x 0
section
variable {rows:List (List Int)} {c:Nat} {reach:Int} {os:List Nat} {home:Nat->Option Nat} {par:Nat->Option (Nat × Nat)}
theorem mJ {x:Nat} (hx:x<rows.flatten.length):rows.flatten[x]?=some (hf rows x):=by rw [Z6 hx,hf,U7,Z6 hx]; rfl
theorem rY (hc:0<c) (h:∀ r∈rows,r.length=c) {x:Nat} (hx:x<rows.length * c):hgt rows c x=hf rows x:=Z3 ((kZ hc h hx).symm.trans (mJ (by rw [bE h]; exact hx)))
theorem by_ord (hc:0<c) (h:∀ r∈rows,r.length=c) (o:Ord rows.flatten os):By (rows.length * c) (hf rows) (rk os):=by
 have fl:rows.flatten.length=rows.length * c:=bE h
 refine ⟨λx y hx hy=>?_,λx hx=>by have:=o.rk_lt (x:=x) (by rw [fl]; exact hx); rwa [fl] at this⟩
 rw [o.lt_iff (by rw [fl]; exact hx) (by rw [fl]; exact hy),dz hc h hx,dz hc h hy,<- rY hc h hx,<- rY hc h hy]
 unfold lt2 Pf.key
 rw [decide_eq_true_eq]
 simp only
 omega
open Classical in
theorem lakes_eq (hpos:0<rows.length) (hc:0<c) (hc1:c<=1000) (hm1:rows.length<=1000) (h:∀ r∈rows,r.length=c) (h64:rows.length * c<64) (o:Ord rows.flatten os) (u:UF (Nb rows.length c reach) (rows.length * c) (rk os) (rows.length * c) home par) (l:Int):Pf.dG rows reach l=some (fJ os (hf rows) home par l):=by
 have fl:rows.flatten.length=rows.length * c:=bE h
 have f64:rows.flatten.length<64:=by rw [fl]; exact h64
 have inj:=(by_ord hc h o).inj
 refine oq12 (Pf.nG f64) λos' elo o'=>?_
 have eos:=o'.uniq o
 subst eos
 refine oq13 (Pf.places_eq f64 elo o') λpl epl a hpl=>?_
 refine oq33 (Pf.swept_eq (reach:=reach) (bes:=(Z9 (rows.length * c)).map λx=>cl (nbL rows.length c reach x)) o fl rfl h64 (λi hi=>by rw [Z7,L4 hi]; rfl) (λi hi=>hpl i (by rw [fl]; exact hi))) λhomes home2 par2 u2 a es=>?_
 have e1:home2=home:=funext λx=>u2.home_eq inj u x
 have e2:par2=par:=funext λx=>u2.par_eq inj u x
 subst e1 e2
 have hT:∀ x∈os'.filter λx=>decide (home2 x=some x),x<rows.length * c:=λx hx=>fl ▸ o.mem.mp (X6.mp hx).1
 have lT:(os'.filter λx=>decide (home2 x=some x)).length<=64:=nz4 (T7 _ _) (by rw [o.len,fl]; exact nz5 h64)
 unfold Pf.dG
 refine bnk (Pf.il rows (by lia)) (bnk (bnk (bnk (show Pf.gq rows.flatten=some pl from Pf.pX _ ▸ epl) (bnk elo (bnk (Pf.pP hpos hc hc1 hm1 h) es))) rfl) (bnk (forS_pick (p:=λs=>decide (∀ m e,par2 s=some (m,e)->l<=hf rows m - hf rows s)) (out:=λ(s:Nat)=>((s:Int),(par2 s).map λq=>hf rows q.1)) _ [] (by rw [N6]; lia) λx hx s hs=>?_) ?_))
 ·cases q:par2 x with
  | none =>
   simp only [q,Option.map_none]
   rw [if_pos (show (none:Option Int).isNone=true from rfl),gz (nz4 hs (by decide)),bs,if_pos (decide_eq_true λm e z=>nomatch z)]
  | some p =>
   have pn:p.1<rows.flatten.length:=by rw [fl]; exact (u2.pr x p.1 p.2 q).2.2.1.1
   simp only [q,K5]
   rw [if_neg (show ¬ (some (p.1:Int)).isNone=true from Z2),bs,aP,mJ pn,bs,aP,mJ (by rw [fl]; exact hT x hx),bs,bs,bs]
   have ep:(∀ m e,some p=some (m,e)->l<=hf rows m - hf rows x)↔l<=hf rows p.1 - hf rows x:=⟨λz=>z p.1 p.2 rfl,λz m e y=>by cases y; exact z⟩
   by_cases z:l<=hf rows p.1 - hf rows x
   ·rw [if_pos (decide_eq_true z),bs,bs,bs,gz (nz4 hs (by decide)),bs,if_pos (decide_eq_true (ep.mpr z))]
   ·rw [if_neg (by rw [decide_eq_false z]; exact Z2),if_neg (by rw [decide_eq_false λy=>z (ep.mp y)]; exact Z2)]
 ·rw [List.nil_append]
  refine congrArg some (congrArg (List.map _) ?_)
  rw [List.filter_filter]
  refine List.filter_congr λx a=>?_
  rw [X1,N0,decide_eq_true_eq,decide_eq_true_eq,decide_eq_true_eq]
  exact ⟨λz=>⟨z.2,z.1⟩,λz=>⟨z.2,z.1⟩⟩
end
theorem back_step {nb:Nat->List Nat} {other:Nat} {d:List (Int × Option Int)} {ks:List Nat} (e2:d.map (·.1)=cl ks) (e3:ks.Nodup) (e5:Par nb other d) {u i:Nat} (hi:ks[i]?=some u) (ne:u≠other):∃ p j:Nat,j<i/\ks[j]?=some p/\find d (u:Int)=some (some (p:Int)):=by
 have dk:∀ i:Nat,(d[i]?).map (·.1)=(ks[i]?).map λ(y:Nat)=>(y:Int):=λi=>by
  rw [<- Z7,e2]; unfold cl; rw [Z7]
 have q:=(dk i).trans (congrArg (Option.map _) hi)
 refine oq12 (V2.mp q) λe he hek=>?_
 rcases e5 i e he with z | z
 ·exact absurd (K9 (hek.symm.trans (congrArg Prod.fst z.2))) ne
 ·refine oq34 z λj p k hj ee hp hk=>?_
  have ku:k=u:=K9 ((congrArg Prod.fst ee).symm.trans hek)
  refine oq12 (V2.mp ((dk j).symm.trans hp)) λy hy e'=>?_
  exact oi23 p j hj (hy.trans (congrArg some (K9 e'))) (find_at (by rw [e2]; exact pU e3) (he.trans (by rw [ee,ku])))
theorem last_of (w:List Int) (u:Nat):((w++[(u:Int)]).getLastD 0).toNat=u:=by simp
theorem idx_of {ks:List Nat} (e3:ks.Nodup) {i y:Nat} (hy:ks[i]?=some y):ks.idxOf y=i:=by
 have hi:=Z1.mp hy
 rw [<- hi.2]; exact e3.idxOf_getElem i hi.1
theorem way_some {rows:List (List Int)} {c:Nat} {os:List Nat} {reach:Int} (hc:0<c) (hcm:c<=100) (hm:rows.length<=100) (h:∀ r∈rows,r.length=c) (h64:rows.length * c<64) (o:Ord rows.flatten os) {one other last:Nat} (h2:other<rows.length * c) (h3:last<rows.length * c)
  (hj:Rch (Nb rows.length c reach) (Lv (rows.length * c) (rk os) (rk os last+1)) other one):∃ w,Pf.gZ rows reach (one:Int) (other:Int) (last:Int)=some w:=by
 refine oq25 (Pf.iR (reach:=reach) hc hcm hm h h2 h3) λd ks e1 e2 e3 e4 e5=>?_
 have kl:ks.length<64:=nz2 (iE _ e3 λy hy=>by
  cases (Pf.nI hc h o h2 h3).mp ((e4 y).mp hy) with
  | here=>exact h2
  | on _ _ g=>exact g.1) h64
 have hone:one∈ks:=(e4 one).mpr ((Pf.nI hc h o h2 h3).mpr hj)
 refine oq12 (whS_ex (P:=λa=>True) (k:=some) (n:=100000) (s:=[(one:Int)]) (t:=λs=>(Pu.at_ s (-1)).bind λx=>some (!decide (x=(other:Int)))) (f:=λs=>(((Pu.at_ s (-1)).bind λx=>Pu.find d x).bind λx=>x).bind λx=>(Pu.app s x).bind λz=>some z)
  (λs=>∃ (w:List Int) (u i:Nat),s=w++[(u:Int)]/\ks[i]?=some u/\w.length+i<64) (λs=>ks.idxOf (s.getLastD 0).toNat) ?_ (nz8 (M7.mpr hone) (nz8 kl (by decide))) (λs zq=>oq33 zq λw u i es hi hw=>?_) λs a a=>oi12 s rfl trivial) λw e a=>⟨w,bnk e1 e⟩
 ·refine oq11 (J4.mp hone) λi hi=>?_
  exact oi33 [] one i rfl hi (by rw [N6,Nat.zero_add]; exact nz8 (Z1.mp hi).1 kl)
 ·have atU:Pu.at_ s (-1)=some (u:Int):=es ▸ at_last _ _
  refine oi12 _ (bnk atU rfl) λhne=>?_
  have hne:u≠other:=λz=>by rw [z] at hne; simp at hne
  refine oq23 (back_step e2 e3 e5 hi hne) λp j hj hp hf=>?_
  have sl:s.length=w.length+1:=es ▸ W5
  have s64:s.length+j<64:=by rw [sl]; (clear hf hp hne atU hi es e5 e4 e3 e2 e1 hone kl o h64 h hm hcm hc h2 h3; lia)
  refine oi13 (s++[(p:Int)]) (bnk (bnk (bnk atU hf) rfl) (bnk (gz (nz4 (S7 _ j) (nz4 (nz5 s64) (by decide)))) rfl)) (oi33 s p j rfl hp s64) ?_
  rw [last_of,idx_of e3 hp,es,last_of,idx_of e3 hi]
  exact hj
theorem facts {rows:List (List Int)} {m c:Nat} (hl:rows.length=m) (hm:0<m) (hm2:m<=12) (hc:0<c) (hc2:c<=12) (h:∀ r∈rows,r.length=c) (hn:m * c<=60) (reach:Int) :
  ∃ os home par,Pf.bC rows=some (cl os)/\Ord rows.flatten os/\UF (Nb m c reach) (m * c) (rk os) (m * c) home par/\By (m * c) (hf rows) (rk os)/\Pf.df rows reach=some ((os.filter λx=>decide (home x=some x)).map λ(x:Nat)=>((x:Int),(par x).map (λp=>(p.1:Int)),(par x).map (λp=>(p.2:Int)))) /\
   (∀ l,Pf.dG rows reach l=some (fJ os (hf rows) home par l))/\∀ a b:Nat,a<m * c->b<m * c->∃ (j:Nat) (w ks:List Int),Pf.cy rows reach (a:Int) (b:Int)=some ((j:Int),w,ks)/\nO (Nb m c reach) (m * c) (rk os) a b j:=by
 subst hl
 have h64:rows.length * c<64:=nz2 hn (by decide)
 have c1:c<=1000:=nz4 hc2 (by decide)
 have m1:rows.length<=1000:=nz4 hm2 (by decide)
 refine oq35 (Pf.rH (reach:=reach) hm hc c1 m1 h h64) λos home par eo o u et e=>?_
 refine ⟨os,home,par,eo,o,u,by_ord hc h o,?_,λl=>lakes_eq hm hc c1 m1 h h64 o u l,λa b ha hb=>?_⟩
 ·rw [<- et]
  unfold Pf.df Pf.nE Pf.cX Pf.eN
  rw [Pf.i8]
 ·refine oq16 (Pf.rK (reach:=reach) hm hc c1 m1 h h64 o eo ha hb) λj a1 a2 a3 a4 a5 a6=>?_
  refine oq11 (way_some (reach:=reach) hc (nz4 hc2 (by decide)) (nz4 hm2 (by decide)) h h64 o hb a2 (a5.symm Nb.sy ⟨ha,C0 a3⟩)) λw b1=>?_
  refine oq12 (Pf.fB (reach:=reach) hc (nz4 hc2 (by decide)) (nz4 hm2 (by decide)) h h64 o eo ha a2) λks c1 e=>?_
  refine oi32 j w (cl ks) ?_ (oi05 a2 a3 a4 a5 λq=>Q7 _ (a6 _ q.1 q.2.1 q.2.2))
  unfold Pf.cy
  rw [a1,bs,bs,b1,bs,c1,bs]
theorem least_ok {w:Int} {os:List Nat} {h:Nat->Int} {home:Nat->Option Nat} {par:Nat->Option (Nat × Nat)} {hs:List Int} (h0:0<(fJ os h home par 0).length) (ho:∀ s∈os,∃ v,hs[s]?=some v):∃ l,Pf.gs w (fJ os h home par 0) hs=some l/\1<=l:=by
 unfold Pf.gs
 by_cases q0:w % 5=0
 ·exact ⟨_,if_pos (decide_eq_true q0),by lia⟩
 rw [if_neg (by rw [decide_eq_false q0]; exact Z2)]
 by_cases q1:w % 5=1
 ·exact ⟨_,if_pos (decide_eq_true q1),by lia⟩
 rw [if_neg (by rw [decide_eq_false q1]; exact Z2)]
 by_cases q2:w % 5=2
 ·exact ⟨_,if_pos (decide_eq_true q2),by lia⟩
 rw [if_neg (by rw [decide_eq_false q2]; exact Z2)]
 have lp:(0:Int)<Pu.ln (fJ os h home par 0):=U5.mpr h0
 have e1:∃ i:Nat,i<(fJ os h home par 0).length/\Pu.fmod (w / 5) (Pu.ln (fJ os h home par 0))=some (i:Int):=by
  have a1:=E2 (w / 5) (D8 lp)
  have a2:=E7 (w / 5) lp
  refine ⟨((w / 5) % Pu.ln (fJ os h home par 0)).toNat,?_,by rw [fU lp,Int.toNat_of_nonneg a1]⟩
  unfold Pu.ln at *
  lia
 refine oq12 e1 λi hi e1=>?_
 rw [e1,bs,aP,Z6 hi,bs]
 have mem:=G8 hi
 generalize (fJ os h home par 0)[i]=t at mem
 refine oq12 (W7.mp mem) λx hx e=>?_
 subst e
 simp only
 cases q:par x with
 | none=>exact ⟨_,if_pos rfl,by decide⟩
 | some p =>
  refine oq11 (ho x (X6.mp hx).1) λv hv=>?_
  simp only [K5]
  rw [if_neg (show ¬ (some (h p.1)).isNone=true from Z2),bs,aP,hv,bs,bs,bs,bs,bs]
  exact ⟨_,rfl,(mx_ge 1 _).1⟩
section
variable {rows:List (List Int)} {c:Nat} {reach:Int} {os:List Nat} {home:Nat->Option Nat} {par:Nat->Option (Nat × Nat)}
theorem put_ok (hpos:0<rows.length) (hc:0<c) (hcm:c<=100) (hm:rows.length<=100) (h:∀ r∈rows,r.length=c) (h64:rows.length * c<64) (o:Ord rows.flatten os) (eo:Pf.bC rows=some (cl os)) (u:UF (Nb rows.length c reach) (rows.length * c) (rk os) (rows.length * c) home par)
  (et:Pf.df rows reach=some ((os.filter λx=>decide (home x=some x)).map λ(x:Nat)=>((x:Int),(par x).map (λp=>(p.1:Int)),(par x).map (λp=>(p.2:Int))))) (l:Int) :
  ∃ R:List Int,Pf.dg rows reach l=some ((Z9 rows.length).map λy=>(R.drop (y * c)).take c)/\R.length=rows.length * c/\Put (Nb rows.length c reach) (rows.length * c) (hf rows) (rk os) home par l λx=>R.getD x 0:=by
 have fl:rows.flatten.length=rows.length * c:=bE h
 have ex:∀ x m,∃ ks:List Nat,x<rows.length * c->m<rows.length * c->rk os x<rk os m->Pf.aK rows reach (x:Int) (m:Int)=some (cl ks)/\∀ y,y∈ks↔Rch (Nb rows.length c reach) (Lv (rows.length * c) (rk os) (rk os m)) x y:=λx m=>by
  by_cases hx:x<rows.length * c
  ·by_cases hm':m<rows.length * c
   ·exact oq14 (Pf.fB (reach:=reach) hc hcm hm h h64 o eo hx hm') λks e1 a a q1=>⟨ks,λa a hr=>⟨e1,q1 hr⟩⟩
   ·exact ⟨[],λa z=>absurd z hm'⟩
  ·exact ⟨[],λz=>absurd z hx⟩
 have hks:=λx m=>(ex x m).choose_spec
 generalize ek:(λx m=>(ex x m).choose)=ks at *
 have hks:∀ x m,x<rows.length * c->m<rows.length * c->rk os x<rk os m->Pf.aK rows reach (x:Int) (m:Int)=some (cl (ks x m))/\∀ y,y∈ks x m↔Rch (Nb rows.length c reach) (Lv (rows.length * c) (rk os) (rk os m)) x y:=λx m=>by rw [<- ek]; exact hks x m
 have inN:∀ x m,x<rows.length * c->m<rows.length * c->rk os x<rk os m->∀ y∈ks x m,y<rows.length * c:=λx m hx hm' hr y hy=>by
  cases ((hks x m hx hm' hr).2 y).mp hy with
  | here=>exact hx
  | on _ _ z=>exact z.1
 refine oq02 (put_2_eq (least:=l) hpos hc hcm hm h h64 o u et λx m hx hm' hr=>⟨(hks x m hx hm' hr).1,inN x m hx hm' hr⟩) λe1 e2=>⟨_,e1,e2,?_⟩
 have g:=λx (hx:x<rows.length * c)=>all_get (h:=hgt rows c) (par:=par) (ks:=ks) (l:=l) (x:=x) (T:=os.filter λx=>decide (home x=some x)) (S:=rows.flatten) (by rw [fl]; exact hx)
 have hh:=λx (hx:x<rows.length * c)=>rY hc h hx
 refine ⟨λx hx=>(g x hx).1,λx s m e hx hs hp sh rc=>?_,λx hx=>(g x hx).2.2.imp id λz=>oq12 z λs hs b=>oq24 b λm e b1 b2 b3 b4=>?_⟩
 ·refine oq04 (u.pr s m e hp) λa a h3 zz=>?_
  have sn:s<rows.length * c:=(u.dom s (by rw [hs]; exact nofun)).1
  refine (g x hx).2.1 s (X6.mpr ⟨o.mem.mpr (by rw [fl]; exact sn),decide_eq_true hs⟩) _ ⟨m,e,hp,by rw [hh m h3.1,hh s sn]; exact sh,((hks s m sn h3.1 zz.1).2 x).mpr rc,(hh m h3.1).symm⟩
 ·refine oq04 (u.pr s m e b1) λh1 a h3 zz=>?_
  have sn:s<rows.length * c:=(u.dom s (by rw [h1]; exact nofun)).1
  rw [hh m h3.1,hh s sn] at b2
  rw [hh m h3.1] at b4
  exact ⟨s,m,e,h1,b1,b2,((hks s m sn h3.1 zz.1).2 x).mp b3,b4⟩
end
open Classical in
theorem rZ {A:Nat->Nat->Prop} {n:Nat} {h h':Nat->Int} {os os':List Nat} {home home':Nat->Option Nat} {par par':Nat->Option (Nat × Nat)} {l:Int} {hs hs':List Int} (sy:∀ a b,A a b->A b a) (hl:hs.length=n) (hl':hs'.length=n) (o:Ord hs os) (o':Ord hs' os') (b:By n h (rk os)) (b':By n h' (rk os')) (u:UF A n (rk os) n home par) (u':UF A n (rk os') n home' par') (p:Put A n h (rk os) home par l h') (h1:1<=l):fJ os' h' home' par' 1=fJ os h home par l:=by
 have up:∀ {hs:List Int} {os:List Nat},Ord hs os->os.Pairwise λa b=>a∈os/\b∈os/\rk os a<rk os b:=λ{hs os} o=>M8 (λha hb z=>⟨ha,hb,(o.lt_iff (o.mem.mp ha) (o.mem.mp hb)).mpr z⟩) o.up
 have e:(os'.filter λs=>decide (Long h' home' par' 1 s))=os.filter λs=>decide (Long h home par l s):=by
  have p1:(os.filter λs=>decide (Long h home par l s)).Pairwise λa b=>rk os a<rk os b:=((up o).filter _).imp λz=>z.2.2
  have p2:(os'.filter λs=>decide (Long h' home' par' 1 s)).Pairwise λa b=>rk os a<rk os b:=by
   refine M8 (λ{a c} ha hc z=>?_) ((up o').filter _)
   have an:a<n:=hl' ▸ o'.mem.mp z.1
   have cn:c<n:=hl' ▸ o'.mem.mp z.2.1
   have la:=(gB sy b b' u u' p h1 an).mpr (of_decide_eq_true (X6.mp ha).2)
   have lc:=(gB sy b b' u u' p h1 cn).mpr (of_decide_eq_true (X6.mp hc).2)
   have q:=(b'.lt a c an cn).mp z.2.2
   rw [cQ sy b u p h1 an la,cQ sy b u p h1 cn lc] at q
   exact (b.lt a c an cn).mpr q
  refine cO (le:=λa b=>rk os a<rk os b) (λa b z1 z2=>absurd z1 (X8.mpr (nz5 z2))) ((List.perm_ext_iff_of_nodup (o'.nd.filter _) (o.nd.filter _)).mpr λx=>?_) p2 p1
  rw [X6,X6,o.mem,o'.mem,hl,hl',decide_eq_true_eq,decide_eq_true_eq]
  exact ⟨λz=>⟨z.1,(gB sy b b' u u' p h1 z.1).mpr z.2⟩,λz=>⟨z.1,(gB sy b b' u u' p h1 z.1).mp z.2⟩⟩
 unfold fJ
 rw [e]
 refine W8 λs hs=>?_
 have z:=X6.mp hs
 rw [long_ends sy b b' u u' p h1 (hl ▸ o.mem.mp z.1) (of_decide_eq_true z.2)]
theorem bnk2 {α β γ:Type} {o:Option α} {a:α} {f:α->Option β} {g:β->Option γ} {r:Option γ} (h:o=some a) (k:(f a).bind g=r):(o.bind f).bind g=r:=by
 subst h; exact k
theorem pick {K:List Nat} (h:0<K.length) (v:Int):∃ x∈K,((Pu.fmod v (Pu.ln (cl K))).bind λi=>Pu.at_ (cl K) i)=some (x:Int):=by
 have lp:(0:Int)<Pu.ln (cl K):=by unfold Pu.ln; rw [ba]; omega
 have a1:=E2 v (D8 lp)
 have a2:=E7 v lp
 refine oq11 (D5 a1) λi ei=>?_
 rw [fU lp,bs,ei,aP]
 have hi:i<K.length:=by
  rw [ei] at a2
  unfold Pu.ln at a2
  rw [ba] at a2
  omega
 refine ⟨K[i],G8 hi,?_⟩
 unfold cl
 rw [Z7,Z6 hi]; rfl
open Classical in
theorem holds (ns:List Int) (_:ns.length<=63):Pf.iM ns=some true:=by
 refine oq22 (Pf.rJ ns 3 (by decide)) λrows c efl shp=>oq12 (Pf.reach_eq ns 0) λreach er i=>?_
 obtain ⟨hpos,hmost,hcpos,hcmost,hrow,harea,_⟩:=shp
 have fl:rows.flatten.length=rows.length * c:=bE hrow
 have hn:0<rows.length * c:=Nat.mul_pos hpos hcpos
 have sy:=@Nb.sy rows.length c reach
 refine oq37 (facts rfl hpos hmost hcpos hcmost hrow harea reach) λos home par eo o u b et el ep=>?_
 have h0:0<(fJ os (hf rows) home par 0).length:=by
  refine oq12 (qa (ρ:=rk os) (A:=Nb rows.length c reach) (h:=hf rows) (t:=hf rows 0) (x:=0) sy ⟨hn,R0 _⟩) λr i f=>?_
  have z:=(f7 b u f.1).mp f
  refine B4.mpr ⟨_,W7.mpr ⟨r,X6.mpr ⟨o.mem.mpr (by rw [fl]; exact f.1.1),decide_eq_true ⟨z.1,λm e q=>?_⟩⟩,rfl⟩⟩
  refine oq04 (u.pr r m e q) λi i h3 zz=>?_
  have:=b.le f.1.1 h3.1 (nz5 zz.1)
  lia
 refine oq12 (least_ok (w:=cellAt ns 1) (hs:=rows.flatten) h0 λs hs=>⟨_,mJ (o.mem.mp hs)⟩) λl e1 hl=>?_
 refine oq13 (put_ok (reach:=reach) hpos hcpos (nz4 hcmost (by decide)) (nz4 hmost (by decide)) hrow (nz2 harea (by decide)) o eo u et l) λR e2 lR put=>?_
 have rl:((Z9 rows.length).map λy=>(R.drop (y * c)).take c).length=rows.length:=by rw [Y0,V8]
 have rf:((Z9 rows.length).map λy=>(R.drop (y * c)).take c).flatten=R:=rX rows.length R lR
 have rr:∀ r∈(Z9 rows.length).map λy=>(R.drop (y * c)).take c,r.length=c:=λr hr=>oq12 (W7.mp hr) λy hy e=>by
  rw [<- e,R4,G7,lR]
  have:=Q5 c (Q2.mp hy)
  rw [M3] at this
  lia
 generalize (Z9 rows.length).map (λy=>(R.drop (y * c)).take c)=rows' at e2 rl rf rr
 refine oq37 (facts rl hpos hmost hcpos hcmost rr harea reach) λos' home' par' i o' u' b' i el' ep'=>?_
 have hf':hf rows'=λx=>R.getD x 0:=funext λx=>by unfold hf; rw [rf]
 rw [hf'] at b' el'
 have same:=rZ (hs:=rows.flatten) (hs':=rows'.flatten) sy fl (by rw [rf]; exact lR) o o' b b' u u' put hl
 have eK:((Pu.rng1 (Pu.ln rows.flatten)).bind λx20=>Pu.bX (λ(y17:Int)=>(Pu.at_ R y17).bind λx18=>(Pu.at_ rows.flatten y17).bind λx19=>some (decide (x18=x19))) (λ(y17:Int)=>some (y17)) x20)=some (cl ((Z9 (rows.length * c)).filter λx=>decide (R.getD x 0=hf rows x))):=by
  refine bnk (show Pu.rng1 (Pu.ln rows.flatten)=some (nats (rows.length * c)) by unfold Pu.ln; rw [fl]; exact gw (by lia)) ?_
  rw [eB (p:=λy=>decide (R.getD y.toNat 0=hf rows y.toNat)) (g:=λy=>y) (by rw [gv]; lia) (λy hy=>?_) λi i i=>rfl]
  ·unfold nats cl
   rw [List.map_id',K4]
   congr 2
  ·refine oq12 (iO.mp hy) λx hx e=>?_
   subst e
   rw [aP,Z6 (by rw [lR]; exact hx),bs,aP,mJ (by rw [fl]; exact hx),bs,X0,U7,Z6 (by rw [lR]; exact hx)]
   rfl
 have kmem:∀ x,x∈(Z9 (rows.length * c)).filter (λx=>decide (R.getD x 0=hf rows x))->x<rows.length * c/\R.getD x 0=hf rows x:=λx hx=>⟨Q2.mp (X6.mp hx).1,of_decide_eq_true (X6.mp hx).2⟩
 have kpos:0<((Z9 (rows.length * c)).filter λx=>decide (R.getD x 0=hf rows x)).length:=by
  refine oq02 ((hO sy b u put hn).mp (R0 (R.getD 0 0))) λi zq=>oq13 zq λr i r2 r3=>?_
  exact B4.mpr ⟨r,X6.mpr ⟨Q2.mpr r2.1.1,decide_eq_true (cQ sy b u put hl r2.1.1 r3)⟩⟩
 have klen:((Z9 (rows.length * c)).filter λx=>decide (R.getD x 0=hf rows x)).length<=60:=nz4 (T7 _ _) (by rw [V8]; exact harea)
 generalize (Z9 (rows.length * c)).filter (λx=>decide (R.getD x 0=hf rows x))=K at eK kmem kpos klen
 have pk:=pick kpos
 have ec:Pf.bp ns 2=some (cellAt ns 2):=Pf.dh ns 2
 unfold Pf.iM
 refine bnk (show Pf.gY ns 3=some rows from efl) (bnk (show Pf.reach ns 0=some reach from er) (bnk (Pf.il rows (by lia)) (bnk (bnk (show Pf.bp ns 1=some (cellAt ns 1) from Pf.dh ns 1) (bnk (el 0) e1)) (bnk e2 (bnk (show Pf.f6 rows'=some R by rw [Pf.il rows' (by rw [rf,lR]; lia),rf]) ?_)))))
 rw [if_neg (by unfold Pu.ln; rw [lR,fl,decide_eq_true rfl]; exact Z2)]
 refine bnk (a:=false) (bnk (el' 1) (bnk (el l) (by rw [same,decide_eq_true rfl]; rfl))) ((if_neg Z2).trans (bnk eK (bnk (show Pu.rng1 4=some (nats 4) from gw (n:=4) (by decide)) ?_)))
 rw [nF λx hx=>?_]
 refine oq12 (iO.mp hx) λk hk e=>?_
 subst e
 refine oq12 (pk (Fl.mixed (cellAt ns 2) (k:Int))) λa0 ma0 ea0=>oq12 (pk (Fl.mixed (cellAt ns 2) ((k:Int)+9))) λb0 mb0 eb0=>?_
 have em1:Pf.mixed (cellAt ns 2) (k:Int)=some (Fl.mixed (cellAt ns 2) (k:Int)):=Pf.iP (by lia) (by lia)
 have em2:Pf.mixed (cellAt ns 2) ((k:Int)+9)=some (Fl.mixed (cellAt ns 2) ((k:Int)+9)):=Pf.iP (by lia) (by lia)
 refine bnk (bnk2 (bnk ec em1) ea0) (bnk (bnk2 (bnk ec em2) eb0) ?_)
 have ab:∃ a b':Nat,a∈K/\b'∈K/\(if (decide ((k:Int)=0))=true then (((Pf.bp ns 2).bind λx36=>Pu.fmod x36 (Pu.ln (cl K))).bind λx37=>Pu.at_ (cl K) x37).bind λone39=>((((Pf.bp ns 2).bind λx40=>Pu.fdiv x40 (Pu.ln (cl K))).bind λx41=>Pu.fmod x41 (Pu.ln (cl K))).bind λx42=>Pu.at_ (cl K) x42).bind λother44=>some ((one39,other44)) else some (((a0:Int),(b0:Int))))=some ((a:Int),(b':Int)):=by
  by_cases q:(k:Int)=0
  ·rw [if_pos (decide_eq_true q)]
   have efd:Pu.fdiv (cellAt ns 2) (Pu.ln (cl K))=some (cellAt ns 2 / Pu.ln (cl K)):=hJ (by unfold Pu.ln; rw [ba]; lia)
   refine oq12 (pk (cellAt ns 2)) λa1 ma1 ea1=>oq12 (pk (cellAt ns 2 / Pu.ln (cl K))) λb1 mb1 eb1=>⟨a1,b1,ma1,mb1,bnk (bnk2 ec ea1) (bnk (bnk2 (bnk ec efd) eb1) rfl)⟩
  ·exact ⟨a0,b0,ma0,mb0,if_neg (by rw [decide_eq_false q]; exact Z2)⟩
 refine oq23 ab λa d ma md eab=>bnk eab ?_
 have ka:=kmem a ma
 have kd:=kmem d md
 refine oq32 (ep' a d ka.1 kd.1) λj' w' ks' e5 j5=>oq32 (ep a d ka.1 kd.1) λj w ks e6 j6=>?_
 have hj:R.getD j' 0=hf rows j:=join_same sy b b' u put ka.1 kd.1 ka.2 kd.2 j6 j5
 have at1:Pu.at_ R (j':Int)=some (R.getD j' 0):=by
  rw [aP,U7,Z6 (by rw [lR]; exact j5.1)]; rfl
 have at2:Pu.at_ rows.flatten (j:Int)=some (hf rows j):=by rw [aP]; exact mJ (by rw [fl]; exact j6.1)
 exact bnk (bnk (bnk e5 rfl) at1) (bnk (a:=false) (bnk (bnk (bnk e6 rfl) at2) (by rw [hj,decide_eq_true rfl]; rfl)) rfl)
noncomputable def dn:Stmt->Str
 | .FunctionDef n ..=>n
 | _=>""
noncomputable def fo (q:Stmt->Str) (st:Stmt) (c:Nat) (pm:Value):Obj:=⟨.type "function",none,.func (U4 (dn st) (q st) (br st) (aW st) (ae st) .none .none .none pm none (.ref c) .none),#[]⟩
noncomputable def cq (q:Stmt->Str) (st:Stmt) (t l g f a b:Nat) (c d:Value) (e i m:Nat):Obj:=⟨.type "code",none,.fields #[.str (dn st) t,.str (q st) (t+1),.str "/claim/cut.py" (t+2),.int l 0,.int g 0,.int 0 0,.int 0 0,.int f 0,.ref a,.bool true,.int 181 0,.ref b,.none,c,d,.ref e,.int i 0,.int l 0,.str "/claim/cut.py" m],#[]⟩
noncomputable def fA:=fo dn
noncomputable def cA (st:Stmt) (t l g a i:Nat):Obj:=cq dn st t l g 3 a (a+1) (.ref (a+2)) (.ref (a+3)) (a+4) i (i+1)
noncomputable def cB (st:Stmt) (t l g a i:Nat):Obj:=cq dn st t l g 3 a (a+1) .none .none (a+2) i (i+1)
noncomputable def ne (P:Params) (n:Str) (t:Nat) (v:Value):P1:=⟨PyData.keyHash P n,.str n t,v⟩
noncomputable def d3_0 (P:Params):List P1:=[ne P "__name__" 165 (.str "law_floodtree_k28_whole_kept_lakes" 506),ne P "__doc__" 166 .none,ne P "__package__" 167 .none,ne P "__loader__" 168 (.builtin "__main__.__loader__#opaque"),ne P "__spec__" 169 .none,ne P "__annotations__" 170 (.ref 6),ne P "__builtins__" 171 (.ref 4),ne P "__file__" 173 (.str "/claim/cut.py" 172)]
noncomputable def d3_8 (P:Params):List P1:=[ne P "__cached__" 174 .none,ne P "size_of" 196 (.ref 21),ne P "neighbours" 211 (.ref 28),ne P "height_of" 220 (.ref 35),ne P "all_cells" 228 (.ref 42),ne P "heights_by_number" 234 (.ref 47),ne P "floor_of" 240 (.ref 52),ne P "order_key" 248 (.ref 59)]
noncomputable def d3_16 (P:Params):List P1:=[ne P "comes_before" 257 (.ref 66),ne P "earliest_of" 266 (.ref 73),ne P "in_order" 274 (.ref 80),ne P "Meetings" 327 (.ref 114),ne P "Water" 380 (.ref 152),ne P "water_over" 391 (.ref 163),ne P "tree_of" 397 (.ref 168),ne P "ways_back" 414 (.ref 175)]
noncomputable def d3_24 (P:Params):List P1:=[ne P "stretch_under" 424 (.ref 182),ne P "stretch_ahead_of" 435 (.ref 189),ne P "life_of" 446 (.ref 196),ne P "short_lived" 452 (.ref 201),ne P "put_away" 465 (.ref 208),ne P "joining_cell" 480 (.ref 215),ne P "way_under" 493 (.ref 222),ne P "pass_between" 505 (.ref 229)]
noncomputable def d3_32 (P:Params):List P1:=[ne P "_law_cell_at" 515 (.ref 236),ne P "_law_mixed" 523 (.ref 243),ne P "_law_height" 533 (.ref 250),ne P "_law_folded" 539 (.ref 255),ne P "_law_digits" 550 (.ref 262),ne P "_law_floor" 556 (.ref 267),ne P "_law_reach" 564 (.ref 274),ne P "_law_heights" 573 (.ref 281)]
noncomputable def d3_40 (P:Params):List P1:=[ne P "_law_order" 579 (.ref 286),ne P "_law_places" 585 (.ref 291),ne P "_law_next" 603 (.ref 298),ne P "_law_all_next" 609 (.ref 303),ne P "_law_eldest" 619 (.ref 310),ne P "_law_swept" 625 (.ref 315),ne P "_law_lakes" 640 (.ref 322),ne P "_law_least" 651 (.ref 329)]
noncomputable def d3_48 (P:Params):List P1:=[ne P "law" 657 (.ref 334)]
noncomputable def d113_0 (P:Params):List P1:=[ne P "__module__" 284 (.str "floodtree.lakes" 275),ne P "__firstlineno__" 288 (.int 35 287),ne P "__init__" 296 (.ref 94),ne P "living" 305 (.ref 101),ne P "let_meet" 311 (.ref 106),ne P "tree" 317 (.ref 111),ne P "__static_attributes__" 320 (.ref 112),ne P "__dict__" 322 (.ref 115)]
noncomputable def d113_8 (P:Params):List P1:=[ne P "__weakref__" 324 (.ref 116),ne P "__doc__" 325 .none]
noncomputable def d151_0 (P:Params):List P1:=[ne P "__module__" 335 (.str "floodtree.lakes" 275),ne P "__firstlineno__" 339 (.int 57 338),ne P "__init__" 345 (.ref 130),ne P "start_now" 353 (.ref 137),ne P "homes_around" 359 (.ref 142),ne P "let_come" 368 (.ref 149),ne P "__static_attributes__" 373 (.ref 150),ne P "__dict__" 375 (.ref 153)]
noncomputable def d151_8 (P:Params):List P1:=[ne P "__weakref__" 377 (.ref 154),ne P "__doc__" 378 .none]
noncomputable def pm0:Value:=.str "floodtree.cells" 187
noncomputable def pm1:Value:=.str "floodtree.lakes" 275
noncomputable def pm2:Value:=.str "floodtree.stretches" 398
noncomputable def pm3:Value:=.str "floodtree.lives" 436
noncomputable def pm4:Value:=.str "floodtree.passes" 466
noncomputable def pm5:Value:=.str "law_floodtree_k28_whole_kept_lakes" 506
noncomputable def fK (P:Params):Z0:=(nat_lit 3,⟨(.type "dict"),none,.dict ((d3_0 P)++(d3_8 P)++(d3_16 P)++(d3_24 P)++(d3_32 P)++(d3_40 P)++(d3_48 P)).toArray 49,#[]⟩) ::
 (nat_lit 20,cA (top 1) 189 2 1 15 194) ::
 (nat_lit 21,fA (top 1) 20 pm0) ::
 (nat_lit 27,cA (top 2) 197 5 3 22 209) ::
 (nat_lit 28,fA (top 2) 27 pm0) ::
 (nat_lit 34,cA (top 3) 212 15 2 29 218) ::
 (nat_lit 35,fA (top 3) 34 pm0) ::
 (nat_lit 41,cA (top 4) 221 18 1 36 226) ::
 (nat_lit 42,fA (top 4) 41 pm0) ::
 (nat_lit 46,cB (top 5) 229 21 1 43 232) ::
 (nat_lit 47,fA (top 5) 46 pm0) ::
 (nat_lit 51,cB (top 6) 235 23 2 48 238) ::
 (nat_lit 52,fA (top 6) 51 pm0) ::
 (nat_lit 58,cA (top 7) 241 26 2 53 246) ::
 (nat_lit 59,fA (top 7) 58 pm0) ::
 (nat_lit 65,cA (top 8) 249 28 3 60 255) ::
 (nat_lit 66,fA (top 8) 65 pm0) ::
 (nat_lit 72,cA (top 9) 258 30 2 67 264) ::
 (nat_lit 73,fA (top 9) 72 pm0) ::
 (nat_lit 79,cA (top 10) 267 32 1 74 272) ::
 (nat_lit 80,fA (top 10) 79 pm0) ::
 (nat_lit 93,cq (λx=>"Meetings.__init__") (inClass (top 12) 0) 289 37 2 3 88 89 (.ref 90) (.ref 91) 92 294 295) ::
 (nat_lit 94,fo (λx=>"Meetings.__init__") (inClass (top 12) 0) 93 pm1) ::
 (nat_lit 100,cq (λx=>"Meetings.living") (inClass (top 12) 1) 297 41 2 3 95 96 (.ref 97) (.ref 98) 99 303 304) ::
 (nat_lit 101,fo (λx=>"Meetings.living") (inClass (top 12) 1) 100 pm1) ::
 (nat_lit 105,cq (λx=>"Meetings.let_meet") (inClass (top 12) 2) 306 47 3 3 102 103 .none .none 104 309 310) ::
 (nat_lit 106,fo (λx=>"Meetings.let_meet") (inClass (top 12) 2) 105 pm1) ::
 (nat_lit 110,cq (λx=>"Meetings.tree") (inClass (top 12) 3) 312 55 2 3 107 108 .none .none 109 315 316) ::
 (nat_lit 111,fo (λx=>"Meetings.tree") (inClass (top 12) 3) 110 pm1) ::
 (nat_lit 113,⟨(.type "dict"),none,.dict ((d113_0 P)++(d113_8 P)).toArray 4,#[]⟩) ::
 (nat_lit 114,⟨(.type "type"),none,.cls ⟨"Meetings",[(.type "object")],[(.ref 114),(.type "object")],113,"Meetings",true,[],[],false,none,false⟩,#[none,none,(some (.str "Meetings" 277)),(some (.str "Meetings" 285)),(some (.builtin "object.__new__")),(some (.bool true))]⟩) ::
 (nat_lit 129,cq (λx=>"Water.__init__") (inClass (top 13) 0) 340 59 3 3 126 127 .none .none 128 343 344) ::
 (nat_lit 130,fo (λx=>"Water.__init__") (inClass (top 13) 0) 129 pm1) ::
 (nat_lit 136,cq (λx=>"Water.start_now") (inClass (top 13) 1) 346 65 2 3 131 132 (.ref 133) (.ref 134) 135 351 352) ::
 (nat_lit 137,fo (λx=>"Water.start_now") (inClass (top 13) 1) 136 pm1) ::
 (nat_lit 141,cq (λx=>"Water.homes_around") (inClass (top 13) 2) 354 68 2 3 138 139 .none .none 140 357 358) ::
 (nat_lit 142,fo (λx=>"Water.homes_around") (inClass (top 13) 2) 141 pm1) ::
 (nat_lit 148,cq (λx=>"Water.let_come") (inClass (top 13) 3) 360 72 2 3 143 144 (.ref 145) (.ref 146) 147 366 367) ::
 (nat_lit 149,fo (λx=>"Water.let_come") (inClass (top 13) 3) 148 pm1) ::
 (nat_lit 151,⟨(.type "dict"),none,.dict ((d151_0 P)++(d151_8 P)).toArray 4,#[]⟩) ::
 (nat_lit 152,⟨(.type "type"),none,.cls ⟨"Water",[(.type "object")],[(.ref 152),(.type "object")],151,"Water",true,[],[],false,none,false⟩,#[none,none,(some (.str "Water" 328)),(some (.str "Water" 336)),(some (.builtin "object.__new__")),(some (.bool true))]⟩) ::
 (nat_lit 162,cA (top 14) 381 75 3 157 389) ::
 (nat_lit 163,fA (top 14) 162 pm1) ::
 (nat_lit 167,cB (top 15) 392 80 2 164 395) ::
 (nat_lit 168,fA (top 15) 167 pm1) ::
 (nat_lit 174,cA (top 17) 400 85 4 169 412) ::
 (nat_lit 175,fA (top 17) 174 pm2) ::
 (nat_lit 181,cA (top 18) 415 96 4 176 422) ::
 (nat_lit 182,fA (top 18) 181 pm2) ::
 (nat_lit 188,cA (top 19) 425 100 4 183 433) ::
 (nat_lit 189,fA (top 19) 188 pm2) ::
 (nat_lit 195,cA (top 21) 438 106 3 190 444) ::
 (nat_lit 196,fA (top 21) 195 pm3) ::
 (nat_lit 200,cB (top 22) 447 110 3 197 450) ::
 (nat_lit 201,fA (top 22) 200 pm3) ::
 (nat_lit 207,cA (top 23) 453 113 3 202 463) ::
 (nat_lit 208,fA (top 23) 207 pm3) ::
 (nat_lit 214,cA (top 25) 468 120 4 209 478) ::
 (nat_lit 215,fA (top 25) 214 pm4) ::
 (nat_lit 221,cA (top 26) 481 128 5 216 491) ::
 (nat_lit 222,fA (top 26) 221 pm4) ::
 (nat_lit 228,cA (top 27) 494 134 4 223 503) ::
 (nat_lit 229,fA (top 27) 228 pm4) ::
 (nat_lit 235,cA (top 29) 508 139 2 230 513) ::
 (nat_lit 236,fA (top 29) 235 pm5) ::
 (nat_lit 242,cA (top 30) 516 143 2 237 521) ::
 (nat_lit 243,fA (top 30) 242 pm5) ::
 (nat_lit 249,cA (top 31) 524 145 3 244 531) ::
 (nat_lit 250,fA (top 31) 249 pm5) ::
 (nat_lit 254,cB (top 32) 534 154 2 251 537) ::
 (nat_lit 255,fA (top 32) 254 pm5) ::
 (nat_lit 261,cA (top 33) 540 156 3 256 548) ::
 (nat_lit 262,fA (top 33) 261 pm5) ::
 (nat_lit 266,cB (top 34) 551 162 2 263 554) ::
 (nat_lit 267,fA (top 34) 266 pm5) ::
 (nat_lit 273,cA (top 35) 557 175 2 268 562) ::
 (nat_lit 274,fA (top 35) 273 pm5) ::
 (nat_lit 280,cA (top 36) 565 177 1 275 571) ::
 (nat_lit 281,fA (top 36) 280 pm5) ::
 (nat_lit 285,cB (top 37) 574 182 1 282 577) ::
 (nat_lit 286,fA (top 37) 285 pm5) ::
 (nat_lit 290,cB (top 38) 580 184 1 287 583) ::
 (nat_lit 291,fA (top 38) 290 pm5) ::
 (nat_lit 297,cA (top 39) 586 189 3 292 601) ::
 (nat_lit 298,fA (top 39) 297 pm5) ::
 (nat_lit 302,cB (top 40) 604 201 2 299 607) ::
 (nat_lit 303,fA (top 40) 302 pm5) ::
 (nat_lit 309,cA (top 41) 610 204 2 304 617) ::
 (nat_lit 310,fA (top 41) 309 pm5) ::
 (nat_lit 314,cB (top 42) 620 210 3 311 623) ::
 (nat_lit 315,fA (top 42) 314 pm5) ::
 (nat_lit 321,cA (top 43) 626 229 3 316 638) ::
 (nat_lit 322,fA (top 43) 321 pm5) ::
 (nat_lit 328,cA (top 44) 641 239 3 323 649) ::
 (nat_lit 329,fA (top 44) 328 pm5) ::
 (nat_lit 333,cB (top 45) 652 250 1 330 655) ::
 (nat_lit 334,fA (top 45) 333 pm5) :: []
theorem all_mk {l:PySem.W.OpenLaw} {w:World} {K:Z0} {h:Heap} {mg:Str->Option Value} {fa:Addr} (X:K.In h) (G:h.Ns U2 mg) (hfa:mg "law"=some (.ref fa))
  {f1 f2 f3 f4 f5:Addr} {od1 an1 od2 an2 od3 an3 od4 an4 od5 an5:Option Addr} {sl1 sl2 sl3 sl4 sl5:Array (Option Value)} {oc1 kV1 dc1 pm1 cd1 ct1 oc2 kV2 dc2 pm2 cd2 ct2 oc3 kV3 dc3 pm3 cd3 ct3 oc4 kV4 dc4 pm4 cd4 ct4 oc5 kV5 dc5 pm5 cd5 ct5:Value}
  {CM CW:Addr}
  (G21:K0 K U2 "Meetings"=some (some (.ref CM))) (G22:L5 K CM Str.empty=true) (G23:J6 K CM=true) (G24:D6 K CM=true) (G25:T3 K (.ref CM) "__setattr__"=some (some (.builtin "object.__setattr__"))) (G26:F9 K CM=true) (G27:U3 K (.ref CM)=true)
  (G28:bq K CM "floor") (G29:bq K CM "ended")
  (G30:K0 K U2 "Water"=some (some (.ref CW))) (G31:L5 K CW Str.empty=true) (G32:J6 K CW=true) (G33:D6 K CW=true) (G34:T3 K (.ref CW) "__setattr__"=some (some (.builtin "object.__setattr__"))) (G35:F9 K CW=true) (G36:U3 K (.ref CW)=true)
  (G37:bq K CW "floor") (G38:bq K CW "reach") (G39:bq K CW "homes") (G40:bq K CW "meetings")
  (a1:K0 K U2 "in_order"=some (some (.ref f1))) (l1:K.lookup f1=some ⟨oc1,od1,.func (U4 "in_order" "in_order" (br di) (aW di) (ae di) .none kV1 dc1 pm1 an1 cd1 ct1),sl1⟩) (c1:R3 K cd1 "in_order"=true) (k1:U3 K (.ref f1)=true)
  (a2:T3 K (.ref CM) "__init__"=some (some (.ref f2))) (i2:G6 K (.ref f2)=true) (l2:K.lookup f2=some ⟨oc2,od2,.func (U4 "__init__" "Meetings.__init__" (br bc) (aW bc) (ae bc) .none kV2 dc2 pm2 an2 cd2 ct2),sl2⟩) (c2:R3 K cd2 "Meetings.__init__"=true) (k2:U3 K (.ref f2)=true)
  (a3:T3 K (.ref CW) "__init__"=some (some (.ref f3))) (i3:G6 K (.ref f3)=true) (l3:K.lookup f3=some ⟨oc3,od3,.func (U4 "__init__" "Water.__init__" (br bx) (aW bx) (ae bx) .none kV3 dc3 pm3 an3 cd3 ct3),sl3⟩) (c3:R3 K cd3 "Water.__init__"=true) (k3:U3 K (.ref f3)=true)
  (a4:K0 K U2 "earliest_of"=some (some (.ref f4))) (l4:K.lookup f4=some ⟨oc4,od4,.func (U4 "earliest_of" "earliest_of" (br cb) (aW cb) (ae cb) .none kV4 dc4 pm4 an4 cd4 ct4),sl4⟩) (c4:R3 K cd4 "earliest_of"=true) (k4:U3 K (.ref f4)=true)
  (a5:K0 K U2 "law"=some (some (.ref f5))) (l5:K.lookup f5=some ⟨oc5,od5,.func (U4 "law" "law" (br iV) (aW iV) (ae iV) .none kV5 dc5 pm5 an5 cd5 ct5),sl5⟩) (c5:R3 K cd5 "law"=true) (k5:U3 K (.ref f5)=true)
  {cc1:Addr} (G41:cd1=.ref cc1) (G10:N2 K cc1 75=true)
  {cc4:Addr} (G42:cd4=.ref cc4) (G11:N2 K cc4 68=true)
  (G43:av K mg "_law_digits" l8 ["_law_cell","_law_many","_law_base"])
  (G44:av K mg "_law_cell_at" jy ["_law_script","_law_k"])
  (G45:av K mg "_law_folded" l9 ["_law_heights_here","_law_columns"])
  (G46:av K mg "_law_mixed" nP ["_law_number","_law_k"])
  (G47:av K mg "_law_height" lb ["_law_number","_law_k","_law_way"])
  (G48:av K mg "_law_floor" nQ ["_law_script","_law_first"])
  (G49:av K mg "_law_reach" nR ["_law_script","_law_first"])
  (G50:av K mg "_law_heights" jz ["_law_floor_here"])
  (G51:av K mg "_law_least" nS ["_law_cell","_law_lakes_here","_law_heights_here"])
  (G52:av K mg "_law_eldest" lf ["_law_some","_law_places_here"])
  (G53:av K mg "_law_swept" nT ["_law_places_here","_law_order_here","_law_beside"])
  (G54:av K mg "_law_order" nU ["_law_heights_here"])
  (G55:av K mg "_law_places" lg ["_law_heights_here"])
  (G56:av K mg "_law_next" rO ["_law_size","_law_reach_here","_law_cell"])
  (G57:av K mg "_law_all_next" im ["_law_floor_here","_law_reach_here"])
  (G58:av K mg "_law_lakes" nV ["_law_floor_here","_law_reach_here","_law_least_here"])
  (G59:av K mg "size_of" jA ["floor"])
  (G60:av K mg "all_cells" gC ["floor"])
  (G61:av K mg "height_of" gD ["floor","cell"])
  (G62:av K mg "heights_by_number" cz ["floor"])
  (G63:av K mg "order_key" gE ["floor","cell"])
  (G64:av K mg "neighbours" fW ["size","reach","cell"])
  (G65:bB K CW "homes_around" "Water.homes_around" cr ["self","cell"])
  (G66:bB K CM "living" "Meetings.living" cY ["self","start"])
  (G67:bB K CM "let_meet" "Meetings.let_meet" cC ["self","starts","meet"])
  (G68:bB K CW "let_come" "Water.let_come" dj ["self","cell"])
  (G69:av K mg "water_over" cZ ["floor","reach","cells"])
  (G70:bB K CM "tree" "Meetings.tree" dN ["self","starts"])
  (G71:av K mg "tree_of" jB ["floor","reach"])
  (G72:av K mg "life_of" jC ["floor","start","meet"])
  (G73:av K mg "short_lived" ft ["floor","reach","least"])
  (G74:av K mg "comes_before" eQ ["floor","one","other"])
  (G75:av K mg "ways_back" gF ["floor","reach","cell","last"])
  (G76:av K mg "stretch_under" dO ["floor","reach","cell","last"])
  (G77:av K mg "stretch_ahead_of" cL ["floor","reach","cell","later"])
  (G78:av K mg "floor_of" io ["size","heights"])
  (G79:av K mg "put_away" ip ["floor","reach","least"])
  (G80:bB K CW "start_now" "Water.start_now" d0 ["self","cell"])
  (G81:av K mg "joining_cell" cu ["floor","reach","one","other"])
  (G82:av K mg "way_under" gG ["floor","reach","one","other","last"])
  (G83:av K mg "pass_between" eR ["floor","reach","one","other"])
  (B:Blt mg) :
  ∃ fd:K2,(∀ (s:Shared) (v:Value),BindsTo s fd ⟨[v],[]⟩ [("_law_script",v)])/\(∀ P∈(konL [(68,(("earliest_of":Str)++".<locals>.")++"<lambda>"),(75,(("in_order":Str)++".<locals>.")++"<lambda>")]).T,∃ c,N2 K c P=true)/\∀ base:Heap,K.In base->base.Ns U2 mg->BM mg base->FnOk l.prog w K mg base CX0 15 fa fd ["_law_script"] (@spLaw (konL [(68,(("earliest_of":Str)++".<locals>.")++"<lambda>"),(75,(("in_order":Str)++".<locals>.")++"<lambda>")]) K):=by
 letI:Kon:=(konL [(68,(("earliest_of":Str)++".<locals>.")++"<lambda>"),(75,(("in_order":Str)++".<locals>.")++"<lambda>")])
 have e:=hfa.symm.trans (PySem.W.mg_of X G a5)
 cases e
 have kM:MK K CM:=⟨⟨G22,G23,G24,G25⟩,G28,G29⟩
 have kW:WK K CW:=⟨⟨G31,G32,G33,G34⟩,G37,G38,G39,G40⟩
 have G126:eL K mg "in_order" di ["floor"] cc1:=def_mkC X G a1 l1 c1 k1 G41 λx x x x x x us hl=>by obtain ⟨_,rfl⟩:=L2.len1 hl; rfl
 have G127:ij K mg "Meetings" CM "Meetings.__init__" bc ["self","floor"]:=init_mk X G G21 a2 l2 c2 k2 i2 G26 G27 λx x x x x x us hl=>by obtain ⟨_,_,rfl⟩:=L2.len2 hl; rfl
 have G128:ij K mg "Water" CW "Water.__init__" bx ["self","floor","reach"]:=init_mk X G G30 a3 l3 c3 k3 i3 G35 G36 λx x x x x x us hl=>by obtain ⟨_,_,_,rfl⟩:=L2.len3 hl; rfl
 have G129:eL K mg "earliest_of" cb ["floor","cells"] cc4:=def_mkC X G a4 l4 c4 k4 G42 λx x x x x x us hl=>by obtain ⟨_,_,rfl⟩:=L2.len2 hl; rfl
 have F_law:=fP (st:=iV) l5 c5 k5
 refine ⟨U4 "law" "law" (br iV) (aW iV) (ae iV) .none kV5 dc5 pm5 an5 cd5 ct5,λs v=>.of_eq rfl,G4.mpr ⟨⟨_,G11⟩,G4.mpr ⟨⟨_,G10⟩,λx h=>nomatch h⟩⟩,λbase x x bm=>?_⟩
 have G130:=ok_digits (P:=l.prog) (w:=w) (base:=base) G43 B  kM kW
 have G84:=rQ (P:=l.prog) (w:=w) (base:=base) G44 B  kM kW
 have G131:=ok_folded (P:=l.prog) (w:=w) (base:=base) G45 B  kM kW
 have G85:=ok_mixed (P:=l.prog) (w:=w) (base:=base) G46 B  kM kW
 have G132:=ok_height (P:=l.prog) (w:=w) (base:=base) G47 B  kM kW G85
 have G133:=ok_floor (P:=l.prog) (w:=w) (base:=base) G48 B  kM kW G130 G84 G131 G132
 have G134:=ok_reach (P:=l.prog) (w:=w) (base:=base) G49 B  kM kW G84 G85
 have G93:=rR (P:=l.prog) (w:=w) (base:=base) G50 B  kM kW
 have G135:=ok_least (P:=l.prog) (w:=w) (base:=base) G51 B  kM kW
 have G136:=ok_eldest (P:=l.prog) (w:=w) (base:=base) G52 B  kM kW
 have G137:=ok_swept (P:=l.prog) (w:=w) (base:=base) G53 B  kM kW G136
 have G94:=ok_order (P:=l.prog) (w:=w) (base:=base) G54 B  kM kW
 have G138:=ok_places (P:=l.prog) (w:=w) (base:=base) G55 B  kM kW G94
 have G139:=ok_next (P:=l.prog) (w:=w) (base:=base) G56 B  kM kW
 have G140:=qr (P:=l.prog) (w:=w) (base:=base) G57 B  kM kW G139
 have G141:=ok_lakes (P:=l.prog) (w:=w) (base:=base) G58 B  kM kW G93 G137 G94 G138 G140
 have G08:=rS (P:=l.prog) (w:=w) (base:=base) G59 B  kM kW
 have G86:=nY (P:=l.prog) (w:=w) (base:=base) G60 B  kM kW G08
 have G12:=nZ (P:=l.prog) (w:=w) (base:=base) G61 B  kM kW G08
 have G142:=gM (P:=l.prog) (w:=w) (base:=base) G62 B  kM kW G86 G12
 have G87:=o4 (P:=l.prog) (w:=w) (base:=base) G63 B  kM kW G12
 have G88:=qu (P:=l.prog) (w:=w) (base:=base) G126 ⟨bm,G10,by first | exact K8 _ | exact F8 _ (K8 _) | exact F8 _ (F8 _ (K8 _)),by first | rfl | decide +kernel⟩ B  kM kW G86 G87
 have G143:=gK (P:=l.prog) (w:=w) (base:=base) G127 B  kM kW
 have G95:=iW (P:=l.prog) (w:=w) (base:=base) G128 B  kM kW G86 G143
 have G96:=lS (P:=l.prog) (w:=w) (base:=base) G64 B  kM kW
 have G144:=ga (P:=l.prog) (w:=w) (base:=base) G65 B  kM kW G08 G96
 have G97:=ir (P:=l.prog) (w:=w) (base:=base) G66 B  kM kW
 have G145:=ly (P:=l.prog) (w:=w) (base:=base) G129 ⟨bm,G11,by first | exact K8 _ | exact F8 _ (K8 _) | exact F8 _ (F8 _ (K8 _)),by first | rfl | decide +kernel⟩ B  kM kW G87
 have G146:=gL (P:=l.prog) (w:=w) (base:=base) G67 B  kM kW G97 G145
 have G98:=iX (P:=l.prog) (w:=w) (base:=base) G68 B  kM kW G144 G146
 have G147:=lQ (P:=l.prog) (w:=w) (base:=base) G69 B  kM kW G95 G98
 have G148:=jE (P:=l.prog) (w:=w) (base:=base) G70 B  kM kW
 have G149:=rT (P:=l.prog) (w:=w) (base:=base) G71 B  kM kW G88 G147 G148
 have G150:=rV (P:=l.prog) (w:=w) (base:=base) G72 B  kM kW G12
 have G151:=lB (P:=l.prog) (w:=w) (base:=base) G73 B  kM kW G149 G150
 have G89:=jV (P:=l.prog) (w:=w) (base:=base) G74 B  kM kW G87
 have G99:=o5 (P:=l.prog) (w:=w) (base:=base) G75 B  kM kW G08 G96 G89
 have G152:=jF (P:=l.prog) (w:=w) (base:=base) G76 B  kM kW G89 G99
 have G100:=i0 (P:=l.prog) (w:=w) (base:=base) G77 B  kM kW G88 G89 G152
 have G153:=qv (P:=l.prog) (w:=w) (base:=base) G78 B  kM kW
 have G154:=qw (P:=l.prog) (w:=w) (base:=base) G79 B  kM kW G08 G12 G142 G151 G100 G153
 have G155:=iu (P:=l.prog) (w:=w) (base:=base) G80 B  kM kW G97
 have G156:=jU (P:=l.prog) (w:=w) (base:=base) G81 B  kM kW G95 G88 G98 G155
 have G157:=o6 (P:=l.prog) (w:=w) (base:=base) G82 B  kM kW G99
 have G158:=jW (P:=l.prog) (w:=w) (base:=base) G83 B  kM kW G100 G156 G157
 exact ok_law F_law B kM kW G84 G85 G133 G134 G93 G135 G141 G154 G158 holds
theorem walk {l:PySem.W.OpenLaw} {q:X5} {loose:List Str} {XP:(Str->Option Value)->Heap->Prop} {YP:World->Heap->Prop} {d:DefRec} {K:Params->Z0} (hn:l.most=some 63) (hdf:d.params.defaults=[])
  (hY:∀ (w:World) (h:Heap),YP w h->(K w.params).In h/\∀ P∈(konL [(68,(("earliest_of":Str)++".<locals>.")++"<lambda>"),(75,(("in_order":Str)++".<locals>.")++"<lambda>")]).T,h.get? P=some (PySem.W.tabObj #[])) (hC:∀ (w:World),∀ P∈(konL [(68,(("earliest_of":Str)++".<locals>.")++"<lambda>"),(75,(("in_order":Str)++".<locals>.")++"<lambda>")]).T,(K w.params).lookup P=none)
  (F:∀ (w:World) (mg:Str->Option Value) (fa:Addr) (h:Heap),(K w.params).In h->h.Ns U2 mg->mg d.name=some (.ref fa) ->
   ∃ fd:K2,(∀ (s:Shared) (u:Value),BindsTo s fd ⟨[u],[]⟩ [("_law_script",u)])/\(∀ P∈(konL [(68,(("earliest_of":Str)++".<locals>.")++"<lambda>"),(75,(("in_order":Str)++".<locals>.")++"<lambda>")]).T,∃ c,N2 (K w.params) c P=true)/\∀ base:Heap,(K w.params).In base->base.Ns U2 mg->BM mg base->FnOk l.prog w (K w.params) mg base CX0 15 fa fd ["_law_script"] (@spLaw (konL [(68,(("earliest_of":Str)++".<locals>.")++"<lambda>"),(75,(("in_order":Str)++".<locals>.")++"<lambda>")]) (K w.params))) :
  PySem.W.WalkO q loose XP YP l.row.toRowW d [] (λf vs=>PySem.call f vs) :=
 letI:Kon:=(konL [(68,(("earliest_of":Str)++".<locals>.")++"<lambda>"),(75,(("in_order":Str)++".<locals>.")++"<lambda>")])
 L2.walk_ofT (n:=63) (k:=15) (x:="_law_script") (sp:=λw=>spLaw (K w.params)) hn (by decide) hdf ⟨rfl,by decide,by decide⟩ hY hC F (λb b a ns hl tg hS=>⟨a,ns,rfl,hS,hl,tg,λb=>rfl⟩)
end K28
open PySem PySem.W PyProof.Rows
set_option tactic.hygienic true
set_option maxRecDepth 100000 in
set_option maxHeartbeats 0 in
theorem PySem.Challenge.cw_floodtree_k28_whole_kept_lakes_holds : PySem.Challenge.rw_floodtree_k28_whole_kept_lakes.Holds := by
 w_on; o_law; o_head (PySem.W.kmHook K28.fK [3,20,21,27,28,34,35,41,42,46,47,51,52,58,59,65,66,72,73,79,80,93,94,100,101,105,106,110,111,113,114,129,130,136,137,141,142,148,149,151,152,162,163,167,168,174,175,181,182,188,189,195,196,200,201,207,208,214,215,221,222,228,229,235,236,242,243,249,250,254,255,261,262,266,267,273,274,280,281,285,286,290,291,297,298,302,303,309,310,314,315,321,322,328,329,333,334] (λ_=>by kernel_rfl) [68,75]); (case hw=>w_witness2)
 k_fill
 refine K28.walk (l:=PySem.Challenge.rw_floodtree_k28_whole_kept_lakes) rfl rfl (λw h Y=>⟨PySem.W.km_in_of Y,PySem.W.km_tabs_of Y⟩) (λw=>?C) ?F
 case F =>
  intro w mg fa h KX G hmg
  refine' K28.all_mk KX G hmg ?G21 ?G22 ?G23 ?G24 ?G25 ?G26 ?G27 ?G28 ?G29 ?G30 ?G31 ?G32 ?G33 ?G34 ?G35 ?G36 ?G37 ?G38 ?G39 ?G40 ?a1 ?l1 ?c1 ?k1 ?a2 ?i2 ?l2 ?c2 ?k2 ?a3 ?i3 ?l3 ?c3 ?k3 ?a4 ?l4 ?c4 ?k4 ?a5 ?l5 ?c5 ?k5 ?G41 ?G10 ?G42 ?G11 ?G43 ?G44 ?G45 ?G46 ?G47 ?G48 ?G49 ?G50 ?G51 ?G52 ?G53 ?G54 ?G55 ?G56 ?G57 ?G58 ?G59 ?G60 ?G61 ?G62 ?G63 ?G64 ?G65 ?G66 ?G67 ?G68 ?G69 ?G70 ?G71 ?G72 ?G73 ?G74 ?G75 ?G76 ?G77 ?G78 ?G79 ?G80 ?G81 ?G82 ?G83 ?B
  (case G21=>k_is); (case G22=>k_is); (case G23=>k_is); (case G24=>k_is); (case G25=>k_is); (case G26=>k_is); (case G27=>k_is); (case G28=>unfold L2.bq; k_is); (case G29=>unfold L2.bq; k_is)
  (case G30=>k_is); (case G31=>k_is); (case G32=>k_is); (case G33=>k_is); (case G34=>k_is); (case G35=>k_is); (case G36=>k_is); (case G37=>unfold L2.bq; k_is); (case G38=>unfold L2.bq; k_is); (case G39=>unfold L2.bq; k_is); (case G40=>unfold L2.bq; k_is)
  (case a1=>k_is); (case l1=>k_is); (case c1=>k_is); (case k1=>k_is)
  (case a2=>k_is); (case i2=>k_is); (case l2=>k_is); (case c2=>k_is); (case k2=>k_is)
  (case a3=>k_is); (case i3=>k_is); (case l3=>k_is); (case c3=>k_is); (case k3=>k_is)
  (case a4=>k_is); (case l4=>k_is); (case c4=>k_is); (case k4=>k_is)
  (case a5=>k_is); (case l5=>k_is); (case c5=>k_is); (case k5=>k_is)
  (case G41=>rfl); (case G10=>kernel_rfl)
  (case G42=>rfl); (case G11=>kernel_rfl)
  (case G43=>refine' L2.aO KX G ?a ?l ?c ?k (λ_ _ _ _ _ _ us hl=>by obtain ⟨_,_,_,rfl⟩:=L2.len3 hl; rfl); case a | l | c | k=>k_is)
  (case G44=>refine' L2.aO KX G ?a ?l ?c ?k (λ_ _ _ _ _ _ us hl=>by obtain ⟨_,_,rfl⟩:=L2.len2 hl; rfl); case a | l | c | k=>k_is)
  (case G45=>refine' L2.aO KX G ?a ?l ?c ?k (λ_ _ _ _ _ _ us hl=>by obtain ⟨_,_,rfl⟩:=L2.len2 hl; rfl); case a | l | c | k=>k_is)
  (case G46=>refine' L2.aO KX G ?a ?l ?c ?k (λ_ _ _ _ _ _ us hl=>by obtain ⟨_,_,rfl⟩:=L2.len2 hl; rfl); case a | l | c | k=>k_is)
  (case G47=>refine' L2.aO KX G ?a ?l ?c ?k (λ_ _ _ _ _ _ us hl=>by obtain ⟨_,_,_,rfl⟩:=L2.len3 hl; rfl); case a | l | c | k=>k_is)
  (case G48=>refine' L2.aO KX G ?a ?l ?c ?k (λ_ _ _ _ _ _ us hl=>by obtain ⟨_,_,rfl⟩:=L2.len2 hl; rfl); case a | l | c | k=>k_is)
  (case G49=>refine' L2.aO KX G ?a ?l ?c ?k (λ_ _ _ _ _ _ us hl=>by obtain ⟨_,_,rfl⟩:=L2.len2 hl; rfl); case a | l | c | k=>k_is)
  (case G50=>refine' L2.aO KX G ?a ?l ?c ?k (λ_ _ _ _ _ _ us hl=>by obtain ⟨_,rfl⟩:=L2.len1 hl; rfl); case a | l | c | k=>k_is)
  (case G51=>refine' L2.aO KX G ?a ?l ?c ?k (λ_ _ _ _ _ _ us hl=>by obtain ⟨_,_,_,rfl⟩:=L2.len3 hl; rfl); case a | l | c | k=>k_is)
  (case G52=>refine' L2.aO KX G ?a ?l ?c ?k (λ_ _ _ _ _ _ us hl=>by obtain ⟨_,_,rfl⟩:=L2.len2 hl; rfl); case a | l | c | k=>k_is)
  (case G53=>refine' L2.aO KX G ?a ?l ?c ?k (λ_ _ _ _ _ _ us hl=>by obtain ⟨_,_,_,rfl⟩:=L2.len3 hl; rfl); case a | l | c | k=>k_is)
  (case G54=>refine' L2.aO KX G ?a ?l ?c ?k (λ_ _ _ _ _ _ us hl=>by obtain ⟨_,rfl⟩:=L2.len1 hl; rfl); case a | l | c | k=>k_is)
  (case G55=>refine' L2.aO KX G ?a ?l ?c ?k (λ_ _ _ _ _ _ us hl=>by obtain ⟨_,rfl⟩:=L2.len1 hl; rfl); case a | l | c | k=>k_is)
  (case G56=>refine' L2.aO KX G ?a ?l ?c ?k (λ_ _ _ _ _ _ us hl=>by obtain ⟨_,_,_,rfl⟩:=L2.len3 hl; rfl); case a | l | c | k=>k_is)
  (case G57=>refine' L2.aO KX G ?a ?l ?c ?k (λ_ _ _ _ _ _ us hl=>by obtain ⟨_,_,rfl⟩:=L2.len2 hl; rfl); case a | l | c | k=>k_is)
  (case G58=>refine' L2.aO KX G ?a ?l ?c ?k (λ_ _ _ _ _ _ us hl=>by obtain ⟨_,_,_,rfl⟩:=L2.len3 hl; rfl); case a | l | c | k=>k_is)
  (case G59=>refine' L2.aO KX G ?a ?l ?c ?k (λ_ _ _ _ _ _ us hl=>by obtain ⟨_,rfl⟩:=L2.len1 hl; rfl); case a | l | c | k=>k_is)
  (case G60=>refine' L2.aO KX G ?a ?l ?c ?k (λ_ _ _ _ _ _ us hl=>by obtain ⟨_,rfl⟩:=L2.len1 hl; rfl); case a | l | c | k=>k_is)
  (case G61=>refine' L2.aO KX G ?a ?l ?c ?k (λ_ _ _ _ _ _ us hl=>by obtain ⟨_,_,rfl⟩:=L2.len2 hl; rfl); case a | l | c | k=>k_is)
  (case G62=>refine' L2.aO KX G ?a ?l ?c ?k (λ_ _ _ _ _ _ us hl=>by obtain ⟨_,rfl⟩:=L2.len1 hl; rfl); case a | l | c | k=>k_is)
  (case G63=>refine' L2.aO KX G ?a ?l ?c ?k (λ_ _ _ _ _ _ us hl=>by obtain ⟨_,_,rfl⟩:=L2.len2 hl; rfl); case a | l | c | k=>k_is)
  (case G64=>refine' L2.aO KX G ?a ?l ?c ?k (λ_ _ _ _ _ _ us hl=>by obtain ⟨_,_,_,rfl⟩:=L2.len3 hl; rfl); case a | l | c | k=>k_is)
  (case G65=>letI:L2.Kon:=L2.kon0; refine' L2.gX ?a ?l ?c ?k ?i (λ_ _ _ _ _ _ us hl=>by obtain ⟨_,_,rfl⟩:=L2.len2 hl; rfl); (case a=>k_is); (case l=>k_is); (case c=>k_is); (case k=>k_is); (case i=>k_is))
  (case G66=>letI:L2.Kon:=L2.kon0; refine' L2.gX ?a ?l ?c ?k ?i (λ_ _ _ _ _ _ us hl=>by obtain ⟨_,_,rfl⟩:=L2.len2 hl; rfl); (case a=>k_is); (case l=>k_is); (case c=>k_is); (case k=>k_is); (case i=>k_is))
  (case G67=>letI:L2.Kon:=L2.kon0; refine' L2.gX ?a ?l ?c ?k ?i (λ_ _ _ _ _ _ us hl=>by obtain ⟨_,_,_,rfl⟩:=L2.len3 hl; rfl); (case a=>k_is); (case l=>k_is); (case c=>k_is); (case k=>k_is); (case i=>k_is))
  (case G68=>letI:L2.Kon:=L2.kon0; refine' L2.gX ?a ?l ?c ?k ?i (λ_ _ _ _ _ _ us hl=>by obtain ⟨_,_,rfl⟩:=L2.len2 hl; rfl); (case a=>k_is); (case l=>k_is); (case c=>k_is); (case k=>k_is); (case i=>k_is))
  (case G69=>refine' L2.aO KX G ?a ?l ?c ?k (λ_ _ _ _ _ _ us hl=>by obtain ⟨_,_,_,rfl⟩:=L2.len3 hl; rfl); case a | l | c | k=>k_is)
  (case G70=>letI:L2.Kon:=L2.kon0; refine' L2.gX ?a ?l ?c ?k ?i (λ_ _ _ _ _ _ us hl=>by obtain ⟨_,_,rfl⟩:=L2.len2 hl; rfl); (case a=>k_is); (case l=>k_is); (case c=>k_is); (case k=>k_is); (case i=>k_is))
  (case G71=>refine' L2.aO KX G ?a ?l ?c ?k (λ_ _ _ _ _ _ us hl=>by obtain ⟨_,_,rfl⟩:=L2.len2 hl; rfl); case a | l | c | k=>k_is)
  (case G72=>refine' L2.aO KX G ?a ?l ?c ?k (λ_ _ _ _ _ _ us hl=>by obtain ⟨_,_,_,rfl⟩:=L2.len3 hl; rfl); case a | l | c | k=>k_is)
  (case G73=>refine' L2.aO KX G ?a ?l ?c ?k (λ_ _ _ _ _ _ us hl=>by obtain ⟨_,_,_,rfl⟩:=L2.len3 hl; rfl); case a | l | c | k=>k_is)
  (case G74=>refine' L2.aO KX G ?a ?l ?c ?k (λ_ _ _ _ _ _ us hl=>by obtain ⟨_,_,_,rfl⟩:=L2.len3 hl; rfl); case a | l | c | k=>k_is)
  (case G75=>refine' L2.aO KX G ?a ?l ?c ?k (λ_ _ _ _ _ _ us hl=>by obtain ⟨_,_,_,_,rfl⟩:=L2.len4 hl; rfl); case a | l | c | k=>k_is)
  (case G76=>refine' L2.aO KX G ?a ?l ?c ?k (λ_ _ _ _ _ _ us hl=>by obtain ⟨_,_,_,_,rfl⟩:=L2.len4 hl; rfl); case a | l | c | k=>k_is)
  (case G77=>refine' L2.aO KX G ?a ?l ?c ?k (λ_ _ _ _ _ _ us hl=>by obtain ⟨_,_,_,_,rfl⟩:=L2.len4 hl; rfl); case a | l | c | k=>k_is)
  (case G78=>refine' L2.aO KX G ?a ?l ?c ?k (λ_ _ _ _ _ _ us hl=>by obtain ⟨_,_,rfl⟩:=L2.len2 hl; rfl); case a | l | c | k=>k_is)
  (case G79=>refine' L2.aO KX G ?a ?l ?c ?k (λ_ _ _ _ _ _ us hl=>by obtain ⟨_,_,_,rfl⟩:=L2.len3 hl; rfl); case a | l | c | k=>k_is)
  (case G80=>letI:L2.Kon:=L2.kon0; refine' L2.gX ?a ?l ?c ?k ?i (λ_ _ _ _ _ _ us hl=>by obtain ⟨_,_,rfl⟩:=L2.len2 hl; rfl); (case a=>k_is); (case l=>k_is); (case c=>k_is); (case k=>k_is); (case i=>k_is))
  (case G81=>refine' L2.aO KX G ?a ?l ?c ?k (λ_ _ _ _ _ _ us hl=>by obtain ⟨_,_,_,_,rfl⟩:=L2.len4 hl; rfl); case a | l | c | k=>k_is)
  (case G82=>refine' L2.aO KX G ?a ?l ?c ?k (λ_ _ _ _ _ _ us hl=>by obtain ⟨_,_,_,_,_,rfl⟩:=L2.len5 hl; rfl); case a | l | c | k=>k_is)
  (case G83=>refine' L2.aO KX G ?a ?l ?c ?k (λ_ _ _ _ _ _ us hl=>by obtain ⟨_,_,_,_,rfl⟩:=L2.len4 hl; rfl); case a | l | c | k=>k_is)
  (case B=>refine' ⟨V9 KX G ?_,V9 KX G ?_,V9 KX G ?_,V9 KX G ?_,V9 KX G ?_,V9 KX G ?_,V9 KX G ?_,V9 KX G ?_,V9 KX G ?_,V9 KX G ?_,V9 KX G ?_,V9 KX G ?_,V9 KX G ?_,V9 KX G ?_⟩ <;> k_is)
 case C =>
  refine G4.mpr ⟨?_,G4.mpr ⟨?_,λ_ h=>nomatch h⟩⟩
  all_goals kernel_rfl
#print axioms PySem.Challenge.cw_floodtree_k28_whole_kept_lakes_holds