import PyProof.Rows.All
import Wide.All
import OpenK.AllK
import Wide.FinOn
import Lean
import PyProof.EqAt
import PyProof.EqKinds
import PyProof.TupleCall
import PySem.Challenge.RW_floodtree_k36_pictures
open PySem renaming wpAny_bind → Z0, wpAny_pure → Y0, Spec → W3, Program → W5, sizeLine → V1, SetTable → V3, starEach → V4, sizeLine_eq → V8, mainGlobals → U8, wpAny_mono → T4, Builtin → R0, mem_of_lookup → R7, wpAny_holding → Q0, bootBuiltins → P0, compareOp → N5, NameKind → N6, wpAny_call_entry → N8, wpAny_truthy_bool → N9, codeAny_builtin → M3, wpAny_Call_Name_kw → M8, DictEntry → K4, wpAny_newObj_type → K5, sysModules → K6, wpAny_passesOwn → G1, wpAny_setState_of → F9, plainId_quiet → E6, wpAny_setEntries_of → E8, recursionLimit → D2, wpAny_callSpecial?_slot → D5, codeAny_mono → C1, wpAny_rule → C3, FuncData → C9, attributeBase → B2, bindArgs → A9
open PySem.W renaming Frag → Z3, mg_none_of → U4, keepIn → T5, fnOf → T7, findIn → R4, codeIn → P7, kia_one → O0, emptyDict → O8, instObj → K7, codeHdIn → J4, kitOne → J5, nsIn → G8, plainGet → D1, hasDictIn → A2
open List renaming getElem?_eq_some_iff → Z4, toArray → Z6, getElem?_eq_getElem → Z9, length_map → Y3, mem_cons → Y4, getElem?_append_right → Y5, mem_singleton → Y6, mem_append_right → Y7, length_append → Y8, append_assoc → Y9, size_toArray → X0, getElem?_map → X2, range → X3, mem_cons_of_mem → X6, getElem?_append_left → X8, take_append_drop → W0, length_cons → W4, mem_cons_self → W6, pairwise_append → W7, mem_of_getElem? → W8, mem_append → W9, map_cons → V0, length_range → V5, append_nil → V6, length_take → V7, mem_append_left → U0, map_append → T3, replicate → T6, map_map → T8, getElem?_take_of_lt → R3, getElem?_toArray → R6, getElem_of_mem → R8, map_congr_left → Q2, mem_map → Q4, find?_cons → Q6, length_set → O1, length_drop → O3, take_of_length_le → O6, drop_eq_getElem_cons → O7, take_length → N7, pairwise_iff_getElem → M4, length_filter_le → M5, getElem?_eq_none → M6, lookup_cons → L5, getElem?_drop → L6, mem_range → L8, lookup → L9, mem_of_mem_drop → K0, mem_of_mem_take → K1, getElem?_range → J0, getElem_mem → J3, mem_iff_getElem? → G0, ext_getElem? → G9, pairwise_map → F6, any_cons → E4, take_append_getElem → E5, mergeSort_perm → E7, length_take_le → E9, flatten_append → D0, drop_zero → D3, pairwise_mergeSort → D4, filter_cons_of_pos → D7, any_eq_true → D9, getElem?_set_self → C0, getElem_cons_drop → C2, drop_of_length_le → C7, mem_filter → C8, length_replicate → B5, set_append_right → B7, perm_append_comm → A0, flatten_cons → A4, getElem?_set_ne → A8
open PySem.Heap renaming get?_push_of_some → Z5, get?_push_size → X4, lt_size → X5, get?_update_ne → U7, SameBut → S8, get?_update_self → Q9, size_push → M1
open Option.some renaming inj → Z7
open Bool renaming false_ne_true → Z8, eq_iff_iff → T9, false_eq_true → N3
open PyProof.Rows renaming wpS_bind → X1, wpS_pure → X7, wpS_forRange → Q5, callWith_type1 → P3, IntsAre → J8, get?_update_seq → G3, wpS_mono → E3, pendingOf → D6, SortKind → B0, listUpdate_at → B4
open PySem.Obj renaming mapSeq → X9, data_mapFields → N4, isFreed_of_fields → B8
open Array renaming length_toList → V9, getElem?_eq_getElem → T0, getElem?_toList → J9, getElem?_eq_none → C4
open Nat renaming lt_succ_self → U1, zero_le → U2, not_lt → U3, le_add_right → U6, add_sub_cancel_left → U9, le_antisymm → T2, min_eq_left → Q7, lt_irrefl → Q8, le_succ → P6, ne_of_gt → N2, lt_succ_of_lt → M2, le_of_not_lt → M9, lt_or_ge → L7, not_lt_zero → K8, mul_le_mul_right → G6, le_of_lt_succ → G7, le_succ_of_le → F8, mul_le_mul → D8, min_le_left → B1, div_lt_iff_lt_mul → B6
open Int renaming toNat_natCast → U5, le_trans → P4, natCast_mul → K9, le_of_lt → G4, ofNat_le → C6
open PySem.SetTable renaming below → T1
open PySem.PassesOwn renaming never → S6
open PySem.Value renaming ref → S7, int → O9, none → M7, isInt → A5, type → A7
open Ne renaming symm → R5
open False renaming elim → R9
open PySem.Heap.SameBut renaming update → Q3
open PySem.F renaming plainAttrs_list → P5, plain_min_loop → O5, slot_list_append → N0, type_list_append → N1, slot_NoneType_hash → J6, called_set → C5
open PySem.Around renaming under_plainId → P8
open Option renaming map_eq_some_iff → O4
open True renaming intro → M0
open Exists renaming elim → K2
open PySem.Builtin.Range renaming rangeSize → K3, rangeFitsLong → J1
open PySem.NameKind renaming free → J2
open PyProof.Rows.SortSt renaming mk' → J7
open ForInStep renaming yield → G2
open PySem.Str renaming ofString → F7
open List.Mem renaming head → B3
open List.Perm renaming append_left → B9
open Sum renaming inl → A1
open PySem.Builtin.List renaming listExtendWith → A3
open PySem.SeqAt renaming EqAt → A6
theorem nz1 {a b c:Nat} (h:a<b) (k:b<=c):a<c:=Nat.lt_of_lt_of_le h k
theorem nz2 {a b c:Nat} (h:a<=b) (k:b<c):a<c:=Nat.lt_of_le_of_lt h k
theorem nz3 {a b:Nat} (h:a=b):a<=b:=Nat.le_of_eq h
theorem nz4 {a b c:Nat} (h:a<=b) (k:b<=c):a<=c:=Nat.le_trans h k
theorem nz5 {a b:Nat} (h:a<b):a<=b:=Nat.le_of_lt h
theorem nz6 (n:Nat):n<=n:=Nat.le_refl n
theorem nz7 {a b:Nat} (h:a<b):a≠b:=Nat.ne_of_lt h
theorem nz8 {a b c:Nat} (h:a<b) (k:b<c):a<c:=Nat.lt_trans h k
theorem nz9 {α β γ:Type} (x:Option α) (f:α->Option β) (g:β->Option γ):(x.bind f).bind g=x.bind λy=>(f y).bind g:=Option.bind_assoc x f g
theorem nza {α β:Type} (a:α) (f:α->Option β):(some a).bind f=f a:=rfl
theorem oq02 {p q:Prop}{Q:Prop}(h:p/\q)(f:p->q->Q):Q:=f h.1 h.2
theorem oq03 {p q r:Prop}{Q:Prop}(h:p/\q/\r)(f:p->q->r->Q):Q:=f h.1 h.2.1 h.2.2
theorem oq04 {p q r s:Prop}{Q:Prop}(h:p/\q/\r/\s)(f:p->q->r->s->Q):Q:=f h.1 h.2.1 h.2.2.1 h.2.2.2
theorem oq05 {p q r s t:Prop}{Q:Prop}(h:p/\q/\r/\s/\t)(f:p->q->r->s->t->Q):Q:=f h.1 h.2.1 h.2.2.1 h.2.2.2.1 h.2.2.2.2
theorem oq06 {p q r s t u:Prop}{Q:Prop}(h:p/\q/\r/\s/\t/\u)(f:p->q->r->s->t->u->Q):Q:=f h.1 h.2.1 h.2.2.1 h.2.2.2.1 h.2.2.2.2.1 h.2.2.2.2.2
theorem oq07 {p q r s t u v:Prop}{Q:Prop}(h:p/\q/\r/\s/\t/\u/\v)(f:p->q->r->s->t->u->v->Q):Q:=f h.1 h.2.1 h.2.2.1 h.2.2.2.1 h.2.2.2.2.1 h.2.2.2.2.2.1 h.2.2.2.2.2.2
theorem oq11 {A:Type}{p:A->Prop}{Q:Prop}(h:∃ a,p a)(f:∀ a,p a->Q):Q:=h.elim λa h=>f a h
theorem oq12 {A:Type}{p q:A->Prop}{Q:Prop}(h:∃ a,p a/\q a)(f:∀ a,p a->q a->Q):Q:=h.elim λa h=>f a h.1 h.2
theorem oq13 {A:Type}{p q r:A->Prop}{Q:Prop}(h:∃ a,p a/\q a/\r a)(f:∀ a,p a->q a->r a->Q):Q:=h.elim λa h=>f a h.1 h.2.1 h.2.2
theorem oq14 {A:Type}{p q r s:A->Prop}{Q:Prop}(h:∃ a,p a/\q a/\r a/\s a)(f:∀ a,p a->q a->r a->s a->Q):Q:=h.elim λa h=>f a h.1 h.2.1 h.2.2.1 h.2.2.2
theorem oq15 {A:Type}{p q r s t:A->Prop}{Q:Prop}(h:∃ a,p a/\q a/\r a/\s a/\t a)(f:∀ a,p a->q a->r a->s a->t a->Q):Q:=h.elim λa h=>f a h.1 h.2.1 h.2.2.1 h.2.2.2.1 h.2.2.2.2
theorem oq21 {A B:Type}{p:A->B->Prop}{Q:Prop}(h:∃ a b,p a b)(f:∀ a b,p a b->Q):Q:=h.elim λa h=>h.elim λb h=>f a b h
theorem oq22 {A B:Type}{p q:A->B->Prop}{Q:Prop}(h:∃ a b,p a b/\q a b)(f:∀ a b,p a b->q a b->Q):Q:=h.elim λa h=>h.elim λb h=>f a b h.1 h.2
theorem oq23 {A B:Type}{p q r:A->B->Prop}{Q:Prop}(h:∃ a b,p a b/\q a b/\r a b)(f:∀ a b,p a b->q a b->r a b->Q):Q:=h.elim λa h=>h.elim λb h=>f a b h.1 h.2.1 h.2.2
theorem oq24 {A B:Type}{p q r s:A->B->Prop}{Q:Prop}(h:∃ a b,p a b/\q a b/\r a b/\s a b)(f:∀ a b,p a b->q a b->r a b->s a b->Q):Q:=h.elim λa h=>h.elim λb h=>f a b h.1 h.2.1 h.2.2.1 h.2.2.2
theorem oq25 {A B:Type}{p q r s t:A->B->Prop}{Q:Prop}(h:∃ a b,p a b/\q a b/\r a b/\s a b/\t a b)(f:∀ a b,p a b->q a b->r a b->s a b->t a b->Q):Q:=h.elim λa h=>h.elim λb h=>f a b h.1 h.2.1 h.2.2.1 h.2.2.2.1 h.2.2.2.2
theorem oq26 {A B:Type}{p q r s t u:A->B->Prop}{Q:Prop}(h:∃ a b,p a b/\q a b/\r a b/\s a b/\t a b/\u a b)(f:∀ a b,p a b->q a b->r a b->s a b->t a b->u a b->Q):Q:=h.elim λa h=>h.elim λb h=>f a b h.1 h.2.1 h.2.2.1 h.2.2.2.1 h.2.2.2.2.1 h.2.2.2.2.2
theorem oq2a {A B:Type}{p q r s t u v w x y:A->B->Prop}{Q:Prop}(h:∃ a b,p a b/\q a b/\r a b/\s a b/\t a b/\u a b/\v a b/\w a b/\x a b/\y a b)(f:∀ a b,p a b->q a b->r a b->s a b->t a b->u a b->v a b->w a b->x a b->y a b->Q):Q:=h.elim λa h=>h.elim λb h=>f a b h.1 h.2.1 h.2.2.1 h.2.2.2.1 h.2.2.2.2.1 h.2.2.2.2.2.1 h.2.2.2.2.2.2.1 h.2.2.2.2.2.2.2.1 h.2.2.2.2.2.2.2.2.1 h.2.2.2.2.2.2.2.2.2
theorem oq2b {A B:Type}{p q r s t u v w x y z:A->B->Prop}{Q:Prop}(h:∃ a b,p a b/\q a b/\r a b/\s a b/\t a b/\u a b/\v a b/\w a b/\x a b/\y a b/\z a b)(f:∀ a b,p a b->q a b->r a b->s a b->t a b->u a b->v a b->w a b->x a b->y a b->z a b->Q):Q:=h.elim λa h=>h.elim λb h=>f a b h.1 h.2.1 h.2.2.1 h.2.2.2.1 h.2.2.2.2.1 h.2.2.2.2.2.1 h.2.2.2.2.2.2.1 h.2.2.2.2.2.2.2.1 h.2.2.2.2.2.2.2.2.1 h.2.2.2.2.2.2.2.2.2.1 h.2.2.2.2.2.2.2.2.2.2
theorem oq31 {A B C:Type}{p:A->B->C->Prop}{Q:Prop}(h:∃ a b c,p a b c)(f:∀ a b c,p a b c->Q):Q:=h.elim λa h=>h.elim λb h=>h.elim λc h=>f a b c h
theorem oq32 {A B C:Type}{p q:A->B->C->Prop}{Q:Prop}(h:∃ a b c,p a b c/\q a b c)(f:∀ a b c,p a b c->q a b c->Q):Q:=h.elim λa h=>h.elim λb h=>h.elim λc h=>f a b c h.1 h.2
theorem oq33 {A B C:Type}{p q r:A->B->C->Prop}{Q:Prop}(h:∃ a b c,p a b c/\q a b c/\r a b c)(f:∀ a b c,p a b c->q a b c->r a b c->Q):Q:=h.elim λa h=>h.elim λb h=>h.elim λc h=>f a b c h.1 h.2.1 h.2.2
theorem oq34 {A B C:Type}{p q r s:A->B->C->Prop}{Q:Prop}(h:∃ a b c,p a b c/\q a b c/\r a b c/\s a b c)(f:∀ a b c,p a b c->q a b c->r a b c->s a b c->Q):Q:=h.elim λa h=>h.elim λb h=>h.elim λc h=>f a b c h.1 h.2.1 h.2.2.1 h.2.2.2
theorem oq35 {A B C:Type}{p q r s t:A->B->C->Prop}{Q:Prop}(h:∃ a b c,p a b c/\q a b c/\r a b c/\s a b c/\t a b c)(f:∀ a b c,p a b c->q a b c->r a b c->s a b c->t a b c->Q):Q:=h.elim λa h=>h.elim λb h=>h.elim λc h=>f a b c h.1 h.2.1 h.2.2.1 h.2.2.2.1 h.2.2.2.2
theorem oq36 {A B C:Type}{p q r s t u:A->B->C->Prop}{Q:Prop}(h:∃ a b c,p a b c/\q a b c/\r a b c/\s a b c/\t a b c/\u a b c)(f:∀ a b c,p a b c->q a b c->r a b c->s a b c->t a b c->u a b c->Q):Q:=h.elim λa h=>h.elim λb h=>h.elim λc h=>f a b c h.1 h.2.1 h.2.2.1 h.2.2.2.1 h.2.2.2.2.1 h.2.2.2.2.2
theorem oq42 {A B C D:Type}{p q:A->B->C->D->Prop}{Q:Prop}(h:∃ a b c d,p a b c d/\q a b c d)(f:∀ a b c d,p a b c d->q a b c d->Q):Q:=h.elim λa h=>h.elim λb h=>h.elim λc h=>h.elim λd h=>f a b c d h.1 h.2
theorem oq43 {A B C D:Type}{p q r:A->B->C->D->Prop}{Q:Prop}(h:∃ a b c d,p a b c d/\q a b c d/\r a b c d)(f:∀ a b c d,p a b c d->q a b c d->r a b c d->Q):Q:=h.elim λa h=>h.elim λb h=>h.elim λc h=>h.elim λd h=>f a b c d h.1 h.2.1 h.2.2
theorem oq44 {A B C D:Type}{p q r s:A->B->C->D->Prop}{Q:Prop}(h:∃ a b c d,p a b c d/\q a b c d/\r a b c d/\s a b c d)(f:∀ a b c d,p a b c d->q a b c d->r a b c d->s a b c d->Q):Q:=h.elim λa h=>h.elim λb h=>h.elim λc h=>h.elim λd h=>f a b c d h.1 h.2.1 h.2.2.1 h.2.2.2
theorem oq45 {A B C D:Type}{p q r s t:A->B->C->D->Prop}{Q:Prop}(h:∃ a b c d,p a b c d/\q a b c d/\r a b c d/\s a b c d/\t a b c d)(f:∀ a b c d,p a b c d->q a b c d->r a b c d->s a b c d->t a b c d->Q):Q:=h.elim λa h=>h.elim λb h=>h.elim λc h=>h.elim λd h=>f a b c d h.1 h.2.1 h.2.2.1 h.2.2.2.1 h.2.2.2.2
theorem oq46 {A B C D:Type}{p q r s t u:A->B->C->D->Prop}{Q:Prop}(h:∃ a b c d,p a b c d/\q a b c d/\r a b c d/\s a b c d/\t a b c d/\u a b c d)(f:∀ a b c d,p a b c d->q a b c d->r a b c d->s a b c d->t a b c d->u a b c d->Q):Q:=h.elim λa h=>h.elim λb h=>h.elim λc h=>h.elim λd h=>f a b c d h.1 h.2.1 h.2.2.1 h.2.2.2.1 h.2.2.2.2.1 h.2.2.2.2.2
theorem oq56 {A B C D E:Type}{p q r s t u:A->B->C->D->E->Prop}{Q:Prop}(h:∃ a b c d e,p a b c d e/\q a b c d e/\r a b c d e/\s a b c d e/\t a b c d e/\u a b c d e)(f:∀ a b c d e,p a b c d e->q a b c d e->r a b c d e->s a b c d e->t a b c d e->u a b c d e->Q):Q:=h.elim λa h=>h.elim λb h=>h.elim λc h=>h.elim λd h=>h.elim λe h=>f a b c d e h.1 h.2.1 h.2.2.1 h.2.2.2.1 h.2.2.2.2.1 h.2.2.2.2.2
theorem oq63 {A B C D E G:Type}{p q r:A->B->C->D->E->G->Prop}{Q:Prop}(h:∃ a b c d e g,p a b c d e g/\q a b c d e g/\r a b c d e g)(f:∀ a b c d e g,p a b c d e g->q a b c d e g->r a b c d e g->Q):Q:=h.elim λa h=>h.elim λb h=>h.elim λc h=>h.elim λd h=>h.elim λe h=>h.elim λg h=>f a b c d e g h.1 h.2.1 h.2.2
theorem oq64 {A B C D E G:Type}{p q r s:A->B->C->D->E->G->Prop}{Q:Prop}(h:∃ a b c d e g,p a b c d e g/\q a b c d e g/\r a b c d e g/\s a b c d e g)(f:∀ a b c d e g,p a b c d e g->q a b c d e g->r a b c d e g->s a b c d e g->Q):Q:=h.elim λa h=>h.elim λb h=>h.elim λc h=>h.elim λd h=>h.elim λe h=>h.elim λg h=>f a b c d e g h.1 h.2.1 h.2.2.1 h.2.2.2
theorem oq65 {A B C D E G:Type}{p q r s t:A->B->C->D->E->G->Prop}{Q:Prop}(h:∃ a b c d e g,p a b c d e g/\q a b c d e g/\r a b c d e g/\s a b c d e g/\t a b c d e g)(f:∀ a b c d e g,p a b c d e g->q a b c d e g->r a b c d e g->s a b c d e g->t a b c d e g->Q):Q:=h.elim λa h=>h.elim λb h=>h.elim λc h=>h.elim λd h=>h.elim λe h=>h.elim λg h=>f a b c d e g h.1 h.2.1 h.2.2.1 h.2.2.2.1 h.2.2.2.2
theorem oq6d {A B C D E G:Type}{p q r s t u v w x y z l m:A->B->C->D->E->G->Prop}{Q:Prop}(h:∃ a b c d e g,p a b c d e g/\q a b c d e g/\r a b c d e g/\s a b c d e g/\t a b c d e g/\u a b c d e g/\v a b c d e g/\w a b c d e g/\x a b c d e g/\y a b c d e g/\z a b c d e g/\l a b c d e g/\m a b c d e g)(f:∀ a b c d e g,p a b c d e g->q a b c d e g->r a b c d e g->s a b c d e g->t a b c d e g->u a b c d e g->v a b c d e g->w a b c d e g->x a b c d e g->y a b c d e g->z a b c d e g->l a b c d e g->m a b c d e g->Q):Q:=h.elim λa h=>h.elim λb h=>h.elim λc h=>h.elim λd h=>h.elim λe h=>h.elim λg h=>f a b c d e g h.1 h.2.1 h.2.2.1 h.2.2.2.1 h.2.2.2.2.1 h.2.2.2.2.2.1 h.2.2.2.2.2.2.1 h.2.2.2.2.2.2.2.1 h.2.2.2.2.2.2.2.2.1 h.2.2.2.2.2.2.2.2.2.1 h.2.2.2.2.2.2.2.2.2.2.1 h.2.2.2.2.2.2.2.2.2.2.2.1 h.2.2.2.2.2.2.2.2.2.2.2.2
theorem oq71 {A B C D E G I:Type}{p:A->B->C->D->E->G->I->Prop}{Q:Prop}(h:∃ a b c d e g i,p a b c d e g i)(f:∀ a b c d e g i,p a b c d e g i->Q):Q:=h.elim λa h=>h.elim λb h=>h.elim λc h=>h.elim λd h=>h.elim λe h=>h.elim λg h=>h.elim λi h=>f a b c d e g i h
theorem oq79 {A B C D E G I:Type}{p q r s t u v w x:A->B->C->D->E->G->I->Prop}{Q:Prop}(h:∃ a b c d e g i,p a b c d e g i/\q a b c d e g i/\r a b c d e g i/\s a b c d e g i/\t a b c d e g i/\u a b c d e g i/\v a b c d e g i/\w a b c d e g i/\x a b c d e g i)(f:∀ a b c d e g i,p a b c d e g i->q a b c d e g i->r a b c d e g i->s a b c d e g i->t a b c d e g i->u a b c d e g i->v a b c d e g i->w a b c d e g i->x a b c d e g i->Q):Q:=h.elim λa h=>h.elim λb h=>h.elim λc h=>h.elim λd h=>h.elim λe h=>h.elim λg h=>h.elim λi h=>f a b c d e g i h.1 h.2.1 h.2.2.1 h.2.2.2.1 h.2.2.2.2.1 h.2.2.2.2.2.1 h.2.2.2.2.2.2.1 h.2.2.2.2.2.2.2.1 h.2.2.2.2.2.2.2.2
theorem oi03 {p q r:Prop}(h0:p)(h1:q)(h2:r):p/\q/\r:=⟨h0,h1,h2⟩
theorem oi04 {p q r s:Prop}(h0:p)(h1:q)(h2:r)(h3:s):p/\q/\r/\s:=⟨h0,h1,h2,h3⟩
theorem oi05 {p q r s t:Prop}(h0:p)(h1:q)(h2:r)(h3:s)(h4:t):p/\q/\r/\s/\t:=⟨h0,h1,h2,h3,h4⟩
theorem oi06 {p q r s t u:Prop}(h0:p)(h1:q)(h2:r)(h3:s)(h4:t)(h5:u):p/\q/\r/\s/\t/\u:=⟨h0,h1,h2,h3,h4,h5⟩
theorem oi07 {p q r s t u v:Prop}(h0:p)(h1:q)(h2:r)(h3:s)(h4:t)(h5:u)(h6:v):p/\q/\r/\s/\t/\u/\v:=⟨h0,h1,h2,h3,h4,h5,h6⟩
theorem oi12 {A:Type}{p q:A->Prop}(a:A)(h0:p a)(h1:q a):∃ a,p a/\q a:=⟨a,h0,h1⟩
theorem oi13 {A:Type}{p q r:A->Prop}(a:A)(h0:p a)(h1:q a)(h2:r a):∃ a,p a/\q a/\r a:=⟨a,h0,h1,h2⟩
theorem oi14 {A:Type}{p q r s:A->Prop}(a:A)(h0:p a)(h1:q a)(h2:r a)(h3:s a):∃ a,p a/\q a/\r a/\s a:=⟨a,h0,h1,h2,h3⟩
theorem oi15 {A:Type}{p q r s t:A->Prop}(a:A)(h0:p a)(h1:q a)(h2:r a)(h3:s a)(h4:t a):∃ a,p a/\q a/\r a/\s a/\t a:=⟨a,h0,h1,h2,h3,h4⟩
theorem oi21 {A B:Type}{p:A->B->Prop}(a:A)(b:B)(h0:p a b):∃ a b,p a b:=⟨a,b,h0⟩
theorem oi22 {A B:Type}{p q:A->B->Prop}(a:A)(b:B)(h0:p a b)(h1:q a b):∃ a b,p a b/\q a b:=⟨a,b,h0,h1⟩
theorem oi23 {A B:Type}{p q r:A->B->Prop}(a:A)(b:B)(h0:p a b)(h1:q a b)(h2:r a b):∃ a b,p a b/\q a b/\r a b:=⟨a,b,h0,h1,h2⟩
theorem oi24 {A B:Type}{p q r s:A->B->Prop}(a:A)(b:B)(h0:p a b)(h1:q a b)(h2:r a b)(h3:s a b):∃ a b,p a b/\q a b/\r a b/\s a b:=⟨a,b,h0,h1,h2,h3⟩
theorem oi25 {A B:Type}{p q r s t:A->B->Prop}(a:A)(b:B)(h0:p a b)(h1:q a b)(h2:r a b)(h3:s a b)(h4:t a b):∃ a b,p a b/\q a b/\r a b/\s a b/\t a b:=⟨a,b,h0,h1,h2,h3,h4⟩
theorem oi26 {A B:Type}{p q r s t u:A->B->Prop}(a:A)(b:B)(h0:p a b)(h1:q a b)(h2:r a b)(h3:s a b)(h4:t a b)(h5:u a b):∃ a b,p a b/\q a b/\r a b/\s a b/\t a b/\u a b:=⟨a,b,h0,h1,h2,h3,h4,h5⟩
theorem oi31 {A B C:Type}{p:A->B->C->Prop}(a:A)(b:B)(c:C)(h0:p a b c):∃ a b c,p a b c:=⟨a,b,c,h0⟩
theorem oi33 {A B C:Type}{p q r:A->B->C->Prop}(a:A)(b:B)(c:C)(h0:p a b c)(h1:q a b c)(h2:r a b c):∃ a b c,p a b c/\q a b c/\r a b c:=⟨a,b,c,h0,h1,h2⟩
theorem oi34 {A B C:Type}{p q r s:A->B->C->Prop}(a:A)(b:B)(c:C)(h0:p a b c)(h1:q a b c)(h2:r a b c)(h3:s a b c):∃ a b c,p a b c/\q a b c/\r a b c/\s a b c:=⟨a,b,c,h0,h1,h2,h3⟩
theorem oi35 {A B C:Type}{p q r s t:A->B->C->Prop}(a:A)(b:B)(c:C)(h0:p a b c)(h1:q a b c)(h2:r a b c)(h3:s a b c)(h4:t a b c):∃ a b c,p a b c/\q a b c/\r a b c/\s a b c/\t a b c:=⟨a,b,c,h0,h1,h2,h3,h4⟩
theorem oi36 {A B C:Type}{p q r s t u:A->B->C->Prop}(a:A)(b:B)(c:C)(h0:p a b c)(h1:q a b c)(h2:r a b c)(h3:s a b c)(h4:t a b c)(h5:u a b c):∃ a b c,p a b c/\q a b c/\r a b c/\s a b c/\t a b c/\u a b c:=⟨a,b,c,h0,h1,h2,h3,h4,h5⟩
theorem oi37 {A B C:Type}{p q r s t u v:A->B->C->Prop}(a:A)(b:B)(c:C)(h0:p a b c)(h1:q a b c)(h2:r a b c)(h3:s a b c)(h4:t a b c)(h5:u a b c)(h6:v a b c):∃ a b c,p a b c/\q a b c/\r a b c/\s a b c/\t a b c/\u a b c/\v a b c:=⟨a,b,c,h0,h1,h2,h3,h4,h5,h6⟩
theorem oi44 {A B C D:Type}{p q r s:A->B->C->D->Prop}(a:A)(b:B)(c:C)(d:D)(h0:p a b c d)(h1:q a b c d)(h2:r a b c d)(h3:s a b c d):∃ a b c d,p a b c d/\q a b c d/\r a b c d/\s a b c d:=⟨a,b,c,d,h0,h1,h2,h3⟩
theorem oi45 {A B C D:Type}{p q r s t:A->B->C->D->Prop}(a:A)(b:B)(c:C)(d:D)(h0:p a b c d)(h1:q a b c d)(h2:r a b c d)(h3:s a b c d)(h4:t a b c d):∃ a b c d,p a b c d/\q a b c d/\r a b c d/\s a b c d/\t a b c d:=⟨a,b,c,d,h0,h1,h2,h3,h4⟩
theorem oi46 {A B C D:Type}{p q r s t u:A->B->C->D->Prop}(a:A)(b:B)(c:C)(d:D)(h0:p a b c d)(h1:q a b c d)(h2:r a b c d)(h3:s a b c d)(h4:t a b c d)(h5:u a b c d):∃ a b c d,p a b c d/\q a b c d/\r a b c d/\s a b c d/\t a b c d/\u a b c d:=⟨a,b,c,d,h0,h1,h2,h3,h4,h5⟩
theorem oi56 {A B C D E:Type}{p q r s t u:A->B->C->D->E->Prop}(a:A)(b:B)(c:C)(d:D)(e:E)(h0:p a b c d e)(h1:q a b c d e)(h2:r a b c d e)(h3:s a b c d e)(h4:t a b c d e)(h5:u a b c d e):∃ a b c d e,p a b c d e/\q a b c d e/\r a b c d e/\s a b c d e/\t a b c d e/\u a b c d e:=⟨a,b,c,d,e,h0,h1,h2,h3,h4,h5⟩
theorem oi63 {A B C D E G:Type}{p q r:A->B->C->D->E->G->Prop}(a:A)(b:B)(c:C)(d:D)(e:E)(g:G)(h0:p a b c d e g)(h1:q a b c d e g)(h2:r a b c d e g):∃ a b c d e g,p a b c d e g/\q a b c d e g/\r a b c d e g:=⟨a,b,c,d,e,g,h0,h1,h2⟩
theorem oi64 {A B C D E G:Type}{p q r s:A->B->C->D->E->G->Prop}(a:A)(b:B)(c:C)(d:D)(e:E)(g:G)(h0:p a b c d e g)(h1:q a b c d e g)(h2:r a b c d e g)(h3:s a b c d e g):∃ a b c d e g,p a b c d e g/\q a b c d e g/\r a b c d e g/\s a b c d e g:=⟨a,b,c,d,e,g,h0,h1,h2,h3⟩
theorem oi65 {A B C D E G:Type}{p q r s t:A->B->C->D->E->G->Prop}(a:A)(b:B)(c:C)(d:D)(e:E)(g:G)(h0:p a b c d e g)(h1:q a b c d e g)(h2:r a b c d e g)(h3:s a b c d e g)(h4:t a b c d e g):∃ a b c d e g,p a b c d e g/\q a b c d e g/\r a b c d e g/\s a b c d e g/\t a b c d e g:=⟨a,b,c,d,e,g,h0,h1,h2,h3,h4⟩
theorem oi6d {A B C D E G:Type}{p q r s t u v w x y z l m:A->B->C->D->E->G->Prop}(a:A)(b:B)(c:C)(d:D)(e:E)(g:G)(h0:p a b c d e g)(h1:q a b c d e g)(h2:r a b c d e g)(h3:s a b c d e g)(h4:t a b c d e g)(h5:u a b c d e g)(h6:v a b c d e g)(h7:w a b c d e g)(h8:x a b c d e g)(h9:y a b c d e g)(h10:z a b c d e g)(h11:l a b c d e g)(h12:m a b c d e g):∃ a b c d e g,p a b c d e g/\q a b c d e g/\r a b c d e g/\s a b c d e g/\t a b c d e g/\u a b c d e g/\v a b c d e g/\w a b c d e g/\x a b c d e g/\y a b c d e g/\z a b c d e g/\l a b c d e g/\m a b c d e g:=⟨a,b,c,d,e,g,h0,h1,h2,h3,h4,h5,h6,h7,h8,h9,h10,h11,h12⟩
theorem oi71 {A B C D E G I:Type}{p:A->B->C->D->E->G->I->Prop}(a:A)(b:B)(c:C)(d:D)(e:E)(g:G)(i:I)(h0:p a b c d e g i):∃ a b c d e g i,p a b c d e g i:=⟨a,b,c,d,e,g,i,h0⟩
theorem oi79 {A B C D E G I:Type}{p q r s t u v w x:A->B->C->D->E->G->I->Prop}(a:A)(b:B)(c:C)(d:D)(e:E)(g:G)(i:I)(h0:p a b c d e g i)(h1:q a b c d e g i)(h2:r a b c d e g i)(h3:s a b c d e g i)(h4:t a b c d e g i)(h5:u a b c d e g i)(h6:v a b c d e g i)(h7:w a b c d e g i)(h8:x a b c d e g i):∃ a b c d e g i,p a b c d e g i/\q a b c d e g i/\r a b c d e g i/\s a b c d e g i/\t a b c d e g i/\u a b c d e g i/\v a b c d e g i/\w a b c d e g i/\x a b c d e g i:=⟨a,b,c,d,e,g,i,h0,h1,h2,h3,h4,h5,h6,h7,h8⟩
set_option Elab.async false
set_option linter.all false
set_option maxRecDepth 100000
set_option bootstrap.genMatcherCode false
set_option genSizeOf false
set_option genInjectivity false
noncomputable section
namespace L2
theorem a0q (h:True:=by decide):True:=trivial
theorem a1q (h:True:=by intro _; rfl):True:=trivial
theorem a2q (h:True:=by rfl):True:=trivial
theorem a3q (h:True:=by with_unfolding_all rfl):True:=trivial
theorem a4q (h:True:=by trivial):True:=trivial
open PySem PySem.Spec PyProof.Rows
noncomputable abbrev Key:=Sum Int Str
noncomputable def ft:Key->Value->Bool
 | .inl k,v=>A5 k v
 | .inr x,v=>Value.isStrOf x v
noncomputable def keyH (w:World):Key->Int
 | .inl k=>hashInt k
 | .inr x=>hashStr w x
theorem aO:∀ {k:Key} {v:Value},ft k v=true->(∃ i t,k=A1 i/\v=O9 i t)\/(∃ x t,k=Sum.inr x/\v=Value.str x t)
 | .inl i,v,h=>by
  refine oq11 (Value.isInt_shape (k:=i) (v:=v) h) λt e=>?_
  exact .inl ⟨i,t,rfl,e⟩
 | .inr x,v,h=>by
  refine oq11 (Value.isStrOf_shape (x:=x) (v:=v) h) λt e=>?_
  exact .inr ⟨x,t,rfl,e⟩
theorem keyIs_int (i:Int) (t:Tok):ft (.inl i) (.int i t)=true:=by simp [ft,A5]
theorem keyIs_str (x:Str) (t:Tok):ft (.inr x) (.str x t)=true:=by simp [ft,Value.isStrOf]
theorem key_ll (a b:Int):decide ((A1 a:Key)=A1 b)=(a == b):=by
 by_cases e:a=b
 ·subst e; simp
 ·have h:¬ (A1 a:Key)=A1 b:=λq=>e (A1.inj q)
  rw [decide_eq_false h]
  exact (beq_eq_false_iff_ne.mpr e).symm
theorem key_rr (a b:Str):decide ((Sum.inr a:Key)=Sum.inr b)=decide (a=b):=by
 by_cases e:a=b
 ·subst e; simp
 ·have h:¬ (Sum.inr a:Key)=Sum.inr b:=λq=>e (Sum.inr.inj q)
  rw [decide_eq_false h,decide_eq_false e]
theorem key_lr (a:Int) (b:Str):decide ((A1 a:Key)=Sum.inr b)=false:=decide_eq_false (λq=>nomatch q)
theorem key_rl (a:Str) (b:Int):decide ((Sum.inr a:Key)=A1 b)=false:=decide_eq_false (λq=>nomatch q)
noncomputable def aV (prog:W5) (w:World):PySem.KeyKind prog w Key where
 is:=ft
 hash:=keyH w
 inj:=λv a b ha hb=>by
  rcases aO ha with ⟨i,t,rfl,rfl⟩ | ⟨x,t,rfl,rfl⟩
  ·rcases aO hb with ⟨j,u,rfl,e⟩ | ⟨y,u,rfl,e⟩
   ·injection e with e1 _; rw [e1]
   ·exact nomatch e
  ·rcases aO hb with ⟨j,u,rfl,e⟩ | ⟨y,u,rfl,e⟩
   ·exact nomatch e
   ·injection e with e1 _; rw [e1]
 byValue:=λk v h=>by
  rcases aO h with ⟨i,t,rfl,rfl⟩ | ⟨x,t,rfl,rfl⟩ <;> rfl
 pyHash:=λhv h=>by
  rcases aO hv with ⟨i,t,rfl,rfl⟩ | ⟨x,t,rfl,rfl⟩
  ·exact wpAny_pyHash_int h
  ·exact wpAny_pyHash_str h
 eqBool:=λhu hv h=>by
  rcases aO hu with ⟨i,t,rfl,rfl⟩ | ⟨x,t,rfl,rfl⟩
  ·rcases aO hv with ⟨j,u,rfl,rfl⟩ | ⟨y,u,rfl,rfl⟩
   ·rw [key_ll] at h; exact wpAny_eqBool_int h
   ·rw [key_lr] at h; exact A6.int_str i t y u _ _ _ _ h
  ·rcases aO hv with ⟨j,u,rfl,rfl⟩ | ⟨y,u,rfl,rfl⟩
   ·rw [key_rl] at h; exact A6.str_int x t j u _ _ _ _ h
   ·rw [key_rr] at h; exact wpAny_eqBool_str h
 «strs»:=λk x t v h=>by
  rcases aO h with ⟨i,u,rfl,e⟩ | ⟨y,u,rfl,e⟩
  ·exact nomatch e
  ·injection e with e1 _
   subst e1
   cases v <;> rfl
theorem nY (prog:W5) (w:World) (i:Int) (t:Tok):(aV prog w).is (.inl i) (.int i t)=true:=keyIs_int i t
theorem nZ (prog:W5) (w:World) (x:Str) (t:Tok):(aV prog w).is (.inr x) (.str x t)=true:=keyIs_str x t
end L2
namespace L2
open PySem PySem.Spec PyProof.Rows
set_option genInjectivity true in
inductive V where
 | non | bl (b:Bool) | int (i:Int) | str (x:Str) | byt (b:Array UInt8) | flt (b:UInt64) | ref (a:Addr) | ty (n:String)
 deriving DecidableEq
def RelV:V->Value->Prop
 | .non,u=>u=M7
 | .bl b,u=>u=Value.bool b
 | .int i,u=>∃ t,u=O9 i t
 | .str x,u=>∃ t,u=Value.str x t
 | .byt b,u=>∃ t,u=Value.bytes b t
 | .flt b,u=>∃ t,u=Value.float b t
 | .ref a,u=>u=S7 a
 | .ty n,u=>u=A7 n
abbrev Vals:List V->List Value->Prop:=Paired RelV
theorem Vals.length {xs:List V} {us:List Value} (r:Vals xs us):xs.length=us.length:=Paired.length r
theorem Vals.get:∀ {xs:List V} {us:List Value} {i:Nat} {x:V},Vals xs us->xs[i]?=some x->∃ u,us[i]?=some u/\RelV x u
 | _,_,_,_,.nil,e=>by simp at e
 | _,_,0,_,.cons r _,e=>by simp at e; subst e; exact ⟨_,rfl,r⟩
 | _,_,i+1,x,.cons _ t,e=>by
  refine oq12 (Vals.get (i:=i) (x:=x) t (by simpa using e)) λu h1 h2=>?_
  exact ⟨u,by simpa using h1,h2⟩
theorem Vals.set {x:V} {u:Value} (r:RelV x u):∀ {xs:List V} {us:List Value} (i:Nat),Vals xs us->Vals (xs.set i x) (us.set i u)
 | _,_,_,.nil=>.nil
 | _,_,0,.cons _ t=>.cons r t
 | _,_,i+1,.cons q t=>.cons q (Vals.set r i t)
theorem Vals.append:∀ {xs ys:List V} {us ws:List Value},Vals xs us->Vals ys ws->Vals (xs++ys) (us++ws):=λp s=>by
 induction p with
 | nil=>exact s
 | cons r _ ih=>exact .cons r ih
theorem Vals.take:∀ {xs:List V} {us:List Value} (n:Nat),Vals xs us->Vals (xs.take n) (us.take n)
 | _,_,0,_=>.nil
 | _,_,_+1,.nil=>.nil
 | _,_,n+1,.cons r t=>.cons r (Vals.take n t)
theorem Vals.drop:∀ {xs:List V} {us:List Value} (n:Nat),Vals xs us->Vals (xs.drop n) (us.drop n)
 | _,_,0,r=>r
 | _,_,_+1,.nil=>.nil
 | _,_,n+1,.cons _ t=>Vals.drop n t
def RelO:Option V->Option Value->Prop
 | some v,some u=>RelV v u
 | none,none=>True
 | _,_=>False
def KV {κ:Type}:List (κ × V)->List (κ × Value)->Prop:=Paired λ(p:κ × V) (q:κ × Value)=>p.1=q.1/\RelV p.2 q.2
noncomputable def kV:Key->V
 | .inl i=>.int i
 | .inr x=>.str x
inductive HO where
 | lst (xs:List V)
 | tup (xs:List V)
 | dK (kvs:List (Key × V)) | dT (kvs:List (List Key × V))
 | set (S:Int->Bool) (n:Nat)
 | ins (C dx:Addr) (fs:List (Str × V))
 | own (x:Addr)
 | xd (fs:List (Str × V))
 | met (f x:Addr)
 | rng (lo hi:Int)
 | frz (o:Obj) (u:HO)
 | tbl (ps:Array Value)
 | ext (φ:Heap->Prop)
noncomputable abbrev Hp:=Addr->Option HO
noncomputable def upd (H:Hp) (a:Addr) (o:HO):Hp:=λb=>if b=a then some o else H b
theorem ah {H:Hp} {a:Addr} {o:HO}:upd H a o a=some o:=by unfold upd; rw [if_pos rfl]
theorem ai {H:Hp} {a b:Addr} {o:HO} (h:b≠a):upd H a o b=H b:=by unfold upd; rw [if_neg h]
theorem sF {H:Hp} {a:Addr} {o u:HO}:upd (upd H a o) a u=upd H a u:=by
 funext b; unfold upd; split <;> rfl
theorem ne_of {H:Hp} {a b:Addr} {o u:HO} (h:H a=some o) (h':H b=some u) (d:o≠u):a≠b:=by
 intro e; subst e; rw [h] at h'; exact d (Z7 h')
theorem af {H:Hp} {a b:Addr} {o:HO} (h:H a=some o) (h':H b=none):a≠b:=by
 intro e; subst e; rw [h] at h'; cases h'
section
variable (P:W5) (w:World)
def aS (H:Hp) (h:Heap) (a:Addr):HO->Prop
 | .lst xs=>xs.length<=V1/\∃ (its:List Value) (n:Nat),Vals xs its/\h.get? a=some { cls:=.type "list",data:=.seq its.toArray n }
 | .tup xs=>xs.length<=V1/\∃ its:List Value,Vals xs its/\IsTup h a its.toArray
 | .dK kvs=>kvs.length<=V1/\(a == K6)=false/\∃ vs,KV kvs vs/\h.DictOf (aV P w) a vs
 | .dT kvs=>kvs.length<=V1/\(a == K6)=false/\∃ xs:List (List Key × Addr × Value),
   Paired (λ(p:List Key × V) (q:List Key × Addr × Value)=>p.1=q.1/\H q.2.1=some (.tup (p.1.map kV))/\RelV p.2 q.2.2) kvs xs /\
   ∃ o es ep,h.get? a=some o/\o.ExactDict/\o.data=.dict es ep/\es.toList=xs.map (entryOfKey (tupleKind (aV P w)))/\(xs.map (·.1)).Nodup
 | .set S n=>h.SetOf (intKind P w) a S n
 | .ins C dx fs=>H dx=some (.own a)/\fs.length<=1000/\dx≠a/\h.get? a=some (K7 C dx) /\
   ∃ mA,h.Ns1 dx mA/\(∀ f,RelO (fs.lookup f) (mA f))/\PySem.Within mA (fs.map (·.1))
 | .own _=>∃ o,h.get? a=some o
 | .xd fs=>∃ mA,h.Ns1 a mA/\∀ f,RelO (fs.lookup f) (mA f)
 | .rng lo hi=>∃ t u v,h.get? a=some { cls:=.type "range",data:=.fields #[.int lo t,.int hi u,.int 1 v] }
 | .frz o u=>h.get? a=some o/\aS H h a u
 | .tbl ps=>h.get? a=some { cls:=.none,data:=.fields ps }
 | .met f x=>h.get? a=some (PySem.W.methodObj (.ref f) (.ref x))
 | .ext φ=>φ h/\(∃ o,h.get? a=some o)/\∀ h1 h2:Heap,φ h1->(∀ o,h1.get? a=some o->h2.get? a=some o)->φ h2
def HOk (H:Hp) (h:Heap):Prop:=∀ a o,H a=some o->aS P w H h a o
end
section
variable {P:W5} {w:World} {H H':Hp} {h h':Heap} {a:Addr} {o:HO}
theorem aS.lt (x:aS P w H h a o):a<h.objs.size:=by
 cases o with
 | lst xs=>refine oq02 x λ_ zz=>oq22 zz λ_ _ _ e=>?_; exact X5 e
 | tup xs=>refine oq02 x λ_ zz=>oq12 zz λ_ _ p=>?_; exact p.lt
 | dK kvs=>refine oq03 x λ_ _ zz=>oq12 zz λ_ _ zz=>oq32 zz λo _ _ e _=>?_; exact X5 e
 | dT kvs=>refine oq03 x λ_ _ zz=>oq12 zz λ_ _ zz=>oq32 zz λo _ _ e _=>?_; exact X5 e
 | set S n=>refine oq42 x λo _ _ _ e _=>?_; exact X5 e
 | ins C dx fs=>refine oq05 x λ_ _ _ e _=>?_; exact X5 e
 | own y=>refine oq11 x λ_ e=>?_; exact X5 e
 | xd fs=>obtain ⟨_,⟨_,_,_,e,_⟩,_⟩:=x; exact X5 e
 | rng lo hi=>refine oq31 x λ_ _ _ e=>?_; exact X5 e
 | frz ob u=>refine oq02 x λe _=>?_; exact X5 e
 | tbl ps=>exact X5 (show h.get? a=some _ from x)
 | met f y=>exact X5 (show h.get? a=some _ from x)
 | ext φ=>obtain ⟨_,⟨_,e⟩,_⟩:=x; exact X5 e
theorem Paired.mapP {α β:Type} {F G:α->β->Prop}:∀ {l₁:List α} {l₂:List β},Paired F l₁ l₂->(∀ a b,F a b->G a b)->Paired G l₁ l₂:=λp f=>by
 induction p with
 | nil=>exact .nil
 | cons r _ ih=>exact .cons (f _ _ r) ih
theorem aS.stay (x:aS P w H h a o) (k:∀ b u,(b=a\/H b=some (.own a))->h.get? b=some u->h'.get? b=some u)
  (ho:∀ b,H b=some (.own a)->H' b=some (.own a)) (ht:∀ b xs,H b=some (.tup xs)->H' b=some (.tup xs)):aS P w H' h' a o:=by
 induction o with
 | lst xs=>refine oq02 x λz zz=>oq22 zz λits n r e=>?_; exact ⟨z,its,n,r,k _ _ (.inl rfl) e⟩
 | tup xs=>refine oq02 x λz zz=>oq12 zz λits r zz=>oq12 zz λob e c=>?_; exact ⟨z,its,r,ob,k _ _ (.inl rfl) e,c⟩
 | dK kvs=>refine oq03 x λz y zz=>oq12 zz λvs r zz=>oq32 zz λob es ep e c=>?_; exact ⟨z,y,vs,r,ob,es,ep,k _ _ (.inl rfl) e,c⟩
 | dT kvs =>
  refine oq03 x λz y zz=>oq12 zz λxs r zz=>oq32 zz λob es ep e c=>?_
  exact ⟨z,y,xs,Paired.mapP r λp q z=>⟨z.1,ht _ _ z.2.1,z.2.2⟩,ob,es,ep,k _ _ (.inl rfl) e,c⟩
 | set S n=>refine oq42 x λob es ep t e c=>?_; exact ⟨ob,es,ep,t,k _ _ (.inl rfl) e,c⟩
 | ins C dx fs =>
  obtain ⟨d,z,ne,e,mA,⟨od,es,ep,e2,c⟩,r⟩:=x
  exact ⟨ho _ d,z,ne,k _ _ (.inl rfl) e,mA,⟨od,es,ep,k _ _ (.inr d) e2,c⟩,r⟩
 | own y=>refine oq11 x λob e=>?_; exact ⟨ob,k _ _ (.inl rfl) e⟩
 | xd fs=>obtain ⟨mA,⟨od,es,ep,e,c⟩,r⟩:=x; exact ⟨mA,⟨od,es,ep,k _ _ (.inl rfl) e,c⟩,r⟩
 | rng lo hi=>refine oq31 x λt u v e=>?_; exact ⟨t,u,v,k _ _ (.inl rfl) e⟩
 | frz ob u ih=>refine oq02 x λe q=>?_; exact ⟨k _ _ (.inl rfl) e,ih q⟩
 | tbl ps =>
  have e:h.get? a=some { cls:=.none,data:=.fields ps }:=x
  show h'.get? a=some { cls:=.none,data:=.fields ps }
  exact k a _ (.inl rfl) e
 | met f y =>
  have e:h.get? a=some (PySem.W.methodObj (.ref f) (.ref y)):=x
  show h'.get? a=some (PySem.W.methodObj (.ref f) (.ref y))
  exact k a _ (.inl rfl) e
 | ext φ=>obtain ⟨p,⟨o,e⟩,st⟩:=x; exact ⟨st _ _ p λo q=>k _ _ (.inl rfl) q,⟨o,k _ _ (.inl rfl) e⟩,st⟩
theorem HOk.lt (x:HOk P w H h) (e:H a=some o):a<h.objs.size:=(x a o e).lt
theorem HOk.fresh (x:HOk P w H h) (e:h.objs.size<=a):H a=none:=by
 cases q:H a with
 | none=>rfl
 | some u=>exact absurd (nz1 (x.lt q) e) (Q8 _)
theorem HOk.kept (x:HOk P w H h) (k:∀ b u,h.get? b=some u->h'.get? b=some u):HOk P w H h':=λa o e =>
 (x a o e).stay (λb u _ q=>k b u q) (λ_ q=>q) λ_ _ q=>q
theorem HOk.laid (x:HOk P w H h) (k:∀ b u,h.get? b=some u->h'.get? b=some u) (hp:h.objs.size<=a) (new:aS P w (upd H a o) h' a o):HOk P w (upd H a o) h':=λb u e=>by
 have hn:=x.fresh hp
 by_cases hb:b=a
 ·subst hb; rw [ah] at e; cases e; exact new
 ·rw [ai hb] at e
  exact (x b u e).stay (λc v _ q=>k c v q) (λc q=>by rw [ai (af q hn)]; exact q) λc xs q=>by rw [ai (af q hn)]; exact q
end
def Rd (H:Hp) (a:Addr) (u:HO):Prop:=H a=some u\/∃ o,H a=some (.frz o u)
theorem Rd.of {H:Hp} {a:Addr} {u:HO} (h:H a=some u):Rd H a u:=.inl h
theorem Rd.ok {P:W5} {w:World} {H:Hp} {h:Heap} {a:Addr} {u:HO} (r:Rd H a u) (x:HOk P w H h):aS P w H h a u:=by
 rcases r with r | ⟨o,r⟩
 ·exact x a u r
 ·refine oq02 (x a _ r) λ_ q=>?_
  exact q
def Mut:Option HO->Prop
 | some (.lst _)=>True
 | some (.dK _)=>True
 | some (.dT _)=>True
 | some (.set _ _)=>True
 | some (.ins _ _ _)=>True
 | some (.ext _)=>True
 | _=>False
section
variable {P:W5} {w:World} {H:Hp} {h h':Heap} {x e:Addr} {o':HO}
theorem HOk.write (ok:HOk P w H h) (mu:Mut (H x)) (he:e=x\/H e=some (.own x)) (k:∀ b u,b≠e->h.get? b=some u->h'.get? b=some u) (heo:∃ u,h'.get? e=some u)
  (new:aS P w (upd H x o') h' x o'):HOk P w (upd H x o') h':=λb u q=>by
 have nown:∀ c y,H c=some (.own y)->c≠x:=λc y r z=>by subst z; rw [r] at mu; exact mu
 have ntup:∀ c xs,H c=some (.tup xs)->c≠x:=λc xs r z=>by subst z; rw [r] at mu; exact mu
 by_cases hb:b=x
 ·subst hb; rw [ah] at q; cases q; exact new
 ·rw [ai hb] at q
  by_cases hbe:b=e
  ·have q':H b=some (.own x):=by
    rcases he with z | z
    ·exact absurd (hbe.trans z) hb
    ·rw [hbe]; exact z
   rw [q] at q'; cases q'
   refine oq11 heo λv hv=>?_
   exact ⟨v,by rw [hbe]; exact hv⟩
  ·refine (ok b u q).stay (λc v hc r=>k c v ?_ r) (λc r=>by rw [ai (nown c b r)]; exact r) λc xs r=>by rw [ai (ntup c xs r)]; exact r
   rcases hc with rfl | hc
   ·exact hbe
   ·rintro rfl
    rcases he with z | z
    ·exact nown c b hc z
    ·rw [hc] at z; cases z; exact hb rfl
end
structure Un (fs ex:List Addr) (H H':Hp) (h h':Heap):Prop where
 keep:∀ b o,h.get? b=some o->H b=none->b ∉ fs->b ∉ ex->h'.get? b=some o
 slot:∀ b o,h.get? b=some o->H b=none->b∈fs->b ∉ ex->∃ sl,h'.get? b=some { o with slots:=sl }
 free:∀ b o,h.get? b=some o->H b=none->b ∉ ex->H' b=none
 there:∀ b o,h.get? b=some o->b ∉ ex->∃ o',h'.get? b=some o'
 tups:∀ b xs,H b=some (.tup xs)->H' b=some (.tup xs)
 frzs:∀ b o u,H b=some (.frz o u)->H' b=some (.frz o u)
 tbls:∀ b ps,H b=some (.tbl ps)->∃ more,H' b=some (.tbl (ps++more))
section
variable {fs ex:List Addr} {H H1:Hp} {h h1 h':Heap} {a x e:Addr} {o:HO}
theorem Un.any (u:Un fs ex H H1 h h1) {b:Addr} {ob:Obj} (q:h.get? b=some ob) (n:H b=none) (hx:b ∉ ex):∃ sl,h1.get? b=some { ob with slots:=sl }:=by
 by_cases hb:b∈fs
 ·exact u.slot b ob q n hb hx
 ·exact ⟨ob.slots,u.keep b ob q n hb hx⟩
theorem Un.kept (k:∀ b u,h.get? b=some u->h'.get? b=some u):Un fs ex H H h h' :=
 ⟨λb ob q _ _ _=>k b ob q,λb ob q _ _ _=>⟨ob.slots,k b ob q⟩,λ_ _ _ n _=>n,λb ob q _=>⟨ob,k b ob q⟩,λ_ _ q=>q,λ_ _ _ q=>q,λ_ ps q=>⟨#[],by rw [q]; simp⟩⟩
theorem Un.refl:Un fs ex H H h h:=Un.kept λ_ _ q=>q
theorem Un.laid (k:∀ b u,h.get? b=some u->h'.get? b=some u) (hp:h.objs.size<=a) (hn:H a=none):Un fs ex H (upd H a o) h h' where
 keep:=λb u q _ _ _=>k b u q
 slot:=λb u q _ _ _=>⟨u.slots,k b u q⟩
 free:=λb u q n _=>by rw [ai (nz7 (nz1 (X5 q) hp))]; exact n
 there:=λb u q _=>⟨u,k b u q⟩
 tups:=λb xs q=>by rw [ai (af q hn)]; exact q
 frzs:=λb u xs q=>by rw [ai (af q hn)]; exact q
 tbls:=λb ps q=>⟨#[],by rw [ai (af q hn),q]; simp⟩
theorem Un.write (mu:Mut (H x)) (he:e=x\/H e=some (.own x)) (k:∀ b u,b≠e->h.get? b=some u->h'.get? b=some u) (heo:∃ u,h'.get? e=some u):Un fs ex H (upd H x o) h h':=by
 have hx:∀ b,H b=none->b≠x:=λb n z=>by subst z; rw [n] at mu; exact mu
 have hb:∀ b,H b=none->b≠e:=λb n z=>by
  subst z
  rcases he with r | r
  ·exact hx b n r
  ·rw [n] at r; cases r
 have hm:∀ b u,H b=some u->¬ Mut (some u)->b≠x:=λb u q nm z=>by subst z; rw [q] at mu; exact nm mu
 refine ⟨λb u q n _ _=>k b u (hb b n) q,λb u q n _ _=>⟨u.slots,k b u (hb b n) q⟩,λb u q n _=>by rw [ai (hx b n)]; exact n,λb u q _=>?_,
  λb xs q=>by rw [ai (hm b _ q λz=>z)]; exact q,λb u xs q=>by rw [ai (hm b _ q λz=>z)]; exact q,λb ps q=>⟨#[],by rw [ai (hm b _ q λz=>z),q]; simp⟩⟩
 by_cases hbe:b=e
 ·subst hbe; exact heo
 ·exact ⟨u,k b u hbe q⟩
end
noncomputable def trk (h:Heap) (H:Hp):List Addr:=(X3 h.objs.size).filter λa=>(H a).isSome
noncomputable def hidT (h:Heap) (H:Hp):Heap:=PySem.W.hideAll h (trk h H)
theorem hidT_size (h:Heap) (H:Hp):(hidT h H).objs.size=h.objs.size:=PySem.W.hideAll_size _ _
theorem jw {h:Heap} {H:Hp} {b:Addr} {o:Obj} (e:h.get? b=some o) (n:H b=none):(hidT h H).get? b=some o :=
 PySem.W.hideAll_get _ e λhm=>by
  have q:(H b).isSome=true:=(C8.mp hm).2
  rw [n] at q; simp at q
theorem of_hidT {h:Heap} {H:Hp} {b:Addr} {o:Obj} (e:(hidT h H).get? b=some o):h.get? b=some o/\H b=none:=by
 have e':h.get? b=some o:=PySem.W.of_hideAll (trk h H) e
 refine ⟨e',?_⟩
 cases q:H b with
 | none=>rfl
 | some x =>
  have hm:b∈trk h H:=C8.mpr ⟨L8.mpr (X5 e'),by simp [q]⟩
  have z:(hidT h H).get? b=none:=PySem.W.hideAll_none (trk h H) hm
  rw [z] at e; cases e
end L2
namespace L2
open PySem PySem.Spec PyProof.Rows
structure Mod (K:Z3) (mg:Str->Option Value) (base:Heap):Prop where
 kin:K.In base
 glob:base.Ns U8 mg
 blt:∃ mb,base.Ns builtinsNs mb/\∀ x:Str,x≠"__name__"->mb x=P0 x
 nolimit:base.NoLimit
structure Cx where
 prog:W5
 w:World
 K:Z3
 mg:Str->Option Value
 base:Heap
 A:Around
 N:List Str
 s₀:Shared
 H₀:Hp
 env:Env
 outer:List Env
 stack:List Env
 ex:List Addr
 fn:Str->Bool
 calm:Bool
 pn:List (Addr × Obj)
 xe:Value->Shared->Prop
noncomputable def frs (l:List Env):List Addr:=l.filterMap (·.frame)
noncomputable abbrev Cx.fs (X:Cx):List Addr:=frs X.outer
def Vis (sc:Scope) (x:Str):Prop:=sc.names.lookup x=some .local\/sc.names.lookup x=some .cell\/sc.names.lookup x=some .free
def Loc (sc:Scope) (x:Str):Prop:=sc.names.lookup x=some .local\/sc.names.lookup x=some .cell
noncomputable def Look (env:Env) (h:Heap) (m:Str->Option Value) (x:Str) (u:Value):Prop :=
 (env.kindOf x=some .local/\m x=some u)\/((env.kindOf x=some .cell\/env.kindOf x=some .free)/\∃ c,env.cells.lookup x=some c/\h.IsCell c (some u))
structure Cx.Ok (X:Cx):Prop where
 mod:Mod X.K X.mg X.base
 kind:X.env.scope.kind=.function
 glob:X.env.globals=U8
 blt:X.env.builtins=builtinsNs
 above:X.s₀.heap.objs.size<=X.env.locals
 inj:∀ x y c,X.env.cells.lookup x=some c->X.env.cells.lookup y=some c->x=y
 has:∀ x,(X.env.kindOf x=some .cell\/X.env.kindOf x=some .free)->∃ c,X.env.cells.lookup x=some c
 cab:∀ x c,X.fn x=true->X.env.cells.lookup x=some c->X.s₀.heap.objs.size<=c
 hd:X.calm=true->X.A.handled=none
 frames:X.A.frames=some X.stack
 stk:X.stack=X.outer\/(X.stack=X.env :: X.outer/\X.env.frame=some X.env.locals)
 exf:∀ b∈X.ex,b≠X.env.locals/\∀ x c,X.env.cells.lookup x=some c->c≠b
 bs:∀ b o,X.base.get? b=some o->X.s₀.heap.get? b=some o/\X.H₀ b=none
 bsz:X.base.objs.size<=X.s₀.heap.objs.size
 noex:∀ b o,X.base.get? b=some o->b ∉ X.ex
 exfs:∀ b∈X.ex,b ∉ X.fs
 funs:X.s₀.heap.FunFrames X.base X.outer
 frf:∀ b∈X.fs,X.H₀ b=none
structure Inv (X:Cx) (pins:List (Addr × Obj)) (σ:List (Option V)) (H:Hp) (s:Shared):Prop where
 ok:X.Ok
 os:s.os=X.s₀.os
 bare:AllBare s.gens
 base:Un X.fs X.ex X.H₀ H X.s₀.heap s.heap
 loc:∃ m,s.heap.Ns X.env.locals m/\∀ (i:Nat) (x:Str) (v:V),X.N[i]?=some x->σ[i]?=some (some v)->Vis X.env.scope x->∃ u,RelV v u/\Look X.env s.heap m x u
 cell:∀ x c,X.env.cells.lookup x=some c->∃ v,s.heap.IsCell c v
 free:H X.env.locals=none
 freeC:∀ x c,X.env.cells.lookup x=some c->H c=none
 pin:∀ p∈X.pn++pins,s.heap.get? p.1=some p.2/\H p.1=none/\p.1≠X.env.locals/\p.1 ∉ X.fs/\∀ v,p.2.data≠.cell v
 hok:HOk X.prog X.w H s.heap
 len:σ.length=X.N.length
section
variable {X:Cx} {pins:List (Addr × Obj)} {σ:List (Option V)} {H H':Hp} {s:Shared} {h':Heap}
theorem Cx.Ok.nofr (ok:X.Ok) {b:Addr} {o:Obj} (e:X.base.get? b=some o):b ∉ X.fs:=λhb=>by
 have:=(ok.funs.mem hb).1
 rw [e] at this; cases this
theorem Inv.bs (I:Inv X pins σ H s):∀ b o,X.base.get? b=some o->s.heap.get? b=some o/\H b=none:=λb o e =>
 ⟨I.base.keep b o (I.ok.bs b o e).1 (I.ok.bs b o e).2 (I.ok.nofr e) (I.ok.noex b o e),I.base.free b o (I.ok.bs b o e).1 (I.ok.bs b o e).2 (I.ok.noex b o e)⟩
theorem Inv.bk (I:Inv X pins σ H s):∀ b o,X.base.get? b=some o->s.heap.get? b=some o:=λb o e=>(I.bs b o e).1
theorem Inv.mod (I:Inv X pins σ H s):Mod X.K X.mg X.base:=I.ok.mod
theorem Inv.kIn (I:Inv X pins σ H s):X.K.In s.heap:=I.ok.mod.kin.keeps I.bk
theorem Inv.nolimit (I:Inv X pins σ H s):s.heap.NoLimit:=I.ok.mod.nolimit.keeps I.bk
theorem Inv.lt (I:Inv X pins σ H s):X.env.locals<s.heap.objs.size:=oq12 I.loc λ_ hn _=>hn.lt
theorem Inv.sz (I:Inv X pins σ H s):X.s₀.heap.objs.size<=s.heap.objs.size:=nz4 I.ok.above (nz5 I.lt)
theorem Inv.nofs (I:Inv X pins σ H s) {a:Addr} (h:s.heap.objs.size<=a):a ∉ X.fs:=λhb=>by
 refine oq02 (I.ok.funs.mem hb) λ_ zz=>oq12 zz λo ho _=>?_
 exact absurd (nz1 (X5 ho) (nz4 I.sz h)) (Q8 _)
theorem Inv.cne (I:Inv X pins σ H s):∀ x c,X.env.cells.lookup x=some c->c≠X.env.locals:=λx c e z=>by
 refine oq22 (I.cell x c e) λv o ho hd=>?_
 obtain ⟨m,⟨o',es,ep,ho',hd',_⟩,_⟩:=I.loc
 rw [z,ho'] at ho; cases ho; rw [hd'] at hd; cases hd
theorem Inv.funs (I:Inv X pins σ H s):s.heap.FunFrames X.base X.outer:=by
 have all:∀ (l:List Env),(∀ b∈frs l,b∈X.fs)->X.s₀.heap.FunFrames X.base l->s.heap.FunFrames X.base l:=by
  intro l
  induction l with
  | nil=>intro _ _; trivial
  | cons env r ih =>
   intro hs hl
   obtain ⟨hk,⟨L,o,hf,hn,ho,hd⟩,hr⟩:=hl
   have hL:L∈X.fs:=hs L (by unfold frs; rw [List.filterMap_cons,hf]; exact W6)
   refine oq11 (I.base.slot L o ho (I.ok.frf L hL) hL λz=>I.ok.exfs L z hL) λsl e=>?_
   exact ⟨hk,⟨L,_,hf,hn,e,hd⟩,ih (λb hb=>hs b (by unfold frs; rw [List.filterMap_cons,hf]; exact X6 _ hb)) hr⟩
 exact all X.outer (λ_ hb=>hb) I.ok.funs
theorem Inv.stack (I:Inv X pins σ H s):s.heap.FunFrames X.base X.stack:=by
 rcases I.ok.stk with e | ⟨e,hf⟩
 ·rw [e]; exact I.funs
 ·rw [e]
  refine oq12 I.loc λm hn _=>?_
  refine .cons (by rw [I.ok.kind]; decide) hf hn ?_ I.funs
  exact Heap.get?_none_of_le (nz4 I.ok.bsz I.ok.above)
theorem Inv.stkSub (I:Inv X pins σ H s):∀ b∈frs X.stack,b∈X.env.locals :: X.fs:=λb hb=>by
 rcases I.ok.stk with e | ⟨e,hf⟩
 ·rw [e] at hb; exact X6 _ hb
 ·rw [e] at hb
  unfold frs at hb
  rw [List.filterMap_cons,hf] at hb
  exact hb
theorem Inv.stkFree (I:Inv X pins σ H s):∀ b∈frs X.stack,H b=none:=λb hb=>by
 rcases Y4.mp (I.stkSub b hb) with e | hb
 ·rw [e]; exact I.free
 ·refine oq02 (I.ok.funs.mem hb) λ_ zz=>oq12 zz λo ho _=>?_
  exact I.base.free b o ho (I.ok.frf b hb) λz=>I.ok.exfs b z hb
theorem Inv.step {g':Array GenState} {t':Nat} {d':Drawn} {ch:List Addr} (I:Inv X pins σ H s)
  (hch:∀ b∈ch,(b∈X.ex\/X.s₀.heap.objs.size<=b)/\b≠X.env.locals/\(∀ x c,X.env.cells.lookup x=some c->c≠b)/\∀ p∈X.pn++pins,p.1≠b)
  (keep:∀ b o,b≠X.env.locals->b ∉ X.fs->b ∉ ch->s.heap.get? b=some o->H b=none->h'.get? b=some o)
  (slot:∀ b o,b≠X.env.locals->b∈X.fs->b ∉ ch->s.heap.get? b=some o->H b=none->∃ sl,h'.get? b=some { o with slots:=sl }) (free:∀ b o,b ∉ ch->s.heap.get? b=some o->H b=none->H' b=none)
  (there:∀ b o,b ∉ ch->s.heap.get? b=some o->∃ o',h'.get? b=some o')
  (tups:∀ b xs,H b=some (.tup xs)->H' b=some (.tup xs)) (frzs:∀ b o u,H b=some (.frz o u)->H' b=some (.frz o u)) (tbls:∀ b ps,H b=some (.tbl ps)->∃ more,H' b=some (.tbl (ps++more)))
  (ns:∀ m,s.heap.Ns X.env.locals m->h'.Ns X.env.locals m) (hok:HOk X.prog X.w H' h') (hg:AllBare g') :
  Inv X pins σ H' { s with heap:=h',gens:=g',drawn:=d',toks:=t' }:=by
 have neL:∀ b o,X.s₀.heap.get? b=some o->b≠X.env.locals:=λb o e=>nz7 (nz1 (X5 e) I.ok.above)
 have neC:∀ b o,X.s₀.heap.get? b=some o->b ∉ X.ex->b ∉ ch:=λb o e hx hb=>by
  rcases (hch b hb).1 with z | z
  ·exact hx z
  ·exact absurd (nz1 (X5 e) z) (Q8 _)
 have cellK:∀ x c,X.env.cells.lookup x=some c->∀ v,s.heap.IsCell c v->h'.IsCell c v:=λx c e v zq=>oq12 zq λo ho hd=>by
  have nch:c ∉ ch:=λz=>(hch c z).2.2.1 x c e rfl
  by_cases hc:c∈X.fs
  ·refine oq11 (slot c o (I.cne x c e) hc nch ho (I.freeC x c e)) λsl q=>?_
   exact ⟨_,q,hd⟩
  ·exact ⟨o,keep c o (I.cne x c e) hc nch ho (I.freeC x c e),hd⟩
 refine ⟨I.ok,I.os,hg,⟨λb o e n hb hx=>?_,λb o e n hb hx=>?_,λb o e n hx=>?_,λb o e hx=>?_,λb xs e=>tups b xs (I.base.tups b xs e),λb o xs e=>frzs b o xs (I.base.frzs b o xs e),λb ps e=>?_⟩,?_,λx c e=>?_,?_,λx c e=>?_,λp hp=>?_,hok,I.len⟩
 ·exact keep b o (neL b o e) hb (neC b o e hx) (I.base.keep b o e n hb hx) (I.base.free b o e n hx)
 ·refine oq11 (I.base.slot b o e n hb hx) λsl e1=>?_
  refine oq11 (slot b _ (neL b o e) hb (neC b o e hx) e1 (I.base.free b o e n hx)) λsl' e2=>?_
  exact ⟨sl',e2⟩
 ·refine oq11 (I.base.there b o e hx) λo' e1=>?_
  exact free b o' (neC b o e hx) e1 (I.base.free b o e n hx)
 ·refine oq11 (I.base.there b o e hx) λo' e1=>?_
  exact there b o' (neC b o e hx) e1
 ·refine oq11 (I.base.tbls b ps e) λm1 e1=>?_
  refine oq11 (tbls b _ e1) λm2 e2=>?_
  exact ⟨m1++m2,by rw [e2,Array.append_assoc]⟩
 ·refine oq12 I.loc λm hn hl=>?_
  refine ⟨m,ns m hn,λi x v e1 e2 e3=>?_⟩
  refine oq12 (hl i x v e1 e2 e3) λu r l=>?_
  refine ⟨u,r,?_⟩
  rcases l with l | ⟨k,c,e,z⟩
  ·exact .inl l
  ·exact .inr ⟨k,c,e,cellK x c e _ z⟩
 ·refine oq11 (I.cell x c e) λv z=>?_
  exact ⟨v,cellK x c e v z⟩
 ·obtain ⟨m,⟨o,_,_,ho,_⟩,_⟩:=I.loc
  exact free _ o (λz=>(hch _ z).2.1 rfl) ho I.free
 ·refine oq22 (I.cell x c e) λv o ho hd=>?_
  exact free c o (λz=>(hch c z).2.2.1 x c e rfl) ho (I.freeC x c e)
 ·refine oq05 (I.pin p hp) λe n ne nf d=>?_
  have nch:p.1 ∉ ch:=λz=>(hch p.1 z).2.2.2 p hp rfl
  exact ⟨keep p.1 p.2 ne nf nch e n,free p.1 p.2 nch e n,ne,nf,d⟩
theorem Inv.un {t':Nat} (I:Inv X pins σ H s) (u:Un X.fs [] H H' s.heap h') (hok:HOk X.prog X.w H' h'):Inv X pins σ H' { s with heap:=h',toks:=t' }:=by
 obtain ⟨m,⟨o,es,ep,ho,r⟩,_⟩:=id I.loc
 refine oq11 (u.any ho I.free (by simp)) λsl hL=>?_
 exact I.step (g':=s.gens) (d':=s.drawn) (ch:=[]) (λ_ z=>nomatch z) (λb o _ hb _ e n=>u.keep b o e n hb (by simp)) (λb o _ hb _ e n=>u.slot b o e n hb (by simp)) (λb o _ e n=>u.free b o e n (by simp)) (λb o _ e=>u.there b o e (by simp)) u.tups u.frzs u.tbls (λm' hm=>by
  refine oq32 hm λo' es' ep' ho' r'=>?_
  rw [ho] at ho'; cases ho'
  exact ⟨_,es',ep',hL,r'⟩) hok I.bare
theorem Inv.call {g':Array GenState} {t':Nat} {d':Drawn} {ch:List Addr} (I:Inv X pins σ H s) (u:Un (frs X.stack) ch H H' s.heap h') (hok:HOk X.prog X.w H' h') (hg:AllBare g')
  (hch:∀ b∈ch,(b∈X.ex\/X.s₀.heap.objs.size<=b)/\b≠X.env.locals/\(∀ x c,X.env.cells.lookup x=some c->c≠b)/\∀ p∈X.pn++pins,p.1≠b) :
  Inv X pins σ H' { s with heap:=h',gens:=g',drawn:=d',toks:=t' }:=by
 obtain ⟨m,⟨o,es,ep,ho,r⟩,_⟩:=id I.loc
 refine oq11 (u.any ho I.free λz=>(hch _ z).2.1 rfl) λsl hL=>?_
 exact I.step (ch:=ch) hch (λb o hL hb hc e n=>u.keep b o e n (λz=>(Y4.mp (I.stkSub b z)).elim hL hb) hc) (λb o _ _ hc e n=>u.any e n hc) (λb o hc e n=>u.free b o e n hc) (λb o hc e=>u.there b o e hc) u.tups u.frzs u.tbls (λm' hm=>by
  refine oq32 hm λo' es' ep' ho' r'=>?_
  rw [ho] at ho'; cases ho'
  exact ⟨_,es',ep',hL,r'⟩) hok hg
theorem Inv.turned {t':Nat} {it:Addr} (I:Inv X pins σ H s) (k:∀ b o,b≠it->s.heap.get? b=some o->h'.get? b=some o) (hn:H it=none) (hL:it≠X.env.locals)
  (h1:it∈X.ex\/X.s₀.heap.objs.size<=it) (h2:∀ x c,X.env.cells.lookup x=some c->c≠it) (h3:∀ p∈X.pn++pins,p.1≠it):Inv X pins σ H { s with heap:=h',toks:=t' }:=by
 have nit:∀ b u,H b=some u->b≠it:=λb u e z=>by rw [z,hn] at e; cases e
 refine I.step (g':=s.gens) (d':=s.drawn) (ch:=[it]) (λb hb=>?_) (λb o _ _ hc e _=>k b o (λz=>hc (by simp [z])) e) (λb o _ _ hc e _=>⟨o.slots,k b o (λz=>hc (by simp [z])) e⟩) (λ_ _ _ _ n=>n)
  (λb o hc e=>⟨o,k b o (λz=>hc (by simp [z])) e⟩) (λ_ _ e=>e) (λ_ _ _ e=>e) (λb ps e=>⟨#[],by rw [e]; simp⟩) (λm hm=>?_) (λb u e=>?_) I.bare
 ·have e:b=it:=by simpa using hb
  subst e
  exact ⟨h1,hL,h2,h3⟩
 ·refine oq32 hm λo es ep ho r=>?_
  exact ⟨o,es,ep,k _ o (R5 hL) ho,r⟩
 ·refine (I.hok b u e).stay (λc v hc q=>k c v ?_ q) (λ_ q=>q) λ_ _ q=>q
  rcases hc with z | z
  ·rw [z]; exact nit b u e
  ·exact nit c _ z
theorem Inv.tok (I:Inv X pins σ H s) (t:Nat):Inv X pins σ H { s with toks:=t }:=I.un (h':=s.heap) (t':=t) Un.refl I.hok
theorem Inv.kept {t':Nat} (I:Inv X pins σ H s) (k:∀ b u,s.heap.get? b=some u->h'.get? b=some u):Inv X pins σ H { s with heap:=h',toks:=t' }:=I.un (Un.kept k) (I.hok.kept k)
theorem Inv.laid {a:Addr} {o:HO} {t':Nat} (I:Inv X pins σ H s) (k:∀ b u,s.heap.get? b=some u->h'.get? b=some u) (hp:s.heap.objs.size<=a) (new:aS X.prog X.w (upd H a o) h' a o) :
  Inv X pins σ (upd H a o) { s with heap:=h',toks:=t' }:=I.un (Un.laid k hp (I.hok.fresh hp)) (I.hok.laid k hp new)
theorem Inv.write {x e:Addr} {o:HO} {t':Nat} (I:Inv X pins σ H s) (mu:Mut (H x)) (he:e=x\/H e=some (.own x)) (k:∀ b u,b≠e->s.heap.get? b=some u->h'.get? b=some u) (heo:∃ u,h'.get? e=some u)
  (new:aS X.prog X.w (upd H x o) h' x o):Inv X pins σ (upd H x o) { s with heap:=h',toks:=t' }:=I.un (Un.write mu he k heo) (I.hok.write mu he k heo new)
theorem Inv.weak {σ':List (Option V)} (I:Inv X pins σ H s) (hl:σ'.length=σ.length) (w:∀ (i:Nat) v,σ'[i]?=some (some v)->σ[i]?=some (some v)):Inv X pins σ' H s :=
 ⟨I.ok,I.os,I.bare,I.base,oq12 I.loc λm hn hl'=>⟨m,hn,λi x v e1 e2 e3=>hl' i x v e1 (w i v e2) e3⟩,I.cell,I.free,I.freeC,I.pin,I.hok,hl.trans I.len⟩
theorem Inv.pins_of {pins':List (Addr × Obj)} (I:Inv X pins σ H s) (h:∀ p∈pins',s.heap.get? p.1=some p.2/\H p.1=none/\p.1≠X.env.locals/\p.1 ∉ X.fs/\∀ v,p.2.data≠.cell v):Inv X pins' σ H s :=
 ⟨I.ok,I.os,I.bare,I.base,I.loc,I.cell,I.free,I.freeC,λp hp=>(W9.mp hp).elim (λz=>I.pin p (U0 _ z)) (h p),I.hok,I.len⟩
theorem o4 {N:List Str} (hN:N.Nodup) {i j:Nat} {x:Str} (a:N[i]?=some x) (b:N[j]?=some x):i=j:=by
 obtain ⟨h1,e1⟩:=Z4.mp a
 obtain ⟨h2,e2⟩:=Z4.mp b
 exact (List.getElem_inj hN).mp (e1.trans e2.symm)
theorem lw {M:Model} {A:Around} {E:Value->Shared->Prop} {i:Nat} {x:Str} {v:V} {u:Value} {Q:Unit->Shared->Prop} (I:Inv X pins σ H s) (hN:X.N.Nodup) (hi:X.N[i]?=some x) (hx:Loc X.env.scope x) (r:RelV v u)
  (h:∀ s',Inv X pins (σ.set i (some v)) H s'->(∃ a,S8 a s.heap s'.heap/\(a=X.env.locals\/X.env.cells.lookup x=some a))->Q () s') (hf:X.fn x=true\/X.env.scope.names.lookup x=some .local:=by first | exact .inl rfl | exact .inr rfl | assumption):wpAny M A (storeName X.env x u) Q E s:=by
 refine oq12 (id I.loc) λm hn hl=>?_
 have hcls:(X.env.scope.kind == .class || (X.env.scope.kind == .module && X.env.locals != X.env.globals))=false:=by rw [I.ok.kind]; rfl
 have hiσ:i<σ.length:=by rw [I.len]; exact (Z4.mp hi).1
 have cne:=I.cne
 have tracked:∀ {a:Addr} {h':Heap},(∃ o,s.heap.get? a=some o/\H a=none)->S8 a s.heap h'->HOk X.prog X.w H h':=λ{a h'} ha hs b ob e=>by
  refine oq12 ha λ_ _ hfree=>?_
  refine (I.hok b ob e).stay (λc w' hc q=>(hs.2 c ?_).trans q) (λ_ q=>q) λ_ _ q=>q
  rintro rfl
  rcases hc with rfl | hc
  ·rw [hfree] at e; cases e
  ·rw [hfree] at hc; cases hc
 rcases hx with hk | hk
 ·refine wpAny_storeName_local hk hn (λh' hn' hs=>?_) hcls
  refine oq32 (id hn) λoL _ _ hoL _=>?_
  refine h _ ⟨I.ok,I.os,I.bare,⟨λb o e n hb hx=>?_,λb o e n hb hx=>?_,I.base.free,λb o e hx=>?_,I.base.tups,I.base.frzs,I.base.tbls⟩,⟨_,hn',λj y v' e1 e2 e3=>?_⟩,λy c e=>?_,I.free,I.freeC,λp hp=>?_,tracked ⟨oL,hoL,I.free⟩ hs,by simpa using I.len⟩ ⟨_,hs,.inl rfl⟩
  ·exact (hs.2 b (nz7 (nz1 (X5 e) I.ok.above))).trans (I.base.keep b o e n hb hx)
  ·refine oq11 (I.base.slot b o e n hb hx) λsl e1=>?_
   exact ⟨sl,(hs.2 b (nz7 (nz1 (X5 e) I.ok.above))).trans e1⟩
  ·refine oq11 (I.base.there b o e hx) λo' e1=>?_
   exact ⟨o',(hs.2 b (nz7 (nz1 (X5 e) I.ok.above))).trans e1⟩
  ·by_cases hj:j=i
   ·subst hj
    rw [hi] at e1; cases e1
    rw [C0 hiσ] at e2
    cases e2
    exact ⟨u,r,.inl ⟨hk,by simp⟩⟩
   ·rw [A8 (R5 hj)] at e2
    refine oq12 (hl j y v' e1 e2 e3) λu' r' q=>?_
    refine ⟨u',r',?_⟩
    rcases q with ⟨k,e⟩ | ⟨k,c,e,z⟩
    ·refine .inl ⟨k,?_⟩
     have:y≠x:=λe=>hj (o4 hN e1 (e ▸ hi))
     simp [this,e]
    ·exact .inr ⟨k,c,e,z.sameBut hs (cne y c e)⟩
  ·refine oq11 (I.cell y c e) λw' z=>?_
   exact ⟨w',z.sameBut hs (cne y c e)⟩
  ·refine oq05 (I.pin p hp) λe n ne nf d=>?_
   exact ⟨(hs.2 p.1 ne).trans e,n,ne,nf,d⟩
 ·have hfn:X.fn x=true:=by
   rcases hf with z | z
   ·exact z
   ·rw [z] at hk; cases hk
  refine oq11 (I.ok.has x (.inl hk)) λc hc=>?_
  refine oq11 (I.cell x c hc) λw' z=>?_
  refine wpAny_storeName_cell I.ok.kind hk hc z (λh' hc' hs=>?_)
  refine oq12 (id z) λoc hoc hocd=>?_
  refine h { s with heap:=h' } ⟨I.ok,I.os,I.bare,⟨λb o e n hb hx=>?_,λb o e n hb hx=>?_,I.base.free,λb o e hx=>?_,I.base.tups,I.base.frzs,I.base.tbls⟩,⟨m,hn.sameBut hs (R5 (cne x c hc)),λj y v' e1 e2 e3=>?_⟩,λy c' e=>?_,I.free,I.freeC,λp hp=>?_,tracked ⟨oc,hoc,I.freeC x c hc⟩ hs,by simpa using I.len⟩ ⟨c,hs,.inr hc⟩
  ·exact (hs.2 b (nz7 (nz1 (X5 e) (I.ok.cab x c hfn hc)))).trans (I.base.keep b o e n hb hx)
  ·refine oq11 (I.base.slot b o e n hb hx) λsl e1=>?_
   exact ⟨sl,(hs.2 b (nz7 (nz1 (X5 e) (I.ok.cab x c hfn hc)))).trans e1⟩
  ·refine oq11 (I.base.there b o e hx) λo' e1=>?_
   exact ⟨o',(hs.2 b (nz7 (nz1 (X5 e) (I.ok.cab x c hfn hc)))).trans e1⟩
  ·by_cases hj:j=i
   ·subst hj
    rw [hi] at e1; cases e1
    rw [C0 hiσ] at e2
    cases e2
    exact ⟨u,r,.inr ⟨.inl hk,c,hc,hc'⟩⟩
   ·rw [A8 (R5 hj)] at e2
    refine oq12 (hl j y v' e1 e2 e3) λu' r' q=>?_
    refine ⟨u',r',?_⟩
    rcases q with q | ⟨k,c',e,z'⟩
    ·exact .inl q
    ·refine .inr ⟨k,c',e,z'.sameBut hs ?_⟩
     rintro rfl
     exact hj (o4 hN e1 (I.ok.inj _ _ _ e hc ▸ hi))
  ·by_cases hcc:c'=c
   ·subst hcc; exact ⟨_,hc'⟩
   ·refine oq11 (I.cell y c' e) λw2 z2=>?_
    exact ⟨w2,z2.sameBut hs hcc⟩
  ·refine oq05 (I.pin p hp) λe n ne nf d=>?_
   refine ⟨(hs.2 p.1 ?_).trans e,n,ne,nf,d⟩
   intro q
   rw [q,hoc] at e
   have q':oc=p.2:=Z7 e
   exact d w' (by rw [<- q']; exact hocd)
theorem o5 {M:Model} {A:Around} {E:Value->Shared->Prop} {i:Nat} {x:Str} {v:V} {u:Value} {Q:Unit->Shared->Prop} (I:Inv X pins σ H s) (hN:X.N.Nodup) (hi:X.N[i]?=some x) (hx:Loc X.env.scope x) (r:RelV v u)
  (h:∀ s',Inv X pins (σ.set i (some v)) H s'->Q () s') (hf:X.fn x=true\/X.env.scope.names.lookup x=some .local:=by first | exact .inl rfl | exact .inr rfl | assumption):wpAny M A (storeName X.env x u) Q E s :=
 lw I hN hi hx r (λs' I' _=>h s' I') hf
theorem Inv.call' {s':Shared} {ch:List Addr} (I:Inv X pins σ H s) (ho:s'.os=s.os) (u:Un (frs X.stack) ch H H' s.heap s'.heap) (hok:HOk X.prog X.w H' s'.heap) (hg:AllBare s'.gens)
  (hch:∀ b∈ch,(b∈X.ex\/X.s₀.heap.objs.size<=b)/\b≠X.env.locals/\(∀ x c,X.env.cells.lookup x=some c->c≠b)/\∀ p∈X.pn++pins,p.1≠b):Inv X pins σ H' s':=by
 obtain ⟨h',g',d',t',o'⟩:=s'
 have e:o'=s.os:=ho
 subst e
 exact I.call (g':=g') (t':=t') (d':=d') u hok hg hch
end
noncomputable abbrev XK:=Value->Option Addr->Hp->Prop
noncomputable abbrev St:=List (Option V)
noncomputable abbrev VK:=V->Hp->Prop
noncomputable abbrev TE:=St->Hp->VK->Prop
noncomputable abbrev TT:=St->Hp->(Bool->Hp->Prop)->Prop
noncomputable abbrev TA:=St->Hp->(List V->Hp->Prop)->Prop
structure Ends where
 nx:St->Hp->Prop
 rt:VK
 bk:St->Hp->Prop:=λ_ _=>False
 ct:St->Hp->Prop:=λ_ _=>False
noncomputable abbrev TS:=Ends->St->Hp->Prop
def EP (X:Cx) (pins:List (Addr × Obj)) (σ:St) (Q:VK) (u:Value) (s':Shared):Prop:=∃ v H',Inv X pins σ H' s'/\RelV v u/\Q v H'
def TP (X:Cx) (pins:List (Addr × Obj)) (σ:St) (Q:Bool->Hp->Prop) (b:Bool) (s':Shared):Prop:=∃ H',Inv X pins σ H' s'/\Q b H'
def AP (X:Cx) (pins:List (Addr × Obj)) (σ:St) (Q:List V->Hp->Prop) (us:List Value) (s':Shared):Prop:=∃ vs H',Inv X pins σ H' s'/\Vals vs us/\Q vs H'
noncomputable def SP (X:Cx) (pins:List (Addr × Obj)) (D:Ends) (f:Flow) (s':Shared):Prop :=
 match f with
 | .next=>∃ σ' H',Inv X pins σ' H' s'/\D.nx σ' H'
 | .brk=>∃ σ' H',Inv X pins σ' H' s'/\D.bk σ' H'
 | .cont=>∃ σ' H',Inv X pins σ' H' s'/\D.ct σ' H'
 | .ret u=>∃ v σ' H',Inv X pins σ' H' s'/\RelV v u/\D.rt v H'
noncomputable def PE (X:Cx) (e:Expr) (t:TE):Prop :=
 ∀ (pins:List (Addr × Obj)) (s:Shared) (σ:St) (H:Hp) (Q:VK),Inv X pins σ H s->t σ H Q->wpAny (model X.prog X.w) X.A (eval e X.env) (EP X pins σ Q) X.xe s
noncomputable def PT (X:Cx) (e:Expr) (t:TT):Prop :=
 ∀ (pins:List (Addr × Obj)) (s:Shared) (σ:St) (H:Hp) (Q:Bool->Hp->Prop),Inv X pins σ H s->t σ H Q->wpAny (model X.prog X.w) X.A (isTrue e X.env (eval e X.env)) (TP X pins σ Q) X.xe s
noncomputable def PW (X:Cx) (e:Expr) (t:TT):Prop :=
 ∀ (whole:Sem Value) (pins:List (Addr × Obj)) (s:Shared) (σ:St) (H:Hp) (Q:Bool->Hp->Prop),Inv X pins σ H s->t σ H Q->wpAny (model X.prog X.w) X.A (isTrue e X.env whole) (TP X pins σ Q) X.xe s
theorem PW.pt {X:Cx} {e:Expr} {t:TT} (h:PW X e t):PT X e t:=h _
noncomputable def PA (X:Cx) (es:List Expr) (t:TA):Prop :=
 ∀ (pos:Pos) (pins:List (Addr × Obj)) (s:Shared) (σ:St) (H:Hp) (Q:List V->Hp->Prop),Inv X pins σ H s->t σ H Q->wpAny (model X.prog X.w) X.A (spliced (backTo pos (V4 es X.env))) (AP X pins σ Q) X.xe s
noncomputable def PS (X:Cx) (st:Stmt) (t:TS):Prop :=
 ∀ (pins:List (Addr × Obj)) (s:Shared) (σ:St) (H:Hp) (D:Ends),Inv X pins σ H s->t D σ H->wpAny (model X.prog X.w) X.A (exec st X.env) (SP X pins D) X.xe s
noncomputable def PSs (X:Cx) (st:List Stmt) (t:TS):Prop :=
 ∀ (pins:List (Addr × Obj)) (s:Shared) (σ:St) (H:Hp) (D:Ends),Inv X pins σ H s->t D σ H->wpAny (model X.prog X.w) X.A (execs st X.env) (SP X pins D) X.xe s
theorem thn {α:Type} {t:Sem α} {Q Q':α->Shared->Prop} {M:Model} {A:Around} {E:Value->Shared->Prop} {s:Shared} (h:wpAny M A t Q E s) (hQ:∀ a s,Q a s->Q' a s):wpAny M A t Q' E s:=T4 h hQ λ_ _ x=>x
end L2
namespace L2
open PySem PySem.Spec PyProof.Rows
section
variable {X:Cx}
def tVar (i:Nat):TE:=λσ H Q=>∃ v,σ[i]?=some (some v)/\Q v H
def tC (v:V):TE:=λ_ H Q=>Q v H
theorem pe_var {i:Nat} {x:Str} {pos:Pos} (hN:X.N[i]?=some x) (hv:Vis X.env.scope x) (hd:autoParam ((x == ("__debug__":Str))=false) L2.a0q._auto_1) (hcd:autoParam ((x == ("__classdict__":Str))=false) L2.a0q._auto_1):PE X (.Name x pos) (tVar i):=by
 intro pins s σ H Q I h
 refine oq12 h λv e h=>?_
 refine oq12 I.loc λm hn hl=>?_
 refine oq12 (hl i x v hN e hv) λu r l=>?_
 have fin:EP X pins σ Q u s:=⟨v,H,I,r,h⟩
 rcases l with ⟨hk,hm⟩ | ⟨hk,c,hc,hcell⟩
 ·exact wpAny_Name (wpAny_loadName_local I.ok.kind hk hn hm fin) hd
 ·rcases hk with hk | hk
  ·exact wpAny_Name (wpAny_loadName_cell I.ok.kind hk hc hcell fin) hd
  ·exact wpAny_Name (wpAny_loadName_free I.ok.kind hk hc hcell fin hcd) hd
theorem ag {i j pos}:PE X (.Constant (.int i) j pos) (tC (.int i)):=λ_ _ _ H _ I h=>wpAny_Constant_int ⟨.int i,H,I.tok _,⟨_,rfl⟩,h⟩
theorem pe_bl {b j pos}:PE X (.Constant (.bool b) j pos) (tC (.bl b)):=λ_ _ _ H _ I h=>Constant_bool ⟨.bl b,H,I,rfl,h⟩
theorem qy {j pos}:PE X (.Constant .none j pos) (tC .non):=λ_ _ _ H _ I h=>Constant_none ⟨.non,H,I,rfl,h⟩
theorem eE {x j pos}:PE X (.Constant (.str x) j pos) (tC (.str x)):=λ_ _ _ H _ I h=>Calls.Constant_str ⟨.str x,H,I.tok _,⟨_,rfl⟩,h⟩
def Gl (X:Cx) (x:Str):Prop:=X.env.kindOf x=some .globalImplicit
theorem me {E:Value->Shared->Prop} {pins:List (Addr × Obj)} {s:Shared} {σ:St} {H:Hp} {x:Str} {u:Value} {pos:Pos} {Q:Value->Shared->Prop} (I:Inv X pins σ H s) (hg:Gl X x) (hm:X.mg x=some u) (h:Q u s)
  (hd:autoParam ((x == ("__debug__":Str))=false) L2.a0q._auto_1):wpAny (model X.prog X.w) X.A (eval (.Name x pos) X.env) Q E s :=
 Calls.Name_function_global I.ok.kind hg (Calls.loadGlobal_global (by rw [I.ok.glob]; exact I.mod.glob.keeps I.bk) hm h) hd
theorem dN {E:Value->Shared->Prop} {pins:List (Addr × Obj)} {s:Shared} {σ:St} {H:Hp} {x:Str} {u:Value} {pos:Pos} {Q:Value->Shared->Prop} (I:Inv X pins σ H s) (hg:Gl X x) (hm:X.mg x=none) (hv:P0 x=some u) (h:Q u s)
  (hn:autoParam (x≠"__name__") L2.a0q._auto_1) (hd:autoParam ((x == ("__debug__":Str))=false) L2.a0q._auto_1):wpAny (model X.prog X.w) X.A (eval (.Name x pos) X.env) Q E s:=by
 refine oq12 I.mod.blt λmb h1 h2=>?_
 exact Calls.Name_function_global I.ok.kind hg (Calls.loadGlobal_builtin (by rw [I.ok.glob]; exact I.mod.glob.keeps I.bk) hm (by rw [I.ok.blt]; exact h1.keeps I.bk) ((h2 x hn).trans hv) h) hd
theorem pe_glob {x:Str} {v:V} {u:Value} {pos:Pos} (hg:Gl X x) (hm:X.mg x=some u) (r:RelV v u) (hd:autoParam ((x == ("__debug__":Str))=false) L2.a0q._auto_1):PE X (.Name x pos) (tC v) :=
 λ_ _ _ H _ I h=>me I hg hm ⟨v,H,I,r,h⟩ hd
theorem pe_bltn {x:Str} {v:V} {u:Value} {pos:Pos} (hg:Gl X x) (hm:X.mg x=none) (hv:P0 x=some u) (r:RelV v u) (hn:autoParam (x≠"__name__") L2.a0q._auto_1) (hd:autoParam ((x == ("__debug__":Str))=false) L2.a0q._auto_1):PE X (.Name x pos) (tC v) :=
 λ_ _ _ H _ I h=>dN I hg hm hv ⟨v,H,I,r,h⟩ hn hd
variable {a b:Expr} {ta tb:TE} {pos:Pos}
noncomputable def PC (X:Cx) (op:CmpOp) (a b:Expr) (t:TE):Prop :=
 ∀ (pins:List (Addr × Obj)) (s:Shared) (σ:St) (H:Hp) (Q:VK),Inv X pins σ H s->t σ H Q ->
  wpAny (model X.prog X.w) X.A (eval a X.env) (λv s₁=>wpAny (model X.prog X.w) X.A (eval b X.env) (λu s₂=>wpAny (model X.prog X.w) X.A (N5 op v u) (EP X pins σ Q) X.xe s₂) X.xe s₁) X.xe s
def tB (t:TE):TT:=λσ H Q=>t σ H λx H1=>∃ c,x=.bl c/\Q c H1
theorem pt_cmp {op:CmpOp} {t:TE} (h:PC X op a b t) (h1:behindInMarks op b=false:=by first | exact nobehind _ (by decide) (by decide) | rfl):PT X (.Compare a [op] [b] pos) (tB t):=by
 intro pins s σ H Q I hw
 refine wpAny_isTrue_Compare1 (thn (h pins s σ H _ I hw) λv s1 h1=>thn h1 λu s2 h2=>thn h2 λc s3 zq=>oq23 zq λx H1 I1 r1 q1=>?_) h1
 refine oq12 q1 λd eq1_ q=>?_; subst eq1_
 cases r1
 exact N9 ⟨H1,I1,q⟩
theorem qz {e:Expr} {t:TE} (h:PE X e t) (he:autoParam (∀ whole,isTrue e X.env whole=(do let v <- whole; standAt e.pos; holding [v] (truthy v))) L2.a1q._auto_1):PT X e (tB t):=by
 intro pins s σ H Q I hw
 refine isTrue_plain (thn (h pins s σ H _ I hw) λv s1 zq=>oq23 zq λx H1 I1 r1 q1=>?_) (he _)
 refine oq12 q1 λd eq1_ q=>?_; subst eq1_
 cases r1
 exact N9 ⟨H1,I1,q⟩
variable {tA tB':TT} {rest:List Expr}
def tAnd (t u:TT):TT:=λσ H Q=>t σ H λc H1=>if c=true then u σ H1 Q else Q false H1
def tOr (t u:TT):TT:=λσ H Q=>t σ H λc H1=>if c=true then Q true H1 else u σ H1 Q
def tNot (t:TT):TT:=λσ H Q=>t σ H λc H1=>Q (!c) H1
theorem mf (ha:PT X a tA):PW X (.BoolOp .And [a] pos) tA:=by
 intro wh pins s σ H Q I h
 refine isTrue_and (thn (ha pins s σ H Q I h) λc s1 e=>?_)
 cases c with
 | true=>exact isTrue_and_nil e
 | false=>exact e
theorem qA (ha:PT X a tA):PW X (.BoolOp .Or [a] pos) tA:=by
 intro wh pins s σ H Q I h
 refine isTrue_or (thn (ha pins s σ H Q I h) λc s1 e=>?_)
 cases c with
 | false=>exact isTrue_or_nil e
 | true=>exact e
theorem mi (ha:PT X a tA) (hb:PW X (.BoolOp .And (b :: rest) pos) tB'):PW X (.BoolOp .And (a :: b :: rest) pos) (tAnd tA tB'):=by
 intro wh pins s σ H Q I h
 refine isTrue_and (thn (ha pins s σ H _ I h) λc s1 zq=>oq12 zq λH1 I1 q1=>?_)
 cases c with
 | true=>exact hb wh pins s1 σ H1 Q I1 q1
 | false=>exact ⟨H1,I1,q1⟩
theorem pw_or (ha:PT X a tA) (hb:PW X (.BoolOp .Or (b :: rest) pos) tB'):PW X (.BoolOp .Or (a :: b :: rest) pos) (tOr tA tB'):=by
 intro wh pins s σ H Q I h
 refine isTrue_or (thn (ha pins s σ H _ I h) λc s1 zq=>oq12 zq λH1 I1 q1=>?_)
 cases c with
 | true=>exact ⟨H1,I1,q1⟩
 | false=>exact hb wh pins s1 σ H1 Q I1 q1
theorem qB (ha:PT X a tA):PT X (.UnaryOp .Not a pos) (tNot tA):=by
 intro pins s σ H Q I h
 exact isTrue_not (ha pins s σ H (λc H1=>Q (!c) H1) I h)
def tAndV (ta tb:TE):TE:=λσ H Q=>ta σ H λx H1=>∃ c,x=.bl c/\if c=true then tb σ H1 Q else Q (.bl false) H1
theorem pe_one {op} {t:TE} (h:PE X a t):PE X (.BoolOp op [a] pos) t:=λpins s σ H Q I hw=>BoolOp_one (h pins s σ H Q I hw)
theorem pe_and (ha:PE X a ta) (hb:PE X (.BoolOp .And (b :: rest) pos) tb):PE X (.BoolOp .And (a :: b :: rest) pos) (tAndV ta tb):=by
 intro pins s σ H Q I h
 refine BoolOp_and (thn (ha pins s σ H _ I h) λv s1 ⟨x,H1,I1,r1,q1⟩=>?_)
 obtain ⟨c,rfl,q1⟩:=q1
 cases r1
 refine N9 ?_
 cases c with
 | true=>exact hb pins s1 σ H1 Q I1 q1
 | false=>exact ⟨.bl false,H1,I1,rfl,q1⟩
def tIf (t:TT) (ta tb:TE):TE:=λσ H Q=>t σ H λc H1=>if c=true then ta σ H1 Q else tb σ H1 Q
theorem gK {c:Expr} (hc:PT X c tA) (ha:PE X a ta) (hb:PE X b tb):PE X (.IfExp c a b pos) (tIf tA ta tb):=by
 intro pins s σ H Q I h
 refine wpAny_IfExp (thn (hc pins s σ H _ I h) λd s1 zq=>oq12 zq λH1 I1 q1=>?_)
 cases d with
 | true=>exact ha pins s1 σ H1 Q I1 q1
 | false=>exact hb pins s1 σ H1 Q I1 q1
end
end L2
namespace L2
open PySem PySem.Spec PyProof.Rows
noncomputable def SqL (K:Z3) (H:Hp) (a:Addr) (xs:List V):Prop :=
 Rd H a (.lst xs) \/
  ∃ (o:Obj) (its:Array Value) (n:Nat),K.lookup a=some o/\o.cls=.type "list"/\o.dict=none/\o.data=.seq its n/\its.size<=V1/\Vals xs its.toList
noncomputable def SqT (K:Z3) (H:Hp) (a:Addr) (xs:List V):Prop :=
 Rd H a (.tup xs) \/
  ∃ (o:Obj) (its:Array Value) (n:Nat),K.lookup a=some o/\o.cls=.type "tuple"/\o.data=.seq its n/\its.size<=V1/\Vals xs its.toList
noncomputable def absV:Value->Option V
 | .none=>some .non
 | .bool b=>some (.bl b)
 | .int i _=>some (.int i)
 | .str x _=>some (.str x)
 | .bytes b _=>some (.byt b)
 | .float b _=>some (.flt b)
 | .ref a=>some (.ref a)
 | .type n=>some (.ty n)
 | _=>none
theorem RelV.abs {x:V} {u:Value} (r:RelV x u):absV u=some x:=by
 cases x with
 | non=>cases r; rfl
 | bl _=>cases r; rfl
 | int _=>refine oq11 r λt eq1_=>?_; subst eq1_; rfl
 | str _=>refine oq11 r λt eq1_=>?_; subst eq1_; rfl
 | byt _=>refine oq11 r λt eq1_=>?_; subst eq1_; rfl
 | flt _=>refine oq11 r λt eq1_=>?_; subst eq1_; rfl
 | ref _=>cases r; rfl
 | ty _=>cases r; rfl
theorem RelV.inj {x y:V} {u:Value} (r:RelV x u) (q:RelV y u):x=y:=Z7 (r.abs.symm.trans q.abs)
theorem Vals.inj:∀ {xs ys:List V} {us:List Value},Vals xs us->Vals ys us->xs=ys:=λ{xs ys us} p q=>by
 induction p generalizing ys with
 | nil=>cases q; rfl
 | cons r t ih =>
  cases q with
  | cons r' t'=>rw [r.inj r',ih t']
section
variable {X:Cx} {pins:List (Addr × Obj)} {σ:St} {H:Hp} {s:Shared} {a:Addr} {xs ys:List V}
theorem SqL.of {K:Z3} (h:H a=some (.lst xs)):SqL K H a xs:=.inl (.inl h)
theorem SqT.of {K:Z3} (h:H a=some (.tup xs)):SqT K H a xs:=.inl (.inl h)
theorem Inv.list (I:Inv X pins σ H s) (h:SqL X.K H a xs):∃ its:List Value,Vals xs its/\PlainL s.heap a its.toArray/\xs.length<=V1:=by
 rcases h with h | ⟨o,its,n,hk,hc,hd,hs,hz,r⟩
 ·refine oq02 (h.ok I.hok) λz zz=>oq22 zz λits n r e=>?_
  exact ⟨its,r,⟨_,n,e,rfl,rfl,rfl⟩,z⟩
 ·refine ⟨its.toList,r,⟨o,n,I.kIn a o hk,hc,hd,by simpa using hs⟩,?_⟩
  have e:=r.length
  simp only [V9] at e
  omega
theorem Inv.tuple (I:Inv X pins σ H s) (h:SqT X.K H a xs):∃ its:List Value,Vals xs its/\IsTup s.heap a its.toArray/\xs.length<=V1:=by
 rcases h with h | ⟨o,its,n,hk,hc,hs,hz,r⟩
 ·refine oq02 (h.ok I.hok) λz zz=>oq12 zz λits r p=>?_
  exact ⟨its,r,p,z⟩
 ·refine ⟨its.toList,r,⟨o,I.kIn a o hk,hc,n,by simpa using hs⟩,?_⟩
  have e:=r.length
  simp only [V9] at e
  omega
theorem Inv.list_inj (I:Inv X pins σ H s) (h:SqL X.K H a xs) (h':SqL X.K H a ys):xs=ys:=by
 obtain ⟨its,r,⟨o,n,e,_,_,d⟩,_⟩:=I.list h
 obtain ⟨its',r',⟨o',n',e',_,_,d'⟩,_⟩:=I.list h'
 rw [e] at e'; cases e'
 rw [d] at d'
 injection d' with d1 _
 have:its=its':=by simpa using congrArg Array.toList d1
 subst this
 exact r.inj r'
end
noncomputable abbrev Cx.wish (X:Cx) (E:Value->Shared->Prop):Cx:={ X with xe:=E }
noncomputable abbrev Cx.nox (X:Cx):Cx:=X.wish λ_ _=>False
theorem Cx.Ok.wish {X:Cx} (ok:X.Ok) (E:Value->Shared->Prop):(X.wish E).Ok :=
 ⟨ok.mod,ok.kind,ok.glob,ok.blt,ok.above,ok.inj,ok.has,ok.cab,ok.hd,ok.frames,ok.stk,ok.exf,ok.bs,ok.bsz,ok.noex,ok.exfs,ok.funs,ok.frf⟩
theorem Cx.Ok.unwish {X:Cx} {E:Value->Shared->Prop} (ok:(X.wish E).Ok):X.Ok :=
 ⟨ok.mod,ok.kind,ok.glob,ok.blt,ok.above,ok.inj,ok.has,ok.cab,ok.hd,ok.frames,ok.stk,ok.exf,ok.bs,ok.bsz,ok.noex,ok.exfs,ok.funs,ok.frf⟩
section
variable {X:Cx} {pins:List (Addr × Obj)} {σ:St} {H:Hp} {s:Shared} {E:Value->Shared->Prop}
theorem Inv.wish (I:Inv X pins σ H s) (E:Value->Shared->Prop):Inv (X.wish E) pins σ H s:=⟨I.ok.wish E,I.os,I.bare,I.base,I.loc,I.cell,I.free,I.freeC,I.pin,I.hok,I.len⟩
theorem Inv.unwish (I:Inv (X.wish E) pins σ H s):Inv X pins σ H s:=⟨I.ok.unwish,I.os,I.bare,I.base,I.loc,I.cell,I.free,I.freeC,I.pin,I.hok,I.len⟩
theorem SP.unwish {D:Ends} {f:Flow} {s':Shared} (h:SP (X.wish E) pins D f s'):SP X pins D f s':=by
 cases f with
 | next=>refine oq22 h λσ' H' I q=>?_; exact ⟨σ',H',I.unwish,q⟩
 | brk=>refine oq22 h λσ' H' I q=>?_; exact ⟨σ',H',I.unwish,q⟩
 | cont=>refine oq22 h λσ' H' I q=>?_; exact ⟨σ',H',I.unwish,q⟩
 | ret u=>refine oq33 h λv σ' H' I r q=>?_; exact ⟨v,σ',H',I.unwish,r,q⟩
theorem PSs.nox {st:List Stmt} {t:TS} (h:PSs X.nox st t):PSs X st t:=λpins s σ H D I hw =>
 T4 (h pins s σ H D (I.wish _) hw) (λ_ _ q=>q.unwish) λ_ _ z=>R9 z
end
section
variable {X:Cx} {st:Stmt} {rest:List Stmt} {t u:TS} {e:Expr} {te:TE} {pos:Pos}
def jx:TS:=λD σ H=>D.nx σ H
def tSeq (t u:TS):TS:=λD σ H=>t { D with nx:=u D } σ H
theorem bC:PSs X [] jx:=λ_ _ σ H _ I h=>wpAny_execs_nil ⟨σ,H,I,h⟩
theorem ae (h1:PS X st t) (h2:PSs X rest u):PSs X (st :: rest) (tSeq t u):=by
 intro pins s σ H D I h
 refine wpAny_execs_cons (thn (h1 pins s σ H { D with nx:=u D } I h) λf s1 q=>?_)
 cases f with
 | next =>
  refine oq22 q λσ' H' I' q=>?_
  exact h2 pins s1 σ' H' D I' q
 | ret v=>exact q
 | brk=>exact q
 | cont=>exact q
theorem ak (h1:PS X st t):PSs X [st] t:=by
 intro pins s σ H D I h
 refine wpAny_execs_cons (thn (h1 pins s σ H D I h) λf s1 q=>?_)
 cases f with
 | next=>exact wpAny_execs_nil q
 | ret v=>exact q
 | brk=>exact q
 | cont=>exact q
theorem Inv.quiet {pins:List (Addr × Obj)} {σ:St} {H:Hp} {s:Shared} (I:Inv X pins σ H s):interactive X.env=false:=by simp [interactive,I.ok.kind]
def tDrop (te:TE):TS:=λD σ H=>te σ H λ_ H1=>D.nx σ H1
theorem eG (he:PE X e te) (hs:autoParam (swapsWith e none pos.line X.env=pure false) L2.a2q._auto_1):PS X (.Expr e pos) (tDrop te):=by
 intro pins s σ H D I h
 exact wpAny_Expr_any (thn (he pins s σ H _ I h) λv s1 zq=>oq23 zq λx H1 I1 r1 q1=>⟨σ,H1,I1,q1⟩) I.quiet hs
def tRet (te:TE):TS:=λD σ H=>te σ H D.rt
theorem aB (he:PE X e te):PS X (.Return (some e) pos) (tRet te):=by
 intro pins s σ H D I h
 exact wpAny_Return_some (thn (he pins s σ H _ I h) λv s1 zq=>oq23 zq λx H1 I1 r1 q1=>⟨x,σ,H1,I1,r1,q1⟩)
def tIfS (c:TT) (t u:TS):TS:=λD σ H=>c σ H λb H1=>if b=true then t D σ H1 else u D σ H1
theorem de {c:Expr} {a b:List Stmt} {tc:TT} (hc:PT X c tc) (ha:PSs X a t) (hb:PSs X b u):PS X (.If c a b pos) (tIfS tc t u):=by
 intro pins s σ H D I h
 refine wpAny_If (thn (hc pins s σ H _ I h) λd s1 zq=>oq12 zq λH1 I1 q1=>?_)
 cases d with
 | true=>exact ha pins s1 σ H1 D I1 q1
 | false=>exact hb pins s1 σ H1 D I1 q1
end
noncomputable abbrev TG:=V->St->Hp->(St->Hp->Prop)->Prop
noncomputable abbrev TGs:=List V->St->Hp->(St->Hp->Prop)->Prop
noncomputable def PG (X:Cx) (target:Expr) (t:TG):Prop :=
 ∀ (pins:List (Addr × Obj)) (s:Shared) (σ:St) (H:Hp) (v:V) (u:Value) (Q:St->Hp->Prop),Inv X pins σ H s->RelV v u->t v σ H Q ->
  wpAny (model X.prog X.w) X.A (assign target X.env u) (λ_ s'=>∃ σ' H',Inv X pins σ' H' s'/\Q σ' H') X.xe s
noncomputable def PGs (X:Cx) (ts:List Expr) (t:TGs):Prop :=
 ∀ (pins:List (Addr × Obj)) (s:Shared) (σ:St) (H:Hp) (vs:List V) (us:List Value) (Q:St->Hp->Prop),Inv X pins σ H s->Vals vs us->t vs σ H Q ->
  wpAny (model X.prog X.w) X.A (assignInOrder ((assignEach ts X.env).map (·.2)) us) (λ_ s'=>∃ σ' H',Inv X pins σ' H' s'/\Q σ' H') X.xe s
noncomputable abbrev TSet:=V->V->V->Hp->(Hp->Prop)->Prop
noncomputable def PSet (X:Cx) (t:TSet):Prop :=
 ∀ (pins:List (Addr × Obj)) (s:Shared) (σ:St) (H:Hp) (o i v:V) (ov iv u:Value) (Q:Hp->Prop),Inv X pins σ H s->RelV o ov->RelV i iv->RelV v u->t o i v H Q ->
  wpAny (model X.prog X.w) X.A (setItem ov iv u) (λ_ s'=>∃ H',Inv X pins σ H' s'/\Q H') X.xe s
section
variable {X:Cx} {pos:Pos}
def gd (i:Nat):TG:=λv σ H Q=>Q (σ.set i (some v)) H
theorem ax {i:Nat} {x:Str} (hN:X.N.Nodup) (hi:X.N[i]?=some x) (hx:Loc X.env.scope x) (hf:X.fn x=true\/X.env.scope.names.lookup x=some .local:=by first | exact .inl rfl | exact .inr rfl | assumption):PG X (.Name x pos) (gd i):=by
 intro pins s σ H v u Q I r h
 exact wpAny_assign_Name (o5 I hN hi hx r (λs' I'=>⟨_,H,I',h⟩) hf)
noncomputable def gNil:TGs:=λvs σ H Q=>vs=[]/\Q σ H
noncomputable def gCons (t:TG) (u:TGs):TGs:=λvs σ H Q=>∃ v r,vs=v :: r/\t v σ H λσ' H'=>u r σ' H' Q
theorem fR:PGs X [] gNil:=by
 intro pins s σ H vs us Q I r h
 obtain ⟨e,h⟩:=h
 subst e
 cases r
 exact assignInOrder_nil ⟨σ,H,I,h⟩
theorem bF {e:Expr} {es:List Expr} {t:TG} {u:TGs} (h1:PG X e t) (h2:PGs X es u)
  (hs:autoParam ((assignEach (e :: es) X.env).map (·.2)=assign e X.env :: (assignEach es X.env).map (·.2)) L2.a2q._auto_1):PGs X (e :: es) (gCons t u):=by
 intro pins s σ H vs us Q I r h
 obtain ⟨v,vr,e1,h⟩:=h
 subst e1
 cases r with
 | cons r rr =>
  rw [hs]
  refine assignInOrder_cons (thn (h1 pins s σ H _ _ _ I r h) λ_ s1 ⟨σ1,H1,I1,q1⟩=>?_)
  exact h2 pins s1 σ1 H1 _ _ Q I1 rr q1
def gTup (K:Z3) (n:Nat) (t:TGs):TG:=λv σ H Q=>∃ a xs,v=.ref a/\SqT K H a xs/\xs.length=n/\t xs σ H Q
theorem pg_tup {es:List Expr} {k:Nat} {t:TGs} {n:Nat} (hc:X.calm=true) (h:PGs X es t)
  (hn:autoParam ((assignEach es X.env).length=n) L2.a2q._auto_1) (hst:autoParam ((assignEach es X.env).findIdx? (·.1)=none) L2.a2q._auto_1):PG X (.Tuple es k pos) (gTup X.K n t):=by
 intro pins s σ H v u Q I r hw
 obtain ⟨a,xs,e1,hq,hl,hw⟩:=hw
 subst e1
 cases r
 obtain ⟨its,rv,ht,hz⟩:=I.tuple hq
 refine assign_Tuple_tuple (I.ok.hd hc) ht (by simp [hn,<- hl,rv.length]) hst λh' hx=>?_
 have I1:Inv X pins σ H { s with heap:=h' }:=I.kept (t':=s.toks) λb o e=>hx b o (nz7 (X5 e)) e
 exact h pins _ σ H xs _ Q I1 (by simpa using rv) hw
def gSub (to ti:TE) (t:TSet):TG:=λv σ H Q=>to σ H λo H1=>ti σ H1 λi H2=>t o i v H2 λH3=>Q σ H3
theorem qC {o i:Expr} {to ti:TE} {t:TSet} (ho:PE X o to) (hi:PE X i ti) (hs:PSet X t)
  (ha:∀ v,assign (.Subscript o i pos) X.env v=(do
   let ov <- holding [v] (eval o X.env)
   let iv <- holding [v,ov] (eval i X.env)
   standAt pos
   holding [v,ov,iv] (setItem ov iv v)
   release [v,ov,iv] []):=by intro _; rfl):PG X (.Subscript o i pos) (gSub to ti t):=by
 intro pins s σ H v u Q I r h
 rw [ha]
 refine Z0 (Q0 (thn (ho pins s σ H _ I h) λov s1 zq=>oq23 zq λx H1 I1 r1 q1=>?_))
 refine Z0 (Q0 (thn (hi pins s1 σ H1 _ I1 q1) λiv s2 zq=>oq23 zq λy H2 I2 r2 q2=>?_))
 refine Z0 (wpAny_standAt (Z0 (Q0 (thn (hs pins s2 σ H2 x y v ov iv u _ I2 r1 r2 r q2) λ_ s3 zq=>oq12 zq λH3 I3 q3=>?_))))
 exact wpAny_release ⟨σ,H3,I3,q3⟩
def tAsg (te:TE) (g:TG):TS:=λD σ H=>te σ H λx H1=>g x σ H1 D.nx
theorem mj {tg e:Expr} {te:TE} {g:TG} (he:PE X e te) (hg:PG X tg g) (hs:autoParam (swapsWithSole [tg] e pos.line X.env=pure false) L2.a2q._auto_1) (hw:autoParam (swappedStores [tg] e X.env=pure none) L2.a2q._auto_1)
  (h1:autoParam ((assignEach [tg] X.env).map (·.2)=[assign tg X.env]) L2.a2q._auto_1):PS X (.Assign [tg] e pos) (tAsg te g):=by
 intro pins s σ H D I h
 refine wpAny_Assign_stores (thn (he pins s σ H _ I h) λv s1 zq=>oq23 zq λx H1 I1 r1 q1=>?_) hs hw
 rw [h1]
 exact thn (hg pins s1 σ H1 x v _ I1 r1 q1) λ_ s2 q=>q
theorem au {i:Nat} {x:Str} {e:Expr} {te:TE} {pos':Pos} (hN:X.N.Nodup) (hi:X.N[i]?=some x) (hx:Loc X.env.scope x) (he:PE X e te) (hs:autoParam (swapsWith e (some (.Name x pos')) pos.line X.env=pure false) L2.a2q._auto_1) (hf:X.fn x=true\/X.env.scope.names.lookup x=some .local:=by first | exact .inl rfl | exact .inr rfl | assumption) :
  PS X (.Assign [.Name x pos'] e pos) (tAsg te (gd i)):=by
 intro pins s σ H D I h
 refine wpAny_Assign_Name (thn (he pins s σ H _ I h) λv s1 zq=>oq23 zq λy H1 I1 r1 q1=>?_) hs
 exact o5 I1 hN hi hx r1 (λs2 I2=>⟨_,H1,I2,q1⟩) hf
end
section
variable {X:Cx} {pos:Pos}
def tWhile (c:TT) (tb:TS):TS:=λD σ H=>∃ W:Nat->St->Hp->Prop,(∃ m,W m σ H)/\∀ m σ H,W m σ H ->
 c σ H λb H1=>if b=true then ∃ N:St->Hp->Prop,(∀ σ' H',N σ' H'->∃ m',m'<m/\W m' σ' H')/\tb { D with nx:=N,ct:=N,bk:=D.nx } σ H1 else D.nx σ H1
theorem o6 {c:Expr} {body:List Stmt} {tc:TT} {tb:TS} (hp:PassesOwn (model X.prog X.w) X.A X.env X.xe) (hc:PT X c tc) (hb:PSs X body tb):PS X (.While c body [] pos) (tWhile tc tb):=by
 intro pins s σ H D I h
 obtain ⟨W,⟨m0,w0⟩,turn⟩:=h
 refine wpAny_While (codeAny_whileLoop (λn s'=>∃ σ' H',Inv X pins σ' H' s'/\W n σ' H') ?_ m0 ⟨σ,H,I,w0⟩)
 intro n s1 zq; refine oq22 zq λσ1 H1 I1 w1=>?_
 refine G1 hp (thn (hc pins s1 σ1 H1 _ I1 (turn n σ1 H1 w1)) λb s2 zq=>oq12 zq λH2 I2 q2=>?_)
 cases b with
 | true =>
  refine oq12 q2 λN hN q2=>?_
  rw [if_pos rfl]
  refine G1 hp (thn (hb pins s2 σ1 H2 _ I2 q2) λf s3 q3=>?_)
  cases f with
  | next =>
   refine oq22 q3 λσ3 H3 I3 n3=>?_
   refine oq12 (hN σ3 H3 n3) λm' hm w3=>?_
   exact ⟨m',hm,σ3,H3,I3,w3⟩
  | cont =>
   refine oq22 q3 λσ3 H3 I3 n3=>?_
   refine oq12 (hN σ3 H3 n3) λm' hm w3=>?_
   exact ⟨m',hm,σ3,H3,I3,w3⟩
  | brk=>exact q3
  | ret v=>exact q3
 | false =>
  rw [if_neg Z8]
  exact wpAny_execs_nil ⟨σ1,H2,I2,q2⟩
end
structure It where
 go:Nat->Hp->Prop
 yld:Nat->Hp->V->Hp->Prop
 stop:Nat->Hp->Prop
noncomputable def FpOk (X:Cx) (pins:List (Addr × Obj)) (H:Hp) (b:Addr):Prop :=
 H b=none/\b≠X.env.locals/\b ∉ X.fs/\(b∈X.ex\/X.s₀.heap.objs.size<=b)/\(∀ x c,X.env.cells.lookup x=some c->c≠b)/\∀ p∈X.pn++pins,p.1≠b
theorem Inv.fpOk {X:Cx} {pins:List (Addr × Obj)} {σ:St} {H H':Hp} {s:Shared} {b:Addr} (I:Inv X pins σ H s) (hb:s.heap.objs.size<=b) (hn:H' b=none):FpOk X pins H' b:=by
 refine ⟨hn,N2 (nz1 I.lt hb),I.nofs hb,.inr (nz4 I.sz hb),λx c e z=>?_,λp hp z=>?_⟩
 ·refine oq11 (I.cell x c e) λv q=>?_
  exact absurd (nz1 q.lt (by rw [z]; exact hb)) (Q8 _)
 ·exact absurd (nz1 (X5 (I.pin p hp).1) (by rw [z]; exact hb)) (Q8 _)
structure Turn (P:W5) (w:World) (K:Z3) (tg:Expr) (J:It) (fp:List Addr) (it:Addr) (tn:Nat->Heap->Prop):Prop where
 mem:it∈fp
 obj:∀ i h,tn i h->∀ b∈fp,∃ o,h.get? b=some o/\∀ v,o.data≠.cell v
 keep:∀ i h h',tn i h->(∀ b∈fp,∀ o,h.get? b=some o->h'.get? b=some o)->tn i h'
 item:∀ (X:Cx),X.prog=P->X.w=w->X.K=K->X.calm=true->∀ (i:Nat) (pins:List (Addr × Obj)) (s:Shared) (σ:St) (H:Hp) (E:Value->Shared->Prop),Inv X pins σ H s->(∀ b∈fp,FpOk X pins H b)->tn i s.heap->J.go i H ->
  wpAny (model P w) X.A (pyNext (.ref it)) (λr s1=>∃ u,r=some u /\
   wpAny (model P w) X.A (letOwnedTupleGo tg (.ref it) u) (λ_ s2=>∃ x H',Inv X pins σ H' s2/\RelV x u/\J.yld i H x H'/\tn (i+1) s2.heap/\∀ b∈fp,H' b=none) E s1) E s
 done:∀ (X:Cx),X.prog=P->X.w=w->X.K=K->X.calm=true->∀ (i:Nat) (pins:List (Addr × Obj)) (s:Shared) (σ:St) (H:Hp) (E:Value->Shared->Prop),Inv X pins σ H s->(∀ b∈fp,FpOk X pins H b)->tn i s.heap->J.stop i H ->
  wpAny (model P w) X.A (pyNext (.ref it)) (λr s1=>r=none/\Inv X pins σ H s1) E s
 self:∀ (A:Around) (i:Nat) (s:Shared) (Q:Value->Shared->Prop) (E:Value->Shared->Prop),tn i s.heap->Q (.ref it) s->wpAny (model P w) A (pyIter (.ref it)) Q E s
noncomputable abbrev TI:=St->Hp->(It->Hp->Prop)->Prop
noncomputable def PIE (X:Cx) (pins:List (Addr × Obj)) (σ:St) (tg:Expr) (R:It->Hp->Prop) (itv:Value) (s2:Shared):Prop :=
 ∃ (it:Addr) (fp:List Addr) (tn:Nat->Heap->Prop) (J:It) (H':Hp),itv=.ref it/\Inv X pins σ H' s2/\Turn X.prog X.w X.K tg J fp it tn/\tn 0 s2.heap/\(∀ b∈fp,FpOk X pins H' b)/\R J H'
noncomputable def PI (X:Cx) (tg iter:Expr) (wi:TI):Prop :=
 ∀ (pins:List (Addr × Obj)) (s:Shared) (σ:St) (H:Hp) (R:It->Hp->Prop),Inv X pins σ H s->wi σ H R ->
  wpAny (model X.prog X.w) X.A (eval iter X.env) (λv s1=>wpAny (model X.prog X.w) X.A (pyIter v) (PIE X pins σ tg R) X.xe s1) X.xe s
theorem go_of {M:Model} {A:Around} {E:Value->Shared->Prop} {s:Shared} {tg:Expr} {it:Addr} {u:Value} {o:Obj} {n:String} {vs:Array Value} {Q:Unit->Shared->Prop} (ho:s.heap.get? it=some o) (hc:o.cls=.type n) (hd:o.data=.fields vs)
    (hn:["enumerate","zip","dict_itemiterator","dict_reverseitemiterator","odict_iterator","itertools.zip_longest","itertools.pairwise"].contains n=false) (hQ:Q () s):wpAny M A (letOwnedTupleGo tg (.ref it) u) Q E s:=by
  unfold letOwnedTupleGo
  cases tg <;> first
    | exact Y0 hQ
    | (cases u <;> first
        | exact Y0 hQ
        | (refine Z0 (wpAny_load ho ?_)
           rw [hc,hd]
           show wpAny M A (if (["enumerate","zip","dict_itemiterator","dict_reverseitemiterator","odict_iterator","itertools.zip_longest","itertools.pairwise"].contains n && vs[0]? == some (rawInt _))=true then _ else _) Q E s
           rw [if_neg (by intro h; rw [hn,Bool.false_and] at h; cases h)]
           exact Y0 hQ))
noncomputable def Itl (K:Z3) (a:Addr):It :=
 ⟨λi H=>∃ xs x,SqL K H a xs/\xs[i]?=some x,λi H x H'=>H'=H/\∀ xs,SqL K H a xs->xs[i]?=some x,λi H=>∃ xs,SqL K H a xs/\xs.length<=i⟩
noncomputable def Itr (lo:Int) (n:Nat):It:=⟨λi _=>i<n,λi H x H'=>H'=H/\x=.int (lo+i),λi _=>n<=i⟩
theorem turn_list {P:W5} {w:World} {K:Z3} {tg:Expr} (a it:Addr):Turn P w K tg (Itl K a) [it] it (λi h=>h.IsListIter it a i) where
 mem:=by simp
 obj:=λi h st b hb=>by
  have e:b=it:=by simpa using hb
  subst e
  refine oq13 st λo e c d=>?_
  exact ⟨o,e,λv z=>by rw [d] at z; cases z⟩
 keep:=λi h h' st k=>st.at λo e=>k it (by simp) o e
 item:=by
  intro X hP hw hK hc i pins s σ H E I hf st hg
  subst hP hw hK
  refine oq22 hg λxs x hq hx=>?_
  refine oq13 (I.list hq) λits rv p hz=>?_
  refine oq12 (rv.get hx) λu hu ru=>?_
  refine oq06 (hf it (by simp)) λf0 f1 f2 f3 f4 f5=>?_
  refine wpAny_pyNext_list_item st p.isList (x:=u) (by simpa using hu) λh' st' sb=>?_
  have I1:Inv X pins σ H { s with heap:=h' }:=I.turned (t':=s.toks) (λb o hb e=>(sb.2 b hb).trans e) f0 f1 f3 f4 f5
  refine oq13 (id st') λo e c d=>?_
  exact ⟨u,rfl,go_of (s:={ s with heap:=h' }) e c d (by decide) ⟨x,H,I1,ru,⟨rfl,λys hy=>by rw [I.list_inj hy hq]; exact hx⟩,st',λb hb=>(hf b hb).1⟩⟩
 done:=by
  intro X hP hw hK hc i pins s σ H E I hf st hg
  subst hP hw hK
  refine oq12 hg λxs hq hx=>?_
  refine oq13 (I.list hq) λits rv p hz=>?_
  refine oq06 (hf it (by simp)) λf0 f1 f2 f3 f4 f5=>?_
  have hl:=rv.length
  exact wpAny_pyNext_list_end (I.ok.hd hc) st p.isList (by simp; omega) λh' eb=>⟨rfl,I.turned (t':=s.toks) (λb o hb e=>eb b o hb e) f0 f1 f3 f4 f5⟩
 self:=λ_ _ _ _ _ st h=>wpAny_pyIter_listiter st h
theorem qD {P:W5} {w:World} {K:Z3} {tg:Expr} (it:Addr) (lo:Int) (n:Nat):Turn P w K tg (Itr lo n) [it] it (λi h=>IsRangeIter h it (lo+(i:Nat) * 1) ((n:Int) - (i:Nat)) 1) where
 mem:=by simp
 obj:=λi h st b hb=>by
  have e:b=it:=by simpa using hb
  subst e
  exact ⟨_,st,λv z=>by
   have z':Data.fields _=Data.cell v:=z
   cases z'⟩
 keep:=λi h h' st k=>k it (by simp) _ st
 item:=by
  intro X hP hw hK hc i pins s σ H E I hf st hg
  subst hP hw hK
  refine oq06 (hf it (by simp)) λf0 f1 f2 f3 f4 f5=>?_
  have W:=Walks.range (prog:=X.prog) (w:=X.w) (I.ok.hd hc) it lo 1 n
  refine W.item i s _ _ hg st λv h' tk hv st' kk=>?_
  refine oq11 hv λt eq1_=>?_; subst eq1_
  have I1:Inv X pins σ H { s with heap:=h',toks:=tk }:=I.turned (λb o hb e=>kk b o (by simpa using hb) e) f0 f1 f3 f4 f5
  refine ⟨_,rfl,go_of (s:={ s with heap:=h',toks:=tk }) (n:="range_iterator") st' rfl rfl (by decide) ⟨.int (lo+i),H,I1,⟨t,?_⟩,⟨rfl,rfl⟩,st',λb hb=>(hf b hb).1⟩⟩
  rw [Int.mul_one]
 done:=by
  intro X hP hw hK hc i pins s σ H E I hf st hg
  subst hP hw hK
  refine oq06 (hf it (by simp)) λf0 f1 f2 f3 f4 f5=>?_
  exact wpAny_pyNext_range_end (I.ok.hd hc) st (by have:n<=i:=hg; omega) λh' eb=>⟨rfl,I.turned (t':=s.toks) (λb o hb e=>eb b o hb e) f0 f1 f3 f4 f5⟩
 self:=λ_ _ _ _ _ st h=>wpAny_pyIter_rangeiter st h
end L2
namespace L2
open PySem PySem.Spec PyProof.Rows
section
variable {X:Cx} {tg:Expr}
def iList (K:Z3) (tl:TE):TI:=λσ H R=>tl σ H λx H1=>∃ a,x=.ref a/\(∃ xs,SqL K H1 a xs)/\R (Itl K a) H1
theorem pi_list {l:Expr} {tl:TE} (hl:PE X l tl):PI X tg l (iList X.K tl):=by
 intro pins s σ H R I h
 refine thn (hl pins s σ H _ I h) λv s1 zq=>oq23 zq λx H1 I1 r1 q1=>?_
 obtain ⟨a,e,⟨xs,hq⟩,q⟩:=q1
 subst e
 cases r1
 refine oq13 (I1.list hq) λits rv p hz=>?_
 refine wpAny_pyIter_list p.isList ?_
 refine ⟨s1.heap.objs.size,[s1.heap.objs.size],_,_,H1,rfl,I1.kept (t':=s1.toks) λb o e=>Z5 _ e,turn_list a _,⟨_,X4 _ rfl,rfl,rfl⟩,λb hb=>?_,q⟩
 have e:b=s1.heap.objs.size:=by simpa using hb
 subst e
 exact I1.fpOk (nz6 _) (I1.hok.fresh (nz6 _))
theorem o7 {pins:List (Addr × Obj)} {σ:St} {H:Hp} {s:Shared} {R:It->Hp->Prop} {E:Value->Shared->Prop} {lo hi:Int} {t u v:Tok} {tk:Nat} (I:Inv X pins σ H s) (h1:-(2 ^ 62)<=lo) (h2:lo<2 ^ 62) (h3:-(2 ^ 62)<=hi) (h4:hi<2 ^ 62)
  (q:R (Itr lo (hi - lo).toNat) H):wpAny (model X.prog X.w) X.A (pyIter (.ref s.heap.objs.size)) (PIE X pins σ tg R) E { s with heap:=s.heap.push { cls:=.type "range",data:=.fields #[.int lo t,.int hi u,.int 1 v] },toks:=tk }:=by
 refine wpAny_pyIter_range (IsRange.new ..) (small_one h1 h2 h3 h4) ?_
 have I1:Inv X pins σ H { s with heap:=s.heap.push { cls:=.type "range",data:=.fields #[.int lo t,.int hi u,.int 1 v] },toks:=tk }:=I.kept λb o e=>Z5 _ e
 refine ⟨(s.heap.push { cls:=.type "range",data:=.fields #[.int lo t,.int hi u,.int 1 v] }).objs.size,[(s.heap.push { cls:=.type "range",data:=.fields #[.int lo t,.int hi u,.int 1 v] }).objs.size],_,_,H,rfl,
  I1.kept (t':=tk) λb o e=>Z5 _ e,qD _ lo (hi - lo).toNat,?_,λb hb=>?_,q⟩
 ·have e1:lo+((0:Nat):Int) * 1=lo:=by simp
  have e2:(((hi - lo).toNat:Nat):Int) - ((0:Nat):Int)=K3 lo hi 1:=by rw [rangeSize_one]; split <;> omega
  show IsRangeIter _ _ (lo+((0:Nat):Int) * 1) ((((hi - lo).toNat:Nat):Int) - ((0:Nat):Int)) 1
  rw [e1,e2]
  exact X4 _ rfl
 ·have e:b=(s.heap.push { cls:=.type "range",data:=.fields #[.int lo t,.int hi u,.int 1 v] }).objs.size:=by simpa using hb
  subst e
  exact I1.fpOk (nz6 _) (I1.hok.fresh (nz6 _))
def iRng1 (ta:TA):TI:=λσ H R=>ta σ H λvs H1=>∃ j:Int,vs=[.int j]/\-(2 ^ 62)<=j/\j<2 ^ 62/\R (Itr 0 j.toNat) H1
def iRng2 (ta:TA):TI:=λσ H R=>ta σ H λvs H1=>∃ i j:Int,vs=[.int i,.int j]/\(-(2 ^ 62)<=i/\i<2 ^ 62/\-(2 ^ 62)<=j/\j<2 ^ 62)/\R (Itr i (j - i).toNat) H1
theorem dS {a:Expr} {ta:TA} {p pos:Pos} (hg:Gl X "range") (hm:X.mg "range"=none) (ha:PA X [a] ta) (hs:autoParam (V4 [a] X.env=[(false,eval a X.env)]) L2.a2q._auto_1):PI X tg (.Call (.Name "range" p) [a] [] pos) (iRng1 ta):=by
 intro pins s σ H R I h
 refine Call_ (dN I hg hm boot_range (P3 (thn (ha pos pins s σ H _ I h) λus s1 ⟨vs,H1,I1,r1,q1⟩=>?_) hs rfl))
 obtain ⟨j,e,q1,q2,q⟩:=q1
 subst e
 cases r1 with
 | cons r rr =>
  cases rr
  obtain ⟨t,rfl⟩:=r
  exact call_range_1 (o7 I1 (by omega) (by omega) q1 q2 (by simpa using q))
theorem lz {a b:Expr} {ta:TA} {p pos:Pos} (hg:Gl X "range") (hm:X.mg "range"=none) (ha:PA X [a,b] ta) (hs:autoParam (V4 [a,b] X.env=[(false,eval a X.env),(false,eval b X.env)]) L2.a2q._auto_1) (hs2:autoParam (V4 [b] X.env=[(false,eval b X.env)]) L2.a2q._auto_1) :
  PI X tg (.Call (.Name "range" p) [a,b] [] pos) (iRng2 ta):=by
 intro pins s σ H R I h
 refine Call_ (dN I hg hm boot_range (P3 (thn (ha pos pins s σ H _ I h) λus s1 zq=>oq23 zq λvs H1 I1 r1 q1=>?_) (by rw [hs,hs2]) (by rw [hs2]; rfl)))
 obtain ⟨i,j,e,⟨q1,q2,q3,q4⟩,q⟩:=q1
 subst e
 cases r1 with
 | cons r rr =>
  cases rr with
  | cons r' rr =>
   cases rr
   refine oq11 r λt eq1_=>?_; subst eq1_
   refine oq11 r' λt' eq1_=>?_; subst eq1_
   exact call_range_2 (o7 I1 q1 q2 q3 q4 q)
def tFor (wi:TI) (g:TG) (tb:TS):TS:=λD σ H=>wi σ H λJ H1=>∃ W:Nat->Nat->St->Hp->Prop,(∃ m,W 0 m σ H1)/\∀ i m σ H,W i m σ H ->
 (J.stop i H/\D.nx σ H)\/(J.go i H/\∃ N:St->Hp->Prop,(∀ σ' H',N σ' H'->∃ m',m'<m/\W (i+1) m' σ' H')/\∀ x H',J.yld i H x H'->g x σ H' λσ2 H2=>tb { D with nx:=N,ct:=N,bk:=D.nx } σ2 H2)
noncomputable def jy (fp:List Addr) (h:Heap):List (Addr × Obj):=fp.filterMap λb=>(h.get? b).map λo=>(b,o)
theorem eI {fp:List Addr} {h:Heap} {b:Addr} {o:Obj} (hb:b∈fp) (e:h.get? b=some o):(b,o)∈jy fp h:=List.mem_filterMap.mpr ⟨b,hb,by rw [e]; rfl⟩
theorem of_pinsAt {fp:List Addr} {h:Heap} {p:Addr × Obj} (hp:p∈jy fp h):p.1∈fp/\h.get? p.1=some p.2:=by
 refine oq12 (List.mem_filterMap.mp hp) λb hb e=>?_
 cases q:h.get? b with
 | none=>rw [q] at e; cases e
 | some o =>
  rw [q] at e
  have e':(b,o)=p:=Z7 e
  subst e'
  exact ⟨hb,q⟩
theorem Inv.pinned {pins:List (Addr × Obj)} {σ:St} {H:Hp} {s:Shared} {fp:List Addr} (I:Inv X pins σ H s) (hf:∀ b∈fp,FpOk X pins H b) (ho:∀ b∈fp,∃ o,s.heap.get? b=some o/\∀ v,o.data≠.cell v):Inv X (pins++jy fp s.heap) σ H s :=
 I.pins_of λp hp=>(W9.mp hp).elim (λz=>I.pin p (Y7 _ z)) λz=>by
  refine oq02 (of_pinsAt z) λhb e=>?_
  refine oq04 (hf p.1 hb) λf0 f1 f2 _=>?_
  refine oq12 (ho p.1 hb) λo e' d=>?_
  rw [e] at e'; cases e'
  exact ⟨e,f0,f1,f2,d⟩
theorem Inv.unpinned {pins pl:List (Addr × Obj)} {σ:St} {H:Hp} {s:Shared} (I:Inv X (pins++pl) σ H s):Inv X pins σ H s:=I.pins_of λp hp=>I.pin p (Y7 _ (U0 _ hp))
theorem ck {iter:Expr} {body:List Stmt} {wi:TI} {g:TG} {tb:TS} {pos:Pos} (hp:PassesOwn (model X.prog X.w) X.A X.env X.xe) (hc:X.calm=true) (hi:PI X tg iter wi) (hg:PG X tg g) (hb:PSs X body tb)
  (hs:autoParam (∀ x,foldedSetIterable iter X.env x=pure x) L2.a1q._auto_1):PS X (.For tg iter body [] pos) (tFor wi g tb):=by
 intro pins s σ H D I h
 refine wpAny_For (thn (hi pins s σ H _ I h) λv s1 h1=>thn h1 λitv s2 h2=>?_) hs
 obtain ⟨it,fp,tn,J,H2,e,I2,T,st2,f2,W,⟨m0,w0⟩,turn⟩:=h2
 subst e
 have stat:∀ {H':Hp},(∀ b∈fp,H' b=none)->∀ b∈fp,FpOk X pins H' b:=λhn b hb=>⟨hn b hb,(f2 b hb).2⟩
 refine codeAny_forLoop_any (λn s'=>∃ i σ' H',Inv X pins σ' H' s'/\tn i s'.heap/\(∀ b∈fp,H' b=none)/\W i n σ' H') ?_ m0 ⟨0,σ,H2,I2,st2,λb hb=>(f2 b hb).1,w0⟩
 intro n s3 zq; refine oq34 zq λi σ3 H3 I3 st3 fr3 w3=>?_
 rcases turn i n σ3 H3 w3 with ⟨stop,qn⟩ | ⟨go,N,hN,step⟩
 ·refine G1 hp (thn (T.done X rfl rfl rfl hc i pins s3 σ3 H3 X.xe I3 (stat fr3) st3 stop) λr s4 zq=>oq02 zq λhr I4=>?_)
  subst hr
  exact wpAny_execs_nil ⟨σ3,H3,I4,qn⟩
 ·refine G1 hp (thn (T.item X rfl rfl rfl hc i pins s3 σ3 H3 X.xe I3 (stat fr3) st3 go) λr s4 zq=>oq12 zq λu hr h4=>?_)
  subst hr
  refine G1 hp (thn h4 λ_ s5 zq=>oq25 zq λx H5 I5 r5 y5 st5 fr5=>?_)
  have I5':=I5.pinned (stat fr5) (T.obj _ _ st5)
  refine G1 hp (thn (hg _ s5 σ3 H5 x u _ I5' r5 (step x H5 y5)) λ_ s6 zq=>oq22 zq λσ6 H6 I6 q6=>?_)
  refine G1 hp (thn (hb _ s6 σ6 H6 _ I6 q6) λf s7 q7=>?_)
  have again:∀ {σ7:St} {H7:Hp},Inv X (pins++jy fp s5.heap) σ7 H7 s7->N σ7 H7->∃ m,m<n/\∃ i σ' H',Inv X pins σ' H' s7/\tn i s7.heap/\(∀ b∈fp,H' b=none)/\W i m σ' H':=λ{σ7 H7} I7 n7=>by
   refine oq12 (hN σ7 H7 n7) λm' hm w7=>?_
   refine ⟨m',hm,i+1,σ7,H7,I7.unpinned,T.keep _ _ _ st5 λb hb o e=>(I7.pin (b,o) (Y7 _ (Y7 _ (eI hb e)))).1,λb hb=>?_,w7⟩
   refine oq12 (T.obj _ _ st5 b hb) λo e d=>?_
   exact (I7.pin (b,o) (Y7 _ (Y7 _ (eI hb e)))).2.1
  cases f with
  | next=>refine oq22 q7 λσ7 H7 I7 n7=>?_; exact again I7 n7
  | cont=>refine oq22 q7 λσ7 H7 I7 n7=>?_; exact again I7 n7
  | brk=>refine oq22 q7 λσ7 H7 I7 q7=>?_; exact ⟨σ7,H7,I7.unpinned,q7⟩
  | ret v=>refine oq33 q7 λx7 σ7 H7 I7 r7 q7=>?_; exact ⟨x7,σ7,H7,I7.unpinned,r7,q7⟩
end
end L2
namespace L2
open PySem PySem.Spec PyProof.Rows
noncomputable abbrev R2:=V->V->Hp->VK->Prop
noncomputable def OpR (X:Cx) (f:Value->Value->Sem Value) (r:R2):Prop :=
 ∀ (pins:List (Addr × Obj)) (s:Shared) (σ:St) (H:Hp) (x y:V) (v u:Value) (Q:VK),Inv X pins σ H s->RelV x v->RelV y u->r x y H Q ->
  wpAny (model X.prog X.w) X.A (f v u) (EP X pins σ Q) X.xe s
noncomputable def cV (X:Cx) (f:Value) (r:List V->Hp->VK->Prop):Prop :=
 ∀ (pins:List (Addr × Obj)) (s:Shared) (σ:St) (H:Hp) (xs:List V) (us:List Value) (Q:VK),Inv X pins σ H s->Vals xs us->r xs H Q ->
  wpAny (model X.prog X.w) X.A (call f us) (EP X pins σ Q) X.xe s
noncomputable def TruR (X:Cx) (r:V->Hp->(Bool->Hp->Prop)->Prop):Prop :=
 ∀ (pins:List (Addr × Obj)) (s:Shared) (σ:St) (H:Hp) (x:V) (v:Value) (Q:Bool->Hp->Prop),Inv X pins σ H s->RelV x v->r x H Q ->
  wpAny (model X.prog X.w) X.A (truthy v) (TP X pins σ Q) X.xe s
def tOp (r:R2) (ta tb:TE):TE:=λσ H Q=>ta σ H λx H1=>tb σ H1 λy H2=>r x y H2 Q
noncomputable def rI (C:Int->Int->Prop) (g:Int->Int->V):R2:=λx y H Q=>∃ i j,x=.int i/\y=.int j/\C i j/\Q (g i j) H
noncomputable def rI0 (g:Int->Int->V):R2:=λx y H Q=>∃ i j,x=.int i/\y=.int j/\Q (g i j) H
section
variable {X:Cx} {a b:Expr} {ta tb:TE} {pos:Pos}
theorem binT (ha:PE X a ta) (hb:PE X b tb) {pins:List (Addr × Obj)} {s:Shared} {σ:St} {H:Hp} {R:V->V->Hp->Prop} (I:Inv X pins σ H s)
  (h:ta σ H λx H1=>tb σ H1 λy H2=>R x y H2) {Q:Value->Shared->Prop} {f:Value->Value->Sem Value}
  (hf:∀ v u s2 x y H2,Inv X pins σ H2 s2->RelV x v->RelV y u->R x y H2->wpAny (model X.prog X.w) X.A (f v u) Q X.xe s2) :
  wpAny (model X.prog X.w) X.A (eval a X.env) (λv s₁=>wpAny (model X.prog X.w) X.A (eval b X.env) (λu s₂=>wpAny (model X.prog X.w) X.A (f v u) Q X.xe s₂) X.xe s₁) X.xe s:=by
 refine thn (ha pins s σ H _ I h) λv s1 zq=>oq23 zq λx H1 I1 r1 q1=>?_
 refine thn (hb pins s1 σ H1 _ I1 q1) λu s2 zq=>oq23 zq λy H2 I2 r2 q2=>?_
 exact hf v u s2 x y H2 I2 r1 r2 q2
theorem am {op:Operator} {r:R2} (ho:OpR X (binaryOp op) r) (ha:PE X a ta) (hb:PE X b tb):PE X (.BinOp a op b pos) (tOp r ta tb):=by
 intro pins s σ H Q I h
 exact wpAny_BinOp (binT ha hb I h λv u s2 x y H2 I2 rx ry q=>ho pins s2 σ H2 x y v u Q I2 rx ry q)
theorem opI {f:Value->Value->Sem Value} {C:Int->Int->Prop} {g:Int->Int->Int}
  (rule:∀ (i j:Int) (t u:Tok) (s:Shared) (Q:Value->Shared->Prop) (E:Value->Shared->Prop),C i j->Q (.int (g i j) s.toks) { s with toks:=s.toks+1 }->wpAny (model X.prog X.w) X.A (f (.int i t) (.int j u)) Q E s) :
  OpR X f (rI C λi j=>.int (g i j)):=by
 intro pins s σ H x y v u Q I rx ry h
 refine oq24 h λi j eq2_ eq3_ hc q=>?_; subst eq2_; subst eq3_
 refine oq11 rx λt eq1_=>?_; subst eq1_
 refine oq11 ry λt' eq1_=>?_; subst eq1_
 exact rule i j t t' s _ _ hc ⟨.int (g i j),H,I.tok _,⟨_,rfl⟩,q⟩
theorem opI0 {f:Value->Value->Sem Value} {g:Int->Int->Int}
  (rule:∀ (i j:Int) (t u:Tok) (s:Shared) (Q:Value->Shared->Prop) (E:Value->Shared->Prop),Q (.int (g i j) s.toks) { s with toks:=s.toks+1 }->wpAny (model X.prog X.w) X.A (f (.int i t) (.int j u)) Q E s) :
  OpR X f (rI0 λi j=>.int (g i j)):=by
 intro pins s σ H x y v u Q I rx ry h
 refine oq23 h λi j eq2_ eq3_ q=>?_; subst eq2_; subst eq3_
 refine oq11 rx λt eq1_=>?_; subst eq1_
 refine oq11 ry λt' eq1_=>?_; subst eq1_
 exact rule i j t t' s _ _ ⟨.int (g i j),H,I.tok _,⟨_,rfl⟩,q⟩
theorem opB0 {f:Value->Value->Sem Value} {g:Int->Int->Bool}
  (rule:∀ (i j:Int) (t u:Tok) (s:Shared) (Q:Value->Shared->Prop) (E:Value->Shared->Prop),Q (.bool (g i j)) s->wpAny (model X.prog X.w) X.A (f (.int i t) (.int j u)) Q E s) :
  OpR X f (rI0 λi j=>.bl (g i j)):=by
 intro pins s σ H x y v u Q I rx ry h
 refine oq23 h λi j eq2_ eq3_ q=>?_; subst eq2_; subst eq3_
 refine oq11 rx λt eq1_=>?_; subst eq1_
 refine oq11 ry λt' eq1_=>?_; subst eq1_
 exact rule i j t t' s _ _ ⟨.bl (g i j),H,I,rfl,q⟩
def CPow (i j:Int):Prop:=0<=j/\j<=1000000/\i.natAbs<2 ^ 64
def CMul (i j:Int):Prop:=(-(2 ^ 64)<i/\i<2 ^ 64)\/(-(2 ^ 64)<j/\j<2 ^ 64)
theorem CMul.ok {i j:Int} (h:CMul i j):IntMulOk i j:=by
 rcases h with ⟨h1,h2⟩ | ⟨h1,h2⟩
 ·exact .of_left (intBits_le_64 h1 h2)
 ·exact .of_right (intBits_le_64 h1 h2)
theorem bg:OpR X (binaryOp .Add) (rI0 λi j=>.int (i+j)):=opI0 λ_ _ _ _ _ _ _ q=>add_int q
theorem df:OpR X (binaryOp .Sub) (rI0 λi j=>.int (i - j)):=opI0 λ_ _ _ _ _ _ _ q=>sub_int q
theorem d4:OpR X (binaryOp .Mult) (rI CMul λi j=>.int (i * j)):=opI λ_ _ _ _ _ _ _ hc q=>mul_int q hc.ok
theorem bh:OpR X (binaryOp .Mod) (rI (λ_ j=>0<j) λi j=>.int (i % j)):=opI λi j _ _ _ _ _ hc q=>by
 have h1:(0:Int)<j:=hc
 exact mod_int' (by omega) (by rw [Int.fmod_eq_emod_of_nonneg i (by omega)]; exact q)
theorem gm:OpR X (binaryOp .Pow) (rI CPow λi j=>.int (i ^ j.toNat)):=opI λ_ _ _ _ _ _ _ hc q=>pow_int_small hc.1 hc.2.1 hc.2.2 q
end
noncomputable def scal:V->V->Bool
 | .non,.non=>true | .non,.int _=>true | .int _,.non=>true | .non,.bl _=>true | .bl _,.non=>true | .non,.str _=>true | .str _,.non=>true
 | .int _,.int _=>true | .bl _,.bl _=>true | .str _,.str _=>true | .byt _,.byt _=>true
 | .int _,.str _=>true | .str _,.int _=>true | .bl _,.str _=>true | .str _,.bl _=>true
 | _,_=>false
noncomputable def rEq:R2:=λx y H Q=>scal x y=true/\Q (.bl (decide (x=y))) H
noncomputable def rNe:R2:=λx y H Q=>scal x y=true/\Q (.bl (!decide (x=y))) H
theorem dec_int {i j:Int}:decide (V.int i=V.int j)=(i == j):=by
 rw [T9]
 simp
theorem dec_bl {i j:Bool}:decide (V.bl i=V.bl j)=(i == j):=by
 rw [T9]
 simp
theorem dec_str {i j:Str}:decide (V.str i=V.str j)=(i == j):=by
 rw [T9]
 simp
theorem dec_byt {i j:Array UInt8}:decide (V.byt i=V.byt j)=(i.toList == j.toList):=by
 rw [T9]
 cases i
 cases j
 simp
section
variable {X:Cx} {a b c:Expr} {ta tb tc:TE} {pos:Pos}
theorem aI {pins:List (Addr × Obj)} {σ:St} {H:Hp} {s:Shared} {Q:VK} {k k':Bool} (I:Inv X pins σ H s) (q:Q (.bl k) H) (e:k=k'):EP X pins σ Q (.bool k') s:=by
 subst e
 exact ⟨.bl k,H,I,rfl,q⟩
theorem fk:OpR X (N5 .Eq) rEq:=by
 intro pins s σ H x y v u Q I rx ry h
 refine oq02 h λhs q=>?_
 cases x with
 | non =>
  cases rx
  cases y with
  | non=>cases ry; exact PySem.EqNone.eq_none_none (aI I q (by simp))
  | bl j=>cases ry; exact PySem.EqNone.eq_none_bool (aI I q (by simp))
  | int j=>refine oq11 ry λt' eq1_=>?_; subst eq1_; exact PySem.EqNone.eq_none_int (aI I q (by simp))
  | str j=>refine oq11 ry λt' eq1_=>?_; subst eq1_; exact PySem.EqNone.eq_none_str (aI I q (by simp))
  | _=>exact absurd (show false=true from hs) Z8
 | bl i =>
  cases rx
  cases y with
  | non=>cases ry; exact PySem.EqNone.eq_bool_none (aI I q (by simp))
  | bl j=>cases ry; exact eq_bool (aI I q dec_bl)
  | str j=>refine oq11 ry λt' eq1_=>?_; subst eq1_; exact PySem.EqMixed.eq_bool_str (aI I q (by simp))
  | _=>exact absurd (show false=true from hs) Z8
 | int i =>
  refine oq11 rx λt eq1_=>?_; subst eq1_
  cases y with
  | non=>cases ry; exact PySem.EqNone.eq_int_none (aI I q (by simp))
  | int j=>refine oq11 ry λt' eq1_=>?_; subst eq1_; exact eq_int (aI I q dec_int)
  | str j=>refine oq11 ry λt' eq1_=>?_; subst eq1_; exact PySem.EqMixed.eq_int_str (aI I q (by simp))
  | _=>exact absurd (show false=true from hs) Z8
 | str i =>
  refine oq11 rx λt eq1_=>?_; subst eq1_
  cases y with
  | non=>cases ry; exact PySem.EqNone.eq_str_none (aI I q (by simp))
  | bl j=>cases ry; exact PySem.EqMixed.eq_str_bool (aI I q (by simp))
  | int j=>refine oq11 ry λt' eq1_=>?_; subst eq1_; exact PySem.EqMixed.eq_str_int (aI I q (by simp))
  | str j=>refine oq11 ry λt' eq1_=>?_; subst eq1_; exact eq_str (aI I q dec_str)
  | _=>exact absurd (show false=true from hs) Z8
 | byt i =>
  refine oq11 rx λt eq1_=>?_; subst eq1_
  cases y with
  | byt j=>refine oq11 ry λt' eq1_=>?_; subst eq1_; exact PySem.W.eq_bytes (aI I q dec_byt)
  | _=>exact absurd (show false=true from hs) Z8
 | _=>cases y <;> exact absurd (show false=true from hs) Z8
theorem op_ne:OpR X (N5 .NotEq) rNe:=by
 intro pins s σ H x y v u Q I rx ry h
 refine oq02 h λhs q=>?_
 cases x with
 | non =>
  cases rx
  cases y with
  | non=>cases ry; exact PySem.EqNone.ne_none_none (aI I q (by simp))
  | bl j=>cases ry; exact PySem.EqNone.ne_none_bool (aI I q (by simp))
  | int j=>refine oq11 ry λt' eq1_=>?_; subst eq1_; exact PySem.EqNone.ne_none_int (aI I q (by simp))
  | str j=>refine oq11 ry λt' eq1_=>?_; subst eq1_; exact PySem.EqNone.ne_none_str (aI I q (by simp))
  | _=>exact absurd (show false=true from hs) Z8
 | bl i =>
  cases rx
  cases y with
  | non=>cases ry; exact PySem.EqNone.ne_bool_none (aI I q (by simp))
  | bl j=>cases ry; exact ne_bool (aI I q (congrArg not dec_bl))
  | str j=>refine oq11 ry λt' eq1_=>?_; subst eq1_; exact PySem.EqMixed.ne_bool_str (aI I q (by simp))
  | _=>exact absurd (show false=true from hs) Z8
 | int i =>
  refine oq11 rx λt eq1_=>?_; subst eq1_
  cases y with
  | non=>cases ry; exact PySem.EqNone.ne_int_none (aI I q (by simp))
  | int j=>refine oq11 ry λt' eq1_=>?_; subst eq1_; exact ne_int (aI I q (congrArg not dec_int))
  | str j=>refine oq11 ry λt' eq1_=>?_; subst eq1_; exact PySem.EqMixed.ne_int_str (aI I q (by simp))
  | _=>exact absurd (show false=true from hs) Z8
 | str i =>
  refine oq11 rx λt eq1_=>?_; subst eq1_
  cases y with
  | non=>cases ry; exact PySem.EqNone.ne_str_none (aI I q (by simp))
  | bl j=>cases ry; exact PySem.EqMixed.ne_str_bool (aI I q (by simp))
  | int j=>refine oq11 ry λt' eq1_=>?_; subst eq1_; exact PySem.EqMixed.ne_str_int (aI I q (by simp))
  | str j=>refine oq11 ry λt' eq1_=>?_; subst eq1_; exact ne_str (aI I q (congrArg not dec_str))
  | _=>exact absurd (show false=true from hs) Z8
 | byt i =>
  refine oq11 rx λt eq1_=>?_; subst eq1_
  cases y with
  | byt j=>refine oq11 ry λt' eq1_=>?_; subst eq1_; exact PySem.W.ne_bytes (aI I q (congrArg not dec_byt))
  | _=>exact absurd (show false=true from hs) Z8
 | _=>cases y <;> exact absurd (show false=true from hs) Z8
theorem op_lt:OpR X (N5 .Lt) (rI0 λi j=>.bl (decide (i<j))):=opB0 λ_ _ _ _ _ _ _ q=>lt_int q
theorem op_le:OpR X (N5 .LtE) (rI0 λi j=>.bl (decide (i<=j))):=opB0 λ_ _ _ _ _ _ _ q=>le_int q
theorem op_notN:OpR X (N5 .IsNot) (λx y H Q=>y=.non/\Q (.bl (!decide (x=.non))) H):=by
 intro pins s σ H x y v u Q I rx ry h
 refine oq02 h λeq0_ q=>?_; subst eq0_
 cases ry
 refine isnot_none_gen (aI I q ?_)
 cases x <;> first
  | (cases rx; rfl)
  | (refine oq11 rx λt eq1_=>?_; subst eq1_; rfl)
theorem aX (b:Expr) {op:CmpOp} (h:autoParam (op≠.In) L2.a0q._auto_1) (h2:autoParam (op≠.NotIn) L2.a0q._auto_1):behindInMarks op b=false:=by
 have e1:(op == CmpOp.In)=false:=by cases op <;> first | rfl | exact absurd rfl h
 have e2:(op == CmpOp.NotIn)=false:=by cases op <;> first | rfl | exact absurd rfl h2
 cases b <;> simp [behindInMarks,e1,e2]
theorem pe_cmpR {op:CmpOp} {r:R2} (ho:OpR X (N5 op) r) (ha:PE X a ta) (hb:PE X b tb) (hm:behindInMarks op b=false):PE X (.Compare a [op] [b] pos) (tOp r ta tb):=by
 intro pins s σ H Q I h
 exact wpAny_Compare1 (binT ha hb I h λv u s2 x y H2 I2 rx ry q=>ho pins s2 σ H2 x y v u Q I2 rx ry q) hm
def tTest (t:TE):TT:=λσ H Q=>t σ H λx H'=>∃ k,x=.bl k/\Q k H'
theorem aK {op:CmpOp} {r:R2} (ho:OpR X (N5 op) r) (ha:PE X a ta) (hb:PE X b tb) (hm:behindInMarks op b=false):PT X (.Compare a [op] [b] pos) (tTest (tOp r ta tb)):=by
 intro pins s σ H Q I h
 refine wpAny_isTrue_Compare1 (thn (ha pins s σ H _ I h) λv s1 zq=>oq23 zq λx H1 I1 r1 q1=>thn (hb pins s1 σ H1 _ I1 q1) λu s2 zq=>oq23 zq λy H2 I2 r2 q2 =>
  thn (ho pins s2 σ H2 x y v u _ I2 r1 r2 q2) λc s3 zq=>oq23 zq λz H3 I3 r3 zz=>oq12 zz λk e q3=>?_) hm
 subst e
 cases r3
 exact N9 ⟨H3,I3,q3⟩
def qE (r r':R2) (ta tb tc:TE):TE:=λσ H Q=>ta σ H λx H1=>tb σ H1 λy H2=>r x y H2 λz H3=>∃ k,z=.bl k /\
 (if k=true then tc σ H3 λw' H4=>r' y w' H4 Q else Q (.bl false) H3)
theorem pt_chain {op op':CmpOp} {r r':R2} (ho:OpR X (N5 op) r) (ho':OpR X (N5 op') r') (ha:PE X a ta) (hb:PE X b tb) (hc:PE X c tc)
  (hm:autoParam (lastMarks [op,op'] [b,c]=false) L2.a3q._auto_1):PT X (.Compare a [op,op'] [b,c] pos) (tTest (qE r r' ta tb tc)):=by
 intro pins s σ H Q I h
 refine isTrue_chain (thn (ha pins s σ H _ I h) λv s1 zq=>oq23 zq λx H1 I1 r1 q1=>test_link (thn (hb pins s1 σ H1 _ I1 q1) λu s2 zq=>oq23 zq λy H2 I2 r2 q2 =>
  thn (ho pins s2 σ H2 x y v u _ I2 r1 r2 q2) λd s3 zq=>oq23 zq λz H3 I3 r3 zz=>oq12 zz λk e q3=>?_)) hm
 subst e
 cases r3
 refine N9 ?_
 cases k with
 | false =>
  refine oq12 q3 λk' e' q'=>?_
  cases e'
  exact ite_ff ⟨H3,I3,q'⟩
 | true =>
  refine ite_tt (test_last (thn (hc pins s3 σ H3 _ I3 q3) λw' s4 zq=>oq23 zq λz' H4 I4 r4 q4=>thn (ho' pins s4 σ H4 y z' u w' _ I4 r2 r4 q4) λd' s5 zq=>oq23 zq λz2 H5 I5 r5 zz=>oq12 zz λk2 e2 q5=>?_))
  subst e2
  cases r5
  exact N9 ⟨H5,I5,q5⟩
noncomputable def TruV (K:Z3) (x:V) (H:Hp) (k:Bool):Prop :=
 match x with
 | .non=>k=false
 | .bl b=>k=b
 | .int i=>k=(i != 0)
 | .str y=>y.length<=V1/\k=((y.length:Int) != 0)
 | .byt y=>y.size<=V1/\k=((y.size:Int) != 0)
 | .ref p=>(∃ xs,SqL K H p xs/\k=!xs.isEmpty)\/(∃ xs,SqT K H p xs/\k=!xs.isEmpty)\/∃ kvs,H p=some (.dK kvs)/\k=!kvs.isEmpty
 | _=>False
theorem qF {κ:Type} {kvs:List (κ × V)} {vs:List (κ × Value)} (r:KV kvs vs):(!vs.isEmpty)=!kvs.isEmpty:=by
 cases r <;> rfl
theorem jz {xs:List V} {its:List Value} (r:Vals xs its):(!its.toArray.isEmpty)=!xs.isEmpty:=by
 cases r <;> simp
theorem gn:(V1:Nat)<2 ^ 63:=by rw [V8]; decide
theorem tru_ok:TruR X (λx H Q=>∃ k,TruV X.K x H k/\Q k H):=by
 intro pins s σ H x v Q I rx h
 refine oq12 h λk e q=>?_
 have hl:=gn
 have hs:V1=16777216:=V8
 cases x with
 | non =>
  cases rx
  have e':k=false:=e
  subst e'
  exact truthy_none ⟨H,I,q⟩
 | bl b =>
  cases rx
  have e':k=b:=e
  subst e'
  exact N9 ⟨H,I,q⟩
 | int i =>
  refine oq11 rx λt eq1_=>?_; subst eq1_
  have e':k=(i != 0):=e
  subst e'
  exact PySem.P.truthy_int ⟨H,I,q⟩
 | str y =>
  refine oq11 rx λt eq1_=>?_; subst eq1_
  refine oq02 (show y.length<=V1/\k=((y.length:Int) != 0) from e) λhy e'=>?_
  subst e'
  exact PySem.P.truthy_str (by omega) ⟨H,I.tok _,q⟩
 | byt y =>
  refine oq11 rx λt eq1_=>?_; subst eq1_
  refine oq02 (show y.size<=V1/\k=((y.size:Int) != 0) from e) λhy e'=>?_
  subst e'
  exact PySem.W.truthy_bytes (by omega) ⟨H,I.tok _,q⟩
 | ref p =>
  cases rx
  have e':(∃ xs,SqL X.K H p xs/\k=!xs.isEmpty)\/(∃ xs,SqT X.K H p xs/\k=!xs.isEmpty)\/∃ kvs,H p=some (.dK kvs)/\k=!kvs.isEmpty:=e
  rcases e' with ⟨xs,hx,e'⟩ | ⟨xs,hx,e'⟩ | ⟨kvs,hx,e'⟩
  ·subst e'
   refine oq13 (I.list hx) λits r pl hz=>?_
   have hlen:=r.length
   exact wpAny_truthy_list pl.isList (by simp only [X0]; omega) ⟨H,I.tok _,by rw [jz r]; exact q⟩
  ·subst e'
   refine oq13 (I.tuple hx) λits r pl hz=>?_
   have hlen:=r.length
   exact truthy_tuple pl (by simp only [X0]; omega) ⟨H,I.tok _,by rw [jz r]; exact q⟩
  ·subst e'
   refine oq03 (show kvs.length<=V1/\(p == K6)=false/\∃ vs,KV kvs vs/\s.heap.DictOf (aV X.prog X.w) p vs from I.hok p _ hx) λhz hS zz=>oq12 zz λvs r m=>?_
   have hlen:kvs.length=vs.length:=Paired.length r
   exact wpAny_truthy_dict hS m (by omega) ⟨H,I.tok _,by rw [qF r]; exact q⟩
 | _=>exact (show False from e).elim
theorem pt_truth (ha:PE X a ta) (he:∀ whole,isTrue a X.env whole=(do let v <- whole; standAt a.pos; holding [v] (truthy v))) :
  PT X a (λσ H Q=>ta σ H λx H'=>∃ k,TruV X.K x H' k/\Q k H'):=by
 intro pins s σ H Q I h
 exact isTrue_plain (thn (ha pins s σ H _ I h) λv s1 zq=>oq23 zq λx H1 I1 r1 q1=>tru_ok pins s1 σ H1 x v Q I1 r1 q1) (he _)
theorem vals1 {x:V} {us:List Value} (r:Vals [x] us):∃ u,us=[u]/\RelV x u:=by
 cases r with
 | cons r1 r2=>cases r2; exact ⟨_,rfl,r1⟩
theorem vals2 {x y:V} {us:List Value} (r:Vals [x,y] us):∃ u w',us=[u,w']/\RelV x u/\RelV y w':=by
 cases r with
 | cons r1 r2 =>
  cases r2 with
  | cons r3 r4=>cases r4; exact ⟨_,_,rfl,r1,r3⟩
theorem gL:cV X (.builtin "abs") (λxs H Q=>∃ i,xs=[.int i]/\Q (.int (if i<0 then -i else i)) H):=by
 intro pins s σ H xs us Q I r h
 refine oq12 h λi eq1_ q=>?_; subst eq1_
 refine oq12 (vals1 r) λu eq1_ zz=>oq11 zz λt eq3_=>?_; subst eq1_; subst eq3_
 exact call_abs_int λu tk=>⟨.int (if i<0 then -i else i),H,I.tok _,⟨_,rfl⟩,q⟩
theorem dU (hc:X.calm=true):cV X (.builtin "max") (λxs H Q=>∃ i j,xs=[.int i,.int j]/\Q (.int (if j > i then j else i)) H):=by
 intro pins s σ H xs us Q I r h
 refine oq22 h λi j eq2_ q=>?_; subst eq2_
 obtain ⟨u,w',rfl,⟨t,rfl⟩,⟨t',rfl⟩⟩:=vals2 r
 refine max_two_ints (I.ok.hd hc) λh' tk k=>⟨_,H,I.kept k,?_,q⟩
 by_cases hj:j > i
 ·rw [if_pos hj,if_pos hj]; exact ⟨_,rfl⟩
 ·rw [if_neg hj,if_neg hj]; exact ⟨_,rfl⟩
theorem d9 (hc:X.calm=true):cV X (.builtin "min") (λxs H Q=>∃ i j,xs=[.int i,.int j]/\Q (.int (if j<i then j else i)) H):=by
 intro pins s σ H xs us Q I r h
 refine oq22 h λi j eq2_ q=>?_; subst eq2_
 obtain ⟨u,w',rfl,⟨t,rfl⟩,⟨t',rfl⟩⟩:=vals2 r
 refine min_two_ints (I.ok.hd hc) λh' tk k=>⟨_,H,I.kept k,?_,q⟩
 by_cases hj:j<i
 ·rw [if_pos hj,if_pos hj]; exact ⟨_,rfl⟩
 ·rw [if_neg hj,if_neg hj]; exact ⟨_,rfl⟩
end
end L2
namespace L2
open PySem PySem.Spec PyProof.Rows
structure ObjM (h:Heap) (x dx C:Addr) (mA:Str->Option Value):Prop where
 obj:h.get? x=some (K7 C dx)
 ns:h.Ns1 dx mA
 ne:dx≠x
theorem lookIn_ns {h:Heap} {dx:Addr} {mA:Str->Option Value} (n:h.Ns1 dx mA):∃ od,h.get? dx=some od/\∀ name,PySem.W.lookIn name od=some (mA name):=by
 refine oq35 n λo es ep ho hd hk _ hm=>?_
 refine ⟨o,ho,λname=>?_⟩
 have e:=hm name
 unfold nsFind findBy at e
 rw [<- Array.find?_toList] at e
 unfold PySem.W.lookIn
 rw [hd]
 dsimp only
 split
 ·rename_i y q
  rw [q] at e
  exact congrArg some e
 ·rename_i q
  rw [q] at e
  have a:es.toList.any (·.refKey)=false:=by
   rw [List.any_eq_false]
   intro y hy
   refine oq21 (hk y (Array.mem_toList_iff.mp hy)) λz t hkey=>?_
   simp [K4.refKey,hkey]
  have a':¬ es.toList.any (·.refKey)=true:=by rw [a]; exact Z8
  rw [if_neg a']
  exact congrArg some e
theorem ObjM.look {h:Heap} {x dx C:Addr} {mA:Str->Option Value} (I:ObjM h x dx C mA):∃ od,PySem.W.InstAt h x (K7 C dx) C (some od)/\∀ name,PySem.W.lookIn name od=some (mA name) :=
 let ⟨od,ho,hl⟩:=lookIn_ns I.ns
 ⟨od,⟨I.obj,rfl,rfl,ho⟩,hl⟩
section
variable {prog:W5} {w:World} {A:Around} {E:Value->Shared->Prop} {s:Shared} {K:Z3} {x dx C f:Addr} {mA:Str->Option Value} {name:Str} {v:Value}
theorem get_map {expr:Bool} {Q:Value->Shared->Prop} (X:K.In s.heap) (I:ObjM s.heap x dx C mA) (hg:D1 K C name=true) (hh:A2 K C=true)
  (ha:R4 K (.ref C) name=some none) (hv:mA name=some v) (hv':PySem.W.handedIn v=true) (h:Q v { s with toks:=s.toks+1 }) :
  wpAny (model prog w) A (getAttr (.ref x) name expr) Q E s:=by
 refine oq12 I.look λod J hl=>?_
 exact PySem.W.get_value X J (PySem.W.plainGet_of hg).1 (PySem.W.findObj_own hh ha rfl (by rw [hl,hv])) hv' h
theorem get_meth {pl:Sem Bool} {Q:Value × List Value->Shared->Prop} (X:K.In s.heap) (I:ObjM s.heap x dx C mA) (hg:D1 K C name=true)
  (hf:R4 K (.ref C) name=some (some (.ref f))) (ht:PySem.W.isFn K (.ref f)=true) (hv:mA name=none) (h:Q (.ref f,[.ref x]) s) :
  wpAny (model prog w) A (getMethod (.ref x) name pl) Q E s:=by
 refine oq12 I.look λod J hl=>?_
 exact PySem.W.method_fn X J (PySem.W.plainGet_of hg).1 (PySem.W.plainGet_of hg).2 hf (beq_iff_eq.mp ht) (by show (PySem.W.lookIn name od).map (·.isSome)=some false; rw [hl,hv]; rfl) h
theorem set_map {ns:List Str} {Q:Unit->Shared->Prop} (X:K.In s.heap) (I:ObjM s.heap x dx C mA)
  (hs:R4 K (.ref C) "__setattr__"=some (some (.builtin "object.__setattr__"))) (hp:PySem.W.plainOver K C=true) (ht:PySem.W.takerIn K C name=some none) (hh:A2 K C=true)
  (hw:PySem.Within mA ns) (hsz:ns.length<=V1)
  (h:∀ h',ObjM h' x dx C (λy=>if y=name then some v else mA y)->S8 dx s.heap h'->Q () { s with heap:=h',toks:=s.toks+2 }) :
  wpAny (model prog w) A (setAttr (.ref x) name v) Q E s:=by
 refine oq12 I.look λod J hl=>?_
 refine PySem.W.set_plain X J hs (PySem.W.osa_open (s:={ s with toks:=s.toks+1 }) (r:=none) X J hp ht λb=>?_)
 refine oq12 (PySem.W.any_some hh) λcd hc hd'=>?_
 have hx:s.heap.get? x=some ⟨.ref C,some dx,.plain,#[]⟩:=I.obj
 refine Z0 (Y0 (Z0 (Z0 (wpAny_loadPart hx (Z0 (PySem.W.Looks.here (s:={ s with toks:=s.toks+1 }) (PySem.W.looks_clsIn X hc) ?_))))))
 rw [hd']
 refine Y0 (a:=some dx) (Z0 (Y0 (Z0 ?_)))
 refine wpAny_nsSet1 (s:={ s with toks:=s.toks+1 }) I.ns λh' hn2 hs2=>?_
 refine oq33 (hn2.count (PySem.Within.cons name v hw)) λoD esD epD hoD hdD hcD=>?_
 refine Z0 (wpAny_lookBehind hoD (by rw [hdD]; exact pastItsLine_dict (nz4 hcD (by rw [W4]; omega))) ?_)
 exact Y0 (h _ ⟨(hs2.2 _ (R5 I.ne)).trans I.obj,hn2,I.ne⟩ hs2)
theorem make_map {R:Result->Shared->Prop} {vs:List Value} {kw:List (Str × Value)} (X:K.In s.heap) (hm:PySem.W.makesIn K C=true)
  (hi:R4 K (.ref C) "__init__"=some (some (.ref f))) (hf:PySem.W.typeIn K (.ref f)=some (.type "function"))
  (h:codeAny (model prog w) (A.under (.builtin "type.__call__" ⟨.ref C :: vs,kw⟩)) (.call (.ref f) ⟨.ref (s.heap.objs.size+1) :: vs,kw⟩) (PySem.W.InitBack (s.heap.objs.size+1) R)
   { s with heap:=(s.heap.push O8).push (K7 C s.heap.objs.size) }) :
  codeAny (model prog w) A (.call (.ref C) ⟨vs,kw⟩) R s:=by
 obtain ⟨hh,g,d,t,os⟩:=s
 exact PySem.W.make_core (PySem.W.makes_of X hm) (PySem.W.looks_findIn X hi) (λself=>PySem.W.bind_fn X self hf) (.inl rfl) h
end
noncomputable def putF (f:Str) (v:V):List (Str × V)->List (Str × V)
 | []=>[(f,v)]
 | (g,x) :: r=>if g=f then (g,v) :: r else (g,x) :: putF f v r
theorem iT (f g:Str) (v:V):∀ fs:List (Str × V),(putF f v fs).lookup g=if g=f then some v else fs.lookup g
 | []=>by
  show L9 g [(f,v)]=_
  by_cases h:g=f
  ·have hb:(g == f)=true:=beq_iff_eq.mpr h
   simp only [L9,hb,if_pos h]
  ·have hb:(g == f)=false:=beq_eq_false_iff_ne.mpr h
   simp only [L9,hb,if_neg h]
 | (k,x) :: r=>by
  have ih:=iT f g v r
  rw [show putF f v ((k,x) :: r)=(if k=f then (k,v) :: r else (k,x) :: putF f v r) from rfl]
  by_cases hk:k=f
  ·rw [if_pos hk]
   by_cases h:g=k
   ·have hb:(g == k)=true:=beq_iff_eq.mpr h
    simp only [L9,hb,if_pos (h.trans hk)]
   ·have hb:(g == k)=false:=beq_eq_false_iff_ne.mpr h
    simp only [L9,hb,if_neg (fun e:g=f=>h (e.trans hk.symm))]
  ·rw [if_neg hk]
   by_cases h:g=k
   ·have hb:(g == k)=true:=beq_iff_eq.mpr h
    simp only [L9,hb,if_neg (fun e:g=f=>hk (h.symm.trans e))]
   ·have hb:(g == k)=false:=beq_eq_false_iff_ne.mpr h
    simp only [L9,hb]
    exact ih
theorem iu (f:Str) (v:V):∀ fs:List (Str × V),f∈(putF f v fs).map (·.1)/\∀ g,g∈fs.map (·.1)->g∈(putF f v fs).map (·.1)
 | []=>⟨by simp [putF],λg h=>by simp at h⟩
 | (k,x) :: r=>by
  refine oq02 (iu f v r) λi1 i2=>?_
  rw [show putF f v ((k,x) :: r)=(if k=f then (k,v) :: r else (k,x) :: putF f v r) from rfl]
  by_cases hk:k=f
  ·rw [if_pos hk]
   subst hk
   exact ⟨by simp,λg h=>by simpa using h⟩
  ·rw [if_neg hk]
   refine ⟨?_,λg h=>?_⟩
   ·rw [V0]
    exact X6 _ i1
   ·rw [V0] at h ⊢
    rcases Y4.mp h with e | e
    ·exact Y4.mpr (.inl e)
    ·exact X6 _ (i2 g e)
theorem iU (f:Str) (v:V):∀ fs:List (Str × V),(putF f v fs).length<=fs.length+1
 | []=>by simp [putF]
 | (k,x) :: r=>by
  have ih:=iU f v r
  rw [show putF f v ((k,x) :: r)=(if k=f then (k,v) :: r else (k,x) :: putF f v r) from rfl]
  by_cases hk:k=f
  ·rw [if_pos hk,W4,W4]; omega
  ·rw [if_neg hk,W4,W4]; omega
theorem RelO.some_of {v:V} {o:Option Value} (r:RelO (some v) o):∃ u,o=some u/\RelV v u:=by
 cases o with
 | none=>exact (show False from r).elim
 | some u=>exact ⟨u,rfl,r⟩
theorem RelO.none_of {o:Option Value} (r:RelO none o):o=none:=by
 cases o with
 | none=>rfl
 | some u=>exact (show False from r).elim
theorem handed_of {v:V} {u:Value} (r:RelV v u):PySem.W.handedIn u=true:=by
 cases v with
 | non=>cases (show u=M7 from r); rfl
 | bl b=>cases (show u=Value.bool b from r); rfl
 | int i=>refine oq11 ((show ∃ t,u=O9 i t from r)) λt e=>?_; cases e; rfl
 | str x=>refine oq11 ((show ∃ t,u=Value.str x t from r)) λt e=>?_; cases e; rfl
 | byt b=>refine oq11 ((show ∃ t,u=Value.bytes b t from r)) λt e=>?_; cases e; rfl
 | flt b=>refine oq11 ((show ∃ t,u=Value.float b t from r)) λt e=>?_; cases e; rfl
 | ref a=>cases (show u=S7 a from r); rfl
 | ty n=>cases (show u=A7 n from r); rfl
section
variable {P:W5} {w:World} {H:Hp} {h:Heap} {a C dx:Addr} {fs:List (Str × V)}
theorem ji (hok:HOk P w H h) (e:H a=some (.ins C dx fs)):∃ mA,ObjM h a dx C mA/\(∀ f,RelO (fs.lookup f) (mA f))/\PySem.Within mA (fs.map (·.1))/\fs.length<=1000/\H dx=some (.own a):=by
 refine oq05 ((show aS P w H h a (.ins C dx fs) from hok a _ e)) λd z ne ob zz=>oq13 zz λmA n r q=>?_
 exact ⟨mA,⟨ob,n,ne⟩,r,q,z,d⟩
end
structure Cls (K:Z3) (C:Addr):Prop where
 pg:D1 K C Str.empty=true
 hd:A2 K C=true
 po:PySem.W.plainOver K C=true
 sa:R4 K (.ref C) "__setattr__"=some (some (.builtin "object.__setattr__"))
theorem Cls.get {K:Z3} {C:Addr} (c:Cls K C) (f:Str):D1 K C f=true:=c.pg
def aU (K:Z3) (C:Addr) (f:Str):Prop:=R4 K (.ref C) f=some none
theorem aU.taker {K:Z3} {C:Addr} {f:Str} (n:aU K C f):PySem.W.takerIn K C f=some none:=by
 unfold PySem.W.takerIn
 rw [show R4 K (.ref C) f=some none from n]
 rfl
structure Meth (K:Z3) (C:Addr) (m:Str) (f:Addr):Prop where
 at_:R4 K (.ref C) m=some (some (.ref f))
 fn:PySem.W.isFn K (.ref f)=true
 kp:T5 K (.ref f)=true
section
variable {X:Cx} {pins:List (Addr × Obj)} {σ:St} {H:Hp} {s:Shared} {a C dx:Addr} {fs:List (Str × V)} {f:Str} {v:V} {A:Around} {E:Value->Shared->Prop}
theorem qG {b:Bool} {Q:Value->Shared->Prop} (I:Inv X pins σ H s) (e:H a=some (.ins C dx fs)) (c:Cls X.K C) (n:aU X.K C f) (l:fs.lookup f=some v)
  (h:∀ u s',Inv X pins σ H s'->RelV v u->Q u s'):wpAny (model X.prog X.w) A (getAttr (.ref a) f b) Q E s:=by
 refine oq15 (ji I.hok e) λmA O r _ _ _=>?_
 refine oq12 (RelO.some_of (v:=v) (o:=mA f) (by rw [<- l]; exact r f)) λu hu ru=>?_
 exact get_map I.kIn O (c.get f) c.hd n hu (handed_of ru) (h u _ (I.tok _) ru)
theorem qH {m:Str} {g:Addr} {pl:Sem Bool} {Q:Value × List Value->Shared->Prop} (I:Inv X pins σ H s) (e:H a=some (.ins C dx fs)) (c:Cls X.K C) (k:Meth X.K C m g) (l:fs.lookup m=none)
  (h:Q (.ref g,[.ref a]) s):wpAny (model X.prog X.w) A (getMethod (.ref a) m pl) Q E s:=by
 refine oq15 (ji I.hok e) λmA O r _ _ _=>?_
 have hn:mA m=none:=RelO.none_of (by rw [<- l]; exact r m)
 exact get_meth I.kIn O (c.get m) k.at_ k.fn hn h
theorem qI {y:V} {u:Value} {Q:Unit->Shared->Prop} (I:Inv X pins σ H s) (e:H a=some (.ins C dx fs)) (c:Cls X.K C) (n:aU X.K C f) (hl:fs.length<1000) (ry:RelV y u)
  (h:∀ s',Inv X pins σ (upd H a (.ins C dx (putF f y fs))) s'->Q () s'):wpAny (model X.prog X.w) A (setAttr (.ref a) f u) Q E s:=by
 refine oq15 (ji I.hok e) λmA O r wi _ ho=>?_
 have hz:(fs.map (·.1)).length<=V1:=by rw [Y3,V8]; omega
 refine set_map I.kIn O c.sa c.po n.taker c.hd wi hz λh' O' sb=>h _ ?_
 have hd:∃ o,h'.get? dx=some o:=oq32 O'.ns λo _ _ e' _=>⟨o,e'⟩
 refine I.write (x:=a) (e:=dx) (by rw [e]; exact M0) (.inr ho) (λb q hb z=>(sb.2 b hb).trans z) hd ?_
 refine ⟨by rw [ai O.ne]; exact ho,?_,O.ne,O'.obj,_,O'.ns,λg=>?_,λg hg=>?_⟩
 ·have:=iU f y fs; omega
 ·show RelO ((putF f y fs).lookup g) (if g=f then some u else mA g)
  rw [iT]
  by_cases q:g=f
  ·rw [if_pos q,if_pos q]; exact ry
  ·rw [if_neg q,if_neg q]; exact r g
 ·by_cases q:g=f
  ·rw [q]; exact (iu f y fs).1
  ·refine (iu f y fs).2 g (wi g λz=>hg ?_)
   show (if g=f then some u else mA g)=none
   rw [if_neg q]; exact z
theorem Inv.made (I:Inv X pins σ H s):Inv X pins σ (upd (upd H s.heap.objs.size (.own (s.heap.objs.size+1))) (s.heap.objs.size+1) (.ins C s.heap.objs.size []))
  { s with heap:=(s.heap.push O8).push (K7 C s.heap.objs.size) }:=by
 have e1:(s.heap.push O8).get? s.heap.objs.size=some O8:=X4 s.heap rfl
 have e2:((s.heap.push O8).push (K7 C s.heap.objs.size)).get? (s.heap.objs.size+1)=some (K7 C s.heap.objs.size):=by
  have:=X4 (s.heap.push O8) (o:=K7 C s.heap.objs.size) rfl
  rwa [M1] at this
 have e3:(s.heap.push O8).Ns s.heap.objs.size (λ_=>none):=⟨O8,#[],_,e1,rfl,(λe he=>absurd he (by simp)),λ_=>rfl⟩
 have I1:=I.laid (a:=s.heap.objs.size) (o:=.own (s.heap.objs.size+1)) (h':=s.heap.push O8) (t':=s.toks) (λb u q=>Z5 _ q) (nz6 _) ⟨_,e1⟩
 refine I1.laid (a:=s.heap.objs.size+1) (o:=.ins C s.heap.objs.size []) (t':=s.toks) (λb u q=>Z5 _ q) (nz3 (M1 _ _)) ?_
 have ne:s.heap.objs.size≠s.heap.objs.size+1:=nz7 (U1 _)
 refine ⟨by rw [ai ne,ah],U2 _,ne,e2,λ_=>none,(Heap.Ns1.of_empty e3).at λo q=>Z5 _ q,λ_=>M0,λy hy=>absurd rfl hy⟩
theorem attr_of {prog:W5} {w:World} {env:Env} {e:Expr} {f:Str} {pos:Pos} {s:Shared} {Q:Value->Shared->Prop} (hb:B2 e f env (eval e env)=eval e env)
  (h:wpAny (model prog w) A (eval e env) (λo s₁=>wpAny (model prog w) A (getAttr o f true) Q E s₁) E s):wpAny (model prog w) A (eval (.Attribute e f pos) env) Q E s :=
 Attribute_any_ h (by rw [arm_eval_Attribute,hb])
end
def tFld (K:Z3) (ta:TE) (f:Str):TE:=λσ H Q=>ta σ H λx H1=>∃ a C dx fs v,x=.ref a/\H1 a=some (.ins C dx fs)/\Cls K C/\aU K C f/\fs.lookup f=some v/\Q v H1
def sFld (K:Z3) (ta tv:TE) (f:Str):TS:=λD σ H=>tv σ H λy H1=>ta σ H1 λx H2=>∃ a C dx fs,x=.ref a/\H2 a=some (.ins C dx fs)/\Cls K C/\aU K C f/\fs.length<1000 /\
 D.nx σ (upd H2 a (.ins C dx (putF f y fs)))
section
variable {X:Cx} {o e value:Expr} {f:Str} {pos pos':Pos} {ta tv:TE}
theorem pe_fld (he:PE X e ta) (hb:B2 e f X.env (eval e X.env)=eval e X.env):PE X (.Attribute e f pos) (tFld X.K ta f):=by
 intro pins s σ H Q I h
 refine attr_of hb (thn (he pins s σ H _ I h) λu s1 zq=>oq23 zq λx H1 I1 rx zz=>oq56 zz λa C dx fs v ex ea c n l q=>?_)
 subst ex
 obtain rfl:u=S7 a:=rx
 exact qG I1 ea c n l λu' s2 I2 ru=>⟨v,H1,I2,ru,q⟩
theorem iw (ha:PE X o ta) (hv:PE X value tv) (hs:swapsWith value (some (.Attribute o f pos')) pos.line X.env=pure false):PS X (.Assign [.Attribute o f pos'] value pos) (sFld X.K ta tv f):=by
 intro pins s σ H D I h
 refine plainObj_wpAny_Assign_Attribute (thn (hv pins s σ H _ I h) λu s1 zq=>oq23 zq λy H1 I1 ry q=>thn (ha pins s1 σ H1 _ I1 q) λov s2 zq=>oq23 zq λx H2 I2 rx zz=>oq46 zz λa C dx fs ex ea c n l q2=>?_) hs
 subst ex
 obtain rfl:ov=S7 a:=rx
 exact qI I2 ea c n l ry λs3 I3=>⟨σ,_,I3,q2⟩
end
section
variable {X:Cx} {pins:List (Addr × Obj)} {σ:St} {H:Hp} {s:Shared} {A:Around} {E:Value->Shared->Prop} {Q:Value->Shared->Prop} {c:Value} {b:Bool}
inductive TyOf (K:Z3) (H:Hp):V->Value->Prop where
 | non:TyOf K H .non (.type "NoneType")
 | bl (x:Bool):TyOf K H (.bl x) (.type "bool")
 | int (i:Int):TyOf K H (.int i) (.type "int")
 | str (x:Str):TyOf K H (.str x) (.type "str")
 | flt (x:UInt64):TyOf K H (.flt x) (.type "float")
 | lst {a:Addr} {xs:List V} (e:H a=some (.lst xs)):TyOf K H (.ref a) (.type "list")
 | frz {a:Addr} {o:Obj} {xs:List V} (e:H a=some (.frz o (.lst xs))):TyOf K H (.ref a) (.type "list")
 | tup {a:Addr} {xs:List V} (e:H a=some (.tup xs)):TyOf K H (.ref a) (.type "tuple")
 | dK {a:Addr} {kvs:List (Key × V)} (e:H a=some (.dK kvs)):TyOf K H (.ref a) (.type "dict")
 | dT {a:Addr} {kvs:List (List Key × V)} (e:H a=some (.dT kvs)):TyOf K H (.ref a) (.type "dict")
 | ins {a C dx:Addr} {fs:List (Str × V)} (e:H a=some (.ins C dx fs)) (cl:Cls K C) (ha:R4 K (.ref C) "__class__"=some (some (.builtin "object.__class__")))
   (hn:PySem.W.specialIn K (.builtin "object.__class__") "__get__"=some (some (.builtin "getset_descriptor.__get__"))) (htk:PySem.W.takesIn K (.builtin "object.__class__")=some true)
   (hm:PySem.W.mroIn K C (.type "object")=some true):TyOf K H (.ref a) (.ref C)
theorem isinst_ok {x:V} {u t:Value} (I:Inv X pins σ H s) (rx:RelV x u) (ty:TyOf X.K H x t) (e:J5 X.K t c=some b) (h:∀ tk,Q (.bool b) { s with toks:=tk }) :
  wpAny (model X.prog X.w) A (call (.builtin "isinstance") [u,c]) Q E s:=by
 cases ty with
 | non=>cases (show u=M7 from rx); exact O0 PySem.W.kitx_none I.kIn M0 e (λz=>nomatch z) h
 | bl y=>cases (show u=Value.bool y from rx); exact O0 PySem.W.kitx_bool I.kIn M0 e (λz=>nomatch z) h
 | int i=>refine oq11 ((show ∃ t,u=O9 i t from rx)) λt q=>?_; cases q; exact O0 PySem.W.kitx_int I.kIn M0 e (λz=>nomatch z) h
 | str y=>refine oq11 ((show ∃ t,u=Value.str y t from rx)) λt q=>?_; cases q; exact O0 PySem.W.kitx_str I.kIn M0 e (λz=>nomatch z) h
 | flt y=>refine oq11 ((show ∃ t,u=Value.float y t from rx)) λt q=>?_; cases q; exact O0 PySem.W.kitx_float I.kIn M0 e (λz=>nomatch z) h
 | @lst a xs ea =>
  cases (show u=S7 a from rx)
  refine oq02 ((show aS X.prog X.w H s.heap a (.lst xs) from I.hok a _ ea)) λ_ zz=>oq22 zz λ_ n _ h1=>?_
  exact O0 PySem.W.kitx_list I.kIn ⟨_,h1,rfl⟩ e (λz=>nomatch z) h
 | @frz a ob xs ea =>
  cases (show u=S7 a from rx)
  refine oq03 ((show aS X.prog X.w H s.heap a (.frz ob (.lst xs)) from I.hok a _ ea)) λ_ _ zz=>oq22 zz λ_ n _ h1=>?_
  exact O0 PySem.W.kitx_list I.kIn ⟨_,h1,rfl⟩ e (λz=>nomatch z) h
 | @tup a xs ea =>
  cases (show u=S7 a from rx)
  refine oq02 ((show aS X.prog X.w H s.heap a (.tup xs) from I.hok a _ ea)) λ_ zz=>oq12 zz λ_ _ p=>?_
  refine oq13 p λo h1 h2 _=>?_
  exact O0 PySem.W.kitx_tuple I.kIn ⟨o,h1,h2⟩ e (λz=>nomatch z) h
 | @dK a kvs ea =>
  cases (show u=S7 a from rx)
  refine oq03 ((show aS X.prog X.w H s.heap a (.dK kvs) from I.hok a _ ea)) λ_ _ zz=>oq12 zz λvs _ p=>?_
  refine oq33 p λo es ep h1 h2 _=>?_
  exact O0 PySem.W.kitx_dict I.kIn ⟨o,h1,h2.1⟩ e (λz=>nomatch z) h
 | @dT a kvs ea =>
  cases (show u=S7 a from rx)
  refine oq03 ((show aS X.prog X.w H s.heap a (.dT kvs) from I.hok a _ ea)) λ_ _ zz=>oq12 zz λxs _ zz=>oq33 zz λo es ep h1 h2 _=>?_
  exact O0 PySem.W.kitx_dict I.kIn ⟨o,h1,h2.1⟩ e (λz=>nomatch z) h
 | @ins a C dx fs ea cl ha hn htk hm =>
  cases (show u=S7 a from rx)
  refine oq12 (ji I.hok ea) λmA O _=>?_
  refine oq12 O.look λod J _=>?_
  exact O0 (PySem.W.kitx_own (cl.get _) cl.hd ha hn htk hm) I.kIn J e (λz=>nomatch z) h
end
end L2
namespace L2
open PySem PySem.Spec PyProof.Rows
structure Room (k:Nat) (A:Around):Prop where
 hd:A.handled=none
 dp:A.depth+3 * k+5<D2
 un:A.units+16 * k+200<cLine
theorem Room.mono {j k:Nat} {A:Around} (r:Room k A) (h:j<=k):Room j A:=⟨r.hd,by have:=r.dp; omega,by have:=r.un; omega⟩
theorem Room.deeper {k:Nat} {A:Around} (r:Room (k+1) A) (env:Env):Room k (A.deeper env) :=
 ⟨r.hd,by have:=r.dp; show A.depth+1+3 * k+5<_; omega,by have:=r.un; show A.units+3+16 * k+200<_; omega⟩
theorem Room.in1 {k:Nat} {A:Around} (r:Room (k+1) A):Room k A.in1 :=
 ⟨r.hd,by have:=r.dp; show A.depth+3 * k+5<_; omega,by have:=r.un; show A.units+1+16 * k+200<_; omega⟩
theorem qJ {A:Around} {C:Addr} {us:List Value} {kw:List (Str × Value)}:(A.under (.builtin "type.__call__" ⟨.ref C :: us,kw⟩)).depth=A.depth+1:=by
 first | rfl | simp [Around.under,Code.weight,Code.isCreation,Code.isGuard,Code.isCaller,Code.frames,Code.isFrame,guardIds]
theorem qK {A:Around} {C:Addr} {us:List Value} {kw:List (Str × Value)}:(A.under (.builtin "type.__call__" ⟨.ref C :: us,kw⟩)).units=A.units+1:=by
 first | rfl | simp [Around.under,Code.cUnits,Code.frames,Code.isFrame]
theorem Room.make {k:Nat} {A:Around} (r:Room (k+1) A) (C:Addr) (us:List Value) (kw:List (Str × Value)):Room k (A.under (.builtin "type.__call__" ⟨.ref C :: us,kw⟩)) :=
 ⟨r.hd,by have:=r.dp; rw [qJ]; omega,by have:=r.un; rw [qK]; omega⟩
theorem Room.depth {k:Nat} {A:Around} (r:Room k A):A.depth<D2:=by have:=r.dp; omega
theorem Room.units {k:Nat} {A:Around} (r:Room k A):A.units+64<cLine:=by have:=r.un; omega
def tNil:TA:=λ_ H Q=>Q [] H
def aZ (ta:TE) (tr:TA):TA:=λσ H Q=>ta σ H λx H1=>tr σ H1 λxs H2=>Q (x :: xs) H2
section
variable {X:Cx} {e:Expr} {es:List Expr} {te:TE} {t:TA} {pos:Pos}
theorem a9:PA X [] tNil:=λ_ _ _ _ H Q I h=>Calls.spliced_nil ⟨[],H,I,.nil,h⟩
theorem a7 (ha:PE X e te) (hr:PA X es t) (hs:autoParam (V4 (e :: es) X.env=(false,eval e X.env) :: V4 es X.env) L2.a2q._auto_1):PA X (e :: es) (aZ te t):=by
 intro pos pins s σ H Q I h
 rw [hs]
 show wpAny _ _ (spliced ((false,eval e X.env) :: backTo pos (V4 es X.env))) _ _ s
 refine Calls.spliced_cons (thn (ha pins s σ H _ I h) λu s1 zq=>oq23 zq λx H1 I1 r1 q1=>?_)
 exact thn (hr pos pins s1 σ H1 _ I1 q1) λus s2 zq=>oq23 zq λxs H2 I2 r2 q2=>⟨x :: xs,H2,I2,.cons r1 r2,q2⟩
def tTup (t:TA):TE:=λσ H Q=>t σ H λxs H1=>xs.length<=V1/\∀ p,H1 p=none->Q (.ref p) (upd H1 p (.tup xs))
def tLst (t:TA):TE:=λσ H Q=>t σ H λxs H1=>xs.length<=V1/\∀ p,H1 p=none->Q (.ref p) (upd H1 p (.lst xs))
theorem jA {x1} (h:PA X es t):PE X (.Tuple es x1 pos) (tTup t):=by
 intro pins s σ H Q I hq
 refine wpAny_Tuple_spliced (thn (h pos pins s σ H _ I hq) λus s1 zq=>oq24 zq λxs H1 I1 r z q=>⟨by rw [<- r.length]; exact z,?_⟩)
 have hf:H1 s1.heap.objs.size=none:=I1.hok.fresh (nz6 _)
 refine ⟨.ref s1.heap.objs.size,upd H1 s1.heap.objs.size (.tup xs),I1.laid (t':=s1.toks) (λb u e=>Z5 _ e) (nz6 _) ?_,rfl,q _ hf⟩
 exact ⟨z,us,r,⟨_,X4 _ rfl,rfl,_,rfl⟩⟩
theorem cn (h:PA X es t):PE X (.List es pos) (tLst t):=by
 intro pins s σ H Q I hq
 refine wpAny_List_spliced (thn (h pos pins s σ H _ I hq) λus s1 zq=>oq24 zq λxs H1 I1 r z q=>⟨by rw [<- r.length]; exact z,?_⟩)
 have hf:H1 s1.heap.objs.size=none:=I1.hok.fresh (nz6 _)
 refine ⟨.ref s1.heap.objs.size,upd H1 s1.heap.objs.size (.lst xs),I1.laid (t':=s1.toks) (λb u e=>Z5 _ e) (nz6 _) ?_,rfl,q _ hf⟩
 exact ⟨z,us,0,r,X4 _ rfl⟩
end
noncomputable abbrev Sp:=List V->Hp->VK->XK->Prop
noncomputable abbrev CXT:=List Env->Hp->Shared->XK->Value->Shared->Prop
structure Env0 (P:W5) (w:World) (K:Z3) (mg:Str->Option Value) (base:Heap) (A:Around) (outer:List Env) (s:Shared) (H:Hp):Prop where
 frames:A.frames=some outer
 mod:Mod K mg base
 bs:∀ b o,base.get? b=some o->s.heap.get? b=some o/\H b=none
 bsz:base.objs.size<=s.heap.objs.size
 funs:s.heap.FunFrames base outer
 frf:∀ b∈frs outer,H b=none
 hok:HOk P w H s.heap
 bare:AllBare s.gens
noncomputable def CE (outer:List Env) (P:W5) (w:World) (H:Hp) (s:Shared) (Q:VK) (u:Value) (s':Shared):Prop :=
 ∃ v H',s'.os=s.os/\AllBare s'.gens/\Un (frs outer) [] H H' s.heap s'.heap/\HOk P w H' s'.heap/\RelV v u/\Q v H'
noncomputable def CR (CX:CXT) (outer:List Env) (P:W5) (w:World) (H:Hp) (s:Shared) (Q:VK) (E:XK) (r:Result) (s':Shared):Prop :=
 match r with
 | .ok (.ret u)=>CE outer P w H s Q u s'
 | .ok _=>False
 | .error e=>CX outer H s E e s'
structure FnOk (P:W5) (w:World) (K:Z3) (mg:Str->Option Value) (base:Heap) (CX:CXT) (k:Nat) (f:Addr) (fd:C9) (ps:List Str) (sp:Sp):Prop where
 len:∀ vs H Q E,sp vs H Q E->vs.length=ps.length
 run:∀ (A:Around) (outer:List Env) (s:Shared) (H:Hp) (args:Args) (us:List Value) (vs:List V) (Q:VK) (E:XK),Room k A->Env0 P w K mg base A outer s H->BindsTo s fd args (ps.zip us)->Vals vs us->sp vs H Q E ->
  codeAny (model P w) A (.call (.ref f) args) (CR CX outer P w H s Q E) s
theorem Env0.make {P:W5} {w:World} {K:Z3} {mg:Str->Option Value} {base:Heap} {A:Around} {outer:List Env} {s:Shared} {H:Hp} (e:Env0 P w K mg base A outer s H) (C:Addr) (us:List Value) (kw:List (Str × Value)) :
  Env0 P w K mg base (A.under (.builtin "type.__call__" ⟨.ref C :: us,kw⟩)) outer s H:=⟨by first | exact e.frames | (simpa [Around.under,Code.envs,Code.isFrame,pushEnvs] using e.frames),e.mod,e.bs,e.bsz,e.funs,e.frf,e.hok,e.bare⟩
section
variable {X:Cx} {pins:List (Addr × Obj)} {σ:St} {H:Hp} {s s':Shared}
theorem Inv.env0 (I:Inv X pins σ H s):Env0 X.prog X.w X.K X.mg X.base X.A X.stack s H :=
 ⟨I.ok.frames,I.ok.mod,I.bs,nz4 I.ok.bsz I.sz,I.stack,I.stkFree,I.hok,I.bare⟩
theorem Inv.after {Q:VK} {u:Value} (I:Inv X pins σ H s) (h:CE X.stack X.prog X.w H s Q u s'):EP X pins σ Q u s':=by
 refine oq26 h λv H' os bare un hok r q=>?_
 obtain ⟨hh,g,d,t,os'⟩:=s'
 obtain rfl:os'=s.os:=os
 exact ⟨v,H',I.call (h':=hh) (g':=g) (d':=d) (t':=t) (ch:=[]) un hok bare (λb z=>absurd z (by simp)),r,q⟩
end
def tCall (sp:Sp) (dvs:List V) (E:XK) (t:TA):TE:=λσ H Q=>t σ H λvs H1=>sp (vs++dvs) H1 Q E
def lA (C:Addr) (m:Str) (sp:Sp) (dvs:List V) (E:XK) (ta:TE) (t:TA):TE:=λσ H Q=>ta σ H λx H1=>∃ a dx fs,x=.ref a/\H1 a=some (.ins C dx fs)/\fs.lookup m=none /\
 t σ H1 λvs H2=>sp (x :: (vs++dvs)) H2 Q E
def tMake (C:Addr) (sp:Sp) (dvs:List V) (E:XK) (t:TA):TE:=λσ H Q=>t σ H λvs H1=>∀ x dx,H1 x=none->H1 dx=none->dx≠x ->
 sp (.ref x :: (vs++dvs)) (upd (upd H1 dx (.own x)) x (.ins C dx [])) (λv H2=>v=.non/\Q (.ref x) H2) E
noncomputable def Binds (K:Z3) (fd:C9) (ps:List Str) (ds:List Value):Prop :=
 ∀ (s:Shared) (us:List Value),K.In s.heap->(us++ds).length=ps.length->BindsTo s fd ⟨us,[]⟩ (ps.zip (us++ds))
theorem Binds.all {K:Z3} {fd:C9} {ps:List Str} (h:∀ us:List Value,us.length=ps.length->A9 fd ⟨us,[]⟩=pure (ps.zip us)):Binds K fd ps []:=λs us _ hl=>by
 rw [V6] at hl ⊢
 exact .of_eq (h us hl)
def iy (CX:CXT) (X:Cx) (E:XK):Prop:=∀ (pins:List (Addr × Obj)) (σ:St) (H:Hp) (s:Shared) (e:Value) (s':Shared),Inv X pins σ H s->CX X.stack H s E e s'->X.xe e s'
section
variable {X:Cx} {CX:CXT} {k:Nat} {f C:Addr} {fd:C9} {ps:List Str} {sp:Sp} {dvs:List V} {ds:List Value} {E:XK} {x m:Str} {p pos apos:Pos} {e o:Expr} {es:List Expr} {ta:TE} {t:TA}
theorem run_fn {pins:List (Addr × Obj)} {σ:St} {H:Hp} {s:Shared} {Q:VK} {us:List Value} {vs:List V} (F:FnOk X.prog X.w X.K X.mg X.base CX k f fd ps sp) (hr:Room k X.A) (hb:Binds X.K fd ps ds) (hd:Vals dvs ds) (hx:iy CX X E)
  (I:Inv X pins σ H s) (r:Vals vs us) (h:sp (vs++dvs) H Q E):wpAny (model X.prog X.w) X.A (call (.ref f) us) (EP X pins σ Q) X.xe s:=by
 have r2:Vals (vs++dvs) (us++ds):=r.append hd
 have hl:(us++ds).length=ps.length:=by rw [<- r2.length]; exact F.len _ _ _ _ h
 refine wpAny_call (C1 (F.run X.A X.stack s H ⟨us,[]⟩ (us++ds) (vs++dvs) Q E hr I.env0 (hb s us I.kIn hl) r2 h) λr s' hq=>?_)
 cases r with
 | error e=>exact hx pins σ H s e s' I hq
 | ok fl =>
  cases fl with
  | ret u=>exact I.after hq
  | next=>exact R9 hq
  | brk=>exact R9 hq
  | cont=>exact R9 hq
theorem pe_call (F:FnOk X.prog X.w X.K X.mg X.base CX k f fd ps sp) (hr:Room k X.A) (hg:Gl X x) (hm:X.mg x=some (.ref f)) (hk:T5 X.K (.ref f)=true) (hb:Binds X.K fd ps ds) (hd:Vals dvs ds) (hx:iy CX X E)
  (ha:PA X (e :: es) t) (hdb:autoParam ((x == ("__debug__":Str))=false) L2.a0q._auto_1) (he:autoParam (V4 (e :: es) X.env=(false,eval e X.env) :: V4 es X.env) L2.a2q._auto_1) (hpl:autoParam ((backTo pos (V4 es X.env)).any (·.1)=false) L2.a2q._auto_1) :
  PE X (.Call (.Name x p) (e :: es) [] pos) (tCall sp dvs E t):=by
 intro pins s σ H Q I h
 refine M8 (me I hg hm ?_ hdb)
 refine PySem.W.callWith_K (h₀:=X.base) I.ok.mod.kin hk (thn (ha pos pins s σ H _ I h) λus s1 zq=>oq23 zq λvs H1 I1 r q=>⟨I1.kIn,?_⟩) he hpl
 exact run_fn F hr hb hd hx I1 r q
theorem pe_meth {pl:Sem Bool} (he:PE X o ta) (c:Cls X.K C) (hm:Meth X.K C m f) (F:FnOk X.prog X.w X.K X.mg X.base CX k f fd ps sp) (hr:Room k X.A) (hb:Binds X.K fd ps ds) (hd:Vals dvs ds) (hx:iy CX X E) (ha:PA X (e :: es) t)
  (hst:autoParam (V4 (e :: es) X.env=(false,eval e X.env) :: V4 es X.env) L2.a2q._auto_1) (hpl:autoParam ((backTo pos (V4 es X.env)).any (·.1)=false) L2.a2q._auto_1)
  (ht:eval (.Call (.Attribute o m apos) (e :: es) [] pos) X.env=(do
   let ov <- eval o X.env
   standAt apos.atName
   let (f,first) <- holding [ov] (getMethod ov m pl)
   callWith pos f first (backTo pos (V4 (e :: es) X.env)) (backToKw pos (keywordEach [] X.env))):=by rfl) :
  PE X (.Call (.Attribute o m apos) (e :: es) [] pos) (lA C m sp dvs E ta t):=by
 intro pins s σ H Q I h
 refine PySem.W.methodCall_KW (pl:=pl) (thn (he pins s σ H _ I h) λu s1 zq=>oq23 zq λx H1 I1 rx zz=>oq34 zz λa dx fs ex ea l q=>?_) ht
 subst ex
 obtain rfl:u=S7 a:=rx
 refine qH I1 ea c hm l ?_
 refine PySem.W.callWith_K (first:=[.ref a]) (h₀:=X.base) I.ok.mod.kin hm.kp (thn (ha pos pins s1 σ H1 _ I1 q) λus s2 zq=>oq23 zq λvs H2 I2 r q2=>⟨I2.kIn,?_⟩) hst hpl
 exact run_fn (us:=.ref a :: us) (vs:=.ref a :: vs) F hr hb hd hx I2 (.cons rfl r) q2
structure Mk (K:Z3) (C f:Addr):Prop where
 makes:PySem.W.makesIn K C=true
 init:R4 K (.ref C) "__init__"=some (some (.ref f))
 fn:PySem.W.isFn K (.ref f)=true
 kp:T5 K (.ref C)=true
theorem run_make {pins:List (Addr × Obj)} {σ:St} {H:Hp} {s:Shared} {Q:VK} {us:List Value} {vs:List V} (M:Mk X.K C f) (F:FnOk X.prog X.w X.K X.mg X.base CX k f fd ps sp) (hr:Room (k+1) X.A) (hb:Binds X.K fd ps ds) (hd:Vals dvs ds)
  (hx:iy CX X E) (I:Inv X pins σ H s) (r:Vals vs us)
  (h:∀ x dx,H x=none->H dx=none->dx≠x->sp (.ref x :: (vs++dvs)) (upd (upd H dx (.own x)) x (.ins C dx [])) (λv H2=>v=.non/\Q (.ref x) H2) E) :
  wpAny (model X.prog X.w) X.A (call (.ref C) us) (EP X pins σ Q) X.xe s:=by
 have hq:=h (s.heap.objs.size+1) s.heap.objs.size (I.hok.fresh (P6 _)) (I.hok.fresh (nz6 _)) (nz7 (U1 _))
 have I2:=Inv.made (C:=C) I
 have r2:Vals (V.ref (s.heap.objs.size+1) :: (vs++dvs)) (S7 (s.heap.objs.size+1) :: (us++ds)):=.cons rfl (r.append hd)
 have hl:(S7 (s.heap.objs.size+1) :: us++ds).length=ps.length:=by
  have e:=r2.length
  rw [F.len _ _ _ _ hq] at e
  exact e.symm
 refine wpAny_call (make_map (f:=f) I.kIn M.makes M.init (beq_iff_eq.mp M.fn) (C1 (F.run _ X.stack _ _ ⟨S7 (s.heap.objs.size+1) :: us,[]⟩ (S7 (s.heap.objs.size+1) :: (us++ds)) _ _ E (hr.make C us [])
  (I2.env0.make C us []) (hb _ (S7 (s.heap.objs.size+1) :: us) I2.kIn hl) r2 hq) λr s' hq'=>?_))
 cases r with
 | error e=>exact hx pins σ _ _ e s' I2 hq'
 | ok fl =>
  cases fl with
  | ret u =>
   refine oq24 (I2.after hq') λv H' I3 rv ev q3=>?_
   subst ev
   exact ⟨rv,⟨V.ref (s.heap.objs.size+1),H',I3,rfl,q3⟩⟩
  | next=>exact R9 hq'
  | brk=>exact R9 hq'
  | cont=>exact R9 hq'
theorem pe_make (M:Mk X.K C f) (F:FnOk X.prog X.w X.K X.mg X.base CX k f fd ps sp) (hr:Room (k+1) X.A) (hg:Gl X x) (hm:X.mg x=some (.ref C)) (hb:Binds X.K fd ps ds) (hd:Vals dvs ds) (hx:iy CX X E)
  (ha:PA X (e :: es) t) (hdb:autoParam ((x == ("__debug__":Str))=false) L2.a0q._auto_1) (he:autoParam (V4 (e :: es) X.env=(false,eval e X.env) :: V4 es X.env) L2.a2q._auto_1) (hpl:autoParam ((backTo pos (V4 es X.env)).any (·.1)=false) L2.a2q._auto_1) :
  PE X (.Call (.Name x p) (e :: es) [] pos) (tMake C sp dvs E t):=by
 intro pins s σ H Q I h
 refine M8 (me I hg hm ?_ hdb)
 refine PySem.W.callWith_K (h₀:=X.base) I.ok.mod.kin M.kp (thn (ha pos pins s σ H _ I h) λus s1 zq=>oq23 zq λvs H1 I1 r q=>⟨I1.kIn,?_⟩) he hpl
 exact run_make M F hr hb hd hx I1 r q
end
structure FnScope (N P:List Str) (sc:Scope):Prop where
 kind:sc.kind=.function
 co:sc.isCoroutine=false
 gen:sc.isGenerator=false
 nd:N.Nodup
 pre:N.take P.length=P
 par:∀ x∈P,sc.names.lookup x=some .local\/sc.names.lookup x=some .cell
 nofree:∀ y∈sc.names,y.2≠.free
theorem lB {kindOf:Str->Option N6} {x:Str}:∀ {binds:List (Str × Value)} {m:Str->Option Value},(∀ v,(x,v) ∉ binds)->bindL kindOf binds m x=m x
 | [],_,_=>rfl
 | (n,v) :: r,m,h=>by
  unfold bindL
  rw [lB λw hw=>h w (X6 _ hw)]
  split
  ·have:x≠n:=by rintro rfl; exact h v W6
   simp [this]
  ·rfl
theorem lD {kindOf:Str->Option N6} {x:Str}:∀ {binds:List (Str × Value)} {m:Str->Option Value},(∀ v,(x,v) ∉ binds)->bindC kindOf binds m x=m x
 | [],_,_=>rfl
 | (n,v) :: r,m,h=>by
  unfold bindC
  rw [lD λw hw=>h w (X6 _ hw)]
  split
  ·rfl
  ·have:x≠n:=by rintro rfl; exact h v W6
   simp [this]
theorem lE {kindOf:Str->Option N6} {x:Str} {v:Value}:∀ {P:List Str} {vs:List Value} {i:Nat} {m:Str->Option Value},P.Nodup->P[i]?=some x->vs[i]?=some v->kindOf x=some .local ->
  bindL kindOf (P.zip vs) m x=some v
 | [],_,_,_,_,h,_,_=>by simp at h
 | _ :: _,[],_,_,_,_,h,_=>by simp at h
 | p :: P,w :: vs,0,m,nd,h1,h2,hk=>by
  simp at h1 h2; subst h1; subst h2
  show bindL kindOf ((p,w) :: P.zip vs) m p=_
  unfold bindL
  rw [lB λv hv=>(List.nodup_cons.mp nd).1 (List.of_mem_zip hv).1,if_pos hk]
  simp
 | p :: P,w :: vs,i+1,m,nd,h1,h2,hk=>by
  show bindL kindOf ((p,w) :: P.zip vs) m x=_
  unfold bindL
  exact lE (i:=i) (List.nodup_cons.mp nd).2 (by simpa using h1) (by simpa using h2) hk
theorem lF {kindOf:Str->Option N6} {x:Str} {v:Value}:∀ {P:List Str} {vs:List Value} {i:Nat} {m:Str->Option Value},P.Nodup->P[i]?=some x->vs[i]?=some v->kindOf x≠some .local ->
  bindC kindOf (P.zip vs) m x=some v
 | [],_,_,_,_,h,_,_=>by simp at h
 | _ :: _,[],_,_,_,_,h,_=>by simp at h
 | p :: P,w :: vs,0,m,nd,h1,h2,hk=>by
  simp at h1 h2; subst h1; subst h2
  show bindC kindOf ((p,w) :: P.zip vs) m p=_
  unfold bindC
  rw [lD λv hv=>(List.nodup_cons.mp nd).1 (List.of_mem_zip hv).1,if_neg hk]
  simp
 | p :: P,w :: vs,i+1,m,nd,h1,h2,hk=>by
  show bindC kindOf ((p,w) :: P.zip vs) m x=_
  unfold bindC
  exact lF (i:=i) (List.nodup_cons.mp nd).2 (by simpa using h1) (by simpa using h2) hk
noncomputable def start (N:List Str) (vs:List V):St:=vs.map some++T6 (N.length - vs.length) none
noncomputable def cxOf (CX:CXT) (P:W5) (w:World) (K:Z3) (mg:Str->Option Value) (base:Heap) (N:List Str) (qual:Str) (scope:Scope) (f:Addr) (cd:Value) (A:Around) (outer:List Env) (s:Shared) (H:Hp) (E:XK):Cx where
 prog:=P
 w:=w
 K:=K
 mg:=mg
 base:=base
 A:=A.deeper (envOfC qual scope s.heap.objs.size f cd)
 N:=N
 s₀:=s
 H₀:=H
 env:=envOfC qual scope s.heap.objs.size f cd
 outer:=outer
 stack:=envOfC qual scope s.heap.objs.size f cd :: outer
 ex:=[]
 calm:=true
 fn:=λ_=>true
 pn:=[]
 xe:=λe s'=>wpAny (model P w) (A.deeper (envOfC qual scope s.heap.objs.size f cd)) (leaving (envOfC qual scope s.heap.objs.size f cd) e) (λ_ s''=>CX outer H s E e s'') (λe' s''=>CX outer H s E e' s'') s'
theorem o8 {sc:Scope} {n:Nat} {x:Str} (h:sc.names.lookup x=some .cell):∃ c,(cellsFrom n sc.names []).lookup x=some c:=by
 have q:=PySem.W.cellsFrom_some sc.names n [] (.inl h)
 exact Option.isSome_iff_exists.mp q
theorem inv_start {CX:CXT} {P:W5} {w:World} {K:Z3} {mg:Str->Option Value} {base:Heap} {N ps:List Str} {qual:Str} {scope:Scope} {f:Addr} {cd:Value} {A:Around} {outer:List Env} {s s1:Shared} {H:Hp} {E:XK} {us:List Value} {vs:List V}
  (S:FnScope N ps scope) (hd:A.handled=none) (e0:Env0 P w K mg base A outer s H) (hl:vs.length=ps.length) (r:Vals vs us)
  (x:InCallC s s.heap.objs.size (bindL (envOfC qual scope s.heap.objs.size f cd).kindOf (ps.zip us) λ_=>none) (cellsFrom (s.heap.objs.size+1) scope.names []) (bindC (envOfC qual scope s.heap.objs.size f cd).kindOf (ps.zip us) λ_=>none) s1) :
  Inv (cxOf CX P w K mg base N qual scope f cd A outer s H E) [] (start N vs) H s1:=by
 have hpl:ps.length<=N.length:=by have:=congrArg List.length S.pre; rw [V7] at this; omega
 refine oq22 x.done λh1 tk eq2_ hk=>?_; subst eq2_
 have noA:∀ b:Addr,b ∉ (cxOf CX P w K mg base N qual scope f cd A outer s H E).ex:=λb z=>absurd (show b∈([]:List Addr) from z) (by simp)
 refine ⟨⟨e0.mod,S.kind,rfl,rfl,nz6 _,λy z c h1 h2=>?_,λy hy=>?_,λy c _ h=>?_,λ_=>hd,Around.frames_deeper e0.frames,.inr ⟨rfl,rfl⟩,λb z=>absurd z (noA b),e0.bs,e0.bsz,λb _ _=>noA b,λb z=>absurd z (noA b),e0.funs,e0.frf⟩,
  rfl,e0.bare,Un.kept hk,⟨_,x.toInCall.ns,λi y v h1 h2 h3=>?_⟩,λy c h=>⟨_,x.cell y c h⟩,e0.hok.fresh (nz6 _),λy c h=>?_,λp hp=>absurd (show p∈([]:List (Addr × Obj)) from hp) (by simp),e0.hok.kept hk,?_⟩
 ·exact name_of_addr x.apart (R7 h1) (R7 h2)
 ·have hy:scope.names.lookup y=some .cell\/scope.names.lookup y=some .free:=hy
  rcases hy with hy | hy
  ·exact o8 hy
  ·exact absurd rfl (S.nofree _ (R7 hy))
 ·exact nz5 (x.above y c (R7 h))
 ·have hi:i<vs.length:=by
   unfold start at h2
   by_cases hi:i<vs.length
   ·exact hi
   ·rw [Y5 (by simpa using hi)] at h2
    rw [List.getElem?_replicate] at h2
    split at h2 <;> cases h2
  have ha:vs[i]?=some v:=by
   unfold start at h2
   rw [X8 (by simpa using hi),X2] at h2
   cases e:vs[i]? with
   | none=>rw [e] at h2; cases h2
   | some a=>rw [e] at h2; cases h2; rfl
  refine oq12 (r.get ha) λu hu rv=>?_
  have hp:ps[i]?=some y:=by
   rw [<- S.pre,R3 (by omega)]; exact h1
  have ndP:ps.Nodup:=by rw [<- S.pre]; exact S.nd.sublist (List.take_sublist _ _)
  refine ⟨u,rv,?_⟩
  rcases S.par y (W8 hp) with k | k
  ·exact .inl ⟨k,lE ndP hp hu k⟩
  ·refine oq11 (o8 (n:=s.heap.objs.size+1) k) λc e=>?_
   refine .inr ⟨.inl k,c,e,?_⟩
   have q:=x.cell y c e
   rw [lF ndP hp hu (by show scope.names.lookup y≠_; rw [k]; decide)] at q
   exact q
 ·exact e0.hok.fresh (nz5 (x.above y c (R7 h)))
 ·unfold start
  show _=N.length
  rw [Y8,Y3,B5]
  omega
theorem fn_of {CX:CXT} {P:W5} {w:World} {K:Z3} {mg:Str->Option Value} {base:Heap} {k:Nat} {f:Addr} {name qual:Str} {params:Arguments} {body:List Stmt} {scope:Scope} {dV kV doc pm cdv ct oc:Value} {an od:Option Addr}
  {osl:Array (Option Value)} {N ps:List Str} {sp:Sp} (lk:K.lookup f=some ⟨oc,od,.func (T7 name qual params body scope dV kV doc pm an cdv ct),osl⟩) (hcd:P7 K cdv qual=true) (S:FnScope N ps scope)
  (len:∀ vs H Q E,sp vs H Q E->vs.length=ps.length)
  (hbody:∀ (A:Around) (outer:List Env) (s:Shared) (H:Hp) (vs:List V) (Q:VK) (E:XK),Room k (A.deeper (envOfC qual scope s.heap.objs.size f cdv))->sp vs H Q E ->
   ∃ t,PSs (cxOf CX P w K mg base N qual scope f cdv A outer s H E) body t/\t { nx:=λ_ H'=>Q .non H',rt:=Q } (start N vs) H) :
  FnOk P w K mg base CX (k+1) f (T7 name qual params body scope dV kV doc pm an cdv ct) ps sp:=by
 refine ⟨len,λA outer s H args us vs Q E hr e0 hb r hsp=>?_⟩
 have hl:=len _ _ _ _ hsp
 have KX:K.In s.heap:=e0.mod.kin.keeps λb o e=>(e0.bs b o e).1
 have lim:s.heap.NoLimit:=e0.mod.nolimit.keeps λb o e=>(e0.bs b o e).1
 have hkind:∀ y∈ps.zip us,scope.names.lookup y.1=some .local\/(scope.names.lookup y.1=some .cell/\((cellsFrom (s.heap.objs.size+1) scope.names []).lookup y.1).isSome=true):=λ⟨n,v⟩ hy=>by
  rcases S.par n (List.of_mem_zip hy).1 with q | q
  ·exact .inl q
  ·exact .inr ⟨q,PySem.W.cellsFrom_some _ _ _ (.inl q)⟩
 refine codeAny_call_function hr.depth (KX _ _ lk) rfl S.co S.gen rfl (PySem.W.codeRec_of KX hcd) (hb _ _ _ _ ?_)
 refine wpAny_newFunctionEnv_cells S.kind hkind λenv he s1 x=>?_
 subst he
 refine ⟨lim.keeps x.toInCall.keep,codeAny_func ?_⟩
 refine oq12 (hbody A outer s H vs Q E (hr.deeper _) hsp) λt ht hq=>?_
 have I:Inv (cxOf CX P w K mg base N qual scope f cdv A outer s H E) [] (start N vs) H s1:=inv_start S hr.hd e0 hl r x
 refine T4 (ht [] s1 (start N vs) H _ I hq) (λfl s' hs=>?_) λe s' hs=>hs
 have fin:∀ {σ':St} {H':Hp} {v:V} {u:Value},Inv (cxOf CX P w K mg base N qual scope f cdv A outer s H E) [] σ' H' s'->RelV v u->Q v H'->CE outer P w H s Q u s' :=
  λ{σ' H' v u} J rv q=>⟨v,H',J.os,J.bare,J.base,J.hok,rv,q⟩
 cases fl with
 | ret u =>
  refine oq33 hs λv σ' H' J rv q=>?_
  exact fin J rv q
 | next =>
  refine oq22 hs λσ' H' J q=>?_
  exact fin (v:=V.non) (u:=M7) J rfl q
 | brk =>
  refine oq22 hs λ_ _ _ q=>?_
  exact R9 q
 | cont =>
  refine oq22 hs λ_ _ _ q=>?_
  exact R9 q
end L2
namespace L2
open PySem PySem.Spec PyProof.Rows
section
variable {X:Cx} {x:Str} {p pos:Pos} {e:Expr} {es:List Expr} {t:TA} {id T:String} {r:List V->Hp->VK->Prop}
def tCB (r:List V->Hp->VK->Prop) (t:TA):TE:=λσ H Q=>t σ H λvs H1=>r vs H1 Q
theorem aw (hc:cV X (.builtin id) r) (hg:Gl X x) (hm:X.mg x=none) (hv:P0 x=some (.builtin id)) (ha:PA X (e :: es) t) (hn:autoParam (x≠"__name__") L2.a0q._auto_1) (hdb:autoParam ((x == ("__debug__":Str))=false) L2.a0q._auto_1)
  (he:autoParam (V4 (e :: es) X.env=(false,eval e X.env) :: V4 es X.env) L2.a2q._auto_1) (hpl:autoParam ((backTo pos (V4 es X.env)).any (·.1)=false) L2.a2q._auto_1):PE X (.Call (.Name x p) (e :: es) [] pos) (tCB r t):=by
 intro pins s σ H Q I h
 refine M8 (dN I hg hm hv ?_ hn hdb)
 exact PyProof.Rows.callWith_builtin1 (thn (ha pos pins s σ H _ I h) λus s1 zq=>oq23 zq λvs H1 I1 r1 q1=>hc pins s1 σ H1 vs us Q I1 r1 q1) he hpl
theorem iz (hc:cV X (.type T) r) (hg:Gl X x) (hm:X.mg x=none) (hv:P0 x=some (.type T)) (ha:PA X (e :: es) t) (hn:autoParam (x≠"__name__") L2.a0q._auto_1) (hdb:autoParam ((x == ("__debug__":Str))=false) L2.a0q._auto_1)
  (he:autoParam (V4 (e :: es) X.env=(false,eval e X.env) :: V4 es X.env) L2.a2q._auto_1) (hpl:autoParam ((backTo pos (V4 es X.env)).any (·.1)=false) L2.a2q._auto_1):PE X (.Call (.Name x p) (e :: es) [] pos) (tCB r t):=by
 intro pins s σ H Q I h
 refine M8 (dN I hg hm hv ?_ hn hdb)
 exact P3 (thn (ha pos pins s σ H _ I h) λus s1 zq=>oq23 zq λvs H1 I1 r1 q1=>hc pins s1 σ H1 vs us Q I1 r1 q1) he hpl
end
end L2
namespace HT
open PySem PyProof.Rows
noncomputable def lexLt:List Int->List Int->Bool
 | [],[]=>false
 | [],_ :: _=>true
 | _ :: _,[]=>false
 | x :: xs,y :: ys=>if x=y then lexLt xs ys else decide (x<y)
theorem qL (x y:Int) (xs ys:List Int):lexLt (x :: xs) (y :: ys)=if x=y then lexLt xs ys else decide (x<y):=rfl
theorem kK:lexLt [] []=false:=rfl
theorem jB (y:Int) (ys:List Int):lexLt [] (y :: ys)=true:=rfl
theorem jC (x:Int) (xs:List Int):lexLt (x :: xs) []=false:=rfl
theorem eqAt_int (A:Around) (s:Shared) (a:Int) (t:Tok) (c:Int) (u:Tok):∃ e,A6 A s (.int a t) (.int c u) e/\(e=true↔a=c) :=
 ⟨(a == c),A6.int_int a t c u,by simp⟩
theorem rcLt_int (A:Around) (s:Shared) (a:Int) (t:Tok) (c:Int) (u:Tok) (prog:W5) (w:World) (E:Value->Shared->Prop) (Q:Value->Shared->Prop) (h:Q (.bool (decide (a<c))) s) :
  wpAny (model prog w) A (richCompare .Lt (.int a t) (.int c u)) Q E s :=
 (PyProof.Rows.lt_int h:wpAny (model prog w) A (N5 .Lt (.int a t) (.int c u)) Q E s)
section
open PySem.SeqAt
open PySem.AutoSeq1 (wpAny_loadPart')
open PySem.MeetsSeq PySem.MeetsSeq2 PySem.MeetsSeq3
theorem kL (l b:Addr) (items items2:Array Value) (n n2:Nat) (dd dd2:Option Addr) (sl sl2:Array (Option Value)) (ns ms:List Int) (hi:J8 items.toList ns) (hj:J8 items2.toList ms) :
  Meets (R0.«tuple.__lt__» ⟨[.ref l,.ref b],[]⟩)
   (λ_ R s=>s.heap.get? l=some { cls:=.type "tuple",dict:=dd,data:=.seq items n,slots:=sl }/\s.heap.get? b=some { cls:=.type "tuple",dict:=dd2,data:=.seq items2 n2,slots:=sl2 } /\
    R (.ok (.ret (.bool (lexLt ns ms)))) s) :=
 .of_wp λprog w A R s h=>by
  obtain ⟨hp,g,d,tk,os⟩:=s; refine oq03 h λhl hb h=>?_
  have f2:=AutoSeq1.sub_tuple_tuple
  have z1:items.size=ns.length:=by rw [<- hi.length]; simp
  have z2:items2.size=ms.length:=by rw [<- hj.length]; simp
  wp_walk using wpAny_loadPart' hl,wpAny_loadPart' hb,wpAny_forIn_list _ (λrest b s'=>b.1=none/\s'=⟨hp,g,d,tk,os⟩/\∃ (vs ws:List Value) (ns' ms':List Int),rest=vs.zip ws /\
   J8 vs ns'/\J8 ws ms'/\ns'.length+items2.size=ms'.length+items.size/\R (.ok (.ret (.bool (lexLt ns' ms')))) ⟨hp,g,d,tk,os⟩) _
  case turn =>
   rintro ⟨y,x⟩ rest b s' ⟨hb',rfl,vs,ws,ns',ms',hz,hvi,hwi,hlen,hR⟩
   cases hvi with
   | nil=>rw [List.zip_nil_left] at hz; cases hz
   | cons a t hvi' =>
    cases hwi with
    | nil=>rw [List.zip_nil_right] at hz; cases hz
    | cons c u hwi' =>
     rw [List.zip_cons_cons] at hz
     injection hz with hyx hrest
     injection hyx with hy hx
     subst hy hx
     rw [qL] at hR
     simp only [W4] at hlen
     refine oq12 (eqAt_int A.in1 ⟨hp,g,d,tk,os⟩ a t c u) λe he hiff=>?_
     refine Z0 (he prog w _ _ ?_)
     cases e with
     | true =>
      rw [if_pos (hiff.mp rfl)] at hR
      wp_walk
      exact ⟨rfl,rfl,_,_,_,_,hrest,hvi',hwi',by omega,hR⟩
     | false =>
      rw [if_neg (λq=>absurd (hiff.mpr q) Z8)] at hR
      have hri:=rcLt_int A.in1 ⟨hp,g,d,tk,os⟩ a t c u prog w
      wp_walk using hri
      exact ⟨_,rfl,by simpa using hR⟩
  case fin =>
   rintro ⟨b1,b2⟩ s' ⟨hb',rfl,vs,ws,ns',ms',hz,hvi,hwi,hlen,hR⟩
   simp only at hb'
   subst hb'
   have hv:lexLt ns' ms'=decide (items.size<items2.size):=by
    cases hvi with
    | nil =>
     cases hwi with
     | nil =>
      simp only [List.length_nil] at hlen
      rw [kK]
      exact (decide_eq_false (by omega)).symm
     | cons c u hw =>
      simp only [List.length_nil,W4] at hlen
      rw [jB]
      exact (decide_eq_true (by omega)).symm
    | cons a t hv =>
     cases hwi with
     | nil =>
      simp only [List.length_nil,W4] at hlen
      rw [jC]
      exact (decide_eq_false (by omega)).symm
     | cons c u hw =>
      rw [List.zip_cons_cons] at hz
      cases hz
   rw [hv] at hR
   wp_walk
   exact ⟨_,rfl,by simpa [R0.Tuple.tupleCompareSizes] using hR⟩
  case h =>
   exact ⟨rfl,rfl,items.toList,items2.toList,ns,ms,rfl,hi,hj,by omega,h⟩
end
section
variable {prog:W5} {w:World} {A:Around} {E:Value->Shared->Prop} {s:Shared}
theorem qM {l b:Addr} {items items2:Array Value} {ns ms:List Int} {Q:Value->Shared->Prop} (hl:IsTup s.heap l items) (hb:IsTup s.heap b items2) (hi:J8 items.toList ns) (hj:J8 items2.toList ms)
  (hu:A.units<cLine) (h:Q (.bool (lexLt ns ms)) s):wpAny (model prog w) A (N5 .Lt (.ref l) (.ref b)) Q E s:=by
 obtain ⟨⟨cls,dd,data,sl⟩,ho,hc,n,hd⟩:=id hl
 obtain ⟨⟨cls2,dd2,data2,sl2⟩,ho2,hc2,n2,hd2⟩:=id hb
 simp only at hc hd hc2 hd2
 subst hc hd hc2 hd2
 exact richCompare_meets_room (op:=.Lt) ⟨_,ho,rfl⟩ ⟨_,ho2,rfl⟩ PySem.F.slot_tuple_lt PySem.F.entry_tuple_lt (PySem.F.args_tuple_lt_2 _ _) (kL l b items items2 n n2 dd dd2 sl sl2 ns ms hi hj)
  ⟨ho,ho2,show Value.bool (lexLt ns ms)≠Value.notImplemented/\Q (.bool (lexLt ns ms)) s from ⟨(λx=>nomatch x),h⟩⟩ hu
noncomputable def sIx (n d:Nat):Option Int->Nat
 | none=>d
 | some v=>if v<0 then (v+(n:Int)).toNat else min v.toNat n
theorem o9 (n d:Nat):sIx n d none=d:=rfl
theorem jj (n d k:Nat):sIx n d (some (k:Int))=min k n:=by
 show (if (k:Int)<0 then ((k:Int)+(n:Int)).toNat else min (k:Int).toNat n)=min k n
 rw [if_neg (by omega),U5]
end
end HT
namespace L2
open PySem PySem.Spec PyProof.Rows
noncomputable abbrev TO:=St->Hp->(Option Int->Hp->Prop)->Prop
noncomputable def PO (X:Cx) (e:Option Expr) (t:TO):Prop :=
 ∀ (pins:List (Addr × Obj)) (s:Shared) (σ:St) (H:Hp) (Q:Option Int->Hp->Prop),Inv X pins σ H s->t σ H Q ->
  wpAny (model X.prog X.w) X.A (evalPart e X.env) (λu s'=>∃ o H',Inv X pins σ H' s'/\IsPart u o/\Q o H') X.xe s
def tNoPart:TO:=λ_ H Q=>Q none H
def tPart (t:TE):TO:=λσ H Q=>t σ H λx H1=>∃ i,x=.int i/\Q (some i) H1
theorem intsAre_of {ns:List Int}:∀ {us:List Value},Vals (ns.map V.int) us->J8 us ns:=by
 induction ns with
 | nil=>intro us r; rw [List.map_nil] at r; cases r; exact .nil
 | cons n ns ih =>
  intro us r
  rw [V0] at r
  cases r with
  | cons r1 r2 =>
   refine oq11 r1 λt e=>?_
   subst e
   exact .cons n t (ih r2)
section
variable {X:Cx} {e:Expr} {te:TE} {lo hi:Option Expr} {tl th:TO} {pos p2:Pos}
theorem ml:PO X none tNoPart:=by
 intro pins s σ H Q I h
 rw [evalPart_none]
 exact Y0 ⟨none,H,I,.none,h⟩
theorem cp (h:PE X e te):PO X (some e) (tPart te):=by
 intro pins s σ H Q I hw
 rw [evalPart_some]
 refine thn (h pins s σ H _ I hw) λu s1 zq=>oq23 zq λx H1 I1 r1 q1=>?_
 refine oq12 q1 λi eq1_ q=>?_; subst eq1_
 refine oq11 r1 λt eq1_=>?_; subst eq1_
 exact ⟨some i,H1,I1,.int i t,q⟩
noncomputable def SlR (X:Cx) (r:V->Option Int->Option Int->Hp->VK->Prop):Prop :=
 ∀ (pins:List (Addr × Obj)) (s:Shared) (σ:St) (H:Hp) (x:V) (v vl vu:Value) (lo hi:Option Int) (sl:Addr) (Q:VK),Inv X pins σ H s->RelV x v->s.heap.IsSliceOf sl vl vu .none->IsPart vl lo->IsPart vu hi->r x lo hi H Q ->
  ∃ T id,typeLookup (.type T) "__getitem__"=pure (some (.builtin id))/\s.TypeIs v T/\wpAny (model X.prog X.w) X.A (getItem v (.ref sl)) (EP X pins σ Q) X.xe s
def tSl (r:V->Option Int->Option Int->Hp->VK->Prop) (te:TE) (tl th:TO):TE:=λσ H Q=>te σ H λx H1=>tl σ H1 λl H2=>th σ H2 λu H3=>r x l u H3 Q
theorem dg {r:V->Option Int->Option Int->Hp->VK->Prop} (hr:SlR X r) (he:PE X e te) (hl:PO X lo tl) (hu:PO X hi th):PE X (.Subscript e (.Slice lo hi none p2) pos) (tSl r te tl th):=by
 intro pins s σ H Q I h
 refine Subscript_ (thn (he pins s σ H _ I h) λv s1 zq=>oq23 zq λx H1 I1 r1 q1=>?_)
 refine wpAny_Slice (thn (hl pins s1 σ H1 _ I1 q1) λvl s2 zq=>oq23 zq λl H2 I2 pl q2=>thn (hu pins s2 σ H2 _ I2 q2) λvu s3 zq=>oq23 zq λu H3 I3 pu q3=>?_)
 rw [evalPart_none]
 refine Y0 ?_
 have I4:Inv X pins σ H3 { s3 with heap:=s3.heap.push { cls:=.type "slice",data:=.fields #[vl,vu,.none] } }:=I3.kept (t':=s3.toks) λb ob q=>Z5 _ q
 refine oq23 (hr pins { s3 with heap:=s3.heap.push { cls:=.type "slice",data:=.fields #[vl,vu,.none] } } σ H3 x v vl vu l u s3.heap.objs.size Q I4 r1 (Heap.IsSliceOf.new ..) pl pu q3) λT id hT ht hg=>?_
 show wpAny (model X.prog X.w) X.A (subscriptTail e (.Slice lo hi none p2) v (.ref s3.heap.objs.size)) (EP X pins σ Q) X.xe { s3 with heap:=s3.heap.push { cls:=.type "slice",data:=.fields #[vl,vu,.none] } }
 exact tail_any (ops:=[.ref s3.heap.objs.size,v]) ht hT hg (by with_unfolding_all rfl)
noncomputable def cutV (xs:List V) (lo hi:Option Int):List V:=(xs.drop (HT.sIx xs.length 0 lo)).take (HT.sIx xs.length xs.length hi - HT.sIx xs.length 0 lo)
theorem og (xs:List V) (lo hi:Option Int):(cutV xs lo hi).length<=xs.length:=by
 unfold cutV
 rw [V7,O3]
 omega
end
end L2
namespace L2
open PySem PySem.Spec PyProof.Rows
noncomputable def ixN (n:Nat) (i:Int):Option Nat:=if 0<=i then (if i<n then some i.toNat else none) else if -(n:Int)<=i then some (i+n).toNat else none
noncomputable def atI {α:Type} (xs:List α) (i:Int):Option α:=(ixN xs.length i).bind λj=>xs[j]?
theorem ixN_seq {n:Nat} {i:Int} {j:Nat} (h:ixN n i=some j):seqIndex? i n=some j/\j<n/\-(n:Int)<=i/\i<n:=by
 unfold ixN at h
 by_cases h0:0<=i
 ·rw [if_pos h0] at h
  by_cases h1:i<n
  ·rw [if_pos h1] at h
   have e:i.toNat=j:=Z7 h
   exact ⟨by rw [seqIndex_of h0 h1,e],by omega,by omega,h1⟩
  ·rw [if_neg h1] at h; cases h
 ·rw [if_neg h0] at h
  by_cases h1:-(n:Int)<=i
  ·rw [if_pos h1] at h
   have e:(i+n).toNat=j:=Z7 h
   exact ⟨by rw [seqIndex_neg (by omega) h1,e],by omega,h1,by omega⟩
  ·rw [if_neg h1] at h; cases h
theorem mq {α:Type} {xs:List α} {i:Int} {v:α} (h:atI xs i=some v):∃ j,seqIndex? i xs.length=some j/\xs[j]?=some v/\j<xs.length/\-(xs.length:Int)<=i/\i<xs.length:=by
 unfold atI at h
 cases e:ixN xs.length i with
 | none=>rw [e] at h; cases h
 | some j =>
  rw [e] at h
  refine oq04 (ixN_seq e) λh1 h2 h3 h4=>?_
  exact ⟨j,h1,h,h2,h3,h4⟩
def PlainIx (b:Expr):Prop:=∀ o i,subscripted b false o i=operate [o,i] (getItem o i)
noncomputable def IxR (X:Cx) (r:R2):Prop :=
 ∀ (value slice:Expr) (pins:List (Addr × Obj)) (s:Shared) (σ:St) (H:Hp) (x y:V) (v u:Value) (Q:VK),Inv X pins σ H s->RelV x v->RelV y u->r x y H Q ->
  subscripted slice false v u=operate [v,u] (getItem v u)->wpAny (model X.prog X.w) X.A (subscriptTail value slice v u) (EP X pins σ Q) X.xe s
noncomputable def MtR (X:Cx) (id:String) (r:V->List V->Hp->VK->Prop):Prop :=
 ∀ (pins:List (Addr × Obj)) (s:Shared) (σ:St) (H:Hp) (x:V) (xs:List V) (v:Value) (us:List Value) (Q:VK),Inv X pins σ H s->RelV x v->Vals xs us->r x xs H Q ->
  wpAny (model X.prog X.w) X.A (call (.builtin id) (v :: us)) (EP X pins σ Q) X.xe s
section
variable {X:Cx} {a b:Expr} {ta tb:TE} {pos:Pos}
theorem aW {r:R2} (hr:IxR X r) (ha:PE X a ta) (hb:PE X b tb) (hs:PlainIx b):PE X (.Subscript a b pos) (tOp r ta tb):=by
 intro pins s σ H Q I h
 exact Subscript_ (binT ha hb I h λv u s2 x y H2 I2 rx ry q=>hr a b pins s2 σ H2 x y v u Q I2 rx ry q (hs _ _))
noncomputable def rIxL (K:Z3):R2:=λx y H Q=>∃ p xs i v,x=.ref p/\y=.int i/\SqL K H p xs/\atI xs i=some v/\Q v H
noncomputable def rIxT (K:Z3):R2:=λx y H Q=>∃ p xs i v,x=.ref p/\y=.int i/\SqT K H p xs/\atI xs i=some v/\Q v H
noncomputable def rIxS:R2:=λx y H Q=>∃ z i c,x=.str z/\y=.int i/\z.length<=V1/\atI z.cps.toList i=some c/\Q (.str ⟨#[c]⟩) H
theorem ix_list:IxR X (rIxL X.K):=by
 intro value slice pins s σ H x y v u Q I rx ry h hs
 refine oq45 h λp xs i z eq4_ eq5_ hq he q=>?_; subst eq4_; subst eq5_
 cases rx
 refine oq11 ry λt eq1_=>?_; subst eq1_
 refine oq13 (I.list hq) λits r pl hz=>?_
 refine oq15 (mq he) λj h1 h2 h3 h4 h5=>?_
 refine oq12 (r.get h2) λw ew rw'=>?_
 have hl:=r.length
 have hn:=gn
 have fin:EP X pins σ Q w s:=⟨z,H,I,rw',q⟩
 by_cases h0:0<=i
 ·have hj:i.toNat=j:=by
   rw [seqIndex_of h0 h5] at h1
   exact Z7 h1
  exact item_listR pl.isList h0 (by omega) (by rw [hj]; simpa using ew) fin hs
 ·have hj:(i+(its.toArray.size:Int)).toNat=j:=by
   rw [seqIndex_neg (by omega) h4] at h1
   rw [X0,<- hl]
   exact Z7 h1
  exact subscriptTail_builtinR (x:=w) pl.isList.typeIs slot_list_getitem.lookup
   (wpAny_getItem_list_neg (Q:=λr s'=>r=w/\EP X pins σ Q r s') pl.isList (by omega) (by rw [X0] <;> omega) (by omega) (by rw [hj]; simpa using ew) ⟨rfl,fin⟩) hs
theorem ix_tup:IxR X (rIxT X.K):=by
 intro value slice pins s σ H x y v u Q I rx ry h hs
 refine oq45 h λp xs i z eq4_ eq5_ hq he q=>?_; subst eq4_; subst eq5_
 cases rx
 refine oq11 ry λt eq1_=>?_; subst eq1_
 refine oq13 (I.tuple hq) λits r pl hz=>?_
 refine oq15 (mq he) λj h1 h2 h3 h4 h5=>?_
 refine oq12 (r.get h2) λw ew rw'=>?_
 have hl:=r.length
 have hn:=gn
 have fin:EP X pins σ Q w s:=⟨z,H,I,rw',q⟩
 exact subscriptTail_builtinR (x:=w) pl.typeIs slot_tuple_getitem.lookup
  (getItem_tuple (j:=j) (Q:=λr s'=>r=w/\EP X pins σ Q r s') pl (by omega) (by omega) (by rw [X0,<- hl]; exact h1) (by simpa using ew) ⟨rfl,fin⟩) hs
theorem ix_str:IxR X rIxS:=by
 intro value slice pins s σ H x y v u Q I rx ry h hs
 refine oq35 h λz i c eq3_ eq4_ hz he q=>?_; subst eq3_; subst eq4_
 refine oq11 rx λt eq1_=>?_; subst eq1_
 refine oq11 ry λt' eq1_=>?_; subst eq1_
 refine oq15 (mq he) λj h1 h2 h3 h4 h5=>?_
 have hl:z.cps.toList.length=z.length:=by simp [Str.length]
 rw [hl] at h1 h4 h5
 have hn:=gn
 exact tail_any (typeIs_str s z t) slot_str_getitem.lookup (getItem_str (c:=c) (by
  have e1:decide (i < -(2 ^ 63:Int))=false:=decide_eq_false (by omega)
  have e2:decide (i ≥ 2 ^ 63)=false:=decide_eq_false (by omega)
  rw [e1,e2,Bool.or_false]) (by rw [h1]; simpa using h2) ⟨.str ⟨#[c]⟩,H,I.tok _,⟨_,rfl⟩,q⟩) hs
theorem qN (its:List Value) (n j:Nat) (u:Value):X9 (·.setIfInBounds j u) { cls:=.type "list",data:=.seq its.toArray n }={ cls:=.type "list",data:=.seq (its.set j u).toArray n }:=by
 simp [X9]
theorem Inv.lst {pins:List (Addr × Obj)} {σ:St} {H:Hp} {s:Shared} {p:Addr} {xs:List V} (I:Inv X pins σ H s) (h:H p=some (.lst xs)) :
  ∃ (its:List Value) (n:Nat),Vals xs its/\s.heap.get? p=some { cls:=.type "list",data:=.seq its.toArray n }/\xs.length<=V1:=by
 refine oq02 (I.hok p _ h) λz zz=>oq22 zz λits n r e=>?_
 exact ⟨its,n,r,e,z⟩
theorem Inv.lstUpd {pins:List (Addr × Obj)} {σ:St} {H:Hp} {s:Shared} {p:Addr} {xs ys:List V} {its its':List Value} {n n':Nat} {f:Obj->Obj} (I:Inv X pins σ H s) (h:H p=some (.lst xs))
  (ho:s.heap.get? p=some { cls:=.type "list",data:=.seq its.toArray n }) (hf:f { cls:=.type "list",data:=.seq its.toArray n }={ cls:=.type "list",data:=.seq its'.toArray n' }) (r:Vals ys its') (hz:ys.length<=V1) (t:Nat) :
  Inv X pins σ (upd H p (.lst ys)) { s with heap:=s.heap.update p f,toks:=t }:=by
 have e:(s.heap.update p f).get? p=some { cls:=.type "list",data:=.seq its'.toArray n' }:=by
  rw [Q9 f ho (by rw [hf] <;> rfl),hf]
 refine I.write (x:=p) (e:=p) (by rw [h]; trivial) (.inl rfl) (λb u hb q=>(Heap.get?_update_other _ _ (R5 hb)).trans q) ⟨_,e⟩ ?_
 exact ⟨hz,its',n',r,e⟩
def rSetL:V->V->V->Hp->(Hp->Prop)->Prop:=λo i v H Q=>∃ p xs k j,o=.ref p/\i=.int k/\H p=some (.lst xs)/\ixN xs.length k=some j/\Q (upd H p (.lst (xs.set j v)))
theorem set_list:PSet X rSetL:=by
 intro pins s σ H o i v ov iv u Q I ro ri rv h
 refine oq45 h λp xs k j eq4_ eq5_ hp hj q=>?_; subst eq4_; subst eq5_
 cases ro
 refine oq11 ri λt eq1_=>?_; subst eq1_
 refine oq23 (I.lst hp) λits n r ho hz=>?_
 refine oq04 (ixN_seq hj) λh1 h2 h3 h4=>?_
 have hl:=r.length
 have hn:=gn
 have I':Inv X pins σ (upd H p (.lst (xs.set j v))) { s with heap:=s.heap.update p (X9 (·.setIfInBounds j u)) } :=
  I.lstUpd hp ho (qN its n j u) (r.set rv j) (by rw [O1]; exact hz) s.toks
 by_cases h0:0<=k
 ·have hk:k.toNat=j:=by
   rw [seqIndex_of h0 h4] at h1
   exact Z7 h1
  exact PySem.W.ki_setAt ho h0 (by omega) (by rw [X0,<- hl]; exact h4) (by rw [hk]; exact ⟨_,I',q⟩)
 ·have hk:(k+(its.toArray.size:Int)).toNat=j:=by
   rw [seqIndex_neg (by omega) h3] at h1
   rw [X0,<- hl]
   exact Z7 h1
  exact PySem.W.ki_setBack ho (by omega) (by rw [X0,<- hl]; exact h3) (by omega) (by rw [hk]; exact ⟨_,I',q⟩)
theorem mt (lo hi:Option Int) (n:Nat):(sliceBounds lo hi none n).1=((HT.sIx n 0 lo:Nat):Int)/\(sliceBounds lo hi none n).2.1=((HT.sIx n n hi:Nat):Int)/\(sliceBounds lo hi none n).2.2=1:=by
 refine ⟨?_,?_,rfl⟩
 ·cases lo with
  | none=>simp [sliceBounds,HT.sIx]
  | some i =>
   simp only [sliceBounds,HT.sIx,Option.getD_none,show (1:Int) > 0 by decide,if_true]
   by_cases h:i<0
   ·simp only [h,if_true] <;> omega
   ·simp only [h,if_false] <;> omega
 ·cases hi with
  | none=>simp [sliceBounds,HT.sIx]
  | some i =>
   simp only [sliceBounds,HT.sIx,Option.getD_none,show (1:Int) > 0 by decide,if_true]
   by_cases h:i<0
   ·simp only [h,if_true] <;> omega
   ·simp only [h,if_false] <;> omega
theorem kN (its:List Value) (lo hi:Option Int):slicePick its.toArray lo hi none=((its.drop (HT.sIx its.length 0 lo)).take (HT.sIx its.length its.length hi - HT.sIx its.length 0 lo)).toArray:=by
 refine oq03 (mt lo hi its.toArray.size) λh1 h2 h3=>?_
 unfold slicePick
 rw [h1,h2,h3]
 simp only [sliceRange_one,pick_run,X0] <;> rfl
def rSlL (K:Z3):V->Option Int->Option Int->Hp->VK->Prop:=λx lo hi H Q=>∃ a xs,x=.ref a/\SqL K H a xs/\∀ p,H p=none->Q (.ref p) (upd H p (.lst (cutV xs lo hi)))
theorem sl_list:SlR X (rSlL X.K):=by
 intro pins s σ H x v vl vu lo hi sl Q I rx hs pl pu h
 refine oq23 h λa xs eq2_ hx q=>?_; subst eq2_
 cases rx
 refine oq13 (I.list hx) λits r ht hz=>?_
 have hlen:=r.length
 refine ⟨"list",_,slot_list_getitem.lookup,ht.isList.typeIs,?_⟩
 refine wpAny_getItem_list_slice ht.isList hs pl pu .none (by simp) ?_ (by rw [X0] <;> omega)
 rw [kN,<- hlen]
 refine ⟨.ref s.heap.objs.size,_,I.laid (t':=s.toks) (o:=.lst (cutV xs lo hi)) (λb ob q=>Z5 _ q) (nz6 _) ?_,rfl,q _ (I.hok.fresh (nz6 _))⟩
 exact ⟨nz4 (og xs lo hi) hz,_,0,(r.drop (HT.sIx xs.length 0 lo)).take (HT.sIx xs.length xs.length hi - HT.sIx xs.length 0 lo),X4 _ rfl⟩
theorem mw:cV X (.builtin "len") (λxs H Q=>∃ p ys,xs=[.ref p]/\(SqL X.K H p ys\/SqT X.K H p ys)/\Q (.int ys.length) H):=by
 intro pins s σ H xs us Q I r h
 refine oq23 h λp ys eq2_ hq q=>?_; subst eq2_
 refine oq12 (vals1 r) λu eq1_ rx=>?_; subst eq1_
 cases rx
 have hn:=gn
 rcases hq with hq | hq
 ·refine oq13 (I.list hq) λits r' pl hz=>?_
  have hlen:=r'.length
  exact Calls.call_len_list pl.isList (by simp only [X0] <;> omega) ⟨.int ys.length,H,I.tok _,⟨s.toks+1,by rw [X0,hlen]⟩,q⟩
 ·refine oq13 (I.tuple hq) λits r' pl hz=>?_
  have hlen:=r'.length
  exact len_tuple pl (by simp only [X0] <;> omega) ⟨.int ys.length,H,I.tok _,⟨s.toks+1,by rw [X0,hlen]⟩,q⟩
theorem mB:cV X (.builtin "len") (λxs H Q=>∃ z,xs=[.str z]/\z.length<=V1/\Q (.int z.length) H):=by
 intro pins s σ H xs us Q I r h
 refine oq13 h λz eq1_ hz q=>?_; subst eq1_
 refine oq12 (vals1 r) λu eq1_ zz=>oq11 zz λt eq3_=>?_; subst eq1_; subst eq3_
 have hn:=gn
 exact len_str (by omega) ⟨.int z.length,H,I.tok _,⟨_,rfl⟩,q⟩
theorem mC:cV X (.type "list") (λxs H Q=>∃ p ys,xs=[.ref p]/\(SqL X.K H p ys\/SqT X.K H p ys)/\∀ l,H l=none->Q (.ref l) (upd H l (.lst ys))):=by
 intro pins s σ H xs us Q I r h
 refine oq23 h λp ys eq2_ hq q=>?_; subst eq2_
 refine oq12 (vals1 r) λu eq1_ rx=>?_; subst eq1_
 cases rx
 have fin:∀ (its:List Value),Vals ys its->ys.length<=V1->∀ (h':Heap) (c':Nat),(∀ b o',s.heap.get? b=some o'->h'.get? b=some o') ->
   h'.get? s.heap.objs.size=some { cls:=.type "list",dict:=none,data:=.seq its.toArray c',slots:=#[] }->EP X pins σ Q (.ref s.heap.objs.size) { s with heap:=h' }:=λits r' hz h' c' kp e =>
  ⟨.ref s.heap.objs.size,_,I.laid (t':=s.toks) kp (nz6 _) (show aS X.prog X.w _ h' _ (.lst ys) from ⟨hz,its,c',r',e⟩),rfl,q _ (I.hok.fresh (nz6 _))⟩
 rcases hq with hq | hq
 ·refine oq13 (I.list hq) λits r' pl hz=>?_
  have hlen:=r'.length
  refine oq13 pl.isList λo ho hc zz=>oq11 zz λn hd=>?_
  exact call_list_seq p (.inl rfl) ho hc hd (λh' c' kp e=>fin its r' hz h' c' kp e) (by simp only [X0] <;> omega)
 ·refine oq13 (I.tuple hq) λits r' pl hz=>?_
  have hlen:=r'.length
  refine oq13 pl λo ho hc zz=>oq11 zz λn hd=>?_
  exact call_list_seq p (.inr rfl) ho hc hd (λh' c' kp e=>fin its r' hz h' c' kp e) (by simp only [X0] <;> omega)
def tyV (K:Z3) (T:String) (x:V) (H:Hp):Prop:=match x with
 | .str _=>T="str"
 | .int _=>T="int"
 | .ref p=>(T="list"/\∃ xs,SqL K H p xs)\/(T="tuple"/\∃ o,K.lookup p=some o/\o.cls=.type "tuple"/\o.dict=none) \/
   (T="dict"/\((∃ kvs,H p=some (.dK kvs))\/∃ kvs,H p=some (.dT kvs)))\/(T="set"/\∃ S n,H p=some (.set S n))
 | _=>False
theorem tyV_is {pins:List (Addr × Obj)} {σ:St} {H:Hp} {s:Shared} {T:String} {x:V} {v:Value} (I:Inv X pins σ H s) (r:RelV x v) (ty:tyV X.K T x H) :
  s.TypeIs v T/\∀ a,v=.ref a->∃ ob,s.heap.get? a=some ob/\ob.dict=none:=by
 cases x with
 | str z =>
  refine oq11 r λt eq1_=>?_; subst eq1_
  cases (show T="str" from ty)
  exact ⟨typeIs_str s z t,λ_ e=>nomatch e⟩
 | int i =>
  refine oq11 r λt eq1_=>?_; subst eq1_
  cases (show T="int" from ty)
  exact ⟨typeIs_int s i t,λ_ e=>nomatch e⟩
 | ref p =>
  cases r
  rcases ty with ⟨rfl,xs,hq⟩ | ⟨rfl,o,hk,hc,hd⟩ | ⟨rfl,hk⟩ | ⟨rfl,S,n,hk⟩
  ·refine oq13 (I.list hq) λits _ pl _=>?_
   refine ⟨pl.isList.typeIs,λa e=>?_⟩
   cases e
   refine oq24 pl λo n e c hd _=>?_
   exact ⟨o,e,hd⟩
  ·refine ⟨⟨o,I.kIn p o hk,hc⟩,λa e=>?_⟩
   cases e
   exact ⟨o,I.kIn _ o hk,hd⟩
  ·have z:∃ o,s.heap.get? p=some o/\o.ExactDict:=by
    rcases hk with ⟨kvs,hk⟩ | ⟨kvs,hk⟩
    ·refine oq03 (I.hok p _ hk) λ_ _ zz=>oq12 zz λ_ _ zz=>oq33 zz λo _ _ e ex _=>?_
     exact ⟨o,e,ex⟩
    ·refine oq03 (I.hok p _ hk) λ_ _ zz=>oq12 zz λ_ _ zz=>oq33 zz λo _ _ e ex _=>?_
     exact ⟨o,e,ex⟩
   refine oq12 z λo e ex=>?_
   refine ⟨⟨o,e,ex.1⟩,λa e2=>?_⟩
   cases e2
   exact ⟨o,e,ex.2.1⟩
  ·refine oq43 (I.hok p _ hk) λo _ _ _ e ex _=>?_
   refine ⟨⟨o,e,ex.1⟩,λa e2=>?_⟩
   cases e2
   exact ⟨o,e,ex.2.1⟩
 | _=>exact R9 ty
def tBM0 (K:Z3) (T:String) (r:V->List V->Hp->VK->Prop) (to:TE):TE:=λσ H Q=>to σ H λx H1=>tyV K T x H1/\r x [] H1 Q
def tBM (K:Z3) (T:String) (r:V->List V->Hp->VK->Prop) (to:TE) (t:TA):TE:=λσ H Q=>to σ H λx H1=>tyV K T x H1/\t σ H1 λxs H2=>r x xs H2 Q
variable {o e:Expr} {es:List Expr} {to:TE} {t:TA} {name:Str} {apos cpos:Pos} {T id:String} {r:V->List V->Hp->VK->Prop}
theorem pe_bm0 (pa:PlainAttrs T) (slot:Slot T name id) (hty:typeOf (.builtin id)=pure (.type "method_descriptor")) (hm:MtR X id r) (ho:PE X o to)
  (hbase:autoParam (B2 o name X.env (eval o X.env)=eval o X.env) L2.a2q._auto_1) (hline:autoParam ((apos.endLine == cpos.line)=true) L2.a2q._auto_1):PE X (.Call (.Attribute o name apos) [] [] cpos) (tBM0 X.K T r to):=by
 intro pins s σ H Q I h
 refine wpAny_Call_method0_late hbase hline (thn (ho pins s σ H _ I h) λv s1 zq=>oq24 zq λx H1 I1 r1 ty q1=>?_)
 refine oq02 (tyV_is I1 r1 ty) λh1 h2=>?_
 exact ⟨T,id,pa,slot,hty,h1,h2,Calls.callWith_builtin rfl (PySem.evalArgs_none (hm pins s1 σ H1 x [] v [] Q I1 r1 .nil q1))⟩
theorem pe_bm (pa:PlainAttrs T) (slot:Slot T name id) (hty:typeOf (.builtin id)=pure (.type "method_descriptor")) (hm:MtR X id r) (ho:PE X o to) (ha:PA X (e :: es) t)
  (hbase:autoParam (B2 o name X.env (eval o X.env)=eval o X.env) L2.a2q._auto_1)
  (hfew:((backTo cpos (V4 (e :: es) X.env)).all (λx=>!x.1) && (backToKw cpos (keywordEach [] X.env)).all (λx=>x.1.isSome)
   && decide ((e :: es).length+([]:List Keyword).length+(if ([]:List Keyword).isEmpty then 0 else 1)<30))=true:=by rfl)
  (hline:autoParam ((apos.endLine == cpos.line)=true) L2.a2q._auto_1) (hs:autoParam (V4 (e :: es) X.env=(false,eval e X.env) :: V4 es X.env) L2.a2q._auto_1) (hplain:autoParam ((backTo cpos (V4 es X.env)).any (·.1)=false) L2.a2q._auto_1) :
  PE X (.Call (.Attribute o name apos) (e :: es) [] cpos) (tBM X.K T r to t):=by
 intro pins s σ H Q I h
 refine wpAny_Call_method_late hbase hfew hline rfl (thn (ho pins s σ H _ I h) λv s1 zq=>oq24 zq λx H1 I1 r1 ty q1=>?_)
 refine oq02 (tyV_is I1 r1 ty) λh1 h2=>?_
 refine ⟨T,id,pa,slot,hty,h1,h2,?_⟩
 have hA:=ha cpos pins s1 σ H1 _ I1 q1
 rw [hs] at hA ⊢
 refine Calls.callWith_builtin (by show (false || (backTo cpos (V4 es X.env)).any (·.1))=false; rw [hplain] <;> rfl) (Calls.evalArgs_plain ?_)
 exact thn hA λus s2 zq=>oq23 zq λvs H2 I2 r2 q2=>hm pins s2 σ H2 x vs v us Q I2 r1 r2 q2
end
end L2
namespace L2
open PySem PySem.Spec PyProof.Rows
noncomputable def MtM (X:Cx) (id:String) (r:V->List V->Hp->VK->Prop):Prop :=
 ∀ (pins:List (Addr × Obj)) (s:Shared) (σ:St) (H:Hp) (x:V) (xs:List V) (v:Value) (us:List Value) (Q:VK),Inv X pins σ H s->RelV x v->Vals xs us->r x xs H Q ->
  wpAny (model X.prog X.w) X.A (call (.builtin id) (v :: us)) (EP X pins σ Q) X.xe s
theorem Vals.one:∀ {x:V} {us:List Value},Vals [x] us->∃ u,us=[u]/\RelV x u:=λp=>by
 cases p with
 | cons r t=>cases t; exact ⟨_,rfl,r⟩
theorem Vals.zero:∀ {us:List Value},Vals [] us->us=[]
 | _,.nil=>rfl
theorem Vals.dropLast {xs:List V} {us:List Value} (h:Vals xs us):Vals xs.dropLast us.dropLast:=by
 induction h with
 | nil=>exact .nil
 | cons r t ih =>
  cases t with
  | nil=>exact .nil
  | cons q t'=>exact .cons r ih
theorem qO {α:Type} (l:List α):l.eraseIdx (l.length - 1)=l.dropLast:=by
 induction l with
 | nil=>rfl
 | cons a r ih =>
  cases r with
  | nil=>rfl
  | cons b r =>
   have e:(a :: b :: r).length - 1=((b :: r).length - 1)+1:=by
    have h1:(a :: b :: r).length=r.length+2:=rfl
    have h2:(b :: r).length=r.length+1:=rfl
    omega
   rw [e,List.eraseIdx_cons_succ,ih]
   all_goals rfl
section
variable {X:Cx} {pins:List (Addr × Obj)} {σ:St} {H:Hp} {s:Shared} {l:Addr} {xs ys:List V}
theorem Inv.lset {its its':List Value} {n:Nat} {f:Array Value->Array Value} {t':Nat} (I:Inv X pins σ H s) (hH:H l=some (.lst xs))
  (e:s.heap.get? l=some { cls:=.type "list",data:=.seq its.toArray n }) (hf:f its.toArray=its'.toArray) (hv:Vals ys its') (hz:ys.length<=V1) :
  Inv X pins σ (upd H l (.lst ys)) { s with heap:=s.heap.update l (X9 f),toks:=t' }:=by
 have q:=PySem.IsL.update e f
 rw [hf] at q
 refine I.write (x:=l) (e:=l) (by rw [hH]; exact trivial) (.inl rfl) (λb' u hb hu=>(Heap.get?_update_other s.heap (X9 f) (R5 hb)).trans hu) ⟨_,q⟩ ?_
 exact ⟨hz,its',_,hv,q⟩
theorem Inv.lnew {its:List Value} {t':Nat} (I:Inv X pins σ H s) (hv:Vals ys its) (hz:ys.length<=V1) :
  Inv X pins σ (upd H s.heap.objs.size (.lst ys)) { s with heap:=s.heap.push { cls:=.type "list",data:=.seq its.toArray },toks:=t' } :=
 I.laid (λ_ _ q=>Z5 _ q) (nz6 _) ⟨hz,its,0,hv,X4 _ rfl⟩
theorem Inv.fresh (I:Inv X pins σ H s):H s.heap.objs.size=none:=I.hok.fresh (nz6 _)
theorem Inv.lstM (I:Inv X pins σ H s) (hH:H l=some (.lst xs)):xs.length<=V1/\∃ (its:List Value) (n:Nat),Vals xs its/\xs.length=its.length/\s.heap.get? l=some { cls:=.type "list",data:=.seq its.toArray n }:=by
 refine oq02 (I.hok l _ hH) λz zz=>oq22 zz λits n r e=>?_
 exact ⟨z,its,n,r,r.length,e⟩
end
section
variable {X:Cx}
def rAppend:V->List V->Hp->VK->Prop:=λx vs H Q=>∃ l xs y,x=.ref l/\vs=[y]/\H l=some (.lst xs)/\xs.length<V1/\Q .non (upd H l (.lst (xs++[y])))
theorem cL:MtM X "list.append" rAppend:=by
 intro pins s σ H x vs v us Q I rx rv h
 refine oq35 h λl xs y eq3_ eq4_ hH hz q=>?_; subst eq3_; subst eq4_
 cases rx
 refine oq12 rv.one λu eq1_ ru=>?_; subst eq1_
 refine oq02 (I.lstM hH) λz zz=>oq23 zz λits n r hl e=>?_
 refine call_meets F.slot_list_append ⟨_,e,rfl⟩ F.entry_list_append (F.args_list_append_2 _ _) (PySem.list_append l its.toArray n u (by rw [X0]; omega)) ⟨e,?_⟩
 refine ⟨.non,_,I.lset (its':=its++[u]) hH e (by simp) (r.append (.cons ru .nil)) ?_,rfl,q⟩
 rw [Y8,List.length_singleton]
 omega
def rPop:V->List V->Hp->VK->Prop:=λx vs H Q=>∃ l xs y,x=.ref l/\vs=[]/\H l=some (.lst xs)/\xs[xs.length - 1]?=some y/\Q y (upd H l (.lst xs.dropLast))
theorem mt_pop:MtM X "list.pop" rPop:=by
 intro pins s σ H x vs v us Q I rx rv h
 refine oq35 h λl xs y eq3_ eq4_ hH hy q=>?_; subst eq3_; subst eq4_
 cases rx
 have hus:=rv.zero
 subst hus
 refine oq02 (I.lstM hH) λz zz=>oq23 zz λits n r hl e=>?_
 refine oq12 (r.get hy) λu hu ru=>?_
 have hy':its.toArray[its.toArray.size - 1]?=some u:=by
  show its.toArray[its.length - 1]?=some u
  rw [<- J9,<- hl]
  exact hu
 refine call_meets F.slot_list_pop ⟨_,e,rfl⟩ F.entry_list_pop (F.args_list_pop_1 _) (MeetsSeq.list_pop_last l its.toArray n u hy' (by rw [X0]; omega)) ⟨e,?_⟩
 refine ⟨y,_,I.lset (its':=its.dropLast) hH e ?_ r.dropLast ?_,ru,q⟩
 ·show its.toArray.eraseIdxIfInBounds (its.toArray.size - 1)=its.dropLast.toArray
  rw [X0,List.eraseIdxIfInBounds_toArray,qO]
 ·rw [List.length_dropLast]
  omega
end
section
set_option maxRecDepth 100000 in
end
end L2
namespace L2
open PySem PySem.Spec PyProof.Rows
section
variable {κ:Type} [DecidableEq κ]
noncomputable def valV (kvs:List (κ × V)) (k:κ):Option V:=(kvs.find? λkv=>decide (kv.1=k)).map (·.2)
noncomputable def putK (kvs:List (κ × V)) (k:κ) (v:V):List (κ × V) :=
 if (kvs.any λkv=>decide (kv.1=k))=true then kvs.map (λkv=>if kv.1=k then (kv.1,v) else kv) else kvs++[(k,v)]
theorem gM {p:κ × V} {r:List (κ × V)} {k:κ} (e:p.1=k):valV (p :: r) k=some p.2:=by simp [valV,Q6,e]
theorem gN {p:κ × V} {r:List (κ × V)} {k:κ} (e:¬ p.1=k):valV (p :: r) k=valV r k:=by simp [valV,Q6,e]
theorem om (k:κ):∀ kvs:List (κ × V),(kvs.any λkv=>decide (kv.1=k))=(valV kvs k).isSome
 | []=>rfl
 | p :: r=>by
  rw [E4]
  by_cases e:p.1=k
  ·simp only [gM e,decide_eq_true e,Bool.true_or,Option.isSome_some]
  ·rw [gN e,decide_eq_false e,Bool.false_or]; exact om k r
theorem iV (kvs:List (κ × V)) (k:κ) (v:V):(putK kvs k v).length<=kvs.length+1:=by
 unfold putK
 split
 ·rw [Y3]; omega
 ·rw [Y8,W4,List.length_nil]; omega
theorem RelO.isSome_eq {o:Option V} {u:Option Value} (r:RelO o u):o.isSome=u.isSome:=by
 cases o with
 | none=>cases u with
  | none=>rfl
  | some _=>exact (show False from r).elim
 | some _=>cases u with
  | none=>exact (show False from r).elim
  | some _=>rfl
theorem KV.val {kvs:List (κ × V)} {vs:List (κ × Value)} (r:KV kvs vs) (k:κ):RelO (valV kvs k) (valueAt vs k):=by
 unfold KV at r
 induction r with
 | nil=>exact M0
 | @cons p q ps qs h t ih =>
  refine oq02 h λh1 h2=>?_
  by_cases e:p.1=k
  ·have e':q.1=k:=h1.symm.trans e
   have b:valueAt (q :: qs) k=some q.2:=by simp [valueAt,Q6,e']
   rw [gM e,b]; exact h2
  ·have e':¬ q.1=k:=λz=>e (h1.trans z)
   have b:valueAt (q :: qs) k=valueAt qs k:=by simp [valueAt,Q6,e']
   rw [gN e,b]; exact ih
theorem KV.any {kvs:List (κ × V)} {vs:List (κ × Value)} (r:KV kvs vs) (k:κ):(kvs.any λkv=>decide (kv.1=k))=vs.any λkv=>decide (kv.1=k):=by
 unfold KV at r
 induction r with
 | nil=>rfl
 | cons h t ih=>rw [E4,E4,ih,h.1]
theorem KV.repl {kvs:List (κ × V)} {vs:List (κ × Value)} (r:KV kvs vs) (k:κ) {y:V} {u:Value} (ry:RelV y u) :
  KV (kvs.map λkv=>if kv.1=k then (kv.1,y) else kv) (vs.map λkv=>if kv.1=k then (kv.1,u) else kv):=by
 unfold KV at r ⊢
 induction r with
 | nil=>exact .nil
 | @cons p q ps qs h t ih =>
  rw [V0,V0]
  refine .cons ?_ ih
  refine oq02 h λh1 h2=>?_
  by_cases e:p.1=k
  ·rw [if_pos e,if_pos (h1.symm.trans e)]; exact ⟨h1,ry⟩
  ·rw [if_neg e,if_neg (λz=>e (h1.trans z))]; exact ⟨h1,h2⟩
theorem KV.put {kvs:List (κ × V)} {vs:List (κ × Value)} (r:KV kvs vs) (k:κ) {y:V} {u:Value} (ry:RelV y u):KV (putK kvs k y) (stored vs k u):=by
 unfold putK stored
 rw [r.any k]
 by_cases e:(vs.any λkv=>decide (kv.1=k))=true
 ·rw [if_pos e,if_pos e]; exact r.repl k ry
 ·rw [if_neg e,if_neg e]; exact Paired.snoc r ⟨rfl,ry⟩
theorem KV.length {kvs:List (κ × V)} {vs:List (κ × Value)} (r:KV kvs vs):kvs.length=vs.length:=Paired.length r
end
theorem oo {P:W5} {w:World} {k:Key} {u:Value} (r:RelV (kV k) u):(aV P w).is k u=true:=by
 cases k with
 | inl i=>refine oq11 ((show ∃ t,u=O9 i t from r)) λt e=>?_; subst e; exact nY P w i t
 | inr x=>refine oq11 ((show ∃ t,u=Value.str x t from r)) λt e=>?_; subst e; exact nZ P w x t
theorem lG {P:W5} {w:World}:∀ {ks:List Key} {us:List Value},Vals (ks.map kV) us->ItemsAre (aV P w) ks us
 | [],_,r=>by rw [List.map_nil] at r; cases r; exact .nil
 | k :: ks,_,r=>by
  rw [V0] at r
  cases r with
  | cons h t=>exact .cons (oo h) (lG t)
abbrev KT (H:Hp):List (List Key × V)->List (List Key × Addr × Value)->Prop:=Paired λp q=>p.1=q.1/\H q.2.1=some (.tup (p.1.map kV))/\RelV p.2 q.2.2
theorem KT.val {H:Hp} {kvs:List (List Key × V)} {xs:List (List Key × Addr × Value)} (r:KT H kvs xs) (k:List Key):RelO (valV kvs k) ((atKey xs k).map (·.2)):=by
 induction r with
 | nil=>exact M0
 | @cons p q ps qs h t ih =>
  refine oq03 h λh1 _ h2=>?_
  by_cases e:p.1=k
  ·have e':q.1=k:=h1.symm.trans e
   have b:atKey (q :: qs) k=some q.2:=by simp [atKey,Q6,e']
   rw [gM e,b]; exact h2
  ·have e':¬ q.1=k:=λz=>e (h1.trans z)
   have b:atKey (q :: qs) k=atKey qs k:=by simp [atKey,Q6,e']
   rw [gN e,b]; exact ih
theorem KT.repl {H:Hp} {kvs:List (List Key × V)} {xs:List (List Key × Addr × Value)} (r:KT H kvs xs) (k:List Key) {y:V} {u:Value} (ry:RelV y u) :
  KT H (kvs.map λkv=>if kv.1=k then (kv.1,y) else kv) (xs.map (putAt k u)):=by
 induction r with
 | nil=>exact .nil
 | @cons p q ps qs h t ih =>
  rw [V0,V0]
  refine .cons ?_ ih
  refine oq03 h λh1 h2 h3=>?_
  unfold putAt
  by_cases e:p.1=k
  ·rw [if_pos e,if_pos (h1.symm.trans e)]; exact ⟨h1,h2,ry⟩
  ·rw [if_neg e,if_neg (λz=>e (h1.trans z))]; exact ⟨h1,h2,h3⟩
theorem KT.put {H:Hp} {kvs:List (List Key × V)} {xs:List (List Key × Addr × Value)} (r:KT H kvs xs) (k:List Key) {b:Addr} {y:V} {u:Value} (hb:H b=some (.tup (k.map kV))) (ry:RelV y u) :
  KT H (putK kvs k y) (storedH xs k b u):=by
 have e:(kvs.any λkv=>decide (kv.1=k))=(atKey xs k).isSome:=by
  rw [om,(r.val k).isSome_eq,Option.isSome_map]
 unfold putK storedH
 rw [e]
 by_cases q:(atKey xs k).isSome=true
 ·rw [if_pos q,if_pos q]; exact r.repl k ry
 ·rw [if_neg q,if_neg q]; exact Paired.snoc r ⟨rfl,hb,ry⟩
theorem KT.keeps {H H':Hp} {kvs:List (List Key × V)} {xs:List (List Key × Addr × Value)} (r:KT H kvs xs) (ht:∀ b ys,H b=some (.tup ys)->H' b=some (.tup ys)):KT H' kvs xs :=
 Paired.mapP r λ_ _ z=>⟨z.1,ht _ _ z.2.1,z.2.2⟩
section
variable {P:W5} {w:World} {H:Hp} {h:Heap} {a:Addr}
theorem rd_of {u:HO} (ok:HOk P w H h) (e:Rd H a u):aS P w H h a u:=e.ok ok
theorem dk_rd {kvs:List (Key × V)} (ok:HOk P w H h) (e:Rd H a (.dK kvs)):kvs.length<=V1/\(a == K6)=false/\∃ vs,KV kvs vs/\h.DictOf (aV P w) a vs :=
 show aS P w H h a (.dK kvs) from rd_of ok e
theorem dk_of {kvs:List (Key × V)} (ok:HOk P w H h) (e:H a=some (.dK kvs)):kvs.length<=V1/\(a == K6)=false/\∃ vs,KV kvs vs/\h.DictOf (aV P w) a vs:=dk_rd ok (.inl e)
theorem mD {ks:List Key} (ok:HOk P w H h) (e:H a=some (.tup (ks.map kV))):(tupleKind (aV P w)).is h ks a:=by
 refine oq02 ((show aS P w H h a (.tup (ks.map kV)) from ok a _ e)) λ_ zz=>oq12 zz λits r zz=>oq13 zz λo h1 h2 zz=>oq11 zz λn h3=>?_
 exact ⟨o,its.toArray,n,h1,h2,h3,by simpa using lG r⟩
theorem dt_rd {kvs:List (List Key × V)} (ok:HOk P w H h) (e:Rd H a (.dT kvs)):kvs.length<=V1/\(a == K6)=false /\
  ∃ xs,KT H kvs xs/\h.DictOfH (tupleKind (aV P w)) a xs:=by
 refine oq03 ((show aS P w H h a (.dT kvs) from rd_of ok e)) λz y zz=>oq12 zz λxs r zz=>oq35 zz λo es ep h1 h2 h3 h4 h5=>?_
 refine ⟨z,y,xs,r,o,es,ep,h1,h2,h3,h4,λx hx=>?_,h5⟩
 have all:∀ {l:List (List Key × V)} {m:List (List Key × Addr × Value)},KT H l m->∀ x∈m,(tupleKind (aV P w)).is h x.1 x.2.1:=by
  intro l m q
  induction q with
  | nil=>intro x hx; exact nomatch hx
  | @cons p q ps qs hq t ih =>
   intro x hx
   rcases Y4.mp hx with e | hx
   ·subst e
    exact mD ok (by rw [<- hq.1]; exact hq.2.1)
   ·exact ih x hx
 exact all r x hx
theorem dt_of {kvs:List (List Key × V)} (ok:HOk P w H h) (e:H a=some (.dT kvs)):kvs.length<=V1/\(a == K6)=false /\
  ∃ xs,KT H kvs xs/\h.DictOfH (tupleKind (aV P w)) a xs:=dt_rd ok (.inl e)
end
noncomputable def DGet (H:Hp) (a:Addr) (y:V) (r:Option V):Prop :=
 (∃ kvs k,Rd H a (.dK kvs)/\y=kV k/\r=valV kvs k)\/∃ kvs k b,Rd H a (.dT kvs)/\y=.ref b/\H b=some (.tup (k.map kV))/\r=valV kvs k
noncomputable def DPut (H:Hp) (a:Addr) (y v:V) (H':Hp):Prop :=
 (∃ kvs k,H a=some (.dK kvs)/\y=kV k/\kvs.length<V1/\H'=upd H a (.dK (putK kvs k v))) \/
 ∃ kvs k b,H a=some (.dT kvs)/\y=.ref b/\H b=some (.tup (k.map kV))/\kvs.length<V1/\H'=upd H a (.dT (putK kvs k v))
theorem DGet.k {H:Hp} {a:Addr} {kvs:List (Key × V)} {k:Key} (e:H a=some (.dK kvs)):DGet H a (kV k) (valV kvs k):=.inl ⟨kvs,k,.inl e,rfl,rfl⟩
theorem DPut.k {H:Hp} {a:Addr} {kvs:List (Key × V)} {k:Key} {v:V} (e:H a=some (.dK kvs)) (hl:kvs.length<V1):DPut H a (kV k) v (upd H a (.dK (putK kvs k v))):=.inl ⟨kvs,k,e,rfl,hl,rfl⟩
section
variable {X:Cx} {pins:List (Addr × Obj)} {σ:St} {H:Hp} {s:Shared} {a:Addr} {y v:V} {u r:Value} {o:Option V} {A:Around} {E:Value->Shared->Prop}
theorem Inv.big (I:Inv X pins σ H s):K6<s.heap.objs.size:=by
 have h:U8<s.heap.objs.size:=(I.mod.glob.keeps I.bk).lt
 exact nz8 (by decide) h
theorem d_getItem {Q:Value->Shared->Prop} (hu:A.units+1<cLine) (I:Inv X pins σ H s) (g:DGet H a y (some v)) (ry:RelV y u) (h:∀ w' s',Inv X pins σ H s'->RelV v w'->Q w' s') :
  wpAny (model X.prog X.w) A (getItem (.ref a) u) Q E s:=by
 rcases g with ⟨kvs,k,e,ey,l⟩ | ⟨kvs,k,b,e,ey,eb,l⟩
 ·subst ey
  refine oq03 (dk_rd I.hok e) λz hd zz=>oq12 zz λvs rel dd=>?_
  refine oq12 (RelO.some_of (v:=v) (o:=valueAt vs k) (by rw [l]; exact rel.val k)) λw' hw rw'=>?_
  exact wpAny_getItem_of (oo ry) dd.mapOf hw (h w' _ (I.tok _) rw')
 ·subst ey
  cases (show u=S7 b from ry)
  refine oq03 (dt_rd I.hok e) λz hd zz=>oq12 zz λxs rel dd=>?_
  refine oq12 (RelO.some_of (v:=v) (o:=(atKey xs k).map (·.2)) (by rw [l]; exact rel.val k)) λw' hw rw'=>?_
  refine oq12 (O4.mp hw) λp hp hp2=>?_
  refine wpAny_getItem_heap (tupleKind_room_in1 hu) (mD I.hok eb) dd hp ?_
  rw [hp2]
  exact h w' _ (I.tok _) rw'
theorem d_in {Q:Value->Shared->Prop} (hu:A.units+1<cLine) (I:Inv X pins σ H s) (g:DGet H a y o) (ry:RelV y u) (h:∀ s',Inv X pins σ H s'->Q (.bool o.isSome) s') :
  wpAny (model X.prog X.w) A (N5 .In u (.ref a)) Q E s:=by
 rcases g with ⟨kvs,k,e,ey,l⟩ | ⟨kvs,k,b,e,ey,eb,l⟩
 ·subst ey
  refine oq03 (dk_rd I.hok e) λz hd zz=>oq12 zz λvs rel dd=>?_
  refine wpAny_in_of (oo ry) hd dd.mapOf ?_
  rw [<- (rel.val k).isSome_eq,<- l]
  exact h _ (I.tok _)
 ·subst ey
  cases (show u=S7 b from ry)
  refine oq03 (dt_rd I.hok e) λz hd zz=>oq12 zz λxs rel dd=>?_
  refine wpAny_in_heap (tupleKind_room_in1 hu) (mD I.hok eb) hd dd ?_
  have q:=(rel.val k).isSome_eq
  rw [Option.isSome_map] at q
  rw [<- q,<- l]
  exact h _ (I.tok _)
theorem mE {h':Heap} {t':Nat} {ob:HO} (I:Inv X pins σ H s) (mu:Mut (H a)) (hs:S8 a s.heap h') (he:∃ q,h'.get? a=some q) (new:aS X.prog X.w (upd H a ob) h' a ob) :
  Inv X pins σ (upd H a ob) { s with heap:=h',toks:=t' } :=
 I.write (x:=a) (e:=a) mu (.inl rfl) (λb q hb z=>(hs.2 b hb).trans z) he new
theorem dk_new {P:W5} {w:World} {H':Hp} {h':Heap} {kvs:List (Key × V)} {vs:List (Key × Value)} (z:kvs.length<=V1) (hd:(a == K6)=false) (rel:KV kvs vs) (dd:h'.DictOf (aV P w) a vs) :
  aS P w H' h' a (.dK kvs):=⟨z,hd,vs,rel,dd⟩
theorem d_setItem {H':Hp} {Q:Unit->Shared->Prop} (hu:A.units+1<cLine) (I:Inv X pins σ H s) (g:DPut H a y v H') (ry:RelV y u) (rv:RelV v r) (h:∀ s',Inv X pins σ H' s'->Q () s') :
  wpAny (model X.prog X.w) A (setItem (.ref a) u r) Q E s:=by
 rcases g with ⟨kvs,k,e,ey,l,eH⟩ | ⟨kvs,k,b,e,ey,eb,l,eH⟩
 ·subst ey eH
  refine oq03 (dk_of I.hok e) λz hd zz=>oq12 zz λvs rel dd=>?_
  have hz:vs.length<=V1:=by rw [<- rel.length]; exact z
  have hl:(putK kvs k v).length<=V1:=by have:=iV kvs k v; omega
  refine wpAny_setItem_pairs (hsz:=hz) (oo ry) dd λh' dd' hs=>h _ ?_
  have he:∃ q,h'.get? a=some q:=oq32 dd' λq _ _ hq _=>⟨q,hq⟩
  exact mE I (by rw [e]; exact M0) hs he (dk_new hl hd (rel.put k rv) dd')
 ·subst ey eH
  cases (show u=S7 b from ry)
  refine oq03 (dt_of I.hok e) λz hd zz=>oq12 zz λxs rel dd=>?_
  have hz:xs.length<=V1:=by rw [<- Paired.length rel]; exact z
  have hl:(putK kvs k v).length<=V1:=by have:=iV kvs k v; omega
  refine wpAny_setItem_heap (hsz:=hz) (tupleKind_room_in1 hu) (mD I.hok eb) dd λh' dd' hs=>h _ ?_
  refine oq36 dd' λq es ep hq h2 h3 h4 _ h5=>?_
  refine mE I (by rw [e]; exact M0) hs ⟨q,hq⟩ ⟨hl,hd,_,(rel.put k eb rv).keeps λc ys ec=>?_,q,es,ep,hq,h2,h3,h4,h5⟩
  rw [ai (ne_of ec e (λz=>nomatch z))]
  exact ec
end
def NoSl (i:Expr):Prop:=∀ ov iv,subscripted i false ov iv=operate [ov,iv] (getItem ov iv)
theorem subD_of {prog:W5} {w:World} {A:Around} {E:Value->Shared->Prop} {s:Shared} {env:Env} {value slice:Expr} {pos:Pos} {T id:String} {Q:Value->Shared->Prop}
  (hl:typeLookup (.type T) "__getitem__"=pure (some (.builtin id))) (hs:NoSl slice)
  (h:wpAny (model prog w) A (eval value env) (λo s₁=>wpAny (model prog w) A (eval slice env) (λi s₂=>s₂.TypeIs o T/\wpAny (model prog w) A (getItem o i) Q E s₂) E s₁) E s) :
  wpAny (model prog w) A (eval (.Subscript value slice pos) env) Q E s:=by
 refine Subscript_ (T4 h (λo s₁ h₁=>T4 h₁ (λi s₂ h₂=>?_) λ_ _ x=>x) λ_ _ x=>x)
 refine oq02 h₂ λhT h₂=>?_
 unfold subscriptTail
 refine Z0 ?_
 rw [getitemInPython_of_ne hT.not_modules]
 refine Z0 (wpAny_specialOf hT hl ?_)
 have fin:wpAny (model prog w) A (subscripted slice false o i) (λr s₃=>wpAny (model prog w) A (letTemporaryGo value o r >>= λ_=>pure r) Q E s₃) E s₂:=by
  rw [hs o i]
  exact wpAny_operating (T4 h₂ (λr s₃ h₃=>Z0 (wpAny_letTemporaryGo (Y0 h₃))) λ_ _ x=>x)
 first
  | exact Y0 (Z0 fin)
  | exact Z0 (Y0 (Z0 fin))
  | exact Z0 fin
theorem oq {X:Cx} {pins:List (Addr × Obj)} {σ:St} {H:Hp} {s:Shared} {a:Addr} {y:V} {o:Option V} (I:Inv X pins σ H s) (g:DGet H a y o):s.TypeIs (.ref a) "dict":=by
 rcases g with ⟨kvs,k,e,_,_⟩ | ⟨kvs,k,b,e,_,_,_⟩
 ·refine oq03 (dk_rd I.hok e) λ_ _ zz=>oq12 zz λvs _ dd=>?_
  exact dd.typeIs
 ·refine oq03 (dt_rd I.hok e) λ_ _ zz=>oq12 zz λxs _ dd=>?_
  exact dd.typeIs
def tDGet (td ty:TE):TE:=λσ H Q=>td σ H λx H1=>ty σ H1 λy H2=>∃ a v,x=.ref a/\DGet H2 a y (some v)/\Q v H2
def sDPut (td ty tv:TE):TS:=λD σ H=>tv σ H λv H1=>td σ H1 λx H2=>ty σ H2 λy H3=>∃ a H4,x=.ref a/\DPut H3 a y v H4/\D.nx σ H4
section
variable {X:Cx} {o i value:Expr} {pos pos':Pos} {td ty tv:TE}
theorem pe_dget (hu:X.A.units+1<cLine) (ho:PE X o td) (hi:PE X i ty) (hs:NoSl i):PE X (.Subscript o i pos) (tDGet td ty):=by
 intro pins s σ H Q I h
 refine subD_of PySem.F.slot_dict_getitem.lookup hs (thn (ho pins s σ H _ I h) λu s1 zq=>oq23 zq λx H1 I1 rx q1=>thn (hi pins s1 σ H1 _ I1 q1) λiv s2 zq=>oq23 zq λy H2 I2 ry zz=>oq23 zz λa v ex g q2=>?_)
 subst ex
 obtain rfl:u=S7 a:=rx
 exact ⟨oq I2 g,d_getItem hu I2 g ry λw' s3 I3 rw'=>⟨v,H2,I3,rw',q2⟩⟩
theorem ps_dput (hu:X.A.units+1<cLine) (ho:PE X o td) (hi:PE X i ty) (hv:PE X value tv) (hs:swapsWith value (some (.Subscript o i pos')) pos.line X.env=pure false) :
  PS X (.Assign [.Subscript o i pos'] value pos) (sDPut td ty tv):=by
 intro pins s σ H D I h
 refine wpAny_Assign_Subscript (thn (hv pins s σ H _ I h) λr s1 zq=>oq23 zq λv H1 I1 rv q1=>thn (ho pins s1 σ H1 _ I1 q1) λu s2 zq=>oq23 zq λx H2 I2 rx q2=>thn (hi pins s2 σ H2 _ I2 q2) λiv s3 zq=>oq23 zq λy H3 I3 ry zz=>oq23 zz λa H4 ex g q3=>?_) hs
 subst ex
 obtain rfl:u=S7 a:=rx
 exact d_setItem hu I3 g ry rv λs4 I4=>⟨σ,H4,I4,q3⟩
end
theorem ot {P:W5} {w:World} {H:Hp} (h:Heap) (hb:K6<h.objs.size):aS P w H (h.push { cls:=.type "dict",data:=.dict #[] }) h.objs.size (.dK []) :=
 ⟨U2 _,beq_eq_false_iff_ne.mpr (R5 (nz7 hb)),[],.nil,Heap.DictOf.new h⟩
def tDNewK:TE:=λ_ H Q=>∀ p,H p=none->Q (.ref p) (upd H p (.dK []))
section
variable {X:Cx} {pos:Pos}
theorem pe_dnewK:PE X (.Dict [] [] pos) tDNewK:=λpins s σ H Q I h =>
 wpAny_Dict_empty ⟨.ref s.heap.objs.size,_,I.laid (a:=s.heap.objs.size) (o:=.dK []) (t':=s.toks) (λ_ _ q=>Z5 _ q) (nz6 _) (ot s.heap I.big),rfl,h _ (I.hok.fresh (nz6 _))⟩
end
def tPairs:List (TE × TE)->St->Hp->(List (V × V)->Hp->Prop)->Prop
 | [],_,H,Q=>Q [] H
 | (tk,tv) :: r,σ,H,Q=>tk σ H λx H1=>tv σ H1 λy H2=>tPairs r σ H2 λps H3=>Q ((x,y) :: ps) H3
abbrev VV:List (V × V)->List (Value × Value)->Prop:=Paired λp q=>RelV p.1 q.1/\RelV p.2 q.2
noncomputable def PPs (X:Cx) (pos:Pos) (keys:List (Option Expr)) (values:List Expr) (trs:List (TE × TE)):Prop :=
 ∀ (pins:List (Addr × Obj)) (s:Shared) (σ:St) (H:Hp) (Q:List (V × V)->Hp->Prop),Inv X pins σ H s->tPairs trs σ H Q ->
  wpAny (model X.prog X.w) X.A (evalPairs (pairTrees keys values X.env pos)) (λvs s'=>∃ ps H',Inv X pins σ H' s'/\VV ps vs/\Q ps H') X.xe s
theorem pps_nil {X:Cx} {pos:Pos}:PPs X pos [] [] []:=λpins s σ H Q I h=>pairTrees_nil_walk ⟨[],H,I,.nil,h⟩
theorem pps_cons {X:Cx} {pos:Pos} {k v:Expr} {ks:List (Option Expr)} {vs:List Expr} {tk tv:TE} {trs:List (TE × TE)} (hk:PE X k tk) (hv:PE X v tv) (hr:PPs X pos ks vs trs) :
  PPs X pos (some k :: ks) (v :: vs) ((tk,tv) :: trs):=λpins s σ H Q I h =>
 pairTrees_cons_walk (thn (hk pins s σ H _ I h) λu s1 zq=>oq23 zq λx H1 I1 rx q1=>thn (hv pins s1 σ H1 _ I1 q1) λw2 s2 zq=>oq23 zq λy H2 I2 ry q2 =>
  thn (hr pins s2 σ H2 _ I2 q2) λws s3 zq=>oq23 zq λps H3 I3 rel q3=>⟨(x,y) :: ps,H3,I3,.cons ⟨rx,ry⟩ rel,q3⟩)
noncomputable def mergeK (kvs more:List (Key × V)):List (Key × V):=more.foldl (λacc kv=>putK acc kv.1 kv.2) kvs
theorem KV.merge:∀ {more:List (Key × V)} {rs:List (Key × Value)} {kvs:List (Key × V)} {vs:List (Key × Value)},KV more rs->KV kvs vs->KV (mergeK kvs more) (merged vs rs):=by
 intro more rs kvs vs r
 unfold KV at r
 induction r generalizing kvs vs with
 | nil=>intro q; exact q
 | @cons p q ps qs h t ih =>
  intro r0
  have e:KV (putK kvs p.1 p.2) (stored vs q.1 q.2):=by
   have:=r0.put p.1 h.2
   rw [<- h.1]; exact this
  exact ih e
end L2
namespace Att
open PySem PySem.W PySem.Calls PyProof.Rows
theorem jg {P:Params} {h:Heap}:∀ (ns:List Int) (vs:List Value),WellAll P h vs (ns.map WData.int)->J8 vs ns:=by
 intro ns
 induction ns with
 | nil =>
  intro vs w
  rw [List.map_nil] at w
  cases w
  exact .nil
 | cons n ns ih =>
  intro vs w
  rw [V0] at w
  cases w with
  | cons a b =>
   cases a
   exact .cons _ _ (ih _ b)
theorem script_of {l:OpenLaw} {n:Nat} (hn:l.most=some n) {P:Params} {h:Heap} {args:List WData} {vals:List Value}
  (hpre:l.row.toRowW.claim.pre args=true) (hwl:WellAll P h vals args) :
  ∃ a vs ns,vals=[S7 a]/\args=[WData.list (ns.map WData.int)]/\h.get? a=some { cls:=.type "list",data:=.seq vs.toArray }/\J8 vs ns/\ns.length<=n:=by
 have hsh:WShape.hasAll [] args [.list .int]=true:=(pre_splitW hpre).1
 have hc:l.pre.holds [] { args:=args }=true:=(pre_splitW hpre).2
 refine oq23 (hasAllW_cons hsh) λd r eq2_ h1 h2=>?_; subst eq2_
 obtain rfl:=hasAllW_nil h2
 refine oq12 (hasW_list h1) λxs eq1_ h3=>?_; subst eq1_
 refine oq11 (items_int h3) λns eq1_=>?_; subst eq1_
 have hlen:ns.length<=n:=by
  unfold OpenLaw.pre at hc
  have h4:(WTm.not (.lt (.lit (.int (n:Int))) (.len (.arg 0)))).holds [] { args:=[.list (ns.map .int)] }=true:=by
   have h4:=(holds_andW hc).1
   rw [hn] at h4
   exact h4
  have h5:=condW_of h4 (w_not (w_lt w_lit (w_len_list (w_arg rfl))))
  rw [Y3] at h5
  refine M9 λq=>?_
  have q':(n:Int)<((ns.length:Nat):Int):=by omega
  first
   | (rw [decide_eq_true q'] at h5; exact absurd h5 (by decide))
   | (simp at h5; omega)
 cases hwl with
 | cons w1 w2 =>
  cases w2
  cases w1 with
  | list ho hall=>exact ⟨_,_,ns,rfl,rfl,ho,jg ns _ hall,hlen⟩
theorem post_true (l:OpenLaw) (args:List WData):l.row.toRowW.claim.post args (.bool true) args=true :=
 postW_of (r:=l.row.toRowW) (X:=(true == true))
  (show WShape.has [] (.bool true) .bool=true by first | rfl | decide | simp [WShape.has,WShape.arms,WShape.armsAll])
  (show (WTm.eq .res (.lit (.bool true))).value [] { args:=args,res:=some (.bool true),after:=args }=some (.bool (true == true)) from w_eq_bool (w_res rfl) w_lit) rfl
theorem oA {l:OpenLaw} {n:Nat} {q:W5} {loose:List Str} {XP:(Str->Option Value)->Heap->Prop} {YP:World->Heap->Prop} {d:DefRec}
  (hn:l.most=some n) (hdf:d.params.defaults=[])
  (call:∀ (w:World) (s₀ s₁:Shared) (mg mb:Str->Option Value) (fa:Addr) (o:Obj) (pm cd doc:Value) (a:Addr) (vs:List Value) (ns:List Int),
   Ground q loose [] XP w s₀ mg mb s₁.heap->YP w s₁.heap ->
   s₁.heap.get? fa=some o->o.data=.func (docDef d.name d.params d.body d.scope pm cd doc)->s₁.heap.CodeRec cd d.name->mg d.name=some (.ref fa) ->
   s₁.heap.get? a=some { cls:=.type "list",data:=.seq vs.toArray }->J8 vs ns->ns.length<=n->s₁.gens=#[] ->
   codeAny (model l.prog w) callerA (.call (.ref fa) ⟨[.ref a],[]⟩) (λr s'=>r=.ok (.ret (.bool true))/\OldK s₁.heap s'.heap/\s'.os=s₁.os/\AllBare s'.gens) s₁) :
  WalkO q loose XP YP l.row.toRowW d [] (λf vs=>PySem.call f vs):=by
 intro w s₀ s₁ mg mb G Y fa o pm cd doc dV kV ho hd hcd hD hmg hg args vals as hpre hlay hrd hwl hlo
 obtain rfl:dV=.none:=Dflts.none hD hdf
 obtain rfl:kV=.none:=Dflts.noKw hD
 refine oq35 (script_of hn hpre hwl) λa vs ns eq3_ eq4_ hobj hints hlen=>?_; subst eq3_; subst eq4_
 refine enter_call (C1 (call w s₀ s₁ mg mb fa o pm cd doc a vs ns G Y ho (fd_plain hd) hcd hmg hobj hints hlen hg) λr s' hq=>?_)
 refine oq04 hq λeq0_ h2 h3 h4=>?_; subst eq0_
 exact ⟨.inl ⟨.bool true,.bool true,[],rfl,λ_=>rfl,.bool true,post_true l _,λ_=>⟨List.Pairwise.nil,λ_ hm=>(nomatch hm)⟩⟩,h2,h3,h4⟩
end Att
namespace L2
open PySem PySem.Spec PyProof.Rows
theorem iA:∀ {vs:List Value} {ns:List Int},J8 vs ns->Vals (ns.map V.int) vs:=λp=>by
 induction p with
 | nil=>exact .nil
 | cons n t _ ih=>exact .cons ⟨t,rfl⟩ ih
def Only (H:Hp):Prop:=∀ b,H b=none\/∃ o xs,H b=some (.frz o (.lst xs))
end L2
namespace L2
open PySem PySem.Spec PyProof.Rows
noncomputable def inClass (s:Stmt) (j:Nat):Stmt:=match s with
 | .ClassDef _ _ _ body _ _ _ _ _ _ _=>body.getD j (.Pass ⟨0,0,0,0⟩)
 | _=>.Pass ⟨0,0,0,0⟩
noncomputable def b0 (s:Stmt):Arguments:=match s with
 | .FunctionDef _ a _ _ _ _ _ _ _ _=>a
 | _=>{ posonlyargs:=[],args:=[],vararg:=none,kwonlyargs:=[],kw_defaults:=[],kwarg:=none,defaults:=[] }
noncomputable def aF (s:Stmt):List Stmt:=match s with
 | .FunctionDef _ _ b _ _ _ _ _ _ _=>b
 | _=>[]
noncomputable def aa (s:Stmt):Scope:=match s with
 | .FunctionDef _ _ _ _ _ _ sc _ _ _=>sc
 | _=>{ kind:=.function,names:=[],isGenerator:=false,isCoroutine:=false }
abbrev CX0:CXT:=λ_ _ _ _ _ _=>False
abbrev E0:XK:=λ_ _ _=>False
theorem pass0 {X:Cx}:iy CX0 X E0:=λ_ _ _ _ _ _ _ h=>h.elim
structure Fun (K:Z3) (x qual:Str) (st:Stmt) (f:Addr) (fd:C9):Prop where
 ex:∃ (oc:Value) (od:Option Addr) (kV doc pm:Value) (an:Option Addr) (cdv ct:Value) (osl:Array (Option Value)),
  fd=T7 x qual (b0 st) (aF st) (aa st) .none kV doc pm an cdv ct/\K.lookup f=some ⟨oc,od,.func fd,osl⟩/\P7 K cdv qual=true
 kp:T5 K (.ref f)=true
section
variable {P:W5} {w:World} {K:Z3} {mg:Str->Option Value} {base:Heap}
theorem Fun.ok {x qual:Str} {st:Stmt} {f:Addr} {fd:C9} {N ps:List Str} {k:Nat} {sp:Sp} (F:Fun K x qual st f fd) (S:FnScope N ps (aa st)) (len:∀ vs H Q E,sp vs H Q E->vs.length=ps.length)
  (hbody:∀ (cdv:Value) (A:Around) (outer:List Env) (s:Shared) (H:Hp) (vs:List V) (Q:VK) (E:XK),Room k (A.deeper (envOfC qual (aa st) s.heap.objs.size f cdv))->sp vs H Q E ->
   ∃ t,PSs (cxOf CX0 P w K mg base N qual (aa st) f cdv A outer s H E).nox (aF st) t/\t { nx:=λ_ H'=>Q .non H',rt:=Q } (start N vs) H):FnOk P w K mg base CX0 (k+1) f fd ps sp:=by
 refine oq71 F.ex λoc od kV doc pm an cdv zz=>oq23 zz λct osl eq9_ lk hcd=>?_; subst eq9_
 refine fn_of lk hcd S len λA outer s H vs Q E hr hsp=>?_
 refine oq12 (hbody cdv A outer s H vs Q E hr hsp) λt h q=>?_
 exact ⟨t,h.nox,q⟩
theorem Fun.binds {x qual:Str} {st:Stmt} {f:Addr} {fd:C9} {ps:List Str} (F:Fun K x qual st f fd)
  (h:∀ (kV doc pm:Value) (an:Option Addr) (cdv ct:Value) (us:List Value),us.length=ps.length->A9 (T7 x qual (b0 st) (aF st) (aa st) .none kV doc pm an cdv ct) ⟨us,[]⟩=pure (ps.zip us)):Binds K fd ps []:=by
 refine oq71 F.ex λoc od kV doc pm an cdv zz=>oq23 zz λct osl eq9_ lk hcd=>?_; subst eq9_
 exact .all (h kV doc pm an cdv ct)
theorem eJ {x qual:Str} {st:Stmt} {f:Addr} {oc:Value} {od an:Option Addr} {osl:Array (Option Value)} {kV doc pm cdv ct:Value} (l:K.lookup f=some ⟨oc,od,.func (T7 x qual (b0 st) (aF st) (aa st) .none kV doc pm an cdv ct),osl⟩)
  (c:P7 K cdv qual=true) (k:T5 K (.ref f)=true):Fun K x qual st f (T7 x qual (b0 st) (aF st) (aa st) .none kV doc pm an cdv ct):=⟨⟨oc,od,kV,doc,pm,an,cdv,ct,osl,rfl,l,c⟩,k⟩
end
theorem ba {A:Around} {k:Nat} (hr:Room k A):A.units+1<cLine:=nz2 (Nat.add_le_add_left (by decide:1<=64) _) hr.units
section
variable {X:Cx}
theorem pv (i:Nat) {x:Str} {pos:Pos} (hN:autoParam (X.N[i]?=some x) L2.a2q._auto_1) (hv:Vis X.env.scope x:=by first | exact Or.inl rfl | exact Or.inr (Or.inl rfl) | exact Or.inr (Or.inr rfl)) (hd:autoParam ((x == ("__debug__":Str))=false) L2.a0q._auto_1)
  (hcd:autoParam ((x == ("__classdict__":Str))=false) L2.a0q._auto_1):PE X (.Name x pos) (tVar i):=pe_var hN hv hd hcd
end
def Same (H H':Hp):Prop:=∀ b o,H b=some o->H' b=some o
theorem Same.refl (H:Hp):Same H H:=λ_ _ h=>h
theorem Same.trans {H H1 H2:Hp} (a:Same H H1) (b:Same H1 H2):Same H H2:=λc o h=>b c o (a c o h)
theorem Same.free {H H':Hp} (e:Same H H') {l:Addr} (h:H' l=Option.none):H l=Option.none:=by
 cases q:H l with
 | none=>rfl
 | some o =>
  rw [e l o q] at h
  cases h
theorem Same.seq {K:Z3} {H H':Hp} {a:Addr} {xs:List V} (e:Same H H') (h:SqL K H a xs):SqL K H' a xs:=by
 rcases h with (h | ⟨o,h⟩) | h
 ·exact .inl (.inl (e _ _ h))
 ·exact .inl (.inr ⟨o,e _ _ h⟩)
 ·exact .inr h
end L2
set_option maxHeartbeats 1000000
namespace Fl
noncomputable def mn (i j:Int):Int:=if j<i then j else i
noncomputable def mx (i j:Int):Int:=if j > i then j else i
noncomputable def jD (a b c:Int):Nat:=(if a<b then (b - a - 1) / c+1 else 0).toNat
noncomputable def cellAt (ns:List Int) (k:Nat):Int:=ns.getD k 0
noncomputable def mixed (n k:Int):Int:=(n % 100000000000000000000 * 40503+k * k * 2503+11) % 2147483587
noncomputable def cr (n k way:Int):Int :=
 if way=0 then mixed n k % 4 else if way=1 then mixed n k % 12 else if way=2 then n % 1000000000000000001
 else if mixed n k / 3 % 2=0 then mixed n k % 3 else 1000000000000000000 - mixed n k % 3
noncomputable def folded (hs:List Int) (c:Nat):List (List Int):=(X3 (jD 0 ((hs.length:Int) - c+1) c)).map λi=>(hs.drop (i * c)).take c
noncomputable def dO (v:Int) (n:Nat):Int :=
 mx (if v % 5=4 then mx 1 (mn (1+v / 5 % mn 12 n) ((n:Int) / 3)) else 1+v / 5 % mn 12 n) (0 - (0 - (n:Int)) / 12)
noncomputable def cu (ns:List Int) (first:Nat):List Int:=(((ns.drop (first+1)).take 60).zipIdx).map λp=>cr p.1 (p.2:Nat) (cellAt ns first % 5 % 4)
noncomputable def bb (ns:List Int) (first:Nat):List Int:=if cu ns first=[] then [cellAt ns first / 5 % 1000000000000000001] else cu ns first
noncomputable def floorOf (ns:List Int) (first:Nat):List (List Int):=folded (bb ns first) (dO (cellAt ns first) (bb ns first).length).toNat
theorem jE (n k:Int):0<=mixed n k:=Int.emod_nonneg _ (by decide)
theorem kO (n k way:Int):0<=cr n k way/\cr n k way<=1000000000000000000:=by
 have h:=jE n k
 unfold cr
 generalize mixed n k=m at *
 split
 ·omega
 ·split
  ·omega
  ·split
   ·omega
   ·split <;> omega
theorem mn12 {n:Nat} (hn:0<n):1<=mn 12 n/\mn 12 n<=12/\mn 12 n<=n:=by unfold mn; split <;> omega
theorem mx_le {a b k:Int} (h1:a<=k) (h2:b<=k):mx a b<=k:=by unfold mx; split <;> assumption
theorem le_mxl (a b:Int):a<=mx a b:=by
 unfold mx; split
 ·exact G4 (by assumption)
 ·exact Int.le_refl _
theorem le_mxr (a b:Int):b<=mx a b:=by
 unfold mx; split
 ·exact Int.le_refl _
 ·exact Int.not_lt.mp (by assumption)
theorem mn_lel (a b:Int):mn a b<=a:=by
 unfold mn; split
 ·exact G4 (by assumption)
 ·exact Int.le_refl _
theorem twelfth {n:Nat} (h2:n<=60):0 - (0 - (n:Int)) / 12<=12/\0 - (0 - (n:Int)) / 12<=n/\(n:Int)<=12 * (0 - (0 - (n:Int)) / 12):=by omega
theorem iW (v:Int) {n:Nat} (h1:0<n) (h2:n<=60):1<=dO v n/\dO v n<=12/\dO v n<=n/\(n:Int)<=12 * dO v n:=by
 refine oq03 (mn12 h1) λa1 a2 a3=>?_
 have b1:0<=v / 5 % mn 12 n:=Int.emod_nonneg _ (Int.ne_of_gt a1)
 have b2:1+v / 5 % mn 12 n<=mn 12 n:=by rw [Int.add_comm]; exact Int.emod_lt_of_pos _ a1
 refine oq03 (twelfth h2) λq1 q2 q3=>?_
 have p:1<=(if v % 5=4 then mx 1 (mn (1+v / 5 % mn 12 n) ((n:Int) / 3)) else 1+v / 5 % mn 12 n)/\(if v % 5=4 then mx 1 (mn (1+v / 5 % mn 12 n) ((n:Int) / 3)) else 1+v / 5 % mn 12 n)<=mn 12 n:=by
  split
  ·exact ⟨le_mxl _ _,mx_le a1 (P4 (mn_lel _ _) b2)⟩
  ·exact ⟨Int.le_add_of_nonneg_right b1,b2⟩
 unfold dO
 exact (oi04 (P4 p.1 (le_mxl _ _)) (mx_le (P4 p.2 a2) q1) (mx_le (P4 p.2 a3) q2) (P4 q3 (Int.mul_le_mul_of_nonneg_left (le_mxr _ _) (by decide))))
theorem jF {n c:Nat} (hc:0<c) (hcn:c<=n):jD 0 ((n:Int) - c+1) c=n / c:=by
 unfold jD
 rw [if_pos (by omega)]
 have e:(n:Int) - c+1 - 0 - 1=((n - c:Nat):Int):=by omega
 rw [e]
 have e2:(((n - c:Nat):Int) / (c:Int))=(((n - c) / c:Nat):Int):=by norm_cast
 rw [e2]
 have e3:n / c=(n - c) / c+1:=by
  rw [Nat.div_eq n c,if_pos ⟨hc,hcn⟩]
 rw [e3]
 generalize (n - c) / c=q
 omega
structure Shape (rows:List (List Int)) (c:Nat):Prop where
 pos:0<rows.length
 most:rows.length<=12
 cpos:0<c
 cmost:c<=12
 row:∀ r∈rows,r.length=c
 area:rows.length * c<=60
 hts:∀ r∈rows,∀ x∈r,0<=x/\x<=1000000000000000000
theorem mF {hs:List Int} {c:Nat} (hc:0<c) (hc12:c<=12) (hcn:c<=hs.length) (hn:hs.length<=60) (h12:hs.length<=12 * c+(c - 1)) (hb:∀ x∈hs,0<=x/\x<=1000000000000000000):Shape (folded hs c) c:=by
 have e:(folded hs c).length=hs.length / c:=by unfold folded; rw [Y3,V5,jF hc hcn]
 refine ⟨?_,?_,hc,hc12,?_,?_,?_⟩
 ·rw [e]; exact Nat.div_pos hcn hc
 ·rw [e]
  have:hs.length / c<13:=(B6 hc).mpr (by omega)
  omega
 ·intro r hr
  unfold folded at hr
  refine oq12 (Q4.mp hr) λi hi eq2_=>?_; subst eq2_
  rw [L8,jF hc hcn] at hi
  rw [V7,O3]
  have h1:(i+1) * c<=hs.length:=nz4 (G6 c hi) (Nat.div_mul_le_self _ _)
  rw [Nat.add_mul,Nat.one_mul] at h1
  omega
 ·rw [e]
  exact nz4 (Nat.div_mul_le_self _ _) hn
 ·intro r hr x hx
  unfold folded at hr
  refine oq12 (Q4.mp hr) λi hi eq2_=>?_; subst eq2_
  exact hb x (K0 (K1 hx))
theorem iX (ns:List Int) (first:Nat):0<(bb ns first).length/\(bb ns first).length<=60:=by
 unfold bb
 split
 ·simp
 ·rename_i h
  refine ⟨List.length_pos_iff.mpr h,?_⟩
  unfold cu
  rw [Y3,List.length_zipIdx,V7]
  omega
theorem jG (ns:List Int) (first:Nat):∀ x∈bb ns first,0<=x/\x<=1000000000000000000:=by
 intro x hx
 unfold bb at hx
 split at hx
 ·have e:x=cellAt ns first / 5 % 1000000000000000001:=by simpa using hx
  rw [e]; omega
 ·unfold cu at hx
  refine oq12 (Q4.mp hx) λp _ eq2_=>?_; subst eq2_
  exact kO _ _ _
theorem oB (ns:List Int) (first:Nat):Shape (floorOf ns first) (dO (cellAt ns first) (bb ns first).length).toNat:=by
 refine oq02 (iX ns first) λh1 h2=>?_
 refine oq04 (iW (cellAt ns first) h1 h2) λa1 a2 a3 a4=>?_
 unfold floorOf
 exact mF (by omega) (by omega) (by omega) h2 (by omega) (jG ns first)
theorem jH {i j c:Nat} (hj:j<c):(i * c+j) / c=i/\(i * c+j) % c=j:=by
 have hc:0<c:=by omega
 constructor
 ·rw [Nat.mul_comm,Nat.mul_add_div hc,Nat.div_eq_of_lt hj]; omega
 ·rw [Nat.mul_comm,Nat.mul_add_mod,Nat.mod_eq_of_lt hj]
end Fl
namespace Fl
noncomputable def dif (a b:Int):Int:=if a - b<0 then -(a - b) else a - b
theorem oC (a b:Int):dif a b=dif b a:=by unfold dif; split <;> split <;> omega
noncomputable def adj (c:Nat) (reach:Int) (x o:Nat):Bool :=
 decide (dif (o / c:Nat) (x / c:Nat)+dif (o % c:Nat) (x % c:Nat)=1\/(reach=8/\dif (o / c:Nat) (x / c:Nat)=1/\dif (o % c:Nat) (x % c:Nat)=1))
noncomputable def nbL (m c:Nat) (reach:Int) (x:Nat):List Nat:=(X3 (m * c)).filter (adj c reach x)
theorem adj_comm (c:Nat) (reach:Int) (x o:Nat):adj c reach x o=adj c reach o x:=by
 unfold adj; rw [oC (o / c:Nat),oC (o % c:Nat)]
theorem jk {m c:Nat} {reach:Int} {x o:Nat}:o∈nbL m c reach x↔o<m * c/\adj c reach x o=true:=by
 unfold nbL; rw [C8,L8]
theorem nbL_len (m c:Nat) (reach:Int) (x:Nat):(nbL m c reach x).length<=m * c:=by
 unfold nbL
 exact nz4 (M5 _ _) (by rw [V5]; exact nz6 _)
theorem iB (p:Nat->Bool) (n:Nat):(X3 (n+1)).filter p=(X3 n).filter p++(if p n=true then [n] else []):=by
 rw [List.range_succ,List.filter_append]
 congr 1
 by_cases h:p n=true
 ·rw [if_pos h]; simp [h]
 ·rw [if_neg h]; simp [h]
theorem dW (p:Nat->Bool) (a:Nat):∀ (b:Nat),a<=b->(∀ i,a<=i->i<b->p i=false)->(X3 b).filter p=(X3 a).filter p
 | 0,h,_=>by
  have:a=0:=T2 h (U2 _)
  subst this; rfl
 | b+1,h,hp=>by
  by_cases e:a=b+1
  ·subst e; rfl
  ·rw [iB,dW p a b (by omega) λi h1 h2=>hp i h1 (by exact nz8 h2 (U1 _)),hp b (by omega) (by exact U1 _)]
   simp
theorem adj_at {c k:Nat} (hk:k<c) (reach:Int) (x r:Nat):adj c reach x (r * c+k)=decide (dif (r:Nat) (x / c:Nat)+dif (k:Nat) (x % c:Nat)=1\/(reach=8/\dif (r:Nat) (x / c:Nat)=1/\dif (k:Nat) (x % c:Nat)=1)):=by
 refine oq02 (jH (i:=r) hk) λe1 e2=>?_
 unfold adj
 rw [e1,e2]
theorem iY {c:Nat} (hc:0<c) {reach:Int} {x o:Nat} (h:o / c+1<x / c\/x / c+1<o / c):adj c reach x o=false:=by
 unfold adj
 rw [decide_eq_false_iff_not]
 unfold dif
 split <;> split <;> omega
theorem iZ {c:Nat} {reach:Int} {x o:Nat} (h:o % c+1<x % c\/x % c+1<o % c):adj c reach x o=false:=by
 unfold adj
 rw [decide_eq_false_iff_not]
 unfold dif
 split <;> split <;> omega
end Fl
namespace Gr
inductive Rch (nb:Nat->Nat->Prop) (ok:Nat->Prop) (x:Nat):Nat->Prop where
 | here:Rch nb ok x x
 | on {y z:Nat}:Rch nb ok x y->nb y z->ok z->Rch nb ok x z
section
variable {nb:Nat->Nat->Prop} {ok:Nat->Prop} {x y z:Nat}
theorem Rch.closed {S:Nat->Prop} (hx:S x) (hc:∀ y z,S y->nb y z->ok z->S z) (h:Rch nb ok x y):S y:=by
 induction h with
 | here=>exact hx
 | on _ h1 h2 ih=>exact hc _ _ ih h1 h2
theorem Rch.trans (h:Rch nb ok x y) (h':Rch nb ok y z):Rch nb ok x z:=by
 induction h' with
 | here=>exact h
 | on _ h1 h2 ih=>exact .on ih h1 h2
theorem Rch.ok_ (hx:ok x) (h:Rch nb ok x y):ok y:=by
 cases h with
 | here=>exact hx
 | on _ _ h=>exact h
theorem Rch.symm (sy:∀ a b,nb a b->nb b a) (hx:ok x) (h:Rch nb ok x y):Rch nb ok y x:=by
 induction h with
 | here=>exact .here
 | on h1 h2 h3 ih=>exact Rch.trans (.on .here (sy _ _ h2) (h1.ok_ hx)) ih
theorem Rch.mono {nb':Nat->Nat->Prop} {ok':Nat->Prop} (h1:∀ a b,nb a b->ok b->nb' a b/\ok' b) (h:Rch nb ok x y):Rch nb' ok' x y:=by
 induction h with
 | here=>exact .here
 | on _ h2 h3 ih=>exact .on ih (h1 _ _ h2 h3).1 (h1 _ _ h2 h3).2
end
theorem jI:∀ (n:Nat) {l:List Nat},l.Nodup->(∀ x∈l,x<n)->l.length<=n
 | 0,l,_,h=>by
  cases l with
  | nil=>exact nz6 _
  | cons a l=>exact absurd (h a (Y4.mpr (.inl rfl))) (K8 _)
 | n+1,l,hn,h=>by
  have h1:=jI n (l:=l.erase n) (hn.erase n) λx hx=>by
   have:=(hn.mem_erase_iff).mp hx
   have:=h x this.2
   have:x≠n:=(hn.mem_erase_iff.mp hx).1
   omega
  rw [List.length_erase] at h1
  split at h1
  ·omega
  ·exact nz5 (nz2 h1 (U1 _))
structure Sea (nb:Nat->List Nat) (ok:Nat->Bool) (x:Nat) (ks ws:List Nat):Prop where
 nd:ks.Nodup
 x_in:x∈ks
 rch:∀ k∈ks,Rch (λa b=>b∈nb a) (λa=>ok a=true) x k
 sub:∀ w∈ws,w∈ks
 clo:∀ k∈ks,k ∉ ws->∀ o∈nb k,ok o=true->o∈ks
structure SeaAt (nb:Nat->List Nat) (ok:Nat->Bool) (x u:Nat) (done ks ws:List Nat):Prop where
 nd:ks.Nodup
 x_in:x∈ks
 rch:∀ k∈ks,Rch (λa b=>b∈nb a) (λa=>ok a=true) x k
 sub:∀ w∈ws,w∈ks
 clo:∀ k∈ks,k ∉ ws->k≠u->∀ o∈nb k,ok o=true->o∈ks
 u_in:u∈ks
 dn:∀ o∈done,ok o=true->o∈ks
section
variable {nb:Nat->List Nat} {ok:Nat->Bool} {x u o:Nat} {done ks ws:List Nat}
theorem Sea.start:Sea nb ok x [x] [x]:=⟨by simp,by simp,λk hk=>by simp at hk; subst hk; exact .here,λw hw=>hw,λk hk hn=>absurd hk hn⟩
theorem Sea.take {ws':List Nat} (s:Sea nb ok x ks ws) (hu:u∈ws) (hw:∀ w∈ws,w=u\/w∈ws') (hs:∀ w∈ws',w∈ws):SeaAt nb ok x u [] ks ws' :=
 ⟨s.nd,s.x_in,s.rch,λw h=>s.sub w (hs w h),λk hk hn hne o ho=>s.clo k hk (λz=>(hw k z).elim hne hn) o ho,s.sub u hu,λ_ h=>nomatch h⟩
theorem SeaAt.skip (s:SeaAt nb ok x u done ks ws) (h:ok o=true->o∈ks):SeaAt nb ok x u (done++[o]) ks ws :=
 ⟨s.nd,s.x_in,s.rch,s.sub,s.clo,s.u_in,λp hp=>by
  rcases W9.mp hp with z | z
  ·exact s.dn p z
  ·rw [Y6.mp z]; exact h⟩
theorem SeaAt.add {ws':List Nat} (s:SeaAt nb ok x u done ks ws) (ho:o∈nb u) (hok:ok o=true) (hn:o ∉ ks) (hw:∀ w,w∈ws'↔w∈ws\/w=o):SeaAt nb ok x u (done++[o]) (ks++[o]) ws':=by
 refine ⟨?_,U0 _ s.x_in,λk hk=>?_,λw h=>?_,λk hk hnk hne p hp hp'=>?_,U0 _ s.u_in,λp hp hp'=>?_⟩
 ·rw [List.nodup_append]
  exact ⟨s.nd,by simp,λa ha b hb=>by rw [Y6.mp hb]; rintro rfl; exact hn ha⟩
 ·rcases W9.mp hk with z | z
  ·exact s.rch k z
  ·rw [Y6.mp z]; exact .on (s.rch u s.u_in) ho hok
 ·rcases (hw w).mp h with z | z
  ·exact U0 _ (s.sub w z)
  ·rw [z]; exact Y7 _ (by simp)
 ·rcases W9.mp hk with z | z
  ·exact U0 _ (s.clo k z (λq=>hnk ((hw k).mpr (.inl q))) hne p hp hp')
  ·exact absurd ((hw k).mpr (.inr (Y6.mp z))) hnk
 ·rcases W9.mp hp with z | z
  ·exact U0 _ (s.dn p z hp')
  ·exact Y7 _ z
theorem SeaAt.fin (s:SeaAt nb ok x u (nb u) ks ws):Sea nb ok x ks ws :=
 ⟨s.nd,s.x_in,s.rch,s.sub,λk hk hn o ho hok=>by
  by_cases e:k=u
  ·subst e; exact s.dn o ho hok
  ·exact s.clo k hk hn e o ho hok⟩
theorem Sea.all (s:Sea nb ok x ks []) {y:Nat}:y∈ks↔Rch (λa b=>b∈nb a) (λa=>ok a=true) x y :=
 ⟨s.rch y,λh=>h.closed (S:=λz=>z∈ks) s.x_in λa b ha hb hok=>s.clo a ha (by simp) b hb hok⟩
end
end Gr
namespace Gr
def Lv (n:Nat) (ρ:Nat->Nat) (k:Nat) (z:Nat):Prop:=z<n/\ρ z<k
structure Fst (A:Nat->Nat->Prop) (n:Nat) (ρ:Nat->Nat) (k x r:Nat):Prop where
 rch:Rch A (Lv n ρ k) x r
 lv:Lv n ρ k r
 min:∀ y,Rch A (Lv n ρ k) x y->ρ r<=ρ y
inductive Liv (par:Nat->Option (Nat × Nat)):Nat->Nat->Prop where
 | root {s:Nat}:par s=none->Liv par s s
 | up {s m e r:Nat}:par s=some (m,e)->Liv par e r->Liv par s r
section
variable {A:Nat->Nat->Prop} {n:Nat} {ρ:Nat->Nat} {k:Nat} {par par':Nat->Option (Nat × Nat)}
theorem Liv.det {s r r':Nat} (h:Liv par s r) (h':Liv par s r'):r=r':=by
 induction h with
 | root e=>cases h' with
  | root=>rfl
  | up e'=>rw [e] at e'; cases e'
 | up e _ ih=>cases h' with
  | root e'=>rw [e] at e'; cases e'
  | up e' q=>rw [e] at e'; cases e'; exact ih q
theorem Liv.end_ {s r:Nat} (h:Liv par s r):par r=none:=by
 induction h with
 | root e=>exact e
 | up _ _ ih=>exact ih
theorem Liv.more {s r r':Nat} (hp:∀ z,par z≠none->par' z=par z) (h:Liv par s r) (h':Liv par' r r'):Liv par' s r':=by
 induction h with
 | root=>exact h'
 | up e _ ih=>exact .up ((hp _ (by rw [e]; exact nofun)).trans e) (ih h')
theorem Lv.up {z:Nat} (h:Lv n ρ k z):Lv n ρ (k+1) z:=⟨h.1,by have:=h.2; exact nz8 this (U1 _)⟩
theorem Rch.up {x y:Nat} (h:Rch A (Lv n ρ k) x y):Rch A (Lv n ρ (k+1)) x y:=h.mono λ_ _ h1 h2=>⟨h1,h2.up⟩
theorem Fst.same (inj:∀ x y,x<n->y<n->ρ x=ρ y->x=y) {x r r':Nat} (h:Fst A n ρ k x r) (h':Fst A n ρ k x r'):r=r' :=
 inj r r' h.lv.1 h'.lv.1 (T2 (h.min _ h'.rch) (h'.min _ h.rch))
theorem Fst.of_rch (sy:∀ a b,A a b->A b a) {x y r:Nat} (hx:Lv n ρ k x) (h:Rch A (Lv n ρ k) x y) (f:Fst A n ρ k x r):Fst A n ρ k y r :=
 ⟨(h.symm sy hx).trans f.rch,f.lv,λz hz=>f.min z (h.trans hz)⟩
theorem Rch.new (sy:∀ a b,A a b->A b a) (inj:∀ x y,x<n->y<n->ρ x=ρ y->x=y) {c x y:Nat} (hc:c<n) (hρ:ρ c=k) (hx:Lv n ρ k x) (h:Rch A (Lv n ρ (k+1)) x y) :
  Rch A (Lv n ρ k) x y\/∃ o,A c o/\Lv n ρ k o/\Rch A (Lv n ρ k) x o/\(y=c\/∃ o',A c o'/\Lv n ρ k o'/\Rch A (Lv n ρ k) o' y):=by
 have two:∀ {z:Nat},Lv n ρ (k+1) z->Lv n ρ k z\/z=c:=λ{z} h=>by
  by_cases e:ρ z<k
  ·exact .inl ⟨h.1,e⟩
  ·exact .inr (inj z c h.1 hc (by have:=h.2; exact T2 (nz4 (G7 this) (nz3 hρ.symm)) (nz4 (nz3 hρ) (U3.mp e))))
 induction h with
 | here=>exact .inl .here
 | @on y z h1 h2 h3 ih =>
  rcases ih with q | ⟨o,o1,o2,o3,q⟩
  ·rcases two h3 with w | rfl
   ·exact .inl (.on q h2 w)
   ·exact .inr (oi14 y (sy _ _ h2) (q.ok_ hx) q (.inl rfl))
  ·rcases two h3 with w | rfl
   ·rcases q with rfl | ⟨o',p1,p2,p3⟩
    ·exact .inr (oi14 o o1 o2 o3 (.inr (oi13 z h2 w .here)))
    ·exact .inr (oi14 o o1 o2 o3 (.inr (oi13 o' p1 p2 (.on p3 h2 w))))
   ·exact .inr (oi14 o o1 o2 o3 (.inl rfl))
theorem Rch.newc (sy:∀ a b,A a b->A b a) (inj:∀ x y,x<n->y<n->ρ x=ρ y->x=y) {c y:Nat} (hc:c<n) (hρ:ρ c=k) (h:Rch A (Lv n ρ (k+1)) c y):y=c\/∃ o',A c o'/\Lv n ρ k o'/\Rch A (Lv n ρ k) o' y:=by
 have two:∀ {z:Nat},Lv n ρ (k+1) z->Lv n ρ k z\/z=c:=λ{z} h=>by
  by_cases e:ρ z<k
  ·exact .inl ⟨h.1,e⟩
  ·exact .inr (inj z c h.1 hc (by have:=h.2; exact T2 (nz4 (G7 this) (nz3 hρ.symm)) (nz4 (nz3 hρ) (U3.mp e))))
 induction h with
 | here=>exact .inl rfl
 | @on y z h1 h2 h3 ih =>
  rcases two h3 with w | rfl
  ·rcases ih with rfl | ⟨o',p1,p2,p3⟩
   ·exact .inr (oi13 z h2 w .here)
   ·exact .inr (oi13 o' p1 p2 (.on p3 h2 w))
  ·exact .inl rfl
structure UF (A:Nat->Nat->Prop) (n:Nat) (ρ:Nat->Nat) (k:Nat) (home:Nat->Option Nat) (par:Nat->Option (Nat × Nat)):Prop where
 dom:∀ x,home x≠none->Lv n ρ k x
 has:∀ x,Lv n ρ k x->∃ s,home x=some s
 hm:∀ x s,home x=some s->Fst A n ρ (ρ x+1) x s
 own:∀ x s,home x=some s->home s=some s
 pr:∀ s m e,par s=some (m,e)->home s=some s/\home e=some e/\Lv n ρ k m/\ρ s<ρ m/\Fst A n ρ (ρ m) s s/\Fst A n ρ (ρ m+1) s e/\e≠s
 liv:∀ x s,home x=some s->∃ r,Liv par s r/\Fst A n ρ k x r
theorem UF.start:UF A n ρ 0 (λ_=>none) (λ_=>none):=⟨λ_ h=>absurd rfl h,λx h=>absurd h.2 (K8 _),λ_ _ h=>(nomatch h),λ_ _ h=>(nomatch h),λ_ _ _ h=>(nomatch h),λ_ _ h=>(nomatch h)⟩
variable {home home':Nat->Option Nat}
theorem UF.root (u:UF A n ρ k home par) {s r:Nat} (hs:home s=some s) (h:Liv par s r):home r=some r:=by
 induction h with
 | root=>exact hs
 | up e _ ih=>exact ih (u.pr _ _ _ e).2.1
theorem UF.rk_pr (inj:∀ x y,x<n->y<n->ρ x=ρ y->x=y) (u:UF A n ρ k home par) {s m e:Nat} (h:par s=some (m,e)):ρ e<ρ s:=by
 refine oq07 (u.pr s m e h) λh1 h2 h3 h4 h5 h6 h7=>?_
 have:=h6.min s .here
 have ne:ρ e≠ρ s:=λz=>h7 (inj e s h6.lv.1 h5.lv.1 z)
 omega
theorem UF.alone (sy:∀ a b,A a b->A b a) (inj:∀ x y,x<n->y<n->ρ x=ρ y->x=y) (u:UF A n ρ k home par) {c:Nat} (hc:c<n) (hρ:ρ c=k) (no:∀ o,A c o->¬ Lv n ρ k o) (h1:home' c=some c) (h2:∀ x,x≠c->home' x=home x):UF A n ρ (k+1) home' par:=by
 have ncl:¬ Lv n ρ k c:=λz=>by have:=z.2; exact U3.mpr (nz3 hρ.symm) this
 have nec:∀ {x s:Nat},home x=some s->x≠c:=λ{x s} h z=>ncl (u.dom c (by rw [<- z,h]; exact nofun))
 have fc:Fst A n ρ (k+1) c c:=⟨.here,⟨hc,by exact nz2 (nz3 hρ) (U1 _)⟩,λy hy=>by
  rcases hy.newc sy inj hc hρ with rfl | ⟨o,p1,p2,_⟩
  ·exact nz6 _
  ·exact absurd p2 (no o p1)⟩
 refine ⟨λx hx=>?_,λx hx=>?_,λx s hx=>?_,λx s hx=>?_,λs m e h=>?_,λx s hx=>?_⟩
 ·by_cases e:x=c
  ·subst e; exact ⟨hc,by exact nz2 (nz3 hρ) (U1 _)⟩
  ·rw [h2 x e] at hx; exact (u.dom x hx).up
 ·by_cases e:x=c
  ·subst e; exact ⟨x,h1⟩
  ·rw [h2 x e]
   refine u.has x ⟨hx.1,?_⟩
   have:ρ x≠k:=λz=>e (inj x c hx.1 hc (by exact T2 (nz4 (nz3 z) (nz3 hρ.symm)) (nz4 (nz3 hρ) (nz3 z.symm))))
   have:=hx.2; omega
 ·by_cases e:x=c
  ·subst e; rw [h1] at hx; cases hx; rw [hρ]; exact fc
  ·rw [h2 x e] at hx; exact u.hm x s hx
 ·by_cases e:x=c
  ·subst e; rw [h1] at hx; cases hx; exact h1
  ·rw [h2 x e] at hx
   have:=u.own x s hx
   rw [h2 s (nec this)]; exact this
 ·refine oq07 (u.pr s m e h) λg1 g2 g3 g4 g5 g6 g7=>?_
  exact (oi07 (by rw [h2 s (nec g1)]; exact g1) (by rw [h2 e (nec g2)]; exact g2) g3.up g4 g5 g6 g7)
 ·by_cases e:x=c
  ·subst e
   rw [h1] at hx; cases hx
   refine (oi12 x (.root ?_) fc)
   cases q:par x with
   | none=>rfl
   | some p=>exact absurd rfl (nec (u.pr x p.1 p.2 q).1)
  ·rw [h2 x e] at hx
   refine oq12 (u.liv x s hx) λr l f=>?_
   have lx:=u.dom x (by rw [hx]; exact nofun)
   refine ⟨r,l,f.rch.up,f.lv.up,λy hy=>?_⟩
   rcases hy.new sy inj hc hρ lx with q | ⟨o,p1,p2,_⟩
   ·exact f.min y q
   ·exact absurd p2 (no o p1)
theorem UF.meet (sy:∀ a b,A a b->A b a) (inj:∀ x y,x<n->y<n->ρ x=ρ y->x=y) (u:UF A n ρ k home par) {c elder:Nat} {met:List Nat} (hc:c<n) (hρ:ρ c=k)
  (m1:∀ o s,A c o->home o=some s->∃ r,r∈met/\Liv par s r) (m2:∀ r,r∈met->∃ o s,A c o/\home o=some s/\Liv par s r) (he:elder∈met) (hmin:∀ r,r∈met->ρ elder<=ρ r)
  (h1:home' c=some elder) (h2:∀ x,x≠c->home' x=home x) (p1:∀ s,s∈met->s≠elder->par' s=some (c,elder)) (p2:∀ s,¬ (s∈met/\s≠elder)->par' s=par s):UF A n ρ (k+1) home' par':=by
 have ncl:¬ Lv n ρ k c:=λz=>by have:=z.2; exact U3.mpr (nz3 hρ.symm) this
 have nec:∀ {x s:Nat},home x=some s->x≠c:=λ{x s} h z=>ncl (u.dom c (by rw [<- z,h]; exact nofun))
 have L0:∀ o,A c o->Lv n ρ k o->∃ r,r∈met/\Fst A n ρ k o r:=λo ho lo=>by
  refine oq11 (u.has o lo) λs hs=>?_
  refine oq12 (m1 o s ho hs) λr g1 g2=>?_
  refine oq12 (u.liv o s hs) λr' g3 g4=>?_
  have:=g2.det g3
  subst this
  exact (oi12 r g1 g4)
 have L0':∀ r,r∈met->∃ o,A c o/\Lv n ρ k o/\Fst A n ρ k o r:=λr hr=>by
  refine oq23 (m2 r hr) λo s g1 g2 g3=>?_
  refine oq12 (u.liv o s g2) λr' g4 g5=>?_
  have:=g3.det g4
  subst this
  exact (oi13 o g1 (u.dom o (by rw [g2]; exact nofun)) g5)
 have lc:Lv n ρ (k+1) c:=⟨hc,by exact nz2 (nz3 hρ) (U1 _)⟩
 have L1:Fst A n ρ (k+1) c elder:=by
  refine oq13 (L0' elder he) λo g1 g2 g3=>?_
  refine ⟨Rch.trans (.on .here g1 g2.up) g3.rch.up,g3.lv.up,λy hy=>?_⟩
  rcases hy.newc sy inj hc hρ with rfl | ⟨o',q1,q2,q3⟩
  ·have:=g3.lv.2; exact nz5 (nz1 this (nz3 hρ.symm))
  ·refine oq12 (L0 o' q1 q2) λr' r1 r2=>?_
   exact nz4 (hmin r' r1) (r2.min y q3)
 have L2:∀ x r,Lv n ρ k x->Fst A n ρ k x r->r∈met->Fst A n ρ (k+1) x elder:=λx r lx f hr=>by
  refine oq13 (L0' r hr) λo g1 g2 g3=>?_
  have xc:Rch A (Lv n ρ (k+1)) x c:=.on ((f.rch.trans (g3.rch.symm sy g2)).up) (sy _ _ g1) lc
  exact ⟨xc.trans L1.rch,L1.lv,λy hy=>L1.min y ((xc.symm sy lx.up).trans hy)⟩
 have L3:∀ x r,Lv n ρ k x->Fst A n ρ k x r->r ∉ met->Fst A n ρ (k+1) x r:=λx r lx f hr=>by
  refine ⟨f.rch.up,f.lv.up,λy hy=>?_⟩
  rcases hy.new sy inj hc hρ lx with q | ⟨o,q1,q2,q3,_⟩
  ·exact f.min y q
  ·refine oq12 (L0 o q1 q2) λr' r1 r2=>?_
   have:=(f.of_rch sy lx q3).same inj r2
   exact absurd (this ▸ r1) hr
 have pn:∀ r,r∈met->par r=none:=λr hr=>by
  refine oq23 (m2 r hr) λo s g1 g2 g3=>?_
  exact g3.end_
 have hr:∀ r,r∈met->home r=some r:=λr hr=>by
  refine oq23 (m2 r hr) λo s g1 g2 g3=>?_
  exact u.root (u.own o s g2) g3
 have keep:∀ z,par z≠none->par' z=par z:=λz hz=>p2 z λq=>hz (pn z q.1)
 have le:Liv par' elder elder:=.root ((p2 elder λq=>q.2 rfl).trans (pn elder he))
 refine ⟨λx hx=>?_,λx hx=>?_,λx s hx=>?_,λx s hx=>?_,λs m e h=>?_,λx s hx=>?_⟩
 ·by_cases e:x=c
  ·subst e; exact lc
  ·rw [h2 x e] at hx; exact (u.dom x hx).up
 ·by_cases e:x=c
  ·subst e; exact ⟨elder,h1⟩
  ·rw [h2 x e]
   refine u.has x ⟨hx.1,?_⟩
   have:ρ x≠k:=λz=>e (inj x c hx.1 hc (by exact T2 (nz4 (nz3 z) (nz3 hρ.symm)) (nz4 (nz3 hρ) (nz3 z.symm))))
   have:=hx.2; omega
 ·by_cases e:x=c
  ·subst e; rw [h1] at hx; cases hx; rw [hρ]; exact L1
  ·rw [h2 x e] at hx; exact u.hm x s hx
 ·by_cases e:x=c
  ·subst e
   rw [h1] at hx; cases hx
   rw [h2 _ (nec (hr _ he))]; exact hr _ he
  ·rw [h2 x e] at hx
   have:=u.own x s hx
   rw [h2 s (nec this)]; exact this
 ·by_cases q:s∈met/\s≠elder
  ·rw [p1 s q.1 q.2] at h
   cases h
   have hs:=hr s q.1
   refine oq13 (L0' s q.1) λo g1 g2 g3=>?_
   have fs:=g3.of_rch sy g2 g3.rch
   refine (oi07 (by rw [h2 s (nec hs)]; exact hs) (by rw [h2 _ (nec (hr _ he))]; exact hr _ he) lc ?_ (by rw [hρ]; exact fs) (by rw [hρ]; exact L2 s s g3.lv fs q.1) (λz=>q.2 z.symm))
   have:=g3.lv.2; exact nz1 this (nz3 hρ.symm)
  ·rw [p2 s q] at h
   refine oq07 (u.pr s m e h) λg1 g2 g3 g4 g5 g6 g7=>?_
   exact (oi07 (by rw [h2 s (nec g1)]; exact g1) (by rw [h2 e (nec g2)]; exact g2) g3.up g4 g5 g6 g7)
 ·by_cases e:x=c
  ·subst e
   rw [h1] at hx; cases hx
   exact (oi12 _ le L1)
  ·rw [h2 x e] at hx
   refine oq12 (u.liv x s hx) λr l f=>?_
   have lx:=u.dom x (by rw [hx]; exact nofun)
   by_cases q:r∈met
   ·refine (oi12 elder (l.more keep ?_) (L2 x r lx f q))
    by_cases qe:r=elder
    ·rw [qe]; exact le
    ·exact .up (p1 r q qe) le
   ·exact (oi12 r (l.more keep (.root ((p2 r λz=>q z.1).trans l.end_))) (L3 x r lx f q))
end
end Gr
namespace Srt
theorem mid {l r f:Nat} (h:l<r) (h3:r - l<=f+1):l<=(l+r) / 2/\(l+r) / 2<r/\(l+r) / 2 - l<=f/\r - ((l+r) / 2+1)<=f:=by
 have a:l<=(l+r) / 2:=(Nat.le_div_iff_mul_le (by decide)).mpr (by rw [Nat.mul_two]; exact Nat.add_le_add_left (nz5 h) l)
 have b:(l+r) / 2<r:=(B6 (by decide)).mpr (by rw [Nat.mul_two]; exact Nat.add_lt_add_right h r)
 have c:r - (l+1)<=f:=by rw [Nat.sub_add_eq]; exact Nat.sub_le_of_le_add h3
 refine ⟨a,b,nz4 (Nat.sub_le_sub_right (Nat.le_sub_one_of_lt b) l) ?_,nz4 (Nat.sub_le_sub_left (Nat.succ_le_succ a) r) c⟩
 rw [Nat.sub_sub,Nat.add_comm]; exact c
open PySem PySem.W PyProof.Rows
structure Lin (c:Nat->Nat->Bool) (n:Nat):Prop where
 irr:∀ i,i<n->c i i=false
 tr:∀ i j k,i<n->j<n->k<n->c i j=true->c j k=true->c i k=true
 tot:∀ i j,i<n->j<n->i≠j->c i j=false->c j i=true
structure Arr (n:Nat) (p:Array Nat):Prop where
 sz:p.size=n
 pm:p.toList.Perm (X3 n)
noncomputable abbrev at' (p:Array Nat) (i:Nat):Nat:=p.getD i 0
def Up (c:Nat->Nat->Bool) (p:Array Nat) (k:Nat):Prop:=∀ i j,i<j->j<k->c (at' p i) (at' p j)=true
section
variable {c:Nat->Nat->Bool} {n:Nat} (L:Lin c n)
include L
end
end Srt
namespace L2
open PySem PySem.Spec PyProof.Rows
theorem gp {env:Env}:∀ (names:List (Str × N6)) (cs:List (Str × Addr)),(∀ y∈names,y.2=.free->∃ c,env.cells.lookup y.1=some c) ->
  ∃ cl,(forIn names cs λ(x:Str × N6) (r:List (Str × Addr))=>(match x with
   | (name,kind)=>if (kind == J2)=true then do let a <- cellOf env name; pure (G2 ((name,a) :: r)) else pure (G2 r):Sem (ForInStep (List (Str × Addr)))))=pure cl /\
   (∀ p∈cl,p∈cs\/env.cells.lookup p.1=some p.2)/\(∀ p∈cs,p∈cl)/\∀ y∈names,y.2=.free->∃ c,(y.1,c)∈cl
 | [],cs,_=>(oi14 cs rfl (λp h=>.inl h) (λp h=>h) (λy h=>nomatch h))
 | (n,k) :: r,cs,h=>by
  by_cases hk:k=.free
  ·subst hk
   refine oq11 (h (n,.free) W6 rfl) λc hc=>?_
   refine oq14 (gp r ((n,c) :: cs) λy hy=>h y (X6 _ hy)) λcl e h1 h2 h3=>?_
   refine (oi14 cl ?_ (λp hp=>?_) (λp hp=>h2 p (X6 _ hp)) (λy hy hf=>?_))
   ·rw [List.forIn_cons]
    have e1:cellOf env n=pure c:=by unfold cellOf; rw [hc]
    simp only [beq_self_eq_true,if_true,e1,pure_bind]
    exact e
   ·rcases h1 p hp with z | z
    ·rcases Y4.mp z with z | z
     ·subst z; exact .inr hc
     ·exact .inl z
    ·exact .inr z
   ·rcases Y4.mp hy with z | z
    ·subst z; exact ⟨c,h2 _ W6⟩
    ·exact h3 y z hf
  ·refine oq14 (gp r cs λy hy=>h y (X6 _ hy)) λcl e h1 h2 h3=>?_
   refine (oi14 cl ?_ h1 h2 (λy hy hf=>?_))
   ·have hb:(k == J2)=false:=by simpa using hk
    rw [List.forIn_cons]
    simp only [hb,N3,if_false,pure_bind]
    exact e
   ·rcases Y4.mp hy with z | z
    ·subst z; exact absurd hf hk
    ·exact h3 y z hf
theorem gf {β:Type} {x:Str} {c:β}:∀ {l:List (Str × β)},(x,c)∈l->∃ d,l.lookup x=some d
 | [],h=>nomatch h
 | (n,d) :: r,h=>by
  by_cases e:x=n
  ·subst e; exact ⟨d,by simp [L5]⟩
  ·have hb:(x == n)=false:=by simpa using e
   rcases Y4.mp h with z | z
   ·injection z with z1 _; exact absurd z1 e
   ·refine oq11 (gf z) λd' e'=>?_
    exact ⟨d',by rw [L5,hb]; exact e'⟩
theorem gq {scope:Scope} {env:Env} (h:∀ y∈scope.names,y.2=.free->∃ c,env.cells.lookup y.1=some c) :
  ∃ cl,closureFor scope env=pure cl/\(∀ x c,cl.lookup x=some c->env.cells.lookup x=some c)/\∀ y∈scope.names,y.2=.free->∃ c,cl.lookup y.1=some c:=by
 refine oq14 (gp (env:=env) scope.names [] h) λcl e h1 _ h3=>?_
 refine (oi13 cl ?_ (λx c hx=>?_) (λy hy hf=>?_))
 ·unfold closureFor
  show (forIn scope.names [] _ >>= λcs=>pure cs)=pure cl
  refine Eq.trans (congrArg (λm=>m >>= λcs=>pure cs) e) ?_
  rw [pure_bind]
 ·rcases h1 _ (R7 hx) with z | z
  ·exact nomatch z
  ·exact z
 ·refine oq11 (h3 y hy hf) λc hc=>?_
  exact gf hc
theorem d6 {env:Env}:∀ {names:List (Str × N6)} {x:Str},names.lookup x=some .free->∃ k,
  (names.map λ(n,k)=>if (k == J2 && env.scope.kind == .function && env.kindOf n == some .cell) then (n,N6.cell) else (n,k)).lookup x=some k/\(k=.cell\/k=.free)
 | [],_,h=>by simp at h
 | (n,k) :: r,x,h=>by
  show ∃ k',L9 x ((if (k == J2 && env.scope.kind == .function && env.kindOf n == some .cell)=true then (n,N6.cell) else (n,k)) :: _)=some k'/\_
  cases hx:x == n with
  | true =>
   simp only [L5,hx] at h
   cases h
   by_cases hc:(J2 == J2 && env.scope.kind == .function && env.kindOf n == some .cell)=true
   ·exact (oi12 .cell (by rw [if_pos hc]; simp [L5,hx]) (.inl rfl))
   ·exact (oi12 .free (by rw [if_neg hc]; simp [L5,hx]) (.inr rfl))
  | false =>
   simp only [L5,hx] at h
   refine oq12 (d6 (env:=env) h) λk' e hk=>?_
   refine (oi12 k' ?_ hk)
   by_cases hc:(k == J2 && env.scope.kind == .function && env.kindOf n == some .cell)=true
   ·rw [if_pos hc]; simp only [L5,hx]; exact e
   ·rw [if_neg hc]; simp only [L5,hx]; exact e
section
variable {prog:W5} {w:World} {A:Around} {R:Result->Shared->Prop} {s:Shared}
theorem mG {elt target iter:Expr} {ifs:List Expr} {scope:Scope} {pos:Pos} {it acc:Value} {env:Env} (I:Nat->Shared->Prop)
  (turn:∀ n s,I n s->wpAny (model prog w) A (pyNext it) (λr s₁=>match r with
   | none=>R (.ok .next) s₁
   | some v=>wpAny (model prog w) A (letOwnedTupleGo target it v) (λ_ s'=>wpAny (model prog w) A (assign target env v) (λ_ s₂ =>
     wpAny (model prog w) A (forIn ifs true λc r=>if r=true then do let ok <- isTrue c env (eval c env); pure (G2 ok) else pure (G2 r)) (λok s₃ =>
      if ok=true then wpAny (model prog w) A (eval elt env) (λx s₄ =>
       wpAny (model prog w) A (call (.builtin "list.append") [acc,x]) (λ_ s₅=>∃ m,m<n/\I m s₅) (λ_ _=>False) s₄) (λ_ _=>False) s₃
      else ∃ m,m<n/\I m s₃) (λ_ _=>False) s₂) (λ_ _=>False) s') (λ_ _=>False) s₁) (λ_ _=>False) s)
  (n:Nat) (h:I n s):codeAny (model prog w) A (.compLoop (.ListComp elt [⟨target,iter,ifs,0⟩] scope pos) 0 it acc env) R s:=by
 refine codeAny_loop rfl I (λn s hI=>?_) n h
 show wpAny _ A ((compTurn (.ListComp elt [⟨target,iter,ifs,0⟩] scope pos) 0 it acc env).onRaise (λx=>do noteFrame x env; theTreesLotGoes x)) _ _ s
 refine wpAny_noted ?_
 rw [compTurn_list]
 refine Z0 (wpAny_standAt (Z0 (T4 (turn n s hI) (λr s₁ h₁=>?_) λ_ _ z=>z.elim)))
 cases r with
 | none=>exact Y0 h₁
 | some v =>
  refine Z0 (T4 h₁ (λ_ s' h'=>?_) λ_ _ z=>z.elim)
  refine Z0 (T4 h' (λ_ s₂ h₂=>Z0 (T4 h₂ (λok s₃ h₃=>?_) λ_ _ z=>z.elim)) λ_ _ z=>z.elim)
  cases ok with
  | false=>exact Y0 ⟨rfl,h₃⟩
  | true =>
   exact Z0 (Z0 (T4 h₃ (λx s₄ h₄=>Z0 (T4 h₄ (λ_ s₅ h₅=>Y0 (Y0 ⟨rfl,h₅⟩)) λ_ _ z=>z.elim)) λ_ _ z=>z.elim))
end
noncomputable def bD (X:Cx) (N':List Str) (scope:Scope) (cl:List (Str × Addr)) (fp:List Addr) (s3:Shared) (H3:Hp):Cx where
 prog:=X.prog
 w:=X.w
 K:=X.K
 mg:=X.mg
 base:=X.base
 A:=X.A
 N:=N'
 s₀:=s3
 H₀:=H3
 env:=compEnvC scope cl s3.heap.objs.size X.env
 outer:=X.stack
 stack:=X.stack
 ex:=fp
 calm:=X.calm
 fn:=λ_=>false
 pn:=[]
 xe:=λ_ _=>False
def lH (X:Cx) (scope:Scope):List (Str × Nat)->Prop
 | []=>True
 | p :: r=>(X.N[p.2]?=some p.1/\scope.names.lookup p.1=some .free/\(X.env.kindOf p.1=some .cell\/X.env.kindOf p.1=some .free))/\lH X scope r
theorem lH.get {X:Cx} {scope:Scope}:∀ {cap:List (Str × Nat)},lH X scope cap->∀ p∈cap,X.N[p.2]?=some p.1/\scope.names.lookup p.1=some .free/\(X.env.kindOf p.1=some .cell\/X.env.kindOf p.1=some .free)
 | [],_,_,h=>nomatch h
 | _ :: _,⟨h1,h2⟩,p,h=>by
  rcases Y4.mp h with z | z
  ·subst z; exact h1
  ·exact lH.get h2 p z
noncomputable def st0 (loc:List Str) (cap:List (Str × Nat)) (σ:St):St:=loc.map (λ_=>none)++cap.map λp=>(σ[p.2]?).join
theorem st0_len {loc:List Str} {cap:List (Str × Nat)} {σ:St}:(st0 loc cap σ).length=(loc++cap.map (·.1)).length:=by
 unfold st0; simp
theorem st0_get {loc:List Str} {cap:List (Str × Nat)} {σ:St} {i:Nat} {v:V} (h:(st0 loc cap σ)[i]?=some (some v)):∃ p,p∈cap/\(loc++cap.map (·.1))[i]?=some p.1/\σ[p.2]?=some (some v):=by
 unfold st0 at h
 by_cases hi:i<loc.length
 ·rw [X8 (by simpa using hi),X2] at h
  cases e:loc[i]? with
  | none=>rw [e] at h; cases h
  | some a=>rw [e] at h; cases h
 ·rw [Y5 (by simpa using hi),X2,Y3] at h
  cases e:cap[i - loc.length]? with
  | none=>rw [e] at h; cases h
  | some p =>
   rw [e] at h
   have h':(σ[p.2]?).join=some v:=Z7 h
   refine (oi13 p (W8 e) ?_ ?_)
   ·rw [Y5 (by exact U3.mp hi),X2,e]; rfl
   ·cases e2:σ[p.2]? with
    | none=>rw [e2] at h'; cases h'
    | some o=>rw [e2] at h'; exact congrArg some h'
def Wk:St->St->Prop
 | [],[]=>True
 | none :: r,_ :: t=>Wk r t
 | some v :: r,o :: t=>o=some v/\Wk r t
 | _,_=>False
theorem Wk.len:∀ {a b:St},Wk a b->a.length=b.length
 | [],[],_=>rfl
 | none :: r,_ :: t,h=>by rw [W4,W4,Wk.len (a:=r) (b:=t) h]
 | some _ :: r,_ :: t,h=>by rw [W4,W4,Wk.len (a:=r) (b:=t) h.2]
 | [],_ :: _,h=>R9 h
 | none :: _,[],h=>R9 h
 | some _ :: _,[],h=>R9 h
theorem Wk.get:∀ {a b:St},Wk a b->∀ (i:Nat) (v:V),a[i]?=some (some v)->b[i]?=some (some v)
 | [],[],_,i,v,e=>by simp at e
 | none :: r,o :: t,h,0,v,e=>by simp at e
 | none :: r,o :: t,h,i+1,v,e=>by
  have:=Wk.get (a:=r) (b:=t) h i v (by simpa using e)
  simpa using this
 | some x :: r,o :: t,h,0,v,e=>by
  have e':x=v:=by simpa using e
  subst e'
  simpa using h.1
 | some x :: r,o :: t,h,i+1,v,e=>by
  have:=Wk.get (a:=r) (b:=t) h.2 i v (by simpa using e)
  simpa using this
 | [],_ :: _,h,_,_,_=>R9 h
 | none :: _,[],h,_,_,_=>R9 h
 | some _ :: _,[],h,_,_,_=>R9 h
noncomputable def freeOk (ns ms:List (Str × N6)):Bool:=ns.all λy=>match y.2 with
 | .free=>match ms.lookup y.1 with
  | some .cell=>true
  | some .free=>true
  | _=>false
 | _=>true
theorem jJ {ns ms:List (Str × N6)} (h:freeOk ns ms=true):∀ y∈ns,y.2=.free->ms.lookup y.1=some .cell\/ms.lookup y.1=some .free:=by
 intro y hy hf
 have q:=List.all_eq_true.mp h y hy
 rw [hf] at q
 cases e:ms.lookup y.1 with
 | none=>rw [e] at q; cases q
 | some k =>
  rw [e] at q
  cases k <;> first | exact .inl rfl | exact .inr rfl | cases q
structure CompScope (X:Cx) (loc:List Str) (cap:List (Str × Nat)) (scope:Scope):Prop where
 kind:scope.kind=.function
 nocell:∀ y∈scope.names,y.2≠.cell
 names:∀ y∈scope.names,y.2=.local->scope.names.lookup y.1=some .local
 free0:freeOk scope.names X.env.scope.names=true
 cap:lH X scope cap
 xkind:X.env.scope.kind=.function
theorem CompScope.free {X:Cx} {loc:List Str} {cap:List (Str × Nat)} {scope:Scope} (S:CompScope X loc cap scope):∀ y∈scope.names,y.2=.free->X.env.kindOf y.1=some .cell\/X.env.kindOf y.1=some .free:=jJ S.free0
section
variable {X:Cx} {pins:List (Addr × Obj)} {σ:St} {H:Hp} {s:Shared} {loc:List Str} {cap:List (Str × Nat)} {scope:Scope} {cl:List (Str × Addr)} {fp:List Addr}
theorem inv_comp {h1:Heap} (S:CompScope X loc cap scope) (I:Inv X pins σ H s) (hcl:∀ x c,cl.lookup x=some c->X.env.cells.lookup x=some c) (hcl2:∀ y∈scope.names,y.2=.free->∃ c,cl.lookup y.1=some c)
  (hf:∀ b∈fp,FpOk X pins H b) (hlt:∀ b∈fp,b<s.heap.objs.size) (hns:h1.Ns s.heap.objs.size (λ_=>none)) (hk:∀ b o,s.heap.get? b=some o->h1.get? b=some o) :
  Inv (bD X (loc++cap.map (·.1)) scope cl fp s H) [] (st0 loc cap σ) H { s with heap:=h1 }:=by
 have fromK:∀ x,(relabel scope X.env).names.lookup x=some .cell\/(relabel scope X.env).names.lookup x=some .free->∃ y∈scope.names,y.2=.free/\y.1=x:=by
  intro x hx
  have:∃ k,(relabel scope X.env).names.lookup x=some k/\(k=.cell\/k=.free):=by
   rcases hx with z | z
   ·exact (oi12 _ z (.inl rfl))
   ·exact (oi12 _ z (.inr rfl))
  refine oq12 this λk e hk=>?_
  have hm:=R7 e
  refine oq12 (Q4.mp hm) λy hy e2=>?_
  obtain ⟨n,k'⟩:=y
  have e3:(if (k' == J2 && X.env.scope.kind == .function && X.env.kindOf n == some .cell)=true then (n,N6.cell) else (n,k'))=(x,k):=e2
  by_cases hc:(k' == J2 && X.env.scope.kind == .function && X.env.kindOf n == some .cell)=true
  ·rw [if_pos hc] at e3
   injection e3 with e4 _
   simp only [Bool.and_eq_true] at hc
   exact (oi13 (n,k') hy (by simpa using hc.1.1) e4)
  ·rw [if_neg hc] at e3
   injection e3 with e4 e5
   rcases hk with z | z
   ·rw [z] at e5; exact absurd e5 (S.nocell _ hy)
   ·rw [z] at e5; exact (oi13 (n,k') hy e5 e4)
 refine ⟨⟨I.ok.mod,S.kind,I.ok.glob,I.ok.blt,nz6 _,λx y c h1 h2=>I.ok.inj x y c (hcl x c h1) (hcl y c h2),λx hx=>?_,λx c h _=>absurd h (by show ¬ (false=true); decide),I.ok.hd,I.ok.frames,.inl rfl,λb hb=>⟨nz7 (hlt b hb),λx c e=>(hf b hb).2.2.2.2.1 x c (hcl x c e)⟩,I.bs,
   nz4 I.ok.bsz I.sz,λb o e z=>?_,λb hb z=>?_,I.stack,I.stkFree⟩,
  rfl,I.bare,Un.kept hk,(oi12 _ hns (λi x v h1 h2 h3=>?_)),λx c e=>?_,I.hok.fresh (nz6 _),λx c e=>I.freeC x c (hcl x c e),λp hp=>absurd (show p∈([]:List (Addr × Obj)) from hp) (by simp),I.hok.kept hk,st0_len⟩
 ·refine oq13 (fromK x hx) λy hy hfr e=>?_
  subst e
  exact hcl2 y hy hfr
 ·
  have hb:=hf b z
  rcases hb.2.2.2.1 with q | q
  ·exact I.ok.noex b o e q
  ·exact absurd (nz1 (X5 e) (nz4 I.ok.bsz q)) (Q8 _)
 ·have z':=I.stkSub b z
  rcases Y4.mp z' with q | q
  ·exact (hf b hb).2.1 q
  ·exact (hf b hb).2.2.1 q
 ·refine oq13 (st0_get h2) λp hp e1 e2=>?_
  have e3:x=p.1:=Z7 (h1.symm.trans e1)
  subst e3
  refine oq03 (S.cap.get p hp) λc1 c2 c3=>?_
  refine oq12 I.loc λm _ hl=>?_
  have vis:Vis X.env.scope p.1:=by
   rcases c3 with k | k
   ·exact .inr (.inl k)
   ·exact .inr (.inr k)
  refine oq12 (hl p.2 p.1 v c1 e2 vis) λu r l=>?_
  refine (oi12 u r (.inr ⟨?_,?_⟩))
  ·refine oq12 (d6 (env:=X.env) c2) λk e hk=>?_
   rcases hk with z | z
   ·subst z; exact .inl e
   ·subst z; exact .inr e
  ·rcases l with ⟨k,_⟩ | ⟨_,c,e,hc⟩
   ·rcases c3 with z | z
    ·rw [k] at z; cases z
    ·rw [k] at z; cases z
   ·refine oq11 (hcl2 (p.1,.free) (R7 c2) rfl) λc' hc'=>?_
    have:c'=c:=Z7 ((hcl _ _ hc').symm.trans e)
    subst this
    refine oq12 hc λo ho hd=>?_
    exact ⟨c',hc',o,hk _ o ho,hd⟩
 ·refine oq22 (I.cell x c (hcl x c e)) λv o ho hd=>?_
  exact ⟨v,o,hk _ o ho,hd⟩
end
noncomputable def cTurn (g:TG) (tt:TT) (te:TE) (loc:List Str) (cap:List (Str × Nat)) (σ:St) (D:Addr) (ys:List V) (N:List V->Hp->Prop) (x:V) (H':Hp):Prop :=
 g x (st0 loc cap σ) H' λσ3 H3=>Wk (st0 loc cap σ) σ3/\tt σ3 H3 λb H4=>if b=true then te σ3 H4 λv H5=>H5 D=some (.lst ys)/\ys.length<V1/\N (ys++[v]) (upd H5 D (.lst (ys++[v]))) else N ys H4
noncomputable def cGoal (g:TG) (tt:TT) (te:TE) (loc:List Str) (cap:List (Str × Nat)) (σ:St) (D:Addr) (Q:VK) (J:It) (H1:Hp):Prop :=
 ∃ W:Nat->Nat->List V->Hp->Prop,(∃ m,W 0 m [] (upd H1 D (.lst [])))/\∀ i m ys H2,W i m ys H2->H2 D=some (.lst ys) /\
  ((J.stop i H2/\Q (.ref D) H2)\/(J.go i H2/\∃ N:List V->Hp->Prop,(∀ ys' H',N ys' H'->∃ m',m'<m/\W (i+1) m' ys' H')/\∀ x H',J.yld i H2 x H'->cTurn g tt te loc cap σ D ys N x H'))
def tComp (wi:TI) (loc:List Str) (cap:List (Str × Nat)) (g:TG) (tt:TT) (te:TE):TE:=λσ H Q=>wi σ H λJ H1=>∀ D,H1 D=none->cGoal g tt te loc cap σ D Q J H1
def tTrue:TT:=λ_ H Q=>Q true H
noncomputable def PIfs (X:Cx) (ifs:List Expr) (t:TT):Prop :=
 ∀ (pins:List (Addr × Obj)) (s:Shared) (σ:St) (H:Hp) (Q:Bool->Hp->Prop),Inv X pins σ H s->t σ H Q ->
  wpAny (model X.prog X.w) X.A (forIn ifs true λc r=>if r=true then do let ok <- isTrue c X.env (eval c X.env); pure (G2 ok) else pure (G2 r)) (TP X pins σ Q) X.xe s
theorem bu {X:Cx}:PIfs X [] tTrue:=λ_ _ _ H _ I h=>wpAny_tests_nil ⟨H,I,h⟩
theorem jK {X:Cx} {c:Expr} {t:TT} (hc:PT X c t):PIfs X [c] t:=λpins s σ H Q I h=>wpAny_tests_one (hc pins s σ H Q I h)
section
variable {X:Cx} {tg iter elt:Expr} {ifs:List Expr} {scope:Scope} {loc:List Str} {cap:List (Str × Nat)} {pos:Pos} {wi:TI} {g:TG} {tt:TT} {te:TE}
theorem jL {pins:List (Addr × Obj)} {σ:St} {H:Hp} {s:Shared} {cl:List (Str × Addr)} {fp:List Addr} {it:Addr} {tn:Nat->Heap->Prop} {J:It} {Q:VK} {E:Value->Shared->Prop} {RR:Value->Addr->Result->Shared->Prop}
  (hc:X.calm=true) (S:CompScope X loc cap scope) (hg:∀ cl fp s3 H3,PG (bD X (loc++cap.map (·.1)) scope cl fp s3 H3) tg g) (ht:∀ cl fp s3 H3,PIfs (bD X (loc++cap.map (·.1)) scope cl fp s3 H3) ifs tt)
  (he:∀ cl fp s3 H3,PE (bD X (loc++cap.map (·.1)) scope cl fp s3 H3) elt te)
  (hcl:∀ x c,cl.lookup x=some c->X.env.cells.lookup x=some c) (hcl2:∀ y∈scope.names,y.2=.free->∃ c,cl.lookup y.1=some c)
  (I:Inv X pins σ H s) (T:Turn X.prog X.w X.K tg J fp it tn) (st:tn 0 s.heap) (hf:∀ b∈fp,FpOk X pins H b)
  (h:∀ D,H D=none->cGoal g tt te loc cap σ D Q J H)
  (hRR:∀ D C s' H' m,Inv X pins σ H' s'->FpOk X pins H' C->s'.heap.Ns C m->Q (.ref D) H'->RR (.ref D) C (.ok .next) s') :
  wpAny (model X.prog X.w) X.A (newList []) (λacc s₃=>wpAny (model X.prog X.w) X.A (newFunctionEnv scope X.env.globals cl [] X.env.qual none .none (some X.env)) (λcenv s₄ =>
   codeAny (model X.prog X.w) X.A (.compStart (.ListComp elt [⟨tg,iter,ifs,0⟩] scope pos) 0 (.ref it) acc { cenv with scope:=relabel scope X.env }) (RR acc cenv.locals) s₄) E s₃) E s:=by
 have hlt:∀ b∈fp,b<s.heap.objs.size:=λb hb=>oq12 (T.obj 0 _ st b hb) λo e _=>X5 e
 have hD:H s.heap.objs.size=none:=I.hok.fresh (nz6 _)
 refine oq12 (h _ hD) λW nn1 turn=>?_; refine oq11 nn1 λm0 w0=>?_
 refine K5 (wpAny_newFunctionEnv S.nocell (by intro y hy; simp at hy) (λh₁ hns₁ hsb₁=>?_) S.kind)
 have hD2:({ cls:=.type "list",dict:=none,data:=.seq ([]:List Value).toArray }:Obj)={ cls:=.type "list",data:=.seq ([]:List Value).toArray 0 }:=rfl
 have I3:Inv X pins σ (upd H s.heap.objs.size (.lst [])) { s with heap:=s.heap.push { cls:=.type "list",dict:=none,data:=.seq ([]:List Value).toArray } } :=
  I.laid (t':=s.toks) (λb o e=>Z5 _ e) (nz6 _) ⟨U2 _,[],0,.nil,X4 _ rfl⟩
 generalize hS3:({ s with heap:=s.heap.push { cls:=.type "list",dict:=none,data:=.seq ([]:List Value).toArray } }:Shared)=s3 at I3 hns₁ hsb₁ ⊢
 generalize hH3:upd H s.heap.objs.size (.lst [])=H3 at I3 w0
 have sz3:s3.heap.objs.size=s.heap.objs.size+1:=by rw [<- hS3]; exact M1 ..
 have fp3:∀ b∈fp,FpOk X pins H3 b:=λb hb=>by
  refine oq02 (hf b hb) λf0 fr=>?_
  refine ⟨?_,fr⟩
  rw [<- hH3,ai (nz7 (hlt b hb))]; exact f0
 have ltq3:∀ b∈fp,b<s3.heap.objs.size:=λb hb=>by rw [sz3]; exact M2 (hlt b hb)
 have k1:∀ b o,s3.heap.get? b=some o->h₁.get? b=some o:=λb o e=>hsb₁.extBut b o (nz7 (X5 e)) (Z5 _ e)
 have I4:Inv (bD X (loc++cap.map (·.1)) scope cl fp s3 H3) [] (st0 loc cap σ) H3 { s3 with heap:=h₁ }:=inv_comp S I3 hcl hcl2 fp3 ltq3 (by simpa using hns₁) k1
 have st4:tn 0 h₁:=T.keep 0 _ _ st λb hb o e=>k1 b o (by rw [<- hS3]; exact Z5 _ e)
 have fpC:∀ {H':Hp},(∀ b∈fp,H' b=none)->∀ b∈fp,FpOk (bD X (loc++cap.map (·.1)) scope cl fp s3 H3) [] H' b:=λ{H'} hn b hb =>
  ⟨hn b hb,nz7 (ltq3 b hb),λz=>(I4.ok.exfs b hb z),.inl hb,λx c e=>(hf b hb).2.2.2.2.1 x c (hcl x c e),λp hp=>absurd (show p∈([]:List (Addr × Obj)) from hp) (by simp)⟩
 have toks0:({ s3 with heap:=h₁,toks:=s3.toks+([]:List (Str × Value)).length }:Shared)={ s3 with heap:=h₁ }:=rfl
 rw [toks0]
 have fin:∀ {H':Hp} {s':Shared} {σ':St},Inv (bD X (loc++cap.map (·.1)) scope cl fp s3 H3) [] σ' H' s'->Inv X pins σ H' s':=λ{H' s' σ'} J' =>
  I3.call' J'.os J'.base J'.hok J'.bare λb hb=>by
   refine oq06 (hf b hb) λ_ f1 f2 f3 f4 f5=>?_
   exact (oi04 f3 f1 f4 f5)
 have loop:codeAny (model X.prog X.w) X.A (.compLoop (.ListComp elt [⟨tg,iter,ifs,0⟩] scope pos) 0 (.ref it) (.ref s.heap.objs.size) (compEnvC scope cl s3.heap.objs.size X.env)) (RR (.ref s.heap.objs.size) s3.heap.objs.size) { s3 with heap:=h₁ }:=by
  refine mG (λn s'=>∃ i ys H',Inv (bD X (loc++cap.map (·.1)) scope cl fp s3 H3) [] (st0 loc cap σ) H' s'/\tn i s'.heap/\(∀ b∈fp,H' b=none)/\W i n ys H') ?_ m0 (oi34 0 ([]) H3 I4 st4 (λb hb=>(fp3 b hb).1) w0)
  intro n s5 zq; refine oq34 zq λi ys H5 I5 st5 fr5 w5=>?_
  refine oq02 (turn i n ys H5 w5) λhd5 alt=>?_
  rcases alt with ⟨stop,q⟩ | ⟨go,N,hN,step⟩
  ·refine thn (T.done (bD X (loc++cap.map (·.1)) scope cl fp s3 H3) rfl rfl rfl hc i [] s5 _ H5 (λ_ _=>False) I5 (fpC fr5) st5 stop) λr s6 zq=>oq02 zq λhr I6=>?_
   subst hr
   refine oq12 I6.loc λm hn _=>?_
   refine hRR _ _ s6 H5 m (fin I6) ?_ hn q
   exact I3.fpOk (nz6 _) I6.free
  ·refine thn (T.item (bD X (loc++cap.map (·.1)) scope cl fp s3 H3) rfl rfl rfl hc i [] s5 _ H5 (λ_ _=>False) I5 (fpC fr5) st5 go) λr s6 zq=>oq12 zq λu hr h6=>?_
   subst hr
   refine thn h6 λ_ s7 zq=>oq25 zq λx H7 I7 r7 y7 st7 fr7=>?_
   have I7':=I7.pinned (fpC fr7) (T.obj _ _ st7)
   refine thn (hg cl fp s3 H3 _ s7 _ H7 x u _ I7' r7 (step x H7 y7)) λ_ s8 zq=>oq22 zq λσ8 H8 I8 q8=>?_
   refine oq02 q8 λwk q8=>?_
   have again:∀ {H9:Hp} {s9:Shared} {zs:List V},Inv (bD X (loc++cap.map (·.1)) scope cl fp s3 H3) ([]++jy fp s7.heap) σ8 H9 s9->N zs H9->∃ m,m<n/\∃ i ys H',Inv (bD X (loc++cap.map (·.1)) scope cl fp s3 H3) [] (st0 loc cap σ) H' s9/\tn i s9.heap/\(∀ b∈fp,H' b=none)/\W i m ys H':=λ{H9 s9 zs} I9 n9=>by
    refine oq12 (hN zs H9 n9) λm' hm w9=>?_
    refine ⟨m',hm,i+1,zs,H9,(I9.weak wk.len wk.get).unpinned,T.keep _ _ _ st7 λb hb o e=>(I9.pin (b,o) (Y7 _ (Y7 _ (eI hb e)))).1,λb hb=>?_,w9⟩
    refine oq12 (T.obj _ _ st7 b hb) λo e d=>?_
    exact (I9.pin (b,o) (Y7 _ (Y7 _ (eI hb e)))).2.1
   refine thn (ht cl fp s3 H3 _ s8 σ8 H8 _ I8 q8) λok s9 zq=>oq12 zq λH9 I9 q9=>?_
   cases ok with
   | false =>
    rw [if_neg Z8] at q9 ⊢
    exact again I9 q9
   | true =>
    rw [if_pos rfl] at q9 ⊢
    refine thn (he cl fp s3 H3 _ s9 σ8 H9 _ I9 q9) λu' s10 zq=>oq25 zq λv H10 I10 r10 hD10 hl10 n10=>?_
    refine thn (cL (X:=bD X (loc++cap.map (·.1)) scope cl fp s3 H3) _ s10 σ8 H10 (.ref s.heap.objs.size) [v] (.ref s.heap.objs.size) [u'] (λ_ H11=>N (ys++[v]) H11) I10 rfl (.cons r10 .nil) ⟨_,ys,v,rfl,rfl,hD10,hl10,n10⟩) λ_ s11 zq=>oq23 zq λ_ H11 I11 _ n11=>?_
    exact again I11 n11
 exact codeAny_compStart_list loop (T.self _ 0 _ _ _ st4 loop)
theorem cb (hc:X.calm=true) (S:CompScope X loc cap scope) (hi:PI X tg iter wi) (hg:∀ cl fp s3 H3,PG (bD X (loc++cap.map (·.1)) scope cl fp s3 H3) tg g) (ht:∀ cl fp s3 H3,PIfs (bD X (loc++cap.map (·.1)) scope cl fp s3 H3) ifs tt)
  (he:∀ cl fp s3 H3,PE (bD X (loc++cap.map (·.1)) scope cl fp s3 H3) elt te) (hs:autoParam (∀ x,foldedSetIterable iter X.env x=pure x) L2.a1q._auto_1) :
  PE X (.ListComp elt [⟨tg,iter,ifs,0⟩] scope pos) (tComp wi loc cap g tt te):=by
 intro pins s σ H Q I h
 refine oq13 (gq (scope:=scope) (env:=X.env) λy hy hf=>I.ok.has y.1 (S.free y hy hf)) λcl hcl0 hcl hcl2=>?_
 rw [eval_ListComp]
 refine wpAny_comprehension_free (use:=none) rfl hs hcl0 S.kind S.names (thn (hi pins s σ H _ I h) λv s1 h1=>thn h1 λitv s2 h2=>?_)
 refine oq56 h2 λit fp tn J H2 e I2 T st2 f2 R=>?_
 subst e
 refine jL (RR:=λacc C=>compPost (model X.prog X.w) X.A X.xe none (EP X pins σ Q) acc C) hc S hg ht he hcl hcl2 I2 T st2 f2 R ?_
 intro D C s' H' m I' fC hn q
 exact ⟨m,hn,λh'' hs''=>⟨.ref D,H',I'.turned (t':=s'.toks) (λb o hb e=>(hs''.2 b hb).trans e) fC.1 fC.2.1 fC.2.2.2.1 fC.2.2.2.2.1 fC.2.2.2.2.2,rfl,q⟩⟩
theorem eK {i:Nat} {x:Str} {pos' spos:Pos} (hc:X.calm=true) (S:CompScope X loc cap scope) (hN:X.N.Nodup) (hi':X.N[i]?=some x) (hx:Loc X.env.scope x) (hi:PI X tg iter wi)
  (hg:∀ cl fp s3 H3,PG (bD X (loc++cap.map (·.1)) scope cl fp s3 H3) tg g) (ht:∀ cl fp s3 H3,PIfs (bD X (loc++cap.map (·.1)) scope cl fp s3 H3) ifs tt)
  (he:∀ cl fp s3 H3,PE (bD X (loc++cap.map (·.1)) scope cl fp s3 H3) elt te) (hsw:autoParam (swapsWith (.ListComp elt [⟨tg,iter,ifs,0⟩] scope pos) (some (.Name x pos')) spos.line X.env=pure true) L2.a2q._auto_1)
  (hf:X.fn x=true\/X.env.scope.names.lookup x=some .local:=by first | exact .inl rfl | exact .inr rfl | assumption) (hs:autoParam (∀ x,foldedSetIterable iter X.env x=pure x) L2.a1q._auto_1) :
  PS X (.Assign [.Name x pos'] (.ListComp elt [⟨tg,iter,ifs,0⟩] scope pos) spos) (tAsg (tComp wi loc cap g tt te) (gd i)):=by
 intro pins s σ H D I h
 refine oq13 (gq (scope:=scope) (env:=X.env) λy hy hf=>I.ok.has y.1 (S.free y hy hf)) λcl hcl0 hcl hcl2=>?_
 rw [exec_Assign_Name_used _ _ _ _ hsw]
 refine Z0 (wpAny_standAt (Z0 ?_))
 show wpAny _ X.A (do let _ <- comprehension (.ListComp elt [⟨tg,iter,ifs,0⟩] scope pos) scope X.env _ (newList []) false (eval iter X.env) (some (assign (.Name x pos') X.env))) _ _ s
 refine Z0 (thn (wpAny_comprehension_free (use:=some (assign (.Name x pos') X.env)) (Q:=λ_ s'=>SP X pins D .next s') rfl hs hcl0 S.kind S.names
  (thn (hi pins s σ H _ I h) λv s1 h1=>thn h1 λitv s2 h2=>?_)) λ_ s' hq=>Y0 (Y0 hq))
 refine oq56 h2 λit fp tn J H2 e I2 T st2 f2 R=>?_
 subst e
 refine jL (RR:=λacc C=>compPost (model X.prog X.w) X.A X.xe (some (assign (.Name x pos') X.env)) (λ_ s'=>SP X pins D .next s') acc C) hc S hg ht he hcl hcl2 I2 T st2 f2 R ?_
 intro D' C s' H' m I' fC hn q
 show wpAny _ X.A (assign (.Name x pos') X.env (.ref D')) _ _ s'
 refine wpAny_assign_Name (lw I' hN hi' hx (v:=.ref D') rfl (λs'' I'' zq=>oq12 zq λa hsb ha=>?_) hf)
 have hCa:C≠a:=by
  rcases ha with z | z
  ·rw [z]; exact fC.2.1
  ·exact R5 (fC.2.2.2.2.1 x a z)
 refine (oi12 m (hn.sameBut hsb hCa) (λh'' hs''=>⟨_,H',I''.turned (t':=s''.toks) (λb o hb e=>(hs''.2 b hb).trans e) fC.1 fC.2.1 fC.2.2.2.1 fC.2.2.2.2.1 fC.2.2.2.2.2,q⟩))
end
end L2
namespace L2
open PySem PySem.Spec PyProof.Rows
section
variable {X:Cx} {pins:List (Addr × Obj)} {σ:St} {H:Hp} {s:Shared} {h':Heap}
theorem Inv.turnedL {ch:List Addr} {t':Nat} (I:Inv X pins σ H s) (hch:∀ b∈ch,FpOk X pins H b) (k:∀ b u,b ∉ ch->s.heap.get? b=some u->h'.get? b=some u):Inv X pins σ H { s with heap:=h',toks:=t' }:=by
 have nch:∀ b u,H b=some u->b ∉ ch:=λb u e z=>by rw [(hch b z).1] at e; cases e
 refine I.step (g':=s.gens) (d':=s.drawn) (ch:=ch) (λb hb=>?_) (λb u _ _ hc e _=>k b u hc e) (λb u _ _ hc e _=>⟨u.slots,k b u hc e⟩)
  (λb u _ _ n=>n) (λb u hc e=>⟨u,k b u hc e⟩) (λb xs e=>e) (λb u xs e=>e) (λb ps e=>⟨#[],by rw [e]; simp⟩) (λm hm=>?_) (λb u e=>?_) I.bare
 ·have f:=hch b hb; exact (oi04 f.2.2.2.1 f.2.1 f.2.2.2.2.1 f.2.2.2.2.2)
 ·refine oq32 hm λo es ep ho r=>?_
  exact ⟨o,es,ep,k _ o (λz=>(hch _ z).2.1 rfl) ho,r⟩
 ·refine (I.hok b u e).stay (λc v hc q=>k c v ?_ q) (λc q=>q) λc xs q=>q
  rcases hc with z | z
  ·rw [z]; exact nch b u e
  ·exact nch c _ z
theorem Inv.turnNew {a:Addr} {o:HO} {ch:List Addr} {t':Nat} (I:Inv X pins σ H s) (hch:∀ b∈ch,FpOk X pins H b) (ha:s.heap.objs.size<=a) (k:∀ b u,b ∉ ch->s.heap.get? b=some u->h'.get? b=some u)
  (new:aS X.prog X.w (upd H a o) h' a o):Inv X pins σ (upd H a o) { s with heap:=h',toks:=t' }:=by
 have hn:H a=none:=I.hok.fresh ha
 have fa:=I.fpOk ha hn
 have hne:∀ b u,H b=some u->b≠a:=λb u e=>af e hn
 have nch:∀ b u,H b=some u->b ∉ ch:=λb u e z=>by rw [(hch b z).1] at e; cases e
 refine I.step (g':=s.gens) (d':=s.drawn) (ch:=a :: ch) (λb hb=>?_) (λb u _ _ hc e _=>k b u (λz=>hc (X6 _ z)) e) (λb u _ _ hc e _=>⟨u.slots,k b u (λz=>hc (X6 _ z)) e⟩)
  (λb u hc _ n=>by rw [ai (λz=>hc (by rw [z]; exact W6))]; exact n) (λb u hc e=>⟨u,k b u (λz=>hc (X6 _ z)) e⟩)
  (λb xs e=>by rw [ai (hne b _ e)]; exact e) (λb u xs e=>by rw [ai (hne b _ e)]; exact e) (λb ps e=>⟨#[],by rw [ai (hne b _ e),e]; simp⟩) (λm hm=>?_) (λb u e=>?_) I.bare
 ·rcases Y4.mp hb with z | z
  ·rw [z]; exact (oi04 fa.2.2.2.1 fa.2.1 fa.2.2.2.2.1 fa.2.2.2.2.2)
  ·have f:=hch b z; exact (oi04 f.2.2.2.1 f.2.1 f.2.2.2.2.1 f.2.2.2.2.2)
 ·refine oq32 hm λo es ep ho r=>?_
  exact ⟨o,es,ep,k _ o (λz=>(hch _ z).2.1 rfl) ho,r⟩
 ·by_cases hb:b=a
  ·subst hb; rw [ah] at e; cases e; exact new
  ·rw [ai hb] at e
   refine (I.hok b u e).stay (λc v hc q=>k c v ?_ q) (λc q=>by rw [ai (hne c _ q)]; exact q) λc xs q=>by rw [ai (hne c _ q)]; exact q
   rcases hc with z | z
   ·rw [z]; exact nch b u e
   ·exact nch c _ z
end
noncomputable def Ite (K:Z3) (a:Addr):It :=
 ⟨λi H=>∃ xs x,SqL K H a xs/\xs[i]?=some x,λi H x H'=>∃ p y,x=.ref p/\H p=none/\H'=upd H p (.tup [.int (i:Nat),y])/\∀ xs,SqL K H a xs->xs[i]?=some y,λi H=>∃ xs,SqL K H a xs/\xs.length<=i⟩
theorem turn_enum {P:W5} {w:World} {K:Z3} {elts:List Expr} {x1:Nat} {pos:Pos} (a e it:Addr) (hne:e≠it) :
  Turn P w K (.Tuple elts x1 pos) (Ite K a) [e,it] e (λi h=>(∃ old,IsEnum h e it ((i:Nat):Int) old)/\h.IsListIter it a i) where
 mem:=by simp
 obj:=λi h st b hb=>by
  refine oq02 st λnn1 hi=>?_; refine oq11 nn1 λold he=>?_
  have hb':b=e\/b=it:=by simpa using hb
  rcases hb' with z | z
  ·rw [z]; exact (oi12 _ he (λv q=>by have q':Data.fields _=Data.cell v:=q; cases q'))
  ·rw [z]
   refine oq13 hi λo e' c d=>?_
   exact (oi12 o e' (λv q=>by rw [d] at q; cases q))
 keep:=λi h h' st k=>by
  refine oq02 st λnn2 hi=>?_; refine oq11 nn2 λold he=>?_
  exact ⟨⟨old,k e (by simp) _ he⟩,hi.at λo q=>k it (by simp) o q⟩
 item:=by
  intro X hP hw hK hc i pins s σ H E I hf st hg
  subst hP hw hK
  refine oq02 st λnn3 hit=>?_; refine oq11 nn3 λold he=>?_
  refine oq22 hg λxs x hq hx=>?_
  refine oq13 (I.list hq) λits rv p hz=>?_
  refine oq12 (rv.get hx) λu hu ru=>?_
  refine wpAny_pyNext_enum_item he hit p.isList (x:=u) (by simpa using hu) hne λh1 heo hit1 ht1 hz1 hk1=>?_
  refine (oi12 _ rfl (wpAny_letOwnedTupleGo_enum heo λh2 he2 hs2=>?_))
  replace hs2:S8 e h1 h2:=hs2
  replace he2:IsEnum h2 e it ((i:Int)+1) u:=he2
  have hlt:e<s.heap.objs.size:=X5 he
  have hk2:∀ b o,b ∉ [e,it]->s.heap.get? b=some o->h2.get? b=some o:=λb o hb q=>by
   have b1:b≠e:=λz=>hb (by simp [z])
   have b2:b≠it:=λz=>hb (by simp [z])
   exact (hs2.2 b b1).trans (hk1 b o b1 b2 q)
  have t2:h2.get? s.heap.objs.size=some { cls:=.type "tuple",data:=.seq #[.int (i:Nat) s.toks,u] }:=(hs2.2 _ (N2 hlt)).trans ht1
  refine (oi25 (.ref s.heap.objs.size) _ (I.turnNew (t':=s.toks+1) (ch:=[e,it]) (a:=s.heap.objs.size) (o:=.tup [.int (i:Nat),x]) hf (nz6 _) hk2 ?_) rfl ⟨_,x,rfl,I.hok.fresh (nz6 _),rfl,λys hy=>by rw [I.list_inj hy hq]; exact hx⟩ ⟨⟨u,?_⟩,hit1.extBut hs2.extBut (R5 hne)⟩ (λb hb=>?_))
  ·exact ⟨by show 2<=V1; decide,[.int (i:Nat) s.toks,u],.cons ⟨_,rfl⟩ (.cons ru .nil),⟨_,t2,rfl,_,rfl⟩⟩
  ·have e1:((i+1:Nat):Int)=(i:Int)+1:=by push_cast; rfl
   rw [e1]; exact he2
  ·have f:=hf b hb
   have hbl:b≠s.heap.objs.size:=by
    have hb':b=e\/b=it:=by simpa using hb
    rcases hb' with z | z
    ·rw [z]; exact nz7 hlt
    ·refine oq12 hit λo e' _=>?_
     rw [z]; exact nz7 (X5 e')
   rw [ai hbl]; exact f.1
 done:=by
  intro X hP hw hK hc i pins s σ H E I hf st hg
  subst hP hw hK
  refine oq02 st λnn4 hit=>?_; refine oq11 nn4 λold he=>?_
  refine oq12 hg λxs hq hx=>?_
  refine oq13 (I.list hq) λits rv p hz=>?_
  have hl:=rv.length
  exact wpAny_pyNext_enum_end (I.ok.hd hc) he hit p.isList (by simp; exact nz4 (nz3 hl.symm) hx) λh' eb=>⟨rfl,I.turnedL (t':=s.toks) (ch:=[e,it]) hf λb o hb q=>eb b o (λz=>hb (by simp [z])) q⟩
 self:=λ_ _ _ _ _ st h=>by
  refine oq02 st λnn5 _=>?_; refine oq11 nn5 λold he=>?_
  exact wpAny_pyIter_enum he h
section
variable {X:Cx} {elts:List Expr} {x1:Nat} {tpos:Pos}
def iEnum (K:Z3) (ta:TA):TI:=λσ H R=>ta σ H λvs H1=>∃ a,vs=[.ref a]/\(∃ xs,SqL K H1 a xs)/\R (Ite K a) H1
theorem pi_enum {a:Expr} {ta:TA} {p pos:Pos} (hg:Gl X "enumerate") (hm:X.mg "enumerate"=none) (ha:PA X [a] ta) (hs:autoParam (V4 [a] X.env=[(false,eval a X.env)]) L2.a2q._auto_1) :
  PI X (.Tuple elts x1 tpos) (.Call (.Name "enumerate" p) [a] [] pos) (iEnum X.K ta):=by
 intro pins s σ H R I h
 refine Call_ (dN I hg hm boot_enumerate (P3 (thn (ha pos pins s σ H _ I h) λus s1 zq=>oq23 zq λvs H1 I1 r1 q1=>?_) hs rfl))
 refine oq13 q1 λl e nn6 q=>?_; refine oq11 nn6 λxs hq=>?_
 subst e
 refine oq12 (vals1 r1) λu eq1_ ru=>?_; subst eq1_
 cases ru
 refine oq13 (I1.list hq) λits rv pl hz=>?_
 refine call_enumerate_list pl.isList λh' he hit hsz hk=>wpAny_pyIter_enum he ?_
 have I2:Inv X pins σ H1 { s1 with heap:=h' }:=I1.kept (t':=s1.toks) hk
 refine ⟨s1.heap.objs.size+1,[s1.heap.objs.size+1,s1.heap.objs.size],_,_,H1,rfl,I2,turn_enum l _ _ (Nat.succ_ne_self _),⟨⟨_,he⟩,hit⟩,λb hb=>?_,q⟩
 have hb':b=s1.heap.objs.size+1\/b=s1.heap.objs.size:=by simpa using hb
 have hle:s1.heap.objs.size<=b:=by
  rcases hb' with z | z
  ·rw [z]; exact P6 _
  ·rw [z]; exact nz6 _
 exact I1.fpOk hle (I1.hok.fresh hle)
end
noncomputable def Itq (lo c:Int) (n:Nat):It:=⟨λi _=>i<n,λi H x H'=>H'=H/\x=.int (lo+(i:Nat) * c),λi _=>n<=i⟩
theorem oE {P:W5} {w:World} {K:Z3} {tg:Expr} (it:Addr) (lo c:Int) (n:Nat):Turn P w K tg (Itq lo c n) [it] it (λi h=>IsRangeIter h it (lo+(i:Nat) * c) ((n:Int) - (i:Nat)) c) where
 mem:=by simp
 obj:=λi h st b hb=>by
  have e:b=it:=by simpa using hb
  subst e
  exact (oi12 _ st (λv z=>by
   have z':Data.fields _=Data.cell v:=z
   cases z'))
 keep:=λi h h' st k=>k it (by simp) _ st
 item:=by
  intro X hP hw hK hc i pins s σ H E I hf st hg
  subst hP hw hK
  refine oq06 (hf it (by simp)) λf0 f1 f2 f3 f4 f5=>?_
  have W:=Walks.range (prog:=X.prog) (w:=X.w) (I.ok.hd hc) it lo c n
  refine W.item i s _ _ hg st λv h' tk hv st' kk=>?_
  refine oq11 hv λt eq1_=>?_; subst eq1_
  have I1:Inv X pins σ H { s with heap:=h',toks:=tk }:=I.turned (λb o hb e=>kk b o (by simpa using hb) e) f0 f1 f3 f4 f5
  exact (oi12 _ rfl (go_of (s:={ s with heap:=h',toks:=tk }) (n:="range_iterator") st' rfl rfl (by decide) (oi25 (.int (lo+(i:Nat) * c)) H I1 ⟨t,rfl⟩ ⟨rfl,rfl⟩ st' (λb hb=>(hf b hb).1))))
 done:=by
  intro X hP hw hK hc i pins s σ H E I hf st hg
  subst hP hw hK
  refine oq06 (hf it (by simp)) λf0 f1 f2 f3 f4 f5=>?_
  exact wpAny_pyNext_range_end (I.ok.hd hc) st (by have:n<=i:=hg; omega) λh' eb=>⟨rfl,I.turned (t':=s.toks) (λb o hb e=>eb b o hb e) f0 f1 f3 f4 f5⟩
 self:=λ_ _ _ _ _ st h=>wpAny_pyIter_rangeiter st h
noncomputable abbrev rcnt (a b c:Int):Nat:=Fl.jD a b c
theorem rcnt_size {a b c:Int} (hc:0<c):((rcnt a b c:Nat):Int)=K3 a b c:=by
 unfold rcnt Fl.jD K3
 rw [if_pos (show c > 0 from hc)]
 by_cases h:a<b
 ·rw [if_pos h]
  have:0<=(b - a - 1) / c:=Int.ediv_nonneg (by omega) (by exact G4 hc)
  omega
 ·rw [if_neg h]; rfl
theorem fits {x:Int} (h:-(2 ^ 62)<=x) (h':x<=2 ^ 62):J1 x=true:=by
 simp only [J1,Bool.and_eq_true,decide_eq_true_eq]
 exact ⟨P4 (by decide) h,Int.lt_of_le_of_lt h' (by decide)⟩
theorem qP {a b c:Int} (ha:-(2 ^ 61)<=a) (ha':a<2 ^ 61) (hb:-(2 ^ 61)<=b) (hb':b<2 ^ 61) (hc:0<c) (hc':c<1073741824):R0.Range.small a b c=true:=by
 have fa:∀ {x:Int},-(2 ^ 61)<=x->x<2 ^ 61->J1 x=true:=λh h'=>fits (P4 (by decide) h) (P4 (G4 h') (by decide))
 have fc:J1 c=true:=fits (P4 (by decide) (G4 hc)) (P4 (G4 hc') (by decide))
 unfold R0.Range.small K3
 simp only [show c > 0 from hc,if_true,fa ha ha',fa hb hb',fc,Bool.true_and]
 by_cases h:a<b
 ·rw [if_pos h,fits,fits,Bool.or_true]
  ·rfl
  ·omega
  ·omega
  ·exact P4 (by decide) (P4 (Int.ediv_nonneg (by omega) (by exact G4 hc)) (Int.le_add_of_nonneg_right (by decide)))
  ·have h2:(b - a - 1) / c<=b - a - 1:=Int.ediv_le_self _ (by omega)
   omega
 ·rw [if_neg h]; rfl
section
variable {X:Cx} {tg:Expr}
theorem range_it3 {pins:List (Addr × Obj)} {σ:St} {H:Hp} {s:Shared} {R:It->Hp->Prop} {E:Value->Shared->Prop} {lo hi c:Int} {t u v:Tok} {tk:Nat} (I:Inv X pins σ H s) (h1:-(2 ^ 61)<=lo) (h2:lo<2 ^ 61) (h3:-(2 ^ 61)<=hi) (h4:hi<2 ^ 61) (h5:0<c) (h6:c<1073741824)
  (q:R (Itq lo c (rcnt lo hi c)) H):wpAny (model X.prog X.w) X.A (pyIter (.ref s.heap.objs.size)) (PIE X pins σ tg R) E { s with heap:=s.heap.push { cls:=.type "range",data:=.fields #[.int lo t,.int hi u,.int c v] },toks:=tk }:=by
 refine wpAny_pyIter_range (IsRange.new ..) (qP h1 h2 h3 h4 h5 h6) ?_
 have I1:Inv X pins σ H { s with heap:=s.heap.push { cls:=.type "range",data:=.fields #[.int lo t,.int hi u,.int c v] },toks:=tk }:=I.kept λb o e=>Z5 _ e
 refine ⟨(s.heap.push { cls:=.type "range",data:=.fields #[.int lo t,.int hi u,.int c v] }).objs.size,[(s.heap.push { cls:=.type "range",data:=.fields #[.int lo t,.int hi u,.int c v] }).objs.size],_,_,H,rfl,
  I1.kept (t':=tk) λb o e=>Z5 _ e,oE _ lo c (rcnt lo hi c),?_,λb hb=>?_,q⟩
 ·have e1:lo+((0:Nat):Int) * c=lo:=by simp
  have e2:((rcnt lo hi c:Nat):Int) - ((0:Nat):Int)=K3 lo hi c:=by rw [rcnt_size h5]; simp
  show IsRangeIter _ _ (lo+((0:Nat):Int) * c) (((rcnt lo hi c:Nat):Int) - ((0:Nat):Int)) c
  rw [e1,e2]
  exact X4 _ rfl
 ·have e:b=(s.heap.push { cls:=.type "range",data:=.fields #[.int lo t,.int hi u,.int c v] }).objs.size:=by simpa using hb
  subst e
  exact I1.fpOk (nz6 _) (I1.hok.fresh (nz6 _))
def iRng3 (ta:TA):TI:=λσ H R=>ta σ H λvs H1=>∃ i j c:Int,vs=[.int i,.int j,.int c]/\(-(2 ^ 61)<=i/\i<2 ^ 61/\-(2 ^ 61)<=j/\j<2 ^ 61/\0<c/\c<1073741824)/\R (Itq i c (rcnt i j c)) H1
theorem pi_range3 {a b c:Expr} {ta:TA} {p pos:Pos} (hg:Gl X "range") (hm:X.mg "range"=none) (ha:PA X [a,b,c] ta) (hs:autoParam (V4 [a,b,c] X.env=[(false,eval a X.env),(false,eval b X.env),(false,eval c X.env)]) L2.a2q._auto_1)
  (hs2:autoParam (V4 [b,c] X.env=[(false,eval b X.env),(false,eval c X.env)]) L2.a2q._auto_1):PI X tg (.Call (.Name "range" p) [a,b,c] [] pos) (iRng3 ta):=by
 intro pins s σ H R I h
 refine Call_ (dN I hg hm boot_range (P3 (thn (ha pos pins s σ H _ I h) λus s1 zq=>oq23 zq λvs H1 I1 r1 q1=>?_) (by rw [hs,hs2]) (by rw [hs2]; rfl)))
 obtain ⟨i,j,k,e,nn15,q⟩:=q1; obtain ⟨q1,q2,q3,q4,q5,q6⟩:=nn15
 subst e
 cases r1 with
 | cons r rr =>
  cases rr with
  | cons r' rr =>
   cases rr with
   | cons r'' rr =>
    cases rr
    refine oq11 r λt eq1_=>?_; subst eq1_
    refine oq11 r' λt' eq1_=>?_; subst eq1_
    refine oq11 r'' λt'' eq1_=>?_; subst eq1_
    exact call_range_3 (by exact Int.ne_of_gt q5) (range_it3 I1 q1 q2 q3 q4 q5 q6 q) (.inl (PyProof.noPylong_small (by omega)))
end
end L2
namespace L2
open PySem PySem.Spec PyProof.Rows
mutual
def DatV (K:Z3) (H:Hp):PyData->V->Prop
 | .none,v=>v=.non
 | .bool b,v=>v=.bl b
 | .int i,v=>v=.int i
 | .str x,v=>v=.str x
 | .list ds,v=>∃ a xs,v=.ref a/\SqL K H a xs/\ca K H ds xs
 | .tuple ds,v=>∃ a xs,v=.ref a/\SqT K H a xs/\ca K H ds xs
 | .dict _,_=>False
def ca (K:Z3) (H:Hp):List PyData->List V->Prop
 | [],xs=>xs=[]
 | d :: ds,xs=>∃ x r,xs=x :: r/\DatV K H d x/\ca K H ds r
end
theorem Same.sqT {K:Z3} {H H':Hp} {a:Addr} {xs:List V} (e:Same H H') (h:SqT K H a xs):SqT K H' a xs:=by
 rcases h with (h | ⟨o,h⟩) | h
 ·exact .inl (.inl (e _ _ h))
 ·exact .inl (.inr ⟨o,e _ _ h⟩)
 ·exact .inr h
mutual
theorem DatV.same {K:Z3} {H H':Hp} (e:Same H H'):∀ {d:PyData} {v:V},DatV K H d v->DatV K H' d v
 | .none,_,h=>by unfold DatV at h ⊢; exact h
 | .bool _,_,h=>by unfold DatV at h ⊢; exact h
 | .int _,_,h=>by unfold DatV at h ⊢; exact h
 | .str _,_,h=>by unfold DatV at h ⊢; exact h
 | .list ds,_,h=>by
  unfold DatV at h ⊢
  refine oq23 h λa xs h1 h2 h3=>?_
  exact (oi23 a xs h1 (e.seq h2) (ca.same e h3))
 | .tuple ds,_,h=>by
  unfold DatV at h ⊢
  refine oq23 h λa xs h1 h2 h3=>?_
  exact (oi23 a xs h1 (e.sqT h2) (ca.same e h3))
 | .dict _,_,h=>by unfold DatV at h; exact h.elim
theorem ca.same {K:Z3} {H H':Hp} (e:Same H H'):∀ {ds:List PyData} {xs:List V},ca K H ds xs->ca K H' ds xs
 | [],_,h=>by unfold ca at h ⊢; exact h
 | d :: ds,_,h=>by
  unfold ca at h ⊢
  refine oq23 h λx r h1 h2 h3=>?_
  exact (oi23 x r h1 (DatV.same e h2) (ca.same e h3))
end
section
variable {X:Cx} {pins:List (Addr × Obj)} {σ:St} {H:Hp} {s:Shared}
mutual
theorem DatV.reads (I:Inv X pins σ H s):∀ {d:PyData} {v:V} {u:Value},DatV X.K H d v->RelV v u->∃ as,Reads s.heap u d as
 | .none,v,u,h,r=>by
  unfold DatV at h; subst h; cases r; exact ⟨_,.none⟩
 | .bool b,v,u,h,r=>by
  unfold DatV at h; subst h; cases r; exact ⟨_,.bool b⟩
 | .int i,v,u,h,r=>by
  unfold DatV at h; subst h; refine oq11 r λt eq1_=>?_; subst eq1_; exact ⟨_,.int i t⟩
 | .str x,v,u,h,r=>by
  unfold DatV at h; subst h; refine oq11 r λt eq1_=>?_; subst eq1_; exact ⟨_,.str x t⟩
 | .list ds,v,u,h,r=>by
  unfold DatV at h
  refine oq23 h λa xs h1 h2 h3=>?_
  subst h1
  cases r
  obtain ⟨its,rv,⟨o,n,e,hc,_,hd⟩,_⟩:=I.list h2
  refine oq11 (ca.reads I h3 rv) λas q=>?_
  exact ⟨_,.list e hc hd (by simpa using q)⟩
 | .tuple ds,v,u,h,r=>by
  unfold DatV at h
  refine oq23 h λa xs h1 h2 h3=>?_
  subst h1
  cases r
  obtain ⟨its,rv,⟨o,e,hc,n,hd⟩,_⟩:=I.tuple h2
  refine oq11 (ca.reads I h3 rv) λas q=>?_
  exact ⟨_,.tuple e hc hd (by simpa using q)⟩
 | .dict _,v,u,h,r=>by unfold DatV at h; exact h.elim
theorem ca.reads (I:Inv X pins σ H s):∀ {ds:List PyData} {xs:List V} {us:List Value},ca X.K H ds xs->Vals xs us->∃ as,ReadsAll s.heap us ds as
 | [],xs,us,h,r=>by
  unfold ca at h; subst h; cases r; exact ⟨_,.nil⟩
 | d :: ds,xs,us,h,r=>by
  unfold ca at h
  refine oq23 h λx t h1 h2 h3=>?_
  subst h1
  cases r with
  | cons r1 r2 =>
   refine oq11 (DatV.reads I h2 r1) λas q1=>?_
   refine oq11 (ca.reads I h3 r2) λbs q2=>?_
   exact ⟨_,.cons q1 q2⟩
end
end
section
variable {X:Cx}
noncomputable def rEqD (K:Z3):R2:=λx y H Q=>∃ dx dy,DatV K H dx x/\DatV K H dy y/\dx.canLay0=true/\dy.canLay0=true/\min dx.depth dy.depth<=60/\Q (.bl (PyData.eqv dx dy)) H
noncomputable def rNeD (K:Z3):R2:=λx y H Q=>∃ dx dy,DatV K H dx x/\DatV K H dy y/\dx.canLay0=true/\dy.canLay0=true/\min dx.depth dy.depth<=60/\Q (.bl (!PyData.eqv dx dy)) H
theorem op_eqD (hu:X.A.units+64<cLine):OpR X (N5 .Eq) (rEqD X.K):=by
 intro pins s σ H x y v u Q I rx ry h
 refine oq26 h λdx dy h1 h2 c1 c2 dp q=>?_
 refine oq11 (DatV.reads I h1 rx) λas ra=>?_
 refine oq11 (DatV.reads I h2 ry) λbs rb=>?_
 exact SeqAt.compareEq_reads ra rb c1 c2 (by omega) ⟨.bl _,H,I,rfl,q⟩
theorem bM:OpR X (binaryOp .FloorDiv) (rI (λ_ j=>0<j/\j<2 ^ 64) λi j=>.int (i / j)):=opI λi j _ _ _ _ _ hc q=>by
 have h1:(0:Int)<j:=hc.1
 have h2:j<2 ^ 64:=hc.2
 refine floordiv_int (by exact Int.ne_of_gt h1) (by rw [Int.fdiv_eq_ediv_of_nonneg i (by exact G4 h1)]; exact q) (.inl (PyProof.noPylong_of_log2 ?_))
 have h3:j.natAbs≠0:=by omega
 have h4:j.natAbs.log2<64:=(Nat.log2_lt h3).mpr (by omega)
 exact nz8 h4 (by decide)
theorem oF {T:String}:cV X (.builtin "isinstance") (λxs H Q=>∃ x t b,xs=[x,.ty T]/\TyOf X.K H x t/\J5 X.K t (.type T)=some b/\Q (.bl b) H):=by
 intro pins s σ H xs us Q I r h
 refine oq34 h λx t b eq3_ ty e q=>?_; subst eq3_
 refine oq23 (vals2 r) λu c eq2_ ru rc=>?_; subst eq2_
 have rc':c=A7 T:=rc
 subst rc'
 exact isinst_ok I ru ty e λtk=>⟨.bl b,H,I.tok _,rfl,q⟩
end
section
variable {K:Z3}
theorem gh:J5 K (.type "list") (.type "list")=some true:=by with_unfolding_all rfl
end
end L2
namespace L2
open PySem PySem.Spec PyProof.Rows
section
variable {g:TG} {tt:TT} {te:TE} {loc:List Str} {cap:List (Str × Nat)} {σ:St} {Q:VK} {J:It} {D:Addr} {H:Hp}
theorem comp_it {n:Nat} (Pv:Nat->List V->Hp->Prop) (h0:Pv 0 [] (upd H D (.lst []))) (hD:∀ i ys H,i<=n->Pv i ys H->H D=some (.lst ys)) (go:∀ i ys H,i<n->Pv i ys H->J.go i H) (st:∀ ys H,Pv n ys H->J.stop n H)
  (hs:∀ i ys H x H',i<n->Pv i ys H->J.yld i H x H'->cTurn g tt te loc cap σ D ys (Pv (i+1)) x H') (hd:∀ ys H,Pv n ys H->Q (.ref D) H):cGoal g tt te loc cap σ D Q J H:=by
 refine ⟨λi m ys H=>m=n - i/\i<=n/\Pv i ys H,(oi13 n (by simp) (U2 _) h0),?_⟩
 intro i m ys H zq; refine oq03 zq λeq0_ hi p=>?_; subst eq0_
 refine ⟨hD i ys H hi p,?_⟩
 by_cases hlt:i<n
 ·exact .inr ⟨go i ys H hlt p,Pv (i+1),λys' H' p'=>(oi14 (n - (i+1)) (by omega) rfl hlt p'),λx H' y=>hs i ys H x H' hlt p y⟩
 ·have e:i=n:=by exact T2 hi (U3.mp hlt)
  subst e
  exact .inl ⟨st ys H p,hd ys H p⟩
end
def az (K:Z3) (mg:Str->Option Value) (x:Str) (st:Stmt) (ps:List Str):Prop:=∃ f fd,Fun K x x st f fd/\Binds K fd ps []/\mg x=some (.ref f)
noncomputable def Has (P:W5) (w:World) (K:Z3) (mg:Str->Option Value) (base:Heap) (k:Nat) (x:Str) (ps:List Str) (sp:Sp):Prop :=
 ∃ f fd,FnOk P w K mg base CX0 k f fd ps sp/\mg x=some (.ref f)/\T5 K (.ref f)=true/\Binds K fd ps []
section
variable {P:W5} {w:World} {K:Z3} {mg:Str->Option Value} {base:Heap}
theorem az.has {x:Str} {st:Stmt} {N ps:List Str} {k:Nat} {sp:Sp} (D:az K mg x st ps) (S:FnScope N ps (aa st)) (len:∀ vs H Q E,sp vs H Q E->vs.length=ps.length)
  (hbody:∀ (f:Addr) (cdv:Value) (A:Around) (outer:List Env) (s:Shared) (H:Hp) (vs:List V) (Q:VK) (E:XK),Room k (A.deeper (envOfC x (aa st) s.heap.objs.size f cdv))->sp vs H Q E ->
   ∃ t,PSs (cxOf CX0 P w K mg base N x (aa st) f cdv A outer s H E).nox (aF st) t/\t { nx:=λ_ H'=>Q .non H',rt:=Q } (start N vs) H):Has P w K mg base (k+1) x ps sp:=by
 refine oq23 D λf fd F b hm=>?_
 exact ⟨f,fd,F.ok S len λcdv A outer s H vs Q E hr h=>hbody f cdv A outer s H vs Q E hr h,hm,F.kp,b⟩
end
section
variable {X:Cx} {k:Nat} {ps:List Str} {sp:Sp} {x:Str} {p pos:Pos} {e:Expr} {es:List Expr} {t:TA}
theorem ao (G:Has X.prog X.w X.K X.mg X.base k x ps sp) (hr:Room k X.A) (hg:Gl X x) (ha:PA X (e :: es) t) (hdb:autoParam ((x == ("__debug__":Str))=false) L2.a0q._auto_1)
  (he:autoParam (V4 (e :: es) X.env=(false,eval e X.env) :: V4 es X.env) L2.a2q._auto_1) (hpl:autoParam ((backTo pos (V4 es X.env)).any (·.1)=false) L2.a2q._auto_1) :
  PE X (.Call (.Name x p) (e :: es) [] pos) (tCall sp [] E0 t):=by
 refine oq24 G λf fd F hm hk hb=>?_
 exact pe_call F hr hg hm hk hb .nil pass0 ha hdb he hpl
end
structure Blt (mg:Str->Option Value):Prop where
 len:mg "len"=none
 range:mg "range"=none
 enumerate:mg "enumerate"=none
 zip:mg "zip"=none
 min:mg "min"=none
 max:mg "max"=none
 abs:mg "abs"=none
 isinstance:mg "isinstance"=none
 int_:mg "int"=none
 bool_:mg "bool"=none
 list_:mg "list"=none
 tuple_:mg "tuple"=none
 sorted:mg "sorted"=none
 set_:mg "set"=none
theorem cw:P0 "len"=some (.builtin "len"):=by decide +kernel
theorem gr:P0 "min"=some (.builtin "min"):=by decide +kernel
theorem jM:P0 "max"=some (.builtin "max"):=by decide +kernel
theorem mH:P0 "abs"=some (.builtin "abs"):=by decide +kernel
theorem gi:P0 "isinstance"=some (.builtin "isinstance"):=by decide +kernel
theorem iC:P0 "sorted"=some (.builtin "sorted"):=by decide +kernel
theorem mI:P0 "list"=some (.type "list"):=by decide +kernel
theorem bo_set:P0 "set"=some (.type "set"):=by decide +kernel
abbrev Ints (K:Z3) (H:Hp) (a:Addr) (ns:List Int):Prop:=SqL K H a (ns.map V.int)
theorem cM {α β:Type} {F:α->β->Prop}:∀ {l₁:List α} {l₂:List β} {i:Nat} {y:β},Paired F l₁ l₂->l₂[i]?=some y->∃ x,l₁[i]?=some x/\F x y
 | _,_,_,_,.nil,e=>by simp at e
 | _,_,0,_,.cons r _,e=>by simp at e; subst e; exact (oi12 _ rfl r)
 | _,_,i+1,y,.cons _ t,e=>by
  refine oq12 (cM (i:=i) (y:=y) t (by simpa using e)) λx h1 h2=>?_
  exact (oi12 x (by simpa using h1) h2)
theorem fu {α β:Type} {F:α->β->Prop}:∀ {l₁:List α} {l₂:List β} {i:Nat} {x:α},Paired F l₁ l₂->l₁[i]?=some x->∃ y,l₂[i]?=some y/\F x y
 | _,_,_,_,.nil,e=>by simp at e
 | _,_,0,_,.cons r _,e=>by simp at e; subst e; exact (oi12 _ rfl r)
 | _,_,i+1,x,.cons _ t,e=>by
  refine oq12 (fu (i:=i) (x:=x) t (by simpa using e)) λy h1 h2=>?_
  exact (oi12 y (by simpa using h1) h2)
theorem b7 {K:Z3} {mg:Str->Option Value} {h:Heap} {x:Str} {st:Stmt} {ps:List Str} {f:Addr} {oc:Value} {od an:Option Addr} {osl:Array (Option Value)} {kV doc pm cdv ct:Value} (X:K.In h) (G:h.Ns U8 mg)
  (a:G8 K U8 x=some (some (.ref f))) (l:K.lookup f=some ⟨oc,od,.func (T7 x x (b0 st) (aF st) (aa st) .none kV doc pm an cdv ct),osl⟩) (c:P7 K cdv x=true) (k:T5 K (.ref f)=true)
  (hb:∀ (kV doc pm:Value) (an:Option Addr) (cdv ct:Value) (us:List Value),us.length=ps.length->A9 (T7 x x (b0 st) (aF st) (aa st) .none kV doc pm an cdv ct) ⟨us,[]⟩=pure (ps.zip us)):az K mg x st ps :=
 ⟨f,_,eJ (st:=st) l c k,(eJ (st:=st) l c k).binds hb,PySem.W.mg_of X G a⟩
theorem aJ {H:Hp} {p:Addr} {o:HO} (h:H p=none):Same H (upd H p o):=λb u e=>by rw [ai (af e h)]; exact e
section
variable {X:Cx} {K:Z3}
theorem dX (h:X.K=K):SlR X (rSlL K):=by subst h; exact sl_list
theorem aL (h:X.K=K):IxR X (rIxL K):=by subst h; exact ix_list
theorem bU (h:X.K=K):IxR X (rIxT K):=by subst h; exact ix_tup
theorem op_eqDK (h:X.K=K) (hu:X.A.units+64<cLine):OpR X (N5 .Eq) (rEqD K):=by subst h; exact op_eqD hu
def rLen (K:Z3):List V->Hp->VK->Prop:=λxs H Q=>∃ p ys,xs=[.ref p]/\(SqL K H p ys\/SqT K H p ys)/\Q (.int ys.length) H
theorem bc (h:X.K=K):cV X (.builtin "len") (rLen K):=by subst h; exact mw
def rListOf (K:Z3):List V->Hp->VK->Prop:=λxs H Q=>∃ p ys,xs=[.ref p]/\(SqL K H p ys\/SqT K H p ys)/\∀ l,H l=none->Q (.ref l) (upd H l (.lst ys))
theorem qQ (h:X.K=K):cV X (.type "list") (rListOf K):=by subst h; exact mC
def rIsi (K:Z3) (T:String):List V->Hp->VK->Prop:=λxs H Q=>∃ x t b,xs=[x,.ty T]/\TyOf K H x t/\J5 K t (.type T)=some b/\Q (.bl b) H
theorem lI {T:String} (h:X.K=K):cV X (.builtin "isinstance") (rIsi K T):=by subst h; exact oF
def tTru (K:Z3) (ta:TE):TT:=λσ H Q=>ta σ H λx H'=>∃ k,TruV K x H' k/\Q k H'
theorem pt_truK {a:Expr} {ta:TE} (h:X.K=K) (ha:PE X a ta) (he:∀ whole,isTrue a X.env whole=(do let v <- whole; standAt a.pos; holding [v] (truthy v))):PT X a (tTru K ta):=by subst h; exact pt_truth ha he
theorem aP {tg l:Expr} {tl:TE} (h:X.K=K) (hl:PE X l tl):PI X tg l (iList K tl):=by subst h; exact pi_list hl
theorem gO {elts:List Expr} {x1:Nat} {tpos:Pos} {a:Expr} {ta:TA} {p pos:Pos} (h:X.K=K) (hg:Gl X "enumerate") (hm:X.mg "enumerate"=none) (ha:PA X [a] ta) (hs:autoParam (V4 [a] X.env=[(false,eval a X.env)]) L2.a2q._auto_1) :
  PI X (.Tuple elts x1 tpos) (.Call (.Name "enumerate" p) [a] [] pos) (iEnum K ta):=by subst h; exact pi_enum hg hm ha hs
theorem fS {es:List Expr} {k:Nat} {t:TGs} {n:Nat} {pos:Pos} (h:X.K=K) (hc:X.calm=true) (hs:PGs X es t) (hn:autoParam ((assignEach es X.env).length=n) L2.a2q._auto_1) (hst:autoParam ((assignEach es X.env).findIdx? (·.1)=none) L2.a2q._auto_1) :
  PG X (.Tuple es k pos) (gTup K n t):=by subst h; exact pg_tup hc hs hn hst
section
variable {o e:Expr} {es:List Expr} {to:TE} {t:TA} {name:Str} {apos cpos:Pos} {T id:String} {r:V->List V->Hp->VK->Prop}
theorem pe_bm0K (h:X.K=K) (pa:PlainAttrs T) (slot:Slot T name id) (hty:typeOf (.builtin id)=pure (.type "method_descriptor")) (hm:MtR X id r) (ho:PE X o to)
  (hbase:autoParam (B2 o name X.env (eval o X.env)=eval o X.env) L2.a2q._auto_1) (hline:autoParam ((apos.endLine == cpos.line)=true) L2.a2q._auto_1):PE X (.Call (.Attribute o name apos) [] [] cpos) (tBM0 K T r to):=by subst h; exact pe_bm0 pa slot hty hm ho hbase hline
theorem fv (h:X.K=K) (pa:PlainAttrs T) (slot:Slot T name id) (hty:typeOf (.builtin id)=pure (.type "method_descriptor")) (hm:MtR X id r) (ho:PE X o to) (ha:PA X (e :: es) t)
  (hbase:autoParam (B2 o name X.env (eval o X.env)=eval o X.env) L2.a2q._auto_1)
  (hfew:((backTo cpos (V4 (e :: es) X.env)).all (λx=>!x.1) && (backToKw cpos (keywordEach [] X.env)).all (λx=>x.1.isSome)
   && decide ((e :: es).length+([]:List Keyword).length+(if ([]:List Keyword).isEmpty then 0 else 1)<30))=true:=by rfl)
  (hline:autoParam ((apos.endLine == cpos.line)=true) L2.a2q._auto_1) (hs:autoParam (V4 (e :: es) X.env=(false,eval e X.env) :: V4 es X.env) L2.a2q._auto_1) (hplain:autoParam ((backTo cpos (V4 es X.env)).any (·.1)=false) L2.a2q._auto_1) :
  PE X (.Call (.Attribute o name apos) (e :: es) [] cpos) (tBM K T r to t):=by subst h; exact pe_bm pa slot hty hm ho ha hbase hfew hline hs hplain
end
end
class Kon where
 T:List Addr
 Q:Addr->Str
def aE (c:Addr) (q:Str):Heap->Prop:=λh=>h.CodeRec (.ref c) q
def cJ:HO->Prop
 | .tbl _=>False
 | _=>True
structure TbG [Kon] (H:Hp):Prop where
 there:∀ P∈Kon.T,∃ ps,H P=some (.tbl ps)
 good:∀ P ps,H P=some (.tbl ps)->TriplesOk ps.toList/\∀ pos cv,codeAmong pos ps.toList=some cv->∃ c,cv=.ref c/\H c=some (.ext (aE c (Kon.Q P)))
structure Sm [Kon] (H H':Hp):Prop where
 kp:∀ b o,cJ o->H b=some o->H' b=some o
 tb:∀ b ps,H b=some (.tbl ps)->∃ more,H' b=some (.tbl (ps++more))
 tg:TbG H->TbG H'
section
variable [Kon] {H H1 H2 H':Hp} {p:Addr} {o:HO}
theorem Sm.refl (H:Hp):Sm H H:=⟨λ_ _ _ h=>h,λ_ ps h=>⟨#[],by rw [h]; simp⟩,λh=>h⟩
theorem Sm.trans (a:Sm H H1) (b:Sm H1 H2):Sm H H2:=⟨λc o n h=>b.kp c o n (a.kp c o n h),λc ps h=>by
 refine oq11 (a.tb c ps h) λm1 e1=>?_
 refine oq11 (b.tb c _ e1) λm2 e2=>?_
 exact ⟨m1++m2,by rw [e2,Array.append_assoc]⟩,λh=>b.tg (a.tg h)⟩
theorem Sm.some (e:Sm H H') {b:Addr} (h:H b=some o):∃ o',H' b=some o':=by
 cases o with
 | tbl ps=>refine oq11 (e.tb b ps h) λm q=>?_; exact ⟨_,q⟩
 | _=>refine ⟨_,e.kp b _ ?_ h⟩; trivial
theorem Sm.free (e:Sm H H') {l:Addr} (h:H' l=Option.none):H l=Option.none:=by
 cases q:H l with
 | none=>rfl
 | some o=>refine oq11 (e.some q) λo' z=>?_; rw [h] at z; cases z
theorem jN {b:Addr} {u:HO} {Q:Prop} (q:upd H p o b=some u) (f:b=p->o=u->Q) (g:b≠p->H b=some u->Q):Q:=(Decidable.em (b=p)).elim (λe=>f e (Z7 (ah.symm.trans ((congrArg (upd H p o) e).symm.trans q)))) λn=>g n ((ai n).symm.trans q)
theorem d7 {b:Addr} {u:HO} (n:b≠p) (q:H b=some u):upd H p o b=some u:=(ai n).trans q
theorem TbG.mv (g:TbG H) (k1:∀ P ps,H P=some (.tbl ps)->H' P=some (.tbl ps)) (k2:∀ c q,H c=some (.ext (aE c q))->H' c=some (.ext (aE c q))) (n:∀ P ps,H' P=some (.tbl ps)->H P=some (.tbl ps)):TbG H' :=
 ⟨λP hP=>(g.there P hP).imp λps e=>k1 P ps e,λP ps q=>⟨(g.good P ps (n P ps q)).1,λpos cv hc=>((g.good P ps (n P ps q)).2 pos cv hc).imp λc z=>⟨z.1,k2 c _ z.2⟩⟩⟩
theorem mJ {ps:Array Value} (e:o=.tbl ps) (n:cJ o):False:=by subst e; exact n
theorem TbG.poke (g:TbG H) (n:cJ o) (h1:∀ q,H p≠some (.ext (aE p q))) (h2:∀ ps,H p≠some (.tbl ps)):TbG (upd H p o):=g.mv (λP ps q=>d7 (λz=>h2 ps (z ▸ q)) q) (λc n q=>d7 (λz=>h1 n (z ▸ q)) q) λP ps q=>jN q (λ_ e=>(mJ e n).elim) λ_ q=>q
theorem TbG.pokN (g:TbG H) (n:cJ o) (h:H p=none):TbG (upd H p o):=g.poke n (λ_ z=>nomatch h.symm.trans z) λ_ z=>nomatch h.symm.trans z
theorem qR (h:H p=none) (n:cJ o):Sm H (upd H p o):=⟨λ_ _ _ q=>d7 (af q h) q,λ_ ps q=>⟨#[],by rw [Array.append_empty]; exact d7 (af q h) q⟩,λg=>g.pokN n h⟩
def qS (φ:Heap->Prop):Prop:=∀ c q,φ≠aE c q
def Own:HO->Prop
 | .lst _=>True
 | .dK _=>True
 | .dT _=>True
 | .ext φ=>qS φ
 | _=>False
theorem Own.noTbl {u:HO} (h:Own u):cJ u:=by cases u <;> first | exact h | trivial
theorem mK {u:HO} {c:Addr} {q:Str} (a:Own u) (e:u=.ext (aE c q)):False:=by subst e; exact a c q rfl
theorem TbG.pokO {u:HO} (g:TbG H) (n:cJ o) (h:H p=some u) (a:Own u):TbG (upd H p o):=g.poke n (λ_ z=>mK a (Z7 (h.symm.trans z))) λ_ z=>mJ (Z7 (h.symm.trans z)) a.noTbl
theorem sm_chg {u u':HO} (e:Sm H H1) (h0:H p=none) (h:H1 p=some u) (a:Own u) (b:Own u'):Sm H (upd H1 p u'):=⟨λc o n q=>d7 (af q h0) (e.kp c o n q),λc ps q=>(e.tb c ps q).imp λ_ z=>d7 (af q h0) z,λg=>(e.tg g).pokO b.noTbl h a⟩
theorem sm_del {u:HO} (e:Sm H H1) (h0:H p=none) (h:H1 p=some u) (a:Own u):Sm H (λb=>if b=p then Option.none else H1 b):=by
 have k:∀ {c:Addr} {o:HO},H1 c=some o->c≠p->(if c=p then Option.none else H1 c)=some o:=λq n=>(if_neg n).trans q
 have ne:∀ {c:Addr} {o:HO},H1 c=some o->(u=o->False)->c≠p:=λq n z=>n (Z7 (h.symm.trans (z ▸ q)))
 exact ⟨λc o n q=>k (e.kp c o n q) (af q h0),λc ps q=>(e.tb c ps q).imp λ_ z=>k z (af q h0),λg=>(e.tg g).mv (λ_ _ q=>k q (ne q λz=>mJ z a.noTbl)) (λ_ _ q=>k q (ne q λz=>mK a z)) λP _ q=>(Decidable.em (P=p)).elim (λz=>nomatch (if_pos z).symm.trans q) λn=>(if_neg n).symm.trans q⟩
end
def NT (F:Hp):Prop:=∀ b ps,F b≠some (.tbl ps)
theorem jO {F:Hp} {p:Addr} {o:HO} (h:NT F) (n:cJ o):NT (upd F p o):=λb ps q=>by
 by_cases e:b=p
 ·subst e; rw [ah] at q; cases q; exact n
 ·rw [ai e] at q; exact h b ps q
structure Rp (α:Type) where
 rel:Hp->V->α->Prop
 mono:∀ {H H':Hp} {v:V} {a:α},Same H H'->rel H v a->rel H' v a
theorem Paired.imp2 {α β:Type} {F G:α->β->Prop} (h:∀ a b,F a b->G a b):∀ {l:List α} {m:List β},Paired F l m->Paired G l m:=λp=>Paired.mapP p h
theorem Paired.setB {α β:Type} {F:α->β->Prop} {x:α} {y:β} (h:F x y):∀ {l:List α} {m:List β} (i:Nat),Paired F l m->Paired F (l.set i x) (m.set i y)
 | _,_,_,.nil=>.nil
 | _,_,0,.cons _ t=>.cons h t
 | _,_,i+1,.cons r t=>.cons r (Paired.setB h i t)
theorem Paired.app {α β:Type} {F:α->β->Prop}:∀ {l l':List α} {m m':List β},Paired F l m->Paired F l' m'->Paired F (l++l') (m++m'):=λp s=>by
 induction p with
 | nil=>exact s
 | cons r _ ih=>exact .cons r ih
theorem Paired.takeB {α β:Type} {F:α->β->Prop}:∀ {l:List α} {m:List β} (n:Nat),Paired F l m->Paired F (l.take n) (m.take n)
 | _,_,0,_=>.nil
 | _,_,_+1,.nil=>.nil
 | _,_,n+1,.cons r t=>.cons r (Paired.takeB n t)
theorem Paired.dropB {α β:Type} {F:α->β->Prop}:∀ {l:List α} {m:List β} (n:Nat),Paired F l m->Paired F (l.drop n) (m.drop n)
 | _,_,0,r=>r
 | _,_,_+1,.nil=>.nil
 | _,_,n+1,.cons _ t=>Paired.dropB n t
noncomputable def rInt:Rp Int:=⟨λ_ v a=>v=.int a,λ_ h=>h⟩
noncomputable def c6:Rp Bool:=⟨λ_ v a=>v=.bl a,λ_ h=>h⟩
noncomputable def rStr:Rp Str:=⟨λ_ v a=>v=.str a,λ_ h=>h⟩
noncomputable def rOp {α:Type} (r:Rp α):Rp (Option α):=⟨λH v a=>match a with | none=>v=.non | some x=>r.rel H v x,λ{_ _ _ a} e h=>by
 cases a with
 | none=>exact h
 | some x=>exact r.mono e h⟩
theorem Same.rd {H H':Hp} {a:Addr} {u:HO} (e:Same H H') (h:Rd H a u):Rd H' a u:=by
 rcases h with h | ⟨o,h⟩
 ·exact .inl (e _ _ h)
 ·exact .inr ⟨o,e _ _ h⟩
noncomputable def rL {α:Type} (r:Rp α):Rp (List α):=⟨λH v xs=>∃ p vs,v=.ref p/\Rd H p (.lst vs)/\Paired (r.rel H) vs xs,λe zq=>oq23 zq λp vs h1 h2 h3=>(oi23 p vs h1 (e.rd h2) (Paired.imp2 (λ_ _ q=>r.mono e q) h3))⟩
noncomputable def rT2 {α β:Type} (r:Rp α) (s:Rp β):Rp (α × β):=⟨λH v x=>∃ p a b,v=.ref p/\H p=some (.tup [a,b])/\r.rel H a x.1/\s.rel H b x.2,
 λe zq=>oq34 zq λp a b h1 h2 h3 h4=>(oi34 p a b h1 (e _ _ h2) (r.mono e h3) (s.mono e h4))⟩
abbrev dRel {α:Type} (r:Rp α) (H:Hp):Key × V->Int × α->Prop:=λw k=>w.1=.inl k.1/\r.rel H w.2 k.2
noncomputable def rD {α:Type} (r:Rp α):Rp (List (Int × α)):=⟨λH v kvs=>∃ p ws,v=.ref p/\H p=some (.dK ws)/\Paired (dRel r H) ws kvs,
 λe zq=>oq23 zq λp ws h1 h2 h3=>(oi23 p ws h1 (e _ _ h2) (Paired.imp2 (λ_ _ q=>⟨q.1,r.mono e q.2⟩) h3))⟩
noncomputable def del (F:Hp) (p:Addr):Hp:=λb=>if b=p then none else F b
theorem c7 {F:Hp} {p b:Addr} (h:b≠p):del F p b=F b:=by unfold del; rw [if_neg h]
theorem dY {F:Hp} {p:Addr}:del F p p=none:=by unfold del; rw [if_pos rfl]
theorem cW {F:Hp} {p b:Addr} {o:HO} (h:del F p b=some o):b≠p/\F b=some o:=by
 unfold del at h
 split at h
 ·cases h
 ·rename_i q; exact ⟨q,h⟩
def Chg:HO->Prop
 | .lst _=>True
 | .dK _=>True
 | .dT _=>True
 | .ins _ _ _=>True
 | _=>False
def Flat {α:Type} (r:Rp α):Prop:=∀ {F:Hp} {p:Addr} {o:HO} {v:V} {a:α},F p=some o->Chg o->r.rel F v a->r.rel (del F p) v a
theorem jP:Flat rInt:=λ_ _ h=>h
theorem flat_bool:Flat c6:=λ_ _ h=>h
theorem flat_str:Flat rStr:=λ_ _ h=>h
noncomputable def rScr (K:Z3):Rp (List Int):=⟨λH v xs=>∃ p vs,v=.ref p/\SqL K H p vs/\Paired (rInt.rel H) vs xs,λe zq=>oq23 zq λp vs h1 h2 h3=>(oi23 p vs h1 (e.seq h2) (Paired.imp2 (λ_ _ q=>rInt.mono e q) h3))⟩
structure Sq (K:Z3) {α:Type} (rl:Rp (List α)) (r:Rp α):Prop where
 get:∀ {H v xs},rl.rel H v xs->∃ p vs,v=.ref p/\SqL K H p vs/\Paired (r.rel H) vs xs
theorem sq_l {K:Z3} {α:Type} {r:Rp α}:Sq K (rL r) r:=⟨λzq=>oq23 zq λp vs h1 h2 h3=>(oi23 p vs h1 (.inl h2) h3)⟩
theorem sq_s {K:Z3}:Sq K (rScr K) rInt:=⟨λh=>h⟩
inductive Slot:Type 1 where
 | any
 | fr {α:Type} (r:Rp α) (a:α)
 | ol {α:Type} (r:Rp α) (φ:Addr->Prop) (xs:List α)
 | od {α:Type} (r:Rp α) (φ:Addr->Prop) (kvs:List (Int × α))
 | oe (ψ:Addr->Heap->Prop)
abbrev tRel {α:Type} (r:Rp α) (H:Hp):List Key × V->(Int × Int) × α->Prop:=λw k=>w.1=[.inl k.1.1,.inl k.1.2]/\r.rel H w.2 k.2
structure NwL (H0 F:Hp) (us:List V) (rows:List (List Int)):Prop where
 pr:Paired (λv row=>∃ q vs,v=.ref q/\F q=some (.lst vs)/\Paired (rInt.rel F) vs row) us rows
 nd:us.Nodup
 nw:∀ q,V.ref q∈us->H0 q=none
theorem NwL.mono {H0 F F':Hp} {us:List V} {rows:List (List Int)} (e:Same F F') (h:NwL H0 F us rows):NwL H0 F' us rows :=
 ⟨Paired.imp2 (λ_ _ z=>oq23 z λq vs h1 h2 h3=>⟨q,vs,h1,e _ _ h2,Paired.imp2 (λ_ _ y=>y) h3⟩) h.pr,h.nd,h.nw⟩
noncomputable def Slot.own:Slot->Bool
 | .ol _ _ _=>true
 | .od _ _ _=>true
 | .oe _=>true
 | _=>false
def tt_:Addr->Prop:=λ_=>True
def SlOk (H0 F H:Hp):Slot->Option V->Prop
 | .any,_=>True
 | .fr r a,o=>∃ v,o=some v/\r.rel F v a
 | .ol r φ xs,o=>∃ p vs,o=some (.ref p)/\φ p/\H0 p=none/\F p=none/\H p=some (.lst vs)/\Paired (r.rel F) vs xs
 | .od r φ kvs,o=>∃ p ws,o=some (.ref p)/\φ p/\H0 p=none/\F p=none/\H p=some (.dK ws)/\Paired (dRel r F) ws kvs
 | .oe ψ,o=>∃ p,o=some (.ref p)/\H0 p=none/\F p=none/\H p=some (.ext (ψ p))/\qS (ψ p)
def UnT:Option HO->Prop
 | none=>True
 | some (.tup _)=>True
 | some _=>False
theorem un_no {o:Option HO} (h:o=none):UnT o:=h ▸ trivial
theorem un_own {o:Option HO} {u:HO} (z:UnT o) (e:o=some u) (h:Own u):False:=by subst e; cases u <;> first | exact z | exact h
theorem Sm.un [Kon] {H H':Hp} (e:Sm H H') {l:Addr} (h:UnT (H' l)):UnT (H l):=by
 cases q:H l with
 | none=>trivial
 | some o =>
  cases o with
  | tup _=>trivial
  | tbl ps=>refine oq11 (e.tb l ps q) λm z=>?_; rw [z] at h; exact h
  | _=>have z:=e.kp l _ (by trivial) q; rw [z] at h; exact h
structure Fc where
 H0:Hp
 F0:Hp
 L:Hp
structure Fr [Kon] (C:Fc) (F H:Hp):Prop where
 keep:Sm C.H0 H
 low:Same C.L F
 sub:Same F H
 base:∀ b o,F b=some o->C.F0 b=some o\/UnT (C.H0 b)
 nt:NT F
 tg:TbG H
structure SR [Kon] (C:Fc) (F:Hp) (Γ:List Slot) (σ:St) (H:Hp):Prop extends Fr C F H where
 len:σ.length=Γ.length
 at_:∀ (i:Nat) s,Γ[i]?=some s->∃ o,σ[i]?=some o/\SlOk C.H0 F H s o
 inj:∀ (i j:Nat) s t p,Γ[i]?=some s->Γ[j]?=some t->s.own=true->t.own=true->σ[i]?=some (some (.ref p))->σ[j]?=some (some (.ref p))->i=j
structure Ext [Kon] (F H F' H':Hp):Prop where
 hh:Sm H H'
 ff:Same F F'
 sub:Same F' H'
 nw:∀ b o,F' b=some o->F b=some o\/UnT (H b)
 nt:NT F->NT F'
section
variable [Kon]
theorem Ext.refl {F H:Hp} (h:Same F H):Ext F H F H:=⟨Sm.refl _,Same.refl _,h,λ_ _ q=>.inl q,λz=>z⟩
theorem Ext.trans {F H F1 H1 F2 H2:Hp} (a:Ext F H F1 H1) (b:Ext F1 H1 F2 H2):Ext F H F2 H2:=⟨a.hh.trans b.hh,a.ff.trans b.ff,b.sub,λc o h=>by
 rcases b.nw c o h with q | q
 ·exact a.nw c o q
 ·exact .inr (a.hh.un q),λz=>b.nt (a.nt z)⟩
theorem Ext.new {F H:Hp} {p:Addr} {o:HO} (h:Same F H) (hp:H p=none) (n:autoParam (cJ o) L2.a4q._auto_1):Ext F H (upd F p o) (upd H p o) :=
 ⟨qR hp n,aJ (h.free hp),λb u q=>by
  by_cases e:b=p
  ·subst e; rw [ah] at q ⊢; exact q
  ·rw [ai e] at q ⊢; exact h b u q,λb u q=>by
  by_cases e:b=p
  ·subst e; exact .inr (un_no hp)
  ·rw [ai e] at q; exact .inl q,λz=>jO z n⟩
theorem Ext.newH {F H:Hp} {p:Addr} {o:HO} (h:Same F H) (hp:H p=none) (n:autoParam (cJ o) L2.a4q._auto_1):Ext F H F (upd H p o):=⟨qR hp n,Same.refl _,h.trans (aJ hp),λ_ _ q=>.inl q,λz=>z⟩
theorem Fr.grow {C:Fc} {F H F' H':Hp} (f:Fr C F H) (e:Ext F H F' H'):Fr C F' H':=⟨f.keep.trans e.hh,f.low.trans e.ff,e.sub,λb o h=>by
 rcases e.nw b o h with q | q
 ·exact f.base b o q
 ·exact .inr (f.keep.un q),e.nt f.nt,e.hh.tg f.tg⟩
theorem none_of {α:Type _} {o:Option α} (h:∀ w,o=some w->False):o=none:=by
 cases o with
 | none=>rfl
 | some w=>exact (h w rfl).elim
theorem SlOk.mov {H0 F H F' H':Hp} {s:Slot} {o:Option V} (h:SlOk H0 F H s o) (lo:Same F F') (k:∀ p u,o=some (.ref p)->s.own=true->F p=none->H p=some u->Own u->F' p=none/\H' p=some u):SlOk H0 F' H' s o:=by
 cases s with
 | any=>trivial
 | fr r a=>exact oq12 h λv h1 h2=>oi12 v h1 (r.mono lo h2)
 | ol r φ xs=>exact oq26 h λp vs h1 h0 h2 h3 h4 h5=>oq02 (k p _ h1 rfl h3 h4 trivial) λa b=>oi26 p vs h1 h0 h2 a b (Paired.imp2 (λ_ _ q=>r.mono lo q) h5)
 | od r φ kvs=>exact oq26 h λp ws h1 h0 h2 h3 h4 h5=>oq02 (k p _ h1 rfl h3 h4 trivial) λa b=>oi26 p ws h1 h0 h2 a b (Paired.imp2 (λ_ _ q=>⟨q.1,r.mono lo q.2⟩) h5)
 | oe ψ=>exact oq15 h λp h1 h2 h3 h4 h5=>oq02 (k p _ h1 rfl h3 h4 h5) λa b=>oi15 p h1 h2 a b h5
theorem SlOk.grow {H0 F H F' H':Hp} {s:Slot} {o:Option V} (e:Ext F H F' H') (h:SlOk H0 F H s o):SlOk H0 F' H' s o:=h.mov e.ff λp _ _ _ h1 h2 hu=>⟨none_of λw q=>(e.nw p w q).elim (λz=>nomatch h1.symm.trans z) λz=>un_own z h2 hu,e.hh.kp _ _ hu.noTbl h2⟩
section
variable {C:Fc} {F H F' H':Hp} {Γ:List Slot} {σ:St}
theorem SR.grow (S:SR C F Γ σ H) (e:Ext F H F' H'):SR C F' Γ σ H':=⟨S.toFr.grow e,S.len,λi s h=>by
 refine oq12 (S.at_ i s h) λo h1 h2=>?_
 exact (oi12 o h1 (h2.grow e)),S.inj⟩
theorem SR.fr {α:Type} {r:Rp α} {a:α} {i:Nat} (S:SR C F Γ σ H) (h:Γ[i]?=some (.fr r a)):∃ v,σ[i]?=some (some v)/\r.rel F v a:=by
 refine oq12 (S.at_ i _ h) λo h1 zz=>oq12 zz λv eq3_ h2=>?_; subst eq3_
 exact (oi12 v h1 h2)
theorem mL {α:Type _} {l:List α} {i:Nat} {x:α} (h:i<l.length):(l.set i x)[i]?=some x:=C0 h
theorem cS {α:Type _} {l:List α} {i j:Nat} {x:α} (h:i≠j):(l.set i x)[j]?=l[j]?:=A8 h
theorem gP {α:Type _} {l:List α} {i j:Nat} {x y:α} (e:i=j) (hl:i<l.length) (h:(l.set i x)[j]?=some y):x=y:=by subst e; exact Z7 ((mL hl).symm.trans h)
theorem dP {α:Type _} {l:List α} {i j:Nat} {x y:α} {Q:Prop} (h:(l.set i x)[j]?=some y) (f:i=j->x=y->i<l.length->Q) (g:i≠j->l[j]?=some y->Q):Q:=(Decidable.em (i=j)).elim (λe=>have hl:i<l.length:=by rw [e,<- O1]; exact (Z4.mp h).1
 f e (gP e hl h) hl) λn=>g n ((cS n).symm.trans h)
theorem SR.pt {s:Slot} {v:Option V} (i:Nat) (S:SR C F Γ σ H) (fr:Fr C F' H') (k:∀ (j:Nat) t,i≠j->Γ[j]?=some t->∃ o,σ[j]?=some o/\SlOk C.H0 F' H' t o) (h:SlOk C.H0 F' H' s v) (np:s.own=true->∀ p,v=some (.ref p)->∀ (j:Nat) t,i≠j->Γ[j]?=some t->t.own=true->σ[j]?=some (some (.ref p))->False):SR C F' (Γ.set i s) (σ.set i v) H':=by
 have lt:i<Γ.length->i<σ.length:=λl=>Nat.lt_of_lt_of_eq l S.len.symm
 exact ⟨fr,by rw [O1,O1]; exact S.len,λj t q=>dP q (λe1 e2 l=>oi12 v (e1 ▸ mL (lt l)) (e2 ▸ h)) λn q=>oq12 (k j t n q) λo h1 h2=>oi12 o ((cS n).trans h1) h2,
  λj m a t p q1 q2 o1 o2 e1 e2=>dP q1 (λa1 a2 l=>dP q2 (λb1 _ _=>a1.symm.trans b1) λn q2=>(np (a2 ▸ o1) p (gP a1 (lt l) e1) m t n q2 o2 ((cS n).symm.trans e2)).elim) λn1 q1=>dP q2 (λb1 b2 l=>(np (b2 ▸ o2) p (gP b1 (lt l) e2) j a n1 q1 o1 ((cS n1).symm.trans e1)).elim) λn2 q2=>S.inj j m a t p q1 q2 o1 o2 ((cS n1).symm.trans e1) ((cS n2).symm.trans e2)⟩
theorem set_idx {α:Type _} {l:List α} {i:Nat} {a:α} (h:l[i]?=some a):l.set i a=l:=by
 apply G9
 intro j
 by_cases e:i=j
 ·subst e; rw [mL (Z4.mp h).1,h]
 ·rw [cS e]
theorem SR.pk {s s':Slot} {o:Option V} {i:Nat} (S:SR C F Γ σ H) (hi:Γ[i]?=some s) (ho:s'.own=true->s.own=true) (e1:σ[i]?=some o) (fr:Fr C F' H') (k:∀ (j:Nat) t,i≠j->Γ[j]?=some t->∃ o,σ[j]?=some o/\SlOk C.H0 F' H' t o) (h:SlOk C.H0 F' H' s' o):SR C F' (Γ.set i s') σ H' :=
 set_idx e1 ▸ S.pt i fr k h λy p z j t n q o2 e2=>n (S.inj i j s t p hi q (ho y) o2 (z ▸ e1) e2)
theorem SR.mvAt {j:Nat} {t:Slot} (S:SR C F Γ σ H) (q:Γ[j]?=some t) (lo:Same F F') (k:∀ p u,t.own=true->σ[j]?=some (some (.ref p))->F p=none->H p=some u->Own u->F' p=none/\H' p=some u):∃ o,σ[j]?=some o/\SlOk C.H0 F' H' t o:=oq12 (S.at_ j t q) λo h1 h2=>oi12 o h1 (h2.mov lo λp u e ow f h ou=>k p u ow (e ▸ h1) f h ou)
theorem SR.oth {p p':Addr} {i j:Nat} {s t:Slot} (S:SR C F Γ σ H) (hi:Γ[i]?=some s) (ho:s.own=true) (hp:σ[i]?=some (some (.ref p))) (n:i≠j) (q:Γ[j]?=some t) (o:t.own=true) (e:σ[j]?=some (some (.ref p'))):p'≠p:=λz=>n (S.inj i j s t p hi q ho o hp (z ▸ e))
theorem SR.setF {α:Type} {r:Rp α} {a:α} {v:V} (i:Nat) (S:SR C F Γ σ H) (h:r.rel F v a):SR C F (Γ.set i (.fr r a)) (σ.set i (some v)) H:=S.pt i S.toFr (λj t _ q=>S.at_ j t q) ⟨v,rfl,h⟩ λz=>nomatch z
theorem qT {H0 F H:Hp} {p:Addr} {s:Slot} (hs:s.own=true) (h:SlOk H0 F H s (some (.ref p))):∃ u,H p=some u/\Own u:=by
 cases s with
 | any=>cases hs
 | fr r a=>cases hs
 | ol r φ xs=>refine oq26 h λp' vs h1 _ _ _ h4 _=>?_; cases h1; exact (oi12 _ h4 trivial)
 | od r φ kvs=>refine oq26 h λp' vs h1 _ _ _ h4 _=>?_; cases h1; exact (oi12 _ h4 trivial)
 | oe ψ=>refine oq15 h λp' h1 _ _ h4 h5=>?_; cases h1; exact (oi12 _ h4 h5)
theorem SR.np {p:Addr} {j:Nat} {t:Slot} (S:SR C F Γ σ H) (hp:H p=none) (q:Γ[j]?=some t) (o:t.own=true) (e:σ[j]?=some (some (.ref p))):False:=oq12 (S.at_ j t q) λo' h1 h2=>oq12 (qT o (Z7 (h1.symm.trans e) ▸ h2)) λ_ z _=>nomatch hp.symm.trans z
theorem own_upd {H0:Hp} {p:Addr} {u:HO} {s:Slot} (hs:s.own=true) (h:SlOk H0 F (upd H p u) s (some (.ref p))):Own u:=oq12 (qT hs h) λ_ e1 e2=>Z7 (ah.symm.trans e1) ▸ e2
theorem SR.setO {p:Addr} {u:HO} {s:Slot} (i:Nat) (S:SR C F Γ σ H) (hp:H p=none) (hs:s.own=true) (h:SlOk C.H0 F (upd H p u) s (some (.ref p))):SR C F (Γ.set i s) (σ.set i (some (.ref p))) (upd H p u):=by
 have e:Ext F H F (upd H p u):=Ext.newH S.sub hp (own_upd hs h).noTbl
 exact S.pt i (S.toFr.grow e) (λj t _ q=>(S.grow e).at_ j t q) h λ_ p' z j t _ q o e=>S.np hp q o (e.trans (congrArg some z.symm))
theorem SR.chg {p:Addr} {u:HO} {s s':Slot} {i:Nat} (S:SR C F Γ σ H) (hi:Γ[i]?=some s) (ho:s.own=true) (hp:σ[i]?=some (some (.ref p))) (h0:C.H0 p=none) (hF:F p=none) (hs:s'.own=true) (h:SlOk C.H0 F (upd H p u) s' (some (.ref p))) :
  SR C F (Γ.set i s') σ (upd H p u):=by
 refine oq12 (S.at_ i s hi) λo z1 z2=>oq12 (qT ho (Z7 (z1.symm.trans hp) ▸ z2)) λu0 hu0 ou0=>?_
 have ou:=own_upd hs h
 exact S.pk hi (λ_=>ho) hp ⟨sm_chg S.keep h0 hu0 ou0 ou,S.low,λb o q=>d7 (af q hF) (S.sub b o q),S.base,S.nt,S.tg.pokO ou.noTbl hu0 ou0⟩ (λj t n q=>S.mvAt q (Same.refl _) λp' _ o e f hu _=>⟨f,d7 (S.oth hi ho hp n q o e) hu⟩) h
end
inductive SubS:Slot->Slot->Prop where
 | any {s:Slot}:SubS s .any
 | rfl {s:Slot}:SubS s s
 | frz {α:Type} {r:Rp α} {φ:Addr->Prop} {xs:List α}:SubS (.ol r φ xs) (.fr (rL r) xs)
 | frd {α:Type} {r:Rp α} {φ:Addr->Prop} {kvs:List (Int × α)}:SubS (.od r φ kvs) (.fr (rD r) kvs)
 | ttD {α:Type} {r:Rp α} {φ:Addr->Prop} {kvs:List (Int × α)}:SubS (.od r φ kvs) (.od r tt_ kvs)
 | tt {α:Type} {r:Rp α} {φ:Addr->Prop} {xs:List α}:SubS (.ol r φ xs) (.ol r tt_ xs)
inductive SubL:List Slot->List Slot->Prop where
 | nil:SubL [] []
 | cons {s s':Slot} {Γ Γ':List Slot}:SubS s s'->SubL Γ Γ'->SubL (s :: Γ) (s' :: Γ')
theorem sbR {s:Slot} {Γ Γ':List Slot} (h:SubL Γ Γ'):SubL (s :: Γ) (s :: Γ'):=.cons .rfl h
theorem sbA {s:Slot} {Γ Γ':List Slot} (h:SubL Γ Γ'):SubL (s :: Γ) (.any :: Γ'):=.cons .any h
theorem SR.freeze {C:Fc} {F H:Hp} {Γ:List Slot} {σ:St} {i:Nat} {s:Slot} (S:SR C F Γ σ H) (hi:Γ[i]?=some s) (p:Addr) (u:HO) (s':Slot) (hs':s'.own=false) (hs:s.own=true) (e1:σ[i]?=some (some (.ref p))) (e2:C.H0 p=none) (e3:F p=none) (e4:H p=some u)
  (e5:SlOk C.H0 (upd F p u) H s' (some (.ref p))) (ou:Own u):SR C (upd F p u) (Γ.set i s') σ H :=
 S.pk hi (λ_=>hs) e1 ⟨S.keep,S.low.trans (aJ e3),λb o q=>jN q (λa b=>a ▸ b ▸ e4) λ_ q=>S.sub b o q,λb o q=>jN q (λe _=>.inr (un_no (e ▸ e2))) λ_ q=>S.base b o q,jO S.nt ou.noTbl,S.tg⟩ (λj t n q=>S.mvAt q (aJ e3) λp' _ o e f hu _=>⟨(ai (S.oth hi hs e1 n q o e)).trans f,hu⟩) e5
theorem SR.weak1 {C:Fc} {F H:Hp} {Γ:List Slot} {σ:St} {i:Nat} {s s':Slot} (S:SR C F Γ σ H) (hi:Γ[i]?=some s) (h:SubS s s'):∃ F',Same F F'/\SR C F' (Γ.set i s') σ H:=by
 have stay:∀ s',(∀ o,SlOk C.H0 F H s o->SlOk C.H0 F H s' o)->(s'.own=true->s.own=true)->∃ F',Same F F'/\SR C F' (Γ.set i s') σ H:=λs' h1 h2=>oq12 (S.at_ i s hi) λo z1 z2=>oi12 F (Same.refl _) (S.pk hi h2 z1 S.toFr (λj t _ q=>S.at_ j t q) (h1 o z2))
 cases h with
 | any=>exact stay _ (λ_ _=>trivial) (λz=>by cases z)
 | rfl=>exact stay _ (λ_ z=>z) (λz=>z)
 | tt=>exact stay _ (λ_ zq=>oq23 zq λp vs a _ b=>⟨p,vs,a,trivial,b⟩) (λz=>z)
 | ttD=>exact stay _ (λ_ zq=>oq23 zq λp vs a _ b=>⟨p,vs,a,trivial,b⟩) (λz=>z)
 | frz =>
  refine oq12 (S.at_ i _ hi) λo h1 zz=>oq26 zz λp vs eq4_ h2 h3 h4 h5 h6=>?_; subst eq4_
  exact (oi12 _ (aJ h4) (S.freeze hi p _ _ rfl rfl h1 h3 h4 h5 ⟨_,rfl,p,vs,rfl,Rd.of ah,Paired.imp2 (λ_ _ z=>Rp.mono _ (aJ h4) z) h6⟩ trivial))
 | frd =>
  refine oq12 (S.at_ i _ hi) λo h1 zz=>oq26 zz λp vs eq4_ h2 h3 h4 h5 h6=>?_; subst eq4_
  exact (oi12 _ (aJ h4) (S.freeze hi p _ _ rfl rfl h1 h3 h4 h5 ⟨_,rfl,p,vs,rfl,ah,Paired.imp2 (λ_ _ z=>⟨z.1,Rp.mono _ (aJ h4) z.2⟩) h6⟩ trivial))
theorem SR.weakL {C:Fc} {H:Hp} {σ:St} {Γ Γ':List Slot} (h:SubL Γ Γ'):∀ (Δ:List Slot) {F:Hp},SR C F (Δ++Γ) σ H->∃ F',Same F F'/\SR C F' (Δ++Γ') σ H:=by
 induction h with
 | nil=>exact λΔ F S=>(oi12 F (Same.refl _) S)
 | @cons s s' Γ Γ' h1 _ ih =>
  intro Δ F S
  refine oq12 (S.weak1 (i:=Δ.length) (s:=s) (s':=s') (by simp) h1) λF1 e1 S1=>?_
  have e:(Δ++s :: Γ).set Δ.length s'=(Δ++[s'])++Γ:=by simp
  rw [e] at S1
  refine oq12 (ih (Δ++[s']) S1) λF2 e2 S2=>?_
  exact (oi12 F2 (e1.trans e2) (by simpa using S2))
theorem SR.weak {C:Fc} {F H:Hp} {σ:St} {Γ Γ':List Slot} (S:SR C F Γ σ H) (h:SubL Γ Γ'):∃ F',Same F F'/\SR C F' Γ' σ H:=SR.weakL h [] S
theorem SR.lower {C:Fc} {F H:Hp} {σ:St} {Γ:List Slot} (S:SR C F Γ σ H):SR { C with L:=F } F Γ σ H:=⟨⟨S.keep,Same.refl _,S.sub,S.base,S.nt,S.tg⟩,S.len,S.at_,S.inj⟩
theorem SR.raise {C:Fc} {F F1 H:Hp} {σ:St} {Γ:List Slot} (S:SR { C with L:=F } F1 Γ σ H) (h:Same C.L F):SR C F1 Γ σ H:=⟨⟨S.keep,h.trans S.low,S.sub,S.base,S.nt,S.tg⟩,S.len,S.at_,S.inj⟩
theorem Fr.raise {C:Fc} {F F1 H:Hp} (S:Fr { C with L:=F } F1 H) (h:Same C.L F):Fr C F1 H:=⟨S.keep,h.trans S.low,S.sub,S.base,S.nt,S.tg⟩
end
end L2
namespace Pu
theorem bs {α β:Type} {a:α} {f:α->Option β}:(some a).bind f=f a:=Eq.trans (nza a f) (Eq.refl _)
noncomputable def fdiv (i j:Int):Option Int:=if 0<j/\j<2 ^ 64 then some (i / j) else none
noncomputable def fmod (i j:Int):Option Int:=if 0<j then some (i % j) else none
noncomputable def mul (i j:Int):Option Int:=if (-(2 ^ 64)<i/\i<2 ^ 64)\/(-(2 ^ 64)<j/\j<2 ^ 64) then some (i * j) else none
noncomputable def pow (i j:Int):Option Int:=if 0<=j/\j<=1000000/\i.natAbs<2 ^ 64 then some (i ^ j.toNat) else none
noncomputable def mn (i j:Int):Int:=if j<i then j else i
noncomputable def mx (i j:Int):Int:=if j > i then j else i
noncomputable def ab (i:Int):Int:=if i<0 then -i else i
noncomputable abbrev at_ {α:Type} (xs:List α) (i:Int):Option α:=L2.atI xs i
noncomputable def ln {α:Type} (xs:List α):Int:=xs.length
noncomputable def cut {α:Type} (xs:List α) (lo hi:Option Int):List α:=(xs.drop (HT.sIx xs.length 0 lo)).take (HT.sIx xs.length xs.length hi - HT.sIx xs.length 0 lo)
noncomputable def app {α:Type} (xs:List α) (a:α):Option (List α):=if xs.length<16777216 then some (xs++[a]) else none
noncomputable def cat {α:Type} (xs ys:List α):Option (List α):=if xs.length+ys.length<=16777216 then some (xs++ys) else none
noncomputable def nats (n:Nat):List Int:=(X3 n).map λ(i:Nat)=>(i:Int)
noncomputable def rng1 (j:Int):Option (List Int):=if -(2 ^ 62)<=j/\j<2 ^ 62 then some (nats j.toNat) else none
noncomputable def rng2 (i j:Int):Option (List Int):=if -(2 ^ 62)<=i/\i<2 ^ 62/\-(2 ^ 62)<=j/\j<2 ^ 62 then some ((X3 (j - i).toNat).map λ(k:Nat)=>i+(k:Int)) else none
noncomputable def rng3 (i j c:Int):Option (List Int):=if -(2 ^ 61)<=i/\i<2 ^ 61/\-(2 ^ 61)<=j/\j<2 ^ 61/\0<c/\c<1073741824 then some ((X3 (Fl.jD i j c)).map λ(k:Nat)=>i+(k:Int) * c) else none
noncomputable def enum {α:Type} (xs:List α):List (Int × α):=(xs.zipIdx).map λp=>((p.2:Int),p.1)
noncomputable def find {α:Type} (kvs:List (Int × α)) (k:Int):Option α:=(kvs.find? λkv=>decide (kv.1=k)).map (·.2)
noncomputable def put {α:Type} (kvs:List (Int × α)) (k:Int) (v:α):List (Int × α) :=
 if (kvs.any λkv=>decide (kv.1=k))=true then kvs.map (λkv=>if kv.1=k then (kv.1,v) else kv) else kvs++[(k,v)]
noncomputable def lJ {β α:Type} (f:β->Option α):List β->Option (List α)
 | []=>some []
 | x :: xs=>(f x).bind λa=>(lJ f xs).bind λas=>some (a :: as)
noncomputable def bv {β α:Type} (t:β->Option Bool) (f:β->Option α):List β->Option (List α)
 | []=>some []
 | x :: xs=>(t x).bind λb=>if b=true then (f x).bind λa=>(bv t f xs).bind λas=>some (a :: as) else bv t f xs
noncomputable def comp {β α:Type} (f:β->Option α) (xs:List β):Option (List α):=if xs.length<=16777216 then lJ f xs else none
noncomputable def dh {β α:Type} (t:β->Option Bool) (f:β->Option α) (xs:List β):Option (List α):=if xs.length<=16777216 then bv t f xs else none
inductive Ctl (S R:Type) where
 | nx (s:S) | bk (s:S) | rt (r:R)
noncomputable def forS {S β:Type} (f:S->β->Option S):List β->S->Option S
 | [],s=>some s
 | x :: xs,s=>(f s x).bind λs=>forS f xs s
noncomputable def forC {S R β:Type} (f:S->β->Option (Ctl S R)):List β->S->Option (Ctl S R)
 | [],s=>some (.nx s)
 | x :: xs,s=>(f s x).bind λc=>match c with
  | .nx s=>forC f xs s
  | .bk s=>some (.nx s)
  | .rt r=>some (.rt r)
noncomputable def whS {S:Type} (t:S->Option Bool) (f:S->Option S):Nat->S->Option S
 | 0,_=>none
 | n+1,s=>(t s).bind λb=>if b=true then (f s).bind λs=>whS t f n s else some s
theorem forS_cons {S β:Type} {f:S->β->Option S} {x:β} {xs:List β} {s:S}:forS f (x :: xs) s=(f s x).bind λs=>forS f xs s:=rfl
theorem forC_cons {S R β:Type} {f:S->β->Option (Ctl S R)} {x:β} {xs:List β} {s:S}:forC f (x :: xs) s=(f s x).bind λc=>match c with
  | .nx s=>forC f xs s
  | .bk s=>some (.nx s)
  | .rt r=>some (.rt r):=rfl
theorem oG {S:Type} {t:S->Option Bool} {f:S->Option S} {n:Nat} {s:S}:whS t f (n+1) s=(t s).bind λb=>if b=true then (f s).bind λs=>whS t f n s else some s:=rfl
theorem qU {β α:Type} {f:β->Option α} {x:β} {xs:List β}:lJ f (x :: xs)=(f x).bind λa=>(lJ f xs).bind λas=>some (a :: as):=rfl
noncomputable def andThen {S R T:Type} (o:Option (Ctl S R)) (k:S->Option T) (e:R->T):Option T:=o.bind λc=>match c with
 | .nx s=>k s
 | .bk s=>k s
 | .rt r=>some (e r)
end Pu
namespace L2
section
open PySem PySem.Spec PyProof.Rows
theorem a8 {α β:Type} {o:Option α} {f:α->Option β} {b:β} (h:o.bind f=some b):∃ a,o=some a/\f a=some b:=by
 cases o with
 | none=>cases h
 | some a=>exact (oi12 a rfl h)
variable [Kon]
section
variable (Γ:List Slot) {α:Type}
def EV (t:TE) (o:Option α) (r:Rp α):Prop:=∀ C F σ H Q a,SR C F Γ σ H->o=some a->(∀ v F' H',Ext F H F' H'->r.rel F' v a->Q v H')->t σ H Q
def EVL (t:TE) (o:Option (List α)) (r:Rp α):Prop:=∀ C F σ H Q xs,SR C F Γ σ H->o=some xs->(∀ p vs F' H1,Ext F H F' H1->H1 p=none->Paired (r.rel F') vs xs->Q (.ref p) (upd H1 p (.lst vs)))->t σ H Q
def ET (t:TT) (o:Option Bool):Prop:=∀ C F σ H Q b,SR C F Γ σ H->o=some b->(∀ F' H',Ext F H F' H'->Q b H')->t σ H Q
structure Walks (J:It) (F:Hp) {β:Type} (r:Rp β) (xs:List β):Prop where
 go:∀ i H,Same F H->i<xs.length->J.go i H
 stop:∀ H,Same F H->J.stop xs.length H
 yld:∀ i H x H' F1,Same F H->i<xs.length->J.yld i H x H'->Same F F1->Same F1 H->∃ F2 a,xs[i]?=some a/\Ext F1 H F2 H'/\r.rel F2 x a
def IV (t:TI) (o:Option (List α)) (r:Rp α):Prop:=∀ C F σ H R xs,SR C F Γ σ H->o=some xs->(∀ J F' H',Ext F H F' H'->Walks J F' r xs->R J H')->t σ H R
def EO (t:TO) (o:Option (Option Int)):Prop:=∀ C F σ H Q a,SR C F Γ σ H->o=some a->(∀ F' H',Ext F H F' H'->Q a H')->t σ H Q
end
section
variable {Γ:List Slot} {α β γ:Type} {r:Rp α} {s:Rp β} {ta tb tc:TE} {oa:Option α} {ob:Option β} {K:Z3}
theorem a6 {a:α} (i:Nat) (h:Γ[i]?=some (.fr r a)):EV Γ (tVar i) (some a) r:=by
 intro C F σ H Q a' S e k
 cases e
 refine oq12 (S.fr h) λv h1 h2=>?_
 exact ⟨v,h1,k v F H (Ext.refl S.sub) h2⟩
theorem ev_c {v:V} {a:α} (h:∀ F,r.rel F v a):EV Γ (tC v) (some a) r:=by
 intro C F σ H Q a' S e k
 cases e
 exact k v F H (Ext.refl S.sub) (h F)
theorem aj {n:Int}:EV Γ (tC (.int n)) (some n) rInt:=ev_c λ_=>rfl
theorem ev_bl {b:Bool}:EV Γ (tC (.bl b)) (some b) c6:=ev_c λ_=>rfl
theorem dQ {x:Str}:EV Γ (tC (.str x)) (some x) rStr:=ev_c λ_=>rfl
theorem ev_none:EV Γ (tC .non) (some none) (rOp r):=ev_c λ_=>rfl
theorem EV.cast {t:TE} {o o':Option α} (h:EV Γ t o r) (e:o'=o):EV Γ t o' r:=e ▸ h
theorem mM {t:TE} (h:EV Γ t oa r):EV Γ t (oa.bind λa=>some (some a)) (rOp r):=by
 intro C F σ H Q a' S e k
 refine oq12 (a8 e) λa e1 e2=>?_
 cases e2
 exact h C F σ H Q a S e1 k
theorem qV {t:TE} {o:Option (Option α)} (h:EV Γ t o (rOp r)):EV Γ t (o.bind λa=>a) r:=by
 intro C F σ H Q a' S e k
 refine oq12 (a8 e) λa e1 e2=>?_
 subst e2
 exact h C F σ H Q _ S e1 k
theorem EV.two {C:Fc} {F H:Hp} {σ:St} {a:α} {b:β} {q:V->V->Hp->Prop} (ha:EV Γ ta oa r) (hb:EV Γ tb ob s) (S:SR C F Γ σ H) (e1:oa=some a) (e2:ob=some b)
  (k:∀ x y F' H',Ext F H F' H'->r.rel F' x a->s.rel F' y b->q x y H'):ta σ H λx H1=>tb σ H1 λy H2=>q x y H2 :=
 ha C F σ H _ a S e1 λx F1 H1 x1 r1=>hb C F1 σ H1 _ b (S.grow x1) e2 λy F2 H2 x2 r2=>k x y F2 H2 (x1.trans x2) (r.mono x2.ff r1) r2
theorem j3 {R:R2} {f:α->β->Option γ} {t:Rp γ} (hR:∀ F H x y a b c Q,Same F H->r.rel F x a->s.rel F y b->f a b=some c->(∀ v,t.rel F v c->Q v H)->R x y H Q) (ha:EV Γ ta oa r) (hb:EV Γ tb ob s) :
  EV Γ (tOp R ta tb) (oa.bind λa=>ob.bind λb=>f a b) t:=by
 intro C F σ H Q c S e k
 refine oq12 (a8 e) λa e1 e=>?_
 refine oq12 (a8 e) λb e2 e3=>?_
 exact EV.two ha hb S e1 e2 λx y F' H' x1 r1 r2=>hR F' H' x y a b c _ x1.sub r1 r2 e3 λv rv=>k v F' H' x1 rv
theorem ev_i0 {g:Int->Int->V} {f:Int->Int->γ} {t:Rp γ} {ox oy:Option Int} (hg:∀ H i j,t.rel H (g i j) (f i j)) (ha:EV Γ ta ox rInt) (hb:EV Γ tb oy rInt):EV Γ (tOp (rI0 g) ta tb) (ox.bind λa=>oy.bind λb=>some (f a b)) t :=
 j3 (λF H x y a b c Q _ r1 r2 e k=>by cases e; exact ⟨a,b,r1,r2,k _ (hg F a b)⟩) ha hb
theorem ev_i {Cn:Int->Int->Prop} {g:Int->Int->V} {f:Int->Int->Option γ} {t:Rp γ} {ox oy:Option Int} (hg:∀ H i j c,f i j=some c->Cn i j/\t.rel H (g i j) c) (ha:EV Γ ta ox rInt) (hb:EV Γ tb oy rInt) :
  EV Γ (tOp (rI Cn g) ta tb) (ox.bind λa=>oy.bind λb=>f a b) t :=
 j3 (λF H x y a b c Q _ r1 r2 e k=>by refine oq02 (hg F a b c e) λh1 h2=>?_; exact ⟨a,b,r1,r2,h1,k _ h2⟩) ha hb
section
variable {ox oy:Option Int}
theorem bi (ha:EV Γ ta ox rInt) (hb:EV Γ tb oy rInt):EV Γ (tOp (rI0 λi j=>.int (i+j)) ta tb) (ox.bind λa=>oy.bind λb=>some (a+b)) rInt:=ev_i0 (λ_ _ _=>rfl) ha hb
theorem di (ha:EV Γ ta ox rInt) (hb:EV Γ tb oy rInt):EV Γ (tOp (rI0 λi j=>.int (i - j)) ta tb) (ox.bind λa=>oy.bind λb=>some (a - b)) rInt:=ev_i0 (λ_ _ _=>rfl) ha hb
theorem ev_lt (ha:EV Γ ta ox rInt) (hb:EV Γ tb oy rInt):EV Γ (tOp (rI0 λi j=>.bl (decide (i<j))) ta tb) (ox.bind λa=>oy.bind λb=>some (decide (a<b))) c6:=ev_i0 (λ_ _ _=>rfl) ha hb
theorem ev_le (ha:EV Γ ta ox rInt) (hb:EV Γ tb oy rInt):EV Γ (tOp (rI0 λi j=>.bl (decide (i<=j))) ta tb) (ox.bind λa=>oy.bind λb=>some (decide (a<=b))) c6:=ev_i0 (λ_ _ _=>rfl) ha hb
theorem dR (ha:EV Γ ta ox rInt) (hb:EV Γ tb oy rInt):EV Γ (tOp (rI CMul λi j=>.int (i * j)) ta tb) (ox.bind λa=>oy.bind λb=>Pu.mul a b) rInt:=ev_i (λ_ i j c e=>by
 unfold Pu.mul at e
 split at e
 ·rename_i h; cases e; exact ⟨h,rfl⟩
 ·cases e) ha hb
theorem fx (ha:EV Γ ta ox rInt) (hb:EV Γ tb oy rInt):EV Γ (tOp (rI (λ_ j=>0<j) λi j=>.int (i % j)) ta tb) (ox.bind λa=>oy.bind λb=>Pu.fmod a b) rInt:=ev_i (λ_ i j c e=>by
 unfold Pu.fmod at e
 split at e
 ·rename_i h; cases e; exact ⟨h,rfl⟩
 ·cases e) ha hb
theorem gQ (ha:EV Γ ta ox rInt) (hb:EV Γ tb oy rInt):EV Γ (tOp (rI (λ_ j=>0<j/\j<2 ^ 64) λi j=>.int (i / j)) ta tb) (ox.bind λa=>oy.bind λb=>Pu.fdiv a b) rInt:=ev_i (λ_ i j c e=>by
 unfold Pu.fdiv at e
 split at e
 ·rename_i h; cases e; exact ⟨h,rfl⟩
 ·cases e) ha hb
theorem ev_pow (ha:EV Γ ta ox rInt) (hb:EV Γ tb oy rInt):EV Γ (tOp (rI CPow λi j=>.int (i ^ j.toNat)) ta tb) (ox.bind λa=>oy.bind λb=>Pu.pow a b) rInt:=ev_i (λ_ i j c e=>by
 unfold Pu.pow at e
 split at e
 ·rename_i h; cases e; exact ⟨h,rfl⟩
 ·cases e) ha hb
end
theorem d5 {f:α->β->Bool} (hf:∀ H x y a b,r.rel H x a->s.rel H y b->scal x y=true/\decide (x=y)=f a b) (ha:EV Γ ta oa r) (hb:EV Γ tb ob s):EV Γ (tOp rEq ta tb) (oa.bind λa=>ob.bind λb=>some (f a b)) c6 :=
 j3 (λF H x y a b c Q _ r1 r2 e k=>by cases e; refine oq02 (hf F x y a b r1 r2) λh1 h2=>?_; exact ⟨h1,by rw [h2]; exact k _ rfl⟩) ha hb
theorem mN {f:α->β->Bool} (hf:∀ H x y a b,r.rel H x a->s.rel H y b->scal x y=true/\decide (x=y)=f a b) (ha:EV Γ ta oa r) (hb:EV Γ tb ob s):EV Γ (tOp rNe ta tb) (oa.bind λa=>ob.bind λb=>some (!f a b)) c6 :=
 j3 (λF H x y a b c Q _ r1 r2 e k=>by cases e; refine oq02 (hf F x y a b r1 r2) λh1 h2=>?_; exact ⟨h1,by rw [h2]; exact k _ rfl⟩) ha hb
theorem fm (H:Hp) (x y:V) (a b:Int) (h1:rInt.rel H x a) (h2:rInt.rel H y b):scal x y=true/\decide (x=y)=decide (a=b):=by
 cases h1; cases h2; exact ⟨rfl,by rw [T9]; simp⟩
theorem sc_ss (H:Hp) (x y:V) (a b:Str) (h1:rStr.rel H x a) (h2:rStr.rel H y b):scal x y=true/\decide (x=y)=decide (a=b):=by
 cases h1; cases h2; exact ⟨rfl,by rw [T9]; simp⟩
theorem sc_oi (H:Hp) (x y:V) (a:Option Int) (b:Int) (h1:(rOp rInt).rel H x a) (h2:rInt.rel H y b):scal x y=true/\decide (x=y)=decide (a=some b):=by
 cases h2
 cases a with
 | none=>cases h1; exact ⟨rfl,by rw [T9]; simp⟩
 | some i=>cases h1; exact ⟨rfl,by rw [T9]; simp⟩
theorem ev_notN {o:Option (Option α)} (ha:EV Γ ta o (rOp r)) (hr:∀ F a,¬ r.rel F .non a):EV Γ (tOp (λx y H Q=>y=.non/\Q (.bl (!decide (x=.non))) H) ta (tC .non)) (o.bind λa=>some a.isSome) c6:=by
 intro C F σ H Q c S e k
 refine oq12 (a8 e) λa e1 e=>?_
 cases e
 refine ha C F σ H _ a S e1 λv F' H' x1 r1=>⟨rfl,?_⟩
 have:(!decide (v=.non))=a.isSome:=by
  cases a with
  | none=>cases r1; rfl
  | some x=>show (!decide (v=.non))=true; rw [decide_eq_false λz=>hr F' x (by subst z; exact r1)]; rfl
 rw [this]; exact k _ F' H' x1 rfl
theorem nn_int (F:Hp) (a:Int):¬ rInt.rel F .non a:=λh=>nomatch h
theorem ev_chain {g g':Int->Int->Bool} {ox oy oz:Option Int} (ha:EV Γ ta ox rInt) (hb:EV Γ tb oy rInt) (hc:EV Γ tc oz rInt) :
  EV Γ (qE (rI0 λi j=>.bl (g i j)) (rI0 λi j=>.bl (g' i j)) ta tb tc) (ox.bind λa=>oy.bind λb=>if g a b=true then oz.bind λc=>some (g' b c) else some false) c6:=by
 intro C F σ H Q d S e k
 refine oq12 (a8 e) λa e1 e=>?_
 refine oq12 (a8 e) λb e2 e=>?_
 refine EV.two ha hb S e1 e2 λx y F' H' x1 r1 r2=>⟨a,b,r1,r2,g a b,rfl,?_⟩
 by_cases h:g a b=true
 ·rw [if_pos h] at e ⊢
  refine oq12 (a8 e) λc e3 e=>?_
  cases e
  exact hc C F' σ H' _ c (S.grow x1) e3 λz F2 H2 x2 r3=>⟨b,c,r2,r3,k _ F2 H2 (x1.trans x2) rfl⟩
 ·rw [if_neg h] at e ⊢
  cases e
  exact k _ F' H' x1 rfl
section
variable {t u:TT} {o o':Option Bool}
theorem bG (h:EV Γ ta o c6):ET Γ (tTest ta) o:=λC F σ H Q b S e k=>h C F σ H _ b S e λv F' H' x1 r1=>(oi12 b r1 (k F' H' x1))
theorem et_b (h:EV Γ ta o c6):ET Γ (tB ta) o:=λC F σ H Q b S e k=>h C F σ H _ b S e λv F' H' x1 r1=>(oi12 b r1 (k F' H' x1))
theorem qW (h:ET Γ t o) (h':ET Γ u o'):ET Γ (tAnd t u) (o.bind λb=>if b=true then o' else some false):=by
 intro C F σ H Q d S e k
 refine oq12 (a8 e) λa e1 e=>?_
 refine h C F σ H _ a S e1 λF' H' x1=>?_
 cases a with
 | true=>exact h' C F' σ H' _ d (S.grow x1) e λF2 H2 x2=>k F2 H2 (x1.trans x2)
 | false=>cases e; exact k F' H' x1
theorem et_or (h:ET Γ t o) (h':ET Γ u o'):ET Γ (tOr t u) (o.bind λb=>if b=true then some true else o'):=by
 intro C F σ H Q d S e k
 refine oq12 (a8 e) λa e1 e=>?_
 refine h C F σ H _ a S e1 λF' H' x1=>?_
 cases a with
 | true=>cases e; exact k F' H' x1
 | false=>exact h' C F' σ H' _ d (S.grow x1) e λF2 H2 x2=>k F2 H2 (x1.trans x2)
theorem qX (h:ET Γ t o):ET Γ (tNot t) (o.bind λb=>some (!b)):=by
 intro C F σ H Q d S e k
 refine oq12 (a8 e) λa e1 e=>?_
 cases e
 exact h C F σ H _ a S e1 λF' H' x1=>k F' H' x1
theorem et_true:ET Γ tTrue (some true):=λC F σ H Q b S e k=>by cases e; exact k F H (Ext.refl S.sub)
theorem et_truL {rl:Rp (List α)} {ol:Option (List α)} (sq:Sq K rl r) (h:EV Γ ta ol rl):ET Γ (tTru K ta) (ol.bind λxs=>some (!xs.isEmpty)):=by
 intro C F σ H Q d S e k
 refine oq12 (a8 e) λa e1 e=>?_
 cases e
 refine h C F σ H _ a S e1 λv F' H' x1 hv=>?_
 refine oq23 (sq.get hv) λp vs e2 h2 h3=>?_
 refine (oi12 (!vs.isEmpty) ?_ ?_)
 ·subst e2; exact .inl (oi12 vs (x1.sub.seq h2) rfl)
 ·have:(!vs.isEmpty)=!a.isEmpty:=by cases h3 <;> rfl
  rw [this]; exact k F' H' x1
theorem ev_and (h:EV Γ ta o c6) (h':EV Γ tb o' c6):EV Γ (tAndV ta tb) (o.bind λb=>if b=true then o' else some false) c6:=by
 intro C F σ H Q d S e k
 refine oq12 (a8 e) λa e1 e=>?_
 refine h C F σ H _ a S e1 λv F' H' x1 r1=>(oi12 a r1 ?_)
 cases a with
 | true=>exact h' C F' σ H' _ d (S.grow x1) e λw F2 H2 x2 r2=>k w F2 H2 (x1.trans x2) r2
 | false=>cases e; exact k _ F' H' x1 rfl
theorem qY {oa':Option α} (ht:ET Γ t o) (ha:EV Γ ta oa r) (hb:EV Γ tb oa' r):EV Γ (tIf t ta tb) (o.bind λb=>if b=true then oa else oa') r:=by
 intro C F σ H Q d S e k
 refine oq12 (a8 e) λa e1 e=>?_
 refine ht C F σ H _ a S e1 λF' H' x1=>?_
 cases a with
 | true=>exact ha C F' σ H' _ d (S.grow x1) e λw F2 H2 x2 r2=>k w F2 H2 (x1.trans x2) r2
 | false=>exact hb C F' σ H' _ d (S.grow x1) e λw F2 H2 x2 r2=>k w F2 H2 (x1.trans x2) r2
end
end
end
section
open PySem PySem.Spec PyProof.Rows
variable [Kon]
theorem jQ {α:Type} {r:V->α->Prop} {vs:List V} {xs:List α} {i:Int} {a:α} (p:Paired r vs xs) (h:atI xs i=some a):∃ v,atI vs i=some v/\r v a:=by
 unfold atI at h ⊢
 rw [p.length]
 refine oq12 (a8 h) λj e1 e2=>?_
 refine oq12 (cM p e2) λv h1 h2=>?_
 exact (oi12 v (by rw [e1]; exact h1) h2)
theorem qZ {α:Type} {r:V->α->Prop} {vs:List V} {xs:List α} {lo hi:Option Int} (p:Paired r vs xs):Paired r (cutV vs lo hi) (Pu.cut xs lo hi):=by
 unfold cutV Pu.cut
 rw [p.length]
 exact Paired.takeB _ (Paired.dropB _ p)
theorem j4 {α:Type} {r:Rp α} {F:Hp} {k:Int}:∀ {ws:List (Key × V)} {kvs:List (Int × α)},Paired (dRel r F) ws kvs->(∀ a,Pu.find kvs k=some a->∃ v,valV ws (.inl k)=some v/\r.rel F v a)/\(Pu.find kvs k=none->valV ws (.inl k)=none):=λp=>by
 induction p with
 | nil=>exact ⟨λa h=>(nomatch h),λ_=>rfl⟩
 | @cons w kv ws kvs h t ih =>
  refine oq02 h λe1 e2=>?_
  by_cases q:kv.1=k
  ·have e3:w.1=A1 k:=by rw [e1,q]
   have ef:Pu.find (kv :: kvs) k=some kv.2:=by unfold Pu.find; rw [List.find?_cons_of_pos (by simpa using q)]; rfl
   rw [ef,gM e3]
   exact ⟨λa h=>by cases h; exact (oi12 _ rfl e2),λh=>(nomatch h)⟩
  ·have e3:¬ w.1=A1 k:=by rw [e1]; intro z; exact q (A1.inj z)
   have ef:Pu.find (kv :: kvs) k=Pu.find kvs k:=by unfold Pu.find; rw [List.find?_cons_of_neg (by simpa using q)]
   rw [ef,gN e3]
   exact ih
theorem Paired.mapB {α β α' β':Type} {F:α->β->Prop} {G:α'->β'->Prop} {f:α->α'} {g:β->β'} (h:∀ a b,F a b->G (f a) (g b)):∀ {l:List α} {m:List β},Paired F l m->Paired G (l.map f) (m.map g):=λp=>by
 induction p with
 | nil=>exact .nil
 | cons r _ ih=>exact .cons (h _ _ r) ih
theorem re {α:Type} {r:Rp α} {F:Hp} {k:Int}:∀ {ws:List (Key × V)} {kvs:List (Int × α)},Paired (dRel r F) ws kvs->(ws.any λkv=>decide (kv.1=A1 k))=kvs.any λkv=>decide (kv.1=k):=λp=>by
 induction p with
 | nil=>rfl
 | cons h _ ih =>
  rw [E4,E4,ih,h.1]
  congr 1
  rw [T9]; simp
theorem rg {α:Type} {r:Rp α} {F:Hp} {k:Int} {v:V} {a:α} (hv:r.rel F v a) {ws:List (Key × V)} {kvs:List (Int × α)} (p:Paired (dRel r F) ws kvs):Paired (dRel r F) (putK ws (.inl k) v) (Pu.put kvs k a):=by
 unfold putK Pu.put
 rw [re p]
 split
 ·refine Paired.mapB (λw kv h=>?_) p
  by_cases q:kv.1=k
  ·rw [if_pos q,if_pos (by rw [h.1,q])]; exact ⟨h.1,hv⟩
  ·rw [if_neg q,if_neg (by rw [h.1]; intro z; exact q (A1.inj z))]; exact h
 ·exact Paired.app p (.cons ⟨rfl,hv⟩ .nil)
section
variable {X:Cx}
noncomputable def rCatS:R2:=λx y H Q=>∃ l b xs zs,x=.ref l/\y=.ref b/\Rd H l (.lst xs)/\Rd H b (.lst zs)/\xs.length+zs.length<=V1/\∀ p,H p=none->Q (.ref p) (upd H p (.lst (xs++zs)))
theorem mO:OpR X (binaryOp .Add) rCatS:=by
 intro pins s σ H x y v u Q I rx ry h
 refine oq46 h λl b xs zs eq4_ eq5_ hH hB hz q=>?_; subst eq4_; subst eq5_
 cases rx
 cases ry
 refine oq02 ((show aS X.prog X.w H s.heap l (.lst xs) from hH.ok I.hok)) λz zz=>oq22 zz λits n r e=>?_
 refine oq02 ((show aS X.prog X.w H s.heap b (.lst zs) from hB.ok I.hok)) λz2 zz=>oq22 zz λits2 n2 r2 e2=>?_
 have hl:=r.length
 have hl2:=r2.length
 refine PySem.P.add_list e e2 ?_ (by rw [X0,X0]; omega)
 have ea:its.toArray++its2.toArray=(its++its2).toArray:=by simp
 rw [ea]
 exact ⟨.ref _,_,I.lnew (t':=s.toks) (r.append r2) (by rw [Y8]; omega),rfl,q _ I.fresh⟩
end
section
variable (Γ:List Slot) {α τ:Type}
def EVs (n:Nat) (t:TA) (o:Option (List α)) (r:Rp α):Prop:=∀ C F σ H Q xs,SR C F Γ σ H->o=some xs->(∀ vs F' H',Ext F H F' H'->vs.length=n->Paired (r.rel F') vs xs->Q vs H')->t σ H Q
structure RpA (τ:Type) where
 rel:Hp->List V->τ->Prop
 mono:∀ {H H':Hp} {vs:List V} {a:τ},Same H H'->rel H vs a->rel H' vs a
 slots:τ->List Slot
 ok:∀ {F:Hp} {vs:List V} {a:τ},rel F vs a->vs.length=(slots a).length/\∀ (i:Nat) s,(slots a)[i]?=some s->s.own=false/\∃ v,vs[i]?=some v/\∀ H0 H,SlOk H0 F H s (some v)
noncomputable def aOne {α:Type} (r:Rp α):RpA α:=⟨λH vs a=>∃ v,vs=[v]/\r.rel H v a,λe zq=>oq12 zq λv h1 h2=>(oi12 v h1 (r.mono e h2)),λa=>[.fr r a],λ{F vs a} ⟨v,h1,h2⟩=>by
 subst h1
 refine ⟨rfl,λi s h=>?_⟩
 match i,h with
 | 0,h=>cases h; exact ⟨rfl,v,rfl,λ_ _=>⟨v,rfl,h2⟩⟩
 | i+1,h=>simp at h⟩
noncomputable def aD {α τ:Type} (r:Rp α) (ra:RpA τ):RpA (α × τ):=⟨λH vs a=>∃ v ws,vs=v :: ws/\r.rel H v a.1/\ra.rel H ws a.2,λe zq=>oq23 zq λv ws h1 h2 h3=>(oi23 v ws h1 (r.mono e h2) (ra.mono e h3)),λa=>.fr r a.1 :: ra.slots a.2,λ{F vs a} ⟨v,ws,h1,h2,h3⟩=>by
 subst h1
 refine oq02 (ra.ok h3) λl g=>?_
 refine ⟨by simp [l],λi s h=>?_⟩
 match i,h with
 | 0,h=>cases h; exact ⟨rfl,v,rfl,λ_ _=>⟨v,rfl,h2⟩⟩
 | i+1,h=>exact g i s (by simpa using h)⟩
def EA (t:TA) (o:Option τ) (ra:RpA τ):Prop:=∀ C F σ H Q a,SR C F Γ σ H->o=some a->(∀ vs F' H',Ext F H F' H'->ra.rel F' vs a->Q vs H')->t σ H Q
def spV {γ:Type} (ra:RpA τ) (r:Rp γ) (f:τ->Option γ):Sp:=λvs H Q _=>∃ F a c,Same F H/\NT F/\TbG H/\ra.rel F vs a/\f a=some c/\∀ v F' H',Ext F H F' H'->r.rel F' v c->Q v H'
def spL {γ:Type} (ra:RpA τ) (r:Rp γ) (f:τ->Option (List γ)):Sp:=λvs H Q _=>∃ F a xs,Same F H/\NT F/\TbG H/\ra.rel F vs a/\f a=some xs/\∀ p vs F' H1,Ext F H F' H1->H1 p=none->Paired (r.rel F') vs xs->Q (.ref p) (upd H1 p (.lst vs))
end
section
variable {Γ:List Slot} {α β γ τ:Type} {r:Rp α} {s:Rp β} {q:Rp γ} {ta tb:TE} {oa:Option α} {ob:Option β} {K:Z3} {t:TA} {ra:RpA τ} {oτ:Option τ} {oi:Option Int}
theorem av (h:EV Γ ta oa r):EA Γ (aZ ta tNil) oa (aOne r):=λC F σ H Q a S e k=>h C F σ H _ a S e λv F' H' x1 r1=>k _ F' H' x1 ⟨v,rfl,r1⟩
theorem aq (h:EV Γ ta oa r) (h':EA Γ t oτ ra):EA Γ (aZ ta t) (oa.bind λa=>oτ.bind λb=>some (a,b)) (aD r ra):=by
 intro C F σ H Q c S e k
 refine oq12 (a8 e) λa e1 e=>?_
 refine oq12 (a8 e) λb e2 e=>?_
 cases e
 exact h C F σ H _ a S e1 λv F' H' x1 r1=>h' C F' σ H' _ b (S.grow x1) e2 λvs F2 H2 x2 r2=>k _ F2 H2 (x1.trans x2) ⟨v,vs,rfl,r.mono x2.ff r1,r2⟩
theorem aG {f:τ->Option γ} (h:EA Γ t oτ ra):EV Γ (tCall (spV ra q f) [] E0 t) (oτ.bind f) q:=by
 intro C F σ H Q c S e k
 refine oq12 (a8 e) λa e1 e=>?_
 exact h C F σ H _ a S e1 λvs F' H' x1 r1=>⟨F',a,c,x1.sub,x1.nt S.nt,x1.hh.tg S.tg,by rw [V6]; exact r1,e,λv F2 H2 x2 r2=>k v F2 H2 (x1.trans x2) r2⟩
theorem aQ {f:τ->Option (List γ)} (h:EA Γ t oτ ra):EVL Γ (tCall (spL ra q f) [] E0 t) (oτ.bind f) q:=by
 intro C F σ H Q c S e k
 refine oq12 (a8 e) λa e1 e=>?_
 exact h C F σ H _ a S e1 λvs F' H' x1 r1=>⟨F',a,c,x1.sub,x1.nt S.nt,x1.hh.tg S.tg,by rw [V6]; exact r1,e,λp ws F2 H2 x2 hp r2=>k p ws F2 H2 (x1.trans x2) hp r2⟩
theorem EVL.ev {o:Option (List α)} (h:EVL Γ ta o r):EV Γ ta o (rL r):=λC F σ H Q xs S e k=>h C F σ H Q xs S e λp vs F' H1 x1 hp r1 =>
 k _ _ _ (x1.trans (Ext.new x1.sub hp)) ⟨p,vs,rfl,Rd.of ah,Paired.imp2 (λ_ _ z=>r.mono (aJ (x1.sub.free hp)) z) r1⟩
theorem gR (ha:EV Γ ta oa r) (hb:EV Γ tb ob s):EV Γ (tTup (aZ ta (aZ tb tNil))) (oa.bind λa=>ob.bind λb=>some (a,b)) (rT2 r s):=by
 intro C F σ H Q c S e k
 refine oq12 (a8 e) λa e1 e=>?_
 refine oq12 (a8 e) λb e2 e=>?_
 cases e
 exact EV.two (q:=λx y H2=>[x,y].length<=V1/\∀ p,H2 p=none->Q (.ref p) (upd H2 p (.tup [x,y]))) ha hb S e1 e2 λx y F' H' x1 r1 r2=>⟨by show 2<=V1; decide,λp hp=>k _ _ _ (x1.trans (Ext.new x1.sub hp)) ⟨p,x,y,rfl,ah,r.mono (aJ (x1.sub.free hp)) r1,s.mono (aJ (x1.sub.free hp)) r2⟩⟩
theorem tup_ix {n:Int} {T:Type} {u:Rp T} {o:Option T} (get:T->γ) (h:EV Γ ta o u) (hg:∀ F H v a Q,Same F H->u.rel F v a->(∀ w,q.rel F w (get a)->Q w H)->rIxT K v (.int n) H Q):EV Γ (tOp (rIxT K) ta (tC (.int n))) (o.bind λp=>some (get p)) q:=by
 intro C F σ H Q c S e k
 refine oq12 (a8 e) λa e1 e=>?_
 cases e
 exact h C F σ H _ a S e1 λv F' H' x1 r1=>hg F' H' v a _ x1.sub r1 λw rw=>k w F' H' x1 rw
theorem jl {o:Option (α × β)} (h:EV Γ ta o (rT2 r s)):EV Γ (tOp (rIxT K) ta (tC (.int 0))) (o.bind λp=>some p.1) r:=tup_ix (·.1) h λF H v a Q sb ⟨p,x,y,e,h1,h2,h3⟩ k=>⟨p,_,_,x,e,rfl,SqT.of (sb _ _ h1),rfl,k x h2⟩
theorem d8 {o:Option (α × β)} (h:EV Γ ta o (rT2 r s)):EV Γ (tOp (rIxT K) ta (tC (.int 1))) (o.bind λp=>some p.2) s:=tup_ix (·.2) h λF H v a Q sb ⟨p,x,y,e,h1,h2,h3⟩ k=>⟨p,_,_,y,e,rfl,SqT.of (sb _ _ h1),rfl,k y h3⟩
theorem bK:EVs Γ 0 tNil (some []) r:=λC F σ H Q xs S e k=>by cases e; exact k [] F H (Ext.refl S.sub) rfl .nil
theorem bx {n:Nat} {o:Option (List α)} (h:EV Γ ta oa r) (h':EVs Γ n t o r):EVs Γ (n+1) (aZ ta t) (oa.bind λa=>o.bind λb=>some (a :: b)) r:=by
 intro C F σ H Q c S e k
 refine oq12 (a8 e) λa e1 e=>?_
 refine oq12 (a8 e) λb e2 e=>?_
 cases e
 exact h C F σ H _ a S e1 λv F' H' x1 r1=>h' C F' σ H' _ b (S.grow x1) e2 λvs F2 H2 x2 l r2=>k _ F2 H2 (x1.trans x2) (by simp [l]) (.cons (r.mono x2.ff r1) r2)
theorem bL {n:Nat} {o:Option (List α)} (h:EVs Γ n t o r) (hn:autoParam (n<=16777216) L2.a0q._auto_1):EVL Γ (tLst t) o r:=λC F σ H Q xs S e k=>h C F σ H _ xs S e λvs F' H' x1 l r1=>⟨by rw [l,V8]; exact hn,λp hp=>k p vs F' H' x1 hp r1⟩
theorem bJ {rl:Rp (List α)} {o:Option (List α)} (sq:Sq K rl r) (h:EV Γ ta o rl) (hi:EV Γ tb oi rInt):EV Γ (tOp (rIxL K) ta tb) (o.bind λxs=>oi.bind λi=>Pu.at_ xs i) r :=
 j3 (r:=rl) (s:=rInt) (λF H x y a b c Q sb hx r2 e3 k=>by
  refine oq23 (sq.get hx) λp vs e h1 h2=>?_
  refine oq12 (jQ h2 e3) λv h3 h4=>?_
  exact ⟨p,vs,b,v,e,r2,sb.seq h1,h3,k v h4⟩) h hi
theorem ev_ixD {o:Option (List (Int × α))} (h:EV Γ ta o (rD r)) (hi:EV Γ tb oi rInt):EV Γ (tDGet ta tb) (o.bind λxs=>oi.bind λi=>Pu.find xs i) r:=by
 intro C F σ H Q c S e k
 refine oq12 (a8 e) λa e1 e=>?_
 refine oq12 (a8 e) λb e2 e=>?_
 refine EV.two (q:=λx y H2=>∃ a v,x=.ref a/\DGet H2 a y (some v)/\Q v H2) h hi S e1 e2 λx y F' H' x1 ⟨p,ws,e3,h1,h2⟩ r2=>?_
 refine oq12 ((j4 (k:=b) h2).1 c e) λv h3 h4=>?_
 exact (oi23 p v e3 (.inl (oi23 ws (.inl b) (.inl (x1.sub _ _ h1)) r2 h3.symm)) (k v F' H' x1 h4))
theorem mP {o o':Option (List α)} (h:EV Γ ta o (rL r)) (h':EV Γ tb o' (rL r)):EVL Γ (tOp rCatS ta tb) (o.bind λxs=>o'.bind λys=>Pu.cat xs ys) r:=by
 intro C F σ H Q c S e k
 refine oq12 (a8 e) λa e1 e=>?_
 refine oq12 (a8 e) λb e2 e=>?_
 unfold Pu.cat at e
 split at e
 ·rename_i hl
  cases e
  exact EV.two (q:=λx y H2=>rCatS x y H2 Q) h h' S e1 e2 λx y F' H' x1 ⟨p,vs,e3,h1,h2⟩ ⟨p',vs',e4,h3,h4⟩=>⟨p,p',vs,vs',e3,e4,x1.sub.rd h1,x1.sub.rd h3,by rw [h2.length,h4.length,V8]; exact hl,λp hp=>k p _ F' H' x1 hp (Paired.app h2 h4)⟩
 ·cases e
theorem mQ:EO Γ tNoPart (some none):=λC F σ H Q a S e k=>by cases e; exact k F H (Ext.refl S.sub)
theorem cx (h:EV Γ ta oi rInt):EO Γ (tPart ta) (oi.bind λi=>some (some i)):=by
 intro C F σ H Q c S e k
 refine oq12 (a8 e) λa e1 e=>?_
 cases e
 exact h C F σ H _ a S e1 λv F' H' x1 r1=>(oi12 a r1 (k F' H' x1))
theorem fT {rl:Rp (List α)} {o:Option (List α)} {tl th:TO} {ol oh:Option (Option Int)} (sq:Sq K rl r) (h:EV Γ ta o rl) (h1:EO Γ tl ol) (h2:EO Γ th oh):EVL Γ (tSl (rSlL K) ta tl th) (o.bind λxs=>ol.bind λlo=>oh.bind λhi=>some (Pu.cut xs lo hi)) r:=by
 intro C F σ H Q c S e k
 refine oq12 (a8 e) λa e1 e=>?_
 refine oq12 (a8 e) λlo e2 e=>?_
 refine oq12 (a8 e) λhi e3 e=>?_
 cases e
 refine h C F σ H _ a S e1 λx F1 H1 x1 hx=>?_
 refine oq23 (sq.get hx) λp vs e4 z1 z2=>?_
 exact h1 C F1 σ H1 _ lo (S.grow x1) e2 λF2 H2 x2=>h2 C F2 σ H2 _ hi ((S.grow x1).grow x2) e3 λF3 H3 x3 =>
  ⟨p,vs,e4,x3.sub.seq (x3.ff.seq (x2.ff.seq z1)),λp hp=>k p _ F3 H3 ((x1.trans x2).trans x3) hp (qZ (Paired.imp2 (λ_ _ z=>r.mono (x2.ff.trans x3.ff) z) z2))⟩
theorem cN {rl:Rp (List α)} {o:Option (List α)} (sq:Sq K rl r) (h:EV Γ ta o rl):EV Γ (tCB (rLen K) (aZ ta tNil)) (o.bind λxs=>some (Pu.ln xs)) rInt:=by
 intro C F σ H Q c S e k
 refine oq12 (a8 e) λa e1 e=>?_
 cases e
 refine h C F σ H _ a S e1 λv F' H' x1 hv=>?_
 refine oq23 (sq.get hv) λp vs e2 h1 h2=>?_
 exact ⟨p,vs,by rw [e2],.inl (x1.sub.seq h1),k _ F' H' x1 (by rw [h2.length]; rfl)⟩
theorem evl_list {rl:Rp (List α)} {o:Option (List α)} (sq:Sq K rl r) (h:EV Γ ta o rl):EVL Γ (tCB (rListOf K) (aZ ta tNil)) o r:=λC F σ H Q xs S e k=>h C F σ H _ xs S e λv F' H' x1 hv=>by
 refine oq23 (sq.get hv) λp vs e2 h1 h2=>?_
 exact ⟨p,vs,by rw [e2],.inl (x1.sub.seq h1),λl hl=>k l vs F' H' x1 hl h2⟩
theorem mR (h:EV Γ ta oi rInt):EV Γ (tCB (λxs H Q=>∃ i,xs=[.int i]/\Q (.int (if i<0 then -i else i)) H) (aZ ta tNil)) (oi.bind λi=>some (Pu.ab i)) rInt:=by
 intro C F σ H Q c S e k
 refine oq12 (a8 e) λa e1 e=>?_
 cases e
 exact h C F σ H _ a S e1 λv F' H' x1 r1=>⟨a,by rw [r1],k _ F' H' x1 rfl⟩
theorem fU {oj:Option Int} (h:EV Γ ta oi rInt) (h':EV Γ tb oj rInt):EV Γ (tCB (λxs H Q=>∃ i j,xs=[.int i,.int j]/\Q (.int (if j<i then j else i)) H) (aZ ta (aZ tb tNil))) (oi.bind λi=>oj.bind λj=>some (Pu.mn i j)) rInt:=by
 intro C F σ H Q c S e k
 refine oq12 (a8 e) λa e1 e=>?_
 refine oq12 (a8 e) λb e2 e=>?_
 cases e
 exact EV.two (q:=λx y H2=>∃ i j,[x,y]=[.int i,.int j]/\Q (.int (if j<i then j else i)) H2) h h' S e1 e2 λx y F' H' x1 r1 r2=>(oi22 a b (by rw [r1,r2]) (k _ F' H' x1 rfl))
theorem gT {oj:Option Int} (h:EV Γ ta oi rInt) (h':EV Γ tb oj rInt):EV Γ (tCB (λxs H Q=>∃ i j,xs=[.int i,.int j]/\Q (.int (if j > i then j else i)) H) (aZ ta (aZ tb tNil))) (oi.bind λi=>oj.bind λj=>some (Pu.mx i j)) rInt:=by
 intro C F σ H Q c S e k
 refine oq12 (a8 e) λa e1 e=>?_
 refine oq12 (a8 e) λb e2 e=>?_
 cases e
 exact EV.two (q:=λx y H2=>∃ i j,[x,y]=[.int i,.int j]/\Q (.int (if j > i then j else i)) H2) h h' S e1 e2 λx y F' H' x1 r1 r2=>(oi22 a b (by rw [r1,r2]) (k _ F' H' x1 rfl))
theorem TyOf.same {F H:Hp} {v:V} {t:Value} (e:Same F H) (h:TyOf K F v t):TyOf K H v t:=by
 cases h with
 | non=>exact .non
 | bl x=>exact .bl x
 | int i=>exact .int i
 | str x=>exact .str x
 | flt x=>exact .flt x
 | lst h=>exact .lst (e _ _ h)
 | frz h=>exact .frz (e _ _ h)
 | tup h=>exact .tup (e _ _ h)
 | dK h=>exact .dK (e _ _ h)
 | dT h=>exact .dT (e _ _ h)
 | ins h a b c d f=>exact .ins (e _ _ h) a b c d f
theorem ev_isi {T:String} {f:α->Bool} (h:EV Γ ta oa r) (hf:∀ F v a,r.rel F v a->∃ t,TyOf K F v t/\J5 K t (.type T)=some (f a)):EV Γ (tCB (rIsi K T) (aZ ta (aZ (tC (.ty T)) tNil))) (oa.bind λa=>some (f a)) c6:=by
 intro C F σ H Q c S e k
 refine oq12 (a8 e) λa e1 e=>?_
 cases e
 refine h C F σ H _ a S e1 λv F' H' x1 r1=>?_
 refine oq12 (hf F' v a r1) λt h1 h2=>?_
 exact ⟨v,t,f a,rfl,h1.same x1.sub,h2,k _ F' H' x1 rfl⟩
theorem oH:J5 K (.type "str") (.type "str")=some true:=by with_unfolding_all rfl
theorem isi_ss (F:Hp) (v:V) (a:Str) (h:rStr.rel F v a):∃ t,TyOf K F v t/\J5 K t (.type "str")=some ((λ_=>true) a):=(oi12 _ (by cases h; exact .str a) oH)
theorem isi_ll (F:Hp) (v:V) (a:List α) (h:(rL r).rel F v a):∃ t,TyOf K F v t/\J5 K t (.type "list")=some ((λ_=>true) a):=by
 obtain ⟨p,vs,rfl,(h | ⟨o,h⟩),_⟩:=h
 ·exact (oi12 _ (.lst h) gh)
 ·exact (oi12 _ (.frz h) gh)
end
end
section
open PySem PySem.Spec PyProof.Rows
variable [Kon]
section
variable {Γ:List Slot} {α β γ S R:Type} {r:Rp α} {s:Rp β} {q:Rp γ} {ta tb tc:TE} {ob:Option β} {K:Z3} {oi:Option Int}
theorem fV {F H F' H':Hp} {p:Addr} {u:HO} (hF:F p=none) (hH:H p=some u) (e:Ext (upd F p u) H F' H') (nu:autoParam (cJ u) L2.a4q._auto_1):Ext F H (del F' p) H'/\F' p=some u:=by
 refine ⟨⟨e.hh,λb o h=>?_,λb o h=>e.sub b o (cW h).2,λb o h=>?_,λz b ps q=>e.nt (jO z nu) b ps (cW q).2⟩,e.ff p u ah⟩
 ·have n:b≠p:=af h hF
  rw [c7 n]
  exact e.ff b o (by rw [ai n]; exact h)
 ·refine oq02 (cW h) λn h=>?_
  rcases e.nw b o h with z | z
  ·rw [ai n] at z; exact .inl z
  ·exact .inr z
theorem SR.borrow {C:Fc} {F H:Hp} {σ:St} {i:Nat} {φ:Addr->Prop} {xs:List α} (S:SR C F Γ σ H) (hi:Γ[i]?=some (.ol r φ xs)):∃ p vs,F p=none/\H p=some (.lst vs)/\SR C (upd F p (.lst vs)) (Γ.set i (.fr (rL r) xs)) σ H:=by
 refine oq12 (S.at_ i _ hi) λo h1 zz=>oq26 zz λp vs eq4_ h2 h3 h4 h5 h6=>?_; subst eq4_
 exact (oi23 p vs h4 h5 (S.freeze hi p _ _ rfl rfl h1 h3 h4 h5 ⟨_,rfl,p,vs,rfl,Rd.of ah,Paired.imp2 (λ_ _ z=>Rp.mono _ (aJ h4) z) h6⟩ trivial))
noncomputable abbrev brw (Γ:List Slot) (i:Nat) {α:Type} (r:Rp α) (xs:List α):List Slot:=Γ.set i (.fr (rL r) xs)
theorem ev_bor {φ:Addr->Prop} {xs:List α} (i:Nat) (hi:Γ[i]?=some (.ol r φ xs)) (fl:Flat s) (h:EV (brw Γ i r xs) tb ob s):EV Γ tb ob s:=by
 intro C F σ H Q b S e k
 refine oq23 (S.borrow hi) λp vs h1 h2 S'=>?_
 refine h C _ σ H Q b S' e λv F' H' x1 r1=>?_
 refine oq02 (fV h1 h2 x1) λx2 h3=>?_
 exact k v _ H' x2 (fl h3 trivial r1)
theorem evl_bor {φ:Addr->Prop} {xs:List α} {o:Option (List β)} (i:Nat) (hi:Γ[i]?=some (.ol r φ xs)) (fl:Flat s) (h:EVL (brw Γ i r xs) tb o s):EVL Γ tb o s:=by
 intro C F σ H Q b S e k
 refine oq23 (S.borrow hi) λp vs h1 h2 S'=>?_
 refine h C _ σ H Q b S' e λv ws F' H' x1 hv r1=>?_
 refine oq02 (fV h1 h2 x1) λx2 h3=>?_
 exact k v ws _ H' x2 hv (Paired.imp2 (λ_ _ z=>fl h3 trivial z) r1)
theorem mS {φ:Addr->Prop} {xs:List α} {t:TT} {o:Option Bool} (i:Nat) (hi:Γ[i]?=some (.ol r φ xs)) (h:ET (brw Γ i r xs) t o):ET Γ t o:=by
 intro C F σ H Q b S e k
 refine oq23 (S.borrow hi) λp vs h1 h2 S'=>?_
 refine h C _ σ H Q b S' e λF' H' x1=>?_
 refine oq02 (fV h1 h2 x1) λx2 h3=>?_
 exact k _ H' x2
theorem bn {rl:Rp (List α)} {o:Option (List α)} (sq:Sq K rl r) (h:EV Γ ta o rl):IV Γ (iList K ta) o r:=λC F σ H R xs S e k=>h C F σ H _ xs S e λv F' H' x1 hv=>by
 refine oq23 (sq.get hv) λp vs e2 h1 h2=>?_
 exact (oi13 p e2 ⟨vs,x1.sub.seq h1⟩ (k _ F' H' x1
  ⟨λi H2 sb hi=>⟨vs,vs[i]'(by rw [h2.length]; exact hi),sb.seq h1,by simp⟩,λH2 sb=>⟨vs,sb.seq h1,by rw [h2.length]; exact nz6 _⟩,λi H2 x H3 F1 sb hi ⟨e3,y⟩ s1 s2=>by
    subst e3
    obtain ⟨w,g1,g2⟩:=cM h2 (Z9 hi)
    have ex:x=w:=Z7 ((y vs (sb.seq h1)).symm.trans g1)
    subst ex
    exact (oi23 F1 (xs[i]) (Z9 hi) (Ext.refl s2) (r.mono s1 g2))⟩))
theorem gs {F:Hp} {n:Nat} {f:Nat->Int} {J:It} (hj:J=⟨λi _=>i<n,λi H x H'=>H'=H/\x=.int (f i),λi _=>n<=i⟩):Walks J F rInt ((X3 n).map f):=by
 subst hj
 refine ⟨λi H _ hi=>by simpa using hi,λH _=>by simp,λi H2 x H3 F1 sb hi ⟨e3,y⟩ s1 s2=>?_⟩
 subst e3 y
 have hi':i<n:=by simpa using hi
 exact (oi23 F1 (f i) (by simp [hi']) (Ext.refl s2) rfl)
theorem gU (h:EV Γ ta oi rInt):IV Γ (iRng1 (aZ ta tNil)) (oi.bind λj=>Pu.rng1 j) rInt:=by
 intro C F σ H R xs S e k
 refine oq12 (a8 e) λj e1 e=>?_
 unfold Pu.rng1 at e
 split at e
 ·rename_i hb
  cases e
  refine h C F σ H _ j S e1 λv F' H' x1 r1=>⟨j,by rw [r1],hb.1,hb.2,k _ F' H' x1 ?_⟩
  refine gs (f:=λi=>(i:Int)) ?_
  unfold Itr
  simp
 ·cases e
theorem iv_rng2 {oj:Option Int} (h:EV Γ ta oi rInt) (h':EV Γ tb oj rInt):IV Γ (iRng2 (aZ ta (aZ tb tNil))) (oi.bind λi=>oj.bind λj=>Pu.rng2 i j) rInt:=by
 intro C F σ H R xs S e k
 refine oq12 (a8 e) λi e1 e=>?_
 refine oq12 (a8 e) λj e2 e=>?_
 unfold Pu.rng2 at e
 split at e
 ·rename_i hb
  cases e
  refine EV.two (q:=λx y H2=>∃ i j:Int,[x,y]=[.int i,.int j]/\(-(2 ^ 62)<=i/\i<2 ^ 62/\-(2 ^ 62)<=j/\j<2 ^ 62)/\R (Itr i (j - i).toNat) H2) h h' S e1 e2 λx y F' H' x1 r1 r2=>(oi23 i j (by rw [r1,r2]) hb (k _ F' H' x1 ?_))
  exact gs (f:=λk=>i+(k:Int)) rfl
 ·cases e
theorem iv_rng3 {oj ok:Option Int} (h:EV Γ ta oi rInt) (h':EV Γ tb oj rInt) (h'':EV Γ tc ok rInt):IV Γ (iRng3 (aZ ta (aZ tb (aZ tc tNil)))) (oi.bind λi=>oj.bind λj=>ok.bind λc=>Pu.rng3 i j c) rInt:=by
 intro C F σ H R xs S e k
 refine oq12 (a8 e) λi e1 e=>?_
 refine oq12 (a8 e) λj e2 e=>?_
 refine oq12 (a8 e) λc e3 e=>?_
 unfold Pu.rng3 at e
 split at e
 ·rename_i hb
  cases e
  refine EV.two (q:=λx y H2=>tc σ H2 λz H3=>∃ i j c:Int,[x,y,z]=[.int i,.int j,.int c]/\(-(2 ^ 61)<=i/\i<2 ^ 61/\-(2 ^ 61)<=j/\j<2 ^ 61/\0<c/\c<1073741824)/\R (Itq i c (rcnt i j c)) H3) h h' S e1 e2 λx y F' H' x1 r1 r2=>?_
  refine h'' C F' σ H' _ c (S.grow x1) e3 λz F2 H2 x2 r3=>(oi33 i j c (by rw [r1,r2,r3]) hb (k _ F2 H2 (x1.trans x2) ?_))
  exact gs (f:=λk=>i+(k:Int) * c) rfl
 ·cases e
theorem jm {rl:Rp (List α)} {o:Option (List α)} (sq:Sq K rl r) (h:EV Γ ta o rl):IV Γ (iEnum K (aZ ta tNil)) (o.bind λxs=>some (Pu.enum xs)) (rT2 rInt r):=by
 intro C F σ H R ys S e k
 refine oq12 (a8 e) λxs e1 e=>?_
 cases e
 refine h C F σ H _ xs S e1 λv F' H' x1 hv=>?_
 refine oq23 (sq.get hv) λp vs e2 h1 h2=>?_
 refine ⟨p,by rw [e2],⟨vs,x1.sub.seq h1⟩,k _ F' H' x1 ?_⟩
 have len:(Pu.enum xs).length=vs.length:=by unfold Pu.enum; simp [h2.length]
 refine ⟨λi H2 sb hi=>⟨vs,vs[i]'(by rw [<- len]; exact hi),sb.seq h1,by simp⟩,λH2 sb=>⟨vs,sb.seq h1,by rw [len]; exact nz6 _⟩,λi H2 x H3 F1 sb hi y s1 s2=>?_⟩
 refine oq24 y λt z e4 ht e5 hz=>?_
 subst e4 e5
 have hi':i<xs.length:=by rw [<- h2.length,<- len]; exact hi
 obtain ⟨w,g1,g2⟩:=cM h2 (Z9 hi')
 have ex:z=w:=Z7 ((hz vs (sb.seq h1)).symm.trans g1)
 subst ex
 refine ⟨_,((i:Int),xs[i]),?_,Ext.new s2 ht,t,_,_,rfl,ah,rfl,r.mono (s1.trans (aJ (s2.free ht))) g2⟩
 unfold Pu.enum
 rw [X2,List.getElem?_zipIdx,Z9 hi']
 simp
def GV (Γ:List Slot) (m:Nat) (g:TG) (r:Rp α) (Γt:α->List Slot):Prop:=∀ C F σ H v x k,SR C F Γ σ H->r.rel F v x->(∀ σ',SR C F (Γt x) σ' H->((∀ j,j<m->σ[j]?=some none)->Wk σ σ')->k σ' H)->g v σ H k
theorem Wk.refl:∀ {a:St},Wk a a
 | []=>trivial
 | none :: r=>Wk.refl (a:=r)
 | some _ :: r=>⟨rfl,Wk.refl (a:=r)⟩
theorem Wk.set:∀ {a b:St} {i:Nat} {v:V},Wk a b->a[i]?=some none->Wk a (b.set i (some v))
 | [],[],_,_,_,e=>by simp at e
 | none :: r,o :: t,0,v,h,e=>h
 | none :: r,o :: t,i+1,v,h,e=>Wk.set (a:=r) (b:=t) (i:=i) h (by simpa using e)
 | some x :: r,o :: t,0,v,h,e=>by simp at e
 | some x :: r,o :: t,i+1,v,h,e=>⟨h.1,Wk.set (a:=r) (b:=t) (i:=i) h.2 (by simpa using e)⟩
 | [],_ :: _,_,_,h,_=>R9 h
 | none :: _,[],_,_,h,_=>R9 h
 | some _ :: _,[],_,_,h,_=>R9 h
theorem aH (i:Nat):GV Γ (i+1) (gd i) r (λx=>Γ.set i (.fr r x)):=λC F σ H v x k S h q=>q _ (S.setF i h) λz=>Wk.refl.set (z i (by exact U1 _))
theorem fW (i j:Nat):GV Γ (i+j+1) (gTup K 2 (gCons (gd i) (gCons (gd j) gNil))) (rT2 r s) (λx=>(Γ.set i (.fr r x.1)).set j (.fr s x.2)):=λC F σ H v x k S ⟨p,a,b,e,h1,h2,h3⟩ q =>
 ⟨p,_,e,SqT.of (S.sub _ _ h1),rfl,a,[b],rfl,b,[],rfl,rfl,q _ ((S.setF i h2).setF j h3) λz=>(Wk.refl.set (z i (by exact Nat.lt_succ_of_le (U6 _ _)))).set (z j (by exact Nat.lt_succ_of_le (Nat.le_add_left _ _)))⟩
noncomputable def csl (loc:List Str) (cap:List (Str × Nat)) (Γ:List Slot):List Slot:=loc.map (λ_=>Slot.any)++cap.map λp=>(Γ[p.2]?).getD .any
theorem SR.comp {C:Fc} {F H:Hp} {σ:St} {loc:List Str} {cap:List (Str × Nat)} (S:SR C F Γ σ H) (hc:(cap.map (·.2)).Nodup):SR C F (csl loc cap Γ) (st0 loc cap σ) H:=by
 have get:∀ (i:Nat) s,(csl loc cap Γ)[i]?=some s->s=.any\/∃ p,loc.length<=i/\cap[i - loc.length]?=some p/\Γ[p.2]?=some s:=λi s h=>by
  unfold csl at h
  by_cases hi:i<loc.length
  ·rw [X8 (by simpa using hi),X2] at h
   cases q:loc[i]? with
   | none=>rw [q] at h; cases h
   | some _=>rw [q] at h; cases h; exact .inl rfl
  ·rw [Y5 (by simp; exact U3.mp hi),Y3,X2] at h
   cases q:cap[i - loc.length]? with
   | none=>rw [q] at h; cases h
   | some p =>
    rw [q] at h
    have h:(Γ[p.2]?).getD .any=s:=by simpa using h
    cases q2:Γ[p.2]? with
    | none=>rw [q2] at h; exact .inl h.symm
    | some s'=>rw [q2] at h; cases h; exact .inr (oi13 p (by exact U3.mp hi) rfl q2)
 have stg:∀ (i:Nat) p,loc.length<=i->cap[i - loc.length]?=some p->(st0 loc cap σ)[i]?=some (σ[p.2]?).join:=λi p hi h=>by
  unfold st0
  rw [Y5 (by simp; exact hi),Y3,X2,h]
  rfl
 refine ⟨S.toFr,by unfold st0 csl; simp,λi s h=>?_,λi j s t p h1 h2 o1 o2 e1 e2=>?_⟩
 ·rcases get i s h with rfl | ⟨p,hi,h1,h2⟩
  ·have:i<(st0 loc cap σ).length:=by
    have:=(Z4.mp h).1
    unfold csl at this; unfold st0
    simpa using this
   exact (oi12 _ (Z9 this) trivial)
  ·refine oq12 (S.at_ _ s h2) λo h3 h4=>?_
   exact (oi12 o (by rw [stg i p hi h1,h3]; rfl) h4)
 ·rcases get i s h1 with rfl | ⟨p1,hi1,g1,g2⟩
  ·cases o1
  rcases get j t h2 with rfl | ⟨p2,hi2,g3,g4⟩
  ·cases o2
  have e3:σ[p1.2]?=some (some (.ref p)):=by
   refine oq12 (S.at_ _ s g2) λo h3 _=>?_
   rw [stg i p1 hi1 g1,h3] at e1
   rw [h3]; exact e1
  have e4:σ[p2.2]?=some (some (.ref p)):=by
   refine oq12 (S.at_ _ t g4) λo h3 _=>?_
   rw [stg j p2 hi2 g3,h3] at e2
   rw [h3]; exact e2
  have e5:=S.inj _ _ s t p g2 g4 o1 o2 e3 e4
  have a1:(cap.map (·.2))[i - loc.length]?=some p1.2:=by rw [X2,g1]; rfl
  have a2:(cap.map (·.2))[j - loc.length]?=some p1.2:=by rw [X2,g3,e5]; rfl
  have l1:=(Z4.mp a1).1
  have l2:=(Z4.mp a2).1
  have:i - loc.length=j - loc.length:=(List.getElem?_inj l1 hc).mp (a1.trans a2.symm)
  omega
end
end
end L2
namespace Pu
section
variable {β α:Type} {t:β->Option Bool} {f:β->Option α}
theorem fX:∀ (l m:List β),bv t f (l++m)=(bv t f l).bind λa=>(bv t f m).bind λb=>some (a++b)
 | [],m=>by cases h:bv t f m <;> simp [bv,h]
 | x :: l,m=>by
  rw [List.cons_append,bv,bv,fX l m]
  cases t x with
  | none=>rfl
  | some b =>
   cases b with
   | false=>simp
   | true =>
    simp
    cases f x with
    | none=>rfl
    | some a =>
     cases h1:bv t f l with
     | none=>rfl
     | some as=>cases h2:bv t f m <;> simp
theorem iD:∀ {l:List β} {as:List α},bv t f l=some as->as.length<=l.length
 | [],as,h=>by cases h; simp
 | x :: l,as,h=>by
  rw [bv] at h
  refine oq12 (L2.a8 h) λb _ h=>?_
  cases b with
  | false=>rw [if_neg Z8] at h; have:=iD h; simp; exact nz5 (nz2 this (U1 _))
  | true =>
   rw [if_pos rfl] at h
   refine oq12 (L2.a8 h) λa _ h=>?_
   refine oq12 (L2.a8 h) λas' h1 h=>?_
   cases h
   have:=iD h1
   simp; exact this
theorem compF_at {xs:List β} {as:List α} (h:bv t f xs=some as) {i:Nat} {x:β} (hx:xs[i]?=some x):∃ p b,bv t f (xs.take i)=some p/\t x=some b/\(b=true->∃ c,f x=some c/\bv t f (xs.take (i+1))=some (p++[c]))/\(b=false->bv t f (xs.take (i+1))=some p):=by
 have hi:=(Z4.mp hx).1
 have ex:=(Z4.mp hx).2
 have e:xs=xs.take i++(x :: xs.drop (i+1)):=by rw [<- ex,C2,W0]
 rw [e,fX] at h
 refine oq12 (L2.a8 h) λp h1 h=>?_
 refine oq12 (L2.a8 h) λw h2 _=>?_
 rw [bv] at h2
 refine oq12 (L2.a8 h2) λb h3 h2=>?_
 have et:xs.take (i+1)=xs.take i++[x]:=by rw [<- ex,E5]
 refine (oi24 p b h1 h3 (λhb=>?_) (λhb=>?_))
 ·subst hb
  rw [if_pos rfl] at h2
  refine oq12 (L2.a8 h2) λc h4 _=>?_
  exact (oi12 c h4 (by rw [et,fX,h1]; simp [bv,h3,h4]))
 ·subst hb
  rw [et,fX,h1]; simp [bv,h3]
theorem oJ:∀ (xs:List β),lJ f xs=bv (λ_=>some true) f xs
 | []=>rfl
 | x :: xs=>by rw [lJ,bv,oJ xs]; simp
end
end Pu
namespace L2
section
open PySem PySem.Spec PyProof.Rows
variable [Kon]
section
variable {Γ:List Slot} {α β S:Type} {r:Rp α} {rb:Rp β}
theorem compIf_at {J:It} {loc:List Str} {cap:List (Str × Nat)} {g:TG} {tt:TT} {te:TE} {t:β->Option Bool} {f:β->Option α} {m:Nat} {Γt:β->List Slot} {C:Fc} {F' H1:Hp} {σ:St} {Q:VK} {xs:List β} {as:List α} (S:SR C F' Γ σ H1) (W:Walks J F' rb xs) (hc:(cap.map (·.2)).Nodup) (hm:m<=loc.length) (hg:GV (csl loc cap Γ) m g rb Γt)
  (ht:∀ x,ET (Γt x) tt (t x)) (he:∀ x,EV (Γt x) te (f x) r) (e:Pu.dh t f xs=some as) (k:∀ p vs F2 H2,Ext F' H1 F2 H2->H2 p=none->Paired (r.rel F2) vs as->Q (.ref p) (upd H2 p (.lst vs))) (D:Addr) (hD:H1 D=none):cGoal g tt te loc cap σ D Q J H1:=by
 unfold Pu.dh at e
 split at e
 case isFalse=>cases e
 rename_i hl
 have sn:∀ j,j<m->(st0 loc cap σ)[j]?=some none:=λj hj=>by
  unfold st0
  rw [X8 (by simp; exact nz1 hj hm),X2,Z9 (by exact nz1 hj hm)]
  rfl
 refine comp_it (n:=xs.length) (λi ys H2=>∃ F1 G p,H2=upd G D (.lst ys)/\G D=none/\Ext F' H1 F1 G/\Pu.bv t f (xs.take i)=some p/\Paired (r.rel F1) ys p) (oi35 F' H1 ([]) rfl hD (Ext.refl S.sub) (by rw [List.take_zero]; rfl) .nil) ?_ ?_ ?_ ?_ ?_
 ·intro i ys H2 _ zq; refine oq32 zq λF1 G p eq3_ _=>?_; subst eq3_; exact ah
 ·intro i ys H2 hi zq; refine oq34 zq λF1 G p eq3_ hG x2 _=>?_; subst eq3_; exact W.go i _ (x2.ff.trans (x2.sub.trans (aJ hG))) hi
 ·intro ys H2 zq; refine oq34 zq λF1 G p eq3_ hG x2 _=>?_; subst eq3_; exact W.stop _ (x2.ff.trans (x2.sub.trans (aJ hG)))
 ·rintro i ys H2 x H' hi ⟨F1,G,p,rfl,hG,x2,hp,pr⟩ y
  have sFH:=x2.sub.trans (aJ (o:=.lst ys) hG)
  refine oq23 (W.yld i _ x H' F1 (x2.ff.trans sFH) hi y x2.ff sFH) λF2 a ha x3 ra=>?_
  have F1D:F1 D=none:=x2.sub.free hG
  have noD:∀ {A B:Hp},Ext F1 (upd G D (.lst ys)) A B->A D=none:=λ{A B} x=>by
   cases q:A D with
   | none=>rfl
   | some o =>
    rcases x.nw D o q with z | z
    ·rw [F1D] at z; cases z
    ·rw [ah] at z; cases z
  have S3:SR C F2 (csl loc cap Γ) (st0 loc cap σ) H':=((((S.grow x2).comp hc).grow (Ext.newH x2.sub hG)).grow x3)
  have fin:∀ {A B:Hp} {zs:List V} {pp:List α},Ext F1 (upd G D (.lst ys)) A B->Pu.bv t f (xs.take (i+1))=some pp->Paired (r.rel A) zs pp->∃ F1 G p,upd B D (.lst zs)=upd G D (.lst zs)/\G D=none/\Ext F' H1 F1 G/\Pu.bv t f (xs.take (i+1))=some p/\Paired (r.rel F1) zs p:=λ{A B zs pp} x hpp pz=>by
   refine (oi35 A (del B D) pp ?_ dY ⟨sm_del (x2.hh.trans ((qR (o:=.lst ys) hG trivial).trans x.hh)) hD (x.hh.kp D (.lst ys) trivial ah) trivial,x2.ff.trans x.ff,λb o h=>?_,λb o h=>?_,λz=>x.nt (x2.nt z)⟩ hpp pz)
   ·funext b; unfold upd del; split <;> rfl
   ·rw [c7 (af h (noD x))]; exact x.sub b o h
   ·rcases x.nw b o h with z | z
    ·exact x2.nw b o z
    ·have n:b≠D:=by rintro rfl; rw [ah] at z; cases z
     rw [ai n] at z; exact .inr (x2.hh.un z)
  refine oq24 (Pu.compF_at e ha) λp' b h1 h2 h3 h4=>?_
  rw [hp] at h1
  cases h1
  refine hg C F2 _ H' x a _ S3 ra λσ' S4 wk=>⟨wk sn,?_⟩
  refine ht a C F2 σ' H' _ b S4 h2 λF3 H3 x4=>?_
  cases b with
  | false =>
   have hB:H3 D=some (.lst ys):=(x3.trans x4).hh.kp D (.lst ys) trivial ah
   refine oq35 (fin (x3.trans x4) (h4 rfl) (Paired.imp2 (λ_ _ z=>r.mono (x3.ff.trans x4.ff) z) pr)) λF5 G5 p5 q1 q2 q3 q4 q5=>?_
   refine ⟨F5,G5,p5,?_,q2,q3,q4,q5⟩
   rw [<- q1]
   funext b; unfold upd; split
   ·rename_i z; rw [z]; exact hB
   ·rfl
  | true =>
   refine oq12 (h3 rfl) λc h5 h6=>?_
   refine he a C F3 σ' H3 _ c (S4.grow x4) h5 λv F4 H4 x5 rv=>?_
   have x6:=(x3.trans x4).trans x5
   refine (oi03 (x6.hh.kp D (.lst ys) trivial ah) ?_ (fin x6 h6 (Paired.app (Paired.imp2 (λ_ _ z=>r.mono x6.ff z) pr) (.cons rv .nil))))
   have:=Pu.iD hp
   rw [pr.length,V8]
   rw [V7] at this
   omega
 ·intro ys H2 zq; refine oq35 zq λF1 G p eq3_ hG x2 hp pr=>?_; subst eq3_
  rw [N7,e] at hp
  cases hp
  exact k D ys F1 G x2 hG pr
theorem eM {wi:TI} {loc:List Str} {cap:List (Str × Nat)} {g:TG} {tt:TT} {te:TE} {ox:Option (List β)} {t:β->Option Bool} {f:β->Option α} {m:Nat} {Γt:β->List Slot} (hi:IV Γ wi ox rb) (hc:(cap.map (·.2)).Nodup) (hm:m<=loc.length) (hg:GV (csl loc cap Γ) m g rb Γt)
  (ht:∀ x,ET (Γt x) tt (t x)) (he:∀ x,EV (Γt x) te (f x) r):EVL Γ (tComp wi loc cap g tt te) (ox.bind λxs=>Pu.dh t f xs) r:=by
 intro C F σ H Q as S e k
 refine oq12 (a8 e) λxs e1 e=>?_
 exact hi C F σ H _ xs S e1 λJ F' H1 x1 W D hD=>compIf_at (S.grow x1) W hc hm hg ht he e (λp vs F2 H2 x2=>k p vs F2 H2 (x1.trans x2)) D hD
theorem bz {wi:TI} {loc:List Str} {cap:List (Str × Nat)} {g:TG} {te:TE} {ox:Option (List β)} {f:β->Option α} {m:Nat} {Γt:β->List Slot} (hi:IV Γ wi ox rb) (hc:(cap.map (·.2)).Nodup) (hm:m<=loc.length) (hg:GV (csl loc cap Γ) m g rb Γt)
  (he:∀ x,EV (Γt x) te (f x) r):EVL Γ (tComp wi loc cap g tTrue te) (ox.bind λxs=>Pu.comp f xs) r:=by
 have h:=eM (t:=λ_=>some true) hi hc hm hg (λ_=>et_true) he
 have e:(λxs=>Pu.dh (λ_=>some true) f xs)=λxs=>Pu.comp f xs:=by
  funext xs; unfold Pu.dh Pu.comp; rw [Pu.oJ]
 rw [e] at h; exact h
end
end
section
open PySem PySem.Spec PyProof.Rows
variable [Kon]
section
variable {α S T R:Type}
def BV (Γ:List Slot) (t:TS) (o:Option T) (fin:Fc->T->Ends->Prop):Prop:=∀ C F σ H D x,SR C F Γ σ H->o=some x->fin C x D->t D σ H
def finV (r:Rp α):Fc->α->Ends->Prop:=λC a D=>∀ v F H,Fr C F H->r.rel F v a->D.rt v H
def finL (r:Rp α):Fc->List α->Ends->Prop:=λC xs D=>∀ p vs F H,Fr C F H->H p=none->Paired (r.rel F) vs xs->D.rt (.ref p) (upd H p (.lst vs))
theorem tbg_del {H:Hp} {p:Addr} {u:HO} (g:TbG H) (h:H p=some u) (a:Own u):TbG (del H p):=by
 have ne:∀ {c:Addr} {o:HO},H c=some o->(u=o->False)->c≠p:=λq n z=>n (Z7 (h.symm.trans (z ▸ q)))
 exact g.mv (λ_ _ q=>(c7 (ne q λz=>mJ z a.noTbl)).trans q) (λ_ _ q=>(c7 (ne q λz=>mK a z)).trans q) λ_ _ q=>(cW q).2
structure RFin (rf:Fc->R->Ends->Prop):Prop where
 lo:∀ {C F x D},Same C.L F->rf C x D->rf { C with L:=F } x D
 en:∀ {C x D nx bk ct},rf C x D->rf C x { D with nx:=nx,bk:=bk,ct:=ct }
theorem rfV {r:Rp α}:RFin (finV r):=⟨λe h v F H f q=>h v F H (f.raise e) q,λh=>h⟩
def finS (Γf:S->List Slot):Fc->S->Ends->Prop:=λC s D=>∀ F σ H,SR C F (Γf s) σ H->D.nx σ H/\D.ct σ H
def finC (Γf:S->List Slot) (rf:Fc->R->Ends->Prop):Fc->Pu.Ctl S R->Ends->Prop:=λC c D=>match c with
 | .nx s=>∀ F σ H,SR C F (Γf s) σ H->D.nx σ H/\D.ct σ H
 | .bk s=>∀ F σ H,SR C F (Γf s) σ H->D.bk σ H
 | .rt r=>rf C r D
def finJ (Γj:S->List Slot):Fc->S->Ends->Prop:=λC s D=>∀ F σ H,SR C F (Γj s) σ H->D.nx σ H
end
section
variable {Γ:List Slot} {α β S T R:Type} {r:Rp α} {s:Rp β} {te:TE} {oa:Option α} {u t t':TS} {o o':Option T} {fin:Fc->T->Ends->Prop}
theorem BV.cast (h:BV Γ t o fin) (e:o'=o):BV Γ t o' fin:=e ▸ h
theorem b8 (h:BV Γ (tSeq t jx) o fin):BV Γ t o fin:=h
theorem fy (h:BV Γ (tSeq t (tSeq t' u)) o fin):BV Γ (tSeq (tSeq t t') u) o fin:=h
theorem bE (h:BV Γ u o fin):BV Γ (tSeq jx u) o fin:=h
theorem bv_sub {Γ':List Slot} (hs:SubL Γ Γ') (h:BV Γ' t o fin):BV Γ t o fin:=λC F σ H D x S e f=>by
 refine oq12 (S.weak hs) λF' _ S'=>?_
 exact h C F' σ H D x S' e f
theorem ay {f:α->Option T} (i:Nat) (he:EV Γ te oa r) (h:∀ a,BV (Γ.set i (.fr r a)) u (f a) fin):BV Γ (tSeq (tAsg te (gd i)) u) (oa.bind f) fin:=by
 intro C F σ H D x S e k
 refine oq12 (a8 e) λa e1 e=>?_
 exact he C F σ H _ a S e1 λv F' H' x1 r1=>h a C F' _ H' D x ((S.grow x1).setF i r1) e k
theorem cT {ol:Option (List α)} {f:List α->Option T} (i:Nat) (he:EVL Γ te ol r) (h:∀ a,BV (Γ.set i (.ol r tt_ a)) u (f a) fin):BV Γ (tSeq (tAsg te (gd i)) u) (ol.bind f) fin:=by
 intro C F σ H D x S e k
 refine oq12 (a8 e) λa e1 e=>?_
 exact he C F σ H _ a S e1 λp vs F' H' x1 hp r1=>h a C F' _ _ D x ((S.grow x1).setO i hp rfl ⟨p,vs,rfl,trivial,(S.grow x1).keep.free hp,x1.sub.free hp,ah,r1⟩) e k
theorem bv_asg {g:TG} {m:Nat} {Γt:α->List Slot} {f:α->Option T} (he:EV Γ te oa r) (hg:GV Γ m g r Γt) (h:∀ a,BV (Γt a) u (f a) fin):BV Γ (tSeq (tAsg te g) u) (oa.bind f) fin:=by
 intro C F σ H D x S e k
 refine oq12 (a8 e) λa e1 e=>?_
 exact he C F σ H _ a S e1 λv F' H' x1 r1=>hg C F' σ H' v a _ (S.grow x1) r1 λσ' S' _=>h a C F' σ' H' D x S' e k
theorem dj {tt:TT} {oc:Option Bool} (hc:ET Γ tt oc) (h1:BV Γ (tSeq t u) o fin) (h2:BV Γ (tSeq t' u) o' fin):BV Γ (tSeq (tIfS tt t t') u) (oc.bind λb=>if b=true then o else o') fin:=by
 intro C F σ H D x S e k
 refine oq12 (a8 e) λb e1 e=>?_
 refine hc C F σ H _ b S e1 λF' H' x1=>?_
 cases b with
 | true=>exact h1 C F' σ H' D x (S.grow x1) e k
 | false=>exact h2 C F' σ H' D x (S.grow x1) e k
theorem bv_join {Γj:S->List Slot} {oj:Option S} {f:S->Option T} (h1:BV Γ t oj (finJ Γj)) (h:∀ s,BV (Γj s) u (f s) fin):BV Γ (tSeq t u) (oj.bind f) fin:=by
 intro C F σ H D x S e k
 refine oq12 (a8 e) λs e1 e=>?_
 exact h1 C F σ H _ s S e1 λF' σ' H' S'=>h s C F' σ' H' D x S' e k
theorem gV {Γj:S->List Slot} (st:S) (hs:SubL Γ (Γj st)):BV Γ jx (some st) (finJ Γj):=λC F σ H D x S e k=>by
 cases e
 refine oq12 (S.weak hs) λF' _ S'=>?_
 exact k F' σ H S'
theorem bA (he:EV Γ te oa r):BV Γ (tRet te) oa (finV r):=λC F σ H D x S e k=>he C F σ H _ x S e λv F' H' x1 r1=>k v F' H' (S.toFr.grow x1) r1
theorem ce {ol:Option (List α)} (he:EVL Γ te ol r):BV Γ (tRet te) ol (finL r):=λC F σ H D x S e k=>he C F σ H _ x S e λp vs F' H' x1 hp r1=>k p vs F' H' (S.toFr.grow x1) hp r1
theorem jn {φ:Addr->Prop} {xs:List α} (i:Nat) (hi:Γ[i]?=some (.ol r φ xs)):BV Γ (tRet (tVar i)) (some xs) (finL r):=λC F σ H D x S e k=>by
 cases e
 refine oq12 (S.at_ i _ hi) λo h1 zz=>oq26 zz λp vs eq4_ h2 h3 h4 h5 h6=>?_; subst eq4_
 refine ⟨.ref p,h1,?_⟩
 have eH:H=upd (del H p) p (.lst vs):=by
  funext b; unfold upd del; split
  ·rename_i z; rw [z]; exact h5
  ·rfl
 rw [eH]
 have sd:Sm C.H0 (del H p):=sm_del S.keep h3 h5 trivial
 refine k p vs F (del H p) ⟨sd,S.low,λb o h=>?_,S.base,S.nt,tbg_del S.tg h5 trivial⟩ dY h6
 rw [c7 (af h h4)]; exact S.sub b o h
theorem dE (h:BV Γ (tRet te) o fin):BV Γ (tSeq (tRet te) u) o fin:=λC F σ H D x S e k=>h C F σ H D x S e k
theorem bv_retC {Γf:S->List Slot} {rf:Fc->R->Ends->Prop} {oR:Option R} (h:BV Γ (tRet te) oR rf):BV Γ (tRet te) (oR.bind λa=>some (.rt a)) (finC Γf rf):=λC F σ H D x S e k=>by
 refine oq12 (a8 e) λa e1 e=>?_
 cases e
 exact h C F σ H D a S e1 k
theorem b9 {Γf:S->List Slot} (st:S) (hs:SubL Γ (Γf st)):BV Γ jx (some st) (finS Γf):=λC F σ H D x S e k=>by
 cases e
 refine oq12 (S.weak hs) λF' _ S'=>?_
 exact (k F' σ H S').1
theorem oM {Γf:S->List Slot} {rf:Fc->R->Ends->Prop} (st:S) (hs:SubL Γ (Γf st)):BV Γ jx (some (.nx st)) (finC Γf rf):=λC F σ H D x S e k=>by
 cases e
 refine oq12 (S.weak hs) λF' _ S'=>?_
 exact (k F' σ H S').1
end
end
section
open PySem PySem.Spec PyProof.Rows
variable [Kon]
section
variable {Γ:List Slot} {α β S T R:Type} {r:Rp α} {s:Rp β} {rb:Rp β} {tb te:TE} {oa:Option α} {K:Z3} {oi:Option Int} {u tl:TS} {o o':Option T} {fin:Fc->T->Ends->Prop}
theorem bv_forC {wi:TI} {g:TG} {ox:Option (List β)} {Γf:S->List Slot} {Γt:S->β->List Slot} {m:Nat} {body:S->β->Option (Pu.Ctl S R)} {rf:Fc->R->Ends->Prop} {f:S->Option T} {e:R->T} (st:S) (hi:IV Γ wi ox rb) (hs:SubL Γ (Γf st)) (hg:∀ s,GV (Γf s) m g rb (Γt s))
  (hb:∀ s x,BV (Γt s x) tl (body s x) (finC Γf rf)) (hr:RFin rf) (he:∀ C x D,fin C (e x) D->rf C x D) (h:∀ s,BV (Γf s) u (f s) fin):BV Γ (tSeq (tFor wi g tl) u) (ox.bind λxs=>Pu.andThen (Pu.forC body xs st) f e) fin:=by
 intro C F σ H D x S0 e0 k
 refine oq12 (a8 e0) λxs e1 e0=>?_
 refine hi C F σ H _ xs S0 e1 λJ F' H1 x1 W=>?_
 refine oq12 ((S0.grow x1).weak hs) λF2 f2 S2=>?_
 have L1:Same C.L F2:=S2.low
 refine ⟨λi m σ H=>∃ F3 s',m=xs.length - i/\i<=xs.length/\SR { C with L:=F2 } F3 (Γf s') σ H/\Pu.andThen (Pu.forC body (xs.drop i) s') f e=some x,⟨xs.length,F2,st,by simp,U2 _,S2.lower,by rw [D3]; exact e0⟩,?_⟩
 intro i m σ H zq; refine oq24 zq λF3 s' eq2_ hil S3 e3=>?_; subst eq2_
 by_cases hlt:i<xs.length
 ·refine .inr ⟨W.go i H (f2.trans (S3.low.trans S3.sub)) hlt,λσ' H'=>∃ F3 s',i+1<=xs.length/\SR { C with L:=F2 } F3 (Γf s') σ' H'/\Pu.andThen (Pu.forC body (xs.drop (i+1)) s') f e=some x,
   λσ' H' zq=>oq23 zq λF3 s' h1 h2 h3=>⟨xs.length - (i+1),by omega,F3,s',rfl,h1,h2,h3⟩,λv H' y=>?_⟩
  refine oq23 (W.yld i H v H' F3 (f2.trans (S3.low.trans S3.sub)) hlt y (f2.trans S3.low) S3.sub) λF4 a ha x4 ra=>?_
  have ea:xs[i]=a:=(Z4.mp ha).2
  rw [<- C2 (h:=hlt),ea,Pu.forC] at e3
  unfold Pu.andThen at e3
  refine oq12 (a8 e3) λc1 e4 e5=>?_
  refine oq12 (a8 e4) λc e6 e7=>?_
  refine hg s' _ F4 σ H' v a _ (S3.grow x4) ra λσ' S4 _=>?_
  refine hb s' a _ F4 σ' H' _ c S4 e6 ?_
  cases c with
  | nx s2=>exact λF5 σ5 H5 S5=>⟨⟨F5,s2,hlt,S5,by unfold Pu.andThen; rw [show Pu.forC body (xs.drop (i+1)) s2=some c1 from e7]; exact e5⟩,⟨F5,s2,hlt,S5,by unfold Pu.andThen; rw [show Pu.forC body (xs.drop (i+1)) s2=some c1 from e7]; exact e5⟩⟩
  | bk s2 =>
   cases e7
   exact λF5 σ5 H5 S5=>h s2 C F5 σ5 H5 D x (S5.raise L1) e5 k
  | rt r2 =>
   cases e7
   cases e5
   exact hr.en (hr.lo L1 (hr.en (nx:=u D) (bk:=D.bk) (ct:=D.ct) (he C r2 D k)))
 ·have ei:i=xs.length:=by exact T2 hil (U3.mp hlt)
  subst ei
  rw [List.drop_length,Pu.forC] at e3
  exact .inl ⟨W.stop H (f2.trans (S3.low.trans S3.sub)),h s' C F3 σ H D x (S3.raise L1) e3 k⟩
theorem cy {wi:TI} {g:TG} {ox:Option (List β)} {Γf:S->List Slot} {Γt:S->β->List Slot} {m:Nat} {body:S->β->Option S} {f:S->Option T} (st:S) (hi:IV Γ wi ox rb) (hs:SubL Γ (Γf st)) (hg:∀ s,GV (Γf s) m g rb (Γt s))
  (hb:∀ s x,BV (Γt s x) tl (body s x) (finS Γf)) (h:∀ s,BV (Γf s) u (f s) fin):BV Γ (tSeq (tFor wi g tl) u) (ox.bind λxs=>(Pu.forS body xs st).bind f) fin:=by
 intro C F σ H D x S0 e0 k
 refine oq12 (a8 e0) λxs e1 e0=>?_
 refine hi C F σ H _ xs S0 e1 λJ F' H1 x1 W=>?_
 refine oq12 ((S0.grow x1).weak hs) λF2 f2 S2=>?_
 have L1:Same C.L F2:=S2.low
 refine ⟨λi m σ H=>∃ F3 s',m=xs.length - i/\i<=xs.length/\SR { C with L:=F2 } F3 (Γf s') σ H/\(Pu.forS body (xs.drop i) s').bind f=some x,⟨xs.length,F2,st,by simp,U2 _,S2.lower,by rw [D3]; exact e0⟩,?_⟩
 intro i m σ H zq; refine oq24 zq λF3 s' eq2_ hil S3 e3=>?_; subst eq2_
 by_cases hlt:i<xs.length
 ·refine .inr ⟨W.go i H (f2.trans (S3.low.trans S3.sub)) hlt,λσ' H'=>∃ F3 s',i+1<=xs.length/\SR { C with L:=F2 } F3 (Γf s') σ' H'/\(Pu.forS body (xs.drop (i+1)) s').bind f=some x,
   λσ' H' zq=>oq23 zq λF3 s' h1 h2 h3=>⟨xs.length - (i+1),by omega,F3,s',rfl,h1,h2,h3⟩,λv H' y=>?_⟩
  refine oq23 (W.yld i H v H' F3 (f2.trans (S3.low.trans S3.sub)) hlt y (f2.trans S3.low) S3.sub) λF4 a ha x4 ra=>?_
  have ea:xs[i]=a:=(Z4.mp ha).2
  rw [<- C2 (h:=hlt),ea,Pu.forS] at e3
  refine oq12 (a8 e3) λc1 e4 e5=>?_
  refine oq12 (a8 e4) λc e6 e7=>?_
  refine hg s' _ F4 σ H' v a _ (S3.grow x4) ra λσ' S4 _=>?_
  refine hb s' a _ F4 σ' H' _ c S4 e6 ?_
  exact λF5 σ5 H5 S5=>⟨⟨F5,c,hlt,S5,by rw [e7]; exact e5⟩,⟨F5,c,hlt,S5,by rw [e7]; exact e5⟩⟩
 ·have ei:i=xs.length:=by exact T2 hil (U3.mp hlt)
  subst ei
  rw [List.drop_length,Pu.forS] at e3
  exact .inl ⟨W.stop H (f2.trans (S3.low.trans S3.sub)),h s' C F3 σ H D x (S3.raise L1) e3 k⟩
theorem bv_whS {tt:TT} {Γf:S->List Slot} {tf:S->Option Bool} {body:S->Option S} {f:S->Option T} (n:Nat) (st:S) (hs:SubL Γ (Γf st)) (ht:∀ s,ET (Γf s) tt (tf s))
  (hb:∀ s,BV (Γf s) tl (body s) (finS Γf)) (h:∀ s,BV (Γf s) u (f s) fin):BV Γ (tSeq (tWhile tt tl) u) ((Pu.whS tf body n st).bind f) fin:=by
 intro C F σ H D x S0 e0 k
 refine oq12 (S0.weak hs) λF2 f2 S2=>?_
 refine ⟨λm σ H=>∃ F3 s',SR C F3 (Γf s') σ H/\(Pu.whS tf body m s').bind f=some x,⟨n,F2,st,S2,e0⟩,?_⟩
 intro m σ H zq; refine oq22 zq λF3 s' S3 e3=>?_
 cases m with
 | zero=>exact absurd e3 (by simp [Pu.whS])
 | succ m =>
  rw [Pu.whS] at e3
  refine oq12 (a8 e3) λc1 e4 e5=>?_
  refine oq12 (a8 e4) λb e6 e7=>?_
  refine ht s' C F3 σ H _ b S3 e6 λF4 H4 x4=>?_
  cases b with
  | false =>
   rw [if_neg Z8] at e7 ⊢
   cases e7
   exact h s' C F4 σ H4 D x (S3.grow x4) e5 k
  | true =>
   rw [if_pos rfl] at e7 ⊢
   refine oq12 (a8 e7) λc e8 e9=>?_
   refine ⟨λσ' H'=>∃ F3 s',SR C F3 (Γf s') σ' H'/\(Pu.whS tf body m s').bind f=some x,λσ' H' zq=>oq22 zq λF3 s' h1 h2=>⟨m,by exact U1 _,F3,s',h1,h2⟩,hb s' C F4 σ H4 _ c (S3.grow x4) e8 ?_⟩
   exact λF5 σ5 H5 S5=>⟨⟨F5,c,S5,by rw [e9]; exact e5⟩,⟨F5,c,S5,by rw [e9]; exact e5⟩⟩
section
variable {φ:Addr->Prop} {xs:List α} {kvs:List (Int × α)}
theorem da {f:List α->Option T} (i:Nat) (hi:Γ[i]?=some (.ol r φ xs)) (he:EV Γ te oa r) (h:∀ ys,BV (Γ.set i (.ol r φ ys)) u (f ys) fin):BV Γ (tSeq (tDrop (tBM K "list" rAppend (tVar i) (aZ te tNil))) u) (oa.bind λa=>(Pu.app xs a).bind f) fin:=by
 intro C F σ H D x S e k
 refine oq12 (a8 e) λa e1 e=>?_
 refine oq12 (a8 e) λys e2 e=>?_
 refine oq12 (S.at_ i _ hi) λo h1 zz=>oq26 zz λp vs eq4_ h2 h3 h4 h5 h6=>?_; subst eq4_
 refine ⟨.ref p,h1,.inl ⟨rfl,vs,SqL.of h5⟩,he C F σ H _ a S e1 λv F' H' x1 r1=>?_⟩
 have S':=S.grow x1
 refine oq12 (S'.at_ i _ hi) λo' q1 zz=>oq26 zz λp' vs' eq4_ q2 q3 q4 q5 q6=>?_; subst eq4_
 rw [h1] at q1
 cases q1
 unfold Pu.app at e2
 split at e2
 ·rename_i hl
  cases e2
  refine ⟨p,vs',v,rfl,rfl,q5,by rw [q6.length,V8]; exact hl,?_⟩
  exact h _ C F' σ _ D x (S'.chg hi rfl h1 q3 q4 rfl ⟨p,_,rfl,q2,q3,q4,ah,Paired.app q6 (.cons r1 .nil)⟩) e k
 ·cases e2
def lK (Γ:List Slot) (to:TE) (i:Nat):Prop:=∀ C F σ H Q v,SR C F Γ σ H->σ[i]?=some (some v)->Q v H->to σ H Q
theorem own_var (i:Nat):lK Γ (tVar i) i:=λ_ _ _ _ _ v _ h q=>⟨v,h,q⟩
theorem bv_setAtG {to:TE} {f:List α->Option T} (i:Nat) (ho:lK Γ to i) (hi:Γ[i]?=some (.ol r φ xs)) (hk:EV Γ tb oi rInt) (he:EV Γ te oa r) (h:∀ ys,BV (Γ.set i (.ol r φ ys)) u (f ys) fin) :
  BV Γ (tSeq (tAsg te (gSub to tb rSetL)) u) (oa.bind λa=>oi.bind λk=>(ixN xs.length k).bind λj=>f (xs.set j a)) fin:=by
 intro C F σ H D x S e k
 refine oq12 (a8 e) λa e1 e=>?_
 refine oq12 (a8 e) λn e2 e=>?_
 refine oq12 (a8 e) λj e3 e=>?_
 refine he C F σ H _ a S e1 λv F' H' x1 r1=>?_
 refine oq12 (S.at_ i _ hi) λo h1 _=>?_
 obtain ⟨p,rfl⟩:∃ p,o=some (.ref p):=by
  refine oq12 (S.at_ i _ hi) λo' h1' zz=>oq22 zz λp vs eq4_ _=>?_; subst eq4_
  rw [h1] at h1'
  exact ⟨p,Z7 h1'⟩
 refine ho C F' σ H' _ (.ref p) (S.grow x1) h1 (hk C F' σ H' _ n (S.grow x1) e2 λw F2 H2 x2 r2=>?_)
 have S':=(S.grow x1).grow x2
 refine oq12 (S'.at_ i _ hi) λo' q1 zz=>oq26 zz λp' vs' eq4_ q2 q3 q4 q5 q6=>?_; subst eq4_
 rw [h1] at q1
 cases q1
 refine ⟨p,vs',n,j,rfl,r2,q5,by rw [q6.length]; exact e3,?_⟩
 exact h _ C F2 σ _ D x (S'.chg hi rfl h1 q3 q4 rfl ⟨p,_,rfl,q2,q3,q4,ah,Paired.setB (r.mono x2.ff r1) j q6⟩) e k
theorem oN {f:List α->Option T} (i:Nat) (hi:Γ[i]?=some (.ol r φ xs)) (hk:EV Γ tb oi rInt) (he:EV Γ te oa r) (h:∀ ys,BV (Γ.set i (.ol r φ ys)) u (f ys) fin) :
  BV Γ (tSeq (tAsg te (gSub (tVar i) tb rSetL)) u) (oa.bind λa=>oi.bind λk=>(ixN xs.length k).bind λj=>f (xs.set j a)) fin:=bv_setAtG i (own_var i) hi hk he h
theorem bv_putG {to:TE} {f:List (Int × α)->Option T} (i:Nat) (ho:lK Γ to i) (hi:Γ[i]?=some (.od r φ kvs)) (hk:EV Γ tb oi rInt) (he:EV Γ te oa r) (h:∀ ys,BV (Γ.set i (.od r φ ys)) u (f ys) fin) :
  BV Γ (tSeq (sDPut to tb te) u) (oa.bind λa=>oi.bind λk=>if kvs.length<16777216 then f (Pu.put kvs k a) else none) fin:=by
 intro C F σ H D x S e k
 refine oq12 (a8 e) λa e1 e=>?_
 refine oq12 (a8 e) λn e2 e=>?_
 split at e
 case isFalse=>cases e
 rename_i hl
 refine he C F σ H _ a S e1 λv F' H' x1 r1=>?_
 refine oq12 (S.at_ i _ hi) λo h1 zz=>oq22 zz λp vs eq4_ _=>?_; subst eq4_
 refine ho C F' σ H' _ (.ref p) (S.grow x1) h1 (hk C F' σ H' _ n (S.grow x1) e2 λw F2 H2 x2 r2=>?_)
 have S':=(S.grow x1).grow x2
 refine oq12 (S'.at_ i _ hi) λo' q1 zz=>oq26 zz λp' vs' eq4_ q2 q3 q4 q5 q6=>?_; subst eq4_
 rw [h1] at q1
 cases q1
 cases r2
 refine (oi23 p _ rfl (DPut.k (k:=A1 n) q5 (by rw [q6.length,V8]; exact hl)) ?_)
 exact h _ C F2 σ _ D x (S'.chg hi rfl h1 q3 q4 rfl ⟨p,_,rfl,q2,q3,q4,ah,rg (r.mono x2.ff r1) q6⟩) e k
end
end
section
variable {P:W5} {w:World} {K:Z3} {mg:Str->Option Value} {base:Heap} {x:Str} {st:Stmt} {N ps:List Str} {k:Nat} {τ γ:Type} {ra:RpA τ} {r:Rp γ}
theorem SR.begin_ {F H:Hp} {vs:List V} {a:τ} {n:Nat} (sb:Same F H) (nt:NT F) (tg:TbG H) (h:ra.rel F vs a) (hn:N.length - vs.length=n):SR ⟨H,F,F⟩ F (ra.slots a++T6 n .any) (start N vs) H:=by
 refine oq02 (ra.ok h) λl g=>?_
 have noown:∀ (i:Nat) s,(ra.slots a++T6 n .any)[i]?=some s->s.own=false:=λi s h=>by
  by_cases hi:i<(ra.slots a).length
  ·rw [X8 hi] at h; exact (g i s h).1
  ·rw [Y5 (by exact U3.mp hi)] at h
   have:=W8 h
   rw [List.mem_replicate] at this
   rw [this.2]; rfl
 refine ⟨⟨Sm.refl _,Same.refl _,sb,λb o h=>.inl h,nt,tg⟩,?_,λi s hs=>?_,λi j s t p h1 h2 o1 o2 _ _=>?_⟩
 ·unfold start
  rw [Y8,Y8,Y3,B5,B5,l,<- hn,l]
 ·unfold start
  by_cases hi:i<(ra.slots a).length
  ·rw [X8 hi] at hs
   refine oq02 (g i s hs) λ_ zz=>oq12 zz λv g1 g2=>?_
   exact (oi12 (some v) (by rw [X8 (by simp [l,hi]),X2,g1]; rfl) (g2 H H))
  ·rw [Y5 (by exact U3.mp hi)] at hs
   have hm:=W8 hs
   rw [List.mem_replicate] at hm
   have hlt:=(Z4.mp hs).1
   rw [B5] at hlt
   rw [hm.2]
   exact (oi12 none (by rw [Y5 (by simp; exact nz4 (nz3 l) (U3.mp hi)),Y3,List.getElem?_replicate,if_pos (by omega)]) trivial)
 ·rw [noown i s h1] at o1; cases o1
noncomputable abbrev gu (P:W5) (w:World) (K:Z3) (mg:Str->Option Value) (base:Heap) (x:Str) (st:Stmt) (N:List Str) (k:Nat) (G:TS->Prop):Prop :=
 ∀ (f:Addr) (cdv:Value) (A:Around) (outer:List Env) (s:Shared) (H:Hp) (E:XK),Room k (A.deeper (envOfC x (aa st) s.heap.objs.size f cdv))->∃ t,PSs (cxOf CX0 P w K mg base N x (aa st) f cdv A outer s H E).nox (aF st) t/\G t
theorem az.pV {f:τ->Option γ} {n:Nat} (D:az K mg x st ps) (S:FnScope N ps (aa st)) (hl:∀ a,(ra.slots a).length=ps.length) (hn:N.length - ps.length=n)
  (h:gu P w K mg base x st N k λt=>∀ a,BV (ra.slots a++T6 n .any) t (f a) (finV r)):Has P w K mg base (k+1) x ps (spV ra r f):=by
 refine D.has S (λvs H Q E h=>?_) λfa cdv A outer s H vs Q E hr hsp=>?_
 ·refine oq35 h λF a c _ _ _ h1 _=>?_; rw [(ra.ok h1).1,hl]
 ·refine oq12 (h fa cdv A outer s H E hr) λt h1 h2=>?_
  refine oq36 hsp λF a c sb nt tg hr' hf q=>?_
  refine (oi12 t h1 (h2 a _ F _ H _ c (SR.begin_ sb nt tg hr' (by rw [(ra.ok hr').1,hl]; exact hn)) hf ?_))
  exact λv F' H' fr rv=>q v F' H' ⟨fr.keep,fr.low,fr.sub,fr.base,λ_=>fr.nt⟩ rv
theorem az.pL {f:τ->Option (List γ)} {n:Nat} (D:az K mg x st ps) (S:FnScope N ps (aa st)) (hl:∀ a,(ra.slots a).length=ps.length) (hn:N.length - ps.length=n)
  (h:gu P w K mg base x st N k λt=>∀ a,BV (ra.slots a++T6 n .any) t (f a) (finL r)):Has P w K mg base (k+1) x ps (spL ra r f):=by
 refine D.has S (λvs H Q E h=>?_) λfa cdv A outer s H vs Q E hr hsp=>?_
 ·refine oq35 h λF a c _ _ _ h1 _=>?_; rw [(ra.ok h1).1,hl]
 ·refine oq12 (h fa cdv A outer s H E hr) λt h1 h2=>?_
  refine oq36 hsp λF a c sb nt tg hr' hf q=>?_
  refine (oi12 t h1 (h2 a _ F _ H _ c (SR.begin_ sb nt tg hr' (by rw [(ra.ok hr').1,hl]; exact hn)) hf ?_))
  exact λp vs F' H' fr hp rv=>q p vs F' H' ⟨fr.keep,fr.low,fr.sub,fr.base,λ_=>fr.nt⟩ hp rv
end
end
open PySem PySem.Spec PyProof.Rows
structure Dt {α:Type} [DecidableEq α] (r:Rp α) where
 dat:α->PyData
 n:Nat
 ok:∀ {K:Z3} {H v a},r.rel H v a->DatV K H (dat a) v
 lay:∀ a,(dat a).canLay0=true
 dep:∀ a,(dat a).depth<=n
 eqv:∀ a b,PyData.eqv (dat a) (dat b)=decide (a=b)
noncomputable def dInt:Dt rInt:=⟨.int,0,λh=>by unfold DatV; exact h,λ_=>by rw [PyData.canLay0],λ_=>by rw [PyData.depth]; exact nz6 _,λa b=>by rw [PyData.eqv,T9]; simp⟩
section
variable {α β γ:Type} [DecidableEq α] [DecidableEq β] [DecidableEq γ] {r:Rp α} {s:Rp β}
theorem datVs_of {K:Z3} {H:Hp} (d:Dt r):∀ {vs:List V} {xs:List α},Paired (r.rel H) vs xs->ca K H (xs.map d.dat) vs:=λp=>by
 induction p with
 | nil=>unfold ca; rfl
 | cons h _ ih=>rw [V0]; unfold ca; exact (oi23 _ _ rfl (d.ok h) ih)
theorem layAll (d:Dt r):∀ xs:List α,PyData.canLayAll0 (xs.map d.dat)=true
 | []=>by simp [PyData.canLayAll0]
 | x :: xs=>by rw [V0,PyData.canLayAll0,layAll d xs,d.lay]; rfl
theorem depAll (d:Dt r):∀ xs:List α,PyData.depthAll (xs.map d.dat)<=d.n
 | []=>by simp [PyData.depthAll]
 | x :: xs=>by
  rw [V0,PyData.depthAll]
  have:=depAll d xs
  have:=d.dep x
  omega
theorem lL (d:Dt r):∀ xs ys:List α,PyData.eqvAll (xs.map d.dat) (ys.map d.dat)=decide (xs=ys)
 | [],[]=>by simp [PyData.eqvAll]
 | [],_ :: _=>by simp [PyData.eqvAll]
 | _ :: _,[]=>by simp [PyData.eqvAll]
 | x :: xs,y :: ys=>by
  rw [V0,V0,PyData.eqvAll,lL d xs ys,d.eqv]
  by_cases h:x=y <;> by_cases h':xs=ys <;> simp [h,h']
noncomputable def dL (d:Dt r):Dt (rL r):=⟨λxs=>.list (xs.map d.dat),d.n+1,λ{K H v a} h=>by
  refine oq23 h λp vs eq2_ h1 h2=>?_; subst eq2_
  unfold DatV; exact (oi23 p vs rfl (.inl h1) (datVs_of d h2)),
 λa=>by rw [PyData.canLay0]; exact layAll d a,λa=>by rw [PyData.depth]; have:=depAll d a; exact nz2 this (U1 _),λa b=>by rw [PyData.eqv]; exact lL d a b⟩
theorem ev_eqD [Kon] {Γ:List Slot} {K:Z3} {ta tb:TE} {oa ob:Option α} (d:Dt r) (ha:EV Γ ta oa r) (hb:EV Γ tb ob r) (hn:autoParam (d.n<=60) L2.a0q._auto_1):EV Γ (tOp (rEqD K) ta tb) (oa.bind λa=>ob.bind λb=>some (decide (a=b))) c6 :=
 j3 (r:=r) (s:=r) (λF H x y a b c Q sb r1 r2 e k=>by
  cases e
  refine ⟨_,_,d.ok (r.mono sb r1),d.ok (r.mono sb r2),d.lay _,d.lay _,?_,?_⟩
  ·have:=d.dep a; omega
  ·rw [d.eqv]; exact k _ rfl) ha hb
theorem ev_neD [Kon] {Γ:List Slot} {K:Z3} {ta tb:TE} {oa ob:Option α} (d:Dt r) (ha:EV Γ ta oa r) (hb:EV Γ tb ob r) (hn:autoParam (d.n<=60) L2.a0q._auto_1):EV Γ (tOp (rNeD K) ta tb) (oa.bind λa=>ob.bind λb=>some (!decide (a=b))) c6 :=
 j3 (r:=r) (s:=r) (λF H x y a b c Q sb r1 r2 e k=>by
  cases e
  refine ⟨_,_,d.ok (r.mono sb r1),d.ok (r.mono sb r2),d.lay _,d.lay _,?_,?_⟩
  ·have:=d.dep a; omega
  ·rw [d.eqv]; exact k _ rfl) ha hb
end
section
variable [Kon]
section
variable {Γ:List Slot} {α:Type} {r:Rp α} {ta tb tc:TE} {ox:Option Int} {n m v:Int}
theorem bt (ha:EV Γ ta ox rInt) (hb:EV Γ tb (some n) rInt) (hn:0<n):EV Γ (tOp (rI (λ_ j=>0<j) λi j=>.int (i % j)) ta tb) (ox.bind λa=>some (a % n)) rInt :=
 (fx ha hb).cast (by unfold Pu.fmod; simp [hn])
theorem dk (ha:EV Γ ta ox rInt) (hb:EV Γ tb (some n) rInt) (hn:0<n/\n<2 ^ 64):EV Γ (tOp (rI (λ_ j=>0<j/\j<2 ^ 64) λi j=>.int (i / j)) ta tb) (ox.bind λa=>some (a / n)) rInt :=
 (gQ ha hb).cast (by unfold Pu.fdiv; simp only [nza,if_pos hn])
theorem mT (ha:EV Γ ta ox rInt) (hb:EV Γ tb (some n) rInt) (hn:-(2 ^ 64)<n/\n<2 ^ 64):EV Γ (tOp (rI CMul λi j=>.int (i * j)) ta tb) (ox.bind λa=>some (a * n)) rInt :=
 (dR ha hb).cast (by
  have e:∀ a,Pu.mul a n=some (a * n):=λa=>if_pos (.inr hn)
  simp only [nza,e])
theorem eN (ha:EV Γ ta (some n) rInt) (hb:EV Γ tb (some m) rInt) (h:Pu.pow n m=some v):EV Γ (tOp (rI CPow λi j=>.int (i ^ j.toNat)) ta tb) (some v) rInt :=
 (ev_pow ha hb).cast (by simp only [nza,h])
section
variable {t u:TT} {a b:Bool}
theorem et_andT (h:ET Γ t (some a)) (h':ET Γ u (some b)):ET Γ (tAnd t u) (some (a && b)):=by
 have:=qW h h'
 cases a <;> exact this
theorem et_orT (h:ET Γ t (some a)) (h':ET Γ u (some b)):ET Γ (tOr t u) (some (a || b)):=by
 have:=et_or h h'
 cases a <;> exact this
theorem ev_ifxT {x y:α} (ht:ET Γ t (some a)) (ha:EV Γ ta (some x) r) (hb:EV Γ tb (some y) r):EV Γ (tIf t ta tb) (some (if a=true then x else y)) r:=by
 have:=qY ht ha hb
 cases a <;> exact this
theorem ev_chainT {g g':Int->Int->Bool} {x y z:Int} (ha:EV Γ ta (some x) rInt) (hb:EV Γ tb (some y) rInt) (hc:EV Γ tc (some z) rInt):EV Γ (qE (rI0 λi j=>.bl (g i j)) (rI0 λi j=>.bl (g' i j)) ta tb tc) (some (g x y && g' y z)) c6 :=
 (ev_chain ha hb hc).cast (by simp only [nza]; cases g x y <;> rfl)
end
end
def rj (K:Z3):Sp:=λvs H Q _=>∃ (a:Addr) (ns:List Int),vs=[.ref a]/\Ints K H a ns/\ns.length<=63/\TbG H/\∀ H',Q (.bl true) H'
theorem paired_ints {H:Hp}:∀ ns:List Int,Paired (rInt.rel H) (ns.map V.int) ns
 | []=>.nil
 | _ :: ns=>.cons rfl (paired_ints ns)
noncomputable def ntF (H:Hp):Hp:=λb=>match H b with
 | some (.tbl _)=>none
 | x=>x
theorem oO {H:Hp} {b:Addr} {o:HO} (h:ntF H b=some o):H b=some o/\cJ o:=by
 unfold ntF at h
 split at h
 ·cases h
 ·rename_i x hx
  refine ⟨h,?_⟩
  cases o with
  | tbl ps=>exact absurd h (hx ps)
  | _=>trivial
theorem ntF_of {H:Hp} {b:Addr} {o:HO} (h:H b=some o) (n:cJ o):ntF H b=some o:=by
 unfold ntF
 split
 ·rename_i ps e; rw [h] at e; cases e; exact n.elim
 ·exact h
theorem ntF_seq {K:Z3} {H:Hp} {a:Addr} {xs:List V} (h:SqL K H a xs):SqL K (ntF H) a xs:=by
 rcases h with (h | ⟨o,h⟩) | h
 ·exact .inl (.inl (ntF_of h trivial))
 ·exact .inl (.inr ⟨o,ntF_of h trivial⟩)
 ·exact .inr h
theorem Fun.law {P:W5} {w:World} {K:Z3} {mg:Str->Option Value} {base:Heap} {st:Stmt} {N:List Str} {p:Str} {k n:Nat} {f:Addr} {fd:C9} {fl:List Int->Option Bool} (F:Fun K "law" "law" st f fd) (S:FnScope N [p] (aa st)) (hn:N.length - 1=n) (hl:∀ ns,ns.length<=63->fl ns=some true)
  (h:gu P w K mg base "law" st N k λt=>∀ a,BV ((aOne (rScr K)).slots a++T6 n .any) t (fl a) (finV c6)):FnOk P w K mg base CX0 (k+1) f fd [p] (rj K):=by
 refine F.ok S (λvs H Q E h=>?_) (λcdv A outer s H vs Q E hr hsp=>?_)
 ·refine oq22 h λa ns eq2_ _=>?_; subst eq2_; rfl
 ·refine oq12 (h f cdv A outer s H E hr) λt h1 h2=>?_
  refine oq25 hsp λa ns eq2_ hS hlen tg q=>?_; subst eq2_
  refine (oi12 t h1 (h2 ns _ (ntF H) _ H _ true (SR.begin_ (ra:=aOne (rScr K)) (λb o h=>(oO h).1) (λb ps h=>(oO h).2) tg ⟨.ref a,rfl,a,_,rfl,ntF_seq hS,paired_ints ns⟩ hn) (hl ns hlen) ?_))
  intro v F' H' _ rv
  cases rv
  exact q H'
@[reducible] noncomputable def kon0:Kon:=⟨[],λ_=>""⟩
theorem tbg0 {H:Hp} (h:Only H):@TbG kon0 H:=@TbG.mk kon0 H (λP hP=>nomatch hP) λP ps e=>by
 rcases h P with z | ⟨o,xs,z⟩
 ·rw [z] at e; cases e
 ·rw [z] at e; cases e
end
end L2
namespace Pu
noncomputable def srtI (ns:List Int):List Int:=ns.mergeSort λa b=>decide (a<=b)
theorem fY (ns:List Int):(srtI ns).Perm ns:=E7 _ _
theorem oP (ns:List Int):(srtI ns).Pairwise (·<=·):=by
 have h:=D4 (le:=λa b:Int=>decide (a<=b)) (λa b c h1 h2=>by simp at *; exact P4 h1 h2) (λa b=>by simp; omega) ns
 exact h.imp λh=>by simpa using h
noncomputable def sortI (ns:List Int):Option (List Int):=if ns.length<64 then some (srtI ns) else none
noncomputable def lt2 (a b:Int × Int):Bool:=decide (a.1<b.1\/a.1=b.1/\a.2<b.2)
noncomputable def le2 (a b:Int × Int):Bool:=decide (a.1<b.1\/a.1=b.1/\a.2<=b.2)
noncomputable def srtP (ps:List (Int × Int)):List (Int × Int):=ps.mergeSort le2
theorem iE (ps:List (Int × Int)):(srtP ps).Perm ps:=E7 _ _
theorem iF (a b c:Int × Int) (h1:le2 a b=true) (h2:le2 b c=true):le2 a c=true:=by
 unfold le2 at *; simp only [decide_eq_true_eq] at *; omega
theorem iG (a b:Int × Int):(le2 a b || le2 b a)=true:=by
 unfold le2; simp only [Bool.or_eq_true,decide_eq_true_eq]; omega
theorem fz (ps:List (Int × Int)):(srtP ps).Pairwise λa b=>le2 a b=true:=D4 iF iG ps
theorem oQ {a b:Int × Int} (h1:le2 a b=true) (h2:le2 b a=true):a=b:=by
 unfold le2 at *; simp only [decide_eq_true_eq] at *
 obtain ⟨a1,a2⟩:=a; obtain ⟨b1,b2⟩:=b
 simp only at *
 have e1:a1=b1:=by omega
 have e2:a2=b2:=by omega
 rw [e1,e2]
theorem fD {α:Type} {le:α->α->Prop} (anti:∀ a b,le a b->le b a->a=b) {l m:List α} (hp:l.Perm m) (hl:l.Pairwise le) (hm:m.Pairwise le):l=m :=
 hp.eq_of_pairwise (λa b _ _ h1 h2=>anti a b h1 h2) hl hm
end Pu
namespace L2
section
open PySem PySem.Spec PyProof.Rows
variable [Kon]
theorem mU {ns:List Int}:∀ {vs:List Value},Vals (ns.map V.int) vs->J8 vs ns:=by
 induction ns with
 | nil=>intro vs h; cases h; exact .nil
 | cons n ns ih =>
  intro vs h
  cases h with
  | cons r t=>refine oq11 r λk eq1_=>?_; subst eq1_; exact .cons n k (ih t)
section
variable {X:Cx} {K:Z3}
theorem op_neDK (h:X.K=K) (hu:X.A.units+64<cLine):OpR X (N5 .NotEq) (rNeD K):=by
 subst h
 intro pins s σ H x y v u Q I rx ry h
 refine oq26 h λdx dy h1 h2 c1 c2 dp q=>?_
 refine oq11 (DatV.reads I h1 rx) λas ra=>?_
 refine oq11 (DatV.reads I h2 ry) λbs rb=>?_
 exact SeqAt.compareNe_reads ra rb c1 c2 (by omega) ⟨.bl _,H,I,rfl,q⟩
end
section
variable {vs:List Value}
open PySem.W
noncomputable def cX (vs:List Value) (p:Array Nat):Array Value:=Z6 (p.toList.map λi=>vs.getD i M7)
theorem jR (p:Array Nat):(cX vs p).size=p.size:=by unfold cX; simp
end
section
variable {X:Cx}
open PySem.W
theorem lex_pair (a b:Int × Int):HT.lexLt [a.1,a.2] [b.1,b.2]=Pu.lt2 a b:=by
 unfold Pu.lt2 HT.lexLt HT.lexLt HT.lexLt
 by_cases h:a.1=b.1
 ·rw [if_pos h]
  by_cases h':a.2=b.2
  ·rw [if_pos h',T9]; simp; omega
  ·rw [if_neg h',T9]; simp; omega
 ·rw [if_neg h,T9]; simp; omega
def eO (h:Heap) (vs:List Value) (ps:List (Int × Int)):Prop:=Paired (λv p=>∃ a o xs n t u,v=S7 a/\h.get? a=some o/\o.cls=.type "tuple"/\o.data=.seq xs n/\xs=#[O9 p.1 t,O9 p.2 u]) vs ps
theorem eO.kept {h h':Heap} {vs:List Value} {ps:List (Int × Int)} (p:eO h vs ps) (k:∀ b o,h.get? b=some o->h'.get? b=some o):eO h' vs ps:=Paired.imp2 (λ_ _ zq=>oq63 zq λa o xs n t u e1 e2 e3=>(oi63 a o xs n t u e1 (k _ _ e2) e3)) p
theorem eO.tups {h:Heap}:∀ {vs:List Value} {ps:List (Int × Int)},eO h vs ps->∃ fs,KatTups h vs fs/\fs.length=ps.length/\∀ v∈fs,∃ i t,v=O9 i t:=λp=>by
 induction p with
 | nil=>exact (oi13 ([]) trivial rfl (λ_ h=>nomatch h))
 | cons z r ih =>
  refine oq65 z λa o xs n t u e1 e2 e3 e4 e5=>?_
  refine oq13 ih λfs g1 g2 g3=>?_
  subst e1 e5
  refine (oi13 (_ :: fs) (KatTups.cons e2 e3 e4 rfl g1) (by simp [g2]) (λv hv=>?_))
  rcases Y4.mp hv with rfl | hv
  ·exact (oi21 _ _ rfl)
  ·exact g3 v hv
theorem lM {prog:W5} {w:World} {A:Around} {s:Shared} {vs:List Value} {ps:List (Int × Int)} (p:eO s.heap vs ps) {i j:Nat} {C:Bool->Shared->Prop} (hi:i<vs.length) (hj:j<vs.length) (h:C (Pu.lt2 (ps.getD i (0,0)) (ps.getD j (0,0))) s) :
  kas_ask prog w A (tuples' true) vs i j C s:=by
 have hl:vs.length=ps.length:=Paired.length p
 have at':∀ k,k<vs.length->∃ a o xs n t u,vs.getD k M7=S7 a/\s.heap.get? a=some o/\o.data=.seq xs n/\xs=#[O9 (ps.getD k (0,0)).1 t,O9 (ps.getD k (0,0)).2 u]:=λk hk=>by
  obtain ⟨y,e,a,o,xs,n,t,u,e1,e2,e3,e4,e5⟩:=fu p (Z9 hk)
  have h1:vs.getD k M7=vs[k]:=by simp [hk]
  have h2:ps.getD k (0,0)=y:=by simp [e]
  rw [h1,h2]
  exact (oi64 a o xs n t u e1 e2 e4 e5)
 refine oq64 (at' i hi) λa o xs n t u e1 e2 e3 e4=>?_
 refine oq64 (at' j hj) λa' o' xs' n' t' u' f1 f2 f3 f4=>?_
 unfold kas_ask
 rw [e1,f1]
 generalize ps.getD i (0,0)=x at *
 generalize ps.getD j (0,0)=y at *
 subst e4 f4
 refine kat_lt e2 e3 f2 f3 ?_
 refine kat_cons (wpAny_eqBool_int ?_)
 have second:x.1=y.1->KatLex prog w A true (decide ((#[O9 x.1 t,O9 x.2 u]:Array Value).size<(#[O9 y.1 t',O9 y.2 u']:Array Value).size)) C [(O9 x.2 u,O9 y.2 u')] 1 s:=λh1=>by
  refine kat_cons (wpAny_eqBool_int ?_)
  by_cases h2:x.2=y.2
  ·rw [show (x.2 == y.2)=true by simpa using h2]
   refine kat_yes (kat_nil ?_)
   have e:Pu.lt2 x y=false:=by unfold Pu.lt2; rw [decide_eq_false_iff_not]; omega
   rw [e] at h
   exact h
  ·rw [show (x.2 == y.2)=false by simpa using h2]
   refine kat_no (kat_one _ _ ?_)
   refine lt_int ?_
   have e:Pu.lt2 x y=decide (x.2<y.2):=by unfold Pu.lt2; rw [T9]; simp; omega
   rw [e] at h
   exact h
 by_cases h1:x.1=y.1
 ·rw [show (x.1 == y.1)=true by simpa using h1]
  exact kat_yes (second h1)
 ·rw [show (x.1 == y.1)=false by simpa using h1]
  refine kat_no ?_
  refine oneLt_int ?_
  have e:Pu.lt2 x y=decide (x.1<y.1):=by unfold Pu.lt2; rw [T9]; simp; omega
  rw [e] at h
  exact h
theorem lN {ps:List (Int × Int)} (hn:ps.Nodup):Srt.Lin (λi j=>Pu.lt2 (ps.getD i (0,0)) (ps.getD j (0,0))) ps.length:=by
 refine ⟨λi _=>?_,λi j k _ _ _ h1 h2=>?_,λi j hi hj hne h=>?_⟩
 ·unfold Pu.lt2; rw [decide_eq_false_iff_not]; omega
 ·unfold Pu.lt2 at *; rw [decide_eq_true_eq] at *; omega
 ·have ne:ps.getD i (0,0)≠ps.getD j (0,0):=by
   intro e
   have e1:ps.getD i (0,0)=ps[i]:=by simp [hi]
   have e2:ps.getD j (0,0)=ps[j]:=by simp [hj]
   rw [e1,e2] at e
   exact hne ((List.getElem_inj hn).mp e)
  generalize ps.getD i (0,0)=x at *
  generalize ps.getD j (0,0)=y at *
  unfold Pu.lt2 at *
  rw [decide_eq_false_iff_not] at h
  rw [decide_eq_true_eq]
  obtain ⟨x1,x2⟩:=x; obtain ⟨y1,y2⟩:=y
  have:¬ (x1=y1/\x2=y2):=λz=>ne (by rw [z.1,z.2])
  simp only at *
  omega
theorem Vals.pairs {X:Cx} {pins:List (Addr × Obj)} {σ:St} {H:Hp} {s:Shared} (I:Inv X pins σ H s):∀ {vs:List V} {its:List Value} {ps:List (Int × Int)},Vals vs its->Paired ((rT2 rInt rInt).rel H) vs ps->eO s.heap its ps:=λ{vs its ps} p0 p1=>by
 induction p0 generalizing ps with
 | nil=>cases p1; exact .nil
 | cons r t ih =>
  cases p1 with
  | cons z q =>
   refine .cons ?_ (ih q)
   refine oq34 z λp a b e1 e2 e3 e4=>?_
   subst e1
   cases r
   cases e3
   cases e4
   refine oq02 ((show aS X.prog X.w H s.heap p (.tup [.int _,.int _]) from I.hok p _ e2)) λ_ zz=>oq12 zz λits' rv zz=>oq13 zz λo h1 h2 zz=>oq11 zz λn h3=>?_
   cases rv with
   | cons r1 rv =>
    cases rv with
    | cons r2 rv =>
     cases rv
     refine oq11 r1 λt1 eq1_=>?_; subst eq1_
     refine oq11 r2 λt2 eq1_=>?_; subst eq1_
     exact (oi65 p o _ n t1 t2 rfl h1 h2 h3 rfl)
theorem up_srt {ps:List (Int × Int)} (hn:ps.Nodup) {p:Array Nat} (a:Srt.Arr ps.length p) (u:Srt.Up (λi j=>Pu.lt2 (ps.getD i (0,0)) (ps.getD j (0,0))) p ps.length):p.toList.map (λi=>ps.getD i (0,0))=Pu.srtP ps:=by
 have e0:ps=(X3 ps.length).map λi=>ps.getD i (0,0):=by
  apply List.ext_getElem
  ·simp
  ·intro i h1 h2; simp [h1]
 refine Pu.fD (le:=λa b=>Pu.le2 a b=true) (λa b=>Pu.oQ) ?_ ?_ (Pu.fz ps)
 ·refine List.Perm.trans ?_ (Pu.iE ps).symm
  have:=a.pm.map λi=>ps.getD i (0,0)
  rw [<- e0] at this
  exact this
 ·rw [M4]
  intro i j hi hj hij
  have hsz:p.toList.length=ps.length:=by rw [V9]; exact a.sz
  rw [Y3] at hi hj
  have h:=u i j hij (by exact nz1 hj (nz3 hsz))
  have g:∀ k (hk:k<p.toList.length),Srt.at' p k=p.toList[k]:=λk hk=>by
   unfold Srt.at'
   simp at hk
   simp [hk]
  rw [g i hi,g j hj] at h
  rw [List.getElem_map,List.getElem_map]
  unfold Pu.lt2 at h
  unfold Pu.le2
  rw [decide_eq_true_eq] at *
  omega
end
section
open PySem.W
theorem mV {α β:Type} {F:α->β->Prop} {l:List α} {m:List β} {x:α} {y:β} (p:Paired F l m) {i:Nat} (hi:i<l.length):F (l.getD i x) (m.getD i y):=by
 obtain ⟨b,e1,e2⟩:=fu p (Z9 hi)
 have h1:l.getD i x=l[i]:=by simp [hi]
 have h2:m.getD i y=b:=by simp [e1]
 rw [h1,h2]; exact e2
theorem cY {α β γ:Type} {F:β->γ->Prop} {f:α->β} {g:α->γ}:∀ {l:List α},(∀ a∈l,F (f a) (g a))->Paired F (l.map f) (l.map g)
 | [],_=>.nil
 | a :: l,h=>.cons (h a (Y4.mpr (.inl rfl))) (cY λb hb=>h b (Y4.mpr (.inr hb)))
end
section
theorem dq {F:Hp}:∀ {vs:List V} {ns:List Int},Paired (rInt.rel F) vs ns->vs=ns.map V.int:=λp=>by
 induction p with
 | nil=>rfl
 | cons h _ ih=>rw [V0,<- ih]; cases h; rfl
end
end
end L2
namespace Pu
noncomputable def dedS (σ:List Int) (k:Int):List Int:=if σ.any (· == k) then σ else σ++[k]
noncomputable def ded (ns:List Int):List Int:=ns.foldl dedS []
noncomputable def mset (ns:List Int):Option (List Int):=if ns.length+1<4096 then some (ded ns) else none
end Pu
namespace L2
section
open PySem PySem.Spec PyProof.Rows
variable [Kon]
section
variable {Γ:List Slot} {α β T S:Type} {rb:Rp β} {K:Z3} {u tl:TS} {fin:Fc->T->Ends->Prop} {φ:Addr->Prop} {xs:List α}
theorem oS {F:V->α->Prop} {vs:List V} {xs:List α} {a:α} (p:Paired F vs xs) (h:xs.getLast?=some a):∃ v,vs[vs.length - 1]?=some v/\F v a/\Paired F vs.dropLast xs.dropLast:=by
 rw [List.getLast?_eq_getElem?] at h
 refine oq12 (cM p h) λv h1 h2=>?_
 refine (oi13 v (by rw [p.length]; exact h1) h2 ?_)
 rw [List.dropLast_eq_take,List.dropLast_eq_take,p.length]
 exact Paired.takeB _ p
theorem bv_forSp {xss:List (List β)} {ws:List Int} {g:TG} {Γf:S->List Slot} {Γt:S->β->List Slot} {m:Nat} {body:S->β->Option S} {f:S->Option T} (st:List Int->S) (b i:Nat) (hb':Γ[b]?=some (.fr (rL (rL rb)) xss)) (hi:Γ[i]?=some (.ol rInt φ ws)) (hs:∀ ys,SubL (Γ.set i (.ol rInt φ ys)) (Γf (st ys))) (hg:∀ s,GV (Γf s) m g rb (Γt s))
  (hb:∀ s x,BV (Γt s x) tl (body s x) (finS Γf)) (h:∀ s,BV (Γf s) u (f s) fin):BV Γ (tSeq (tFor (iList K (tOp (rIxL K) (tVar b) (tBM0 K "list" rPop (tVar i)))) g tl) u) (ws.getLast?.bind λk=>(Pu.at_ xss k).bind λxs=>(Pu.forS body xs (st ws.dropLast)).bind f) fin:=by
 intro C F σ H D x S0 e0 k
 refine oq12 (a8 e0) λa e1 e0=>?_
 refine oq12 (a8 e0) λxs e2 e0=>?_
 refine oq12 (S0.at_ i _ hi) λo h1 zz=>oq26 zz λp vs eq4_ h2 h3 h4 h5 h6=>?_; subst eq4_
 refine oq13 (oS h6 e1) λv g1 g2 g3=>?_
 refine oq12 (S0.fr hb') λvb q1 zz=>oq23 zz λpb vbs eq4_ q2 q3=>?_; subst eq4_
 refine oq12 (jQ q3 e2) λw q4 q5=>?_
 have S1:SR C F (Γ.set i (.ol rInt φ ws.dropLast)) σ (upd H p (.lst vs.dropLast)):=S0.chg (s':=.ol rInt φ ws.dropLast) hi rfl h1 h3 h4 rfl ⟨p,_,rfl,h2,h3,h4,ah,g3⟩
 refine oq23 q5 λpw ws' eq2_ q6 q7=>?_; subst eq2_
 cases g2
 refine ⟨.ref pb,q1,.ref p,h1,.inl ⟨rfl,_,SqL.of h5⟩,p,vs,_,rfl,rfl,h5,g1,pb,vbs,a,_,rfl,rfl,.inl (S1.sub.rd q2),q4,pw,rfl,⟨ws',.inl (S1.sub.rd q6)⟩,?_⟩
 have W:Walks (Itl K pw) F rb xs:=⟨λi H2 sb hi=>⟨ws',ws'[i]'(by rw [q7.length]; exact hi),.inl (sb.rd q6),by simp⟩,λH2 sb=>⟨ws',.inl (sb.rd q6),by rw [q7.length]; exact nz6 _⟩,λi H2 x H3 F1 sb hi ⟨e3,y⟩ s1 s2=>by
  subst e3
  obtain ⟨w,g1,g2⟩:=cM q7 (Z9 hi)
  have ex:x=w:=Z7 ((y ws' (.inl (sb.rd q6))).symm.trans g1)
  subst ex
  exact ⟨F1,xs[i],Z9 hi,Ext.refl s2,rb.mono s1 g2⟩⟩
 refine oq12 (S1.weak (hs _)) λF2 f2 S2=>?_
 have L1:Same C.L F2:=S2.low
 refine ⟨λi m σ H=>∃ F3 s',m=xs.length - i/\i<=xs.length/\SR { C with L:=F2 } F3 (Γf s') σ H/\(Pu.forS body (xs.drop i) s').bind f=some x,⟨xs.length,F2,st _,by simp,U2 _,S2.lower,by rw [D3]; exact e0⟩,?_⟩
 intro i m σ H zq; refine oq24 zq λF3 s' eq2_ hil S3 e3=>?_; subst eq2_
 by_cases hlt:i<xs.length
 ·refine .inr ⟨W.go i H (f2.trans (S3.low.trans S3.sub)) hlt,λσ' H'=>∃ F3 s',i+1<=xs.length/\SR { C with L:=F2 } F3 (Γf s') σ' H'/\(Pu.forS body (xs.drop (i+1)) s').bind f=some x,
   λσ' H' zq=>oq23 zq λF3 s' h1 h2 h3=>⟨xs.length - (i+1),by omega,F3,s',rfl,h1,h2,h3⟩,λv H' y=>?_⟩
  refine oq23 (W.yld i H v H' F3 (f2.trans (S3.low.trans S3.sub)) hlt y (f2.trans S3.low) S3.sub) λF4 a ha x4 ra=>?_
  have ea:xs[i]=a:=(Z4.mp ha).2
  rw [<- C2 (h:=hlt),ea,Pu.forS] at e3
  refine oq12 (a8 e3) λc1 e4 e5=>?_
  refine oq12 (a8 e4) λc e6 e7=>?_
  refine hg s' _ F4 σ H' v a _ (S3.grow x4) ra λσ' S4 _=>?_
  refine hb s' a _ F4 σ' H' _ c S4 e6 ?_
  exact λF5 σ5 H5 S5=>⟨⟨F5,c,hlt,S5,by rw [e7]; exact e5⟩,⟨F5,c,hlt,S5,by rw [e7]; exact e5⟩⟩
 ·have ei:i=xs.length:=by exact T2 hil (U3.mp hlt)
  subst ei
  rw [List.drop_length,Pu.forS] at e3
  exact .inl ⟨W.stop H (f2.trans (S3.low.trans S3.sub)),h s' C F3 σ H D x (S3.raise L1) e3 k⟩
end
end
section
open PySem PySem.Spec PyProof.Rows
variable [Kon]
section
variable {prog:W5} {w:World} {A:Around} {s:Shared} {vs ks:List Value} {a kS:Addr}
open PySem.W
def fE (prog:W5) (w:World) (A:Around) (f:Value) (kS:Addr) (Fi:List Value->Shared->Prop):List Value->List Value->Shared->Prop
 | [],ks,s=>Fi ks s
 | x :: r,ks,s=>wpAny (model prog w) A (call f [x]) (λk s1=>(∃ e,s1.heap.get? kS=some (seqObj "list" (Z6 ks) e)) /\
   fE prog w A f kS Fi r (ks++[k]) { s1 with heap:=s1.heap.update kS (X9 (·.push k)) }) (λ_ _=>False) s
noncomputable def eQ (prog:W5) (w:World) (A:Around) (a:Addr) (e1:Nat) (kS:Addr) (vs:List Value) (P:PySem.Fin->Shared->Prop) (ks:List Value) (s:Shared):Prop :=
 s.heap.get? a=some (seqObj "list" #[] e1)/\∃ (κ:B0) (c:Nat->Nat->Bool),Srt.Lin c vs.length/\(2<=vs.length->∀ Q':B0->Shared->Prop,Q' κ s->wpAny (model prog w) A (keyKind' (Z6 ks)) Q' (λ_ _=>False) s) /\
  (∀ i j C,i<vs.length->j<vs.length->C (c i j) s->kas_ask prog w A κ ks i j C s) /\
  ∀ p,Srt.Arr vs.length p->Srt.Up c p vs.length->P (.done (.ret .none)) { s with heap:=(s.heap.update kS (X9 λ_=>#[])).update a (X9 λ_=>cX vs p) }
end
end
section
open PySem PySem.Spec PyProof.Rows
variable [Kon]
noncomputable def gW (X:Cx) (A:Around) (N':List Str) (qual:Str) (scope:Scope) (f:Addr) (cd:Value) (cl:List (Str × Addr)) (s:Shared) (H:Hp):Cx where
 prog:=X.prog
 w:=X.w
 K:=X.K
 mg:=X.mg
 base:=X.base
 A:=A.deeper (PySem.W.envX qual scope s.heap.objs.size f cd cl)
 N:=N'
 s₀:=s
 H₀:=H
 env:=PySem.W.envX qual scope s.heap.objs.size f cd cl
 outer:=X.stack
 stack:=PySem.W.envX qual scope s.heap.objs.size f cd cl :: X.stack
 ex:=[]
 fn:=λ_=>false
 calm:=true
 pn:=[]
 xe:=λ_ _=>False
structure LamScope (X:Cx) (x:Str) (cap:List (Str × Nat)) (scope:Scope):Prop where
 kind:scope.kind=.function
 co:scope.isCoroutine=false
 gen:scope.isGenerator=false
 nocell:∀ y∈scope.names,y.2≠.cell
 par:scope.names.lookup x=some .local
 free0:freeOk scope.names X.env.scope.names=true
 cap:lH X scope cap
noncomputable def dr (v:V) (cap:List (Str × Nat)) (σ:St):St:=some v :: cap.map λp=>(σ[p.2]?).join
structure LamCl (X:Cx) (scope:Scope) (cl:List (Str × Addr)):Prop where
 of:∀ x c,cl.lookup x=some c->X.env.cells.lookup x=some c
 has:∀ y∈scope.names,y.2=.free->∃ c,cl.lookup y.1=some c
section
variable {X:Cx} {A:Around} {pins:List (Addr × Obj)} {σ:St} {H:Hp} {s:Shared} {x:Str} {cap:List (Str × Nat)} {scope:Scope} {cl:List (Str × Addr)} {qual:Str} {f:Addr} {cd:Value}
theorem inv_lam {h1:Heap} {t':Nat} {v:V} {u:Value} (S:LamScope X x cap scope) (C:LamCl X scope cl) (I:Inv X pins σ H s) (hA:A.frames=some X.stack) (hh:A.handled=none) (r:RelV v u)
  (hns:h1.Ns s.heap.objs.size (λy=>[(x,u)].reverse.lookup y)) (hk:∀ b o,s.heap.get? b=some o->h1.get? b=some o) :
  Inv (gW X A (x :: cap.map (·.1)) qual scope f cd cl s H) [] (dr v cap σ) H { s with heap:=h1,toks:=t' }:=by
 have noA:∀ b:Addr,b ∉ (gW X A (x :: cap.map (·.1)) qual scope f cd cl s H).ex:=λb z=>absurd (show b∈([]:List Addr) from z) (by simp)
 refine ⟨⟨I.ok.mod,S.kind,rfl,rfl,nz6 _,λy z c h1 h2=>I.ok.inj y z c (C.of y c h1) (C.of z c h2),λy hy=>?_,λy c h _=>absurd (show (false=true) from h) (by decide),λ_=>hh,Around.frames_deeper hA,.inr ⟨rfl,rfl⟩,λb z=>absurd z (noA b),I.bs,
   nz4 I.ok.bsz I.sz,λb _ _=>noA b,λb z=>absurd z (noA b),I.stack,I.stkFree⟩,
  rfl,I.bare,Un.kept hk,(oi12 _ hns (λi y z e1 e2 e3=>?_)),λy c e=>?_,I.hok.fresh (nz6 _),λy c e=>I.freeC y c (C.of y c e),λp hp=>absurd (show p∈([]:List (Addr × Obj)) from hp) (by simp),I.hok.kept hk,by simp [gW,dr]⟩
 ·have hy:scope.names.lookup y=some .cell\/scope.names.lookup y=some .free:=hy
  rcases hy with hy | hy
  ·exact absurd rfl (S.nocell _ (R7 hy))
  ·exact C.has _ (R7 hy) rfl
 ·cases i with
  | zero =>
   have e1:some x=some y:=e1
   have e2:some (some v)=some (some z):=e2
   cases e1; cases e2
   exact (oi12 u r (.inl ⟨S.par,by simp⟩))
  | succ i =>
   have e1:(cap.map (·.1))[i]?=some y:=e1
   have e2:(cap.map λp=>(σ[p.2]?).join)[i]?=some (some z):=e2
   rw [X2] at e1 e2
   cases q:cap[i]? with
   | none=>rw [q] at e1; cases e1
   | some p =>
    rw [q] at e1 e2
    have e1:p.1=y:=Z7 e1
    have e2:(σ[p.2]?).join=some z:=Z7 e2
    subst e1
    have e4:σ[p.2]?=some (some z):=by
     cases q2:σ[p.2]? with
     | none=>rw [q2] at e2; cases e2
     | some o=>rw [q2] at e2; exact congrArg some e2
    refine oq03 (S.cap.get p (W8 q)) λc1 c2 c3=>?_
    refine oq12 I.loc λm _ hl=>?_
    have vis:Vis X.env.scope p.1:=by
     rcases c3 with k | k
     ·exact .inr (.inl k)
     ·exact .inr (.inr k)
    refine oq12 (hl p.2 p.1 z c1 e4 vis) λu' r' l=>?_
    refine (oi12 u' r' (.inr ⟨.inr c2,?_⟩))
    rcases l with ⟨k,_⟩ | ⟨_,c,e,hc⟩
    ·rcases c3 with z | z
     ·rw [k] at z; cases z
     ·rw [k] at z; cases z
    ·refine oq11 (C.has (p.1,.free) (R7 c2) rfl) λc' hc'=>?_
     have:c'=c:=Z7 ((C.of _ _ hc').symm.trans e)
     subst this
     refine oq12 hc λo ho hd=>?_
     exact ⟨c',hc',o,hk _ o ho,hd⟩
 ·refine oq22 (I.cell y c (C.of y c e)) λv o ho hd=>?_
  exact ⟨v,o,hk _ o ho,hd⟩
open PySem.W in
theorem mW {params:Arguments} {body:Expr} {pm ctv:Value} {c':Addr} {tb:TE} {v:V} {u:Value} {Q:VK} (S:LamScope X x cap scope) (C:LamCl X scope cl) (I:Inv X pins σ H s) (ho:s.heap.get? f=some (kla_obj "<lambda>" qual params body scope cl pm c' ctv))
  (hA:A.frames=some X.stack) (hh:A.handled=none) (hd:A.depth<D2) (hc:H c'=some (.ext (aE c' qual))) (hb:∀ cl pm cd ct u,A9 (kla_fn "<lambda>" qual params body scope cl pm cd ct) ⟨[u],[]⟩=pure [(x,u)])
  (hp:PE (gW X A (x :: cap.map (·.1)) qual scope f (.ref c') cl s H) body tb) (r:RelV v u) (h:tb (dr v cap σ) H Q):wpAny (model X.prog X.w) A (call (.ref f) [u]) (EP X pins σ Q) (λ_ _=>False) s:=by
 have hcd:s.heap.CodeRec (.ref c') qual:=(show aS X.prog X.w H s.heap c' (.ext (aE c' qual)) from I.hok c' _ hc).1
 refine wpAny_call (C1 (R:=λr s'=>match r with | .ok (.ret u')=>EP X pins σ Q u' s' | _=>False) (kla_callFunE hd ho rfl S.co S.gen rfl hcd ?_) λr s' hr=>?_)
 ·rw [hb]
  refine Y0 (wpAny_newFunctionEnv S.nocell (λy hy=>?_) (λh₁ hns hsb=>⟨I.nolimit.fresh _ hsb,?_⟩) S.kind)
  ·rw [Y6.mp hy]; exact S.par
  have hk₁:∀ b o,s.heap.get? b=some o->h₁.get? b=some o:=λb o e=>hsb.extBut b o (nz7 (X5 e)) (Z5 _ e)
  refine kla_codeExpr (T4 (hp [] _ _ H Q (inv_lam (qual:=qual) (f:=f) (cd:=.ref c') S C I hA hh r hns hk₁) h) (λu' s' he=>?_) λ_ _ z=>z.elim)
  refine oq23 he λv' H' J rv q=>?_
  exact I.after ⟨v',H',J.os,J.bare,J.base,J.hok,rv,q⟩
 ·cases r with
  | error e=>exact hr.elim
  | ok fl =>
   cases fl with
   | ret u=>exact hr
   | next=>exact hr.elim
   | brk=>exact hr.elim
   | cont=>exact hr.elim
end
def BM (mg:Str->Option Value) (base:Heap):Prop:=∃ bm ob,mg "__builtins__"=some (.ref bm)/\bm≠builtinsNs/\base.get? bm=some ob/\ob.cls=.type "module"/\ob.dict=some builtinsNs/\ob.data=.plain
def TbSt (P:Addr) (H H':Hp):Prop:=H'=H\/∃ (ps:Array Value) (c:Addr) (pos:Pos),H P=some (.tbl ps)/\codeAmong pos ps.toList=none/\H c=none/\c≠P /\
 H'=upd (upd H P (.tbl (ps++#[rawInt pos.line,rawInt pos.col,.ref c]))) c (.ext (aE c (Kon.Q P)))
theorem kP {pos pos':Pos} {c cv:Value} (l:List Value) (h:TriplesOk l) (hc:codeAmong pos' (l++[rawInt pos.line,rawInt pos.col,c])=some cv):codeAmong pos' l=some cv\/cv=c:=by
 fun_induction TriplesOk l with
 | case1 =>
  simp only [List.nil_append,rawInt,codeAmong] at hc
  split at hc
  ·cases hc; exact .inr rfl
  ·cases hc
 | case2 a t b u x rest ih =>
  simp only [List.cons_append,codeAmong] at hc ⊢
  split at hc
  ·rename_i z; rw [if_pos z]; exact .inl hc
  ·rename_i z; rw [if_neg z]; exact ih h hc
 | case3 l h1 h2=>exact h.elim
theorem TbSt.sm {P:Addr} {H H':Hp} (t:TbSt P H H'):Sm H H':=by
 rcases t with rfl | ⟨ps,c,pos,hP,hnf,hc,hcP,rfl⟩
 ·exact Sm.refl _
 have old:∀ b o,b≠P->H b=some o->upd (upd H P (.tbl (ps++#[rawInt pos.line,rawInt pos.col,.ref c]))) c (.ext (aE c (Kon.Q P))) b=some o:=λb o nb q=>by
  rw [ai (af q hc),ai nb]; exact q
 have atP:upd (upd H P (.tbl (ps++#[rawInt pos.line,rawInt pos.col,.ref c]))) c (.ext (aE c (Kon.Q P))) P=some (.tbl (ps++#[rawInt pos.line,rawInt pos.col,.ref c])):=by rw [ai (R5 hcP),ah]
 refine ⟨λb o n q=>old b o (λe=>?_) q,λb qs q=>?_,λg=>⟨λP' hP'=>?_,λP' qs q=>?_⟩⟩
 ·subst e; rw [hP] at q; cases q; exact n
 ·by_cases e:b=P
  ·subst e; rw [hP] at q; cases q; exact ⟨_,atP⟩
  ·exact ⟨#[],by rw [old b _ e q]; simp⟩
 ·refine oq11 (g.there P' hP') λqs e=>?_
  by_cases e':P'=P
  ·subst e'; exact ⟨_,atP⟩
  ·exact ⟨qs,old _ _ e' e⟩
 ·by_cases e':P'=P
  ·subst e'
   rw [atP] at q
   cases q
   refine oq02 (g.good P' ps hP) λg1 g2=>?_
   have el:(ps++#[rawInt pos.line,rawInt pos.col,S7 c]).toList=ps.toList++[rawInt pos.line,rawInt pos.col,S7 c]:=by simp
   rw [el]
   refine ⟨TriplesOk_snoc _ _ _ _ g1,λpos' cv hcv=>?_⟩
   rcases kP _ g1 hcv with z | z
   ·refine oq12 (g2 pos' cv z) λc2 e1 e2=>?_
    exact (oi12 c2 e1 (old _ _ (λe=>by rw [e,hP] at e2; cases e2) e2))
   ·exact (oi12 c z ah)
  ·have nc:P'≠c:=by rintro rfl; rw [ah] at q; cases q
   rw [ai nc,ai e'] at q
   refine oq02 (g.good P' qs q) λg1 g2=>?_
   exact ⟨g1,λpos' cv hcv=>by refine oq12 (g2 pos' cv hcv) λc2 e1 e2=>?_; exact (oi12 c2 e1 (old _ _ (λe=>by rw [e,hP] at e2; cases e2) e2))⟩
section
variable {X:Cx} {pins:List (Addr × Obj)} {σ:St} {H:Hp} {s:Shared} {x:Str} {cap:List (Str × Nat)} {scope:Scope} {c P:Addr} {params:Arguments} {body:Expr} {pos:Pos}
theorem Inv.addPin {f:Addr} {o:Obj} (I:Inv X pins σ H s) (h1:s.heap.get? f=some o) (h2:H f=none) (h3:f≠X.env.locals) (h4:f ∉ X.fs) (h5:∀ v,o.data≠.cell v):Inv X ((f,o) :: pins) σ H s :=
 I.pins_of λp hp=>by
  rcases Y4.mp hp with rfl | hp
  ·exact (oi05 h1 h2 h3 h4 h5)
  ·exact I.pin p (Y7 _ hp)
open PySem.W in
theorem mk_lam {Q:Value->Shared->Prop} (I:Inv X pins σ H s) (S:LamScope X x cap scope) (tg:TbG H) (hT:P∈Kon.T) (hq:Kon.Q P=X.env.qual++"<lambda>") (hcode:X.env.code=.ref c) (hC:codeHdIn X.K c P=true) (bm:BM X.mg X.base) (hdef:defaultsOf params X.env=([],[]))
  (h:∀ f cl pm c' ctv H' s',Inv X ((f,kla_obj "<lambda>" (Kon.Q P) params body scope cl pm c' ctv) :: pins) σ H' s'->TbSt P H H'->H' c'=some (.ext (aE c' (Kon.Q P)))->LamCl X scope cl->Q (.ref f) s') :
  wpAny (model X.prog X.w) X.A (eval (.Lambda params body scope pos) X.env) Q X.xe s:=by
 refine oq11 (tg.there P hT) λps hP=>?_
 refine oq02 (tg.good P ps hP) λt1 t2=>?_
 have hPo:s.heap.get? P=some (tabObj ps):=(show aS X.prog X.w H s.heap P (.tbl ps) from I.hok P _ hP)
 refine oq13 (gq (scope:=scope) (env:=X.env) λy hy hf=>I.ok.has y.1 (jJ S.free0 y hy hf)) λcl hcl hcl1 hcl2=>?_
 have CL:LamCl X scope cl:=⟨hcl1,hcl2⟩
 have hgs:=I.mod.glob.keeps I.bk
 refine oq26 bm λb ob b1 b2 b3 b4 b5 b6=>?_
 have b3':=I.bk _ _ b3
 have hgP:U8≠P:=λq=>by
  refine oq33 hgs λo es ep e hd _=>?_
  rw [q,hPo] at e; cases e; cases hd
 have hbP:b≠P:=λq=>by rw [q,hPo] at b3'; cases b3'; cases b4
 have hbG:b≠U8:=λq=>by
  refine oq33 hgs λo es ep e hd _=>?_
  rw [q,e] at b3'; cases b3'; rw [hd] at b6; cases b6
 have bat:s.heap.BuiltinsAt X.mg P:=⟨b,ob,b1,b2,hbG,hbP,b3',b4,b5,b6⟩
 have CD:=codeHd_of_K I.kIn hC
 refine kla_eval hdef ?_
 rw [<- hq]
 cases hf:codeAmong pos ps.toList with
 | some cv =>
  refine oq12 (t2 pos cv hf) λc' eq1_ e2=>?_; subst eq1_
  refine kla_makeFunctionHit (mg:=X.mg) hcl I.ok.glob hgs hcode CD hPo t1 hf bat λctv h' tk hk hsz=>?_
  have I1:Inv X pins σ H { s with heap:=h'.push (kla_obj "<lambda>" (Kon.Q P) params body scope cl ((X.mg "__name__").getD .none) c' ctv),toks:=tk }:=I.kept λb u e=>Z5 _ (hk b u e)
  exact h h'.objs.size cl ((X.mg "__name__").getD .none) c' ctv H _ (I1.addPin (X4 _ rfl) (I.hok.fresh hsz) (N2 (nz1 I.lt hsz)) (I.nofs hsz) λv z=>nomatch z) (.inl rfl) e2 CL
 | none =>
  refine kla_makeFunction (mg:=X.mg) hcl I.ok.glob hgs hcode CD hPo t1 hf hgP bat λc' ctv h' tk hx hge hlt hrec htb=>?_
  have hcn:H c'=none:=I.hok.fresh hge
  have hcP:c'≠P:=(af hP hcn).symm
  have hPL:P≠X.env.locals:=af hP I.free
  have hsz:s.heap.objs.size<=h'.objs.size:=nz5 (nz2 hge hlt)
  have unt:∀ b,H b=none->b≠P:=λb n=>(af hP n).symm
  have kp:∀ b o,b≠P->s.heap.get? b=some o->(h'.push (kla_obj "<lambda>" (Kon.Q P) params body scope cl ((X.mg "__name__").getD .none) c' ctv)).get? b=some o:=λb o nb e=>Z5 _ (hx b o nb e)
  have hP2:(h'.push (kla_obj "<lambda>" (Kon.Q P) params body scope cl ((X.mg "__name__").getD .none) c' ctv)).get? P=some (tabObj (ps++#[rawInt pos.line,rawInt pos.col,.ref c'])):=Z5 _ htb
  have lkO:∀ b o,b≠P->H b=some o->upd (upd H P (.tbl (ps++#[rawInt pos.line,rawInt pos.col,.ref c']))) c' (.ext (aE c' (Kon.Q P))) b=some o:=λb o nb q=>by
   rw [ai (af q hcn),ai nb]; exact q
  have lkP:upd (upd H P (.tbl (ps++#[rawInt pos.line,rawInt pos.col,.ref c']))) c' (.ext (aE c' (Kon.Q P))) P=some (.tbl (ps++#[rawInt pos.line,rawInt pos.col,.ref c'])):=by rw [ai (R5 hcP),ah]
  have I1:Inv X pins σ (upd (upd H P (.tbl (ps++#[rawInt pos.line,rawInt pos.col,.ref c']))) c' (.ext (aE c' (Kon.Q P)))) { s with heap:=h'.push (kla_obj "<lambda>" (Kon.Q P) params body scope cl ((X.mg "__name__").getD .none) c' ctv),toks:=tk }:=by
   refine I.step (g':=s.gens) (d':=s.drawn) (ch:=[]) (λ_ z=>nomatch z) (λb o _ _ _ e n=>kp b o (unt b n) e) (λb o _ _ _ e n=>⟨o.slots,kp b o (unt b n) e⟩) (λb o _ e n=>?_) (λb o _ e=>?_) (λb xs q=>?_) (λb o u q=>?_) (λb qs q=>?_) (λm hm=>?_) (λa o q=>?_) I.bare
   ·rw [ai (nz7 (nz1 (X5 e) hge)),ai (unt b n)]; exact n
   ·by_cases z:b=P
    ·subst z; exact ⟨_,hP2⟩
    ·exact ⟨o,kp b o z e⟩
   ·exact lkO b _ (λz=>by rw [z,hP] at q; cases q) q
   ·exact lkO b _ (λz=>by rw [z,hP] at q; cases q) q
   ·by_cases z:b=P
    ·subst z; rw [hP] at q; cases q; exact ⟨_,lkP⟩
    ·exact ⟨#[],by rw [lkO b _ z q]; simp⟩
   ·exact (hm.extBut hx (R5 hPL)).push _
   ·by_cases z:a=c'
    ·subst z
     rw [ah] at q
     cases q
     refine oq44 hrec λc2 oc vs t e2 hoc hd hv=>?_
     cases e2
     refine ⟨⟨a,oc,vs,t,rfl,Z5 _ hoc,hd,hv⟩,⟨oc,Z5 _ hoc⟩,λh1 h2 ⟨c3,oc3,vs3,t3,e3,z1,z2,z3⟩ kk=>?_⟩
     cases e3
     exact ⟨a,oc3,vs3,t3,rfl,kk _ z1,z2,z3⟩
    ·by_cases z2:a=P
     ·subst z2; rw [lkP] at q; cases q; exact hP2
     ·rw [ai z,ai z2] at q
      refine (I.hok a o q).stay (λb u hb e=>kp b u ?_ e) (λb q=>lkO b _ (λz=>by rw [z,hP] at q; cases q) q) λb xs q=>lkO b _ (λz=>by rw [z,hP] at q; cases q) q
      rcases hb with rfl | hb
      ·exact z2
      ·intro e; rw [e,hP] at hb; cases hb
  exact h h'.objs.size cl ((X.mg "__name__").getD .none) c' ctv _ _ (I1.addPin (X4 _ rfl) (by rw [ai (N2 hlt),ai (λz=>by rw [z] at hsz; exact absurd (nz1 (I.hok.lt hP) hsz) (Q8 _))]; exact I.hok.fresh hsz) (N2 (nz1 I.lt hsz)) (I.nofs hsz) λv z=>nomatch z)
   (.inr (oi35 ps c' pos hP hf hcn hcP rfl)) ah CL
end
end
end L2
namespace Pu
theorem getD_at {α:Type} {l:List α} {i:Nat} {d:α} (h:i<l.length):l.getD i d=l[i]:=by simp [h]
noncomputable def keysOf (g:Int->Option (Int × Int)):List Int->Option (List (Int × Int))
 | []=>some []
 | x :: xs=>(g x).bind λk=>(keysOf g xs).bind λks=>some (k :: ks)
noncomputable def srtK (ns:List Int) (ps:List (Int × Int)):List Int:=((ps.zip ns).mergeSort λa b=>le2 a.1 b.1).map (·.2)
noncomputable def sortK (g:Int->Option (Int × Int)) (ns:List Int):Option (List Int):=(keysOf g ns).bind λps=>if ns.length<64/\ps.Nodup then some (srtK ns ps) else none
theorem jS {g:Int->Option (Int × Int)}:∀ {ns:List Int} {ps:List (Int × Int)},keysOf g ns=some ps->ps.length=ns.length
 | [],ps,h=>by cases h; rfl
 | n :: ns,ps,h=>by
  unfold keysOf at h
  refine oq12 (L2.a8 h) λk _ h=>?_
  refine oq12 (L2.a8 h) λks e h=>?_
  cases h
  rw [W4,W4,jS e]
theorem srtK_of {ns:List Int} {ps:List (Int × Int)} (hl:ps.length=ns.length) (hn:ps.Nodup) {ix:List Nat} (hi:∀ i∈ix,i<ns.length) (h:ix.map (λi=>ps.getD i (0,0))=srtP ps):ix.map (λi=>ns.getD i 0)=srtK ns ps:=by
 have hz:ix.map (λi=>(ps.zip ns).getD i ((0,0),0))=(ps.zip ns).mergeSort λa b=>le2 a.1 b.1:=by
  have key:((ps.zip ns).mergeSort λa b=>le2 a.1 b.1).map (·.1)=srtP ps:=by
   refine fD (le:=λa b=>le2 a b=true) (λa b=>oQ) ?_ ?_ (fz ps)
   ·refine List.Perm.trans ((E7 _ _).map _) ?_
    rw [show (ps.zip ns).map (·.1)=ps by rw [List.map_fst_zip]; exact nz3 hl]
    exact (iE ps).symm
   ·rw [F6]
    exact D4 (λa b c=>iF a.1 b.1 c.1) (λa b=>iG a.1 b.1) (ps.zip ns)
  have inj:∀ a∈ps.zip ns,∀ b∈ps.zip ns,a.1=b.1->a=b:=by
   intro a ha b hb e
   obtain ⟨i,hi,rfl⟩:=List.mem_iff_getElem.mp ha
   obtain ⟨j,hj,rfl⟩:=List.mem_iff_getElem.mp hb
   simp only [List.getElem_zip] at e ⊢
   have:i=j:=(List.getElem_inj hn).mp e
   subst this
   rfl
  have e1:(ix.map λi=>(ps.zip ns).getD i ((0,0),0)).map (·.1)=((ps.zip ns).mergeSort λa b=>le2 a.1 b.1).map (·.1):=by
   rw [key,<- h,T8]
   apply Q2
   intro i hi'
   have h1:=hi i hi'
   show ((ps.zip ns).getD i ((0,0),0)).1=ps.getD i (0,0)
   rw [getD_at (by simp; omega),getD_at (by exact nz1 h1 (nz3 hl.symm))]
   simp
  have lm:∀ (l m:List ((Int × Int) × Int)),(∀ a∈l,a∈ps.zip ns)->(∀ a∈m,a∈ps.zip ns)->l.map (·.1)=m.map (·.1)->l=m:=by
   intro l
   induction l with
   | nil=>intro m _ _ e; cases m with
    | nil=>rfl
    | cons _ _=>cases e
   | cons a l ih=>intro m h1 h2 e; cases m with
    | nil=>cases e
    | cons b m =>
     rw [V0,V0] at e
     injection e with e3 e4
     rw [inj a (h1 a (by simp)) b (h2 b (by simp)) e3,ih m (λx hx=>h1 x (by simp [hx])) (λx hx=>h2 x (by simp [hx])) e4]
  refine lm _ _ (λa ha=>?_) (λa ha=>(E7 _ _).subset ha) e1
  refine oq12 (Q4.mp ha) λi hi' eq2_=>?_; subst eq2_
  have h1:=hi i hi'
  rw [getD_at (by simp; omega)]
  exact J3 _
 unfold srtK
 rw [<- hz,T8]
 apply Q2
 intro i hi'
 have h1:=hi i hi'
 show ns.getD i 0=((ps.zip ns).getD i ((0,0),0)).2
 rw [getD_at (l:=ps.zip ns) (by simp; omega),getD_at h1]
 simp
end Pu
namespace L2
section
open PySem PySem.Spec PyProof.Rows
variable [Kon]
def jT (tb:TE) (st:V->St) (fin:List V->Hp->Prop):List V->List V->Hp->Prop
 | [],ks,H=>fin ks H
 | x :: r,ks,H=>tb (st x) H λk H'=>jT tb st fin r (ks++[k]) H'
def rm (vs:List V) (Q:VK) (ks:List V) (H:Hp):Prop:=∃ ps:List (Int × Int),Paired ((rT2 rInt rInt).rel H) ks ps/\ks.length=vs.length/\ps.Nodup /\
 ∀ q (ix:List Nat),H q=none->(∀ i∈ix,i<vs.length)->ix.map (λi=>ps.getD i (0,0))=Pu.srtP ps->Q (.ref q) (upd H q (.lst (ix.map λi=>vs.getD i .non)))
theorem Sm.seq {K:Z3} {H H':Hp} {a:Addr} {xs:List V} (e:Sm H H') (h:SqL K H a xs):SqL K H' a xs:=by
 rcases h with (h | ⟨o,h⟩) | h
 ·exact .inl (.inl (e.kp _ _ trivial h))
 ·exact .inl (.inr ⟨o,e.kp _ _ trivial h⟩)
 ·exact .inr h
section
variable {X:Cx} {A:Around} {pins:List (Addr × Obj)} {σ:St} {H:Hp} {s:Shared} {x:Str} {cap:List (Str × Nat)} {scope:Scope} {cl:List (Str × Addr)} {f:Addr} {cd:Value}
theorem Inv.relist {kS:Addr} {o o':Obj} {h':Heap} (I:Inv X ((kS,o) :: pins) σ H s) (hz:X.s₀.heap.objs.size<=kS) (hp:∀ p∈X.pn++pins,p.1≠kS) (hc:∀ v,o'.data≠.cell v) (k:∀ b ob,b≠kS->s.heap.get? b=some ob->h'.get? b=some ob) (h:h'.get? kS=some o') :
  Inv X ((kS,o') :: pins) σ H { s with heap:=h' }:=by
 refine oq05 (I.pin (kS,o) (Y7 _ (Y4.mpr (.inl rfl)))) λp1 p2 p3 p4 p5=>?_
 have I0:Inv X pins σ H s:=I.pins_of λp hp=>I.pin p (Y7 _ (Y4.mpr (.inr hp)))
 have I1:Inv X pins σ H { s with heap:=h' }:=I0.turned (t':=s.toks) k p2 p3 (.inr hz) (λy c e z=>by
  refine oq22 (I.cell y c e) λv ob ho hd=>?_
  rw [z] at ho
  have:some ob=some o:=ho.symm.trans p1
  cases this
  exact p5 v hd) hp
 exact I1.addPin h p2 p3 p4 hc
open PySem.W in
theorem keys_inv {params:Arguments} {body:Expr} {pm ctv:Value} {c':Addr} {qual:Str} {tb:TE} {D kS:Addr} {oD:Obj} {Fi:List Value->Shared->Prop} {fin:List V->Hp->Prop} (S:LamScope X x cap scope) (C:LamCl X scope cl)
  (hA:A.frames=some X.stack) (hh:A.handled=none) (hd:A.depth<D2) (hb:∀ cl pm cd ct u,A9 (kla_fn "<lambda>" qual params body scope cl pm cd ct) ⟨[u],[]⟩=pure [(x,u)])
  (hp:∀ f cd cl s H,PE (gW X A (x :: cap.map (·.1)) qual scope f cd cl s H) body tb) (hz:X.s₀.heap.objs.size<=kS) (hpn:∀ p∈X.pn++((D,oD) :: (f,kla_obj "<lambda>" qual params body scope cl pm c' ctv) :: pins),p.1≠kS)
  (hfin:∀ (e:Nat) ks kvs H s,Inv X ((kS,seqObj "list" (Z6 kvs) e) :: (D,oD) :: (f,kla_obj "<lambda>" qual params body scope cl pm c' ctv) :: pins) σ H s->Vals ks kvs->fin ks H->Fi kvs s) :
  ∀ (r:List V) (its:List Value) (ks:List V) (kvs:List Value) (e:Nat) (H:Hp) (s:Shared),Inv X ((kS,seqObj "list" (Z6 kvs) e) :: (D,oD) :: (f,kla_obj "<lambda>" qual params body scope cl pm c' ctv) :: pins) σ H s ->
   Vals r its->Vals ks kvs->(jT (λσ H Q=>H c'=some (.ext (aE c' qual))/\tb σ H Q) (λv=>dr v cap σ) fin r ks H)->fE X.prog X.w A (.ref f) kS Fi its kvs s:=λrr its ks kvs e H s I tt rk h=>by
 induction tt generalizing ks kvs e H s with
 | nil=>exact hfin e ks kvs H s I rk h
 | @cons v u _ _ r t ih =>
  refine oq02 h λh0 h=>?_
  have po:=I.pin (f,kla_obj "<lambda>" qual params body scope cl pm c' ctv) (by simp)
  refine T4 (mW S C I po.1 hA hh hd h0 hb (hp _ _ _ _ _) r h) (λk s1 he=>?_) λ_ _ z=>z
  refine oq23 he λkv H1 I1 rv q=>?_
  have pk:=I1.pin (kS,seqObj "list" (Z6 kvs) e) (by simp)
  refine ⟨⟨e,pk.1⟩,?_⟩
  have ea:(Z6 kvs).push k=Z6 (kvs++[k]):=by simp
  obtain ⟨e2,hn⟩:∃ e2,(s1.heap.update kS (X9 (·.push k))).get? kS=some (seqObj "list" (Z6 (kvs++[k])) e2):=⟨_,by rw [<- ea]; exact G3 pk.1 (·.push k)⟩
  exact ih _ _ e2 H1 _ (I1.relist hz hpn (λv z=>nomatch z) (λb ob nb q=>by rw [U7 _ _ _ _ nb]; exact q) hn) (rk.append (.cons rv .nil)) q
def One (Q1:V->Hp->Prop) (xs:List V) (H:Hp):Prop:=match xs with | [v]=>Q1 v H | _=>False
theorem One.got {Q1:V->Hp->Prop} {vv:List V} {us:List Value} {H:Hp} (r:Vals vv us) (q:One Q1 vv H):∃ v u,us=[u]/\RelV v u/\Q1 v H:=by
 cases r with
 | nil=>exact q.elim
 | cons a b =>
  cases b with
  | nil=>exact ⟨_,_,rfl,a,q⟩
  | cons _ _=>exact q.elim
open PySem.W in
end
end
section
open PySem PySem.Spec PyProof.Rows
variable [Kon]
theorem TbSt.ext {P:Addr} {F H H':Hp} (t:TbSt P H H') (sb:Same F H) (nt:NT F):Ext F H F H':=⟨t.sm,Same.refl _,λb o h=>t.sm.kp b o (by
 cases o with
 | tbl ps=>exact absurd h (nt b ps)
 | _=>trivial) (sb b o h),λ_ _ h=>.inl h,λz=>z⟩
section
variable {Γ:List Slot} {tb:TE} {cap:List (Str × Nat)}
theorem key_ev {C:Fc} {F0 H0:Hp} {σ:St} {c:Addr} {q:Str} {x:Str} {g:Int->Option (Int × Int)} {fin:List V->Hp->Prop} {ps:List (Int × Int)} (hc:(cap.map (·.2)).Nodup) (hb:∀ a,EV ((csl [x] cap Γ).set 0 (.fr rInt a)) tb (g a) (rT2 rInt rInt))
  (hfin:∀ F H ks,Ext F0 H0 F H->Paired ((rT2 rInt rInt).rel F) ks ps->fin ks H):∀ (r:List Int) (ks:List V) (kp pr:List (Int × Int)) (F H:Hp),SR C F Γ σ H->Ext F0 H0 F H->H c=some (.ext (aE c q))->Paired ((rT2 rInt rInt).rel F) ks kp->Pu.keysOf g r=some pr->kp++pr=ps ->
   jT (λσ H Q=>H c=some (.ext (aE c q))/\tb σ H Q) (λv=>dr v cap σ) fin (r.map V.int) ks H
 | [],ks,kp,pr,F,H,S,x0,h0,hk,e,ep=>by
  cases e
  rw [V6] at ep
  subst ep
  exact hfin F H ks x0 hk
 | a :: r,ks,kp,pr,F,H,S,x0,h0,hk,e,ep=>by
  unfold Pu.keysOf at e
  refine oq12 (a8 e) λk e1 e=>?_
  refine oq12 (a8 e) λks' e2 e=>?_
  cases e
  refine ⟨h0,hb a C F _ H _ k ((S.comp (loc:=[x]) hc).setF 0 (r:=rInt) (a:=a) (v:=.int a) rfl) e1 λv F' H' x1 rv=>?_⟩
  exact key_ev hc hb hfin r _ (kp++[k]) ks' F' H' (S.grow x1) (x0.trans x1) (x1.hh.kp _ _ trivial h0) (Paired.app (Paired.imp2 (λ_ _ z=>Rp.mono _ x1.ff z) hk) (.cons rv .nil)) e2 (by rw [Y9]; exact ep)
end
def dt (K:Z3) (mg:Str->Option Value) (x:Str) (st:Stmt) (ps:List Str) (c:Addr):Prop:=∃ f fd,Fun K x x st f fd/\Binds K fd ps []/\mg x=some (.ref f)/\fd.code=.ref c
theorem def_mkC {K:Z3} {mg:Str->Option Value} {h:Heap} {x:Str} {st:Stmt} {ps:List Str} {f c:Addr} {oc:Value} {od an:Option Addr} {osl:Array (Option Value)} {kV doc pm cdv ct:Value} (X:K.In h) (G:h.Ns U8 mg)
  (a:G8 K U8 x=some (some (.ref f))) (l:K.lookup f=some ⟨oc,od,.func (T7 x x (b0 st) (aF st) (aa st) .none kV doc pm an cdv ct),osl⟩) (hcd:P7 K cdv x=true) (k:T5 K (.ref f)=true) (hc:cdv=.ref c)
  (hb:∀ (kV doc pm:Value) (an:Option Addr) (cdv ct:Value) (us:List Value),us.length=ps.length->A9 (T7 x x (b0 st) (aF st) (aa st) .none kV doc pm an cdv ct) ⟨us,[]⟩=pure (ps.zip us)):dt K mg x st ps c :=
 ⟨f,_,eJ (st:=st) l hcd k,(eJ (st:=st) l hcd k).binds hb,PySem.W.mg_of X G a,hc⟩
section
variable {P:W5} {w:World} {K:Z3} {mg:Str->Option Value} {base:Heap} {x:Str} {st:Stmt} {N ps:List Str} {k:Nat} {c:Addr} {τ γ:Type} {ra:RpA τ} {r:Rp γ}
theorem dt.has {sp:Sp} (D:dt K mg x st ps c) (S:FnScope N ps (aa st)) (len:∀ vs H Q E,sp vs H Q E->vs.length=ps.length)
  (hbody:∀ (f:Addr) (A:Around) (outer:List Env) (s:Shared) (H:Hp) (vs:List V) (Q:VK) (E:XK),Room k (A.deeper (envOfC x (aa st) s.heap.objs.size f (.ref c)))->sp vs H Q E ->
   ∃ t,PSs (cxOf CX0 P w K mg base N x (aa st) f (.ref c) A outer s H E).nox (aF st) t/\t { nx:=λ_ H'=>Q .non H',rt:=Q } (start N vs) H):Has P w K mg base (k+1) x ps sp:=by
 refine oq24 D λf fd F b hm hc=>?_
 refine ⟨f,fd,?_,hm,F.kp,b⟩
 refine oq71 F.ex λoc od kV doc pm an cdv zz=>oq23 zz λct osl e lk hcd=>?_
 subst e
 obtain rfl:cdv=.ref c:=hc
 refine fn_of lk hcd S len λA outer s H vs Q E hr hsp=>?_
 refine oq12 (hbody f A outer s H vs Q E hr hsp) λt h q=>?_
 exact (oi12 t h.nox q)
noncomputable abbrev BodyAtC (P:W5) (w:World) (K:Z3) (mg:Str->Option Value) (base:Heap) (x:Str) (st:Stmt) (N:List Str) (k:Nat) (c:Addr) (G:TS->Prop):Prop :=
 ∀ (f:Addr) (A:Around) (outer:List Env) (s:Shared) (H:Hp) (E:XK),Room k (A.deeper (envOfC x (aa st) s.heap.objs.size f (.ref c)))->∃ t,PSs (cxOf CX0 P w K mg base N x (aa st) f (.ref c) A outer s H E).nox (aF st) t/\G t
theorem dt.pV {f:τ->Option γ} {n:Nat} (D:dt K mg x st ps c) (S:FnScope N ps (aa st)) (hl:∀ a,(ra.slots a).length=ps.length) (hn:N.length - ps.length=n)
  (h:BodyAtC P w K mg base x st N k c λt=>∀ a,BV (ra.slots a++T6 n .any) t (f a) (finV r)):Has P w K mg base (k+1) x ps (spV ra r f):=by
 refine D.has S (λvs H Q E h=>?_) λfa A outer s H vs Q E hr hsp=>?_
 ·refine oq35 h λF a c _ _ _ h1 _=>?_; rw [(ra.ok h1).1,hl]
 ·refine oq12 (h fa A outer s H E hr) λt h1 h2=>?_
  refine oq36 hsp λF a c sb nt tg hr' hf q=>?_
  refine (oi12 t h1 (h2 a _ F _ H _ c (SR.begin_ sb nt tg hr' (by rw [(ra.ok hr').1,hl]; exact hn)) hf ?_))
  exact λv F' H' fr rv=>q v F' H' ⟨fr.keep,fr.low,fr.sub,fr.base,λ_=>fr.nt⟩ rv
theorem dt.pL {f:τ->Option (List γ)} {n:Nat} (D:dt K mg x st ps c) (S:FnScope N ps (aa st)) (hl:∀ a,(ra.slots a).length=ps.length) (hn:N.length - ps.length=n)
  (h:BodyAtC P w K mg base x st N k c λt=>∀ a,BV (ra.slots a++T6 n .any) t (f a) (finL r)):Has P w K mg base (k+1) x ps (spL ra r f):=by
 refine D.has S (λvs H Q E h=>?_) λfa A outer s H vs Q E hr hsp=>?_
 ·refine oq35 h λF a c _ _ _ h1 _=>?_; rw [(ra.ok h1).1,hl]
 ·refine oq12 (h fa A outer s H E hr) λt h1 h2=>?_
  refine oq36 hsp λF a c sb nt tg hr' hf q=>?_
  refine (oi12 t h1 (h2 a _ F _ H _ c (SR.begin_ sb nt tg hr' (by rw [(ra.ok hr').1,hl]; exact hn)) hf ?_))
  exact λp vs F' H' fr hp rv=>q p vs F' H' ⟨fr.keep,fr.low,fr.sub,fr.base,λ_=>fr.nt⟩ hp rv
end
end
open PySem PySem.Spec PyProof.Rows
@[reducible] noncomputable def konL (l:List (Addr × Str)):Kon:=⟨l.map (·.1),λb=>((l.find? λp=>p.1 == b).map (·.2)).getD ""⟩
def jo (K:Z3) (T:List Addr) (a:Addr) (H:Hp):Prop:=∀ b u,H b=some u->(b=a/\K.lookup a=none/\∃ o xs,u=.frz o (.lst xs))\/(b∈T/\u=.tbl #[])
theorem law_callT [Kon] {P:W5} {w:World} {K:Z3} {mg mb:Str->Option Value} {CX:CXT} {k:Nat} {fa a:Addr} {fd:C9} {x:Str} {sp:Sp} {s₁:Shared} {vs:List Value} {ns:List Int}
  (KX:K.In s₁.heap) (hns:s₁.heap.Ns U8 mg) (hb:s₁.heap.Ns builtinsNs mb) (hbb:∀ x:Str,x≠"__name__"->mb x=P0 x) (hlim:s₁.heap.NoLimit) (hbm:BM mg s₁.heap) (hg:s₁.gens=#[])
  (ha:s₁.heap.get? a=some { cls:=.type "list",data:=.seq vs.toArray }) (hi:J8 vs ns) (hl:ns.length<=V1) (hr:Room k callerA)
  (hT:∀ P∈Kon.T,s₁.heap.get? P=some (PySem.W.tabObj #[])/\(∃ c,J4 K c P=true)/\K.lookup P=none)
  (F:∀ base:Heap,K.In base->base.Ns U8 mg->BM mg base->FnOk P w K mg base CX k fa fd [x] sp) (hbind:∀ (s:Shared) (u:Value),BindsTo s fd ⟨[u],[]⟩ [(x,u)])
  (hsp:∀ H:Hp,TbG H->SqL K H a (ns.map V.int)->sp [.ref a] H (λv _=>v=.bl true) λ_ _ _=>False)
  (hCX:∀ H e s',CX [] H s₁ (λ_ _ _=>False) e s'->False) :
  codeAny (model P w) callerA (.call (.ref fa) ⟨[.ref a],[]⟩) (λr s'=>r=.ok (.ret (.bool true))/\OldK s₁.heap s'.heap/\s'.os=s₁.os/\AllBare s'.gens) s₁:=by
 have rv:=iA hi
 have lenV:=hi.length
 have aT:a ∉ Kon.T:=λz=>by
  have:=(hT a z).1
  rw [ha] at this; cases this
 have core:∀ H:Hp,jo K Kon.T a H->TbG H->SqL K H a (ns.map V.int)->HOk P w H s₁.heap ->
   codeAny (model P w) callerA (.call (.ref fa) ⟨[.ref a],[]⟩) (λr s'=>r=.ok (.ret (.bool true))/\OldK s₁.heap s'.heap/\s'.os=s₁.os/\AllBare s'.gens) s₁:=by
  intro H hA tg hS hok
  have free:∀ {b:Addr} {o:Obj},s₁.heap.get? b=some o->(∀ xs n,o.data≠.seq xs n)->(∀ xs,o.data≠.fields xs)->H b=none:=λ{b o} e d1 d2=>by
   cases q:H b with
   | none=>rfl
   | some u =>
    rcases hA b u q with ⟨z,_⟩ | ⟨z,_⟩
    ·rw [z,ha] at e; cases e; exact absurd rfl (d1 _ _)
    ·rw [(hT b z).1] at e; cases e; exact absurd rfl (d2 _)
  have nsK:∀ {b:Addr} {m:Str->Option Value},s₁.heap.Ns b m->(hidT s₁.heap H).Ns b m:=λ{b m} ⟨o,es,ep,e,d,r⟩=>⟨o,es,ep,jw e (free e (λ_ _ z=>by rw [d] at z; cases z) λ_ z=>by rw [d] at z; cases z),d,r⟩
  have hKb:K.In (hidT s₁.heap H):=λb o e=>jw (KX b o e) (by
   cases q:H b with
   | none=>rfl
   | some u =>
    rcases hA b u q with ⟨z,z2,_⟩ | ⟨z,_⟩
    ·rw [z,z2] at e; cases e
    ·rw [(hT b z).2.2] at e; cases e)
  have hM:Mod K mg (hidT s₁.heap H):=⟨hKb,nsK hns,(oi12 mb (nsK hb) hbb),oq12 hlim λmc h1 h2=>⟨mc,nsK h1,h2⟩⟩
  have hB:BM mg (hidT s₁.heap H):=by
   refine oq26 hbm λbm ob b1 b2 b3 b4 b5 b6=>?_
   exact ⟨bm,ob,b1,b2,jw b3 (free b3 (λ_ _ z=>by rw [b6] at z; cases z) λ_ z=>by rw [b6] at z; cases z),b4,b5,b6⟩
  have e0:Env0 P w K mg (hidT s₁.heap H) callerA [] s₁ H:=⟨rfl,hM,λb o e=>of_hidT e,nz3 (hidT_size _ _),trivial,λb hb=>absurd (show b∈([]:List Addr) from hb) (by simp),hok,.of_eq hg⟩
  refine C1 ((F _ hKb (nsK hns) hB).run callerA [] s₁ H ⟨[.ref a],[]⟩ [.ref a] [.ref a] _ _ hr e0 (hbind s₁ (.ref a)) (.cons rfl .nil) (hsp H tg hS)) λr s' h=>?_
  cases r with
  | error e=>exact (hCX H e s' h).elim
  | ok fl =>
   cases fl with
   | next=>exact R9 h
   | brk=>exact R9 h
   | cont=>exact R9 h
   | ret u =>
    refine oq26 h λv H' os bare un hok' r' q=>?_
    have q':v=.bl true:=q
    subst q'
    obtain rfl:u=Value.bool true:=r'
    have nof:∀ b:Addr,b ∉ frs ([]:List Env):=λb z=>absurd (show b∈([]:List Addr) from z) (by simp)
    refine (oi04 rfl ⟨λb o e=>?_,λb o e=>un.there b o e (by simp)⟩ os bare)
    cases q:H b with
    | none=>exact .inl (un.keep b o e q (nof b) (by simp))
    | some u =>
     rcases hA b u q with ⟨_,_,ob,xs,z⟩ | ⟨z,z2⟩
     ·subst z
      have z2:=un.frzs b ob _ q
      refine oq02 (hok b _ q) λe1 _=>?_
      refine oq02 (hok' b _ z2) λe2 _=>?_
      rw [e] at e1; cases e1
      exact .inl e2
     ·subst z2
      refine oq11 (un.tbls b #[] q) λmore z3=>?_
      have z4:s'.heap.get? b=some (PySem.W.tabObj (#[]++more)):=(show aS P w H' s'.heap b (.tbl (#[]++more)) from hok' b _ z3)
      refine oq03 (hT b z) λt1 nn1 _=>?_; refine oq11 nn1 λc t2=>?_
      rw [t1] at e
      cases e
      exact .inr (.inl ⟨((PySem.W.codeHd_of_K KX t2).tab t1).isCodeTable,rfl,#[],more,rfl,z4⟩)
 classical
 have tgOf:∀ H:Hp,(∀ P∈Kon.T,H P=some (.tbl #[]))->jo K Kon.T a H->TbG H:=λH h1 h2=>⟨λP hP=>⟨#[],h1 P hP⟩,λP ps e=>by
  rcases h2 P _ e with ⟨_,_,o,xs,z⟩ | ⟨_,z⟩
  ·cases z
  ·cases z; exact ⟨trivial,λpos cv h=>by simp [codeAmong] at h⟩⟩
 cases hk:K.lookup a with
 | some o =>
  have e:=KX a o hk
  rw [ha] at e
  cases e
  have s1:jo K Kon.T a (λb=>if b∈Kon.T then some (.tbl #[]) else none):=λb u z=>by
   by_cases hb:b∈Kon.T
   ·exact .inr ⟨hb,(Z7 ((if_pos hb).symm.trans z)).symm⟩
   ·exact nomatch (if_neg hb).symm.trans z
  refine core (λb=>if b∈Kon.T then some (.tbl #[]) else none) s1 (tgOf _ (λP hP=>if_pos hP) s1) (.inr (oi36 _ vs.toArray _ hk rfl rfl rfl (by rw [X0,lenV]; exact hl) (by simpa using rv))) λb u z=>?_
  rcases s1 b u z with ⟨_,z2,_⟩ | ⟨z1,z2⟩
  ·rw [hk] at z2; cases z2
  ·subst z2; exact (hT b z1).1
 | none =>
  have s1:jo K Kon.T a (λb=>if b=a then some (.frz { cls:=.type "list",data:=.seq vs.toArray } (.lst (ns.map V.int))) else if b∈Kon.T then some (.tbl #[]) else none):=λb u z=>by
   by_cases hb:b=a
   ·exact .inl ⟨hb,hk,_,_,(Z7 ((if_pos hb).symm.trans z)).symm⟩
   ·have z:=(if_neg hb).symm.trans z
    by_cases hb:b∈Kon.T
    ·exact .inr ⟨hb,(Z7 ((if_pos hb).symm.trans z)).symm⟩
    ·exact nomatch (if_neg hb).symm.trans z
  refine core _ s1 (tgOf _ (λP hP=>(if_neg fun z:P=a=>aT (z ▸ hP)).trans (if_pos hP)) s1) (.inl (.inr ⟨{ cls:=.type "list",data:=.seq vs.toArray },if_pos rfl⟩)) λb u z=>?_
  by_cases hb:b=a
  ·have z':=(if_pos hb).symm.trans z
   cases z'
   subst hb
   exact ⟨ha,by rw [Y3]; exact hl,vs,_,rv,ha⟩
  ·have z':=(if_neg hb).symm.trans z
   by_cases hb:b∈Kon.T
   ·have z':=(if_pos hb).symm.trans z'
    cases z'
    exact (hT b hb).1
   ·exact nomatch (if_neg hb).symm.trans z'
theorem walk_ofT [Kon] {l:PySem.W.OpenLaw} {n k:Nat} {q:W5} {loose:List Str} {XP:(Str->Option Value)->Heap->Prop} {YP:World->Heap->Prop} {d:DefRec} {K:Params->Z3} {sp:World->Sp} {x:Str}
  (hn:l.most=some n) (hn2:n<=V1) (hdf:d.params.defaults=[]) (hr:Room k callerA)
  (hY:∀ (w:World) (h:Heap),YP w h->(K w.params).In h/\∀ P∈Kon.T,h.get? P=some (PySem.W.tabObj #[]))
  (hC:∀ (w:World),∀ P∈Kon.T,(K w.params).lookup P=none)
  (F:∀ (w:World) (mg:Str->Option Value) (fa:Addr) (h:Heap),(K w.params).In h->h.Ns U8 mg->mg d.name=some (.ref fa) ->
   ∃ fd:C9,(∀ (s:Shared) (u:Value),BindsTo s fd ⟨[u],[]⟩ [(x,u)])/\(∀ P∈Kon.T,∃ c,J4 (K w.params) c P=true) /\
    ∀ base:Heap,(K w.params).In base->base.Ns U8 mg->BM mg base->FnOk l.prog w (K w.params) mg base CX0 k fa fd [x] (sp w))
  (hsp:∀ (w:World) (H:Hp) (a:Addr) (ns:List Int),ns.length<=n->TbG H->SqL (K w.params) H a (ns.map V.int)->sp w [.ref a] H (λv _=>v=.bl true) λ_ _ _=>False) :
  PySem.W.WalkO q loose XP YP l.row.toRowW d [] (λf vs=>PySem.call f vs):=by
 refine Att.oA hn hdf λw s₀ s₁ mg mb fa o pm cd doc a vs ns G Y ho hd _ hmg hobj hints hlen hg=>?_
 refine oq02 (hY w _ Y) λKX KT=>?_
 refine oq13 (F w mg fa _ KX G.T.g hmg) λfd hb hcd hF=>?_
 exact law_callT KX G.T.g G.T.b G.T.builtins G.T.nolimit G.T.bmain hg hobj hints (nz4 hlen hn2) hr (λP hP=>(oi03 (KT P hP) (hcd P hP) (hC w P hP))) hF hb (λH tg hS=>hsp w H a ns hlen tg hS) λH e s' z=>z
end L2
namespace Pu
noncomputable def lrng (j:Int):Option (List Int):=if -(2 ^ 62)<=j/\j<2 ^ 62/\j.toNat<=16777216 then some (nats j.toNat) else none
end Pu
namespace L2
section
open PySem PySem.Spec PyProof.Rows
variable [Kon]
structure LamAt (K:Z3) (mg:Str->Option Value) (base:Heap) (c P:Addr) (x:Str):Prop where
 bm:BM mg base
 hd:J4 K c P=true
 mem:P∈Kon.T
 nm:Kon.Q P=(x++".<locals>.")++"<lambda>"
section
variable {X:Cx} {a:Expr} {te:TE} {p pos:Pos}
def tRng (te:TE):TE:=λσ H Q=>te σ H λv H1=>∃ j:Int,v=.int j/\-(2 ^ 62)<=j/\j<2 ^ 62/\∀ q,H1 q=none->Q (.ref q) (upd H1 q (.rng 0 j))
theorem pe_rng (he:PE X a te) (hg:Gl X "range") (hm:X.mg "range"=none) (hs:autoParam (V4 [a] X.env=[(false,eval a X.env)]) L2.a2q._auto_1):PE X (.Call (.Name "range" p) [a] [] pos) (tRng te):=by
 intro pins s σ H Q I h
 have h1:(aZ te tNil) σ H λxs H1=>∃ j:Int,xs=[.int j]/\-(2 ^ 62)<=j/\j<2 ^ 62/\∀ q,H1 q=none->Q (.ref q) (upd H1 q (.rng 0 j)):=by
  show te σ H λx H1=>∃ j:Int,[x]=[.int j]/\-(2 ^ 62)<=j/\j<2 ^ 62/\∀ q,H1 q=none->Q (.ref q) (upd H1 q (.rng 0 j))
  have e:(λ(x:V) H1=>∃ j:Int,[x]=[.int j]/\-(2 ^ 62)<=j/\j<2 ^ 62/\∀ q,H1 q=none->Q (.ref q) (upd H1 q (.rng 0 j)))=λx H1=>∃ j:Int,x=.int j/\-(2 ^ 62)<=j/\j<2 ^ 62/\∀ q,H1 q=none->Q (.ref q) (upd H1 q (.rng 0 j)):=by
   funext x H1; simp
  rw [e]; exact h
 refine M8 (dN I hg hm boot_range (P3 (thn (a7 he a9 hs pos pins s σ H _ I h1) λus s1 zq=>oq23 zq λvs H1 I1 r1 q1=>?_) hs rfl))
 refine oq14 q1 λj e q1 q2 q=>?_
 subst e
 cases r1 with
 | cons r rr =>
  cases rr
  refine oq11 r λt eq1_=>?_; subst eq1_
  exact call_range_1 ⟨.ref _,_,I1.laid (o:=.rng 0 j) (λb o e=>Z5 _ e) (nz6 _) ⟨_,_,_,X4 _ rfl⟩,rfl,q _ (I1.hok.fresh (nz6 _))⟩
def rListR:List V->Hp->VK->Prop:=λxs H Q=>∃ r j,xs=[.ref r]/\H r=some (.rng 0 j)/\-(2 ^ 62)<=j/\j<2 ^ 62/\j.toNat<=16777216/\∀ q,H q=none->Q (.ref q) (upd H q (.lst ((Pu.nats j.toNat).map V.int)))
theorem rp (hc:X.calm=true):cV X (.type "list") rListR:=by
 intro pins s σ H xs us Q I r hh
 refine oq26 hh λl j eq2_ hR h1 h2 h3 q=>?_; subst eq2_
 refine oq12 (vals1 r) λu eq1_ ru=>?_; subst eq1_
 cases ru
 refine oq31 ((show aS X.prog X.w H s.heap l (.rng 0 j) from I.hok l _ hR)) λt u v ho=>?_
 refine call_list_range (n:=j.toNat) (I.ok.hd hc) ho (small_one (by omega) (by omega) h1 h2) (by rw [rangeSize_one]; split <;> omega) (by omega) λh' tk acc c' hk hD hacc=>?_
 have hl:acc.toList.length=j.toNat:=by rw [V9]; exact hacc.1
 refine ⟨.ref _,_,I.laid (t':=tk) (o:=.lst ((Pu.nats j.toNat).map V.int)) hk (nz6 _) ⟨?_,acc.toList,c',?_,by rw [hD]⟩,rfl,q _ (I.hok.fresh (nz6 _))⟩
 ·rw [V8]; simp [Pu.nats]; omega
 ·refine iA ?_
  have key:∀ (l:List Value) (k:Nat),(∀ (i:Nat) v,l[i]?=some v->∃ t,v=O9 ((k+i:Nat):Int) t)->J8 l ((List.range' k l.length).map λ(i:Nat)=>(i:Int)):=by
   intro l
   induction l with
   | nil=>exact λk _=>.nil
   | cons x l ih =>
    intro k hx
    refine oq11 (hx 0 x rfl) λt e=>?_
    subst e
    rw [W4,List.range'_succ,V0]
    refine .cons _ t (ih (k+1) λi v e=>?_)
    refine oq11 (hx (i+1) v (by simpa using e)) λt e2=>?_
    exact ⟨t,by rw [e2]; congr 2; try omega⟩
  have:=key acc.toList 0 λi v e=>by
   obtain ⟨t,e2⟩:=hacc.2 i v (by rw [<- J9]; exact e)
   exact ⟨t,by rw [e2]; congr 1; try omega⟩
  rw [hl] at this
  unfold Pu.nats
  rw [List.range_eq_range']
  exact this
end
theorem oU {Γ:List Slot} {te:TE} {oi:Option Int} (h:EV Γ te oi rInt):EVL Γ (tCB rListR (aZ (tRng te) tNil)) (oi.bind λj=>Pu.lrng j) rInt:=by
 intro C F σ H Q xs S e k
 refine oq12 (a8 e) λj e1 e=>?_
 unfold Pu.lrng at e
 split at e
 ·rename_i hh
  cases e
  refine h C F σ H _ j S e1 λv F' H' x1 r1=>(oi14 j r1 hh.1 hh.2.1 (λq hq=>⟨q,j,rfl,ah,hh.1,hh.2.1,hh.2.2,λl hl=>k l _ F' _ (x1.trans (Ext.newH x1.sub hq)) hl (paired_ints _)⟩))
 ·cases e
end
end L2
namespace Pu
noncomputable def j5 (g:Int->Option (Int × Int)):List Int->Int->Int × Int->Option Int
 | [],b,_=>some b
 | x :: xs,b,kb=>(g x).bind λk=>if lt2 k kb=true then j5 g xs x k else j5 g xs b kb
noncomputable def minK (g:Int->Option (Int × Int)):List Int->Option Int
 | []=>none
 | x :: xs=>(g x).bind λk=>j5 g xs x k
end Pu
namespace L2
section
open PySem PySem.Spec PyProof.Rows
variable [Kon]
def gz (tb:TE) (st:V->St) (sq:Hp->Prop) (Q:VK):List V->V->V->Hp->Prop
 | [],b,_,H=>sq H/\Q b H
 | x :: r,b,kb,H=>sq H/\tb (st x) H λk H'=>∃ pk pb,(rT2 rInt rInt).rel H' k pk/\(rT2 rInt rInt).rel H' kb pb/\(if Pu.lt2 pk pb=true then gz tb st sq Q r x k H' else gz tb st sq Q r b kb H')
def tMinK (K:Z3) (P:Addr) (cap:List (Str × Nat)) (te tb:TE):TE:=λσ H Q=>te σ H λv H1=>∃ p x r,v=.ref p/\SqL K H1 p (x :: r)/\TbG H1 /\
 ∀ H2 c,TbSt P H1 H2->H2 c=some (.ext (aE c (Kon.Q P)))->H2 c=some (.ext (aE c (Kon.Q P)))/\tb (dr x cap σ) H2 λk H'=>gz (λσ H Q=>H c=some (.ext (aE c (Kon.Q P)))/\tb σ H Q) (λx=>dr x cap σ) (λH=>SqL K H p (x :: r)) Q r x k H'
section
variable {X:Cx} {pins:List (Addr × Obj)} {σ:St} {H:Hp} {s:Shared} {x:Str} {cap:List (Str × Nat)} {scope:Scope} {cl:List (Str × Addr)} {f:Addr} {cd:Value}
theorem mX {h:Heap} {l i l':Addr} {its:Array Value} {j:Nat} (h1:h.IsList l its) (h2:h.IsListIter i l' j):l≠i:=λz=>by
 refine oq13 h1 λo ho hc _=>?_
 refine oq13 h2 λo2 ho2 hc2 _=>?_
 rw [z,ho2] at ho; cases ho; rw [hc2] at hc; simp at hc
theorem jp {A B:List (Addr × Obj)} {a:Addr × Obj} {z:Addr} (h:∀ p∈A++B,p.1<z) (ha:a.1≠z):∀ p∈A++a :: B,p.1≠z:=λp hp=>by
 rcases W9.mp hp with q | q
 ·exact nz7 (h p (U0 _ q))
 ·rcases Y4.mp q with q | q
  ·rw [q]; exact ha
  ·exact nz7 (h p (Y7 _ q))
theorem Inv.noc {a:Addr} {o:Obj} (I:Inv X pins σ H s) (hm:(a,o)∈X.pn++pins):∀ y c,X.env.cells.lookup y=some c->c≠a:=λy c e z=>by
 refine oq22 (I.cell y c e) λv ob ho hd=>?_
 refine oq05 (I.pin (a,o) hm) λq1 _ _ _ q5=>?_
 rw [z] at ho
 have:some ob=some o:=ho.symm.trans q1
 cases this
 exact q5 v hd
theorem Inv.swap {a b:Addr × Obj} (I:Inv X (a :: b :: pins) σ H s):Inv X (b :: a :: pins) σ H s:=I.pins_of λp hp=>I.pin p (Y7 _ (by
 simp only [Y4] at hp ⊢
 rcases hp with h | h | h
 ·exact .inr (.inl h)
 ·exact .inl h
 ·exact .inr (.inr h)))
theorem Inv.drop1 {a:Addr × Obj} (I:Inv X (a :: pins) σ H s):Inv X pins σ H s:=I.pins_of λp hp=>I.pin p (Y7 _ (Y4.mpr (.inr hp)))
theorem Inv.relistT {kS:Addr} {o o':Obj} {h':Heap} {t':Nat} (I:Inv X ((kS,o) :: pins) σ H s) (hz:X.s₀.heap.objs.size<=kS) (hp:∀ p∈X.pn++pins,p.1≠kS) (hc:∀ v,o'.data≠.cell v) (k:∀ b ob,b≠kS->s.heap.get? b=some ob->h'.get? b=some ob) (h:h'.get? kS=some o') :
  Inv X ((kS,o') :: pins) σ H { s with heap:=h',toks:=t' }:=by
 have I1:=(I.relist hz hp hc k h).tok t'
 exact I1
theorem pair_lt {a b:V} {u v:Value} {pa pb:Int × Int} {A:Around} {E:Value->Shared->Prop} {Q:Value->Shared->Prop} (I:Inv X pins σ H s) (ra:RelV a u) (rb:RelV b v) (ha:(rT2 rInt rInt).rel H a pa) (hb:(rT2 rInt rInt).rel H b pb) (hu:A.units<cLine) (h:Q (.bool (Pu.lt2 pa pb)) s) :
  wpAny (model X.prog X.w) A (N5 .Lt u v) Q E s:=by
 refine oq34 ha λp a1 a2 eq3_ h1 h2 h3=>?_; subst eq3_
 refine oq34 hb λp' b1 b2 eq3_ h4 h5 h6=>?_; subst eq3_
 cases ra; cases rb
 cases h2; cases h3; cases h5; cases h6
 refine oq13 (I.tuple (SqT.of (K:=X.K) h1)) λits r1 p1 _=>?_
 refine oq13 (I.tuple (SqT.of (K:=X.K) h4)) λits2 r2 p2 _=>?_
 have i1:J8 its.toArray.toList [pa.1,pa.2]:=intsAre_of (by simpa using r1)
 have i2:J8 its2.toArray.toList [pb.1,pb.2]:=intsAre_of (by simpa using r2)
 refine HT.qM p1 p2 i1 i2 hu ?_
 rw [lex_pair]; exact h
open PySem.W in
theorem mY {params:Arguments} {body:Expr} {pm ctv:Value} {c':Addr} {qual:Str} {tb:TE} {I9 S9 l:Addr} {vs:List V} {Q:VK} {L:List (Addr × Obj)} {R:Result->Shared->Prop} (hfL:(f,kla_obj "<lambda>" qual params body scope cl pm c' ctv)∈L) (hR:∀ u s',EP X L σ Q u s'->R (.ok (.ret u)) s') (S:LamScope X x cap scope) (C:LamCl X scope cl)
  (hA:X.A.frames=some X.stack) (hh:X.A.handled=none) (hd:X.A.depth<D2) (hu:X.A.in1.units<cLine) (hb:∀ cl pm cd ct u,A9 (kla_fn "<lambda>" qual params body scope cl pm cd ct) ⟨[u],[]⟩=pure [(x,u)])
  (hp:∀ f cd cl s H,PE (gW X X.A.in1 (x :: cap.map (·.1)) qual scope f cd cl s H) body tb) (hzI:X.s₀.heap.objs.size<=I9) (hzS:X.s₀.heap.objs.size<=S9) (hIS:I9<S9)
  (hpn:∀ p∈X.pn++L,p.1<I9) :
  ∀ (r:List V) (j:Nat) (bV kV:V) (vb kb:Value) (c:Nat) (oI:Obj) (H:Hp) (s:Shared),vs.drop j=r->j<=vs.length ->
   Inv X ((S9,seqObj "list" #[vb,kb] c) :: (I9,oI) :: L) σ H s->s.heap.IsListIter I9 l j->RelV bV vb->RelV kV kb ->
   gz (λσ H Q=>H c'=some (.ext (aE c' qual))/\tb σ H Q) (λv=>dr v cap σ) (λH=>SqL X.K H l vs) Q r bV kV H ->
   codeAny (model X.prog X.w) X.A (.builtin "min.loop" ⟨[.ref I9,.ref f,.ref S9],[]⟩) R s
 | [],j,bV,kV,vb,kb,c,oI,H,s,er,hj,I,hit,rb,rk,h=>by
  refine oq02 h λhS hq=>?_
  have hjl:j=vs.length:=by
   have:=congrArg List.length er
   simp at this; (clear hq hS rk rb hit I er hpn hIS hzS hzI hp hb hu hd hh hA C S; omega)
  subst hjl
  have pS:=I.pin (S9,seqObj "list" #[vb,kb] c) (by simp)
  have pI:=I.pin (I9,oI) (by simp)
  refine oq13 (I.list hS) λits rv ht hz=>?_
  have hlI:=mX ht.isList hit
  have W:=Walks.list (prog:=X.prog) (w:=X.w) (A:=X.A.in1) hh I9 l hlI its.toArray
  have hsz:its.toArray.size=vs.length:=by rw [X0,<- rv.length]
  refine M3 PySem.F.entry_min_loop ?_
  rw [P8 O5 _]
  show wpAny _ X.A.in1 (seqItems? (.ref S9) >>= _) _ _ _
  refine Z0 (wpAny_seqItems pS.1 rfl ?_)
  show wpAny _ X.A.in1 (tryCatch (pyNext (.ref I9)) _ >>= _) _ _ _
  refine Z0 (wpAny_tryCatch (W.done _ _ _ ⟨by rw [hsz]; exact hit,ht.isList⟩ λh' tk' hk'=>?_))
  have hk2:∀ b o,b≠I9->s.heap.get? b=some o->h'.get? b=some o:=λb o nb e=>hk' b o (by simpa using nb) e
  have hS':=hk2 S9 _ (N2 hIS) pS.1
  show wpAny _ X.A.in1 (updateSeq S9 (λ_=>#[]) >>= _) _ _ _
  refine Z0 ?_
  refine wpAny_updateSeq hS' rfl (Z0 (wpAny_letGo (Y0 ?_)))
  have I0:Inv X L σ H s:=I.drop1.drop1
  have I1:=I0.turned (t':=tk') hk2 pI.2.1 pI.2.2.1 (.inr hzI) (I.noc (o:=oI) (by simp)) λp hp=>nz7 (hpn p hp)
  have I2:=I1.turned (h':=h'.update S9 (X9 λ_=>#[])) (t':=tk') (it:=S9) (λb o nb e=>by rw [U7 _ _ _ _ nb]; exact e) pS.2.1 pS.2.2.1 (.inr hzS) (I.noc (o:=seqObj "list" #[vb,kb] c) (by simp)) λp hp=>nz7 (nz8 (hpn p hp) hIS)
  exact hR _ _ ⟨bV,H,I2,rb,hq⟩
 | y :: r,j,bV,kV,vb,kb,c,oI,H,s,er,hj,I,hit,rb,rk,h=>by
  refine oq03 h λhS h0 h=>?_
  have hjl:j<vs.length:=by
   have:=congrArg List.length er
   simp at this; omega
  have ey:vs[j]?=some y:=by
   have:(vs.drop j)[0]?=some y:=by rw [er]; rfl
   rw [L6] at this; simpa using this
  have er':vs.drop (j+1)=r:=by
   have:(vs.drop j).drop 1=r:=by rw [er]; rfl
   rw [List.drop_drop] at this; exact this
  have pS:=I.pin (S9,seqObj "list" #[vb,kb] c) (by simp)
  have pI:=I.pin (I9,oI) (by simp)
  refine oq13 (I.list hS) λits rv ht hz=>?_
  have hlI:=mX ht.isList hit
  have W:=Walks.list (prog:=X.prog) (w:=X.w) (A:=X.A.in1) hh I9 l hlI its.toArray
  have hsz:its.toArray.size=vs.length:=by rw [X0,<- rv.length]
  refine M3 PySem.F.entry_min_loop ?_
  rw [P8 O5 _]
  show wpAny _ X.A.in1 (seqItems? (.ref S9) >>= _) _ _ _
  refine Z0 (wpAny_seqItems pS.1 rfl ?_)
  show wpAny _ X.A.in1 (tryCatch (pyNext (.ref I9)) _ >>= _) _ _ _
  refine Z0 (wpAny_tryCatch (W.item j _ _ _ (by rw [hsz]; exact hjl) ⟨hit,ht.isList⟩ λv h' tk' hP hst' hk'=>?_))
  have hv:its[j]?=some v:=by simpa using hP
  refine oq12 (rv.get ey) λu9 hu9 ru=>?_
  have:u9=v:=Z7 (hu9.symm.trans hv)
  subst this
  have hk2:∀ b o,b≠I9->s.heap.get? b=some o->h'.get? b=some o:=λb o nb e=>hk' b o (by simpa using nb) e
  refine oq13 (id hst'.1) λoI' hoI' hoc hod=>?_
  have I1:=(I.swap.relistT (t':=tk') hzI (jp hpn (N2 hIS)) (λw z=>by rw [hod] at z; cases z) hk2 hoI').swap
  show wpAny _ X.A.in1 (tryCatch (holding [u9] (call (.ref f) [u9])) _ >>= _) _ _ _
  have po:=I1.pin _ (Y7 _ (.tail _ (.tail _ hfL)))
  refine Z0 (wpAny_tryCatch (Q0 (T4 (mW (A:=X.A.in1) S C I1 po.1 hA hh hd h0 hb (hp _ _ _ _ _) ru h) (λk s2 he=>?_) λ_ _ z=>z.elim)))
  refine oq23 he λkv H2 I2 rkv zz=>oq23 zz λpk pb g1 g2 g3=>?_
  have pS2:=I2.pin (S9,seqObj "list" #[vb,kb] c) (by simp)
  have pI2:=I2.pin (I9,oI') (by simp)
  have hit2:s2.heap.IsListIter I9 l (j+1):=⟨oI',pI2.1,hoc,hod⟩
  show wpAny _ X.A.in1 (tryCatch (holding [u9,k] (richCompare .Lt k kb >>= _)) _ >>= _) _ _ _
  refine Z0 (wpAny_tryCatch (Q0 (Z0 (pair_lt (A:=X.A.in1) I2 rkv rk g1 g2 hu ?_))))
  refine Z0 (Q0 (N9 ?_))
  refine Z0 (wpAny_letGo (Y0 ?_))
  cases hb':Pu.lt2 pk pb with
  | true =>
   rw [hb',if_pos rfl] at g3
   obtain ⟨c2,hc2⟩:∃ c2,(s2.heap.update S9 (X9 λ_=>#[u9,k])).get? S9=some (seqObj "list" #[u9,k] c2):=⟨_,G3 pS2.1 λ_=>#[u9,k]⟩
   simp only [if_true]
   refine Z0 ?_
   refine wpAny_updateSeq pS2.1 rfl (Z0 (wpAny_letGo ?_))
   have I3:=I2.relist (o':=seqObj "list" #[u9,k] c2) (h':=s2.heap.update S9 (X9 λ_=>#[u9,k])) hzS (jp (λp hp=>nz8 (hpn p hp) hIS) (nz7 hIS)) (λw z=>nomatch z) (λb o nb e=>by rw [U7 _ _ _ _ nb]; exact e) hc2
   have hit3:(s2.heap.update S9 (X9 λ_=>#[u9,k])).IsListIter I9 l (j+1):=⟨oI',by rw [U7 _ _ _ _ (nz7 hIS)]; exact pI2.1,hoc,hod⟩
   exact Y0 ⟨E6 O5 _,mY hfL hR S C hA hh hd hu hb hp hzI hzS hIS hpn r (j+1) y kv u9 k c2 oI' H2 _ er' (by exact hjl) I3 hit3 ru rkv g3⟩
  | false =>
   rw [hb',if_neg Z8] at g3
   simp only [N3,if_false]
   refine Z0 (wpAny_letGo ?_)
   exact Y0 ⟨E6 O5 _,mY hfL hR S C hA hh hd hu hb hp hzI hzS hIS hpn r (j+1) bV kV vb kb c oI' H2 _ er' (by exact hjl) I2 hit2 rb rk g3⟩
open PySem.W in
theorem min_first {params:Arguments} {body:Expr} {pm ctv:Value} {c':Addr} {qual:Str} {tb:TE} {I9 S9 l:Addr} {y:V} {rest:List V} {Q:VK} {oI:Obj} {L:List (Addr × Obj)} {R:Result->Shared->Prop} (hfL:(f,kla_obj "<lambda>" qual params body scope cl pm c' ctv)∈L) (hR:∀ u s',EP X L σ Q u s'->R (.ok (.ret u)) s') (S:LamScope X x cap scope) (C:LamCl X scope cl)
  (hA:X.A.frames=some X.stack) (hh:X.A.handled=none) (hd:X.A.depth<D2) (hu:X.A.in1.units<cLine) (hb:∀ cl pm cd ct u,A9 (kla_fn "<lambda>" qual params body scope cl pm cd ct) ⟨[u],[]⟩=pure [(x,u)])
  (hp:∀ f cd cl s H,PE (gW X X.A.in1 (x :: cap.map (·.1)) qual scope f cd cl s H) body tb) (hzI:X.s₀.heap.objs.size<=I9) (hzS:X.s₀.heap.objs.size<=S9) (hIS:I9<S9)
  (hpn:∀ p∈X.pn++L,p.1<I9)
  (I:Inv X ((S9,seqObj "list" #[] 0) :: (I9,oI) :: L) σ H s) (hit:s.heap.IsListIter I9 l 0) (hS:SqL X.K H l (y :: rest)) (h0:H c'=some (.ext (aE c' qual)))
  (q:tb (dr y cap σ) H λkv H3=>gz (λσ H Q=>H c'=some (.ext (aE c' qual))/\tb σ H Q) (λv=>dr v cap σ) (λH=>SqL X.K H l (y :: rest)) Q rest y kv H3) :
  codeAny (model X.prog X.w) X.A (.builtin "min.loop" ⟨[.ref I9,.ref f,.ref S9],[]⟩) R s:=by
 refine oq13 (I.list hS) λits rv ht hz=>?_
 have hlI:=mX ht.isList hit
 have W:=Walks.list (prog:=X.prog) (w:=X.w) (A:=X.A.in1) hh I9 l hlI its.toArray
 have hsz:0<its.toArray.size:=by rw [X0,<- rv.length]; exact Nat.succ_pos _
 refine M3 PySem.F.entry_min_loop ?_
 rw [P8 O5 _]
 have pS:=I.pin (S9,seqObj "list" #[] 0) (by simp)
 show wpAny _ X.A.in1 (seqItems? (.ref S9) >>= _) _ _ _
 refine Z0 (wpAny_seqItems pS.1 rfl ?_)
 show wpAny _ X.A.in1 (tryCatch (pyNext (.ref I9)) _ >>= _) _ _ _
 refine Z0 (wpAny_tryCatch (W.item 0 _ _ _ hsz ⟨hit,ht.isList⟩ λv h' tk' hP hst' hk'=>?_))
 have hv:its[0]?=some v:=by simpa using hP
 refine oq12 (rv.get (i:=0) (x:=y) rfl) λu9 hu9 ru=>?_
 have:u9=v:=Z7 (hu9.symm.trans hv)
 subst this
 refine oq13 (id hst'.1) λoI' hoI' hoc hod=>?_
 have I6:=(I.swap.relistT (t':=tk') hzI (jp hpn (N2 hIS)) (λw z=>by rw [hod] at z; cases z) (λb o nb e=>hk' b o (by simpa using nb) e) hoI').swap
 show wpAny _ X.A.in1 (tryCatch (holding [u9] (call (.ref f) [u9])) _ >>= _) _ _ _
 have po:=I6.pin _ (Y7 _ (.tail _ (.tail _ hfL)))
 refine Z0 (wpAny_tryCatch (Q0 (T4 (mW (A:=X.A.in1) S C I6 po.1 hA hh hd h0 hb (hp _ _ _ _ _) ru q) (λk s3 he=>?_) λ_ _ z=>z.elim)))
 refine oq23 he λkv H3 I7 rkv g3=>?_
 have pS2:=I7.pin (S9,seqObj "list" #[] 0) (by simp)
 have pI2:=I7.pin (I9,oI') (by simp)
 refine oq11 (⟨_,G3 pS2.1 λ_=>#[u9,k]⟩:∃ c2,(s3.heap.update S9 (X9 λ_=>#[u9,k])).get? S9=some (seqObj "list" #[u9,k] c2)) λc2 hc2=>?_
 show wpAny _ X.A.in1 (updateSeq S9 (λ_=>#[u9,k]) >>= _) _ _ _
 refine Z0 ?_
 refine wpAny_updateSeq pS2.1 rfl ?_
 rw [show (toString "min"++toString ".loop":String)="min.loop" by decide]
 have I8:=I7.relist (o':=seqObj "list" #[u9,k] c2) (h':=s3.heap.update S9 (X9 λ_=>#[u9,k])) hzS (jp (λp hp=>nz8 (hpn p hp) hIS) (nz7 hIS)) (λw z=>nomatch z) (λb o nb e=>by rw [U7 _ _ _ _ nb]; exact e) hc2
 exact Y0 ⟨E6 O5 _,mY (vs:=y :: rest) hfL hR S C hA hh hd hu hb hp hzI hzS hIS hpn rest 1 y kv u9 k c2 oI' H3 _ rfl (Nat.succ_le_succ (U2 _)) I8 ⟨oI',by rw [U7 _ _ _ _ (nz7 hIS)]; exact pI2.1,hoc,hod⟩ ru rkv g3⟩
open PySem.W in
theorem pe_minK {P c:Addr} {params:Arguments} {body e:Expr} {p pos kpos lpos:Pos} {te tb:TE} (he:PE X e te) (hr:Room 3 X.A) (hm:X.mg "min"=none) (bm:BM X.mg X.base) (hC:codeHdIn X.K c P=true) (hT:P∈Kon.T) (hq:Kon.Q P=X.env.qual++"<lambda>") (hcode:X.env.code=.ref c)
  (S:LamScope X x cap scope) (hb:∀ cl pm cd ct u,A9 (kla_fn "<lambda>" (Kon.Q P) params body scope cl pm cd ct) ⟨[u],[]⟩=pure [(x,u)])
  (hp:∀ f cd cl s H,PE (gW X X.A.in1 (x :: cap.map (·.1)) (Kon.Q P) scope f cd cl s H) body tb) (hg:autoParam (Gl X "min") L2.a2q._auto_1) (hdef:autoParam (defaultsOf params X.env=([],[])) L2.a2q._auto_1)
  (hst:autoParam (V4 [e] X.env=(false,eval e X.env) :: V4 [] X.env) L2.a2q._auto_1) (hpl:autoParam ((backTo pos (V4 [e] X.env)).any (·.1)=false) L2.a2q._auto_1) :
  PE X (.Call (.Name "min" p) [e] [⟨some "key",.Lambda params body scope lpos,kpos⟩] pos) (tMinK X.K P cap te tb):=by
 intro pins s σ H Q I h
 refine M8 (dN I hg hm gr ?_)
 refine PyProof.Rows.callWith_kw ?_ (by rw [hst]; rfl) hpl
 have h1:(aZ te tNil) σ H (One λv H1=>∃ p x r,v=.ref p/\SqL X.K H1 p (x :: r)/\TbG H1/\∀ H2 c,TbSt P H1 H2->H2 c=some (.ext (aE c (Kon.Q P)))->H2 c=some (.ext (aE c (Kon.Q P)))/\tb (dr x cap σ) H2 λk H'=>gz (λσ H Q=>H c=some (.ext (aE c (Kon.Q P)))/\tb σ H Q) (λx=>dr x cap σ) (λH=>SqL X.K H p (x :: r)) Q r x k H'):=h
 refine thn (a7 he a9 hst pos pins s σ H _ I h1) ?_
 intro us s1 zq; refine oq23 zq λvv H1 I1 r q=>?_
 show wpAny _ _ (evalAll ((do let v <- eval (.Lambda params body scope lpos) X.env; standAt pos; pure v) :: [])) _ _ s1
 refine oq23 (One.got r q) λv u eq2_ ru q9=>oq34 q9 λl y rest ev hS tg q8=>?_; subst eq2_; subst ev; clear q9
 cases ru
 refine wpAny_evalAll_cons (Z0 (mk_lam (P:=P) I1 S tg hT hq hcode hC bm hdef λf cl pm c' ctv H2 s2 I2 ts hc' CL=>Z0 (wpAny_standAt (Y0 (wpAny_evalAll_nil ?_)))))
 show wpAny _ _ (call (.builtin "min") [.ref l] [(F7 "key",.ref f)]) _ _ s2
 refine oq02 (q8 H2 c' ts hc') λh0 q=>?_
 have hS2:=ts.sm.seq hS
 refine oq13 (I2.list hS2) λits rv ht hz=>?_
 have hname:(toString "min"++toString ".loop":String)="min.loop":=by decide
 refine kmk_tree PySem.F.kind_min PySem.F.plain_min PySem.F.entry_min (kmk_min_key _ _) ?_
 show wpAny _ X.A.in1 (R0.Builtins.bindParams "min" ["key","default"] 0 ⟨[],[(F7 "key",.ref f)]⟩ >>= _) _ _ s2
 refine Z0 (wpAny_of_eq (show R0.Builtins.bindParams "min" ["key","default"] 0 ⟨[],[(F7 "key",.ref f)]⟩=pure [some (.ref f),none] from rfl) ?_)
 refine Z0 (Y0 ?_)
 refine Z0 (wpAny_pyIter_list ht.isList ?_)
 refine Z0 (wpAny_newList ?_ (U2 _))
 rw [hname]
 generalize hI9:s2.heap.objs.size=I9
 have hS9:(s2.heap.push { cls:=.type "list_iterator",data:=.fields #[.ref l,.int 0 0] }).objs.size=I9+1:=by rw [<- hI9]; exact size_push' ..
 have gI:((s2.heap.push { cls:=.type "list_iterator",data:=.fields #[.ref l,.int 0 0] }).push (seqObj "list" #[] 0)).get? I9=some { cls:=.type "list_iterator",data:=.fields #[.ref l,.int 0 0] }:=by
  rw [<- hI9]; exact Z5 _ (X4 _ rfl)
 have gS:((s2.heap.push { cls:=.type "list_iterator",data:=.fields #[.ref l,.int 0 0] }).push (seqObj "list" #[] 0)).get? (I9+1)=some (seqObj "list" #[] 0):=by rw [<- hS9]; exact X4 _ rfl
 refine Y0 ⟨E6 O5 _,?_⟩
 rw [hS9]
 have big:∀ b,I9<=b->H2 b=none/\b≠X.env.locals/\b ∉ X.fs:=λb hb=>(oi03 (I2.hok.fresh (by exact nz4 (nz3 hI9) hb)) (N2 (nz1 I2.lt (by exact nz4 (nz3 hI9) hb))) (I2.nofs (by exact nz4 (nz3 hI9) hb)))
 have I3:Inv X ((f,kla_obj "<lambda>" (Kon.Q P) params body scope cl pm c' ctv) :: pins) σ H2 { s2 with heap:=(s2.heap.push { cls:=.type "list_iterator",data:=.fields #[.ref l,.int 0 0] }).push (seqObj "list" #[] 0) }:=I2.kept (t':=s2.toks) λb o e=>Z5 _ (Z5 _ e)
 have I4:=I3.addPin (f:=I9) gI (big I9 (nz6 _)).1 (big I9 (nz6 _)).2.1 (big I9 (nz6 _)).2.2 λv z=>nomatch z
 have I5:=I4.addPin (f:=I9+1) (o:=seqObj "list" #[] 0) gS (big (I9+1) (P6 _)).1 (big (I9+1) (P6 _)).2.1 (big (I9+1) (P6 _)).2.2 λv z=>nomatch z
 have old:∀ p∈X.pn++((f,kla_obj "<lambda>" (Kon.Q P) params body scope cl pm c' ctv) :: pins),p.1<I9:=λp hp=>by rw [<- hI9]; exact X5 (I2.pin p hp).1
 have hzI:X.s₀.heap.objs.size<=I9:=by rw [<- hI9]; exact I2.sz
 have hun:X.A.in1.units<cLine:=by have:=hr.un; show X.A.units+1<_; omega
 have hdp:X.A.depth<D2:=by have:=hr.dp; (clear hun hzI old I5 I4 I3 big gS gI hS9 hI9 hname hz ht rv hS2 q h0 CL hc' ts I2 r tg hS I1 h1 h I hpl hst hdef hg hp hb S hcode hq hT hC bm hm hr he; omega)
 refine min_first (y:=y) (rest:=rest) (Q:=Q) (B3 _) (λu s' zz=>oq23 zz λv9 H9 I9' r9 q9=>⟨v9,H9,I9'.drop1,r9,q9⟩) S CL I.ok.frames hr.hd hdp hun hb hp hzI (F8 hzI) (U1 _) old I5 ⟨_,gI,rfl,rfl⟩ hS2 h0 q
end
section
variable {Γ:List Slot} {te tb:TE} {K:Z3} {P:Addr} {cap:List (Str × Nat)}
theorem rq {C:Fc} {F0 H0:Hp} {σ:St} {c l:Addr} {q:Str} {x:Str} {g:Int->Option (Int × Int)} {vs:List V} {Q:VK} {res:Int} (hc:(cap.map (·.2)).Nodup) (hb:∀ a,EV ((csl [x] cap Γ).set 0 (.fr rInt a)) tb (g a) (rT2 rInt rInt))
  (hfin:∀ F H,Ext F0 H0 F H->Q (.int res) H):∀ (r:List Int) (b:Int) (kV:V) (kb:Int × Int) (F H:Hp),SR C F Γ σ H->Ext F0 H0 F H->H c=some (.ext (aE c q))->Rd F l (.lst vs)->(rT2 rInt rInt).rel F kV kb->Pu.j5 g r b kb=some res ->
   gz (λσ H Q=>H c=some (.ext (aE c q))/\tb σ H Q) (λv=>dr v cap σ) (λH=>SqL K H l vs) Q (r.map V.int) (.int b) kV H
 | [],b,kV,kb,F,H,S,x0,h0,hl,hk,e=>by
  cases e
  exact ⟨.inl (S.sub.rd hl),hfin F H x0⟩
 | a :: r,b,kV,kb,F,H,S,x0,h0,hl,hk,e=>by
  unfold Pu.j5 at e
  refine oq12 (a8 e) λk e1 e=>?_
  refine ⟨.inl (S.sub.rd hl),h0,hb a C F _ H _ k ((S.comp (loc:=[x]) hc).setF 0 (r:=rInt) (a:=a) (v:=.int a) rfl) e1 λv F' H' x1 rv=>(oi23 k kb (Rp.mono _ x1.sub rv) (Rp.mono _ (x1.ff.trans x1.sub) hk) ?_)⟩
  cases hlt:Pu.lt2 k kb with
  | true =>
   rw [hlt,if_pos rfl] at e
   rw [if_pos rfl]
   exact rq hc hb hfin r a v k F' H' (S.grow x1) (x0.trans x1) (x1.hh.kp _ _ trivial h0) (x1.ff.rd hl) rv e
  | false =>
   rw [hlt,if_neg Z8] at e
   rw [if_neg Z8]
   exact rq hc hb hfin r b kV kb F' H' (S.grow x1) (x0.trans x1) (x1.hh.kp _ _ trivial h0) (x1.ff.rd hl) (Rp.mono _ x1.ff hk) e
theorem ev_minK {o:Option (List Int)} {g:Int->Option (Int × Int)} {x:Str} (hc:(cap.map (·.2)).Nodup) (h:EV Γ te o (rL rInt)) (hb:∀ a,EV ((csl [x] cap Γ).set 0 (.fr rInt a)) tb (g a) (rT2 rInt rInt)):EV Γ (tMinK K P cap te tb) (o.bind λxs=>Pu.minK g xs) rInt:=by
 intro C F σ H Q res S e k
 refine oq12 (a8 e) λns e1 e=>?_
 refine h C F σ H _ ns S e1 λv F1 H1 x1 zq=>oq23 zq λp vs e3 h1 h2=>?_
 have ev:=dq h2
 subst ev
 cases ns with
 | nil=>cases e
 | cons a r =>
  unfold Pu.minK at e
  refine oq12 (a8 e) λka e2 e=>?_
  refine (oi34 p (.int a) (r.map V.int) e3 (.inl (x1.sub.rd h1)) ((S.grow x1).tg) (λH2 c ts h0=>⟨h0,?_⟩))
  have x2:=ts.ext (S.grow x1).sub (S.grow x1).nt
  have S2:=(S.grow x1).grow x2
  refine hb a C F1 _ H2 _ ka ((S2.comp (loc:=[x]) hc).setF 0 (r:=rInt) (a:=a) (v:=.int a) rfl) e2 λv F' H' x3 rv=>?_
  exact rq hc hb (λF H x4=>k _ F H x4 rfl) r a v ka F' H' (S2.grow x3) ((x1.trans x2).trans x3) (x3.hh.kp _ _ trivial h0) (x3.ff.rd h1) rv e
end
end
section
open PySem PySem.Spec PyProof.Rows
noncomputable abbrev rP:Rp (Option Int × Option Int):=rT2 (rOp rInt) (rOp rInt)
noncomputable abbrev rF:Rp (List (List Int)):=rL (rL rInt)
noncomputable abbrev End_:=List (Int × (Option Int × Option Int))
noncomputable def rM0 (CM:Addr):Rp (List (List Int) × Addr):=⟨λH v x=>∃ m dm vf,v=.ref m/\H m=some (.ins CM dm [("floor",vf),("ended",.ref x.2)])/\rF.rel H vf x.1,
 λe zq=>oq33 zq λm dm vf h1 h2 h3=>(oi33 m dm vf h1 (e _ _ h2) (rF.mono e h3))⟩
noncomputable def rM (CM:Addr):Rp (List (List Int) × End_):=⟨λH v x=>∃ p ws,(rM0 CM).rel H v (x.1,p)/\H p=some (.dK ws)/\Paired (dRel rP H) ws x.2,
 λe zq=>oq23 zq λp ws h1 h2 h3=>(oi23 p ws ((rM0 CM).mono e h1) (e _ _ h2) (Paired.imp2 (λ_ _ q=>⟨q.1,rP.mono e q.2⟩) h3))⟩
noncomputable def rW0 (CM CW:Addr):Rp (List (List Int) × Int × Addr × Addr):=⟨λH v x=>∃ w dw vf m,v=.ref w/\H w=some (.ins CW dw [("floor",vf),("reach",.int x.2.1),("homes",.ref x.2.2.1),("meetings",.ref m)])/\rF.rel H vf x.1/\(rM0 CM).rel H (.ref m) (x.1,x.2.2.2),
 λe zq=>oq44 zq λw dw vf m h1 h2 h3 h4=>(oi44 w dw vf m h1 (e _ _ h2) (rF.mono e h3) ((rM0 CM).mono e h4))⟩
noncomputable def rW (CM CW:Addr):Rp (List (List Int) × Int × List (Option Int) × End_):=⟨λH v x=>∃ h p vs ws,(rW0 CM CW).rel H v (x.1,x.2.1,h,p)/\H h=some (.lst vs)/\Paired ((rOp rInt).rel H) vs x.2.2.1/\H p=some (.dK ws)/\Paired (dRel rP H) ws x.2.2.2,
 λe zq=>oq45 zq λh p vs ws h1 h2 h3 h4 h5=>(oi45 h p vs ws ((rW0 CM CW).mono e h1) (e _ _ h2) (Paired.imp2 (λ_ _ q=>(rOp rInt).mono e q) h3) (e _ _ h4) (Paired.imp2 (λ_ _ q=>⟨q.1,rP.mono e q.2⟩) h5))⟩
structure MK (K:Z3) (CM:Addr):Prop where
 c:Cls K CM
 floor:aU K CM "floor"
 ended:aU K CM "ended"
structure WK (K:Z3) (CW:Addr):Prop where
 c:Cls K CW
 floor:aU K CW "floor"
 reach:aU K CW "reach"
 homes:aU K CW "homes"
 meetings:aU K CW "meetings"
variable [Kon]
section
variable {Γ:List Slot} {ta:TE} {K:Z3} {CM CW:Addr}
theorem iH {α γ:Type} {r:Rp α} {s:Rp γ} {o:Option α} {f:Str} {g:α->γ} (h:EV Γ ta o r) (hf:∀ H v x,r.rel H v x->∃ a C dx fs u,v=.ref a/\H a=some (.ins C dx fs)/\Cls K C/\aU K C f/\fs.lookup f=some u/\s.rel H u (g x)):EV Γ (tFld K ta f) (o.bind λx=>some (g x)) s:=by
 intro C F σ H Q c S e k
 refine oq12 (a8 e) λx e1 e=>?_
 cases e
 refine h C F σ H _ x S e1 λv F' H' x1 r1=>?_
 refine oq56 (hf F' v x r1) λa C' dx fs u h1 h2 h3 h4 h5 h6=>?_
 exact (oi56 a C' dx fs u h1 (x1.sub _ _ h2) h3 h4 h5 (k u F' H' x1 h6))
theorem rz (k:MK K CM) {o:Option (List (List Int) × Addr)} (h:EV Γ ta o (rM0 CM)):EV Γ (tFld K ta "floor") (o.bind λx=>some x.1) rF:=iH h λH v x zq=>oq33 zq λm dm vf h1 h2 h3=>(oi56 m CM dm _ vf h1 h2 k.c k.floor rfl h3)
theorem lO (k:MK K CM) {o:Option (List (List Int) × End_)} (h:EV Γ ta o (rM CM)):EV Γ (tFld K ta "ended") (o.bind λx=>some x.2) (rD rP):=iH h λH v x zq=>oq23 zq λp ws nm2 h4 h5=>oq33 nm2 λm dm vf h1 h2 h3=>⟨m,CM,dm,_,.ref p,h1,h2,k.c,k.ended,by rfl,p,ws,rfl,h4,h5⟩
theorem ev_wFloor (k:WK K CW) {o:Option (List (List Int) × Int × List (Option Int) × End_)} (h:EV Γ ta o (rW CM CW)):EV Γ (tFld K ta "floor") (o.bind λx=>some x.1) rF:=iH h λH v x zq=>oq42 zq λ_ _ _ _ nm3 _=>oq44 nm3 λm dm vf mm h1 h2 h3 _=>⟨m,CW,dm,_,vf,h1,h2,k.c,k.floor,rfl,h3⟩
theorem ev_wReach (k:WK K CW) {o:Option (List (List Int) × Int × List (Option Int) × End_)} (h:EV Γ ta o (rW CM CW)):EV Γ (tFld K ta "reach") (o.bind λx=>some x.2.1) rInt:=iH h λH v x zq=>oq42 zq λ_ _ _ _ nm4 _=>oq44 nm4 λm dm vf mm h1 h2 h3 _=>⟨m,CW,dm,_,.int x.2.1,h1,h2,k.c,k.reach,by rfl,rfl⟩
theorem iI (k:WK K CW) {o:Option (List (List Int) × Int × List (Option Int) × End_)} (h:EV Γ ta o (rW CM CW)):EV Γ (tFld K ta "homes") (o.bind λx=>some x.2.2.1) (rL (rOp rInt)) :=
 iH h λH v x zq=>oq44 zq λhh p vs ws nm5 h4 h5 _=>oq44 nm5 λm dm vf mm h1 h2 h3 _=>⟨m,CW,dm,_,.ref hh,h1,h2,k.c,k.homes,by rfl,hh,vs,rfl,.inl h4,h5⟩
theorem ev_wMeet (k:WK K CW) {o:Option (List (List Int) × Int × List (Option Int) × End_)} (h:EV Γ ta o (rW CM CW)):EV Γ (tFld K ta "meetings") (o.bind λx=>some (x.1,x.2.2.2)) (rM CM) :=
 iH h λH v x zq=>oq45 zq λhh p vs ws nm6 h4 h5 h7 h8=>oq44 nm6 λm dm vf mm h1 h2 h3 h6=>⟨m,CW,dm,_,.ref mm,h1,h2,k.c,k.meetings,by rfl,p,ws,h6,h7,h8⟩
def Ob {α:Type} (r:Rp α) (C:Addr) (m:Str):Prop:=∀ H v x,r.rel H v x->∃ a dx fs,v=.ref a/\H a=some (.ins C dx fs)/\fs.lookup m=none
theorem ob_m {m:Str} (h1:autoParam (("floor" == m)=false) L2.a0q._auto_1) (h2:autoParam ((m == "floor")=false) L2.a0q._auto_1) (h3:autoParam ((m == "ended")=false) L2.a0q._auto_1):Ob (rM CM) CM m:=λH v x zq=>oq22 zq λp ws nm7 _=>oq33 nm7 λa dm vf e1 e2 e3=>⟨a,dm,_,e1,e2,by simp [L9,h2,h3]⟩
theorem ob_w {m:Str} (h2:autoParam ((m == "floor")=false) L2.a0q._auto_1) (h3:autoParam ((m == "reach")=false) L2.a0q._auto_1) (h4:autoParam ((m == "homes")=false) L2.a0q._auto_1) (h5:autoParam ((m == "meetings")=false) L2.a0q._auto_1):Ob (rW CM CW) CW m:=λH v x zq=>oq42 zq λ_ _ _ _ nm8 _=>oq43 nm8 λa dm vf _ e1 e2 e3=>⟨a,dm,_,e1,e2,by simp [L9,h2,h3,h4,h5]⟩
theorem ob_w0 {m:Str} (h2:autoParam ((m == "floor")=false) L2.a0q._auto_1) (h3:autoParam ((m == "reach")=false) L2.a0q._auto_1) (h4:autoParam ((m == "homes")=false) L2.a0q._auto_1) (h5:autoParam ((m == "meetings")=false) L2.a0q._auto_1):Ob (rW0 CM CW) CW m:=λH v x zq=>oq43 zq λa dm vf _ e1 e2 e3=>(oi33 a dm _ e1 e2 (by simp [L9,h2,h3,h4,h5]))
section
variable {α γ τ:Type} {r:Rp α} {q:Rp γ} {ra:RpA τ} {t:TA} {C:Addr} {m:Str} {o:Option α} {oτ:Option τ}
theorem mZ {f:α × τ->Option γ} (ob:Ob r C m) (h:EV Γ ta o r) (ha:EA Γ t oτ ra):EV Γ (lA C m (spV (aD r ra) q f) [] E0 ta t) (o.bind λx=>oτ.bind λa=>f (x,a)) q:=by
 intro C F σ H Q c S e k
 refine oq12 (a8 e) λx e1 e=>?_
 refine oq12 (a8 e) λa e2 e=>?_
 refine h C F σ H _ x S e1 λv F' H' x1 r1=>?_
 refine oq33 (ob F' v x r1) λad dx fs h1 h2 h3=>?_
 refine (oi34 ad dx fs h1 (x1.sub _ _ h2) h3 (ha C F' σ H' _ a (S.grow x1) e2 λvs F2 H2 x2 r2=>⟨F2,(x,a),c,x2.sub,x2.nt (x1.nt S.nt),x2.hh.tg (x1.hh.tg S.tg),⟨v,vs,by rw [V6],r.mono x2.ff r1,r2⟩,e,λw F3 H3 x3 r3=>k w F3 H3 ((x1.trans x2).trans x3) r3⟩))
theorem evl_meth {f:α × τ->Option (List γ)} (ob:Ob r C m) (h:EV Γ ta o r) (ha:EA Γ t oτ ra):EVL Γ (lA C m (spL (aD r ra) q f) [] E0 ta t) (o.bind λx=>oτ.bind λa=>f (x,a)) q:=by
 intro C F σ H Q c S e k
 refine oq12 (a8 e) λx e1 e=>?_
 refine oq12 (a8 e) λa e2 e=>?_
 refine h C F σ H _ x S e1 λv F' H' x1 r1=>?_
 refine oq33 (ob F' v x r1) λad dx fs h1 h2 h3=>?_
 refine (oi34 ad dx fs h1 (x1.sub _ _ h2) h3 (ha C F' σ H' _ a (S.grow x1) e2 λvs F2 H2 x2 r2=>⟨F2,(x,a),c,x2.sub,x2.nt (x1.nt S.nt),x2.hh.tg (x1.hh.tg S.tg),⟨v,vs,by rw [V6],r.mono x2.ff r1,r2⟩,e,λp ws F3 H3 x3 hp r3=>k p ws F3 H3 ((x1.trans x2).trans x3) hp r3⟩))
end
end
end
section
open PySem PySem.Spec PyProof.Rows
variable [Kon]
theorem set_same {σ:St} {i:Nat} {v:Option V} (h:σ[i]?=some v):σ.set i v=σ:=set_idx h
section
variable {X:Cx} {pins:List (Addr × Obj)} {σ:St} {H:Hp} {s:Shared}
theorem Inv.ghost {g:Nat} {x:Str} {v:V} (I:Inv X pins σ H s) (hx:X.N[g]?=some x) (nv:¬ Vis X.env.scope x):Inv X pins (σ.set g (some v)) H s :=
 ⟨I.ok,I.os,I.bare,I.base,oq12 I.loc λm hn hl=>(oi12 m hn (λi y u e1 e2 e3=>by
  by_cases e:g=i
  ·subst e
   rw [hx] at e1
   cases e1
   exact absurd e3 nv
  ·rw [List.getElem?_set,if_neg e] at e2
   exact hl i y u e1 e2 e3)),I.cell,I.free,I.freeC,I.pin,I.hok,by rw [O1]; exact I.len⟩
theorem fZ {ss:List Stmt} {t:TS} {g:Nat} {x:Str} (h:PSs X ss t) (hx:X.N[g]?=some x) (nv:¬ Vis X.env.scope x):PSs X ss λD σ H=>∃ v,t D (σ.set g (some v)) H :=
 λpins s σ H D I zq=>oq11 zq λv q=>h pins s _ H D (I.ghost hx nv) q
end
noncomputable def j6 (sc:Scope) (x:Str):Bool:=match sc.names.lookup x with
 | some .local=>false
 | some .cell=>false
 | some .free=>false
 | _=>true
theorem gX {sc:Scope} {x:Str} (h:j6 sc x=true):¬ Vis sc x:=by
 unfold j6 at h
 rintro (z | z | z) <;> rw [z] at h <;> cases h
section
variable {C:Fc} {F H:Hp} {Γ:List Slot} {σ:St}
theorem SR.less {p:Addr} {u:HO} (S:SR C F Γ σ H) (no:∀ (j:Nat) t,Γ[j]?=some t->t.own=false) (hp:C.H0 p=some u) (ou:Own u):SR { C with H0:=del C.H0 p } F Γ σ H:=by
 have own:∀ {i:Nat} {s:Slot},Γ[i]?=some s->s.own=true->False:=λh1 o1=>nomatch (no _ _ h1).symm.trans o1
 refine ⟨⟨⟨λb o n q=>S.keep.kp b o n (cW q).2,λb ps q=>S.keep.tb b ps (cW q).2,λ_=>S.tg⟩,S.low,S.sub,λb o h=>(S.base b o h).imp id λz=>?_,S.nt,S.tg⟩,S.len,λi s h=>oq12 (S.at_ i s h) λo h1 h2=>oi12 o h1 ?_,λi j s t q h1 h2 o1 o2 _ _=>(own h1 o1).elim⟩
 ·show UnT (del C.H0 p b)
  unfold del; split
  ·trivial
  ·exact z
 ·cases s with
  | any=>trivial
  | fr r a=>exact h2
  | ol r φ xs=>exact (own h rfl).elim
  | od r φ kvs=>exact (own h rfl).elim
  | oe ψ=>exact (own h rfl).elim
theorem SR.setG {p:Addr} {s:Slot} (g:Nat) (S:SR C F Γ σ H) (hs:s.own=true) (h:SlOk C.H0 F H s (some (.ref p))) (np:∀ (j:Nat) t,Γ[j]?=some t->t.own=true->σ[j]?≠some (some (.ref p))):SR C F (Γ.set g s) (σ.set g (some (.ref p))) H:=S.pt g S.toFr (λj t _ q=>S.at_ j t q) h λ_ p' z j t _ q o e=>np j t q o (e.trans (congrArg some z.symm))
theorem Fr.off {Hx F' H':Hp} {q:Addr} {o:HO} (fr:Fr ⟨Hx,F,F⟩ F' H') (e:Hx q=some o) (f:F q=none) (ou:Own o):F' q=none:=none_of λw z=>(fr.base q w z).elim (λy=>nomatch f.symm.trans y) λy=>un_own y e ou
theorem Fr.via {Hx F' H':Hp} (S:Fr C F H) (fr:Fr ⟨Hx,F,F⟩ F' H') (d:∀ b o,C.H0 b=some o->Hx b=H b):Fr C F' H':=by
 refine ⟨⟨λb o n q=>fr.keep.kp b o n ((d b o q).trans (S.keep.kp b o n q)),λb ps q=>oq11 (S.keep.tb b ps q) λm1 e1=>oq11 (fr.keep.tb b _ ((d b _ q).trans e1)) λm2 e2=>⟨m1++m2,e2.trans (by rw [Array.append_assoc])⟩,λ_=>fr.tg⟩,S.low.trans fr.low,fr.sub,λb o q=>(fr.base b o q).elim (S.base b o) λz=>.inr ?_,fr.nt,fr.tg⟩
 cases e:C.H0 b with
 | none=>trivial
 | some o=>exact e ▸ S.keep.un (d b o e ▸ z)
theorem SR.mut {p:Addr} {u u':HO} {F' H':Hp} {s s':Slot} {g:Nat} (S:SR C F Γ σ H) (hg:Γ[g]?=some s) (hs:s.own=true) (hp:σ[g]?=some (some (.ref p))) (h0:C.H0 p=none) (hu:H p=some u) (fr:Fr ⟨del H p,F,F⟩ F' H') (hs':s'.own=true) (h:SlOk C.H0 F' H' s' (some (.ref p))) :
  SR C F' (Γ.set g s') σ H' :=
 S.pk hg (λ_=>hs) hp (S.toFr.via fr λb o e=>c7 (af e h0)) (λj t n q=>S.mvAt q fr.low λp' _ o e f hu ou=>have e:=(c7 (S.oth hg hs hp n q o e)).trans hu
  ⟨fr.off e f ou,fr.keep.kp p' _ ou.noTbl e⟩) h
end
section
variable {Γ:List Slot} {C:Fc} {F H:Hp} {σ:St} {CM CW p hh:Addr} {i g g1 g2:Nat} {rows:List (List Int)} {reach:Int} {ended:End_} {homes:List (Option Int)}
theorem SR.borM (S:SR C F Γ σ H) (hi:Γ[i]?=some (.fr (rM0 CM) (rows,p))) (hg:Γ[g]?=some (.od rP (λb=>b=p) ended)):∃ ws,F p=none/\H p=some (.dK ws)/\SR C (upd F p (.dK ws)) ((Γ.set g .any).set i (.fr (rM CM) (rows,ended))) σ H:=by
 refine oq12 (S.at_ g _ hg) λo h1 zz=>oq26 zz λp' ws eq4_ eq5_ h3 h4 h5 h6=>?_; subst eq4_; subst eq5_
 refine oq12 (S.fr hi) λv q1 q2=>?_
 refine (oi13 ws h4 h5 ?_)
 have S1:=S.freeze hg p' _ .any rfl rfl h1 h3 h4 h5 trivial trivial
 have S2:=S1.setF (r:=rM CM) (a:=(rows,ended)) (v:=v) i ⟨p',ws,(rM0 CM).mono (aJ h4) q2,ah,Paired.imp2 (λ_ _ z=>⟨z.1,rP.mono (aJ h4) z.2⟩) h6⟩
 rw [set_same q1] at S2
 exact S2
theorem SR.borW (S:SR C F Γ σ H) (hi:Γ[i]?=some (.fr (rW0 CM CW) (rows,reach,hh,p))) (hg1:Γ[g1]?=some (.ol (rOp rInt) (λb=>b=hh) homes)) (hg2:Γ[g2]?=some (.od rP (λb=>b=p) ended)) (hne:g1≠g2) :
  ∃ vs ws,F hh=none/\H hh=some (.lst vs)/\F p=none/\H p=some (.dK ws)/\p≠hh/\SR C (upd (upd F hh (.lst vs)) p (.dK ws)) (((Γ.set g1 .any).set g2 .any).set i (.fr (rW CM CW) (rows,reach,homes,ended))) σ H:=by
 refine oq12 (S.at_ g1 _ hg1) λo h1 zz=>oq26 zz λp1 vs eq4_ eq5_ h3 h4 h5 h6=>?_; subst eq4_; subst eq5_
 refine oq12 (S.fr hi) λv q1 q2=>?_
 refine oq12 (S.at_ g2 _ hg2) λo' k1 zz=>oq26 zz λp2 ws eq4_ eq5_ k3 k4 k5 k6=>?_; subst eq4_; subst eq5_
 have ne:p2≠p1:=by rintro rfl; rw [h5] at k5; cases k5
 have S1:=S.freeze hg1 p1 _ .any rfl rfl h1 h3 h4 h5 trivial trivial
 have hg2':(Γ.set g1 .any)[g2]?=some (.od rP (λb=>b=p2) ended):=by rw [cS hne]; exact hg2
 have F2:upd F p1 (.lst vs) p2=none:=by rw [ai ne]; exact k4
 have S2:=S1.freeze hg2' p2 _ .any rfl rfl k1 k3 F2 k5 trivial trivial
 have e1:Same F (upd F p1 (.lst vs)):=aJ h4
 have e2:Same (upd F p1 (.lst vs)) (upd (upd F p1 (.lst vs)) p2 (.dK ws)):=aJ F2
 refine (oi26 vs ws h4 h5 k4 k5 ne ?_)
 have S3:=S2.setF (r:=rW CM CW) (a:=(rows,reach,homes,ended)) (v:=v) i ⟨p1,p2,vs,ws,(rW0 CM CW).mono (e1.trans e2) q2,by rw [ai (R5 ne)]; exact ah,Paired.imp2 (λ_ _ z=>(rOp rInt).mono (e1.trans e2) z) h6,ah,Paired.imp2 (λ_ _ z=>⟨z.1,rP.mono (e1.trans e2) z.2⟩) k6⟩
 rw [set_same q1] at S3
 exact S3
end
section
variable {Γ:List Slot} {β:Type} {s:Rp β} {tb:TE} {CM CW p hh:Addr} {rows:List (List Int)} {reach:Int} {ended:End_} {homes:List (Option Int)}
noncomputable abbrev brwM (Γ:List Slot) (i g:Nat) (CM:Addr) (rows:List (List Int)) (ended:End_):List Slot:=(Γ.set g .any).set i (.fr (rM CM) (rows,ended))
noncomputable abbrev brwW (Γ:List Slot) (i g1 g2:Nat) (CM CW:Addr) (rows:List (List Int)) (reach:Int) (homes:List (Option Int)) (ended:End_):List Slot:=((Γ.set g1 .any).set g2 .any).set i (.fr (rW CM CW) (rows,reach,homes,ended))
theorem evl_borM {o:Option (List β)} (i g:Nat) (hi:Γ[i]?=some (.fr (rM0 CM) (rows,p))) (hg:Γ[g]?=some (.od rP (λb=>b=p) ended)) (fl:Flat s) (h:EVL (brwM Γ i g CM rows ended) tb o s):EVL Γ tb o s:=by
 intro C F σ H Q b S e k
 refine oq13 (S.borM hi hg) λws h1 h2 S'=>?_
 refine h C _ σ H Q b S' e λv vs F' H' x1 hv r1=>?_
 refine oq02 (fV h1 h2 x1) λx2 h3=>?_
 exact k v vs _ H' x2 hv (Paired.imp2 (λ_ _ z=>fl h3 trivial z) r1)
theorem ext_del2 {F H F' H':Hp} {p q:Addr} {u v:HO} (hF:F p=none) (hH:H p=some u) (hF2:F q=none) (hH2:H q=some v) (ne:q≠p) (e:Ext (upd (upd F p u) q v) H F' H') (nu:autoParam (cJ u) L2.a4q._auto_1) (nv:autoParam (cJ v) L2.a4q._auto_1):Ext F H (del (del F' q) p) H'/\F' q=some v/\del F' q p=some u:=by
 refine oq02 (fV (F:=upd F p u) (p:=q) (by rw [ai ne]; exact hF2) hH2 e nv) λx1 h1=>?_
 refine oq02 (fV hF hH x1 nu) λx2 h2=>?_
 exact (oi03 x2 h1 h2)
theorem evl_borW {o:Option (List β)} (i g1 g2:Nat) (hi:Γ[i]?=some (.fr (rW0 CM CW) (rows,reach,hh,p))) (hg1:Γ[g1]?=some (.ol (rOp rInt) (λb=>b=hh) homes)) (hg2:Γ[g2]?=some (.od rP (λb=>b=p) ended)) (hne:g1≠g2) (fl:Flat s) (h:EVL (brwW Γ i g1 g2 CM CW rows reach homes ended) tb o s):EVL Γ tb o s:=by
 intro C F σ H Q b S e k
 refine oq26 (S.borW hi hg1 hg2 hne) λvs ws h1 h2 h3 h4 ne S'=>?_
 refine h C _ σ H Q b S' e λv us F' H' x1 hv r1=>?_
 refine oq03 (ext_del2 h1 h2 h3 h4 ne x1) λx2 h5 h6=>?_
 exact k v us _ H' x2 hv (Paired.imp2 (λ_ _ z=>fl h6 trivial (fl h5 trivial z)) r1)
theorem own_mE {K:Z3} (k:MK K CM) (i g:Nat) (hi:Γ[i]?=some (.fr (rM0 CM) (rows,p))) (hg:Γ[g]?=some (.od rP (λb=>b=p) ended)):lK Γ (tFld K (tVar i) "ended") g:=λC F σ H Q v S hv q=>by
 refine oq12 (S.at_ g _ hg) λo h1 zz=>oq26 zz λp' ws eq4_ eq5_ h3 h4 h5 h6=>?_; subst eq4_; subst eq5_
 rw [hv] at h1
 cases h1
 refine oq12 (S.fr hi) λw q1 zz=>oq33 zz λm dm vf eq5_ h7 h8=>?_; subst eq5_
 exact ⟨.ref m,q1,m,CM,dm,_,.ref p',rfl,S.sub _ _ h7,k.c,k.ended,by rfl,q⟩
theorem own_wH {K:Z3} (k:WK K CW) (i g:Nat) (hi:Γ[i]?=some (.fr (rW0 CM CW) (rows,reach,hh,p))) (hg:Γ[g]?=some (.ol (rOp rInt) (λb=>b=hh) homes)):lK Γ (tFld K (tVar i) "homes") g:=λC F σ H Q v S hv q=>by
 refine oq12 (S.at_ g _ hg) λo h1 zz=>oq26 zz λp' ws eq4_ eq5_ h3 h4 h5 h6=>?_; subst eq4_; subst eq5_
 rw [hv] at h1
 cases h1
 refine oq12 (S.fr hi) λw q1 zz=>oq43 zz λm dm vf mm eq6_ h7 h8=>?_; subst eq6_
 exact ⟨.ref m,q1,m,CW,dm,_,.ref p',rfl,S.sub _ _ h7,k.c,k.homes,by rfl,q⟩
end
end
section
open PySem PySem.Spec PyProof.Rows
variable [Kon]
def bq (K:Z3) (C:Addr) (m qual:Str) (st:Stmt) (ps:List Str):Prop:=∃ f fd,Fun K m qual st f fd/\Binds K fd ps []/\Meth K C m f
noncomputable def HasM (P:W5) (w:World) (K:Z3) (mg:Str->Option Value) (base:Heap) (k:Nat) (C:Addr) (m:Str) (ps:List Str) (sp:Sp):Prop :=
 ∃ f fd,FnOk P w K mg base CX0 k f fd ps sp/\Meth K C m f/\Binds K fd ps []
theorem gY {K:Z3} {C f:Addr} {m qual:Str} {st:Stmt} {ps:List Str} {oc:Value} {od an:Option Addr} {osl:Array (Option Value)} {kV doc pm cdv ct:Value}
  (a:R4 K (.ref C) m=some (some (.ref f))) (l:K.lookup f=some ⟨oc,od,.func (T7 m qual (b0 st) (aF st) (aa st) .none kV doc pm an cdv ct),osl⟩) (c:P7 K cdv qual=true) (k:T5 K (.ref f)=true) (hf:PySem.W.isFn K (.ref f)=true)
  (hb:∀ (kV doc pm:Value) (an:Option Addr) (cdv ct:Value) (us:List Value),us.length=ps.length->A9 (T7 m qual (b0 st) (aF st) (aa st) .none kV doc pm an cdv ct) ⟨us,[]⟩=pure (ps.zip us)):bq K C m qual st ps :=
 ⟨f,_,eJ (st:=st) l c k,(eJ (st:=st) l c k).binds hb,⟨a,hf,k⟩⟩
section
variable {P:W5} {w:World} {K:Z3} {mg:Str->Option Value} {base:Heap} {m qual:Str} {st:Stmt} {N ps:List Str} {k:Nat} {C:Addr} {τ γ:Type} {ra:RpA τ} {r:Rp γ}
theorem bq.has {sp:Sp} (D:bq K C m qual st ps) (S:FnScope N ps (aa st)) (len:∀ vs H Q E,sp vs H Q E->vs.length=ps.length)
  (hbody:∀ (f:Addr) (cdv:Value) (A:Around) (outer:List Env) (s:Shared) (H:Hp) (vs:List V) (Q:VK) (E:XK),Room k (A.deeper (envOfC qual (aa st) s.heap.objs.size f cdv))->sp vs H Q E ->
   ∃ t,PSs (cxOf CX0 P w K mg base N qual (aa st) f cdv A outer s H E).nox (aF st) t/\t { nx:=λ_ H'=>Q .non H',rt:=Q } (start N vs) H):HasM P w K mg base (k+1) C m ps sp:=by
 refine oq23 D λf fd F b hm=>?_
 exact ⟨f,fd,F.ok S len λcdv A outer s H vs Q E hr h=>hbody f cdv A outer s H vs Q E hr h,hm,b⟩
theorem bq.pV {f:τ->Option γ} {n:Nat} (D:bq K C m qual st ps) (S:FnScope N ps (aa st)) (hl:∀ a,(ra.slots a).length=ps.length) (hn:N.length - ps.length=n)
  (h:gu P w K mg base qual st N k λt=>∀ a,BV (ra.slots a++T6 n .any) t (f a) (finV r)):HasM P w K mg base (k+1) C m ps (spV ra r f):=by
 refine D.has S (λvs H Q E h=>?_) λfa cdv A outer s H vs Q E hr hsp=>?_
 ·refine oq35 h λF a c _ _ _ h1 _=>?_; rw [(ra.ok h1).1,hl]
 ·refine oq12 (h fa cdv A outer s H E hr) λt h1 h2=>?_
  refine oq36 hsp λF a c sb nt tg hr' hf q=>?_
  refine (oi12 t h1 (h2 a _ F _ H _ c (SR.begin_ sb nt tg hr' (by rw [(ra.ok hr').1,hl]; exact hn)) hf ?_))
  exact λv F' H' fr rv=>q v F' H' ⟨fr.keep,fr.low,fr.sub,fr.base,λ_=>fr.nt⟩ rv
theorem bq.pL {f:τ->Option (List γ)} {n:Nat} (D:bq K C m qual st ps) (S:FnScope N ps (aa st)) (hl:∀ a,(ra.slots a).length=ps.length) (hn:N.length - ps.length=n)
  (h:gu P w K mg base qual st N k λt=>∀ a,BV (ra.slots a++T6 n .any) t (f a) (finL r)):HasM P w K mg base (k+1) C m ps (spL ra r f):=by
 refine D.has S (λvs H Q E h=>?_) λfa cdv A outer s H vs Q E hr hsp=>?_
 ·refine oq35 h λF a c _ _ _ h1 _=>?_; rw [(ra.ok h1).1,hl]
 ·refine oq12 (h fa cdv A outer s H E hr) λt h1 h2=>?_
  refine oq36 hsp λF a c sb nt tg hr' hf q=>?_
  refine (oi12 t h1 (h2 a _ F _ H _ c (SR.begin_ sb nt tg hr' (by rw [(ra.ok hr').1,hl]; exact hn)) hf ?_))
  exact λp vs F' H' fr hp rv=>q p vs F' H' ⟨fr.keep,fr.low,fr.sub,fr.base,λ_=>fr.nt⟩ hp rv
theorem dZ {X:Cx} {sp:Sp} {ta:TE} {t:TA} {o e:Expr} {es:List Expr} {apos pos:Pos} {pl:Sem Bool} (G:HasM X.prog X.w X.K X.mg X.base k C m ps sp) (he:PE X o ta) (c:Cls X.K C) (hr:Room k X.A) (ha:PA X (e :: es) t)
  (hst:autoParam (V4 (e :: es) X.env=(false,eval e X.env) :: V4 es X.env) L2.a2q._auto_1) (hpl:autoParam ((backTo pos (V4 es X.env)).any (·.1)=false) L2.a2q._auto_1)
  (ht:eval (.Call (.Attribute o m apos) (e :: es) [] pos) X.env=(do
   let ov <- eval o X.env
   standAt apos.atName
   let (f,first) <- holding [ov] (getMethod ov m pl)
   callWith pos f first (backTo pos (V4 (e :: es) X.env)) (backToKw pos (keywordEach [] X.env))):=by rfl) :
  PE X (.Call (.Attribute o m apos) (e :: es) [] pos) (lA C m sp [] E0 ta t):=by
 refine oq23 G λf fd F hm hb=>?_
 exact pe_meth he c hm F hr hb .nil pass0 ha hst hpl ht
end
def spM {τ γ:Type} (CM:Addr) (ra:RpA τ) (r:Rp γ) (f:(List (List Int) × End_) × τ->Option (γ × End_)):Sp:=λvs H Q _=>∃ F v args rows p ws ended a c,vs=v :: args/\Same F H/\NT F/\TbG H/\(rM0 CM).rel F v (rows,p)/\F p=none/\H p=some (.dK ws) /\
 Paired (dRel rP F) ws ended/\ra.rel F args a/\f ((rows,ended),a)=some c/\∀ v' ws' F' H',Fr ⟨del H p,F,F⟩ F' H'->F' p=none->H' p=some (.dK ws')->Paired (dRel rP F') ws' c.2->r.rel F' v' c.1->Q v' H'
def finM {γ:Type} (r:Rp γ) (p:Addr):Fc->γ × End_->Ends->Prop:=λC x D=>∀ v ws F' H',Fr C F' H'->F' p=none->H' p=some (.dK ws)->Paired (dRel rP F') ws x.2->r.rel F' v x.1->D.rt v H'
theorem set_mid {α:Type _} (l:List α) (a b:α) (n:Nat):(l++T6 (n+1) a).set l.length b=l++b :: T6 n a:=by
 rw [B7 _ _ (nz6 _),Nat.sub_self,List.replicate_succ]; rfl
theorem bv_retM {Γ:List Slot} {γ:Type} {r:Rp γ} {te:TE} {oa:Option γ} {p:Addr} {ended:End_} (g:Nat) (hg:Γ[g]?=some (.od rP (λb=>b=p) ended)) (he:EV Γ te oa r):BV Γ (tRet te) (oa.bind λa=>some (a,ended)) (finM r p):=λC F σ H D x S e k=>by
 refine oq12 (a8 e) λa e1 e=>?_
 cases e
 refine he C F σ H _ a S e1 λv F' H' x1 r1=>?_
 have S':=S.grow x1
 refine oq12 (S'.at_ g _ hg) λo h1 zz=>oq26 zz λp' ws eq4_ eq5_ h3 h4 h5 h6=>?_; subst eq4_; subst eq5_
 exact k v ws F' H' S'.toFr h4 h5 h6 r1
section
variable {P:W5} {w:World} {K:Z3} {mg:Str->Option Value} {base:Heap} {m qual:Str} {st:Stmt} {N ps:List Str} {k:Nat} {CM:Addr} {τ γ:Type} {ra:RpA τ} {r:Rp γ}
theorem bq.pM {f:(List (List Int) × End_) × τ->Option (γ × End_)} {n:Nat} {gx:Str} (D:bq K CM m qual st ps) (S:FnScope N ps (aa st)) (hl:∀ a,(ra.slots a).length+1=ps.length) (hn:N.length - ps.length=n+1) (hx:N[ps.length]?=some gx) (nv:j6 (aa st) gx=true)
  (h:gu P w K mg base qual st N k λt=>∀ rows p ended a,BV ((.fr (rM0 CM) (rows,p) :: ra.slots a)++.od rP (λb=>b=p) ended :: T6 n .any) t (f ((rows,ended),a)) (finM r p)):HasM P w K mg base (k+1) CM m ps (spM CM ra r f):=by
 refine D.has S (λvs H Q E h=>?_) λfa cdv A outer s H vs Q E hr hsp=>?_
 ·refine oq71 h λF v args rows p ws ended zz=>oq2a zz λa c eq9_ _ _ _ _ _ _ _ h1 _=>?_; subst eq9_
  rw [W4,(ra.ok h1).1,hl]
 ·refine oq12 (h fa cdv A outer s H E hr) λt h1 h2=>?_
  refine oq71 hsp λF v args rows p ws ended zz=>oq2b zz λa c eq9_ sb nt tg hm hp hH hw har hf q=>?_; subst eq9_
  refine ⟨_,fZ (g:=ps.length) h1 hx (gX nv),.ref p,?_⟩
  have lenA:(v :: args).length=ps.length:=by rw [W4,(ra.ok har).1,hl]
  have S0:=SR.begin_ (ra:=aD (rM0 CM) ra) (N:=N) (a:=((rows,p),a)) (n:=n+1) sb nt tg ⟨v,args,rfl,hm,har⟩ (by rw [lenA]; exact hn)
  have hsl:((aD (rM0 CM) ra).slots ((rows,p),a)).length=ps.length:=by show (ra.slots a).length+1=_; exact hl a
  have no:∀ (j:Nat) t,((aD (rM0 CM) ra).slots ((rows,p),a)++T6 (n+1) Slot.any)[j]?=some t->t.own=false:=λj t ht=>by
   by_cases hj:j<((aD (rM0 CM) ra).slots ((rows,p),a)).length
   ·rw [X8 hj] at ht
    exact ((aD (rM0 CM) ra).ok (F:=F) (vs:=v :: args) ⟨v,args,rfl,hm,har⟩).2 j t ht |>.1
   ·rw [Y5 (by exact U3.mp hj)] at ht
    have:=W8 ht
    rw [List.mem_replicate] at this
    rw [this.2]; rfl
  have S1:=S0.less (p:=p) no hH trivial
  have S2:=S1.setG (p:=p) (s:=.od rP (λb=>b=p) ended) ps.length rfl ⟨p,ws,rfl,rfl,dY,hp,hH,hw⟩ λj t h1 h2=>by rw [no j t h1] at h2; cases h2
  rw [<- hsl,set_mid,hsl] at S2
  refine h2 rows p ended a _ F _ H _ c S2 hf ?_
  exact λv' ws' F' H' fr g1 g2 g3 g4=>q v' ws' F' H' fr g1 g2 g3 g4
end
def EM {α:Type} (Γ:List Slot) (g:Nat) (p:Addr) (t:TE) (o:Option (α × End_)) (r:Rp α):Prop:=∀ C F σ H Q x,SR C F Γ σ H->o=some x->(∀ v F' H',SR C F' (Γ.set g (.od rP (λb=>b=p) x.2)) σ H'->r.rel F' v x.1->Q v H')->t σ H Q
section
variable {Γ:List Slot} {α τ:Type} {r:Rp α} {ta tb:TE} {oa:Option α} {CM CW p hh:Addr} {rows:List (List Int)} {reach:Int} {ended:End_} {g:Nat} {K:Z3}
theorem set_get {α:Type _} {l:List α} {i:Nat} {x:α} (h:l[i]?=some x):l.set i x=l:=by
 apply G9
 intro j
 rw [List.getElem?_set]
 split
 ·rename_i e
  split
  ·rw [<- e]; exact h.symm
  ·rename_i q; rw [<- e,(List.getElem?_eq_none_iff).mpr (by exact U3.mp q)]
 ·rfl
theorem em_pure (hg:Γ[g]?=some (.od rP (λb=>b=p) ended)) (h:EV Γ ta oa r):EM Γ g p ta (oa.bind λa=>some (a,ended)) r:=λC F σ H Q x S e k=>by
 refine oq12 (a8 e) λa e1 e=>?_
 cases e
 refine h C F σ H _ a S e1 λv F' H' x1 r1=>k v F' H' ?_ r1
 rw [set_get hg]; exact S.grow x1
theorem em_if {tt:TT} {oc:Option Bool} {o o':Option (α × End_)} (hc:ET Γ tt oc) (h1:EM Γ g p ta o r) (h2:EM Γ g p tb o' r):EM Γ g p (tIf tt ta tb) (oc.bind λb=>if b=true then o else o') r:=λC F σ H Q x S e k=>by
 refine oq12 (a8 e) λb e1 e=>?_
 refine hc C F σ H _ b S e1 λF' H' x1=>?_
 cases b with
 | true=>exact h1 C F' σ H' Q x (S.grow x1) e k
 | false=>exact h2 C F' σ H' Q x (S.grow x1) e k
theorem em_meth {m:Str} {ra:RpA τ} {t:TA} {oτ:Option τ} {f:(List (List Int) × End_) × τ->Option (α × End_)} (k:WK K CW) (i:Nat) (hi:Γ[i]?=some (.fr (rW0 CM CW) (rows,reach,hh,p))) (hg:Γ[g]?=some (.od rP (λb=>b=p) ended)) (ha:EA Γ t oτ ra)
  (h2:autoParam ((m == "floor")=false) L2.a0q._auto_1) (h3:autoParam ((m == "ended")=false) L2.a0q._auto_1):EM Γ g p (lA CM m (spM CM ra r f) [] E0 (tFld K (tVar i) "meetings") t) (oτ.bind λa=>f ((rows,ended),a)) r:=λC F σ H Q x S e kk=>by
 refine oq12 (a8 e) λa e1 e=>?_
 refine oq12 (S.fr hi) λw q1 zz=>oq44 zz λww dw vf mm eq6_ q2 q3 q4=>?_; subst eq6_
 refine oq33 (id q4) λm1 dm vf2 em q5 q6=>?_
 cases em
 refine ⟨.ref ww,q1,ww,CW,dw,_,.ref mm,rfl,S.sub _ _ q2,k.c,k.meetings,by rfl,mm,dm,_,rfl,S.sub _ _ q5,by simp [L9,h2,h3],?_⟩
 refine ha C F σ H _ a S e1 λvs F' H' x1 r1=>?_
 have S':=S.grow x1
 refine oq12 (S'.at_ g _ hg) λo h1 zz=>oq26 zz λp' ws eq4_ eq5_ h3 h4 h5 h6=>?_; subst eq4_; subst eq5_
 refine ⟨F',.ref mm,vs,rows,p',ws,ended,a,x,by rw [V6],S'.sub,S'.nt,S'.tg,(rM0 CM).mono x1.ff q4,h4,h5,h6,r1,e,λv' ws' F2 H2 fr g1 g2 g3 g4=>kk v' F2 H2 ?_ g4⟩
 exact S'.mut (u':=.dK ws') hg rfl h1 h3 h5 fr rfl ⟨p',ws',rfl,rfl,h3,g1,g2,g3⟩
theorem bv_setAtM {T:Type} {to tk te:TE} {u:TS} {fin:Fc->T->Ends->Prop} {oe:Option (α × End_)} {oi:Option Int} {xs:List α} {φ:Addr->Prop} {f:List α->End_->Option T} (i:Nat) (hgi:g≠i) (ho:∀ e,lK (Γ.set g (.od rP (λb=>b=p) e)) to i) (hi:Γ[i]?=some (.ol r φ xs)) (hk:∀ e,EV (Γ.set g (.od rP (λb=>b=p) e)) tk oi rInt) (he:EM Γ g p te oe r)
  (h:∀ ys e,BV ((Γ.set g (.od rP (λb=>b=p) e)).set i (.ol r φ ys)) u (f ys e) fin):BV Γ (tSeq (tAsg te (gSub to tk rSetL)) u) (oe.bind λx=>oi.bind λk=>(ixN xs.length k).bind λj=>f (xs.set j x.1) x.2) fin:=by
 intro C F σ H D x S e k
 refine oq12 (a8 e) λa e1 e=>?_
 refine oq12 (a8 e) λn e2 e=>?_
 refine oq12 (a8 e) λj e3 e=>?_
 refine he C F σ H _ a S e1 λv F' H' S1 r1=>?_
 have hi':(Γ.set g (.od rP (λb=>b=p) a.2))[i]?=some (.ol r φ xs):=by rw [cS hgi]; exact hi
 refine oq12 (S1.at_ i _ hi') λo h1 zz=>oq22 zz λp1 vs1 eq4_ _=>?_; subst eq4_
 refine ho a.2 C F' σ H' _ (.ref p1) S1 h1 (hk a.2 C F' σ H' _ n S1 e2 λw F2 H2 x2 r2=>?_)
 have S':=S1.grow x2
 refine oq12 (S'.at_ i _ hi') λo' q1 zz=>oq26 zz λp' vs' eq4_ q2 q3 q4 q5 q6=>?_; subst eq4_
 rw [h1] at q1
 cases q1
 refine ⟨p1,vs',n,j,rfl,r2,q5,by rw [q6.length]; exact e3,?_⟩
 exact h _ _ C F2 σ _ D x (S'.chg hi' rfl h1 q3 q4 rfl ⟨p1,_,rfl,q2,q3,q4,ah,Paired.setB (r.mono x2.ff r1) j q6⟩) e k
end
noncomputable abbrev Wa:=List (List Int) × Int × List (Option Int) × End_
def spW {τ:Type} (CM CW:Addr) (ra:RpA τ) (f:Wa × τ->Option (List (Option Int) × End_)):Sp:=λvs H Q _=>∃ F v args rows reach hh p hs ws homes ended a c,vs=v :: args/\Same F H/\NT F/\TbG H/\(rW0 CM CW).rel F v (rows,reach,hh,p)/\F hh=none/\H hh=some (.lst hs)/\Paired ((rOp rInt).rel F) hs homes /\
 F p=none/\H p=some (.dK ws)/\Paired (dRel rP F) ws ended/\ra.rel F args a/\f ((rows,reach,homes,ended),a)=some c /\
 ∀ hs' ws' F' H',Fr ⟨del (del H hh) p,F,F⟩ F' H'->F' hh=none->H' hh=some (.lst hs')->Paired ((rOp rInt).rel F') hs' c.1->F' p=none->H' p=some (.dK ws')->Paired (dRel rP F') ws' c.2->Q .non H'
def finW (hh p:Addr):Fc->List (Option Int) × End_->Ends->Prop:=λC c D=>∀ hs ws F σ H,Fr C F H->F hh=none->H hh=some (.lst hs)->Paired ((rOp rInt).rel F) hs c.1->F p=none->H p=some (.dK ws)->Paired (dRel rP F) ws c.2->D.nx σ H
theorem bv_endW {Γ:List Slot} {hh p:Addr} {homes:List (Option Int)} {ended:End_} (g1 g2:Nat) (hg1:Γ[g1]?=some (.ol (rOp rInt) (λb=>b=hh) homes)) (hg2:Γ[g2]?=some (.od rP (λb=>b=p) ended)):BV Γ jx (some (homes,ended)) (finW hh p):=λC F σ H D x S e k=>by
 cases e
 refine oq12 (S.at_ g1 _ hg1) λo h1 zz=>oq26 zz λp1 vs eq4_ eq5_ h3 h4 h5 h6=>?_; subst eq4_; subst eq5_
 refine oq12 (S.at_ g2 _ hg2) λo' k1 zz=>oq26 zz λp2 ws eq4_ eq5_ k3 k4 k5 k6=>?_; subst eq4_; subst eq5_
 exact k vs ws F σ H S.toFr h4 h5 h6 k4 k5 k6
end
section
open PySem PySem.Spec PyProof.Rows
variable [Kon]
theorem ne_ob {H:Hp} {a b:Addr} {o o':HO} (h:H a=some o) (k:H b=some o') (n:o≠o'):a≠b:=λe=>n (Z7 (h.symm.trans (e ▸ k)))
def tGh (g:Nat) (u:TS):TS:=λD σ H=>∃ v,u D (σ.set g (some v)) H
theorem pss_gh {X:Cx} {ss:List Stmt} {t:TS} {x:Str} (g:Nat) (h:PSs X ss t) (hx:X.N[g]?=some x) (nv:j6 X.env.scope x=true):PSs X ss (tGh g t):=fZ h hx (gX nv)
theorem set_mid2 {α:Type _} (l:List α) (a b c:α) (n:Nat):((l++T6 (n+2) a).set l.length b).set (l.length+1) c=l++b :: c :: T6 n a:=by
 rw [set_mid l a b (n+1),B7 _ _ (P6 _)]
 have:l.length+1 - l.length=1:=by omega
 rw [this,List.replicate_succ]; rfl
section
variable {P:W5} {w:World} {K:Z3} {mg:Str->Option Value} {base:Heap} {m qual:Str} {st:Stmt} {N ps:List Str} {k:Nat} {CM CW:Addr} {τ:Type} {ra:RpA τ}
theorem bq.pW {f:Wa × τ->Option (List (Option Int) × End_)} {n:Nat} {gx gy:Str} (D:bq K CW m qual st ps) (S:FnScope N ps (aa st)) (hl:∀ a,(ra.slots a).length+1=ps.length) (hn:N.length - ps.length=n+2) (hx:N[ps.length]?=some gx) (nvx:j6 (aa st) gx=true) (hy:N[ps.length+1]?=some gy) (nvy:j6 (aa st) gy=true)
  (h:gu P w K mg base qual st N k λt=>∀ rows reach hh p homes ended a,BV ((.fr (rW0 CM CW) (rows,reach,hh,p) :: ra.slots a)++.ol (rOp rInt) (λb=>b=hh) homes :: .od rP (λb=>b=p) ended :: T6 n .any) t (f ((rows,reach,homes,ended),a)) (finW hh p)):HasM P w K mg base (k+1) CW m ps (spW CM CW ra f):=by
 refine D.has S (λvs H Q E h=>?_) λfa cdv A outer s H vs Q E hr hsp=>?_
 ·refine oq71 h λF v args rows reach hh p zz=>oq6d zz λhs ws homes ended a c eq13_ _ _ _ _ _ _ _ _ _ _ h1 _=>?_; subst eq13_
  rw [W4,(ra.ok h1).1,hl]
 ·refine oq12 (h fa cdv A outer s H E hr) λt h1 h2=>?_
  refine oq71 hsp λF v args rows reach hh p zz=>oq6d zz λhs ws homes ended a c eq13_ sb nt tg hm hF1 hH1 hw1 hp hH hw har zz=>oq02 zz λhf q=>?_; subst eq13_
  refine ⟨_,fZ (g:=ps.length) (fZ (g:=ps.length+1) h1 hy (gX nvy)) hx (gX nvx),.ref hh,.ref p,?_⟩
  have ne:p≠hh:=ne_ob hH hH1 nofun
  have lenA:(v :: args).length=ps.length:=by rw [W4,(ra.ok har).1,hl]
  have S0:=SR.begin_ (ra:=aD (rW0 CM CW) ra) (N:=N) (a:=((rows,reach,hh,p),a)) (n:=n+2) sb nt tg ⟨v,args,rfl,hm,har⟩ (by rw [lenA]; exact hn)
  have hsl:((aD (rW0 CM CW) ra).slots ((rows,reach,hh,p),a)).length=ps.length:=by show (ra.slots a).length+1=_; exact hl a
  have no:∀ (j:Nat) t,((aD (rW0 CM CW) ra).slots ((rows,reach,hh,p),a)++T6 (n+2) Slot.any)[j]?=some t->t.own=false:=λj t ht=>by
   by_cases hj:j<((aD (rW0 CM CW) ra).slots ((rows,reach,hh,p),a)).length
   ·rw [X8 hj] at ht
    exact ((aD (rW0 CM CW) ra).ok (F:=F) (vs:=v :: args) ⟨v,args,rfl,hm,har⟩).2 j t ht |>.1
   ·rw [Y5 (by exact U3.mp hj)] at ht
    have:=W8 ht
    rw [List.mem_replicate] at this
    rw [this.2]; rfl
  have S1:=S0.less (p:=hh) no hH1 trivial
  have S1':=S1.less (p:=p) no (show del H hh p=some (.dK ws) by rw [c7 ne]; exact hH) trivial
  have S2:=S1'.setG (p:=hh) (s:=.ol (rOp rInt) (λb=>b=hh) homes) ps.length rfl ⟨hh,hs,rfl,rfl,by show del (del H hh) p hh=none; rw [c7 (R5 ne)]; exact dY,hF1,hH1,hw1⟩ λj t h1 h2=>nomatch (no j t h1).symm.trans h2
  have S3:=S2.setG (p:=p) (s:=.od rP (λb=>b=p) ended) (ps.length+1) rfl ⟨p,ws,rfl,rfl,dY,hp,hH,hw⟩ λj t h1 h2 h3=>dP h1 (λa _ l=>ne (V.ref.inj (Z7 (gP a (Nat.lt_of_lt_of_eq l S1'.len.symm) h3))).symm) λ_ h1=>nomatch (no j t h1).symm.trans h2
  rw [<- hsl,set_mid2,hsl] at S3
  refine h2 rows reach hh p homes ended a _ F _ H _ c S3 hf ?_
  exact λhs' ws' F' _ H' fr g1 g2 g3 g4 g5 g6=>q hs' ws' F' H' fr g1 g2 g3 g4 g5 g6
end
theorem SR.mut2 {C:Fc} {F H:Hp} {Γ:List Slot} {σ:St} {hh p:Addr} {u v:HO} {F' H':Hp} {s1 s2 t1 t2:Slot} {g1 g2:Nat} (S:SR C F Γ σ H) (hne:g1≠g2) (hg1:Γ[g1]?=some s1) (hs1:s1.own=true) (hp1:σ[g1]?=some (some (.ref hh))) (h01:C.H0 hh=none) (hu:H hh=some u)
  (hg2:Γ[g2]?=some s2) (hs2:s2.own=true) (hp2:σ[g2]?=some (some (.ref p))) (h02:C.H0 p=none) (hv:H p=some v) (fr:Fr ⟨del (del H hh) p,F,F⟩ F' H') (ht1:t1.own=true) (h1:SlOk C.H0 F' H' t1 (some (.ref hh))) (ht2:t2.own=true) (h2:SlOk C.H0 F' H' t2 (some (.ref p))) :
  SR C F' ((Γ.set g1 t1).set g2 t2) σ H':=by
 have ow:∀ (j:Nat) x,((Γ.set g1 t1).set g2 t2)[j]?=some x->x.own=true->∃ y,Γ[j]?=some y/\y.own=true:=λj x q o=>dP q (λe _ _=>⟨s2,e ▸ hg2,hs2⟩) λ_ q=>dP q (λe _ _=>⟨s1,e ▸ hg1,hs1⟩) λ_ q=>⟨x,q,o⟩
 refine ⟨S.toFr.via fr λb o e=>(c7 (af e h02)).trans (c7 (af e h01)),by rw [O1,O1]; exact S.len,λj t q=>dP q (λa b _=>oi12 _ (a ▸ hp2) (b ▸ h2)) λn2 q=>dP q (λa b _=>oi12 _ (a ▸ hp1) (b ▸ h1)) λn1 q=>S.mvAt q fr.low λp' _ o e f hu ou=>?_,λj k a b p' q1 q2 o1 o2 e1 e2=>(ow j a q1 o1).elim λa' r=>(ow k b q2 o2).elim λb' r'=>S.inj j k a' b' p' r.1 r'.1 r.2 r'.2 e1 e2⟩
 have e:=(c7 (S.oth hg2 hs2 hp2 n2 q o e)).trans ((c7 (S.oth hg1 hs1 hp1 n1 q o e)).trans hu)
 exact ⟨fr.off e f ou,fr.keep.kp p' _ ou.noTbl e⟩
section
variable {Γ:List Slot} {T τ:Type} {CM CW hh p:Addr} {rows:List (List Int)} {reach:Int} {homes:List (Option Int)} {ended:End_} {u:TS} {fin:Fc->T->Ends->Prop}
theorem bv_come {m:Str} {ra:RpA τ} {t:TA} {oτ:Option τ} {f:Wa × τ->Option (List (Option Int) × End_)} {gg:List (Option Int)->End_->Option T} (i g1 g2:Nat) (hne:g1≠g2) (hi:Γ[i]?=some (.fr (rW0 CM CW) (rows,reach,hh,p))) (hg1:Γ[g1]?=some (.ol (rOp rInt) (λb=>b=hh) homes)) (hg2:Γ[g2]?=some (.od rP (λb=>b=p) ended)) (ha:EA Γ t oτ ra)
  (h:∀ hs es,BV ((Γ.set g1 (.ol (rOp rInt) (λb=>b=hh) hs)).set g2 (.od rP (λb=>b=p) es)) u (gg hs es) fin) (ob:Ob (rW0 CM CW) CW m):BV Γ (tSeq (tDrop (lA CW m (spW CM CW ra f) [] E0 (tVar i) t)) u) (oτ.bind λa=>(f ((rows,reach,homes,ended),a)).bind λc=>gg c.1 c.2) fin:=by
 intro C F σ H D x S e k
 refine oq12 (a8 e) λa e1 e=>?_
 refine oq12 (a8 e) λc e2 e=>?_
 refine oq12 (S.fr hi) λw q1 q2=>?_
 refine oq33 (ob F w _ q2) λad dx fs z1 z2 z3=>?_
 refine ⟨w,q1,ad,dx,fs,z1,S.sub _ _ z2,z3,ha C F σ H _ a S e1 λvs F' H' x1 r1=>?_⟩
 have S':=S.grow x1
 refine oq12 (S'.at_ g1 _ hg1) λo h1 zz=>oq26 zz λp1 hs eq4_ eq5_ h3 h4 h5 h6=>?_; subst eq4_; subst eq5_
 refine oq12 (S'.at_ g2 _ hg2) λo' k1 zz=>oq26 zz λp2 ws eq4_ eq5_ k3 k4 k5 k6=>?_; subst eq4_; subst eq5_
 refine oi71 F' w vs rows reach p1 p2 (oi6d hs ws homes ended a c (by rw [V6]) S'.sub S'.nt S'.tg ((rW0 CM CW).mono x1.ff q2) h4 h5 h6 k4 k5 k6 r1 ⟨e2,λhs' ws' F2 H2 fr m1 m2 m3 m4 m5 m6=>?_⟩)
 exact h c.1 c.2 C F2 σ H2 D x (S'.mut2 (u:=.lst hs) (v:=.dK ws) hne hg1 rfl h1 h3 h5 hg2 rfl k1 k3 k5 fr rfl ⟨p1,hs',rfl,rfl,h3,m1,m2,m3⟩ rfl ⟨p2,ws',rfl,rfl,k3,m4,m5,m6⟩) e k
theorem bv_retW (i g1 g2:Nat) (hne:g1≠g2) (hi:Γ[i]?=some (.fr (rW0 CM CW) (rows,reach,hh,p))) (hg1:Γ[g1]?=some (.ol (rOp rInt) (λb=>b=hh) homes)) (hg2:Γ[g2]?=some (.od rP (λb=>b=p) ended)) (hi2:i≠g1/\i≠g2/\i<Γ.length):BV Γ (tRet (tVar i)) (some (rows,reach,homes,ended)) (finV (rW CM CW)):=λC F σ H D x S e k=>by
 cases e
 refine oq26 (S.borW hi hg1 hg2 hne) λvs ws _ _ _ _ _ S'=>?_
 have hi':(((Γ.set g1 .any).set g2 .any).set i (.fr (rW CM CW) (rows,reach,homes,ended)))[i]?=some (.fr (rW CM CW) (rows,reach,homes,ended)):=mL (by rw [O1,O1]; exact hi2.2.2)
 refine oq12 (S'.fr hi') λv q1 q2=>?_
 exact ⟨v,q1,k v _ H S'.toFr q2⟩
end
def spIM (CM:Addr):Sp:=λvs H Q _=>∃ x dx vf,vs=[.ref x,vf]/\H x=some (.ins CM dx [])/\∀ p,H p=none->Q .non (upd (upd (upd H x (.ins CM dx [("floor",vf)])) p (.dK [])) x (.ins CM dx [("floor",vf),("ended",.ref p)]))
theorem init_M {K:Z3} {CM:Addr} (k:MK K CM) {vs:List V} {H:Hp} {Q:VK} {E:XK} {N:List Str} (hN:N.length=2) (h:spIM CM vs H Q E):(tSeq (sFld K (tVar 0) (tVar 1) "floor") (sFld K (tVar 0) tDNewK "ended")) { nx:=λ_ H'=>Q .non H',rt:=Q } (start N vs) H:=by
 refine oq33 h λx dx vf eq3_ hx q=>?_; subst eq3_
 have es:start N [.ref x,vf]=[some (.ref x),some vf]:=by unfold start; simp [hN]
 rw [es]
 refine ⟨vf,rfl,.ref x,rfl,x,CM,dx,[],rfl,hx,k.c,k.floor,by simp,?_⟩
 intro p hp
 have np:p≠x:=by rintro rfl; rw [ah] at hp; cases hp
 rw [ai np] at hp
 refine ⟨.ref x,rfl,x,CM,dx,[("floor",vf)],rfl,by rw [ai (R5 np),ah]; rfl,k.c,k.ended,by simp,?_⟩
 exact q p hp
end
section
open PySem PySem.Spec PyProof.Rows
variable [Kon]
def spIW (CM CW:Addr) (f:List (List Int)->Option (List (Option Int))):Sp:=λvs H Q _=>∃ F x dx vf rows reach homes,vs=[.ref x,vf,.int reach]/\Same F H/\NT F/\TbG H/\F x=none/\H x=some (.ins CW dx [])/\rF.rel F vf rows/\f rows=some homes /\
 ∀ h hs m dm p F' H',Fr ⟨del H x,F,F⟩ F' H'->(F' x=none/\F' h=none/\F' m=none/\F' p=none)->(H h=none/\H m=none/\H p=none)->H' x=some (.ins CW dx [("floor",vf),("reach",.int reach),("homes",.ref h),("meetings",.ref m)])->H' h=some (.lst hs) ->
  Paired ((rOp rInt).rel F') hs homes->H' m=some (.ins CM dm [("floor",vf),("ended",.ref p)])->H' p=some (.dK [])->Q .non H'
theorem TbG.pokI {H:Hp} {p C d:Addr} {fs:List (Str × V)} {o:HO} (g:TbG H) (n:cJ o) (h:H p=some (.ins C d fs)):TbG (upd H p o):=g.poke n (λ_ z=>nomatch h.symm.trans z) λ_ z=>nomatch h.symm.trans z
theorem fld_c {K:Z3} {D:Ends} {σ:St} {H:Hp} {x C dx:Addr} {fs:List (Str × V)} {y:V} {f:Str} (e:σ[0]?=some (some (.ref x))) (hx:H x=some (.ins C dx fs)) (c:Cls K C) (n:aU K C f) (l:fs.length<1000) (k:D.nx σ (upd H x (.ins C dx (putF f y fs)))):sFld K (tVar 0) (λ_ H Q=>Q y H) f D σ H:=⟨.ref x,e,x,C,dx,fs,rfl,hx,c,n,l,k⟩
theorem Ext.offI {F H F' H':Hp} {b C d:Addr} {fs:List (Str × V)} (x:Ext F H F' H') (f:F b=none) (h:H b=some (.ins C d fs)):F' b=none:=none_of λw z=>(x.nw b w z).elim (λy=>nomatch f.symm.trans y) λy=>by rw [h] at y; exact y
theorem n0 {H0 F H:Hp} {s0:Slot} {o0:Option V} {Γ:List Slot} {σ:St} (h:SlOk H0 F H s0 o0) (t:∀ (i:Nat) s,Γ[i]?=some s->∃ o,σ[i]?=some o/\SlOk H0 F H s o):∀ (i:Nat) s,(s0 :: Γ)[i]?=some s->∃ o,(o0 :: σ)[i]?=some o/\SlOk H0 F H s o:=λi s e=>by
 cases i with
 | zero=>cases e; exact ⟨_,rfl,h⟩
 | succ i=>exact t i s e
theorem no_own {Γ:List Slot} (h:Γ.all (λs=>!s.own)=true) {i:Nat} {s:Slot} (e:Γ[i]?=some s) (o:s.own=true):False:=by
 have z:=List.all_eq_true.mp h s (W8 e)
 rw [o] at z; cases z
theorem init_W {K:Z3} {CM CW:Addr} (k:WK K CW) {f:List (List Int)->Option (List (Option Int))} {tc:TE} (hc:∀ rows reach,EVL [.any,.fr rF rows,.fr rInt reach] tc (f rows) (rOp rInt)) {vs:List V} {H:Hp} {Q:VK} {E:XK} {N:List Str} (hN:N.length=3) (h:spIW CM CW f vs H Q E) :
  (tSeq (sFld K (tVar 0) (tVar 1) "floor") (tSeq (sFld K (tVar 0) (tVar 2) "reach") (tSeq (sFld K (tVar 0) tc "homes") (sFld K (tVar 0) (tMake CM (spIM CM) [] E0 (aZ (tVar 1) tNil)) "meetings")))) { nx:=λ_ H'=>Q .non H',rt:=Q } (start N vs) H:=by
 refine oq79 h λF x dx vf rows reach homes eq7_ sb nt tg hFx hx hvf hf q=>?_; subst eq7_
 have es:start N [.ref x,vf,.int reach]=[some (.ref x),some vf,some (.int reach)]:=by unfold start; simp [hN]
 rw [es]
 refine oi12 vf rfl (fld_c rfl hx k.c k.floor (by decide) ?_)
 refine oi12 (.int reach) rfl (fld_c (fs:=[("floor",vf)]) rfl ah k.c k.reach (show 1<1000 by decide) ?_)
 rw [sF]
 have sb2:Same F (upd H x (.ins CW dx (putF "reach" (.int reach) [("floor",vf)]))):=λb o e=>by rw [ai (af e hFx)]; exact sb b o e
 have tg2:TbG (upd H x (.ins CW dx (putF "reach" (.int reach) [("floor",vf)]))):=tg.pokI trivial hx
 generalize eH2:upd H x (.ins CW dx (putF "reach" (.int reach) [("floor",vf)]))=H2 at sb2 tg2
 have h2x:H2 x=some (.ins CW dx [("floor",vf),("reach",.int reach)]):=by rw [<- eH2,ah]; rfl
 have h2o:∀ b,b≠x->H2 b=H b:=λb n=>by rw [<- eH2,ai n]
 have SS:SR ⟨H2,F,F⟩ F [.any,.fr rF rows,.fr rInt reach] [some (.ref x),some vf,some (.int reach)] H2:=by
  exact ⟨⟨Sm.refl _,Same.refl _,sb2,λb o h=>.inl h,nt,tg2⟩,rfl,n0 trivial (n0 ⟨vf,rfl,hvf⟩ (n0 ⟨_,rfl,rfl⟩ nofun)),λi j s t p h1 h2 o1 o2 _ _=>(no_own rfl h1 o1).elim⟩
 refine hc rows reach _ F _ H2 _ homes SS hf λhh hs F' H3 x1 hp rh=>?_
 have h3x:H3 x=some (.ins CW dx [("floor",vf),("reach",.int reach)]):=x1.hh.kp _ _ trivial h2x
 have nhx:x≠hh:=af h3x hp
 have F'x:F' x=none:=x1.offI hFx h2x
 have F'h:F' hh=none:=x1.sub.free hp
 have H2h:H2 hh=none:=x1.hh.free hp
 refine fld_c rfl ((ai nhx).trans h3x) k.c k.homes (show 2<1000 by decide) ?_
 have tg3:TbG H3:=x1.hh.tg tg2
 have tg4:TbG (upd (upd H3 hh (.lst hs)) x (.ins CW dx (putF "homes" (.ref hh) [("floor",vf),("reach",.int reach)]))):=by
  exact (tg3.pokN (p:=hh) (o:=.lst hs) trivial hp).pokI trivial ((ai nhx).trans h3x)
 have h4x':upd (upd H3 hh (.lst hs)) x (.ins CW dx (putF "homes" (.ref hh) [("floor",vf),("reach",.int reach)])) x=some (.ins CW dx [("floor",vf),("reach",.int reach),("homes",.ref hh)]):=by rw [ah]; rfl
 have h4h':upd (upd H3 hh (.lst hs)) x (.ins CW dx (putF "homes" (.ref hh) [("floor",vf),("reach",.int reach)])) hh=some (.lst hs):=by rw [ai (R5 nhx),ah]
 have h4o':∀ b,b≠x->b≠hh->upd (upd H3 hh (.lst hs)) x (.ins CW dx (putF "homes" (.ref hh) [("floor",vf),("reach",.int reach)])) b=H3 b:=λb n1 n2=>by rw [ai n1,ai n2]
 generalize upd (upd H3 hh (.lst hs)) x (.ins CW dx (putF "homes" (.ref hh) [("floor",vf),("reach",.int reach)]))=H4 at tg4 h4x' h4h' h4o'
 refine ⟨vf,rfl,λm dm hm hdm hne=>⟨m,dm,vf,rfl,ah,λp hp5=>⟨rfl,?_⟩⟩⟩
 have mx:m≠x:=(af h4x' hm).symm
 have mh:m≠hh:=(af h4h' hm).symm
 have dmx:dm≠x:=(af h4x' hdm).symm
 have dmh:dm≠hh:=(af h4h' hdm).symm
 have pm:p≠m:=(af ah hp5).symm
 rw [ai pm] at hp5
 have pdm:p≠dm:=(af ah hp5).symm
 rw [ai pdm] at hp5
 have px:p≠x:=(af h4x' hp5).symm
 have ph:p≠hh:=(af h4h' hp5).symm
 have tg5:TbG (upd (upd (upd (upd (upd H4 dm (.own m)) m (.ins CM dm [])) m (.ins CM dm [("floor",vf)])) p (.dK [])) m (.ins CM dm [("floor",vf),("ended",.ref p)])):=by
  exact ((((tg4.pokN (p:=dm) (o:=.own m) trivial hdm).pokN (p:=m) (o:=.ins CM dm []) trivial ((ai (R5 hne)).trans hm)).pokI (p:=m) (o:=.ins CM dm [("floor",vf)]) trivial ah).pokN (p:=p) (o:=.dK []) trivial ((ai pm).trans ((ai pm).trans ((ai pdm).trans hp5)))).pokI (p:=m) (o:=.ins CM dm [("floor",vf),("ended",.ref p)]) trivial ((ai (R5 pm)).trans ah)
 have h5o:∀ b,b≠m->b≠dm->b≠p->upd (upd (upd (upd (upd H4 dm (.own m)) m (.ins CM dm [])) m (.ins CM dm [("floor",vf)])) p (.dK [])) m (.ins CM dm [("floor",vf),("ended",.ref p)]) b=H4 b:=λb n1 n2 n3=>by rw [ai n1,ai n3,ai n1,ai n1,ai n2]
 have h5m:upd (upd (upd (upd (upd H4 dm (.own m)) m (.ins CM dm [])) m (.ins CM dm [("floor",vf)])) p (.dK [])) m (.ins CM dm [("floor",vf),("ended",.ref p)]) m=some (.ins CM dm [("floor",vf),("ended",.ref p)]):=ah
 have h5p:upd (upd (upd (upd (upd H4 dm (.own m)) m (.ins CM dm [])) m (.ins CM dm [("floor",vf)])) p (.dK [])) m (.ins CM dm [("floor",vf),("ended",.ref p)]) p=some (.dK []):=by rw [ai pm,ah]
 generalize upd (upd (upd (upd (upd H4 dm (.own m)) m (.ins CM dm [])) m (.ins CM dm [("floor",vf)])) p (.dK [])) m (.ins CM dm [("floor",vf),("ended",.ref p)])=H5 at tg5 h5o h5m h5p
 have h5x:H5 x=some (.ins CW dx [("floor",vf),("reach",.int reach),("homes",.ref hh)]):=by rw [h5o x (R5 mx) (R5 dmx) (R5 px)]; exact h4x'
 have h5h:H5 hh=some (.lst hs):=by rw [h5o hh (R5 mh) (R5 dmh) (R5 ph)]; exact h4h'
 refine fld_c rfl h5x k.c k.meetings (show 3<1000 by decide) ?_
 have tg6:TbG (upd H5 x (.ins CW dx (putF "meetings" (.ref m) [("floor",vf),("reach",.int reach),("homes",.ref hh)]))):=tg5.pokI trivial h5x
 have old:∀ b o,b≠x->H3 b=some o->upd H5 x (.ins CW dx (putF "meetings" (.ref m) [("floor",vf),("reach",.int reach),("homes",.ref hh)])) b=some o:=λb o n e=>by
  have nh:b≠hh:=af e hp
  have e4:H4 b=some o:=by rw [h4o' b n nh]; exact e
  rw [ai n,h5o b (af e4 hm) (af e4 hdm) (af e4 hp5)]; exact e4
 have F'm:F' m=none:=x1.sub.free ((h4o' m mx mh).symm.trans hm)
 have F'p:F' p=none:=x1.sub.free ((h4o' p px ph).symm.trans hp5)
 have freeH:∀ b,b≠x->b≠hh->H4 b=none->H b=none:=λb n1 n2 e=>by
  rw [h4o' b n1 n2] at e
  rw [<- h2o b n1]; exact x1.hh.free e
 refine q hh hs m dm p F' _ ⟨⟨λb o n e=>?_,λb ps e=>?_,λ_=>tg6⟩,x1.ff,λb o e=>?_,λb o e=>?_,x1.nt nt,tg6⟩ (oi04 F'x F'h F'm F'p) (oi03 (by rw [<- h2o hh (R5 nhx)]; exact H2h) (freeH m mx mh hm) (freeH p px ph hp5)) ?_ (by rw [ai (R5 nhx)]; exact h5h) rh (by rw [ai mx]; exact h5m) (by rw [ai px]; exact h5p)
 ·refine oq02 (cW e) λn1 e=>?_
  exact old b o n1 (x1.hh.kp b o n (by rw [h2o b n1]; exact e))
 ·refine oq02 (cW e) λn1 e=>?_
  refine oq11 (x1.hh.tb b ps (by rw [h2o b n1]; exact e)) λmore e3=>?_
  exact ⟨more,old b _ n1 e3⟩
 ·exact old b o (af e F'x) (x1.sub b o e)
 ·rcases x1.nw b o e with z | z
  ·exact .inl z
  ·refine .inr ?_
   show UnT (del H x b)
   by_cases y:b=x
   ·rw [y,dY]; trivial
   ·rw [c7 y,<- h2o b y]; exact z
 ·rw [ah]; rfl
section
variable {Γ:List Slot} {T:Type} {CM CW:Addr} {u:TS} {fin:Fc->T->Ends->Prop} {f:List (List Int)->Option (List (Option Int))}
theorem upd2_el {F:Hp} {w m b:Addr} {o1 o2 u:HO} {Q:Prop} (z:upd (upd F w o1) m o2 b=some u) (f:b=m->o2=u->Q) (g:b=w->o1=u->Q) (h:b≠w->F b=some u->Q):Q:=jN z f λ_ z=>jN z g h
theorem make_ext {F1 H1 F' H' Hx:Hp} {w m:Addr} {o1 o2:HO} (fr:Fr ⟨Hx,F1,F1⟩ F' H') (k2:∀ b o,H1 b=some o->Hx b=some o) (k3:∀ b,b≠w->UnT (Hx b)->UnT (H1 b)) (hw:H1 w=none) (hm:H1 m=none) (f1:F' w=none) (f3:F' m=none) (q1:H' w=some o1) (q4:H' m=some o2) (t1:cJ o1) (t2:cJ o2):Ext F1 H1 (upd (upd F' w o1) m o2) H' :=
 ⟨⟨λb o n z=>fr.keep.kp b o n (k2 b o z),λb ps z=>fr.keep.tb b ps (k2 b _ z),λ_=>fr.tg⟩,λb o z=>have z:=fr.low b o z
  d7 (af z f3) (d7 (af z f1) z),λb o z=>upd2_el z (λe1 e2=>e1 ▸ e2 ▸ q4) (λe1 e2=>e1 ▸ e2 ▸ q1) λ_ z=>fr.sub b o z,λb o z=>upd2_el z (λe _=>.inr (un_no (e ▸ hm))) (λe _=>.inr (un_no (e ▸ hw))) λn z=>(fr.base b o z).imp id (k3 b n),λ_=>jO (jO fr.nt t1) t2⟩
theorem rA {Γ:List Slot} {σ:St} {b:Addr} {s:Slot} {v:Option V} (g:Nat) (hl:σ.length=Γ.length) (n:∀ (j:Nat) t,Γ[j]?=some t->t.own=true->σ[j]?≠some (some (.ref b))) (h:s.own=true->v≠some (.ref b)) (j:Nat) (t:Slot) (z1:(Γ.set g s)[j]?=some t) (z2:t.own=true):(σ.set g v)[j]?≠some (some (.ref b)):=λz3=>dP z1 (λe1 e2 l=>h (e2 ▸ z2) (gP e1 (Nat.lt_of_lt_of_eq l hl.symm) z3)) λnj z1=>n j t z1 z2 ((cS nj).symm.trans z3)
theorem bv_make {t:TA} {oa:Option (List (List Int) × Int)} {gg:List (List Int)->Int->List (Option Int)->Option T} (i g1 g2:Nat) (hne:i≠g1/\i≠g2/\g1≠g2/\g1<Γ.length/\g2<Γ.length) (ha:EA Γ t oa (aD rF (aOne rInt)))
  (h:∀ rows reach hh p homes,BV (((Γ.set i (.fr (rW0 CM CW) (rows,reach,hh,p))).set g1 (.ol (rOp rInt) (λb=>b=hh) homes)).set g2 (.od rP (λb=>b=p) [])) u (gg rows reach homes) fin) :
  BV Γ (tSeq (tAsg (tMake CW (spIW CM CW f) [] E0 t) (gd i)) (tGh g1 (tGh g2 u))) (oa.bind λa=>(f a.1).bind λhomes=>gg a.1 a.2 homes) fin:=by
 intro C F σ H D x S e k
 refine oq12 (a8 e) λa e1 e=>?_
 refine oq12 (a8 e) λhomes e2 e=>?_
 refine ha C F σ H _ a S e1 λvs F1 H1 x1 r1=>?_
 refine oq23 r1 λvf us eq2_ r2 zz=>oq12 zz λv2 eq5_ r3=>?_; subst eq2_; subst eq5_
 cases r3
 have S1:=S.grow x1
 intro w dx hw hdx nd
 have Fw:F1 w=none:=S1.sub.free hw
 have Fd:F1 dx=none:=S1.sub.free hdx
 refine oi79 F1 w dx vf a.1 a.2 homes rfl (λb o z=>d7 (af z Fw) (d7 (af z Fd) (S1.sub b o z))) S1.nt ?_ Fw ah r2 e2 λhh hs m dm p F' H' fr zf zn q1 q2 q3 q4 q5=>⟨rfl,oq04 zf λf1 f2 f3 f4=>oq03 zn λn1 n2 n3=>?_⟩
 ·exact (S1.tg.pokN (p:=dx) (o:=.own w) trivial hdx).pokN trivial ((ai (R5 nd)).trans hw)
 have frH:∀ b,upd (upd H1 dx (.own w)) w (.ins CW dx []) b=none->H1 b=none/\b≠w:=λb z=>by
  have bw:b≠w:=(af ah z).symm
  have z:=(ai bw).symm.trans z
  exact ⟨(ai (af ah z).symm).symm.trans z,bw⟩
 refine oq02 (frH hh n1) λn1 hw1=>?_
 refine oq02 (frH m n2) λn2 hw2=>?_
 refine oq02 (frH p n3) λn3 hw3=>?_
 have hm:hh≠m:=ne_ob q2 q4 nofun
 have pm:p≠m:=ne_ob q5 q4 nofun
 have ph:p≠hh:=ne_ob q5 q2 nofun
 have ext:=make_ext fr (λb o z=>(c7 (af z hw)).trans (d7 (af z hw) (d7 (af z hdx) z))) (λb n y=>by
  rw [c7 n,ai n] at y
  by_cases bd:b=dx
  ·rw [bd,ah] at y; exact y.elim
  ·rw [ai bd] at y; exact y) hw n2 f1 f3 q1 q4 trivial trivial
 generalize eF:upd (upd F' w (.ins CW dx [("floor",vf),("reach",.int a.2),("homes",.ref hh),("meetings",.ref m)])) m (.ins CM dm [("floor",vf),("ended",.ref p)])=F2 at ext
 have e3:Same F' F2:=λb o z=>eF ▸ d7 (af z f3) (d7 (af z f1) z)
 have rf:=rF.mono e3 (rF.mono fr.low r2)
 have S2:=S1.grow ext
 have S3:=S2.setF (r:=rW0 CM CW) (a:=(a.1,a.2,hh,p)) (v:=.ref w) i ⟨w,dx,vf,m,rfl,eF ▸ (ai (R5 hw2)).trans ah,rf,m,dm,vf,rfl,eF ▸ ah,rf⟩
 have off:∀ b,b≠m->b≠w->F' b=none->F2 b=none:=λb n1 n2 z=>eF ▸ (ai n1).trans ((ai n2).trans z)
 have S4:=S3.setG (p:=hh) (s:=.ol (rOp rInt) (λb=>b=hh) homes) g1 rfl ⟨hh,hs,rfl,rfl,S1.keep.free n1,off hh hm hw1 f2,q2,Paired.imp2 (λ_ _ z=>Rp.mono _ e3 z) q3⟩ (rA i S1.len (λj t q o z=>S1.np n1 q o z) nofun)
 have S5:=S4.setG (p:=p) (s:=.od rP (λb=>b=p) []) g2 rfl ⟨p,[],rfl,rfl,S1.keep.free n3,off p pm hw3 f4,q5,.nil⟩ (rA g1 S3.len (rA i S1.len (λj t q o z=>S1.np n3 q o z) nofun) λ_ z=>ph (V.ref.inj (Z7 z)).symm)
 exact ⟨.ref hh,.ref p,h a.1 a.2 hh p homes C _ _ H' D x S5 e k⟩
end
end
section
open PySem PySem.Spec PyProof.Rows
variable [Kon]
def gA (K:Z3) (mg:Str->Option Value) (x:Str) (C:Addr) (qual:Str) (st:Stmt) (ps:List Str):Prop:=∃ f fd,Fun K "__init__" qual st f fd/\Binds K fd ps []/\Mk K C f/\mg x=some (.ref C)
noncomputable def HasI (P:W5) (w:World) (K:Z3) (mg:Str->Option Value) (base:Heap) (k:Nat) (x:Str) (C:Addr) (ps:List Str) (sp:Sp):Prop :=
 ∃ f fd,FnOk P w K mg base CX0 k f fd ps sp/\Mk K C f/\Binds K fd ps []/\mg x=some (.ref C)
theorem init_mk {K:Z3} {mg:Str->Option Value} {h:Heap} {x qual:Str} {C f:Addr} {st:Stmt} {ps:List Str} {oc:Value} {od an:Option Addr} {osl:Array (Option Value)} {kV doc pm cdv ct:Value} (X:K.In h) (G:h.Ns U8 mg)
  (a:G8 K U8 x=some (some (.ref C))) (i:R4 K (.ref C) "__init__"=some (some (.ref f))) (l:K.lookup f=some ⟨oc,od,.func (T7 "__init__" qual (b0 st) (aF st) (aa st) .none kV doc pm an cdv ct),osl⟩) (c:P7 K cdv qual=true) (k:T5 K (.ref f)=true) (hf:PySem.W.isFn K (.ref f)=true)
  (mk:PySem.W.makesIn K C=true) (kc:T5 K (.ref C)=true)
  (hb:∀ (kV doc pm:Value) (an:Option Addr) (cdv ct:Value) (us:List Value),us.length=ps.length->A9 (T7 "__init__" qual (b0 st) (aF st) (aa st) .none kV doc pm an cdv ct) ⟨us,[]⟩=pure (ps.zip us)):gA K mg x C qual st ps :=
 ⟨f,_,eJ (st:=st) l c k,(eJ (st:=st) l c k).binds hb,⟨mk,i,hf,kc⟩,PySem.W.mg_of X G a⟩
section
variable {P:W5} {w:World} {K:Z3} {mg:Str->Option Value} {base:Heap} {x qual:Str} {st:Stmt} {N ps:List Str} {k:Nat} {C:Addr}
theorem gA.has {sp:Sp} (D:gA K mg x C qual st ps) (S:FnScope N ps (aa st)) (len:∀ vs H Q E,sp vs H Q E->vs.length=ps.length)
  (hbody:∀ (f:Addr) (cdv:Value) (A:Around) (outer:List Env) (s:Shared) (H:Hp) (vs:List V) (Q:VK) (E:XK),Room k (A.deeper (envOfC qual (aa st) s.heap.objs.size f cdv))->sp vs H Q E ->
   ∃ t,PSs (cxOf CX0 P w K mg base N qual (aa st) f cdv A outer s H E).nox (aF st) t/\t { nx:=λ_ H'=>Q .non H',rt:=Q } (start N vs) H):HasI P w K mg base (k+1) x C ps sp:=by
 refine oq24 D λf fd F b hm hg=>?_
 exact ⟨f,fd,F.ok S len λcdv A outer s H vs Q E hr h=>hbody f cdv A outer s H vs Q E hr h,hm,b,hg⟩
theorem oW {X:Cx} {sp:Sp} {t:TA} {e:Expr} {es:List Expr} {p pos:Pos} (G:HasI X.prog X.w X.K X.mg X.base k x C ps sp) (hr:Room (k+1) X.A) (hg:Gl X x) (ha:PA X (e :: es) t) (hdb:autoParam ((x == ("__debug__":Str))=false) L2.a0q._auto_1)
  (he:autoParam (V4 (e :: es) X.env=(false,eval e X.env) :: V4 es X.env) L2.a2q._auto_1) (hpl:autoParam ((backTo pos (V4 es X.env)).any (·.1)=false) L2.a2q._auto_1):PE X (.Call (.Name x p) (e :: es) [] pos) (tMake C sp [] E0 t):=by
 refine oq24 G λf fd F hm hb hg'=>?_
 exact pe_make hm F hr hg hg' hb .nil pass0 ha hdb he hpl
end
end
section
open PySem PySem.Spec PyProof.Rows
section
variable {X:Cx} {K:Z3}
theorem cf {e:Expr} {f:Str} {pos:Pos} {ta:TE} (h:X.K=K) (he:PE X e ta) (hb:B2 e f X.env (eval e X.env)=eval e X.env):PE X (.Attribute e f pos) (tFld K ta f):=by subst h; exact pe_fld he hb
end
variable [Kon]
section
variable {Γ:List Slot} {ta:TE}
theorem EVL.cast {α:Type} {r:Rp α} {o o':Option (List α)} (h:EVL Γ ta o r) (e:o'=o):EVL Γ ta o' r:=e ▸ h
theorem em_some {g:Nat} {p:Addr} {α:Type} {r:Rp α} {o:Option (α × End_)} (h:EM Γ g p ta o r):EM Γ g p ta (o.bind λx=>some (some x.1,x.2)) (rOp r):=λC F σ H Q x S e k=>by
 refine oq12 (a8 e) λy e1 e=>?_
 cases e
 exact h C F σ H Q y S e1 λv F' H' S' r1=>k v F' H' S' r1
end
end
end L2
namespace Pu
noncomputable def oX {α:Type} (d:List (Int × α)) (k:Option Int):Option α:=k.bind λi=>find d i
end Pu
namespace L2
open PySem PySem.Spec PyProof.Rows
section
variable {prog:W5} {w:World} {A:Around} {E:Value->Shared->Prop} {s:Shared}
theorem oY {Q:Int->Shared->Prop} (h:Q 4238894112 { s with toks:=s.toks+1 }):wpAny (model prog w) A (pyHash .none) Q E s:=by
 have hT:s.TypeIs .none "NoneType":=rfl
 show wpAny _ _ (pyHashByItsType .none) Q E s
 unfold pyHashByItsType
 have hv:[M7].any Value.onHeap=false:=rfl
 refine Z0 ?_
 rw [cRoomFor,if_neg (by rw [hv]; exact Z8)]; refine Y0 ?_
 refine Z0 (wpAny_specialOf hT J6.lookup ?_)
 show wpAny _ _ (if (some (Value.builtin "NoneType.__hash__") == some M7)=true then _ else _) Q E s
 rw [if_neg (by rw [beq_builtin_none]; exact Z8)]
 refine Z0 (wpAny_specialOf hT J6.lookup ?_)
 show wpAny _ _ (callSpecialIfBoundUnlessNone? .none "__hash__" _ >>= _) Q E s
 refine Z0 (wpAny_callSpecialIfBoundUnlessNone?_slot hT J6
  (N8 J6 hT PySem.F.entry_NoneType_hash
   (show wpAny _ _ (do ret (<- mkInt 4238894112)) _ _ s from wpAny_ret_mkInt ?_) (PySem.F.args_NoneType_hash_1 _)))
 show wpAny _ _ (if (decide (-(2:Int) ^ 63<=4238894112) && decide ((4238894112:Int)<2 ^ 63))=true then _ else _) Q E _
 rw [if_pos (by decide)]
 exact Y0 h
end
noncomputable def oZ:Option Key->Value->Bool
 | none,.none=>true
 | none,_=>false
 | some k,v=>ft k v
theorem du {v:Value} (h:oZ none v=true):v=.none:=by
 cases v <;> first | rfl | cases h
theorem iJ {k:Key} {v:Value} (h:ft k v=true):oZ none v=false:=by
 rcases aO h with ⟨i,t,rfl,rfl⟩ | ⟨x,t,rfl,rfl⟩ <;> rfl
noncomputable def dF (prog:W5) (w:World):PySem.KeyKind prog w (Option Key) where
 is:=oZ
 hash:=λk=>match k with | none=>4238894112 | some k=>keyH w k
 inj:=λv a b ha hb=>by
  cases a with
  | none=>cases b with
   | none=>rfl
   | some b=>rw [iJ (show ft b v=true from hb)] at ha; cases ha
  | some a=>cases b with
   | none=>rw [iJ (show ft a v=true from ha)] at hb; cases hb
   | some b=>rw [(aV prog w).inj v a b ha hb]
 byValue:=λk v h=>by
  cases k with
  | none=>rw [du h]; rfl
  | some k=>exact (aV prog w).byValue k v h
 pyHash:=λ{A E s k v Q} hv h=>by
  cases k with
  | none=>rw [du hv]; exact oY h
  | some k=>exact (aV prog w).pyHash (k:=k) hv h
 eqBool:=λ{A E s a b u v Q} hu hv h=>by
  cases a with
  | none =>
   rw [du hu]
   cases b with
   | none=>rw [du hv]; exact A6.same _ _ _ _ _ (by simpa using h)
   | some b =>
    rcases aO hv with ⟨i,t,rfl,rfl⟩ | ⟨x,t,rfl,rfl⟩
    ·exact A6.none_int i t _ _ _ _ (by simpa using h)
    ·exact A6.none_str x t _ _ _ _ (by simpa using h)
  | some a =>
   cases b with
   | none =>
    rw [du hv]
    rcases aO hu with ⟨i,t,rfl,rfl⟩ | ⟨x,t,rfl,rfl⟩
    ·exact A6.int_none i t _ _ _ _ (by simpa using h)
    ·exact A6.str_none x t _ _ _ _ (by simpa using h)
   | some b =>
    refine (aV prog w).eqBool (a:=a) (b:=b) hu hv ?_
    have:decide (some a=some b)=decide (a=b):=by simp
    rw [this] at h; exact h
 «strs»:=λk x t v h=>by
  cases k with
  | none=>cases h
  | some k=>exact (aV prog w).strs k x t v h
theorem mapOf_opt {P:W5} {w:World} {h:Heap} {a:Addr} {f:Key->Option Value} (m:h.MapOf (aV P w) a f):h.MapOf (dF P w) a (λk=>k.bind f):=by
 refine oq35 m λo es ep h1 h2 h3 h4 h5=>?_
 refine ⟨o,es,ep,h1,h2,h3,λe he=>?_,λk=>?_⟩
 ·refine oq12 (h4 e he) λk g1 g2=>?_
  exact (oi12 (some k) g1 g2)
 ·cases k with
  | some k=>exact h5 k
  | none =>
   show findBy oZ es none=none
   unfold findBy
   rw [Option.map_eq_none_iff,Array.find?_eq_none]
   intro e he
   refine oq12 (h4 e he) λk g1 _=>?_
   rw [iJ (show ft k e.key=true from g1)]
   exact Z8
section
variable {X:Cx} {pins:List (Addr × Obj)} {σ:St} {H:Hp} {s:Shared} {a:Addr} {A:Around} {E:Value->Shared->Prop} {u:Value}
theorem d_inN {kvs:List (Key × V)} {Q:Value->Shared->Prop} (I:Inv X pins σ H s) (e:H a=some (.dK kvs)) (h:∀ s',Inv X pins σ H s'->Q (.bool false) s'):wpAny (model X.prog X.w) A (N5 .In .none (.ref a)) Q E s:=by
 refine oq03 (dk_of I.hok e) λz hd zz=>oq12 zz λvs rel dd=>?_
 exact wpAny_in_of (knd:=dF X.prog X.w) (k:=none) rfl hd (mapOf_opt dd.mapOf) (h _ (I.tok _))
def tDInO (ty td:TE):TE:=λσ H Q=>ty σ H λy H1=>td σ H1 λx H2=>∃ a kvs,x=.ref a/\H2 a=some (.dK kvs)/\((y=.non/\Q (.bl false) H2)\/∃ k,y=kV k/\Q (.bl (valV kvs k).isSome) H2)
theorem pc_dinO {i o:Expr} {ty td:TE} (hu:X.A.units+1<cLine) (hi:PE X i ty) (ho:PE X o td):PC X .In i o (tDInO ty td):=by
 intro pins s σ H Q I h
 refine thn (hi pins s σ H _ I h) λiv s1 zq=>oq23 zq λy H1 I1 ry q1=>thn (ho pins s1 σ H1 _ I1 q1) λu s2 zq=>oq23 zq λx H2 I2 rx zz=>oq23 zz λa kvs ex g q2=>?_
 subst ex
 obtain rfl:u=S7 a:=rx
 rcases q2 with ⟨rfl,q2⟩ | ⟨k,rfl,q2⟩
 ·obtain rfl:iv=M7:=ry
  exact d_inN I2 g λs3 I3=>⟨.bl false,H2,I3,rfl,q2⟩
 ·exact d_in hu I2 (DGet.k (k:=k) g) ry λs3 I3=>⟨.bl (valV kvs k).isSome,H2,I3,rfl,q2⟩
end
section
variable [Kon] {Γ:List Slot} {α:Type} {r:Rp α} {ta tb:TE}
theorem ev_inDO {oi:Option (Option Int)} {o:Option (List (Int × α))} (hi:EV Γ ta oi (rOp rInt)) (hd:EV Γ tb o (rD r)):EV Γ (tDInO ta tb) (oi.bind λk=>o.bind λd=>some ((Pu.oX d k).isSome)) c6:=by
 intro C F σ H Q b S e k
 refine oq12 (a8 e) λi e1 e=>?_
 refine oq12 (a8 e) λd e2 e=>?_
 cases e
 refine hi C F σ H _ i S e1 λv F' H' x1 r1=>hd C F' σ H' _ d (S.grow x1) e2 λw F2 H2 x2 zq=>oq23 zq λp ws e4 h1 h2=>(oi23 p ws e4 (x2.sub _ _ h1) ?_)
 cases i with
 | none=>exact .inl ⟨r1,k _ F2 H2 (x1.trans x2) rfl⟩
 | some i =>
  have r1:v=.int i:=r1
  refine .inr (oi12 (.inl i) r1 ?_)
  refine oq02 (j4 (k:=i) h2) λg1 g2=>?_
  have eb:(valV ws (.inl i)).isSome=(Pu.oX d (some i)).isSome:=by
   show _=(Pu.find d i).isSome
   cases q:Pu.find d i with
   | none=>rw [g2 q]; rfl
   | some x=>refine oq12 (g1 x q) λv h3 h4=>?_; rw [h3]; rfl
  rw [eb]
  exact k _ F2 H2 (x1.trans x2) rfl
end
section
section
variable {α:Type}
theorem len1:∀ {us:List α},us.length=1->∃ a,us=[a]
 | [a],_=>⟨a,rfl⟩
theorem len2 {us:List α} (h:us.length=2):∃ a1 a2,us=[a1,a2]:=by
 cases us with
 | nil=>cases h
 | cons a us =>
  refine oq11 (len1 (Nat.succ.inj h)) λa2 eq1_=>?_; subst eq1_
  exact (oi21 a a2 rfl)
theorem len3 {us:List α} (h:us.length=3):∃ a1 a2 a3,us=[a1,a2,a3]:=by
 cases us with
 | nil=>cases h
 | cons a us =>
  refine oq21 (len2 (Nat.succ.inj h)) λa2 a3 eq2_=>?_; subst eq2_
  exact (oi31 a a2 a3 rfl)
end
variable [Kon]
end
end L2
namespace Tab
open PySem
structure Rise (t:V3):Prop where
 dum:t.dummies=#[]
 up:t.place.toList.Pairwise (·<·)
theorem kQ (f m:Nat) (l:Bool):Rise (.fresh f m l):=⟨rfl,.nil⟩
theorem cg (t:V3) (n:Nat):Rise (t.standIn n):=⟨rfl,by
 show (Array.range n).toList.Pairwise (·<·)
 rw [Array.toList_range]; exact List.pairwise_lt_range⟩
theorem gZ {xs:Array Nat} (up:xs.toList.Pairwise (·<·)) {i k:Nat} (hk:k<xs.size) (h:i<k):xs[i]'(nz8 h hk)<xs[k]:=by
 have:=M4.mp up i k (nz8 h hk) hk h
 simpa using this
theorem p6 {xs:Array Nat} {j:Nat} (up:xs.toList.Pairwise (·<·)):∀ (f lo hi:Nat),lo<=hi->hi<=xs.size->hi - lo<=f ->
  (∀ i (h:i<xs.size),i<lo->xs[i]<j)->(∀ i (h:i<xs.size),hi<=i->j<=xs[i]) ->
  T1.go xs j f lo hi<=xs.size/\(∀ i (h:i<xs.size),i<T1.go xs j f lo hi->xs[i]<j)/\∀ i (h:i<xs.size),T1.go xs j f lo hi<=i->j<=xs[i]:=by
 intro f
 induction f with
 | zero =>
  intro lo hi h1 h2 h3 a b
  have e:hi=lo:=T2 (Nat.sub_eq_zero_iff_le.mp (Nat.le_zero.mp h3)) h1
  subst e
  exact ⟨h2,a,b⟩
 | succ f ih =>
  intro lo hi h1 h2 h3 a b
  unfold T1.go
  by_cases hl:lo<hi
  ·rw [if_pos hl]
   have hm1:lo<=(lo+hi) / 2:=by omega
   have hm2:(lo+hi) / 2<hi:=by omega
   have hm:(lo+hi) / 2<xs.size:=nz1 hm2 h2
   have eg:xs.getD ((lo+hi) / 2) j=xs[(lo+hi) / 2]:=by simp [Array.getD,hm]
   simp only
   rw [eg]
   by_cases hc:xs[(lo+hi) / 2]<j
   ·rw [if_pos hc]
    refine ih _ _ hm2 h2 (by omega) (λi h hi'=>?_) b
    rcases Nat.lt_or_eq_of_le (G7 hi') with q | q
    ·exact nz8 (gZ up hm q) hc
    ·subst q; exact hc
   ·rw [if_neg hc]
    refine ih _ _ hm1 (nz5 hm) (by omega) a λi h hi'=>?_
    rcases Nat.lt_or_eq_of_le hi' with q | q
    ·exact nz4 (M9 hc) (nz5 (gZ up h q))
    ·subst q; exact M9 hc
  ·rw [if_neg hl]
   have e:hi=lo:=T2 (M9 hl) h1
   subst e
   exact ⟨h2,a,b⟩
theorem dG {xs:Array Nat} {j:Nat} (up:xs.toList.Pairwise (·<·)) :
  T1 xs j<=xs.size/\(∀ i (h:i<xs.size),i<T1 xs j->xs[i]<j)/\∀ i (h:i<xs.size),T1 xs j<=i->j<=xs[i] :=
 p6 up _ _ _ (U2 _) (nz6 _) (nz6 _) (λ_ _ h=>absurd h (K8 _)) λi h h'=>absurd h' (Nat.not_le.mpr h)
theorem kR {xs:Array Nat} (up:xs.toList.Pairwise (·<·)) {k:Nat} (hk:k<xs.size):T1 xs (xs[k]+1)=k+1:=by
 obtain ⟨h1,h2,h3⟩:=dG (j:=xs[k]+1) up
 rcases Nat.lt_trichotomy (T1 xs (xs[k]+1)) (k+1) with q | q | q
 ·exact absurd (h3 k hk (G7 q)) (Nat.not_succ_le_self _)
 ·exact q
 ·have hk':k+1<xs.size:=nz1 q h1
  exact absurd (h2 (k+1) hk' q) (U3.mpr (gZ up hk' (U1 k)))
theorem kT {xs:Array Nat} (up:xs.toList.Pairwise (·<·)):T1 xs 0=0:=by
 obtain ⟨h1,h2,_⟩:=dG (j:=0) up
 rcases Nat.eq_zero_or_pos (T1 xs 0) with q | q
 ·exact q
 ·exact absurd (h2 0 (nz1 q h1) q) (K8 _)
theorem j7 {xs:Array Nat} (h:xs=#[]) (j:Nat):V3.has xs j=false:=by subst h; rfl
theorem n8 {t:V3} {j:Nat} (r:Rise t) (h:t.slot j=.empty):∀ x∈t.place.toList,x≠j:=by
 rintro x hx rfl
 unfold V3.slot at h
 obtain ⟨k,hk,e⟩:=R8 hx
 have hk':k<t.place.size:=by simpa using hk
 have ek:t.place[k]=x:=by simpa using e
 obtain ⟨h1,h2,h3⟩:=dG (j:=x) r.up
 have eb:T1 t.place x=k:=by
  rcases Nat.lt_trichotomy (T1 t.place x) k with q | q | q
  ·have:=h3 _ (nz8 q hk') (nz6 _)
   exact absurd (nz2 this (gZ r.up hk' q)) (by rw [ek]; exact Q8 _)
  ·exact q
  ·exact absurd (h2 k hk' q) (by rw [ek]; exact Q8 _)
 simp only [eb] at h
 rw [if_pos (by rw [T0 hk',ek]; exact beq_self_eq_true _)] at h
 cases h
theorem kU {t:V3} (r:Rise t) (j:Nat):t.slot j≠.dummy:=by
 intro h
 unfold V3.slot at h
 simp only at h
 split at h
 ·cases h
 ·rw [j7 r.dum,if_neg Z8] at h; cases h
theorem p7 {t:V3} (r:Rise t) {f:Nat->Int} {h:Int}:∀ (n:Nat) (p:V3.Probe) {j:Nat} {d:Option Nat},p.dummy=none->V3.probe.go t f h n p=some (.empty j d)->t.slot j=.empty/\d=none:=by
 intro n
 induction n with
 | zero=>intro p j d _ e; cases e
 | succ n ih =>
  intro p j d hp e
  unfold V3.probe.go at e
  have adv:(t.advance p).dummy=none:=by
   unfold V3.advance
   split
   ·exact hp
   ·exact hp
  split at e
  ·rename_i q
   cases e
   exact ⟨q,hp⟩
  ·rename_i q
   exact absurd q (kU r _)
  ·split at e
   ·cases e
   ·exact ih _ adv e
theorem rB {t:V3} (r:Rise t) {h:Int} {x:Nat × Bool} (e:t.freeSlot h=some x):t.slot x.1=.empty/\x.2=false:=by
 unfold V3.freeSlot V3.probe at e
 split at e
 ·rename_i j d q
  obtain ⟨q1,q2⟩:=p7 r _ _ rfl q
  subst q2
  cases e
  exact ⟨q1,rfl⟩
 ·cases e
theorem p8 {t:V3} (r:Rise t) {j:Nat} (h:t.slot j=.empty):Rise (t.put j).1:=by
 refine ⟨?_,?_⟩
 ·unfold V3.put
  simp only
  rw [j7 r.dum,if_neg Z8]
  exact r.dum
 ·unfold V3.put
  simp only
  rw [V3.toList_insertAt,W7]
  obtain ⟨h1,h2,h3⟩:=dG (j:=j) r.up
  have ne:=n8 r h
  refine ⟨r.up.sublist (List.take_sublist _ _),List.pairwise_cons.mpr ⟨λx hx=>?_,r.up.sublist (List.drop_sublist _ _)⟩,λx hx y hy=>?_⟩
  ·obtain ⟨i,hi,e⟩:=R8 hx
   rw [List.getElem_drop] at e
   have hs:T1 t.place j+i<t.place.size:=by
    rw [O3,V9] at hi; omega
   have:=h3 _ hs (U6 _ _)
   have e':t.place[T1 t.place j+i]=x:=by simpa using e
   rw [e'] at this
   exact Nat.lt_of_le_of_ne this λz=>ne x (K0 hx) z.symm
  ·have hxj:x<j:=by
    obtain ⟨i,hi,e⟩:=R8 hx
    rw [List.getElem_take] at e
    rw [V7,V9] at hi
    have hs:i<t.place.size:=nz1 hi (Nat.min_le_right _ _)
    have:=h2 i hs (nz1 hi (B1 _ _))
    have e':t.place[i]=x:=by simpa using e
    rw [e'] at this; exact this
   rcases Y4.mp hy with q | q
   ·subst q; exact hxj
   ·obtain ⟨i,hi,e⟩:=R8 q
    rw [List.getElem_drop] at e
    have hs:T1 t.place j+i<t.place.size:=by
     rw [O3,V9] at hi; omega
    have:=h3 _ hs (U6 _ _)
    have e':t.place[T1 t.place j+i]=y:=by simpa using e
    rw [e'] at this
    exact nz1 hxj this
theorem jU {t:V3} (r:Rise t) (es:Array (Int × Value)) (h:Int) (x:Value):Rise (layNew t es h x).2.1/\(layNew t es h x).2.1.led=t.led:=by
 unfold layNew
 split
 ·rename_i sl wd q
  obtain ⟨q1,_⟩:=rB r q
  simp only
  unfold V3.orStandIn
  split
  ·exact ⟨p8 r q1,rfl⟩
  ·exact ⟨cg _ _,rfl⟩
 ·exact ⟨cg _ _,rfl⟩
theorem ng {m f v:Nat} {l p:Bool} {hs:Array Int} {x:V3 × Array Nat} (e:V3.laid m f v l p hs=some x):Rise x.1/\x.1.led=l:=by
 unfold V3.laid at e
 cases q:V3.layClean m hs with
 | none=>rw [q] at e; cases e
 | some o =>
  rw [q] at e
  cases e
  refine ⟨⟨rfl,?_⟩,rfl⟩
  simp only
  rw [F6]
  refine List.Pairwise.filterMap _ (λa a' h b hb b' hb'=>?_) (List.pairwise_lt_range (n:=m+1))
  cases q1:o.getD a none with
  | none=>rw [q1] at hb; cases hb
  | some u=>cases q2:o.getD a' none with
   | none=>rw [q2] at hb'; cases hb'
   | some u' =>
    rw [q1] at hb; rw [q2] at hb'
    cases hb; cases hb'
    exact h
theorem kX {t:V3} (es:Array (Int × Value)) (n:Nat):Rise (relayAll t es n).2.1/\(relayAll t es n).2.1.led=t.led:=by
 unfold relayAll
 split
 ·rename_i t' o q
  simp only
  split
  ·obtain ⟨q1,q2⟩:=ng q
   exact ⟨q1,q2⟩
  ·exact ⟨cg _ _,rfl⟩
 ·exact ⟨cg _ _,rfl⟩
theorem gj {α:Type} {l:List α} {i:Nat} (h:i<l.length):(l[i] :: l.eraseIdx i).Perm l:=by
 rw [List.eraseIdx_eq_take_drop_succ]
 exact List.perm_middle.symm.trans (by rw [<- O7 h,W0])
theorem rC {α:Type} (next:Nat->Nat):∀ (n k:Nat) (left:List α) (out:Array α),left.length=n->(pickOrder.go next n k left out).toList.Perm (out.toList++left):=by
 intro n
 induction n with
 | zero =>
  intro k left out h
  rw [List.length_eq_zero_iff.mp h,V6]
  exact .rfl
 | succ n ih =>
  intro k left out h
  unfold pickOrder.go
  have hl:next k % left.length<left.length:=Nat.mod_lt _ (by rw [h]; exact Nat.succ_pos n)
  rw [Z9 hl]
  simp only
  refine (ih (k+1) _ _ (by rw [List.length_eraseIdx_of_lt hl,h]; rfl)).trans ?_
  rw [Array.toList_push,Y9,List.singleton_append]
  exact (gj hl).append_left _
theorem ni {α:Type} (next:Nat->Nat) (xs:Array α):(pickOrder next xs).toList.Perm xs.toList:=by
 have:=rC next xs.size 0 xs.toList #[] (by simp)
 unfold pickOrder
 simpa using this
noncomputable def bW:Value->Int
 | .int n _=>n
 | _=>0
structure SetW (prog:W5) (w:World) (o:Obj) (es:Array (Int × Value)) (ep:Nat) (t:V3) (ks:List Int):Prop where
 ex:o.ExactSet
 dat:o.data=.set es ep t
 el:ElemsOf (intKind prog w) es.toList
 pm:(es.toList.map λe=>bW e.2).Perm ks
 sz:es.size<scanBound
 fit:t.fits es.size=true
 led:t.led=!w.params.followText "set-order"
 ris:Rise t
def cZ (prog:W5) (w:World) (h:Heap) (a:Addr) (ks:List Int):Prop:=∃ o es ep t,h.get? a=some o/\SetW prog w o es ep t ks
section
variable {prog:W5} {w:World} {A:Around} {E:Value->Shared->Prop} {s:Shared} {a:Addr} {ks:List Int} {v:Int} {u:Tok}
theorem cZ.stay {h h':Heap} (x:cZ prog w h a ks) (k:∀ o,h.get? a=some o->h'.get? a=some o):cZ prog w h' a ks :=
 let ⟨o,es,ep,t,h1,h2⟩:=x; ⟨o,es,ep,t,k o h1,h2⟩
theorem lP {e:Int × Value} {es:List (Int × Value)} (h:ElemsOf (intKind prog w) es) (he:e∈es):∃ n x,e.2=.int n x:=by
 obtain ⟨⟨k,h1,_⟩,_⟩:=h e he
 obtain ⟨x,e1⟩:=Value.isInt_shape h1
 exact ⟨k,x,e1⟩
theorem zt_mem_of {es:List (Int × Value)} (h:ElemsOf (intKind prog w) es) (k:Int):(∃ e∈es,(intKind prog w).is k e.2=true)↔k∈es.map λe=>bW e.2:=by
 rw [Q4]
 refine exists_congr λe=>and_congr_right λhe=>?_
 obtain ⟨n,x,q⟩:=lP h he
 rw [q]
 show (A5 k (.int n x)=true)↔n=k
 simp [A5]
theorem lQ {h:Heap} {o:Obj} {es es':Array (Int × Value)} {ep:Nat} {t t':V3} {ls:List Int} (ho:h.get? a=some o) (x:SetW prog w o es ep t ks)
  (el:ElemsOf (intKind prog w) es'.toList) (pm:(es'.toList.map λe=>bW e.2).Perm ls) (sz:es'.size<scanBound) (fit:t'.fits es'.size=true) (led:t'.led=t.led) (r:Rise t') :
  (h.update a (Obj.putSet es' t')).get? a=some { o with data:=.set es' (ep+1) t' }/\SetW prog w { o with data:=.set es' (ep+1) t' } es' (ep+1) t' ls:=by
 have e:=putSet_of es' t' x.dat
 have g:=Q9 (Obj.putSet es' t') ho (by rw [e]; rfl)
 rw [e] at g
 exact ⟨g,x.ex,rfl,el,pm,sz,fit,led.trans x.led,r⟩
theorem jV {b:Bool} {tag:String} {Q:Unit->Shared->Prop} (h:Q () s):wpAny (model prog w) A (match b with | true=>rule tag | false=>pure ()) Q E s:=by
 cases b
 ·exact Y0 h
 ·exact C3 h
theorem rE {Q:Bool->Shared->Prop} (x:cZ prog w s.heap a ks) (room:ks.length+1<scanBound)
  (q:∀ h' b,S8 a s.heap h'->cZ prog w h' a (Pu.dedS ks v)->Q b { s with heap:=h' }):wpAny (model prog w) A (setAddHashed a (.int v u) (hashInt v)) Q E s:=by
 obtain ⟨o,es,ep,t,ho,W⟩:=x
 have hv:(intKind prog w).is v (.int v u)=true:=by show A5 v (.int v u)=true; simp [A5]
 have any:(ks.any (· == v)=true)↔∃ e∈es.toList,(intKind prog w).is v e.2=true:=by
  rw [zt_mem_of W.el,W.pm.mem_iff]; simp
 unfold setAddHashed setAddHashedIn
 refine Q0 (Z0 (F9 ho W.dat W.fit ?_))
 dsimp only
 rw [byScan_of (knd:=intKind prog w) rfl W.sz W.el,if_pos rfl]
 unfold setAddByScan
 refine Z0 (Z0 (C3 (Z0 (wpAny_setScan_of (knd:=intKind prog w) hv ho W.dat W.fit W.el ?_))))
 cases hr:es.toList.findIdx? (λe=>(intKind prog w).is v e.2) with
 | some j =>
  obtain ⟨hj,hp,_⟩:=List.findIdx?_eq_some_iff_getElem.mp hr
  have e:Pu.dedS ks v=ks:=by unfold Pu.dedS; rw [if_pos (any.mpr ⟨_,J3 hj,hp⟩)]
  have:=q s.heap false (S8.refl a s.heap) (by rw [e]; exact ⟨o,es,ep,t,ho,W⟩)
  exact Y0 (Y0 this)
 | none =>
  have e:Pu.dedS ks v=ks++[v]:=by
   unfold Pu.dedS
   rw [if_neg]
   rw [any]
   rintro ⟨z,hz,hp⟩
   have:=List.findIdx?_eq_none_iff.mp hr z hz
   rw [hp] at this; cases this
  rw [e] at q
  dsimp only
  have p1:=layNew_perm t es (hashInt v) (.int v u)
  have f1:=layNew_fits t es (hashInt v) (.int v u)
  obtain ⟨r1,l1⟩:=jU W.ris es (hashInt v) (.int v u)
  generalize layNew t es (hashInt v) (.int v u)=L at p1 f1 r1 l1 ⊢
  obtain ⟨es1,t1,wd,gv⟩:=L
  dsimp only at p1 f1 r1 l1 ⊢
  rw [Array.toList_push] at p1
  have el1:ElemsOf (intKind prog w) es1.toList:=(W.el.push (k:=v) hv rfl).perm p1
  have pm1:(es1.toList.map λe=>bW e.2).Perm (ks++[v]):=by
   have:=p1.map λe=>bW e.2
   rw [T3] at this
   exact this.trans (W.pm.append_right _)
  have len1:es1.size=ks.length+1:=by
   have:=pm1.length_eq
   rwa [Y3,Y8,V9] at this
  have sz1:es1.size<scanBound:=by rw [len1]; exact room
  refine Z0 (jV ?_)
  split
  rotate_left
  all_goals
   try rw [hashByValue_scannable 8 rfl]
   refine Z0 (Y0 ?_)
   simp only [plainKind,if_true]
   obtain ⟨g1,W1⟩:=lQ ho W el1 pm1 sz1 f1 l1 r1
   refine Z0 (wpAny_storeSet_of ho W.dat ?_ (fits_of_scanBound sz1))
   have k1:=Q3 s.heap a (Obj.putSet es1 t1)
   split
   ·have p2:=relayAll_perm t1 es1 (V3.grown es1.size)
    have f2:=relayAll_fits t1 es1 (V3.grown es1.size)
    obtain ⟨r2,l2⟩:=kX (t:=t1) es1 (V3.grown es1.size)
    generalize relayAll t1 es1 (V3.grown es1.size)=L at p2 f2 r2 l2 ⊢
    obtain ⟨es2,t2,gw⟩:=L
    dsimp only at p2 f2 r2 l2 ⊢
    have len2:es2.size=es1.size:=by rw [<- V9,p2.length_eq,V9]
    have sz2:es2.size<scanBound:=by rw [len2]; exact sz1
    obtain ⟨g2,W2⟩:=lQ g1 W1 (el1.perm p2) ((p2.map λe=>bW e.2).trans pm1) sz2 f2 l2 r2
    refine Z0 (jV ?_)
    refine Z0 (wpAny_storeSet_of g1 rfl ?_ (fits_of_scanBound sz2))
    exact Y0 (Y0 (q _ _ (k1.trans (Q3 _ a _)) ⟨_,_,_,_,g2,W2⟩))
   ·exact Y0 (Y0 (q _ _ k1 ⟨_,_,_,_,g1,W1⟩))
end
theorem aY:Slot "set_iterator" "__next__" "set_iterator.__next__":=.of (owner:="set_iterator") (n:="__next__") (by rw [typeLookup_type,builtinLookup_eq_fast]; kernel_rfl) (by decide +kernel) (by decide +kernel) (by decide +kernel) (by first | exact .inl (by decide +kernel) | exact .inr (by decide +kernel)) (by rw [isSubtype_type]; kernel_rfl)
theorem jW:Slot "set_iterator" "__iter__" "set_iterator.__iter__":=.of (owner:="set_iterator") (n:="__iter__") (by rw [typeLookup_type,builtinLookup_eq_fast]; kernel_rfl) (by decide +kernel) (by decide +kernel) (by decide +kernel) (by first | exact .inl (by decide +kernel) | exact .inr (by decide +kernel)) (by rw [isSubtype_type]; kernel_rfl)
theorem eS:entryFor table "set_iterator.__next__"=some R0.«set_iterator.__next__»:=entryFor_of_tree (by kernel_rfl)
theorem rG:entryFor table "set_iterator.__iter__"=some R0.«dict_keyiterator.__iter__»:=entryFor_alias (id':="dict_keyiterator.__iter__") (by kernel_rfl) rfl (by decide +kernel) (by kernel_rfl)
theorem rH:entryFor table "set.__iter__"=some R0.«frozenset.__iter__»:=entryFor_alias (id':="frozenset.__iter__") (by kernel_rfl) rfl (by decide +kernel) (by kernel_rfl)
theorem p9:Manifest.owners.lookup (String.ofList ['r','o','t','a','r','e','t','i','_','t','e','s'].reverse)=some Manifest.sig_set_iterator:=by kernel_rfl
theorem eT (a:Value):argsOk "set_iterator.__next__" ⟨[a],[]⟩:=by
 unfold argsOk; rw [signature?_of (id:="set_iterator.__next__") (n:=['_','_','t','x','e','n','_','_']) (o:=['r','o','t','a','r','e','t','i','_','t','e','s']) (by kernel_rfl) p9]; kernel_rfl
theorem rJ (a:Value):argsOk "set_iterator.__iter__" ⟨[a],[]⟩:=by
 unfold argsOk; rw [signature?_of (id:="set_iterator.__iter__") (n:=['_','_','r','e','t','i','_','_']) (o:=['r','o','t','a','r','e','t','i','_','t','e','s']) (by kernel_rfl) p9]; kernel_rfl
def cz (h:Heap) (I a:Addr) (f0:Value) (i n ep:Nat):Prop:=∃ o,h.get? I=some o/\o.cls=.type "set_iterator"/\o.data=.fields #[f0,.int i 0,.ref a,.int n 0,.int ep 0]
section
variable {prog:W5} {w:World} {A:Around} {E:Value->Shared->Prop} {s:Shared} {a I:Addr} {ks:List Int} {o:Obj} {es:Array (Int × Value)} {ep i n:Nat} {t:V3} {f0:Value}
theorem cz.ty (x:cz s.heap I a f0 i n ep):s.TypeIs (.ref I) "set_iterator":=let ⟨o,h1,h2,_⟩:=x; ⟨o,h1,h2⟩
theorem cz.stay {h h':Heap} (x:cz h I a f0 i n ep) (k:∀ o,h.get? I=some o->h'.get? I=some o):cz h' I a f0 i n ep:=let ⟨o,h1,h2⟩:=x; ⟨o,k o h1,h2⟩
theorem jX {Q:Value->Shared->Prop} (x:cz s.heap I a f0 i n ep) (q:Q (.ref I) s):wpAny (model prog w) A (pyIter (.ref I)) Q E s:=by
 refine wpAny_pyIter_slot x.ty jW (N8 jW x.ty rG ?_ (rJ _))
 show wpAny _ _ (ret (.ref I)) _ _ s
 exact Y0 ⟨_,rfl,_,_,x.ty,aY.lookup,q⟩
noncomputable def db (prog:W5) (w:World) (a:Addr) (slot i ep:Nat) (r:Option (Value × Nat)) (s:Shared):Prop :=
 ∀ (A:Around) (E:Value->Shared->Prop) (Q:Option (Value × Nat)->Shared->Prop),Q r s->wpAny (model prog w) A (setNext a slot i ep) Q E s
theorem rK {slot nx:Nat} {x:Value} {Q:Option Value->Shared->Prop} (y:cz s.heap I a (.int slot 0) i n ep) (ho:s.heap.get? a=some o) (W:SetW prog w o es ep t ks) (hn:es.size=n)
  (nxt:db prog w a slot i ep (some (x,nx)) s) (q:∀ h',cz h' I a (.int nx 0) (i+1) n ep->S8 I s.heap h'->Q (some x) { s with heap:=h' }):wpAny (model prog w) A (pyNext (.ref I)) Q E s:=by
 obtain ⟨ob,h1,h2,h3⟩:=id y
 unfold pyNext
 refine Z0 (wpAny_attempt (D5 (name:=F7 "__next__") y.ty aY (N8 aY y.ty eS ?_ (eT _))))
 show wpAny _ _ (fieldsOf (.ref I) >>= _) _ _ s
 refine Z0 (wpAny_fieldsOf h1 h3 ?_)
 show wpAny _ _ (setEntries a >>= _) _ _ s
 refine Z0 (E8 ho W.dat W.fit ?_)
 rw [if_neg (by rw [hn]; simp)]
 show wpAny _ _ (setNext a slot i ep >>= _) _ _ s
 refine Z0 (nxt _ _ _ ?_)
 dsimp only
 refine Z0 (wpAny_setField h1 h3 (by simp) ?_)
 have u1:=Q9 (Obj.mapFields (·.setIfInBounds 0 (rawInt nx))) h1 (B8 (N4 h3 _))
 have d1:=N4 h3 (·.setIfInBounds 0 (rawInt nx))
 refine Z0 (wpAny_setField u1 d1 (by simp) (Y0 ⟨x,rfl,Y0 (q _ ?_ ((Q3 ..).trans (Q3 ..)))⟩))
 exact ⟨_,Q9 _ u1 (B8 (N4 d1 _)),(Obj.cls_mapFields ..).trans ((Obj.cls_mapFields ..).trans h2),by rw [N4 d1]; simp [rawInt]⟩
theorem jY {Q:Option Value->Shared->Prop} {C:Sem PySem.Fin} (hh:A.handled=none) (hC:C=newExc (.type "StopIteration") [] >>= λe=>raiseNew e) (q:∀ h',(∀ b o,s.heap.get? b=some o->h'.get? b=some o)->Q none { s with heap:=h' }) :
  wpAny (model prog w) A.in1 C (λ_ _=>False) (λe s'=>wpAny (model prog w) A (isInstance e (.type "StopIteration") >>= λb=>if b=true then pure none else throw e) Q E s') s:=by
 subst hC
 refine Z0 ?_
 unfold newExc newTuple
 refine Z0 (K5 ?_ (by size_fits))
 refine Z0 (m:=firstArgMember _ _) (wpAny_of_eq (a:=.none) (by first | rfl | (unfold firstArgMember; rfl)) (K5 ?_ (by size_fits)))
 unfold raiseNew
 refine Z0 (wpAny_handled ?_)
 rw [show A.in1.handled=none from hh]
 refine Z0 (Y0 (wpAny_throw (Z0 ?_)))
 refine wpAny_isInstance (b:=true) (T:="StopIteration") ⟨_,X4 _ rfl,rfl⟩ isSubtype_stop ?_
 exact Y0 (q _ λb o e=>Z5 _ (Z5 _ e))
theorem zt_end_it {slot:Nat} {Q:Option Value->Shared->Prop} (hh:A.handled=none) (y:cz s.heap I a (.int slot 0) i n ep) (ho:s.heap.get? a=some o) (W:SetW prog w o es ep t ks) (hn:es.size=n)
  (nxt:db prog w a slot i ep none s) (q:∀ h',(∀ b o,b≠I->s.heap.get? b=some o->h'.get? b=some o)->Q none { s with heap:=h' }):wpAny (model prog w) A (pyNext (.ref I)) Q E s:=by
 obtain ⟨ob,h1,h2,h3⟩:=id y
 unfold pyNext
 refine Z0 (wpAny_attempt (D5 (name:=F7 "__next__") y.ty aY (N8 aY y.ty eS ?_ (eT _))))
 show wpAny _ _ (fieldsOf (.ref I) >>= _) _ _ s
 refine Z0 (wpAny_fieldsOf h1 h3 ?_)
 show wpAny _ _ (setEntries a >>= _) _ _ s
 refine Z0 (E8 ho W.dat W.fit ?_)
 rw [if_neg (by rw [hn]; simp)]
 show wpAny _ _ (setNext a slot i ep >>= _) _ _ s
 refine Z0 (nxt _ _ _ ?_)
 dsimp only
 refine Z0 (wpAny_setField h1 h3 (by simp) ?_)
 refine T4 (jY (s:={ s with heap:=s.heap.update I (Obj.mapFields (·.setIfInBounds 2 .none)) }) (Q:=Q) (E:=E) hh rfl λh' k=>q h' λb o' hb e=>k b o' ((Q3 s.heap I _).extBut b o' hb e)) (λ_ _ z=>z.elim) λe s' z=>?_
 exact z
theorem rN {T:Addr} {oT:Obj} {ps:Array Value} {m:Nat} {x:Int × Value} {p:Nat} {tk:Tok} {Q:Option Value->Shared->Prop} (y:cz s.heap I a (.ref T) i n ep) (ho:s.heap.get? a=some o) (W:SetW prog w o es ep t ks) (hn:es.size=n)
  (hT:s.heap.get? T=some oT) (dT:oT.data=.seq ps m) (hp:ps[i]?=some (.int p tk)) (hx:es[p]?=some x) (q:∀ h',cz h' I a (.ref T) (i+1) n ep->S8 I s.heap h'->Q (some x.2) { s with heap:=h' }):wpAny (model prog w) A (pyNext (.ref I)) Q E s:=by
 obtain ⟨ob,h1,h2,h3⟩:=id y
 unfold pyNext
 refine Z0 (wpAny_attempt (D5 (name:=F7 "__next__") y.ty aY (N8 aY y.ty eS ?_ (eT _))))
 show wpAny _ _ (fieldsOf (.ref I) >>= _) _ _ s
 refine Z0 (wpAny_fieldsOf h1 h3 ?_)
 show wpAny _ _ (setEntries a >>= _) _ _ s
 refine Z0 (E8 ho W.dat W.fit ?_)
 rw [if_neg (by rw [hn]; simp)]
 show wpAny _ _ (seqItems? (.ref T) >>= _) _ _ s
 refine Z0 (wpAny_seqItems hT dT ?_)
 simp only [U5,hp]
 refine Z0 ?_
 unfold setNextDrawn
 refine Z0 (F9 ho W.dat W.fit ?_)
 dsimp only
 rw [if_neg (by simp),hx]
 refine Y0 ?_
 refine Z0 (wpAny_setField h1 h3 (by simp) (Y0 ⟨_,rfl,Y0 (q _ ?_ (Q3 ..))⟩))
 exact ⟨_,Q9 _ h1 (B8 (N4 h3 _)),(Obj.cls_mapFields ..).trans h2,by rw [N4 h3]; simp [rawInt]⟩
theorem zt_end_tu {T:Addr} {oT:Obj} {ps:Array Value} {m:Nat} {Q:Option Value->Shared->Prop} (hh:A.handled=none) (y:cz s.heap I a (.ref T) i n ep) (ho:s.heap.get? a=some o) (W:SetW prog w o es ep t ks) (hn:es.size=n)
  (hT:s.heap.get? T=some oT) (dT:oT.data=.seq ps m) (hp:ps[i]?=none) (q:∀ h',(∀ b o,b≠I->s.heap.get? b=some o->h'.get? b=some o)->Q none { s with heap:=h' }):wpAny (model prog w) A (pyNext (.ref I)) Q E s:=by
 obtain ⟨ob,h1,h2,h3⟩:=id y
 unfold pyNext
 refine Z0 (wpAny_attempt (D5 (name:=F7 "__next__") y.ty aY (N8 aY y.ty eS ?_ (eT _))))
 show wpAny _ _ (fieldsOf (.ref I) >>= _) _ _ s
 refine Z0 (wpAny_fieldsOf h1 h3 ?_)
 show wpAny _ _ (setEntries a >>= _) _ _ s
 refine Z0 (E8 ho W.dat W.fit ?_)
 rw [if_neg (by rw [hn]; simp)]
 show wpAny _ _ (seqItems? (.ref T) >>= _) _ _ s
 refine Z0 (wpAny_seqItems hT dT ?_)
 simp only [U5,hp]
 refine Z0 (wpAny_setField h1 h3 (by simp) ?_)
 have u1:=Q9 (Obj.mapFields (·.setIfInBounds 0 (rawInt 0))) h1 (B8 (N4 h3 _))
 have d1:=N4 h3 (·.setIfInBounds 0 (rawInt 0))
 refine Z0 (wpAny_setField u1 d1 (by simp) ?_)
 refine T4 (jY (s:={ s with heap:=(s.heap.update I (Obj.mapFields (·.setIfInBounds 0 (rawInt 0)))).update I (Obj.mapFields (·.setIfInBounds 2 .none)) }) (Q:=Q) (E:=E) hh rfl λh' k=>q h' λb o' hb e=>k b o' (((Q3 s.heap I _).trans (Q3 _ I _)).extBut b o' hb e)) (λ_ _ z=>z.elim) λe s' z=>?_
 exact z
end
section
variable {prog:W5} {w:World} {A:Around} {E:Value->Shared->Prop} {s:Shared} {a I:Addr} {ks:List Int} {o:Obj} {es:Array (Int × Value)} {ep i n:Nat} {t:V3}
theorem eU {Q:Bool->Shared->Prop} (q:Q (w.params.followText "set-order") s):wpAny (model prog w) A setsByText Q E s:=by
 unfold setsByText
 exact Z0 (wpAny_askSetting (Y0 q))
theorem rO {slot:Nat} (ho:s.heap.get? a=some o) (W:SetW prog w o es ep t ks) (hb:w.params.followText "set-order"=true) :
  db prog w a slot i ep (((pickOrder (w.params.setOrder a ep) es)[i]?).map λe=>(e.2,slot)) s:=by
 intro A E Q q
 unfold setNext
 refine Z0 (F9 ho W.dat W.fit ?_)
 dsimp only
 refine Z0 (eU ?_)
 rw [hb,if_pos rfl,if_neg (by simp)]
 refine Z0 ?_
 unfold setWalk
 refine Z0 (F9 ho W.dat W.fit ?_)
 dsimp only
 refine Z0 (eU ?_)
 rw [hb,if_pos rfl]
 exact Z0 (wpAny_askSetting (Y0 (Y0 q)))
theorem rQ {slot:Nat} (ho:s.heap.get? a=some o) (W:SetW prog w o es ep t ks) (hb:w.params.followText "set-order"=false) (hp:(!t.plain && decide (es.size > 1))=false) (hk:T1 t.place slot=i) (hi:i<=es.size) :
  db prog w a slot i ep ((es[i]?).map λe=>(e.2,t.place.getD i 0+1)) s:=by
 intro A E Q q
 have hl:t.led=true:=by rw [W.led,hb]; rfl
 have sz:t.place.size=es.size:=by
  have:=W.fit
  unfold V3.fits at this
  simp only [Bool.and_eq_true,beq_iff_eq] at this
  exact this.1
 unfold setNext
 refine Z0 (F9 ho W.dat W.fit ?_)
 dsimp only
 refine Z0 (eU ?_)
 rw [hb,if_neg Z8]
 show wpAny _ _ (if (!t.plain && decide (es.size > 1))=true then _ else _) _ _ _
 rw [hp,if_neg Z8]
 show wpAny _ _ ((if (!t.led && !es.isEmpty)=true then _ else _) >>= _) _ _ _
 rw [hl,if_neg (by simp)]
 refine Z0 (Y0 ?_)
 refine Y0 ?_
 rw [hk]
 rcases Nat.lt_or_eq_of_le hi with z | z
 ·have z':i<t.place.size:=by rw [sz]; exact z
  have g:t.place.getD i 0=t.place[i]:=by simp [Array.getD,z']
  rw [g] at q
  rw [T0 z] at q ⊢
  rw [T0 z']
  exact q
 ·subst z
  rw [C4 (nz6 _)] at q ⊢
  exact q
def rR (ord:Array (Int × Value)) (i:Nat) (v:Value):Prop:=∃ e,ord[i]?=some e/\v=e.2
theorem pc (hh:A.handled=none) (hne:a≠I) (W:SetW prog w o es ep t ks) (sl:Nat->Nat) (ord:Array (Int × Value)) (hs:ord.size=es.size)
  (nx:∀ i (s:Shared),i<=es.size->s.heap.get? a=some o->db prog w a (sl i) i ep (ord[i]?.map λe=>(e.2,sl (i+1))) s) :
  WalksS prog w A I [I,a] [I] (λx y=>y=x) es.size (rR ord) (λi s=>cz s.heap I a (.int (sl i) 0) i es.size ep/\s.heap.get? a=some o) where
 sub:=λb hb=>by rw [Y6.mp hb]; exact W6
 grefl:=λ_=>rfl
 gtrans:=λ_ _ _ h1 h2=>h2.trans h1
 frame:=λi s h' _ st _ k=>⟨st.1.stay λo e=>k I W6 o e,k a (X6 _ W6) _ st.2⟩
 item:=λi s Q E hi st hQ=>by
  have hi':i<ord.size:=by rw [hs]; exact hi
  have:=nx i s (nz5 hi) st.2
  rw [T0 hi',Option.map_some] at this
  refine rK st.1 st.2 W rfl this λh' y k=>hQ _ _ ⟨_,T0 hi',rfl⟩ ⟨y,k.extBut _ _ hne st.2⟩ ⟨λb o' hb e=>k.extBut b o' (λz=>hb (by rw [z]; exact Y6.mpr rfl)) e,rfl,rfl,rfl,nz6 _⟩
 done:=λs Q E st hQ=>by
  have:=nx es.size s (nz6 _) st.2
  rw [C4 (nz3 hs),Option.map_none] at this
  exact zt_end_it hh st.1 st.2 W rfl this λh' k=>hQ _ ⟨λb o' hb e=>k b o' (λz=>hb (by rw [z]; exact Y6.mpr rfl)) e,rfl,rfl,rfl,nz6 _⟩
 self:=λi s Q E st q=>jX st.1 q
theorem rS {T:Addr} {oT:Obj} {ps:List Nat} {m:Nat} (hh:A.handled=none) (hne:a≠I) (hnT:T≠I) (W:SetW prog w o es ep t ks) (ord:Array (Int × Value)) (hs:ord.size=es.size) (dT:oT.data=.seq (ps.map λ(p:Nat)=>rawInt p).toArray m) (hps:ps.length=es.size)
  (hord:∀ i (h:i<ps.length),es[ps[i]]?=ord[i]?) :
  WalksS prog w A I [I,a,T] [I] (λx y=>y=x) es.size (rR ord) (λi s=>cz s.heap I a (.ref T) i es.size ep/\s.heap.get? a=some o/\s.heap.get? T=some oT) where
 sub:=λb hb=>by rw [Y6.mp hb]; exact W6
 grefl:=λ_=>rfl
 gtrans:=λ_ _ _ h1 h2=>h2.trans h1
 frame:=λi s h' _ st _ k=>⟨st.1.stay λo e=>k I W6 o e,k a (X6 _ W6) _ st.2.1,k T (X6 _ (X6 _ W6)) _ st.2.2⟩
 item:=λi s Q E hi st hQ=>by
  have hi':i<ord.size:=by rw [hs]; exact hi
  have hi2:i<ps.length:=by rw [hps]; exact hi
  have e1:(ps.map λ(p:Nat)=>rawInt p).toArray[i]?=some (.int (ps[i]:Nat) 0):=by
   rw [R6,X2,Z9 hi2]; rfl
  refine rN (x:=ord[i]) st.1 st.2.1 W rfl st.2.2 dT e1 ((hord i hi2).trans (T0 hi')) λh' y k=>hQ _ _ ⟨_,T0 hi',rfl⟩ ⟨y,k.extBut _ _ hne st.2.1,k.extBut _ _ hnT st.2.2⟩ ⟨λb o' hb e=>k.extBut b o' (λz=>hb (by rw [z]; exact Y6.mpr rfl)) e,rfl,rfl,rfl,nz6 _⟩
 done:=λs Q E st hQ=>by
  refine zt_end_tu hh st.1 st.2.1 W rfl st.2.2 dT ?_ λh' k=>hQ _ ⟨λb o' hb e=>k b o' (λz=>hb (by rw [z]; exact Y6.mpr rfl)) e,rfl,rfl,rfl,nz6 _⟩
  rw [R6,M6 (by rw [Y3,hps]; exact nz6 _)]
 self:=λi s Q E st q=>jX st.1 q
theorem pe {src:Source} {Q:Nat->Shared->Prop} (hn:n≠0) (q:∀ i d',i<n->Q i { s with drawn:=d' }):wpAny (model prog w) A (choose src n) Q E s:=by
 intro Γ p _
 unfold choose
 rw [Sem.wp_choose]
 exact ⟨hn,q _ _ (Nat.mod_lt _ (Nat.pos_of_ne_zero hn))⟩
theorem pf {α:Type}:∀ (n:Nat) (xs:List α) (s:Shared) {Q:List α->Shared->Prop},xs.length=n->(∀ ys d',ys.Perm xs->Q ys { s with drawn:=d' })->wpAny (model prog w) A (drawOrder n xs) Q E s:=by
 intro n
 induction n with
 | zero =>
  intro xs s Q h q
  unfold drawOrder
  exact Y0 (q [] s.drawn (by rw [List.length_eq_zero_iff.mp h]))
 | succ n ih =>
  intro xs s Q h q
  cases xs with
  | nil=>cases h
  | cons x xs =>
   unfold drawOrder
   refine Z0 (pe (by rw [h]; exact Nat.succ_ne_zero n) λi d' hi=>?_)
   rw [Z9 hi]
   dsimp only
   refine Z0 (ih _ _ (by rw [List.length_eraseIdx_of_lt hi,h]; rfl) λys d2 hy=>?_)
   exact Y0 (q _ _ ((hy.cons _).trans (gj hi)))
theorem pj {α:Type} [Inhabited α] {es:Array α}:∀ {ps:List Nat},(∀ p∈ps,p<es.size)->ps.filterMap (λp=>es[p]?)=ps.map λp=>es.getD p default
 | [],_=>rfl
 | p :: ps,h=>by
  have hp:p<es.size:=h p W6
  rw [List.filterMap_cons_some (T0 hp),V0,pj λq hq=>h q (X6 _ hq)]
  simp [Array.getD,hp]
theorem pA {Q:Value->Shared->Prop} (hh:A.handled=none) (x:cZ prog w s.heap a ks)
  (q:∀ h' d' I fp ord St,(∀ b o,s.heap.get? b=some o->h'.get? b=some o)->s.heap.objs.size<=I->(∀ b∈fp,b=a\/s.heap.objs.size<=b)->WalksS prog w A I fp [I] (λx y=>y=x) ks.length (rR ord) St->St 0 { s with heap:=h',drawn:=d' } ->
   ord.size=ks.length->(∀ e∈ord.toList,∃ n u,e.2=.int n u)->(ord.toList.map λe=>bW e.2).Perm ks->Q (.ref I) { s with heap:=h',drawn:=d' }) :
  wpAny (model prog w) A (pyIter (.ref a)) Q E s:=by
 obtain ⟨o,es,ep,t,ho,W⟩:=x
 have hT:s.TypeIs (.ref a) "set":=⟨o,ho,W.ex.1⟩
 have hal:a<s.heap.objs.size:=X5 ho
 have len:es.size=ks.length:=by
  have:=W.pm.length_eq
  rwa [Y3,V9] at this
 refine wpAny_pyIter_slot hT F.slot_set_iter (N8 F.slot_set_iter hT rH ?_ (F.args_set_iter_1 _))
 unfold R0.«frozenset.__iter__»
 refine Z0 (m:=R0.Frozenset.slot0 _ _) (Y0 ?_)
 refine Z0 (m:=R0.Frozenset.sizeOf _) (Z0 (E8 ho W.dat W.fit (Y0 ?_)))
 refine Z0 (m:=setDrawn _) ?_
 unfold setDrawn
 refine Z0 (F9 ho W.dat W.fit ?_)
 dsimp only
 refine Z0 (eU (Y0 ?_))
 have zIs:∀ {l:Array (Int × Value)},l.toList.Perm es.toList->∀ e∈l.toList,∃ n u,e.2=.int n u:=λp e he=>lP W.el (p.mem_iff.mp he)
 have pks:∀ {l:Array (Int × Value)},l.toList.Perm es.toList->(l.toList.map λe=>bW e.2).Perm ks:=λp=>(p.map _).trans W.pm
 have lks:∀ {l:Array (Int × Value)},l.toList.Perm es.toList->l.size=es.size:=λp=>by rw [<- V9,p.length_eq,V9]
 have plainly:∀ (sl:Nat->Nat) (ord:Array (Int × Value)),sl 0=0->ord.toList.Perm es.toList ->
   (∀ i (s:Shared),i<=es.size->s.heap.get? a=some o->db prog w a (sl i) i ep (ord[i]?.map λe=>(e.2,sl (i+1))) s) ->
   Q (.ref s.heap.objs.size) { s with heap:=s.heap.push { cls:=.type "set_iterator",data:=.fields #[.int 0 0,.int 0 0,.ref a,.int es.size 0,.int ep 0] } }:=by
  intro sl ord h0 hp nx
  have hne:a≠s.heap.objs.size:=nz7 hal
  have wk:=pc (A:=A) (I:=s.heap.objs.size) hh hne W sl ord (lks hp) nx
  refine q _ s.drawn _ _ ord _ (λb o' e=>Z5 _ e) (nz6 _) (λb hb=>?_) (len ▸ wk) ⟨?_,Z5 _ ho⟩ ((lks hp).trans len) (zIs hp) (pks hp)
  ·rcases Y4.mp hb with z | z
   ·exact .inr (nz3 z.symm)
   ·exact .inl (Y6.mp z)
  ·exact ⟨_,X4 _ rfl,rfl,by rw [h0,<- len]; rfl⟩
 cases hb:w.params.followText "set-order" with
 | true =>
  rw [if_neg (by simp)]
  refine Z0 (Y0 ?_)
  refine Z0 (wpAny_setEpoch_of ho W.dat W.fit ?_)
  refine Z0 (K5 (Y0 ⟨_,rfl,"set_iterator",_,⟨_,X4 _ rfl,rfl⟩,aY.lookup,?_⟩))
  exact plainly (λ_=>0) _ rfl (ni (w.params.setOrder a ep) es) λi s' _ h'=>rO h' W hb
 | false =>
  show wpAny _ _ (if (!false && (!t.plain && decide (es.size > 1)))=true then _ else _) _ _ _
  by_cases hp:(!t.plain && decide (es.size > 1))=true
  ·rw [if_pos (show (!false && (!t.plain && decide (es.size > 1)))=true by rw [hp]; rfl)]
   refine Z0 (pf _ _ _ V5 λps d' hps=>?_)
   have lps:ps.length=es.size:=hps.length_eq.trans V5
   refine Z0 (wpAny_newTuple ?_ (by rw [Y3,lps]; exact fits_of_scanBound W.sz))
   refine Z0 (wpAny_setEpoch_of (Z5 _ ho) W.dat W.fit ?_)
   refine Z0 (K5 (Y0 ⟨_,rfl,"set_iterator",_,⟨_,X4 _ rfl,rfl⟩,aY.lookup,?_⟩))
   have lt:∀ p∈ps,p<es.size:=λp h=>L8.mp (hps.mem_iff.mp h)
   have pm:(ps.filterMap λp=>es[p]?).Perm es.toList:=by
    have:=hps.filterMap λp=>es[p]?
    rwa [filterMap_getElem?_range] at this
   have em:ps.filterMap (λp=>es[p]?)=ps.map λp=>es.getD p default:=pj lt
   have hne:a≠(s.heap.push { cls:=.type "tuple",data:=.seq (ps.map λ(p:Nat)=>rawInt p).toArray }).objs.size:=by rw [M1]; exact nz7 (M2 hal)
   have hnT:s.heap.objs.size≠(s.heap.push { cls:=.type "tuple",data:=.seq (ps.map λ(p:Nat)=>rawInt p).toArray }).objs.size:=by rw [M1]; exact nz7 (U1 _)
   have hp':(ps.filterMap λp=>es[p]?).toArray.toList.Perm es.toList:=pm
   have wk:=rS (A:=A) (prog:=prog) (w:=w) (T:=s.heap.objs.size) (oT:={ cls:=.type "tuple",data:=.seq (ps.map λ(p:Nat)=>rawInt p).toArray }) (m:=0) hh hne hnT W (ps.filterMap λp=>es[p]?).toArray (lks hp') rfl lps λi h=>by
    have:=lt _ (J3 h)
    rw [em]
    simp [Array.getD,this,h]
   refine q _ d' _ _ _ _ (λb o' e=>Z5 _ (Z5 _ e)) (by rw [M1]; exact P6 _) (λb hb=>?_) (len ▸ wk) ⟨?_,Z5 _ (Z5 _ ho),Z5 _ (X4 _ rfl)⟩ ((lks hp').trans len) (zIs hp') (pks hp')
   ·rcases Y4.mp hb with z | z
    ·rw [z,M1]; exact .inr (P6 _)
    ·rcases Y4.mp z with z | z
     ·exact .inl z
     ·exact .inr (nz3 (Y6.mp z).symm)
   ·exact ⟨_,X4 _ rfl,rfl,by rw [<- len]; rfl⟩
  ·rw [if_neg (show ¬ ((!false && (!t.plain && decide (es.size > 1)))=true) by rw [Bool.not_false,Bool.true_and]; exact hp)]
   refine Z0 (Y0 ?_)
   refine Z0 (wpAny_setEpoch_of ho W.dat W.fit ?_)
   refine Z0 (K5 (Y0 ⟨_,rfl,"set_iterator",_,⟨_,X4 _ rfl,rfl⟩,aY.lookup,?_⟩))
   refine plainly (λi=>if i=0 then 0 else t.place.getD (i - 1) 0+1) es rfl .rfl λi s' hi h'=>?_
   have sz:t.place.size=es.size:=by
    have:=W.fit
    unfold V3.fits at this
    simp only [Bool.and_eq_true,beq_iff_eq] at this
    exact this.1
   have hk:T1 t.place (if i=0 then 0 else t.place.getD (i - 1) 0+1)=i:=by
    cases i with
    | zero=>exact kT W.ris.up
    | succ i =>
     have hi':i<t.place.size:=by rw [sz]; exact hi
     rw [if_neg (Nat.succ_ne_zero i),Nat.add_sub_cancel,show t.place.getD i 0=t.place[i] by simp [Array.getD,hi']]
     exact kR W.ris.up hi'
   exact rQ h' W hb (Bool.not_eq_true _ ▸ hp) hk hi
end
section
variable {prog:W5} {w:World} {A:Around} {E:Value->Shared->Prop} {s:Shared} {a I:Addr} {ks:List Int}
theorem pB {Q:Bool->Shared->Prop} (hT:s.TypeIs (.ref a) "set") (q:Q false s):wpAny (model prog w) A (R0.List.listLengthHint (.ref a)) Q E s:=by
 unfold R0.List.listLengthHint
 refine Z0 (wpAny_specialOf hT F.slot_set_len.lookup ?_)
 generalize hid:("set.__len__":String)=id0
 wp_delta
 rw [show splitId id0=some ("set","__len__") from by subst hid; decide +kernel]
 subst hid
 refine Z0 (wpAny_isInstance (b:=true) (T:="set") hT (by rw [isSubtype_type]; kernel_rfl) ?_)
 refine wpAny_ite_split (λz=>absurd z (by decide)) λ_=>wpAny_ite_split (λ_=>Z0 (wpAny_typeOf hT (Y0 q))) λz=>absurd (by decide +kernel) z
theorem kY {R:Result->Shared->Prop} {L:Addr} {res:Value} {c:Nat} (hh:A.handled=none) (x:cZ prog w s.heap a ks) (hLa:L≠a) (hL:s.heap.get? L=some { cls:=.type "list",data:=.seq #[] c })
  (q:∀ h' d' tk acc c',(∀ b o,b≠L->s.heap.get? b=some o->h'.get? b=some o)->h'.get? L=some { cls:=.type "list",dict:=none,data:=.seq acc c',slots:=#[] }->(∀ v∈acc.toList,∃ n u,v=.int n u)->(acc.toList.map bW).Perm ks->R (.ok (.ret res)) { s with heap:=h',drawn:=d',toks:=tk }) :
  wpAny (model prog w) A.in1 (A3 (.ref L) (.ref a) res) (λfin s'=>match fin with | .done f=>R (.ok f) s' | .again c'=>c'.quiet=true/\codeAny (model prog w) A c' R s') (λe s'=>R (.error e) s') s:=by
 have hT:s.TypeIs (.ref a) "set":=let ⟨o,_,_,_,h1,h2⟩:=x; ⟨o,h1,h2.ex.1⟩
 have hn:ks.length<=V1:=by
  obtain ⟨_,es,_,_,_,W⟩:=x
  rw [<- W.pm.length_eq,Y3,V9]; exact fits_of_scanBound W.sz
 have same:R0.List.listSameRef (.ref L) (.ref a)=false:=by simp [R0.List.listSameRef,hLa]
 unfold A3
 refine Z0 (wpAny_typeOf hT ?_)
 rw [same]
 simp only [show (A7 "set" == A7 "list")=false by decide,show (A7 "set" == A7 "tuple")=false by decide,Bool.or_false,N3,if_false]
 refine Z0 (pA (A:=A.in1) hh x λh' d' I fp ord St k hI hfp wk st ho hi hp=>?_)
 have hT':Shared.TypeIs { s with heap:=h',drawn:=d' } (.ref a) "set":=let ⟨o,h1,h2⟩:=hT; ⟨o,k a o h1,h2⟩
 have hLI:L ∉ fp:=λz=>by
  rcases hfp L z with z | z
  ·exact hLa z
  ·exact absurd (X5 hL) (U3.mpr z)
 refine Z0 (Q0 (pB hT' ?_))
 refine wpAny_ite_split (λ_=>?_) λz=>absurd (by decide +kernel) z
 have u0:=k _ _ hL
 have u1:=Q9 (X9 (·.push .none)) u0 rfl
 have u2:=Q9 (X9 (·.pop)) u1 rfl
 have oth:∀ b o,b≠L->h'.get? b=some o->((h'.update L (X9 (·.push .none))).update L (X9 (·.pop))).get? b=some o :=
  λb o hb e=>((Q3 h' L _).trans (Q3 _ L _)).extBut b o hb e
 have st':=wk.frame 0 _ ((h'.update L (X9 (·.push .none))).update L (X9 (·.pop))) s.toks st (nz6 _) λb hb o e=>oth b o (λz=>hLI (z ▸ hb)) e
 refine Z0 (C3 (Z0 ?_))
 refine Z0 (m:=updateSeq L _) (wpAny_updateSeq u0 rfl (wpAny_updateSeq (hz:=by seq_fits) u1 rfl ?_))
 refine Y0 ⟨E6 F.plain_extend_loop _,codeAny_extend_loopS wk hn L hLI res ks.length 0 _ #[] _ rfl (U2 _) st' u2 (ItemsOf.nil _) λs' acc c' hm hL' hacc=>?_⟩
 have el:acc.toList=ord.toList.map (·.2):=by
  apply G9
  intro i
  rw [X2,J9,J9]
  by_cases hi:i<acc.size
  ·obtain ⟨e,h1,h2⟩:=hacc.2 i _ (T0 hi)
   rw [T0 hi,h1,h2]; rfl
  ·rw [C4 (M9 hi),C4 (by rw [ho,<- hacc.1]; exact M9 hi)]; rfl
 obtain ⟨hp',g',d2,tk',os'⟩:=s'
 have eg:g'=s.gens:=hm.gens
 have ed:d2=d':=hm.drawn
 have eo:os'=s.os:=hm.os
 subst eg ed eo
 refine q hp' _ tk' acc c' (λb o hb e=>hm.heap b o (λz=>?_) (oth b o hb (k b o e))) hL' (λv hv=>?_) ?_
 ·rcases Y4.mp z with z | z
  ·exact hb z
  ·exact absurd (X5 e) (by rw [Y6.mp z]; exact U3.mpr hI)
 ·rw [el] at hv
  obtain ⟨e,h1,rfl⟩:=Q4.mp hv
  exact hi e h1
 ·rw [el,T8]; exact hp
theorem jZ {R:List Value->Shared->Prop} (hh:A.handled=none) (x:cZ prog w s.heap a ks)
  (q:∀ h' d' tk vs,(∀ b o,s.heap.get? b=some o->h'.get? b=some o)->(∀ v∈vs,∃ n u,v=.int n u)->(vs.map bW).Perm ks->R vs { s with heap:=h',drawn:=d',toks:=tk }):wpAny (model prog w) A (collect (.ref a)) R E s:=by
 have hal:a<s.heap.objs.size:=let ⟨_,_,_,_,h1,_⟩:=x; X5 h1
 unfold collect
 refine Z0 (wpAny_runValue (M3 F.entry_proto_collect ?_))
 rw [P8 F.plain_proto_collect _]
 show wpAny _ A.in1 (newList [] >>= λl=>again (.builtin "list.__iadd__" ⟨[l,.ref a],[]⟩)) _ _ s
 refine Z0 (K5 (Y0 ⟨E6 F.plain_list_iadd _,M3 F.entry_list_iadd ?_⟩))
 rw [P8 F.plain_list_iadd _]
 show wpAny _ A.in1 (A3 (.ref s.heap.objs.size) (.ref a) (.ref s.heap.objs.size)) _ _ _
 have go:∀ (r:Result) (s':Shared),(∃ h' d' tk acc c',r=.ok (.ret (.ref s.heap.objs.size))/\s'={ s with heap:=h',drawn:=d',toks:=tk }/\(∀ b o,s.heap.get? b=some o->h'.get? b=some o)/\h'.get? s.heap.objs.size=some { cls:=.type "list",dict:=none,data:=.seq acc c',slots:=#[] }/\(∀ v∈acc.toList,∃ n u,v=.int n u)/\(acc.toList.map bW).Perm ks) ->
   ∃ v,r=.ok (.ret (.ref v))/\∃ acc c',s'.heap.get? v=some { cls:=.type "list",dict:=none,data:=.seq acc c',slots:=#[] }/\R acc.toList s':=by
  rintro r s' ⟨h',d',tk,acc,c',rfl,rfl,k1,k2,k3,k4⟩
  exact ⟨_,rfl,acc,c',k2,q h' d' tk _ k1 k3 k4⟩
 have key:=kY (A:=A) (s:={ s with heap:=s.heap.push { cls:=.type "list",data:=.seq ([]:List Value).toArray } }) (L:=s.heap.objs.size) (res:=.ref s.heap.objs.size) (c:=0)
  (R:=λr s'=>∃ h' d' tk acc c',r=.ok (.ret (.ref s.heap.objs.size))/\s'={ s with heap:=h',drawn:=d',toks:=tk }/\(∀ b o,s.heap.get? b=some o->h'.get? b=some o)/\h'.get? s.heap.objs.size=some { cls:=.type "list",dict:=none,data:=.seq acc c',slots:=#[] }/\(∀ v∈acc.toList,∃ n u,v=.int n u)/\(acc.toList.map bW).Perm ks)
  hh (x.stay λo e=>Z5 _ e) (N2 hal) (X4 _ rfl) λh' d' tk acc c' k1 k2 k3 k4=>⟨h',d',tk,acc,c',rfl,rfl,λb o e=>k1 b o (nz7 (X5 e)) (Z5 _ e),k2,k3,k4⟩
 refine T4 key (λfin s' z=>?_) λe s' z=>?_
 ·cases fin with
  | done f =>
   obtain ⟨h',d',tk,acc,c',e,z⟩:=z
   cases e
   obtain ⟨v,e1,ac,cc,e2,e3⟩:=go _ _ ⟨h',d',tk,acc,c',rfl,z⟩
   cases e1
   exact Z0 (wpAny_load e2 (Y0 e3))
  | again c1 =>
   refine ⟨z.1,C1 z.2 λr s2 y=>?_⟩
   obtain ⟨v,rfl,ac,cc,e2,e3⟩:=go _ _ y
   exact Z0 (wpAny_load e2 (Y0 e3))
 ·obtain ⟨_,_,_,_,_,e',_⟩:=z
  cases e'
end
open PyProof.Rows
noncomputable abbrev cU (w:World):Obj:={ cls:=.type "set",dict:=none,data:=.set #[] 0 (.fresh 0 0 (!w.params.followText "set-order")) }
section
variable {prog:W5} {w:World} {A:Around} {E:Value->Shared->Prop} {s:Shared} {a l:Addr}
theorem rT {h:Heap} (e:h.get? a=some (cU w)):cZ prog w h a [] :=
 ⟨_,#[],0,_,e,⟨rfl,rfl,rfl⟩,rfl,λ_ h=>by simp at h,.nil,by decide,rfl,rfl,kQ _ _ _⟩
theorem pC {x:Value} {q:Value->Shared->Prop} (h:q (.ref s.heap.objs.size) { s with heap:=s.heap.push (cU w) }) :
  codeAny (model prog w) A (.call (.builtin "set.__new__") ⟨[.type "set",x],[]⟩) (wants q E) s:=by
 refine codeAny_of_tree ?_
 show wpAny _ A.in1 (checkBuiltinCall "set.__new__" ⟨[.type "set",x],[]⟩ >>= λ_=>again (.builtin "set.__new__" ⟨[.type "set",x],[]⟩)) _ _ s
 refine Z0 (wpAny_of_eq (F.newCall_set_1 x) (Y0 ⟨E6 F.plain_set_new _,M3 F.entry_set_new ?_⟩))
 rw [P8 F.plain_set_new _]
 unfold R0.«set.__new__» R0.Frozenset.newClass
 have sub1:=sub_set_self
 obtain ⟨h0,g0,d0,t0,o0⟩:=s
 dsimp only
 wp_walk
 refine wpAny_askSetting (Y0 ?_)
 unfold newObj
 exact Z0 (wpAny_alloc (Y0 (Y0 h)))
theorem pD {R:Result->Shared->Prop} {I:Addr} {fp wr:List Addr} {G:Array GenState->Array GenState->Prop} {n:Nat} {P:Nat->Value->Prop} {St:Nat->Shared->Prop} (wk:WalksS prog w A.in1 I fp wr G n P St) (hf:a ∉ fp) (val:Nat->Int) (hval:∀ i v,P i v->∃ t,v=.int (val i) t) (hb:n+1<scanBound) :
  ∀ (k i:Nat) (s:Shared),n - i=k->i<=n->St i s->cZ prog w s.heap a (firstMet val i)->(∀ s',Moved (a :: wr) G s s'->cZ prog w s'.heap a (firstMet val n)->R (.ok (.ret .none)) s') ->
   codeAny (model prog w) A (.builtin "set.update.loop" ⟨[.ref a,.ref I],[]⟩) R s:=by
 have hw:a ∉ wr:=λz=>hf (wk.sub _ z)
 have sb:∀ b∈wr,b∈a :: wr:=λb z=>X6 _ z
 intro k
 induction k with
 | zero =>
  intro i s hk hi st x q
  have e:i=n:=T2 hi (Nat.sub_eq_zero_iff_le.mp hk)
  subst e
  refine M3 F.entry_set_update_loop ?_
  rw [P8 F.plain_set_update_loop _]
  show wpAny _ A.in1 (pyNext (.ref I) >>= _) _ _ s
  refine Z0 (wk.done s _ _ st λs' hm=>?_)
  exact Y0 (q s' (hm.mono sb) (x.stay λo e=>hm.heap a o hw e))
 | succ k ih =>
  intro i s hk hi st x q
  have hlt:i<n:=Nat.lt_of_sub_eq_succ hk
  refine M3 F.entry_set_update_loop ?_
  rw [P8 F.plain_set_update_loop _]
  show wpAny _ A.in1 (pyNext (.ref I) >>= _) _ _ s
  refine Z0 (wk.item i s _ _ hlt st λv s' hP st' hm=>?_)
  obtain ⟨t,rfl⟩:=hval i v hP
  show wpAny _ A.in1 (holding [O9 (val i) t] (setAdd a (.int (val i) t)) >>= _) _ _ s'
  refine Z0 (Q0 ?_)
  unfold setAdd
  have hv:(intKind prog w).is (val i) (.int (val i) t)=true:=by show A5 (val i) (.int (val i) t)=true; simp [A5]
  refine Q0 (Z0 ((intKind prog w).pyHash hv ?_))
  have x':cZ prog w s'.heap a (firstMet val i):=x.stay λo e=>hm.heap a o hw e
  have room:(firstMet val i).length+1<scanBound:=nz2 (Nat.succ_le_succ (nz4 (firstMet_length_le val i) hi)) hb
  refine rE (s:={ s' with toks:=s'.toks+1 }) x' room λh' b sm x2=>?_
  have x3:cZ prog w h' a (firstMet val (i+1)):=by rw [firstMet_succ]; exact x2
  refine Y0 ⟨E6 F.plain_set_update_loop _,ih (i+1) _ (by omega) hlt (wk.frame _ s' _ _ st' (P6 _) λb hb o e=>?_) x3 λs2 hm2 y=>q s2 (Moved.trans wk.gtrans ((hm.mono sb).then_heap (P6 _) λb o hb e=>?_) hm2) y⟩
  ·rw [sm.2 b (fun z:b=a=>hf (z ▸ hb))]; exact e
  ·rw [sm.2 b (fun z:b=a=>hb (z ▸ W6))]; exact e
theorem pE {items:Array Value} {ns:List Int} {Q:Value->Shared->Prop} (hh:A.handled=none) (hl:s.heap.IsList l items) (hi:J8 items.toList ns) (hb:items.size+1<scanBound)
  (q:∀ (h':Heap) (tk:Nat),cZ prog w h' s.heap.objs.size (firstMet (λi=>ns.getD i 0) items.size)->(∀ b o,b<s.heap.objs.size->s.heap.get? b=some o->h'.get? b=some o)->Q (.ref s.heap.objs.size) { s with heap:=h',toks:=tk }) :
  wpAny (model prog w) A (call (.type "set") [.ref l]) Q E s:=by
 obtain ⟨c,tl,f1⟩:=C5.mro
 have f2:=C5.made
 have f3:=C5.sub
 have f4:=C5.notType
 have f5:=C5.canCreate
 have f6:=F.typeCall_set_1 (.ref l)
 refine wpAny_call (codeAny_of_tree ?_)
 show wpAny _ _ (callAny (.type "set") _) _ _ _
 refine Y0 ⟨Code.quiet_builtin _ (by decide +kernel),M3 F.entry_type_call ?_⟩
 rw [Around.under_plain (weight_type_call_type "set" [.ref l] []) rfl]
 repeat (any_goals (first | assumption | wp_step))
 refine C1 (pC (x:=.ref l) (E:=E) (q:=λob s1=>ob=.ref s.heap.objs.size/\s1={ s with heap:=s.heap.push (cU w) }) ⟨rfl,rfl⟩) λr s1 hr=>?_
 cases r with
 | error e=>exact hr
 | ok fl =>
  cases fl with
  | ret ob =>
   obtain ⟨rfl,rfl⟩:=hr
   have g0:(s.heap.push (cU w)).get? s.heap.objs.size=some (cU w):=X4 _ rfl
   have hT:Shared.TypeIs { s with heap:=s.heap.push (cU w) } (.ref s.heap.objs.size) "set":=⟨_,g0,rfl⟩
   have f7:=C5.init.lookup
   have f8:=C5.init.bind (.ref s.heap.objs.size)
   repeat (any_goals (first | assumption | wp_step))
   refine C1 (codeAny_call_builtin (R:=wants (λr s2=>r=.none/\∃ h' tk,s2={ s with heap:=h',toks:=tk }/\cZ prog w h' s.heap.objs.size (firstMet (λi=>ns.getD i 0) items.size)/\(∀ b o,b<s.heap.objs.size->s.heap.get? b=some o->h'.get? b=some o)) E) C5.init.plain F.entry_set_init (check_set_init_1 hT ?_)) λr2 s2 hr2=>?_
   ·obtain ⟨ol,hol,hcl,nl,hdl⟩:=hl
    obtain ⟨ocl,odi,oda,osl⟩:=ol
    simp only at hcl hdl
    subst hcl hdl
    have hol':(s.heap.push (cU w)).get? l=some { cls:=.type "list",dict:=odi,data:=.seq items nl,slots:=osl }:=Z5 _ hol
    have l1:(s.heap.push (cU w)).IsList l items:=⟨_,hol',rfl,nl,rfl⟩
    have f9:=F.sub_list_set
    have fa:=F.sub_list_frozenset
    have fb:(A7 "list" == A7 "dict")=false:=by decide
    have hlS:l<s.heap.objs.size:=X5 hol
    unfold R0.«set.__init__» noKeywords R0.Frozenset.updateFrom
    generalize hPI:pyIter=PI
    wp_walk
    subst hPI
    refine wpAny_pyIter_list l1 (Z0 (wpAny_runValue ?_))
    have hne:l≠(s.heap.push (cU w)).objs.size:=by rw [M1]; exact nz7 (M2 hlS)
    have hSf:s.heap.objs.size ∉ [(s.heap.push (cU w)).objs.size,l]:=by
     rw [M1,Y4,Y6]
     exact λz=>z.elim (λz=>nz7 (U1 _) z) λz=>N2 hlS z
    have val:∀ (i:Nat) (v:Value),items[i]?=some v->∃ t,v=.int ((λi=>ns.getD i 0) i) t:=λi v z=>J8.int_at hi i v (by rw [J9]; exact z)
    refine pD ((Walks.list (by rw [A.in1_handled]; simp [hh]) _ l hne items).toS) hSf (λi=>ns.getD i 0) val hb (items.size - 0) 0 _ rfl (U2 _) ⟨⟨_,X4 _ rfl,rfl,rfl⟩,l1.push _⟩ (rT (Z5 _ g0)) ?_
    intro s' hm y
    obtain ⟨h',g',d',tk',os'⟩:=s'
    have eg:g'=s.gens:=hm.gens
    have ed:d'=s.drawn:=hm.drawn
    have eo:os'=s.os:=hm.os
    subst eg ed eo
    refine Y0 (Y0 ⟨rfl,h',tk',rfl,y,λb o hb e=>hm.heap b o (λz=>?_) (Z5 _ (Z5 _ e))⟩)
    rcases Y4.mp z with z | z
    ·exact nz7 hb z
    ·rw [Y6,M1] at z
     exact nz7 (M2 hb) z
   ·cases r2 with
    | error e=>exact hr2
    | ok f2 =>
     cases f2 with
     | ret r =>
      obtain ⟨rfl,h',tk,rfl,y1,y2⟩:=hr2
      repeat (any_goals (first | assumption | wp_step))
      exact q _ _ y1 y2
     | _=>exact hr2.elim
  | _=>exact hr.elim
end
end Tab
namespace L2
section
open PySem PySem.Spec PyProof.Rows
variable [Kon]
section
variable {X:Cx} {K:Z3}
noncomputable abbrev pF (P:W5) (w:World) (q:Addr) (ks:List Int):HO:=.ext λh=>Tab.cZ P w h q ks
def rSetW (P:W5) (w:World) (K:Z3):List V->Hp->VK->Prop:=λxs H Q=>∃ p ns,xs=[.ref p]/\SqL K H p (ns.map V.int)/\ns.length+1<4096/\∀ q,H q=none->Q (.ref q) (upd H q (pF P w q (Pu.ded ns)))
theorem call_setW (h:X.K=K) (hc:X.calm=true):cV X (.type "set") (rSetW X.prog X.w K):=by
 subst h
 intro pins s σ H xs us Q I r hh
 obtain ⟨p,ns,rfl,hS,hb,q⟩:=hh
 obtain ⟨u,rfl,ru⟩:=vals1 r
 cases ru
 obtain ⟨its,rv,ht,hz⟩:=I.list hS
 have hl:=rv.length
 rw [Y3] at hl
 have ed:firstMet (λi=>ns.getD i 0) its.toArray.size=Pu.ded ns:=by
  unfold firstMet
  have:(X3 its.toArray.size).map (λi=>ns.getD i 0)=ns:=by
   apply List.ext_getElem
   ·simp [hl]
   ·intro i h1 h2; simp [h2]
  rw [this]; rfl
 refine Tab.pE (I.ok.hd hc) ht.isList (by simpa using mU rv) (by simp; have:scanBound=4096:=rfl; omega) λh' tk hset hk=>?_
 rw [ed] at hset
 exact ⟨.ref _,_,I.laid (t':=tk) (o:=pF X.prog X.w s.heap.objs.size (Pu.ded ns)) (λb ob q=>hk b ob (X5 q) q) (nz6 _) ⟨hset,(let ⟨o,_,_,_,e,_⟩:=hset; ⟨o,e⟩),λ_ _ z e=>z.stay e⟩,rfl,q _ (I.hok.fresh (nz6 _))⟩
theorem inv_drawn {pins:List (Addr × Obj)} {σ:St} {H:Hp} {s:Shared} (I:Inv X pins σ H s) (d:Drawn):Inv X pins σ H { s with drawn:=d }:=⟨I.ok,I.os,I.bare,I.base,I.loc,I.cell,I.free,I.freeC,I.pin,I.hok,I.len⟩
def rSortW (P:W5) (w:World):List V->Hp->VK->Prop:=λxs H Q=>∃ p ks,xs=[.ref p]/\H p=some (pF P w p ks)/\ks.length<64/\∀ q,H q=none->Q (.ref q) (upd H q (.lst ((Pu.srtI ks).map V.int)))
theorem ints_of_all:∀ {vs:List Value},(∀ v∈vs,∃ n u,v=O9 n u)->J8 vs (vs.map Tab.bW)
 | [],_=>.nil
 | v :: vs,h=>by
  obtain ⟨n,u,rfl⟩:=h v W6
  exact .cons n u (ints_of_all λw hw=>h w (X6 _ hw))
theorem rU (hc:X.calm=true):cV X (.builtin "sorted") (rSortW X.prog X.w):=by
 intro pins s σ H xs us Q I r hh
 obtain ⟨p,ks,rfl,hD,h64,q⟩:=hh
 obtain ⟨u,rfl,ru⟩:=vals1 r
 cases ru
 have hset:Tab.cZ X.prog X.w s.heap p ks:=(show aS X.prog X.w H s.heap p (pF X.prog X.w p ks) from I.hok p _ hD).1
 refine Calls.call_function_entry kind_sorted plain_sorted entry_sorted (args_sorted1 _) ?_
 unfold R0.«sorted»
 refine Z0 (m:=checkCount "sorted" 1 1 _) (Y0 ?_)
 refine Z0 (Tab.jZ (A:=X.A.in1) (I.ok.hd hc) hset λh' d' tk vs hk hi hp=>?_)
 have I1:=inv_drawn (I.kept (t':=tk) hk) d'
 have hlen:vs.length=ks.length:=by have:=hp.length_eq; rwa [Y3] at this
 have hI:=ints_of_all hi
 refine Z0 (wpAny_newList ?_ (by rw [hlen,V8]; exact nz5 (nz8 h64 (by decide))))
 have hoL:(h'.push (seqObj "list" vs.toArray 0)).get? h'.objs.size=some (seqObj "list" vs.toArray 0):=X4 _ rfl
 refine Z0 (Q0 (N8 slot_list_sort ⟨_,hoL,rfl⟩ entry_list_sort
  (list_sort_tree (s:={ s with heap:=h'.push (seqObj "list" vs.toArray 0),drawn:=d',toks:=tk }) hoL hI (by exact nz2 (nz3 hlen) h64) λout ns' a1 a2 a3=>⟨_,rfl,?_⟩) (args_list_sort _)))
 have e:ns'=Pu.srtI ks:=PySem.W.ksm_same (a2.trans (hp.trans (Pu.fY ks).symm)) a3 (Pu.oP ks)
 subst e
 obtain ⟨e1,hat1⟩:=sortedHeap_at (out:=out) hoL
 refine Y0 ⟨_,rfl,.ref _,_,I1.laid (t':=tk) (o:=.lst ((Pu.srtI ks).map V.int)) (λb ob q=>?_) (nz6 _) ⟨?_,out.toList,e1,iA a1,hat1⟩,rfl,q _ (I1.hok.fresh (nz6 _))⟩
 ·have hlt:b<h'.objs.size:=X5 q
  rw [sortedHeap_old (nz7 hlt) (by rw [size_push']; exact M2 hlt)]
  exact Z5 _ q
 ·rw [Y3,(Pu.fY ks).length_eq,V8]; exact nz5 (nz8 h64 (by decide))
end
noncomputable def rZW (P:W5) (w:World):Rp (List Int):=⟨λH v xs=>∃ p,v=.ref p/\H p=some (pF P w p xs),λe ⟨p,h1,h2⟩=>⟨p,h1,e _ _ h2⟩⟩
section
variable {Γ:List Slot} {ta:TE} {K:Z3} {P:W5} {w:World} {o:Option (List Int)}
theorem ev_setW (h:EV Γ ta o (rL rInt)):EV Γ (tCB (rSetW P w K) (aZ ta tNil)) (o.bind λxs=>Pu.mset xs) (rZW P w):=by
 intro C F σ H Q c S e k
 obtain ⟨xs,e1,e⟩:=a8 e
 unfold Pu.mset at e
 split at e
 ·rename_i hh
  cases e
  refine h C F σ H _ xs S e1 λv F' H' x1 ⟨p,vs,e3,h1,h2⟩=>⟨p,xs,by rw [e3],?_,hh,λq hq=>k _ _ _ (x1.trans (Ext.new x1.sub hq)) ⟨q,rfl,ah⟩⟩
  rw [<- dq h2]; exact .inl (x1.sub.rd h1)
 ·cases e
theorem evl_sortW (h:EV Γ ta o (rZW P w)):EVL Γ (tCB (rSortW P w) (aZ ta tNil)) (o.bind λns=>Pu.sortI ns) rInt:=by
 intro C F σ H Q xs S e k
 obtain ⟨ns,e1,e⟩:=a8 e
 unfold Pu.sortI at e
 split at e
 ·rename_i h64
  cases e
  exact h C F σ H _ ns S e1 λv F' H' x1 ⟨p,e2,h1⟩=>⟨p,ns,by rw [e2],x1.sub _ _ h1,h64,λq hq=>k q _ F' H' x1 hq (paired_ints _)⟩
 ·cases e
end
end
section
open PySem PySem.Spec PyProof.Rows
noncomputable abbrev Rd_:=List (Int × Int)
noncomputable abbrev Dr_:=List (Int × Option Int)
variable [Kon]
end
end L2
namespace Tim
open PySem PySem.W PyProof.Rows
structure Cx (M:Model) (A:Around) (s:Shared) (κ:B0) (f:Nat->Keyed) (T:Nat->Nat->Prop) (X:Nat->Prop):Prop where
 ask:∀ i j,X i->X j->∀ C:Bool->Prop,(T i j->C true)->(i=j\/T j i->C false)->wpAny M A (keyLt' κ (f i).1 (f j).1) (λb s'=>s'=s/\C b) (λ_ _=>False) s
 tr:∀ {i j k},T i j->T j k->T i k
 irr:∀ {i},¬ T i i
noncomputable abbrev ar (f:Nat->Keyed) (l:List Nat):Array Keyed:=Z6 (l.map f)
noncomputable abbrev St (κ:B0) (f:Nat->Keyed) (l:List Nat) (pd:Array (Nat × Nat × Nat)) (g:Nat):SortSt:=J7 κ (ar f l) pd g none
section
variable {M:Model} {A:Around} {E:Value->Shared->Prop} {s:Shared} {κ:B0} {f:Nat->Keyed} {T:Nat->Nat->Prop} {X:Nat->Prop}
theorem ar_get {l:List Nat} {i x:Nat} (h:l[i]?=some x):(ar f l)[i]?=some (f x):=by
 show (Z6 (l.map f))[i]?=_
 rw [R6,X2,h]; rfl
theorem pG (K:Cx M A s κ f T X) {i j:Nat} {Q:Option Bool->SortSt->Prop} {st:SortSt} (hk:kindOf st=κ) (hi:X i) (hj:X j) (h1:T i j->Q (some true) st) (h0:i=j\/T j i->Q (some false) st) :
  wpS M A E s (lt' (f i) (f j)) Q st:=by
 rw [lt'_eq]
 refine X1 (wpS_get ?_)
 rw [hk]
 refine X1 (wpS_lift (wpAny_attempt (T4 (K.ask i j hi hj (λb=>Q (some b) st) h1 h0) (λb s' z=>⟨z.1,X7 z.2⟩) λ_ _ z=>z.elim)))
theorem bN {l:List Nat} {i x:Nat} {Q:Keyed->SortSt->Prop} {st:SortSt} (h:l[i]?=some x) (q:Q (f x) st):wpS M A E s (elem' (ar f l) i) Q st:=by
 rw [elem'_eq,ar_get h]
 exact X7 q
theorem hE (K:Cx M A s κ f T X) {l:List Nat} {pd:Array (Nat × Nat × Nat)} {g a b i j:Nat} {Q:Option Bool->SortSt->Prop} (ha:l[a]?=some i) (hb:l[b]?=some j) (hi:X i) (hj:X j) (h1:T i j->Q (some true) (St κ f l pd g)) (h0:i=j\/T j i->Q (some false) (St κ f l pd g)) :
  wpS M A E s (ltAt' a b) Q (St κ f l pd g):=by
 rw [ltAt'_eq]
 refine X1 (wpS_get ?_)
 show wpS _ _ _ _ (do let x <- elem' (ar f l) a; let y <- elem' (ar f l) b; lt' x y) Q _
 exact X1 (bN ha (X1 (bN hb (pG K rfl hi hj h1 h0))))
theorem k0 {R:Nat->Nat->Prop} {V:List Nat} {n i j x y:Nat} (h:(V.take n).Pairwise R) (hij:i<j) (hj:j<n) (hx:V[i]?=some x) (hy:V[j]?=some y):R x y:=by
 have gx:(V.take n)[i]?=some x:=by rw [R3 (nz8 hij hj)]; exact hx
 have gy:(V.take n)[j]?=some y:=by rw [R3 hj]; exact hy
 refine K2 (Z4.mp gx) λlx ex=>K2 (Z4.mp gy) λly ey=>?_
 rw [<- ex,<- ey]
 exact M4.mp h i j lx ly hij
theorem nk {R:Nat->Nat->Prop} (tr:∀ i j k,R i j->R j k->R i k) {V:List Nat} {n x y:Nat} (h:(V.take n).Pairwise R) (h1:1<=n) (hy:V[n - 1]?=some y) (hx:V[n]?=some x) (r:R y x):(V.take (n+1)).Pairwise R:=by
 rw [List.take_succ,hx]
 refine W7.mpr ⟨h,List.pairwise_singleton _ _,λa ha b hb=>?_⟩
 rw [Y6.mp hb]
 refine oq11 (R8 ha) λk e=>K2 e λhk e=>?_
 have hkn:k<n:=nz1 hk (E9 _ _)
 have ga:V[k]?=some a:=by rw [<- R3 hkn,<- e]; exact Z9 hk
 rcases L7 k (n - 1) with z | z
 ·exact tr _ _ _ (k0 h z (Nat.sub_lt h1 Nat.one_pos) ga hy) r
 ·have:k=n - 1:=by omega
  rw [this,hy] at ga
  exact Z7 ga ▸ r
theorem dH {U V:List Nat} {n:Nat}:(U++V)[U.length+n]?=V[n]?:=by
 rw [Y5 (U6 _ _),U9]
theorem jq {U V:List Nat} {n:Nat} (h:1<=n):(U++V)[U.length+n - 1]?=V[n - 1]?:=by
 rw [Nat.add_sub_assoc h]; exact dH
noncomputable def asc (lo a m:Nat):StateT SortSt Sem (Option (Option Nat) × Nat):=forIn [a:m] ((none,a):Option (Option Nat) × Nat) λ_ r=>do
 match <- ltAt' (lo+r.2) (lo+r.2 - 1) with
 | some b=>if b=true then pure (ForInStep.done (none,r.2)) else pure (G2 (none,r.2+1))
 | _=>pure (ForInStep.done (some none,r.2))
theorem nd_ne {V:List Nat} (h:V.Nodup) {i j x y:Nat} (hx:V[i]?=some x) (hy:V[j]?=some y) (n:i≠j):x≠y:=λe=>by
 refine K2 (Z4.mp hx) λlx ex=>K2 (Z4.mp hy) λly ey=>?_
 exact n ((List.getElem_inj h).mp (ex.trans (e.trans ey.symm)))
theorem has {V:List Nat} {i:Nat} (h:i<V.length):∃ x,V[i]?=some x/\x∈V:=⟨V[i],Z9 h,J3 h⟩
theorem asc_ok (K:Cx M A s κ f T X) {U V:List Nat} {pd:Array (Nat × Nat × Nat)} {g a:Nat} {Q:Option (Option Nat) × Nat->SortSt->Prop} (nd:V.Nodup) (hX:∀ x∈V,X x) (h1:1<=a) (ha:a<=V.length) (hp:(V.take a).Pairwise T)
  (h:∀ n,a<=n->n<=V.length->(V.take n).Pairwise T->(n=V.length\/∃ x y,V[n]?=some x/\V[n - 1]?=some y/\T x y)->Q (none,n) (St κ f (U++V) pd g)):wpS M A E s (asc U.length a V.length) Q (St κ f (U++V) pd g):=by
 unfold asc
 refine Q5 (I:=λi c st=>c=(none,i)/\st=St κ f (U++V) pd g/\a<=i/\(V.take i).Pairwise T) ?_ ?_ ⟨rfl,rfl,nz6 _,hp⟩
 ·intro i c st hi1 hi2 z
  refine oq04 z λe1 e2 e3 e4=>?_
  subst e1; subst e2
  dsimp only
  refine oq12 (has hi2) λx hx mx=>oq12 (has (V:=V) (i:=i - 1) (by omega)) λy hy my=>?_
  refine X1 (hE K (dH.trans hx) ((jq (by omega)).trans hy) (hX x mx) (hX y my) (λt=>?_) λt=>?_)
  ·exact X7 (h i e3 (nz5 hi2) e4 (.inr ⟨x,y,hx,hy,t⟩))
  ·refine X7 ⟨rfl,rfl,F8 e3,nk (R:=T) (λ_ _ _=>K.tr) e4 (by omega) hy hx (t.resolve_left (nd_ne nd hx hy (by omega)))⟩
 ·intro c st z
  refine oq04 z λe1 e2 e3 e4=>?_
  rw [Nat.max_eq_right ha] at e1 e4
  subst e1; subst e2
  exact h _ ha (nz6 _) e4 (.inl rfl)
theorem pH {α:Type} {U V:List α} {n:Nat} (hn:n<=V.length):mirror (Z6 (U++V)) U.length (U.length+n) ((U.length+n - U.length) / 2)=Z6 (U++((V.take n).reverse++V.drop n)):=by
 apply Array.ext_getElem?
 intro k
 rw [getElem?_mirror_all (by rw [X0,Y8]; omega),R6,R6,R6]
 have lr:((V.take n).reverse).length=n:=by rw [List.length_reverse,V7,Q7 hn]
 by_cases h1:k<U.length
 ·rw [if_neg (by omega),X8 h1,X8 h1]
 ·have e:k=U.length+(k - U.length):=by omega
  generalize k - U.length=d at e
  subst e
  by_cases h2:d<n
  ·rw [if_pos (by omega),Y5 (by omega),Y5 (by omega),X8 (by rw [lr]; omega),List.getElem?_reverse (by rw [V7,Q7 hn]; omega),V7,Q7 hn,R3 (by omega)]
   congr 1; omega
  ·rw [if_neg (by omega),Y5 (by omega),Y5 (by omega),Y5 (by rw [lr]; omega),lr,L6]
   congr 1; omega
theorem rev_ok {U V:List Nat} {pd:Array (Nat × Nat × Nat)} {g n:Nat} {Q:Unit->SortSt->Prop} (hn:n<=V.length) (h:Q () (St κ f (U++((V.take n).reverse++V.drop n)) pd g)):wpS M A E s (reverseSlice' U.length (U.length+n)) Q (St κ f (U++V) pd g):=by
 rw [reverseSlice'_eq]
 refine wpS_modify ?_
 have e:=pH (U:=U.map f) (V:=V.map f) (n:=n) (by rw [Y3]; exact hn)
 rw [Y3,<- T3,<- List.map_take,<- List.map_drop,<- List.map_reverse,<- T3,<- T3] at e
 show Q () (J7 κ (mirror (Z6 ((U++V).map f)) U.length (U.length+n) ((U.length+n - U.length) / 2)) pd g none)
 rw [e]
 exact h
theorem run_ok (K:Cx M A s κ f T X) {U V:List Nat} {pd:Array (Nat × Nat × Nat)} {g:Nat} {Q:Option Nat->SortSt->Prop} (nd:V.Nodup) (hX:∀ x∈V,X x) (h1:1<=V.length)
  (h:∀ n V',V'.Perm V->1<=n->n<=V.length->(V'.take n).Pairwise T->Q (some n) (St κ f (U++V') pd g)):wpS M A E s (countRun' U.length V.length) Q (St κ f (U++V) pd g):=by
 rw [countRun'_eq]
 refine X1 (asc_ok K nd hX (nz6 1) h1 ?_ λn n1 n2 n3 n4=>?_)
 ·cases V with
  | nil=>exact .nil
  | cons a V=>exact List.pairwise_singleton _ _
 ·dsimp only
  by_cases e:n=V.length
  ·rw [if_pos (by rw [e]; exact beq_self_eq_true _)]
   exact X7 (h n V (.refl _) n1 n2 n3)
  ·rw [if_neg (λz=>e (eq_of_beq z))]
   refine oq23 (n4.resolve_left e) λx y hx hy t=>?_
   have n5:n<V.length:=Nat.lt_of_le_of_ne n2 e
   by_cases e2:n > 1
   ·rw [if_pos e2]
    refine oq12 (has (V:=V) (i:=0) (by omega)) λz hz mz=>?_
    have tz:T z y:=k0 n3 (by omega) (by omega) hz hy
    refine X1 (hE K (a:=U.length) (b:=U.length+n - 1) ((congrArg (λk=>(U++V)[k]?) (Nat.add_zero _).symm).trans (dH.trans hz)) ((jq n1).trans hy) (hX z mz) (hX y (W8 hy)) (λ_=>?_) λw=>?_)
    ·exact X7 (h n V (.refl _) n1 n2 n3)
    ·exact (w.elim (λq=>K.irr (q ▸ tz)) λq=>K.irr (K.tr q tz)).elim
   ·rw [if_neg e2]
    have en:n=1:=by omega
    subst en
    refine X1 (wpS_lift (C3 ⟨rfl,?_⟩))
    refine X1 (E3 (Q5 (I:=λi c st=>c=(none,i,0)/\st=St κ f (U++V) pd g/\2<=i/\(V.take i).Pairwise λa b=>T b a) (Q:=λc st=>∃ n,c=(none,n,0)/\st=St κ f (U++V) pd g/\2<=n/\n<=V.length/\(V.take n).Pairwise λa b=>T b a) ?_ ?_ ⟨rfl,rfl,nz6 _,?_⟩) ?_)
    ·intro i c st hi1 hi2 z
     refine oq04 z λe1 e2 e3 e4=>?_
     subst e1; subst e2
     dsimp only
     refine oq12 (has hi2) λx hx mx=>oq12 (has (V:=V) (i:=i - 1) (by omega)) λy hy my=>?_
     refine X1 (hE K (dH.trans hx) ((jq (by omega)).trans hy) (hX x mx) (hX y my) (λt=>?_) λt=>?_)
     ·exact X7 ⟨rfl,rfl,F8 e3,nk (R:=λa b=>T b a) (λ_ _ _ p q=>K.tr q p) e4 (by omega) hy hx t⟩
     ·refine X1 (hE K ((jq (by omega)).trans hy) (dH.trans hx) (hX y my) (hX x mx) (λt=>?_) λt2=>?_)
      ·exact X7 ⟨i,rfl,rfl,e3,nz5 hi2,e4⟩
      ·exact absurd (t.resolve_left (nd_ne nd hx hy (by omega))) λq=>t2.elim (λr=>K.irr (r ▸ q)) λr=>K.irr (K.tr q r)
    ·intro c st z
     refine oq04 z λe1 e2 e3 e4=>?_
     rw [Nat.max_eq_right (show 1+1<=V.length by omega)] at e1 e4
     exact ⟨_,e1,e2,by omega,nz6 _,e4⟩
    ·exact nk (R:=λa b=>T b a) (n:=1) (λ_ _ _ p q=>K.tr q p) (by cases V with
      | nil=>exact .nil
      | cons a V=>exact List.pairwise_singleton _ _) (nz6 _) hy hx t
    ·intro c st z
     refine oq15 z λn e1 e2 e3 e4 e5=>?_
     subst e1; subst e2
     dsimp only
     rw [if_neg (Q8 0)]
     refine X1 (rev_ok e4 ?_)
     have lr:((V.take n).reverse).length=n:=by rw [List.length_reverse,V7,Q7 e4]
     have pm:((V.take n).reverse++V.drop n).Perm V:=((List.reverse_perm _).append_right _).trans (by rw [W0])
     have ln:=pm.length_eq
     rw [<- ln]
     refine X1 (asc_ok K (pm.nodup_iff.mpr nd) (λx hx=>hX x (pm.mem_iff.mp hx)) (by omega) (by rw [ln]; exact e4) ?_ λm m1 m2 m3 _=>?_)
     ·rw [List.take_left' lr]
      exact List.pairwise_reverse.mpr e5
     ·exact X7 (h m _ pm (by omega) (by rw [<- ln]; exact m2) m3)
theorem pJ {α:Type} {P Y Z:List α} {x:α}:bubble (Z6 (P++(Y++x :: Z))) (P.length+Y.length) Y.length=Z6 (P++x :: (Y++Z)):=by
 apply Array.ext_getElem?
 intro k
 rw [getElem?_bubble (by rw [X0,Y8,Y8,W4]; omega) _ (by omega)]
 simp only [R6]
 have top:(P++(Y++x :: Z))[P.length+Y.length]?=some x:=by rw [Y5 (by omega),Y5 (by omega),show P.length+Y.length - P.length - Y.length=0 by omega]; rfl
 by_cases h1:k<P.length
 ·rw [if_neg (by omega),if_neg (by omega),X8 h1,X8 h1]
 ·have e:k=P.length+(k - P.length):=by omega
  generalize k - P.length=d at e
  subst e
  rw [Y5 (l₁:=P) (l₂:=x :: (Y++Z)) (by omega),U9]
  cases d with
  | zero=>rw [if_pos (by omega),top]; rfl
  | succ d =>
   rw [if_neg (by omega),List.getElem?_cons_succ]
   by_cases h2:d<Y.length
   ·rw [if_pos (by omega),X8 h2,Y5 (by omega),X8 (by omega)]
    congr 1; omega
   ·rw [if_neg (by omega),Y5 (by omega),Y5 (by omega),Y5 (by omega),show P.length+(d+1) - P.length - Y.length=(d - Y.length)+1 by omega]
    rfl
theorem cut_at {V:List Nat} {k:Nat} (h:k<V.length):∃ Y x Z,V=Y++x :: Z/\Y.length=k:=⟨V.take k,V[k],V.drop (k+1),by rw [<- O7 h,W0],by rw [V7]; omega⟩
theorem mv_ok {U Y Z:List Nat} {pd:Array (Nat × Nat × Nat)} {g x l:Nat} {Q:Unit->SortSt->Prop} (hl:l<=Y.length) (h:Q () (St κ f (U++(Y.take l++x :: (Y.drop l++Z))) pd g)):wpS M A E s (moveDown' (U.length+Y.length) (U.length+l)) Q (St κ f (U++(Y++x :: Z)) pd g):=by
 rw [moveDown'_eq]
 refine wpS_modify ?_
 have e:=pJ (P:=U.map f++(Y.take l).map f) (Y:=(Y.drop l).map f) (x:=f x) (Z:=Z.map f)
 have l1:(U.map f++(Y.take l).map f).length=U.length+l:=by rw [Y8,Y3,Y3,V7]; omega
 have l2:((Y.drop l).map f).length=Y.length - l:=by rw [Y3,O3]
 rw [l1,l2,show U.length+l+(Y.length - l)=U.length+Y.length by omega,Y9,<- Y9 ((Y.take l).map f),<- T3,W0,Y9] at e
 show Q () (J7 κ (bubble (Z6 ((U++(Y++x :: Z)).map f)) (U.length+Y.length) (U.length+Y.length - (U.length+l))) pd g none)
 rw [show U.length+Y.length - (U.length+l)=Y.length - l by omega]
 have e2:(U++(Y++x :: Z)).map f=U.map f++(Y.map f++f x :: Z.map f):=by simp only [T3,V0]
 have e3:(U++(Y.take l++x :: (Y.drop l++Z))).map f=U.map f++((Y.take l).map f++f x :: ((Y.drop l).map f++Z.map f)):=by simp only [T3,V0]
 rw [e2,e,<- e3]
 exact h
theorem ins_pw (K:Cx M A s κ f T X) {Y Z:List Nat} {l x:Nat} (hl:l<=Y.length) (hp:Y.Pairwise T) (h0:∀ j y,j<l->Y[j]?=some y->T y x) (h1:∀ j y,l<=j->Y[j]?=some y->T x y):((Y.take l++x :: (Y.drop l++Z)).take (Y.length+1)).Pairwise T:=by
 have e:(Y.take l++x :: (Y.drop l++Z)).take (Y.length+1)=Y.take l++x :: Y.drop l:=by
  have l1:(Y.take l++x :: Y.drop l).length=Y.length+1:=by rw [Y8,W4,V7,O3]; omega
  rw [<- List.cons_append,<- Y9]
  exact List.take_left' l1
 have q:=hp
 rw [<- W0 l Y] at q
 have q:=W7.mp q
 rw [e]
 have a0:∀ y∈Y.take l,T y x:=λy hy=>oq11 (R8 hy) λj z=>K2 z λhj z=>by
  have hjl:j<l:=nz1 hj (E9 _ _)
  exact h0 j y hjl (by rw [<- R3 hjl,<- z]; exact Z9 hj)
 have a1:∀ y∈Y.drop l,T x y:=λy hy=>oq11 (R8 hy) λj z=>K2 z λhj z=>h1 (l+j) y (U6 _ _) (by rw [<- L6,<- z]; exact Z9 hj)
 refine W7.mpr ⟨q.1,List.pairwise_cons.mpr ⟨a1,q.2.1⟩,λa ha b hb=>?_⟩
 rcases Y4.mp hb with z | z
 ·rw [z]; exact a0 a ha
 ·exact K.tr (a0 a ha) (a1 b z)
theorem bin_ok (K:Cx M A s κ f T X) {U V:List Nat} {pd:Array (Nat × Nat × Nat)} {g n ok:Nat} {Q:Bool->SortSt->Prop} (nd:V.Nodup) (hX:∀ x∈V,X x) (h1:1<=ok) (ho:ok<=n) (hn:n<=V.length) (hp:(V.take ok).Pairwise T)
  (h:∀ V',V'.Perm V->(V'.take n).Pairwise T->Q true (St κ f (U++V') pd g)):wpS M A E s (binarySort' U.length n ok) Q (St κ f (U++V) pd g):=by
 rw [binarySort'_eq,Nat.max_eq_left h1]
 refine X1 (E3 (Q5 (I:=λk c st=>c=(none,())/\∃ V',st=St κ f (U++V') pd g/\V'.Perm V/\(V'.take k).Pairwise T) (Q:=λc st=>c=(none,())/\∃ V',st=St κ f (U++V') pd g/\V'.Perm V/\(V'.take n).Pairwise T) ?_ ?_ ⟨rfl,V,rfl,.refl _,hp⟩) ?_)
 ·intro k c st hk1 hk2 z
  refine oq02 z λe1 z=>oq13 z λV' e2 pm pk=>?_
  subst e1; subst e2
  dsimp only
  have kl:k<V'.length:=by rw [pm.length_eq]; omega
  refine oq32 (cut_at kl) λY x Z eV eY=>?_
  subst eV; subst eY
  have py:Y.Pairwise T:=by rw [List.take_left] at pk; exact pk
  have xx:X x:=hX x (pm.mem_iff.mp (Y7 _ (.head _)))
  have gx:(Y++x :: Z)[Y.length]?=some x:=by rw [Y5 (nz6 _),Nat.sub_self]; rfl
  have nd':=pm.nodup_iff.mpr nd
  refine X1 (E3 (Q5 (I:=λi c st=>st=St κ f (U++(Y++x :: Z)) pd g/\∃ l r,c=(none,l,r)/\l<=r/\r<=Y.length/\r - l<=Y.length - i/\(∀ j y,j<l->Y[j]?=some y->T y x)/\∀ j y,r<=j->Y[j]?=some y->T x y)
   (Q:=λc st=>st=St κ f (U++(Y++x :: Z)) pd g/\∃ l r,c=(none,l,r)/\l<=Y.length/\(∀ j y,j<l->Y[j]?=some y->T y x)/\∀ j y,l<=j->Y[j]?=some y->T x y) ?_ ?_ ⟨rfl,0,Y.length,rfl,U2 _,nz6 _,nz6 _,λ_ _ z=>absurd z (K8 _),λj y z w=>absurd (Z4.mp w).1 (U3.mpr z)⟩) ?_)
  ·intro i c st _ hi z
   refine oq02 z λe1 z=>oq26 z λl r e2 z1 z2 z3 z4 z5=>?_
   subst e1; subst e2
   dsimp only
   by_cases lr:l ≥ r
   ·rw [if_pos lr]
    have:l=r:=T2 z1 lr
    subst this
    exact X7 ⟨rfl,l,l,rfl,z2,z4,z5⟩
   ·rw [if_neg lr]
    have m2:(l+r) / 2<r:=by omega
    refine oq12 (has (V:=Y) (i:=(l+r) / 2) (by omega)) λy hy my=>?_
    have gy:(Y++x :: Z)[(l+r) / 2]?=some y:=by rw [X8 (by omega)]; exact hy
    refine X1 (hE K (dH.trans gx) (dH.trans gy) xx (hX y (pm.mem_iff.mp (U0 _ my))) (λt=>?_) λt=>?_)
    ·refine X7 ⟨rfl,l,(l+r) / 2,rfl,by omega,by omega,by omega,z4,λj w hj hw=>?_⟩
     rcases L7 ((l+r) / 2) j with q | q
     ·exact K.tr t (k0 (n:=Y.length) (by rw [N7]; exact py) q (Z4.mp hw).1 hy hw)
     ·have:j=(l+r) / 2:=by omega
      rw [this,hy] at hw
      exact Z7 hw ▸ t
    ·have t:=t.resolve_left (nd_ne nd' gx gy (by omega))
     refine X7 ⟨rfl,(l+r) / 2+1,r,rfl,by omega,by omega,by omega,λj w hj hw=>?_,z5⟩
     rcases L7 j ((l+r) / 2) with q | q
     ·exact K.tr (k0 (n:=Y.length) (by rw [N7]; exact py) q (by omega) hw hy) t
     ·have:j=(l+r) / 2:=by omega
      rw [this,hy] at hw
      exact Z7 hw ▸ t
  ·intro c st z
   refine oq02 z λe1 z=>oq26 z λl r e2 z1 z2 z3 z4 z5=>?_
   have:l=r:=by omega
   subst this
   exact ⟨e1,l,l,e2,z2,z4,z5⟩
  ·intro c st z
   refine oq02 z λe1 z=>oq24 z λl r e2 z2 z4 z5=>?_
   subst e1; subst e2
   dsimp only
   refine X1 (mv_ok z2 (X7 ⟨rfl,_,rfl,?_,ins_pw K z2 py z4 z5⟩))
   refine List.Perm.trans ?_ pm
   have:(Y++x :: Z)=Y.take l++(Y.drop l++x :: Z):=by rw [<- Y9,W0]
   rw [this]
   exact B9 _ List.perm_middle.symm
 ·intro c st z
  rw [Nat.max_eq_right ho] at z
  exact z
 ·intro c st z
  refine oq02 z λe1 z=>oq13 z λV' e2 pm pk=>?_
  subst e1; subst e2
  exact X7 (h V' pm pk)
noncomputable def gal:Bool->Keyed->Array Keyed->Nat->Nat->Nat->StateT SortSt Sem (Option Nat):=sortPriv% PySem.Builtin.gallop
noncomputable def bey (L:Bool) (k:Keyed) (r:Array Keyed) (b i:Nat):StateT SortSt Sem (Option Bool):=do
 let y <- elem' r (b+i)
 if L then lt' y k else return (<- lt' k y).map (!·)
theorem gal_eq (L:Bool) (k:Keyed) (r:Array Keyed) (b n h:Nat):gal L k r b n h=(do
  let mut u:=0
  let mut v:=1
  let mut p:=0
  let mut q:=0
  let some w <- bey L k r b h | return none
  if w then
   let m:=n - h
   for _ in [0:n] do
    if v ≥ m then break
    let some o <- bey L k r b (h+v) | return none
    if !o then break
    u:=v
    v:=2 * v+1
   p:=h+u+1
   q:=h+min v m
  else
   let m:=h+1
   for _ in [0:n] do
    if v ≥ m then break
    let some o <- bey L k r b (h - v) | return none
    if o then break
    u:=v
    v:=2 * v+1
   p:=h+1 - min v m
   q:=h - u
  for _ in [0:n] do
   if p ≥ q then break
   let m:=p+(q - p) / 2
   let some o <- bey L k r b m | return none
   if o then p:=m+1 else q:=m
  return some q):=rfl
theorem nn (K:Cx M A s κ f T X) {L:Bool} {l:List Nat} {ky b i x:Nat} {Q:Option Bool->SortSt->Prop} {st:SortSt} (hk:kindOf st=κ) (hy:X ky) (hx:X x) (g:l[b+i]?=some x) (ne:x≠ky) (h1:T x ky->Q (some true) st) (h0:T ky x->Q (some false) st) :
  wpS M A E s (bey L (f ky) (ar f l) b i) Q st:=by
 unfold bey
 refine X1 (bN g ?_)
 cases L with
 | true=>exact pG K hk hx hy h1 λz=>h0 (z.resolve_left ne)
 | false=>exact X1 (pG K hk hy hx (λz=>X7 (h0 z)) λz=>X7 (h1 (z.resolve_left (R5 ne))))
noncomputable def gtl (L:Bool) (k:Keyed) (r:Array Keyed) (b n p q:Nat):StateT SortSt Sem (Option Nat):=do
 let mut p:=p
 let mut q:=q
 for _ in [0:n] do
  if p ≥ q then break
  let m:=p+(q - p) / 2
  let some o <- bey L k r b m | return none
  if o then p:=m+1 else q:=m
 return some q
theorem gtl_ok (K:Cx M A s κ f T X) {L:Bool} {l:List Nat} {ky b n p q:Nat} {Q:Option Nat->SortSt->Prop} {st:SortSt} {d:Nat->Nat} (hk:kindOf st=κ) (hy:X ky) (hX:∀ i,i<n->X (d i)) (g:∀ i,i<n->l[b+i]?=some (d i)) (ne:∀ i,i<n->d i≠ky)
  (mo:∀ i j,i<j->j<n->T (d i) (d j)) (pq:p<=q) (qn:q<=n) (h0:∀ i,i<p->T (d i) ky) (h1:∀ i,q<=i->i<n->T ky (d i)) (h:∀ k,k<=n->(∀ i,i<k->T (d i) ky)->(∀ i,k<=i->i<n->T ky (d i))->Q (some k) st):wpS M A E s (gtl L (f ky) (ar f l) b n p q) Q st:=by
 unfold gtl
 refine X1 (E3 (Q5 (I:=λi c st'=>st'=st/\∃ u v,c=(none,u,v)/\u<=v/\v<=n/\v - u<=n - i/\(∀ i,i<u->T (d i) ky)/\∀ i,v<=i->i<n->T ky (d i))
  (Q:=λc st'=>st'=st/\∃ u v,c=(none,u,v)/\v<=n/\(∀ i,i<v->T (d i) ky)/\∀ i,v<=i->i<n->T ky (d i)) ?_ ?_ ⟨rfl,p,q,rfl,pq,qn,nz4 (Nat.sub_le _ _) qn,h0,h1⟩) ?_)
 ·intro i c st' _ hi z
  refine oq02 z λe1 z=>oq26 z λu v e2 z1 z2 z3 z4 z5=>?_
  subst e1; subst e2
  dsimp only
  by_cases c:u ≥ v
  ·rw [if_pos c]
   have:u=v:=T2 z1 c
   exact X7 ⟨rfl,u,v,rfl,z2,this ▸ z4,z5⟩
  ·rw [if_neg c]
   have hm:u+(v - u) / 2<n:=by omega
   refine X1 (nn K hk hy (hX _ hm) (g _ hm) (ne _ hm) (λt=>?_) λt=>?_)
   ·refine X7 ⟨rfl,_,_,rfl,by omega,z2,by omega,λj hj=>?_,z5⟩
    rcases L7 j (u+(v - u) / 2) with w | w
    ·exact K.tr (mo _ _ w hm) t
    ·rw [show j=u+(v - u) / 2 by omega]; exact t
   ·refine X7 ⟨rfl,_,_,rfl,by omega,by omega,by omega,z4,λj hj hn=>?_⟩
    rcases L7 (u+(v - u) / 2) j with w | w
    ·exact K.tr t (mo _ _ w hn)
    ·rw [show j=u+(v - u) / 2 by omega]; exact t
 ·intro c st' z
  refine oq02 z λe1 z=>oq26 z λu v e2 z1 z2 z3 z4 z5=>?_
  have:u=v:=by omega
  exact ⟨e1,u,v,e2,z2,this ▸ z4,z5⟩
 ·intro c st' z
  refine oq02 z λe1 z=>oq24 z λu v e2 z2 z4 z5=>?_
  subst e1; subst e2
  exact X7 (h v z2 z4 z5)
theorem nq (K:Cx M A s κ f T X) {L:Bool} {l:List Nat} {ky b n hint:Nat} {Q:Option Nat->SortSt->Prop} {st:SortSt} {d:Nat->Nat} (hk:kindOf st=κ) (hy:X ky) (hX:∀ i,i<n->X (d i)) (g:∀ i,i<n->l[b+i]?=some (d i)) (ne:∀ i,i<n->d i≠ky)
  (mo:∀ i j,i<j->j<n->T (d i) (d j)) (hh:hint<n) (h:∀ k,k<=n->(∀ i,i<k->T (d i) ky)->(∀ i,k<=i->i<n->T ky (d i))->Q (some k) st):wpS M A E s (gal L (f ky) (ar f l) b n hint) Q st:=by
 rw [gal_eq]
 refine X1 (nn K hk hy (hX _ hh) (g _ hh) (ne _ hh) (λt=>?_) λt=>?_)
 ·refine X1 (E3 (Q5 (I:=λi c st'=>st'=st/\∃ u v,c=(none,u,v)/\u<v/\i<v/\u<n - hint/\T (d (hint+u)) ky)
   (Q:=λc st'=>st'=st/\∃ u v,c=(none,u,v)/\u<v/\u<n - hint/\T (d (hint+u)) ky/\(v ≥ n - hint\/(v<n - hint/\T ky (d (hint+v))))) ?_ ?_ ⟨rfl,0,1,rfl,Nat.one_pos,Nat.one_pos,Nat.sub_pos_of_lt hh,t⟩) ?_)
  ·intro i c st' _ hi z
   refine oq02 z λe1 z=>oq25 z λu v e2 z1 z2 z3 z4=>?_
   subst e1; subst e2
   dsimp only
   by_cases c:v ≥ n - hint
   ·rw [if_pos c]
    exact X7 ⟨rfl,u,v,rfl,z1,z3,z4,.inl c⟩
   ·rw [if_neg c]
    have hm:hint+v<n:=by omega
    refine X1 (nn K hk hy (hX _ hm) (g _ hm) (ne _ hm) (λt=>?_) λt=>?_)
    ·exact X7 ⟨rfl,_,_,rfl,by omega,by omega,by omega,t⟩
    ·exact X7 ⟨rfl,u,v,rfl,z1,z3,z4,.inr ⟨by omega,t⟩⟩
  ·intro c st' z
   refine oq02 z λe1 z=>oq25 z λu v e2 z1 z2 z3 z4=>?_
   exact ⟨e1,u,v,e2,z1,z3,z4,.inl (by omega)⟩
  ·intro c st' z
   refine oq02 z λe1 z=>oq25 z λu v e2 z1 z3 z4 z5=>?_
   subst e1; subst e2
   refine gtl_ok (p:=hint+u+1) (q:=hint+min v (n - hint)) K hk hy hX g ne mo (by omega) (by omega) (λj hj=>?_) (λj hj hn=>?_) h
   ·rcases L7 j (hint+u) with w | w
    ·exact K.tr (mo _ _ w (by omega)) z4
    ·rw [show j=hint+u by omega]; exact z4
   ·rcases z5 with z5 | z5
    ·omega
    ·rcases L7 (hint+v) j with w | w
     ·exact K.tr z5.2 (mo _ _ w hn)
     ·rw [show j=hint+v by omega]; exact z5.2
 ·refine X1 (E3 (Q5 (I:=λi c st'=>st'=st/\∃ u v,c=(none,u,v)/\u<v/\i<v/\u<hint+1/\T ky (d (hint - u)))
   (Q:=λc st'=>st'=st/\∃ u v,c=(none,u,v)/\u<v/\u<hint+1/\T ky (d (hint - u))/\(v ≥ hint+1\/(v<hint+1/\T (d (hint - v)) ky))) ?_ ?_ ⟨rfl,0,1,rfl,Nat.one_pos,Nat.one_pos,Nat.succ_pos _,t⟩) ?_)
  ·intro i c st' _ hi z
   refine oq02 z λe1 z=>oq25 z λu v e2 z1 z2 z3 z4=>?_
   subst e1; subst e2
   dsimp only
   by_cases c:v ≥ hint+1
   ·rw [if_pos c]
    exact X7 ⟨rfl,u,v,rfl,z1,z3,z4,.inl c⟩
   ·rw [if_neg c]
    have hm:hint - v<n:=by omega
    refine X1 (nn K hk hy (hX _ hm) (g _ hm) (ne _ hm) (λt=>?_) λt=>?_)
    ·exact X7 ⟨rfl,u,v,rfl,z1,z3,z4,.inr ⟨by omega,t⟩⟩
    ·exact X7 ⟨rfl,_,_,rfl,by omega,by omega,by omega,t⟩
  ·intro c st' z
   refine oq02 z λe1 z=>oq25 z λu v e2 z1 z2 z3 z4=>?_
   exact ⟨e1,u,v,e2,z1,z3,z4,.inl (by omega)⟩
  ·intro c st' z
   refine oq02 z λe1 z=>oq25 z λu v e2 z1 z3 z4 z5=>?_
   subst e1; subst e2
   refine gtl_ok (p:=hint+1 - min v (hint+1)) (q:=hint - u) K hk hy hX g ne mo (by omega) (by omega) (λj hj=>?_) (λj hj hn=>?_) h
   ·rcases z5 with z5 | z5
    ·omega
    ·rcases L7 j (hint - v) with w | w
     ·exact K.tr (mo _ _ w (by omega)) z5.2
     ·rw [show j=hint - v by omega]; exact z5.2
   ·rcases L7 (hint - u) j with w | w
    ·exact K.tr z4 (mo _ _ w hn)
    ·rw [show j=hint - u by omega]; exact z4
end
section
variable {M:Model} {A:Around} {E:Value->Shared->Prop} {s:Shared} {κ:B0} {f:Nat->Keyed} {T:Nat->Nat->Prop} {X:Nat->Prop}
noncomputable def mlo:Array Keyed->Array Keyed->StateT SortSt Sem (Array Keyed):=sortPriv% PySem.Builtin.mergeLo
noncomputable def mhi:Array Keyed->Array Keyed->StateT SortSt Sem (Array Keyed):=sortPriv% PySem.Builtin.mergeHi
noncomputable def smg:Nat->StateT SortSt Sem Unit:=sortPriv% PySem.Builtin.setMinGallop
theorem ny (g:Nat):smg g=modify λz=>J7 (kindOf z) (arrOf z) (D6 z) g (failedOf z):=rfl
noncomputable def fA (x y o:Array Keyed) (i j:Nat):Array Keyed:=o++x.extract i x.size++y.extract j y.size
noncomputable abbrev Z2:=Option (Array Keyed) × Array Keyed × Nat × Nat × Nat × Nat × Nat
noncomputable def q4 (x y:Array Keyed) (i g c d:Nat) (o:Array Keyed) (j:Nat):StateT SortSt Sem (ForInStep Z2):=do
 let z <- elem' x i
 if i+1+1 == x.size then pure (.done (some (fA y x (o.push z) j (i+1)),o.push z,i+1,j,g,c,d))
 else if c<7 && d<7 then pure (.done (none,o.push z,i+1,j,g,c,d)) else pure (.yield (none,o.push z,i+1,j,g,c,d))
noncomputable def q3 (x y:Array Keyed) (i g c d:Nat) (o:Array Keyed) (j:Nat):StateT SortSt Sem (ForInStep Z2):=do
 match <- gal true (<- elem' x i) y j (y.size - j) 0 with
 | some k=>if k > 0 then (if j+k == y.size then pure (.done (some (fA x y (o++y.extract j (j+k)) i (j+k)),o++y.extract j (j+k),i,j+k,g,c,k)) else q4 x y i g c k (o++y.extract j (j+k)) (j+k)) else q4 x y i g c k o j
 | _=>pure (.done (some (fA x y o i j),o,i,j,g,c,d))
noncomputable def q2 (x y:Array Keyed) (j g c d:Nat) (o:Array Keyed) (i:Nat):StateT SortSt Sem (ForInStep Z2):=do
 let z <- elem' y j
 if j+1 == y.size then pure (.done (some (fA x y (o.push z) i (j+1)),o.push z,i,j+1,g,c,d)) else q3 x y i g c d (o.push z) (j+1)
noncomputable def q1 (x y o:Array Keyed) (i j c d g:Nat):StateT SortSt Sem (ForInStep Z2):=do
 smg g
 match <- gal false (<- elem' y j) x i (x.size - i) 0 with
 | some k=>if k > 0 then (if i+k+1 == x.size then pure (.done (some (fA y x (o++x.extract i (i+k)) j (i+k)),o++x.extract i (i+k),i+k,j,g,k,d)) else if i+k == x.size then pure (.done (some (fA x y (o++x.extract i (i+k)) (i+k) j),o++x.extract i (i+k),i+k,j,g,k,d)) else q2 x y j g k d (o++x.extract i (i+k)) (i+k)) else q2 x y j g k d o i
 | _=>pure (.done (some (fA x y o i j),o,i,j,g,c,d))
noncomputable abbrev Z1:=Option (Array Keyed) × Array Keyed × Nat × Nat × Nat × Nat
noncomputable def w1 (x y:Array Keyed) (g:Nat) (z:Z1):StateT SortSt Sem (ForInStep Z1):=do
 match <- lt' (<- elem' y z.2.2.2.1) (<- elem' x z.2.2.1) with
 | some w =>
  if w=true then do
   let e <- elem' y z.2.2.2.1
   if z.2.2.2.1+1 == y.size then pure (.done (some (fA x y (z.2.1.push e) z.2.2.1 (z.2.2.2.1+1)),z.2.1.push e,z.2.2.1,z.2.2.2.1+1,0,z.2.2.2.2.2+1))
   else if z.2.2.2.2.2+1 ≥ g then pure (.done (none,z.2.1.push e,z.2.2.1,z.2.2.2.1+1,0,z.2.2.2.2.2+1)) else pure (.yield (none,z.2.1.push e,z.2.2.1,z.2.2.2.1+1,0,z.2.2.2.2.2+1))
  else do
   let e <- elem' x z.2.2.1
   if z.2.2.1+1+1 == x.size then pure (.done (some (fA y x (z.2.1.push e) z.2.2.2.1 (z.2.2.1+1)),z.2.1.push e,z.2.2.1+1,z.2.2.2.1,z.2.2.2.2.1+1,0))
   else if z.2.2.2.2.1+1 ≥ g then pure (.done (none,z.2.1.push e,z.2.2.1+1,z.2.2.2.1,z.2.2.2.2.1+1,0)) else pure (.yield (none,z.2.1.push e,z.2.2.1+1,z.2.2.2.1,z.2.2.2.2.1+1,0))
 | _=>pure (.done (some (fA x y z.2.1 z.2.2.1 z.2.2.2.1),z.2.1,z.2.2.1,z.2.2.2.1,z.2.2.2.2.1,z.2.2.2.2.2))
theorem mlo_eq (x y:Array Keyed):mlo x y=(do
  rule "list.sort.merge-lo"
  let mut o:Array Keyed:=#[<- elem' y 0]
  let mut i:=0
  let mut j:=1
  if j == y.size then return fA x y o i j
  if i+1 == x.size then return fA y x o j i
  let mut g:=gallopOf (<- get)
  for _ in [0:x.size+y.size] do
   let mut c:=0
   let mut d:=0
   for _ in [0:x.size+y.size] do
    let some w <- lt' (<- elem' y j) (<- elem' x i) | return fA x y o i j
    if w then
     o:=o.push (<- elem' y j); j:=j+1; d:=d+1; c:=0
     if j == y.size then return fA x y o i j
     if d ≥ g then break
    else
     o:=o.push (<- elem' x i); i:=i+1; c:=c+1; d:=0
     if i+1 == x.size then return fA y x o j i
     if c ≥ g then break
   rule "list.sort.gallop"
   g:=g+1
   for _ in [0:x.size+y.size] do
    if g > 1 then g:=g - 1
    smg g
    let some k <- gal false (<- elem' y j) x i (x.size - i) 0 | return fA x y o i j
    c:=k
    if k > 0 then
     o:=o++x.extract i (i+k); i:=i+k
     if i+1 == x.size then return fA y x o j i
     if i == x.size then return fA x y o i j
    o:=o.push (<- elem' y j); j:=j+1
    if j == y.size then return fA x y o i j
    let some k <- gal true (<- elem' x i) y j (y.size - j) 0 | return fA x y o i j
    d:=k
    if k > 0 then
     o:=o++y.extract j (j+k); j:=j+k
     if j == y.size then return fA x y o i j
    o:=o.push (<- elem' x i); i:=i+1
    if i+1 == x.size then return fA y x o j i
    if c<7 && d<7 then break
   g:=g+1
   smg g
  unsupported "internal:list.sort.merge-bound"):=rfl
theorem gB (x y:List Nat):ar f x++ar f y=ar f (x++y):=by
 show Z6 _++Z6 _=Z6 ((x++y).map f)
 rw [List.append_toArray,T3]
theorem hJ (x:List Nat) (a:Nat):(ar f x).push (f a)=ar f (x++[a]):=by
 show (Z6 _).push _=Z6 ((x++[a]).map f)
 rw [List.push_toArray,T3]; rfl
theorem bX (x:List Nat):(ar f x).size=x.length:=by
 show (Z6 (x.map f)).size=_
 rw [X0,Y3]
theorem k7 (x:List Nat) (i j:Nat):(ar f x).extract i j=ar f ((x.drop i).take (j - i)):=by
 show (Z6 (x.map f)).extract i j=Z6 (((x.drop i).take (j - i)).map f)
 rw [List.extract_toArray,List.extract_eq_take_drop,List.map_take,List.map_drop]
theorem ar_end (x:List Nat) (i:Nat):(ar f x).extract i (ar f x).size=ar f (x.drop i):=by
 rw [k7,bX,O6 (by rw [O3]; exact nz6 _)]
theorem fA_ar (a b o:List Nat) (i j:Nat):fA (ar f a) (ar f b) (ar f o) i j=ar f (o++a.drop i++b.drop j):=by
 unfold fA
 rw [ar_end,ar_end,gB,gB]
structure JJ (T:Nat->Nat->Prop) (o P R al:List Nat):Prop where
 pm:(o++(P++R)).Perm al
 p1:(o++P).Pairwise T
 p2:(o++R).Pairwise T
theorem JJ.flip {o P R al:List Nat} (h:JJ T o P R al):JJ T o R P al:=⟨(B9 _ A0).trans h.pm,h.p2,h.p1⟩
theorem JJ.mv {o U P R al:List Nat} (h:JJ T o (U++P) R al) (hu:∀ u∈U,∀ r∈R,T u r):JJ T (o++U) P R al:=by
 have p1:=h.p1
 rw [<- Y9] at p1
 have p2:=W7.mp h.p2
 have p3:=W7.mp p1
 refine ⟨by have:=h.pm; simpa only [Y9] using this,p1,W7.mpr ⟨p3.1,p2.2.1,λx hx r hr=>?_⟩⟩
 exact (W9.mp hx).elim (λz=>p2.2.2 x z r hr) λz=>hu x z r hr
theorem JJ.end {o P R al:List Nat} (h:JJ T o P R al) (e:R=[]):(o++P++R).Perm al/\(o++P++R).Pairwise T:=by
 subst e
 refine ⟨by have:=h.pm; simpa only [V6] using this,by rw [V6]; exact h.p1⟩
theorem JJ.last {o P R al:List Nat} (h:JJ T o P R al) (hu:∀ p∈P,∀ r∈R,T r p):(o++R++P).Perm al/\(o++R++P).Pairwise T:=by
 have p1:=W7.mp h.p1
 have p2:=W7.mp h.p2
 refine ⟨by rw [Y9]; exact h.flip.pm,W7.mpr ⟨h.p2,p1.2.1,λx hx p hp=>?_⟩⟩
 exact (W9.mp hx).elim (λz=>p1.2.2 x z p hp) λz=>hu p hp x z
theorem hO {a:List Nat} {i x:Nat} (h:a[i]?=some x):a.drop i=[x]++a.drop (i+1):=by
 refine K2 (Z4.mp h) λl e=>?_
 rw [O7 l,e]; rfl
theorem drop_k {a:List Nat} {i k:Nat}:a.drop i=(a.drop i).take k++a.drop (i+k):=by
 rw [<- List.drop_drop,W0]
theorem hU {a:List Nat} {i u:Nat} (h:u∈a.drop i):∃ t,a[i+t]?=some u:=oq11 (R8 h) λt z=>K2 z λht z=>⟨t,by rw [<- L6,<- z]; exact Z9 ht⟩
theorem mem_dt {a:List Nat} {i k u:Nat} (h:u∈(a.drop i).take k):∃ t,t<k/\a[i+t]?=some u:=oq11 (R8 h) λt z=>K2 z λht z=>by
 have tk:t<k:=nz1 ht (E9 _ _)
 exact ⟨t,tk,by rw [<- L6,<- R3 tk,<- z]; exact Z9 ht⟩
structure Two (T:Nat->Nat->Prop) (X:Nat->Prop) (a b:List Nat):Prop where
 pa:a.Pairwise T
 pb:b.Pairwise T
 xa:∀ x∈a,X x
 xb:∀ x∈b,X x
 ne:∀ x∈a,∀ y∈b,x≠y
 la:∀ x,a[a.length - 1]?=some x->∀ y∈b,T y x
 fb:∀ y,b[0]?=some y->∀ x∈a,T y x
theorem k8 {a:List Nat} (h:a.Pairwise T) {i j x y:Nat} (hij:i<j) (hx:a[i]?=some x) (hy:a[j]?=some y):T x y :=
 k0 (n:=a.length) (by rw [N7]; exact h) hij (Z4.mp hy).1 hx hy
theorem gC (K:Cx M A s κ f T X) {b:List Nat} (h:b.Pairwise T) {j u y:Nat} (hy:b[j]?=some y) (t:T u y):∀ r∈b.drop j,T u r:=λr hr=>oq11 (hU hr) λk hk=>by
 cases k with
 | zero=>rw [Nat.add_zero,hy] at hk; exact Z7 hk ▸ t
 | succ k=>exact K.tr t (k8 h (by omega) hy hk)
def Fn (T:Nat->Nat->Prop) (f:Nat->Keyed) (al:List Nat) (r:Array Keyed):Prop:=∃ p:List Nat,r=ar f p/\p.Perm al/\p.Pairwise T
noncomputable def Wn (T:Nat->Nat->Prop) (f:Nat->Keyed) (a b:List Nat) (N:Nat) (o:Array Keyed) (i j:Nat):Prop :=
 ∃ o',o=ar f o'/\JJ T o' (a.drop i) (b.drop j) (a++b)/\i+1<a.length/\j<b.length/\N<=i+j
noncomputable def Wm (T:Nat->Nat->Prop) (f:Nat->Keyed) (a b:List Nat) (N:Nat) (r:Option (Array Keyed)) (o:Array Keyed) (i j:Nat):Prop :=
 (∃ z,r=some z/\Fn T f (a++b) z)\/(r=none/\Wn T f a b N o i j)
theorem nz {a b o:List Nat} {i j:Nat} (h:JJ T o (a.drop i) (b.drop j) (a++b)) (e:j=b.length):Fn T f (a++b) (fA (ar f a) (ar f b) (ar f o) i j) :=
 ⟨_,fA_ar a b o i j,h.end (List.drop_eq_nil_of_le (nz3 e.symm))⟩
theorem fn_endA {a b o:List Nat} {i j:Nat} (h:JJ T o (a.drop i) (b.drop j) (a++b)) (e:i=a.length):Fn T f (a++b) (fA (ar f a) (ar f b) (ar f o) i j):=by
 refine ⟨_,fA_ar a b o i j,?_⟩
 have e':a.drop i=[]:=List.drop_eq_nil_of_le (nz3 e.symm)
 have:=h.flip.end e'
 rw [e',V6] at this ⊢
 exact this
theorem jr {a b o:List Nat} {i j:Nat} (H:Two T X a b) (h:JJ T o (a.drop i) (b.drop j) (a++b)) (e:i+1=a.length):Fn T f (a++b) (fA (ar f b) (ar f a) (ar f o) j i):=by
 refine ⟨_,fA_ar b a o j i,h.last λp hp r hr=>?_⟩
 refine oq11 (hU hp) λt ht=>?_
 have:=(Z4.mp ht).1
 refine H.la p ?_ r (K0 hr)
 rw [<- ht]; congr 1; omega
def P1 (T:Nat->Nat->Prop) (f:Nat->Keyed) (a b:List Nat) (N:Nat):ForInStep Z1->Prop
 | .done z=>Wm T f a b N z.1 z.2.1 z.2.2.1 z.2.2.2.1
 | .yield z=>z.1=none/\Wn T f a b N z.2.1 z.2.2.1 z.2.2.2.1
def P2 (T:Nat->Nat->Prop) (f:Nat->Keyed) (a b:List Nat) (N:Nat):ForInStep Z2->Prop
 | .done z=>Wm T f a b N z.1 z.2.1 z.2.2.1 z.2.2.2.1
 | .yield z=>z.1=none/\Wn T f a b N z.2.1 z.2.2.1 z.2.2.2.1
theorem w1_ok (K:Cx M A s κ f T X) {a b:List Nat} (H:Two T X a b) {N g i j c d:Nat} {o:Array Keyed} {st:SortSt} {Q:ForInStep Z1->SortSt->Prop} (hk:kindOf st=κ) (W:Wn T f a b N o i j) (h:∀ r,P1 T f a b (N+1) r->Q r st) :
  wpS M A E s (w1 (ar f a) (ar f b) g (none,o,i,j,c,d)) Q st:=by
 refine oq15 W λo' e J hi hj hN=>?_
 subst e
 refine oq12 (has (V:=a) (i:=i) (by omega)) λx hx mx=>oq12 (has (V:=b) (i:=j) hj) λy hy my=>?_
 unfold w1
 dsimp only
 refine X1 (bN hy (X1 (bN hx (X1 (pG K hk (H.xb y my) (H.xa x mx) (λt=>?_) λt=>?_)))))
 ·have J':JJ T (o'++[y]) (a.drop i) (b.drop (j+1)) (a++b):=by
   have:=J.flip
   rw [hO hy] at this
   exact (this.mv λu hu=>by rw [Y6.mp hu]; exact gC K H.pa hx t).flip
  refine X1 (bN hy ?_)
  rw [hJ,bX]
  by_cases e:j+1=b.length
  ·rw [if_pos (by rw [e]; exact beq_self_eq_true _)]
   exact X7 (h _ (.inl ⟨_,rfl,nz J' e⟩))
  ·rw [if_neg (λz=>e (eq_of_beq z))]
   have w:Wn T f a b (N+1) (ar f (o'++[y])) i (j+1):=⟨_,rfl,J',hi,by omega,by omega⟩
   by_cases q:d+1 ≥ g
   ·rw [if_pos q]; exact X7 (h _ (.inr ⟨rfl,w⟩))
   ·rw [if_neg q]; exact X7 (h _ ⟨rfl,w⟩)
 ·have t:=t.resolve_left (R5 (H.ne x mx y my))
  have J':JJ T (o'++[x]) (a.drop (i+1)) (b.drop j) (a++b):=by
   have:=J
   rw [hO hx] at this
   exact this.mv λu hu=>by rw [Y6.mp hu]; exact gC K H.pb hy t
  refine X1 (bN hx ?_)
  rw [hJ,bX]
  by_cases e:i+1+1=a.length
  ·rw [if_pos (by rw [e]; exact beq_self_eq_true _)]
   exact X7 (h _ (.inl ⟨_,rfl,jr H J' e⟩))
  ·rw [if_neg (λz=>e (eq_of_beq z))]
   have w:Wn T f a b (N+1) (ar f (o'++[x])) (i+1) j:=⟨_,rfl,J',by omega,hj,by omega⟩
   by_cases q:c+1 ≥ g
   ·rw [if_pos q]; exact X7 (h _ (.inr ⟨rfl,w⟩))
   ·rw [if_neg q]; exact X7 (h _ ⟨rfl,w⟩)
theorem q4_ok (K:Cx M A s κ f T X) {a b:List Nat} (H:Two T X a b) {N g i j c d x y:Nat} {o:List Nat} {st:SortSt} {Q:ForInStep Z2->SortSt->Prop} (J:JJ T o (a.drop i) (b.drop j) (a++b)) (hi:i+1<a.length) (hj:j<b.length) (hN:N<=i+j) (hx:a[i]?=some x) (hy:b[j]?=some y) (t:T x y) (h:∀ r,P2 T f a b N r->Q r st) :
  wpS M A E s (q4 (ar f a) (ar f b) i g c d (ar f o) j) Q st:=by
 unfold q4
 have J':JJ T (o++[x]) (a.drop (i+1)) (b.drop j) (a++b):=by
  have:=J
  rw [hO hx] at this
  exact this.mv λu hu=>by rw [Y6.mp hu]; exact gC K H.pb hy t
 refine X1 (bN hx ?_)
 rw [hJ,bX]
 by_cases e:i+1+1=a.length
 ·rw [if_pos (by rw [e]; exact beq_self_eq_true _)]
  exact X7 (h _ (.inl ⟨_,rfl,jr H J' e⟩))
 ·rw [if_neg (λz=>e (eq_of_beq z))]
  have w:Wn T f a b N (ar f (o++[x])) (i+1) j:=⟨_,rfl,J',by omega,hj,by omega⟩
  by_cases q:(decide (c<7) && decide (d<7))=true
  ·rw [if_pos q]; exact X7 (h _ (.inr ⟨rfl,w⟩))
  ·rw [if_neg q]; exact X7 (h _ ⟨rfl,w⟩)
theorem dd {a:List Nat} {i t:Nat} (h:t<a.length - i):a[i+t]?=some ((a[i+t]?).getD 0):=by
 rw [Z9 (by omega)]; rfl
theorem dd_mem {a:List Nat} {i t:Nat} (h:t<a.length - i):(a[i+t]?).getD 0∈a:=W8 (dd h)
theorem galR (K:Cx M A s κ f T X) {L:Bool} {a:List Nat} {i ky:Nat} {Q:Option Nat->SortSt->Prop} {st:SortSt} (hk:kindOf st=κ) (hy:X ky) (hX:∀ x∈a,X x) (ne:∀ x∈a,x≠ky) (pa:a.Pairwise T) (hi:i<a.length)
  (h:∀ k,k<=a.length - i->(∀ u∈(a.drop i).take k,T u ky)->(∀ u,a[i+k]?=some u->T ky u)->Q (some k) st):wpS M A E s (gal L (f ky) (ar f a) i ((ar f a).size - i) 0) Q st:=by
 rw [bX]
 refine nq K (d:=λt=>(a[i+t]?).getD 0) hk hy (λt ht=>hX _ (dd_mem ht)) (λt ht=>dd ht) (λt ht=>ne _ (dd_mem ht)) (λp q pq hq=>k8 pa (i:=i+p) (j:=i+q) (by omega) (dd (by omega)) (dd hq)) (by omega) λk hk' h0 h1=>h k hk' (λu hu=>?_) λu hu=>?_
 ·refine oq12 (mem_dt hu) λt ht e=>?_
  have:=h0 t ht
  rw [e] at this
  exact this
 ·have:=h1 k (nz6 _) (by have:=(Z4.mp hu).1; omega)
  rw [hu] at this
  exact this
theorem q3_ok (K:Cx M A s κ f T X) {a b:List Nat} (H:Two T X a b) {N g i j c d:Nat} {o:List Nat} {st:SortSt} {Q:ForInStep Z2->SortSt->Prop} (hk:kindOf st=κ) (J:JJ T o (a.drop i) (b.drop j) (a++b)) (hi:i+1<a.length) (hj:j<b.length) (hN:N<=i+j) (h:∀ r,P2 T f a b N r->Q r st) :
  wpS M A E s (q3 (ar f a) (ar f b) i g c d (ar f o) j) Q st:=by
 unfold q3
 refine oq12 (has (V:=a) (i:=i) (by omega)) λx hx mx=>?_
 refine X1 (bN hx (X1 (galR K hk (H.xa x mx) H.xb (λy hy=>R5 (H.ne x mx y hy)) H.pb hj λk hk' h0 h1=>?_)))
 dsimp only
 have J':JJ T (o++(b.drop j).take k) (a.drop i) (b.drop (j+k)) (a++b):=by
  have:=J.flip
  rw [drop_k (a:=b) (i:=j) (k:=k)] at this
  exact (this.mv λu hu=>gC K H.pa hx (h0 u hu)).flip
 by_cases kz:k > 0
 ·rw [if_pos kz,k7,gB,U9,bX]
  by_cases e:j+k=b.length
  ·rw [if_pos (by rw [e]; exact beq_self_eq_true _)]
   exact X7 (h _ (.inl ⟨_,rfl,nz J' e⟩))
  ·rw [if_neg (λz=>e (eq_of_beq z))]
   refine oq12 (has (V:=b) (i:=j+k) (by omega)) λy hy my=>?_
   exact q4_ok K H J' hi (by omega) (by omega) hx hy (h1 y hy) h
 ·rw [if_neg kz]
  have:k=0:=by omega
  subst this
  refine oq12 (has (V:=b) (i:=j) (by omega)) λy hy my=>?_
  exact q4_ok K H J hi hj hN hx hy (h1 y hy) h
theorem q2_ok (K:Cx M A s κ f T X) {a b:List Nat} (H:Two T X a b) {N g i j c d x y:Nat} {o:List Nat} {st:SortSt} {Q:ForInStep Z2->SortSt->Prop} (hk:kindOf st=κ) (J:JJ T o (a.drop i) (b.drop j) (a++b)) (hi:i+1<a.length) (hj:j<b.length) (hN:N<=i+j) (hx:a[i]?=some x) (hy:b[j]?=some y) (t:T y x) (h:∀ r,P2 T f a b N r->Q r st) :
  wpS M A E s (q2 (ar f a) (ar f b) j g c d (ar f o) i) Q st:=by
 unfold q2
 have J':JJ T (o++[y]) (a.drop i) (b.drop (j+1)) (a++b):=by
  have:=J.flip
  rw [hO hy] at this
  exact (this.mv λu hu=>by rw [Y6.mp hu]; exact gC K H.pa hx t).flip
 refine X1 (bN hy ?_)
 rw [hJ,bX]
 by_cases e:j+1=b.length
 ·rw [if_pos (by rw [e]; exact beq_self_eq_true _)]
  exact X7 (h _ (.inl ⟨_,rfl,nz J' e⟩))
 ·rw [if_neg (λz=>e (eq_of_beq z))]
  exact q3_ok K H hk J' hi (by omega) (by omega) h
theorem q1_ok (K:Cx M A s κ f T X) {a b:List Nat} (H:Two T X a b) {N g g0 i j c d:Nat} {o:Array Keyed} {l:List Nat} {pd:Array (Nat × Nat × Nat)} {Q:ForInStep Z2->SortSt->Prop} (W:Wn T f a b N o i j) (h:∀ r,P2 T f a b N r->Q r (St κ f l pd g)) :
  wpS M A E s (q1 (ar f a) (ar f b) o i j c d g) Q (St κ f l pd g0):=by
 refine oq15 W λo' e J hi hj hN=>?_
 subst e
 unfold q1
 rw [ny]
 refine X1 (wpS_modify ?_)
 show wpS M A E s _ Q (St κ f l pd g)
 refine oq12 (has (V:=b) (i:=j) hj) λy hy my=>?_
 refine X1 (bN hy (X1 (galR K rfl (H.xb y my) H.xa (λx hx=>H.ne x hx y my) H.pa (by omega) λk hk' h0 h1=>?_)))
 dsimp only
 have J':JJ T (o'++(a.drop i).take k) (a.drop (i+k)) (b.drop j) (a++b):=by
  have:=J
  rw [drop_k (a:=a) (i:=i) (k:=k)] at this
  exact this.mv λu hu=>gC K H.pb hy (h0 u hu)
 by_cases kz:k > 0
 ·rw [if_pos kz,k7,gB,U9,bX]
  by_cases e:i+k+1=a.length
  ·rw [if_pos (by rw [e]; exact beq_self_eq_true _)]
   exact X7 (h _ (.inl ⟨_,rfl,jr H J' e⟩))
  ·rw [if_neg (λz=>e (eq_of_beq z))]
   by_cases e2:i+k=a.length
   ·rw [if_pos (by rw [e2]; exact beq_self_eq_true _)]
    exact X7 (h _ (.inl ⟨_,rfl,fn_endA J' e2⟩))
   ·rw [if_neg (λz=>e2 (eq_of_beq z))]
    refine oq12 (has (V:=a) (i:=i+k) (by omega)) λx hx mx=>?_
    exact q2_ok K H rfl J' (by omega) hj (by omega) hx hy (h1 x hx) h
 ·rw [if_neg kz]
  have:k=0:=by omega
  subst this
  refine oq12 (has (V:=a) (i:=i) (by omega)) λx hx mx=>?_
  exact q2_ok K H rfl J hi hj hN hx hy (h1 x hx) h
theorem Wn.le {a b:List Nat} {N N' i j:Nat} {o:Array Keyed} (h:Wn T f a b N o i j) (q:N'<=N):Wn T f a b N' o i j:=oq15 h λo' e J hi hj hN=>⟨o',e,J,hi,hj,nz4 q hN⟩
theorem Wm.le {a b:List Nat} {N N' i j:Nat} {r:Option (Array Keyed)} {o:Array Keyed} (h:Wm T f a b N r o i j) (q:N'<=N):Wm T f a b N' r o i j:=h.imp id λz=>⟨z.1,z.2.le q⟩
theorem mlo_ok (K:Cx M A s κ f T X) {a b:List Nat} (H:Two T X a b) (ha:1<=a.length) (hb:1<=b.length) {g0:Nat} {l:List Nat} {pd:Array (Nat × Nat × Nat)} {Q:Array Keyed->SortSt->Prop} (h:∀ r g,Fn T f (a++b) r->Q r (St κ f l pd g)) :
  wpS M A E s (mlo (ar f a) (ar f b)) Q (St κ f l pd g0):=by
 rw [mlo_eq]
 refine X1 (wpS_lift (C3 ⟨rfl,?_⟩))
 refine oq12 (has (V:=b) (i:=0) hb) λy hy my=>?_
 refine X1 (bN hy ?_)
 have J:JJ T [y] (a.drop 0) (b.drop 1) (a++b):=by
  have j0:JJ T [] b a (a++b):=⟨show (b++a).Perm (a++b) from A0,H.pb,H.pa⟩
  have e:b=[y]++b.drop 1:=hO hy
  have j0:JJ T [] ([y]++b.drop 1) a (a++b):=e ▸ j0
  exact (j0.mv λu hu=>by rw [Y6.mp hu]; exact H.fb y hy).flip
 have sa:=bX (f:=f) a
 have sb:=bX (f:=f) b
 dsimp only
 rw [show (#[f y]:Array Keyed)=ar f [y] from rfl]
 by_cases e:1=b.length
 ·rw [if_pos (by rw [sb,<- e]; rfl)]
  exact X7 (h _ _ (nz J e))
 ·rw [if_neg (λz=>e ((eq_of_beq z).trans sb))]
  by_cases e2:0+1=a.length
  ·rw [if_pos (by rw [sa,<- e2]; rfl)]
   exact X7 (h _ _ (jr H J e2))
  ·rw [if_neg (λz=>e2 ((eq_of_beq z).trans sa))]
   refine X1 (wpS_get (X1 (E3 (Q5 (I:=λn c st=>(∃ g,st=St κ f l pd g)/\c.1=none/\Wn T f a b n c.2.1 c.2.2.1 c.2.2.2.1) (Q:=λc st=>(∃ g,st=St κ f l pd g)/\∃ z,c.1=some z/\Fn T f (a++b) z) ?_ ?_ ⟨⟨g0,rfl⟩,rfl,[y],rfl,J,show 0+1<a.length by omega,show 1<b.length by omega,U2 _⟩) ?_)))
   ·intro n c st _ hn z
    refine oq03 z λeg e1 W=>oq11 eg λg1 eg=>?_
    subst eg
    refine X1 (E3 (Q5 (I:=λm c st'=>st'=St κ f l pd g1/\c.1=none/\Wn T f a b (n+m) c.2.1 c.2.2.1 c.2.2.2.1) (Q:=λc st'=>st'=St κ f l pd g1/\Wm T f a b (n+1) c.1 c.2.1 c.2.2.1 c.2.2.2.1) ?_ ?_ ⟨rfl,rfl,W⟩) ?_)
    ·intro m c st _ hm z
     refine oq03 z λe1 e2 W=>?_
     subst e1
     refine w1_ok (i:=c.2.2.1) (j:=c.2.2.2.1) (c:=c.2.2.2.2.1) (d:=c.2.2.2.2.2) K H rfl W λr p=>?_
     cases r with
     | done z=>exact ⟨rfl,Wm.le p (by omega)⟩
     | yield z=>exact ⟨rfl,p⟩
    ·intro c st z
     exact ⟨z.1,.inr ⟨z.2.1,z.2.2.le (by omega)⟩⟩
    ·intro c st z
     refine oq02 z λe1 W=>?_
     subst e1
     rcases W with W | W
     ·refine oq12 W λz e w=>?_
      rw [e]
      exact X7 ⟨⟨_,rfl⟩,z,rfl,w⟩
     ·rw [W.1]
      refine X1 (wpS_lift (C3 ⟨rfl,?_⟩))
      refine X1 (E3 (Q5 (I:=λm c st'=>(∃ g,st'=St κ f l pd g)/\c.1=none/\Wn T f a b (n+1) c.2.1 c.2.2.1 c.2.2.2.1) (Q:=λc st'=>(∃ g,st'=St κ f l pd g)/\Wm T f a b (n+1) c.1 c.2.1 c.2.2.1 c.2.2.2.1) ?_ ?_ ⟨⟨_,rfl⟩,rfl,W.2⟩) ?_)
      ·intro m c st _ hm z
       refine oq03 z λeg e2 W=>oq11 eg λg2 eg=>?_
       subst eg
       by_cases q:c.2.2.2.2.1 > 1
       ·rw [if_pos q]
        exact q1_ok (i:=c.2.2.1) (j:=c.2.2.2.1) (g:=c.2.2.2.2.1 - 1) (c:=c.2.2.2.2.2.1) (d:=c.2.2.2.2.2.2) K H W λr p=>by cases r <;> exact ⟨⟨_,rfl⟩,p⟩
       ·rw [if_neg q]
        exact q1_ok (i:=c.2.2.1) (j:=c.2.2.2.1) (g:=c.2.2.2.2.1) (c:=c.2.2.2.2.2.1) (d:=c.2.2.2.2.2.2) K H W λr p=>by cases r <;> exact ⟨⟨_,rfl⟩,p⟩
      ·intro c st z
       exact ⟨z.1,.inr z.2⟩
      ·intro c st z
       refine oq02 z λeg W=>oq11 eg λg2 eg=>?_
       subst eg
       rcases W with W | W
       ·refine oq12 W λz e w=>?_
        rw [e]
        exact X7 ⟨⟨_,rfl⟩,z,rfl,w⟩
       ·rw [W.1]
        rw [ny]
        exact X1 (wpS_modify (X7 ⟨⟨_,rfl⟩,rfl,W.2⟩))
   ·intro c st z
    refine oq03 z λeg e1 W=>oq15 W λo' _ _ w1 w2 w3=>?_
    rw [sa,sb] at w3
    omega
   ·intro c st z
    refine oq02 z λeg z=>oq12 z λv e w=>oq11 eg λg2 eg=>?_
    subst eg
    rw [e]
    exact X7 (h v g2 w)
end
section
variable {M:Model} {A:Around} {E:Value->Shared->Prop} {s:Shared} {κ:B0} {f:Nat->Keyed} {T:Nat->Nat->Prop} {X:Nat->Prop}
noncomputable def fB (x y o:Array Keyed) (p q:Nat):Array Keyed:=x.extract 0 p++y.extract 0 q++o.reverse
noncomputable abbrev Y2:=Option (Array Keyed) × Nat × Nat × Array Keyed × Nat × Nat × Nat
noncomputable def h4 (x y:Array Keyed) (p g c d:Nat) (o:Array Keyed) (q:Nat):StateT SortSt Sem (ForInStep Y2):=do
 let z <- elem' x (p - 1)
 if p - 1 == 0 then pure (.done (some (fB x y (o.push z) (p - 1) q),p - 1,q,o.push z,g,c,d))
 else if c<7 && d<7 then pure (.done (none,p - 1,q,o.push z,g,c,d)) else pure (.yield (none,p - 1,q,o.push z,g,c,d))
noncomputable def h3 (x y:Array Keyed) (p g c d:Nat) (o:Array Keyed) (q:Nat):StateT SortSt Sem (ForInStep Y2):=do
 match <- gal true (<- elem' x (p - 1)) y 0 q (q - 1) with
 | some t=>if q - t > 0 then (if t == 1 then pure (.done (some (fB y x (o++(y.extract t q).reverse) t p),p,t,o++(y.extract t q).reverse,g,c,q - t)) else if t == 0 then pure (.done (some (fB x y (o++(y.extract t q).reverse) p t),p,t,o++(y.extract t q).reverse,g,c,q - t)) else h4 x y p g c (q - t) (o++(y.extract t q).reverse) t) else h4 x y p g c (q - t) o q
 | _=>pure (.done (some (fB x y o p q),p,q,o,g,c,d))
noncomputable def h2 (x y:Array Keyed) (q g c d:Nat) (o:Array Keyed) (p:Nat):StateT SortSt Sem (ForInStep Y2):=do
 let z <- elem' y (q - 1)
 if q - 1 == 1 then pure (.done (some (fB y x (o.push z) (q - 1) p),p,q - 1,o.push z,g,c,d)) else h3 x y p g c d (o.push z) (q - 1)
noncomputable def h1 (x y:Array Keyed) (p q:Nat) (o:Array Keyed) (c d g:Nat):StateT SortSt Sem (ForInStep Y2):=do
 smg g
 match <- gal false (<- elem' y (q - 1)) x 0 p (p - 1) with
 | some t=>if p - t > 0 then (if t == 0 then pure (.done (some (fB x y (o++(x.extract t p).reverse) t q),t,q,o++(x.extract t p).reverse,g,p - t,d)) else h2 x y q g (p - t) d (o++(x.extract t p).reverse) t) else h2 x y q g (p - t) d o p
 | _=>pure (.done (some (fB x y o p q),p,q,o,g,c,d))
noncomputable abbrev Y1:=Option (Array Keyed) × Nat × Nat × Array Keyed × Nat × Nat
noncomputable def v1 (x y:Array Keyed) (g:Nat) (z:Y1):StateT SortSt Sem (ForInStep Y1):=do
 match <- lt' (<- elem' y (z.2.2.1 - 1)) (<- elem' x (z.2.1 - 1)) with
 | some w =>
  if w=true then do
   let e <- elem' x (z.2.1 - 1)
   if z.2.1 - 1 == 0 then pure (.done (some (fB x y (z.2.2.2.1.push e) (z.2.1 - 1) z.2.2.1),z.2.1 - 1,z.2.2.1,z.2.2.2.1.push e,z.2.2.2.2.1+1,0))
   else if z.2.2.2.2.1+1 ≥ g then pure (.done (none,z.2.1 - 1,z.2.2.1,z.2.2.2.1.push e,z.2.2.2.2.1+1,0)) else pure (.yield (none,z.2.1 - 1,z.2.2.1,z.2.2.2.1.push e,z.2.2.2.2.1+1,0))
  else do
   let e <- elem' y (z.2.2.1 - 1)
   if z.2.2.1 - 1 == 1 then pure (.done (some (fB y x (z.2.2.2.1.push e) (z.2.2.1 - 1) z.2.1),z.2.1,z.2.2.1 - 1,z.2.2.2.1.push e,0,z.2.2.2.2.2+1))
   else if z.2.2.2.2.2+1 ≥ g then pure (.done (none,z.2.1,z.2.2.1 - 1,z.2.2.2.1.push e,0,z.2.2.2.2.2+1)) else pure (.yield (none,z.2.1,z.2.2.1 - 1,z.2.2.2.1.push e,0,z.2.2.2.2.2+1))
 | _=>pure (.done (some (fB x y z.2.2.2.1 z.2.1 z.2.2.1),z.2.1,z.2.2.1,z.2.2.2.1,z.2.2.2.2.1,z.2.2.2.2.2))
theorem mhi_eq (x y:Array Keyed):mhi x y=(do
  rule "list.sort.merge-hi"
  let mut p:=x.size - 1
  let mut q:=y.size
  let mut o:Array Keyed:=#[<- elem' x p]
  if p == 0 then return fB x y o p q
  if q == 1 then return fB y x o q p
  let mut g:=gallopOf (<- get)
  for _ in [0:x.size+y.size] do
   let mut c:=0
   let mut d:=0
   for _ in [0:x.size+y.size] do
    let some w <- lt' (<- elem' y (q - 1)) (<- elem' x (p - 1)) | return fB x y o p q
    if w then
     p:=p - 1; o:=o.push (<- elem' x p); c:=c+1; d:=0
     if p == 0 then return fB x y o p q
     if c ≥ g then break
    else
     q:=q - 1; o:=o.push (<- elem' y q); d:=d+1; c:=0
     if q == 1 then return fB y x o q p
     if d ≥ g then break
   rule "list.sort.gallop"
   g:=g+1
   for _ in [0:x.size+y.size] do
    if g > 1 then g:=g - 1
    smg g
    let some t <- gal false (<- elem' y (q - 1)) x 0 p (p - 1) | return fB x y o p q
    let k:=p - t
    c:=k
    if k > 0 then
     o:=o++(x.extract t p).reverse; p:=t
     if p == 0 then return fB x y o p q
    q:=q - 1; o:=o.push (<- elem' y q)
    if q == 1 then return fB y x o q p
    let some t <- gal true (<- elem' x (p - 1)) y 0 q (q - 1) | return fB x y o p q
    let k:=q - t
    d:=k
    if k > 0 then
     o:=o++(y.extract t q).reverse; q:=t
     if q == 1 then return fB y x o q p
     if q == 0 then return fB x y o p q
    p:=p - 1; o:=o.push (<- elem' x p)
    if p == 0 then return fB x y o p q
    if c<7 && d<7 then break
   g:=g+1
   smg g
  unsupported "internal:list.sort.merge-bound"):=rfl
theorem ar_rev (x:List Nat):(ar f x).reverse=ar f x.reverse:=by
 show (Z6 (x.map f)).reverse=Z6 (x.reverse.map f)
 rw [List.reverse_toArray,List.map_reverse]
theorem hV (x:List Nat) (a:Nat):(ar f x.reverse).push (f a)=ar f (a :: x).reverse:=by
 rw [hJ,List.reverse_cons]
theorem ar_exR (x a:List Nat) (t p:Nat):ar f x.reverse++((ar f a).extract t p).reverse=ar f ((a.drop t).take (p - t)++x).reverse:=by
 rw [k7,ar_rev,gB,List.reverse_append]
theorem fB_ar (a b o:List Nat) (p q:Nat):fB (ar f a) (ar f b) (ar f o.reverse) p q=ar f (a.take p++b.take q++o):=by
 unfold fB
 rw [k7,k7,gB,ar_rev,gB,List.reverse_reverse]; rfl
structure KK (T:Nat->Nat->Prop) (P R o al:List Nat):Prop where
 pm:((P++R)++o).Perm al
 p1:(P++o).Pairwise T
 p2:(R++o).Pairwise T
theorem KK.flip {o P R al:List Nat} (h:KK T P R o al):KK T R P o al:=⟨(List.Perm.append_right _ A0).trans h.pm,h.p2,h.p1⟩
theorem KK.mv {o U P R al:List Nat} (h:KK T (P++U) R o al) (hu:∀ u∈U,∀ r∈R,T r u):KK T P R (U++o) al:=by
 have p1:=h.p1
 rw [Y9] at p1
 have p2:=W7.mp h.p2
 have p3:=W7.mp p1
 refine ⟨List.Perm.trans ?_ h.pm,p1,W7.mpr ⟨p2.1,p3.2.1,λr hr x hx=>?_⟩⟩
 ·rw [<- Y9]
  refine List.Perm.append_right _ ?_
  rw [Y9,Y9]
  exact B9 _ A0
 ·exact (W9.mp hx).elim (λz=>hu x z r hr) λz=>p2.2.2 r hr x z
theorem KK.end {o P R al:List Nat} (h:KK T P R o al) (e:P=[]):(P++R++o).Perm al/\(P++R++o).Pairwise T:=by
 subst e
 exact ⟨h.pm,h.p2⟩
theorem KK.last {o P R al:List Nat} (h:KK T P R o al) (hu:∀ r∈R,∀ p∈P,T r p):(R++P++o).Perm al/\(R++P++o).Pairwise T:=by
 have p1:=W7.mp h.p1
 have p2:=W7.mp h.p2
 refine ⟨h.flip.pm,?_⟩
 rw [Y9]
 refine W7.mpr ⟨p2.1,h.p1,λr hr x hx=>?_⟩
 exact (W9.mp hx).elim (λz=>hu r hr x z) λz=>p2.2.2 r hr x z
theorem hW {a:List Nat} {p x:Nat} (h:a[p - 1]?=some x) (hp:1<=p):a.take p=a.take (p - 1)++[x]:=by
 rw [show p=p - 1+1 by omega,List.take_succ,Nat.add_sub_cancel,h]; rfl
theorem take_k {a:List Nat} {t p:Nat} (h:t<=p):a.take p=a.take t++(a.drop t).take (p - t):=by
 rw [<- List.drop_take]
 conv=>lhs; rw [<- W0 t (a.take p),List.take_take,Q7 h]
theorem k9 {a:List Nat} {k u:Nat} (h:u∈a.take k):∃ t,t<k/\a[t]?=some u:=oq11 (R8 h) λt z=>K2 z λht z=>by
 have tk:t<k:=nz1 ht (E9 _ _)
 exact ⟨t,tk,by rw [<- R3 tk,<- z]; exact Z9 ht⟩
theorem nA (K:Cx M A s κ f T X) {b:List Nat} (h:b.Pairwise T) {q u y:Nat} (hy:b[q - 1]?=some y) (t:T y u):∀ r∈b.take q,T r u:=λr hr=>oq12 (k9 hr) λk hk e=>by
 rcases L7 k (q - 1) with z | z
 ·exact K.tr (k8 h z e hy) t
 ·rw [show k=q - 1 by omega,hy] at e
  exact Z7 e ▸ t
theorem galH (K:Cx M A s κ f T X) {L:Bool} {a:List Nat} {p ky:Nat} {Q:Option Nat->SortSt->Prop} {st:SortSt} (hk:kindOf st=κ) (hy:X ky) (hX:∀ x∈a,X x) (ne:∀ x∈a,x≠ky) (pa:a.Pairwise T) (hp:p<=a.length) (h1:1<=p)
  (h:∀ t,t<=p->(∀ u∈a.take t,T u ky)->(∀ u∈(a.drop t).take (p - t),T ky u)->Q (some t) st):wpS M A E s (gal L (f ky) (ar f a) 0 p (p - 1)) Q st:=by
 have at0:∀ i,i<p->a[0+i]?=some ((a[i]?).getD 0):=λi hi=>by rw [Nat.zero_add,Z9 (by omega)]; rfl
 have mem:∀ i,i<p->(a[i]?).getD 0∈a:=λi hi=>W8 (at0 i hi)
 refine nq K (d:=λt=>(a[t]?).getD 0) hk hy (λt ht=>hX _ (mem t ht)) at0 (λt ht=>ne _ (mem t ht)) (λp' q pq hq=>k8 pa (i:=0+p') (j:=0+q) (by omega) (at0 _ (by omega)) (at0 _ hq)) (by omega) λt ht h0 h1=>h t ht (λu hu=>?_) λu hu=>?_
 ·refine oq12 (k9 hu) λi hi e=>?_
  have:=h0 i hi
  rw [e] at this
  exact this
 ·refine oq12 (mem_dt hu) λi hi e=>?_
  have:=h1 (t+i) (by omega) (by omega)
  rw [e] at this
  exact this
noncomputable def Vn (T:Nat->Nat->Prop) (f:Nat->Keyed) (a b:List Nat) (N:Nat) (o:Array Keyed) (p q:Nat):Prop :=
 ∃ o',o=ar f o'.reverse/\KK T (a.take p) (b.take q) o' (a++b)/\(1<=p/\p<=a.length)/\(2<=q/\q<=b.length)/\N+p+q<=a.length+b.length
noncomputable def Vm (T:Nat->Nat->Prop) (f:Nat->Keyed) (a b:List Nat) (N:Nat) (r:Option (Array Keyed)) (o:Array Keyed) (i j:Nat):Prop :=
 (∃ z,r=some z/\Fn T f (a++b) z)\/(r=none/\Vn T f a b N o i j)
theorem nB {a b o:List Nat} {p q:Nat} (h:KK T (a.take p) (b.take q) o (a++b)) (e:p=0):Fn T f (a++b) (fB (ar f a) (ar f b) (ar f o.reverse) p q):=⟨_,fB_ar a b o p q,h.end (by rw [e,List.take_zero])⟩
theorem gn_endB {a b o:List Nat} {p q:Nat} (h:KK T (a.take p) (b.take q) o (a++b)) (e:q=0):Fn T f (a++b) (fB (ar f a) (ar f b) (ar f o.reverse) p q):=by
 refine ⟨_,fB_ar a b o p q,?_⟩
 have e':b.take q=[]:=by rw [e,List.take_zero]
 have:=h.flip.end e'
 rw [e',V6]
 rw [e',List.nil_append] at this
 exact this
theorem js {a b o:List Nat} {p q:Nat} (H:Two T X a b) (h:KK T (a.take p) (b.take q) o (a++b)) (e:q=1):Fn T f (a++b) (fB (ar f b) (ar f a) (ar f o.reverse) q p):=by
 refine ⟨_,fB_ar b a o q p,h.last λr hr x hx=>?_⟩
 refine oq12 (k9 hr) λi hi z=>?_
 rw [show i=0 by omega] at z
 exact H.fb r z x (K1 hx)
def tSq1 (T:Nat->Nat->Prop) (f:Nat->Keyed) (a b:List Nat) (N:Nat):ForInStep Y1->Prop
 | .done z=>Vm T f a b N z.1 z.2.2.2.1 z.2.1 z.2.2.1
 | .yield z=>z.1=none/\Vn T f a b N z.2.2.2.1 z.2.1 z.2.2.1
def S2' (T:Nat->Nat->Prop) (f:Nat->Keyed) (a b:List Nat) (N:Nat):ForInStep Y2->Prop
 | .done z=>Vm T f a b N z.1 z.2.2.2.1 z.2.1 z.2.2.1
 | .yield z=>z.1=none/\Vn T f a b N z.2.2.2.1 z.2.1 z.2.2.1
theorem v1_ok (K:Cx M A s κ f T X) {a b:List Nat} (H:Two T X a b) {N g p q c d:Nat} {o:Array Keyed} {st:SortSt} {Q:ForInStep Y1->SortSt->Prop} (hk:kindOf st=κ) (W:Vn T f a b N o p q) (h:∀ r,tSq1 T f a b (N+1) r->Q r st) :
  wpS M A E s (v1 (ar f a) (ar f b) g (none,p,q,o,c,d)) Q st:=by
 refine oq15 W λo' e J hp hq hN=>?_
 subst e
 refine oq12 (has (V:=a) (i:=p - 1) (by omega)) λx hx mx=>oq12 (has (V:=b) (i:=q - 1) (by omega)) λy hy my=>?_
 unfold v1
 dsimp only
 refine X1 (bN hy (X1 (bN hx (X1 (pG K hk (H.xb y my) (H.xa x mx) (λt=>?_) λt=>?_)))))
 ·have J':KK T (a.take (p - 1)) (b.take q) ([x]++o') (a++b):=by
   have:=J
   rw [hW hx hp.1] at this
   exact this.mv λu hu=>by rw [Y6.mp hu]; exact nA K H.pb hy t
  refine X1 (bN hx ?_)
  rw [hV]
  by_cases e:p - 1=0
  ·rw [if_pos (by rw [e]; exact beq_self_eq_true _)]
   exact X7 (h _ (.inl ⟨_,rfl,nB J' e⟩))
  ·rw [if_neg (λz=>e (eq_of_beq z))]
   have w:Vn T f a b (N+1) (ar f (x :: o').reverse) (p - 1) q:=⟨_,rfl,J',by omega,hq,by omega⟩
   by_cases q:c+1 ≥ g
   ·rw [if_pos q]; exact X7 (h _ (.inr ⟨rfl,w⟩))
   ·rw [if_neg q]; exact X7 (h _ ⟨rfl,w⟩)
 ·have t:=t.resolve_left (R5 (H.ne x mx y my))
  have J':KK T (a.take p) (b.take (q - 1)) ([y]++o') (a++b):=by
   have:=J.flip
   rw [hW hy (by omega)] at this
   exact (this.mv λu hu=>by rw [Y6.mp hu]; exact nA K H.pa hx t).flip
  refine X1 (bN hy ?_)
  rw [hV]
  by_cases e:q - 1=1
  ·rw [if_pos (by rw [e]; exact beq_self_eq_true _)]
   exact X7 (h _ (.inl ⟨_,rfl,js H J' e⟩))
  ·rw [if_neg (λz=>e (eq_of_beq z))]
   have w:Vn T f a b (N+1) (ar f (y :: o').reverse) p (q - 1):=⟨_,rfl,J',hp,by omega,by omega⟩
   by_cases q:d+1 ≥ g
   ·rw [if_pos q]; exact X7 (h _ (.inr ⟨rfl,w⟩))
   ·rw [if_neg q]; exact X7 (h _ ⟨rfl,w⟩)
theorem h4_ok (K:Cx M A s κ f T X) {a b:List Nat} (H:Two T X a b) {N g p q c d x:Nat} {o:List Nat} {st:SortSt} {Q:ForInStep Y2->SortSt->Prop} (J:KK T (a.take p) (b.take q) o (a++b)) (hp:1<=p/\p<=a.length) (hq:2<=q/\q<=b.length) (hN:N+p+q<=a.length+b.length) (hx:a[p - 1]?=some x) (t:∀ u∈b.take q,T u x) (h:∀ r,S2' T f a b N r->Q r st) :
  wpS M A E s (h4 (ar f a) (ar f b) p g c d (ar f o.reverse) q) Q st:=by
 unfold h4
 have J':KK T (a.take (p - 1)) (b.take q) ([x]++o) (a++b):=by
  have:=J
  rw [hW hx hp.1] at this
  exact this.mv λu hu=>by rw [Y6.mp hu]; exact t
 refine X1 (bN hx ?_)
 rw [hV]
 by_cases e:p - 1=0
 ·rw [if_pos (by rw [e]; exact beq_self_eq_true _)]
  exact X7 (h _ (.inl ⟨_,rfl,nB J' e⟩))
 ·rw [if_neg (λz=>e (eq_of_beq z))]
  have w:Vn T f a b N (ar f (x :: o).reverse) (p - 1) q:=⟨_,rfl,J',by omega,hq,by omega⟩
  by_cases z:(decide (c<7) && decide (d<7))=true
  ·rw [if_pos z]; exact X7 (h _ (.inr ⟨rfl,w⟩))
  ·rw [if_neg z]; exact X7 (h _ ⟨rfl,w⟩)
theorem h3_ok (K:Cx M A s κ f T X) {a b:List Nat} (H:Two T X a b) {N g p q c d:Nat} {o:List Nat} {st:SortSt} {Q:ForInStep Y2->SortSt->Prop} (hk:kindOf st=κ) (J:KK T (a.take p) (b.take q) o (a++b)) (hp:1<=p/\p<=a.length) (hq:2<=q/\q<=b.length) (hN:N+p+q<=a.length+b.length) (h:∀ r,S2' T f a b N r->Q r st) :
  wpS M A E s (h3 (ar f a) (ar f b) p g c d (ar f o.reverse) q) Q st:=by
 unfold h3
 refine oq12 (has (V:=a) (i:=p - 1) (by omega)) λx hx mx=>?_
 refine X1 (bN hx (X1 (galH K hk (H.xa x mx) H.xb (λy hy=>R5 (H.ne x mx y hy)) H.pb hq.2 (by omega) λt ht h0 h1=>?_)))
 dsimp only
 have J':KK T (a.take p) (b.take t) ((b.drop t).take (q - t)++o) (a++b):=by
  have:=J.flip
  rw [take_k ht] at this
  exact (this.mv λu hu=>nA K H.pa hx (h1 u hu)).flip
 by_cases kz:q - t > 0
 ·rw [if_pos kz,ar_exR]
  by_cases e:t=1
  ·rw [if_pos (by rw [e]; exact beq_self_eq_true _)]
   exact X7 (h _ (.inl ⟨_,rfl,js H J' e⟩))
  ·rw [if_neg (λz=>e (eq_of_beq z))]
   by_cases e2:t=0
   ·rw [if_pos (by rw [e2]; exact beq_self_eq_true _)]
    exact X7 (h _ (.inl ⟨_,rfl,gn_endB J' e2⟩))
   ·rw [if_neg (λz=>e2 (eq_of_beq z))]
    exact h4_ok K H J' hp (by omega) (by omega) hx h0 h
 ·rw [if_neg kz]
  have:t=q:=by omega
  subst this
  exact h4_ok K H J hp hq hN hx h0 h
theorem h2_ok (K:Cx M A s κ f T X) {a b:List Nat} (H:Two T X a b) {N g p q c d y:Nat} {o:List Nat} {st:SortSt} {Q:ForInStep Y2->SortSt->Prop} (hk:kindOf st=κ) (J:KK T (a.take p) (b.take q) o (a++b)) (hp:1<=p/\p<=a.length) (hq:2<=q/\q<=b.length) (hN:N+p+q<=a.length+b.length) (hy:b[q - 1]?=some y) (t:∀ u∈a.take p,T u y) (h:∀ r,S2' T f a b N r->Q r st) :
  wpS M A E s (h2 (ar f a) (ar f b) q g c d (ar f o.reverse) p) Q st:=by
 unfold h2
 have J':KK T (a.take p) (b.take (q - 1)) ([y]++o) (a++b):=by
  have:=J.flip
  rw [hW hy (by omega)] at this
  exact (this.mv λu hu=>by rw [Y6.mp hu]; exact t).flip
 refine X1 (bN hy ?_)
 rw [hV]
 by_cases e:q - 1=1
 ·rw [if_pos (by rw [e]; exact beq_self_eq_true _)]
  exact X7 (h _ (.inl ⟨_,rfl,js H J' e⟩))
 ·rw [if_neg (λz=>e (eq_of_beq z))]
  exact h3_ok K H hk J' hp (by omega) (by omega) h
theorem h1_ok (K:Cx M A s κ f T X) {a b:List Nat} (H:Two T X a b) {N g g0 p q c d:Nat} {o:Array Keyed} {l:List Nat} {pd:Array (Nat × Nat × Nat)} {Q:ForInStep Y2->SortSt->Prop} (W:Vn T f a b N o p q) (h:∀ r,S2' T f a b N r->Q r (St κ f l pd g)) :
  wpS M A E s (h1 (ar f a) (ar f b) p q o c d g) Q (St κ f l pd g0):=by
 refine oq15 W λo' e J hp hq hN=>?_
 subst e
 unfold h1
 rw [ny]
 refine X1 (wpS_modify ?_)
 show wpS M A E s _ Q (St κ f l pd g)
 refine oq12 (has (V:=b) (i:=q - 1) (by omega)) λy hy my=>?_
 refine X1 (bN hy (X1 (galH K rfl (H.xb y my) H.xa (λx hx=>H.ne x hx y my) H.pa hp.2 hp.1 λt ht h0 h1=>?_)))
 dsimp only
 have J':KK T (a.take t) (b.take q) ((a.drop t).take (p - t)++o') (a++b):=by
  have:=J
  rw [take_k ht] at this
  exact this.mv λu hu=>nA K H.pb hy (h1 u hu)
 by_cases kz:p - t > 0
 ·rw [if_pos kz,ar_exR]
  by_cases e:t=0
  ·rw [if_pos (by rw [e]; exact beq_self_eq_true _)]
   exact X7 (h _ (.inl ⟨_,rfl,nB J' e⟩))
  ·rw [if_neg (λz=>e (eq_of_beq z))]
   exact h2_ok K H rfl J' (by omega) hq (by omega) hy h0 h
 ·rw [if_neg kz]
  have:t=p:=by omega
  subst this
  exact h2_ok K H rfl J hp hq hN hy h0 h
theorem Vn.le {a b:List Nat} {N N' i j:Nat} {o:Array Keyed} (h:Vn T f a b N o i j) (q:N'<=N):Vn T f a b N' o i j:=oq15 h λo' e J hi hj hN=>⟨o',e,J,hi,hj,by omega⟩
theorem Vm.le {a b:List Nat} {N N' i j:Nat} {r:Option (Array Keyed)} {o:Array Keyed} (h:Vm T f a b N r o i j) (q:N'<=N):Vm T f a b N' r o i j:=h.imp id λz=>⟨z.1,z.2.le q⟩
theorem mhi_ok (K:Cx M A s κ f T X) {a b:List Nat} (H:Two T X a b) (ha:1<=a.length) (hb:1<=b.length) {g0:Nat} {l:List Nat} {pd:Array (Nat × Nat × Nat)} {Q:Array Keyed->SortSt->Prop} (h:∀ r g,Fn T f (a++b) r->Q r (St κ f l pd g)) :
  wpS M A E s (mhi (ar f a) (ar f b)) Q (St κ f l pd g0):=by
 rw [mhi_eq]
 refine X1 (wpS_lift (C3 ⟨rfl,?_⟩))
 refine oq12 (has (V:=a) (i:=a.length - 1) (by omega)) λx hx mx=>?_
 have sa:=bX (f:=f) a
 have sb:=bX (f:=f) b
 have J:KK T (a.take (a.length - 1)) (b.take b.length) [x] (a++b):=by
  have j0:KK T a b [] (a++b):=⟨by rw [V6],by rw [V6]; exact H.pa,by rw [V6]; exact H.pb⟩
  have e:a=a.take (a.length - 1)++[x]:=(N7 (l:=a)).symm.trans (hW hx ha)
  have j0:KK T (a.take (a.length - 1)++[x]) b [] (a++b):=e ▸ j0
  rw [N7]
  exact j0.mv λu hu=>by rw [Y6.mp hu]; exact H.la x hx
 refine X1 (bN (x:=x) (by rw [sa,hx]) ?_)
 rw [show (#[f x]:Array Keyed)=ar f [x].reverse from rfl]
 dsimp only
 rw [sa,sb]
 by_cases e:a.length - 1=0
 ·rw [if_pos (by rw [e]; rfl)]
  exact X7 (h _ _ (nB J e))
 ·rw [if_neg (λz=>e (eq_of_beq z))]
  by_cases e2:b.length=1
  ·rw [if_pos (by rw [e2]; rfl)]
   exact X7 (h _ _ (js H J e2))
  ·rw [if_neg (λz=>e2 (eq_of_beq z))]
   refine X1 (wpS_get (X1 (E3 (Q5 (I:=λn c st=>(∃ g,st=St κ f l pd g)/\c.1=none/\Vn T f a b n c.2.2.2.1 c.2.1 c.2.2.1) (Q:=λc st=>(∃ g,st=St κ f l pd g)/\∃ z,c.1=some z/\Fn T f (a++b) z) ?_ ?_ ⟨⟨g0,rfl⟩,rfl,[x],rfl,J,show 1<=a.length - 1/\a.length - 1<=a.length by omega,show 2<=b.length/\b.length<=b.length by omega,show 0+(a.length - 1)+b.length<=a.length+b.length by omega⟩) ?_)))
   ·intro n c st _ hn z
    refine oq03 z λeg e1 W=>oq11 eg λg1 eg=>?_
    subst eg
    refine X1 (E3 (Q5 (I:=λm c st'=>st'=St κ f l pd g1/\c.1=none/\Vn T f a b (n+m) c.2.2.2.1 c.2.1 c.2.2.1) (Q:=λc st'=>st'=St κ f l pd g1/\Vm T f a b (n+1) c.1 c.2.2.2.1 c.2.1 c.2.2.1) ?_ ?_ ⟨rfl,rfl,W⟩) ?_)
    ·intro m c st _ hm z
     refine oq03 z λe1 e2 W=>?_
     subst e1
     refine v1_ok (p:=c.2.1) (q:=c.2.2.1) (c:=c.2.2.2.2.1) (d:=c.2.2.2.2.2) K H rfl W λr p=>?_
     cases r with
     | done z=>exact ⟨rfl,Vm.le p (by omega)⟩
     | yield z=>exact ⟨rfl,p⟩
    ·intro c st z
     exact ⟨z.1,.inr ⟨z.2.1,z.2.2.le (by omega)⟩⟩
    ·intro c st z
     refine oq02 z λe1 W=>?_
     subst e1
     rcases W with W | W
     ·refine oq12 W λz e w=>?_
      rw [e]
      exact X7 ⟨⟨_,rfl⟩,z,rfl,w⟩
     ·rw [W.1]
      refine X1 (wpS_lift (C3 ⟨rfl,?_⟩))
      refine X1 (E3 (Q5 (I:=λm c st'=>(∃ g,st'=St κ f l pd g)/\c.1=none/\Vn T f a b (n+1) c.2.2.2.1 c.2.1 c.2.2.1) (Q:=λc st'=>(∃ g,st'=St κ f l pd g)/\Vm T f a b (n+1) c.1 c.2.2.2.1 c.2.1 c.2.2.1) ?_ ?_ ⟨⟨_,rfl⟩,rfl,W.2⟩) ?_)
      ·intro m c st _ hm z
       refine oq03 z λeg e2 W=>oq11 eg λg2 eg=>?_
       subst eg
       by_cases q:c.2.2.2.2.1 > 1
       ·rw [if_pos q]
        exact h1_ok (p:=c.2.1) (q:=c.2.2.1) (g:=c.2.2.2.2.1 - 1) (c:=c.2.2.2.2.2.1) (d:=c.2.2.2.2.2.2) K H W λr p=>by cases r <;> exact ⟨⟨_,rfl⟩,p⟩
       ·rw [if_neg q]
        exact h1_ok (p:=c.2.1) (q:=c.2.2.1) (g:=c.2.2.2.2.1) (c:=c.2.2.2.2.2.1) (d:=c.2.2.2.2.2.2) K H W λr p=>by cases r <;> exact ⟨⟨_,rfl⟩,p⟩
      ·intro c st z
       exact ⟨z.1,.inr z.2⟩
      ·intro c st z
       refine oq02 z λeg W=>oq11 eg λg2 eg=>?_
       subst eg
       rcases W with W | W
       ·refine oq12 W λz e w=>?_
        rw [e]
        exact X7 ⟨⟨_,rfl⟩,z,rfl,w⟩
       ·rw [W.1]
        rw [ny]
        exact X1 (wpS_modify (X7 ⟨⟨_,rfl⟩,rfl,W.2⟩))
   ·intro c st z
    refine oq03 z λeg e1 W=>oq15 W λo' _ _ w1 w2 w3=>?_
    omega
   ·intro c st z
    refine oq02 z λeg z=>oq12 z λv e w=>oq11 eg λg2 eg=>?_
    subst eg
    rw [e]
    exact X7 (h v g2 w)
end
section
variable {M:Model} {A:Around} {E:Value->Shared->Prop} {s:Shared} {κ:B0} {f:Nat->Keyed} {T:Nat->Nat->Prop} {X:Nat->Prop}
theorem mat_eq (i:Nat):mergeAt' i=(do
  let z <- get
  let (some (sa,na,pw),some (sb,nb,_)):=((D6 z)[i]?,(D6 z)[i+1]?) | unsupported "internal:list.sort.pending"
  set (J7 (kindOf z) (arrOf z) (((D6 z).setIfInBounds i (sa,na+nb,pw)).eraseIdxIfInBounds (i+1)) (gallopOf z) (failedOf z))
  let some k <- gal false (<- elem' (arrOf z) sb) (arrOf z) sa na 0 | return false
  let (sa,na):=(sa+k,na - k)
  if na == 0 then return true
  let some nb <- gal true (<- elem' (arrOf z) (sa+na - 1)) (arrOf z) sb nb (nb - 1) | return false
  if nb == 0 then return true
  let w <- if na<=nb then mlo ((arrOf z).extract sa sb) ((arrOf z).extract sb (sb+nb)) else mhi ((arrOf z).extract sa sb) ((arrOf z).extract sb (sb+nb))
  modify λz=>setArr z (w.toList.zipIdx.foldl (λa (p,j)=>a.setIfInBounds (sa+j) p) (arrOf z))
  return (failedOf (<- get)).isNone):=rfl
theorem wpS_set {σ:Type} {Q:PUnit->σ->Prop} {st st':σ} (h:Q ⟨⟩ st'):wpS M A E s (set st':StateT σ Sem PUnit) Q st:=by
 unfold wpS; rw [StateT.run_set]; exact Y0 ⟨rfl,h⟩
theorem wr {α:Type} {R:List α} {b:Nat}:∀ (w P O:List α) (n:Nat),O.length=w.length->P.length=b+n->(w.zipIdx n).foldl (λa (q:α × Nat)=>a.setIfInBounds (b+q.2) q.1) (Z6 (P++(O++R)))=Z6 (P++(w++R))
 | [],P,[],_,_,_=>rfl
 | [],_,_ :: _,_,h,_=>nomatch h
 | _ :: _,_,[],_,h,_=>nomatch h
 | c :: w,P,o :: O,n,h,hp=>by
  rw [List.zipIdx_cons,List.foldl_cons]
  have e:(Z6 (P++(o :: O++R))).setIfInBounds (b+n) c=Z6 ((P++[c])++(O++R)):=by
   rw [List.setIfInBounds_toArray,<- hp,B7 _ _ (nz6 _),Nat.sub_self,Y9]; rfl
  rw [e,wr w (P++[c]) O (n+1) (Nat.succ.inj h) (by rw [Y8,hp]; rfl),Y9]; rfl
theorem pd_get {α:Type} {L L2:List α} {a b:α}:(Z6 (L++a :: b :: L2))[L.length]?=some a/\(Z6 (L++a :: b :: L2))[L.length+1]?=some b:=by
 rw [R6,R6,Y5 (nz6 _),Y5 (U6 _ 1),Nat.sub_self,U9]
 exact ⟨rfl,rfl⟩
theorem pd_set {α:Type} {L L2:List α} {a b v:α}:((Z6 (L++a :: b :: L2)).setIfInBounds L.length v).eraseIdxIfInBounds (L.length+1)=Z6 (L++v :: L2):=by
 rw [List.setIfInBounds_toArray,B7 _ _ (nz6 _),Nat.sub_self]
 apply Array.toList_inj.mp
 rw [Array.toList_eraseIdxIfInBounds]
 show (L++v :: b :: L2).eraseIdx (L.length+1)=_
 rw [List.eraseIdx_append_of_length_le (U6 _ 1),U9]; rfl
theorem mid_get {U W V:List Nat} {i x:Nat} (h:W[i]?=some x):(U++(W++V))[U.length+i]?=some x:=by
 rw [dH,X8 (Z4.mp h).1]; exact h
theorem mid_ex (U W V:List Nat):(ar f (U++(W++V))).extract U.length (U.length+W.length)=ar f W:=by
 rw [k7,List.drop_left,U9,List.take_left]
theorem pw_mem {x y:List Nat} (h:(x++y).Pairwise T) {a b:Nat} (ha:a∈x) (hb:b∈y):T a b:=(W7.mp h).2.2 a ha b hb
theorem mat_ok (K:Cx M A s κ f T X) {L1 L2:List (Nat × Nat × Nat)} {U x y V:List Nat} {p1 p2 g:Nat} {Q:Bool->SortSt->Prop} (hX:∀ u∈x++y,X u) (nd:(x++y).Nodup) (px:x.Pairwise T) (py:y.Pairwise T) (hx:1<=x.length) (hy:1<=y.length)
  (h:∀ m g',m.Perm (x++y)->m.Pairwise T->Q true (St κ f (U++(m++V)) (Z6 (L1++(U.length,x.length+y.length,p1) :: L2)) g')) :
  wpS M A E s (mergeAt' L1.length) Q (St κ f (U++(x++(y++V))) (Z6 (L1++(U.length,x.length,p1) :: (U.length+x.length,y.length,p2) :: L2)) g):=by
 rw [mat_eq]
 refine X1 (wpS_get ?_)
 show wpS M A E s (match ((Z6 (L1++(U.length,x.length,p1) :: (U.length+x.length,y.length,p2) :: L2))[L1.length]?,(Z6 (L1++(U.length,x.length,p1) :: (U.length+x.length,y.length,p2) :: L2))[L1.length+1]?) with
  | (some (sa,na,pw),some (sb,nb,_))=>_
  | _=>_) Q _
 rw [pd_get.1,pd_get.2]
 dsimp only
 refine X1 (wpS_set ?_)
 rw [pd_set]
 show wpS M A E s _ Q (St κ f (U++(x++(y++V))) (Z6 (L1++(U.length,x.length+y.length,p1) :: L2)) g)
 have el:U++(x++(y++V))=(U++x)++(y++V):=(Y9 _ _ _).symm
 have lU:(U++x).length=U.length+x.length:=Y8
 have gx:∀ {i u},x[i]?=some u->(U++(x++(y++V)))[U.length+i]?=some u:=λh=>mid_get h
 have gy:∀ {i u},y[i]?=some u->(U++(x++(y++V)))[U.length+x.length+i]?=some u:=λh=>by rw [el,<- lU]; exact mid_get h
 have ex:∀ i,i<x.length->x[i]?=some ((x[i]?).getD 0):=λi hi=>by rw [Z9 hi]; rfl
 have ey:∀ i,i<y.length->y[i]?=some ((y[i]?).getD 0):=λi hi=>by rw [Z9 hi]; rfl
 have ne:∀ a∈x,∀ b∈y,a≠b:=(List.nodup_append.mp nd).2.2
 refine oq12 (has (V:=y) (i:=0) hy) λy0 hy0 my0=>oq12 (has (V:=x) (i:=x.length - 1) (by omega)) λlx hlx mlx=>?_
 refine X1 (bN (gy hy0) (X1 (nq K (d:=λi=>(x[i]?).getD 0) rfl (hX y0 (Y7 _ my0)) (λi hi=>hX _ (U0 _ (W8 (ex i hi)))) (λi hi=>gx (ex i hi)) (λi hi=>ne _ (W8 (ex i hi)) y0 my0) (λi j ij hj=>k8 px ij (ex i (nz8 ij hj)) (ex j hj)) hx λk hk h0 h1=>?_)))
 have x1:∀ u∈x.take k,T u y0:=λu hu=>oq12 (k9 hu) λi hi e=>by have:=h0 i hi; rw [e] at this; exact this
 have x2:∀ u∈x.drop k,T y0 u:=λu hu=>oq11 (hU hu) λi e=>by have:=h1 (k+i) (U6 _ _) (Z4.mp e).1; rw [e] at this; exact this
 have y0y:∀ u,T u y0->∀ r∈y,T u r:=λu t r hr=>gC K py hy0 t r (by rw [D3]; exact hr)
 dsimp only
 by_cases z:x.length - k=0
 ·rw [if_pos (by rw [z]; rfl)]
  refine X7 ?_
  have e:x.take k=x:=O6 (by omega)
  rw [e] at x1
  have:=h (x++y) g (.refl _) (W7.mpr ⟨px,py,λa ha b hb=>y0y a (x1 a ha) b hb⟩)
  rw [Y9] at this
  exact this
 ·rw [if_neg (λq=>z (eq_of_beq q))]
  have lx':∀ u∈x,u=lx\/T u lx:=λu hu=>oq11 (R8 hu) λi e=>K2 e λhi e=>by
   have e':x[i]?=some u:=by rw [<- e]; exact Z9 hi
   rcases L7 i (x.length - 1) with q | q
   ·exact .inr (k8 px q e' hlx)
   ·rw [show i=x.length - 1 by omega,hlx] at e'
    exact .inl (Z7 e').symm
  refine X1 (bN (x:=lx) (by rw [show U.length+k+(x.length - k) - 1=U.length+(x.length - 1) by omega]; exact gx hlx) (X1 (nq K (d:=λi=>(y[i]?).getD 0) rfl (hX lx (U0 _ mlx)) (λi hi=>hX _ (Y7 _ (W8 (ey i hi)))) (λi hi=>gy (ey i hi)) (λi hi=>R5 (ne lx mlx _ (W8 (ey i hi)))) (λi j ij hj=>k8 py ij (ey i (nz8 ij hj)) (ey j hj)) (by omega) λt ht t0 t1=>?_)))
  have y1:∀ u∈y.take t,T u lx:=λu hu=>oq12 (k9 hu) λi hi e=>by have:=t0 i hi; rw [e] at this; exact this
  have y2:∀ u∈y.drop t,T lx u:=λu hu=>oq11 (hU hu) λi e=>by have:=t1 (t+i) (U6 _ _) (Z4.mp e).1; rw [e] at this; exact this
  have y2x:∀ a∈x,∀ b∈y.drop t,T a b:=λa ha b hb=>(lx' a ha).elim (λe=>e ▸ y2 b hb) λq=>K.tr q (y2 b hb)
  dsimp only
  by_cases z2:t=0
  ·rw [if_pos (by rw [z2]; rfl)]
   refine X7 ?_
   rw [z2,D3] at y2x
   have:=h (x++y) g (.refl _) (W7.mpr ⟨px,py,y2x⟩)
   rw [Y9] at this
   exact this
  ·rw [if_neg (λq=>z2 (eq_of_beq q))]
   have lk:(U++x.take k).length=U.length+k:=by rw [Y8,V7,Q7 hk]
   have l2:(x.drop k).length=x.length - k:=O3
   have l3:(y.take t).length=t:=by rw [V7,Q7 ht]
   have E1:(ar f (U++(x++(y++V)))).extract (U.length+k) (U.length+x.length)=ar f (x.drop k):=by
    have:=mid_ex (f:=f) (U++x.take k) (x.drop k) (y++V)
    rw [lk,l2,show U.length+k+(x.length - k)=U.length+x.length by omega,Y9,<- Y9 (x.take k),W0] at this
    exact this
   have E2:(ar f (U++(x++(y++V)))).extract (U.length+x.length) (U.length+x.length+t)=ar f (y.take t):=by
    have:=mid_ex (f:=f) (U++x) (y.take t) (y.drop t++V)
    rw [lU,l3,Y9,<- Y9 (y.take t),W0] at this
    exact this
   have H:Two T X (x.drop k) (y.take t):=by
    refine ⟨px.sublist (List.drop_sublist _ _),py.sublist (List.take_sublist _ _),λu hu=>hX u (U0 _ (K0 hu)),λu hu=>hX u (Y7 _ (K1 hu)),λa ha b hb=>ne a (K0 ha) b (K1 hb),λv hv=>?_,λv hv=>?_⟩
    ·rw [l2,L6,show k+(x.length - k - 1)=x.length - 1 by omega,hlx] at hv
     exact Z7 hv ▸ y1
    ·rw [R3 (by omega),hy0] at hv
     exact Z7 hv ▸ x2
   have fin:∀ r g',Fn T f (x.drop k++y.take t) r->wpS M A E s (do
     modify λz=>setArr z (r.toList.zipIdx.foldl (λa (p,j)=>a.setIfInBounds (U.length+k+j) p) (arrOf z))
     return (failedOf (<- get)).isNone) Q (St κ f (U++(x++(y++V))) (Z6 (L1++(U.length,x.length+y.length,p1) :: L2)) g'):=λr g' w=>by
    refine oq13 w λm e pm pw=>?_
    subst e
    refine X1 (wpS_modify (X1 (wpS_get (X7 ?_))))
    have hm:((x.take k++m)++y.drop t).Perm (x++y):=by
     have q:(x.take k++m++y.drop t).Perm (x.take k++(x.drop k++y.take t)++y.drop t):=(pm.append_left _).append_right _
     rw [<- Y9 (x.take k),W0,Y9 x,W0] at q
     exact q
    have hp:((x.take k++m)++y.drop t).Pairwise T:=by
     refine W7.mpr ⟨W7.mpr ⟨px.sublist (List.take_sublist _ _),pw,λa ha b hb=>?_⟩,py.sublist (List.drop_sublist _ _),λa ha b hb=>?_⟩
     ·rcases W9.mp (pm.mem_iff.mp hb) with q | q
      ·exact pw_mem (x:=x.take k) (y:=x.drop k) (by rw [W0]; exact px) ha q
      ·exact y0y a (x1 a ha) b (K1 q)
     ·rcases W9.mp ha with q | q
      ·exact y2x a (K1 q) b hb
      ·rcases W9.mp (pm.mem_iff.mp q) with q | q
       ·exact y2x a (K0 q) b hb
       ·exact pw_mem (x:=y.take t) (y:=y.drop t) (by rw [W0]; exact py) q hb
    have W:=wr (R:=(y.drop t++V).map f) (b:=U.length+k) (m.map f) ((U++x.take k).map f) ((x.drop k++y.take t).map f) 0 (by rw [Y3,Y3,pm.length_eq]) (by rw [Y3,lk]; rfl)
    rw [<- T3,<- T3,<- T3,<- T3] at W
    have q1:U++x.take k++(x.drop k++y.take t++(y.drop t++V))=U++(x++(y++V)):=by
     simp only [Y9]
     rw [<- Y9 (y.take t),W0,<- Y9 (x.take k),W0]
    have q2:U++x.take k++(m++(y.drop t++V))=U++((x.take k++m++y.drop t)++V):=by simp only [Y9]
    rw [q1,q2] at W
    have:=h _ g' hm hp
    show Q true (J7 κ ((List.map f m).zipIdx.foldl (λa (q:Keyed × Nat)=>a.setIfInBounds (U.length+k+q.2) q.1) (Z6 ((U++(x++(y++V))).map f))) _ g' none)
    rw [W]
    exact this
   show wpS M A E s (do
     let w <- if x.length - k<=t then mlo ((ar f (U++(x++(y++V)))).extract (U.length+k) (U.length+x.length)) ((ar f (U++(x++(y++V)))).extract (U.length+x.length) (U.length+x.length+t)) else mhi ((ar f (U++(x++(y++V)))).extract (U.length+k) (U.length+x.length)) ((ar f (U++(x++(y++V)))).extract (U.length+x.length) (U.length+x.length+t))
     modify λz=>setArr z (w.toList.zipIdx.foldl (λa (p,j)=>a.setIfInBounds (U.length+k+j) p) (arrOf z))
     return (failedOf (<- get)).isNone) Q _
   rw [E1,E2]
   by_cases c:x.length - k<=t
   ·rw [if_pos c]
    exact X1 (mlo_ok K H (by omega) (by omega) fin)
   ·rw [if_neg c]
    exact X1 (mhi_ok K H (by omega) (by omega) fin)
noncomputable def sts:Nat->List (List Nat)->List (Nat × Nat)
 | _,[]=>[]
 | k,r :: R=>(k,r.length) :: sts (k+r.length) R
theorem jt:∀ (R1 R2:List (List Nat)) (k:Nat),sts k (R1++R2)=sts k R1++sts (k+R1.flatten.length) R2
 | [],_,k=>rfl
 | r :: R1,R2,k=>by
  show (k,r.length) :: sts (k+r.length) (R1++R2)=(k,r.length) :: (sts (k+r.length) R1++sts (k+(r++R1.flatten).length) R2)
  rw [jt R1 R2,Y8,Nat.add_assoc]
theorem nC:∀ (R:List (List Nat)) (k:Nat),(sts k R).length=R.length
 | [],_=>rfl
 | r :: R,k=>congrArg Nat.succ (nC R (k+r.length))
noncomputable abbrev pr2 (e:Nat × Nat × Nat):Nat × Nat:=(e.1,e.2.1)
structure Okl (T:Nat->Nat->Prop) (L:List (Nat × Nat × Nat)) (R:List (List Nat)):Prop where
 mp:L.map pr2=sts 0 R
 rn:∀ r∈R,1<=r.length/\r.Pairwise T
theorem Okl.len {L:List (Nat × Nat × Nat)} {R:List (List Nat)} (h:Okl T L R):L.length=R.length:=by
 rw [<- Y3 (f:=pr2),h.mp,nC]
theorem two_at {R:List (List Nat)} {i:Nat} (h:i+1<R.length):∃ R1 x y R2,R=R1++x :: y :: R2/\R1.length=i :=
 ⟨R.take i,R[i],R[i+1],R.drop (i+2),by rw [<- O7,<- O7,W0],by rw [V7]; omega⟩
theorem mst_ok (K:Cx M A s κ f T X) {L:List (Nat × Nat × Nat)} {R:List (List Nat)} {V:List Nat} {i g:Nat} {Q:Bool->SortSt->Prop} (O:Okl T L R) (hi:i+1<L.length) (nd:(R.flatten++V).Nodup) (hX:∀ x∈R.flatten++V,X x)
  (h:∀ R' L' g',Okl T L' R'->L'.length+1=L.length->R'.flatten.Perm R.flatten->Q true (St κ f (R'.flatten++V) (Z6 L') g')):wpS M A E s (mergeAt' i) Q (St κ f (R.flatten++V) (Z6 L) g):=by
 refine oq42 (two_at (R:=R) (i:=i) (by rw [<- O.len]; exact hi)) λR1 x y R2 eR e1=>?_
 subst eR
 have mp:=O.mp
 rw [jt] at mp
 refine oq23 (List.map_eq_append_iff.mp mp) λL1 L3 eL m1 m2=>?_
 refine oq23 (List.map_eq_cons_iff.mp m2) λe L4 eL3 ee m3=>oq23 (List.map_eq_cons_iff.mp m3) λe' L2 eL4 ee' m4=>?_
 subst eL; subst eL3; subst eL4
 have l1:L1.length=i:=by rw [<- e1,<- nC R1 0,<- m1,Y3]
 have q1:e=(R1.flatten.length,x.length,e.2.2):=by
  have a:=congrArg Prod.fst ee
  have b:=congrArg Prod.snd ee
  rw [Nat.zero_add] at a
  exact Prod.ext a (Prod.ext b rfl)
 have q2:e'=(R1.flatten.length+x.length,y.length,e'.2.2):=by
  have a:=congrArg Prod.fst ee'
  have b:=congrArg Prod.snd ee'
  rw [Nat.zero_add] at a
  exact Prod.ext a (Prod.ext b rfl)
 have fl:(R1++x :: y :: R2).flatten=R1.flatten++(x++(y++R2.flatten)):=by
  rw [D0]; rfl
 have ox:=O.rn x (Y7 _ (.head _))
 have oy:=O.rn y (Y7 _ (.tail _ (.head _)))
 rw [fl] at nd hX h ⊢
 have ap:(R1.flatten++(x++(y++R2.flatten)))++V=R1.flatten++(x++(y++(R2.flatten++V))):=by simp only [Y9]
 rw [ap] at nd hX ⊢
 rw [q1,q2,<- l1]
 have sub:(x++y).Sublist (R1.flatten++(x++(y++(R2.flatten++V)))):=by
  refine List.Sublist.trans ?_ (List.sublist_append_right _ _)
  rw [<- Y9]
  exact List.sublist_append_left _ _
 refine mat_ok K (λu hu=>hX u (sub.subset hu)) (nd.sublist sub) ox.2 oy.2 ox.1 oy.1 λm g' pm pw=>?_
 have:=h (R1++m :: R2) (L1++(R1.flatten.length,x.length+y.length,e.2.2) :: L2) g' ⟨?_,λr hr=>?_⟩ ?_ ?_
 ·rw [D0,Y9] at this
  show Q true (St κ f (R1.flatten++(m++(R2.flatten++V))) _ g')
  rw [<- Y9 m]
  exact this
 ·rw [jt,T3,m1,V0,m4]
  show _++(_ :: _)=_++((0+R1.flatten.length,m.length) :: sts (0+R1.flatten.length+m.length) R2)
  rw [pm.length_eq,Y8,Nat.zero_add]
  rw [Nat.add_assoc]
 ·rcases W9.mp hr with q | q
  ·exact O.rn r (U0 _ q)
  ·rcases Y4.mp q with q | q
   ·rw [q]; exact ⟨by rw [pm.length_eq,Y8]; omega,pw⟩
   ·exact O.rn r (Y7 _ (.tail _ (.tail _ q)))
 ·rw [Y8,Y8]; rfl
 ·rw [D0]
  refine B9 _ ?_
  show (m++R2.flatten).Perm _
  rw [<- Y9]
  exact pm.append_right _
noncomputable def u3 (lo n:Nat):StateT SortSt Sem (ForInStep (Option Unit × Nat)):=do
 modify λz=>setPending z ((D6 z).push (lo,n,0))
 pure (.yield (none,lo+n))
theorem map_mod {L:List (Nat × Nat × Nat)} {i:Nat} {w:Nat × Nat × Nat->Nat × Nat × Nat} (h:∀ e,pr2 (w e)=pr2 e):(L.modify i w).map pr2=L.map pr2:=by
 apply G9
 intro k
 rw [X2,X2,List.getElem?_modify]
 cases L[k]? with
 | none=>rfl
 | some e =>
  show some (pr2 (if i=k then w e else e))=some (pr2 e)
  by_cases c:i=k
  ·rw [if_pos c,h]
  ·rw [if_neg c]
noncomputable def Rs (κ:B0) (f:Nat->Keyed) (T:Nat->Nat->Prop) (l0:List Nat) (lo:Nat) (st:SortSt):Prop :=
 ∃ R V L g,st=St κ f (R.flatten++V) (Z6 L) g/\lo=R.flatten.length/\Okl T L R/\(R.flatten++V).Perm l0
theorem u3_ok {l0:List Nat} {R:List (List Nat)} {V:List Nat} {L:List (Nat × Nat × Nat)} {g n:Nat} {Q:ForInStep (Option Unit × Nat)->SortSt->Prop} (O:Okl T L R) (pm:(R.flatten++V).Perm l0) (h1:1<=n) (hn:n<=V.length) (pv:(V.take n).Pairwise T)
  (h:∀ lo' st,R.flatten.length+n=lo'->Rs κ f T l0 lo' st->Q (.yield (none,lo')) st):wpS M A E s (u3 R.flatten.length n) Q (St κ f (R.flatten++V) (Z6 L) g):=by
 unfold u3
 refine X1 (wpS_modify (X7 (h _ _ rfl ?_)))
 have ln:(V.take n).length=n:=by rw [V7,Q7 hn]
 have fl:(R++[V.take n]).flatten=R.flatten++V.take n:=by rw [D0,A4,List.flatten_nil,V6]
 refine ⟨R++[V.take n],V.drop n,L++[(R.flatten.length,n,0)],g,?_,?_,⟨?_,λr hr=>?_⟩,?_⟩
 ·rw [fl,Y9,W0]
  show J7 κ (ar f (R.flatten++V)) ((Z6 L).push (R.flatten.length,n,0)) g none=_
  rw [List.push_toArray]
 ·rw [fl,Y8,ln]
 ·rw [T3,O.mp,jt]
  show _++[_]=_++[(0+R.flatten.length,(V.take n).length)]
  rw [ln,Nat.zero_add]
 ·rcases W9.mp hr with q | q
  ·exact O.rn r q
  ·rw [Y6.mp q,ln]; exact ⟨h1,pv⟩
 ·rw [fl,Y9,W0]; exact pm
theorem br2 {β:Type} {H:Nat->List Nat->Prop} {mr:Nat} {m1:Nat->List Nat->StateT SortSt Sem β} {tl:Nat->StateT SortSt Sem β} {Q:β->SortSt->Prop} {sx:List Nat->SortSt} (P:Nat->SortSt->Prop) (h:∀ n' st',P n' st'->wpS M A E s (tl n') Q st') (hn:∀ n V,H n V->P n (sx V)) (h1:(∀ n' st',P n' st'->wpS M A E s (tl n') Q st')->∀ n V,H n V->n<mr->wpS M A E s (m1 n V) Q (sx V)) :
  ∀ n V,H n V->wpS M A E s (if n<mr then m1 n V else tl n) Q (sx V):=λn V k=>by
 by_cases q:n<mr
 ·rw [if_pos q]; exact h1 h n V k q
 ·rw [if_neg q]; exact h n _ (hn n V k)
theorem ite_lt {p:Prop} [Decidable p] {a b c:Nat} (ha:a+1<c) (hb:b+1<c):(if p then a else b)+1<c:=by
 by_cases q:p
 ·rw [if_pos q]; exact ha
 ·rw [if_neg q]; exact hb
theorem bo:∀ (R:List (List Nat)),(∀ r∈R,1<=r.length)->R.length<=R.flatten.length
 | [],_=>nz6 _
 | r :: R,h=>by
  rw [A4,Y8,W4]
  have:=bo R λx hx=>h x (.tail _ hx)
  have:=h r (.head _)
  omega
theorem sort_ok (K:Cx M A s κ f T X) {l0:List Nat} (nd:l0.Nodup) (hX:∀ x∈l0,X x) {g0:Nat} {Q:Unit->SortSt->Prop}
  (h:∀ p st,arrOf st=ar f p->failedOf st=none->p.Perm l0->p.Pairwise T->Q () st):wpS M A E s sortRuns' Q (St κ f l0 #[] g0):=by
 rw [sortRuns'_eq]
 refine X1 (wpS_get ?_)
 have sz:(arrOf (St κ f l0 #[] g0)).size=l0.length:=bX l0
 dsimp only
 rw [sz]
 refine X1 (E3 (Q5 (I:=λi c st=>c.1=none/\Rs κ f T l0 c.2 st/\min i l0.length<=c.2) (Q:=λc st=>c.1=none/\Rs κ f T l0 c.2 st/\l0.length<=c.2) ?_ ?_ ⟨rfl,⟨[],l0,[],g0,rfl,rfl,⟨rfl,λ_ z=>nomatch z⟩,.refl _⟩,nz4 (B1 _ _) (nz6 _)⟩) ?_)
 ·intro i c st _ hi z
  refine oq03 z λe W le=>?_
  by_cases cc:c.2 ≥ l0.length
  ·rw [if_pos cc]; exact X7 ⟨rfl,W,cc⟩
  ·rw [if_neg cc]
   refine oq44 W λR V L g e1 e2 O pm=>?_
   subst e1
   rw [e2] at cc le ⊢
   have lv:l0.length - R.flatten.length=V.length:=by rw [<- pm.length_eq,Y8,U9]
   have nv:V.Nodup:=(pm.nodup_iff.mpr nd).sublist (List.sublist_append_right _ _)
   have xv:∀ x∈V,X x:=λx hx=>hX x (pm.mem_iff.mp (Y7 _ hx))
   rw [lv]
   refine X1 (run_ok K nv xv (by omega) λn V' pv n1 n2 pw=>?_)
   have pm':(R.flatten++V').Perm l0:=(pv.append_left _).trans pm
   rw [<- pv.length_eq] at n2 ⊢
   dsimp only
   have hh:V'.Perm V/\1<=n/\n<=V'.length/\(V'.take n).Pairwise T:=⟨pv,n1,n2,pw⟩
   clear pw n2 n1 pm' pv
   revert n V'
   refine br2 (β:=ForInStep (Option Unit × Nat)) (λn' st'=>∃ V2,st'=St κ f (R.flatten++V2) (Z6 L) g/\V2.Perm V/\1<=n'/\n'<=V.length/\(V2.take n').Pairwise T) ?_ (λn V' z=>⟨V',rfl,z.1,z.2.1,z.1.length_eq ▸ z.2.2.1,z.2.2.2⟩) λhh n V' z q=>oq04 z λpv n1 n2 pw=>?_
   ·intro n' st' z
    refine oq15 z λV2 e3 p2 m1 m2 w2=>?_
    subst e3
    have pm2:(R.flatten++V2).Perm l0:=(p2.append_left _).trans pm
    rw [<- p2.length_eq] at m2
    have fin:∀ (R':List (List Nat)) (L':List (Nat × Nat × Nat)) g',Okl T L' R'->R'.flatten.Perm R.flatten->wpS M A E s (u3 R.flatten.length n') (λr st'=>match r with | .done c'=>c'.1=none/\Rs κ f T l0 c'.2 st'/\l0.length<=c'.2 | .yield c'=>c'.1=none/\Rs κ f T l0 c'.2 st'/\min (i+1) l0.length<=c'.2) (St κ f (R'.flatten++V2) (Z6 L') g'):=λR' L' g' O' pm'=>by
     rw [<- pm'.length_eq]
     exact u3_ok O' ((pm'.append_right V2).trans pm2) m1 m2 w2 λlo' st' e w=>⟨rfl,w,show min (i+1) l0.length<=lo' by rw [pm'.length_eq] at e; omega⟩
    refine X1 (wpS_get ?_)
    generalize eb:(D6 (St κ f (R.flatten++V2) (Z6 L) g)).back?=w
    cases w with
    | none=>exact fin R L g O (.refl _)
    | some w =>
     have ne:L≠[]:=λz=>by rw [z] at eb; cases eb
     refine X1 (E3 (Q5 (I:=λ_ c st=>c=(none,())/\∃ R' L' g',st=St κ f (R'.flatten++V2) (Z6 L') g'/\Okl T L' R'/\R'.flatten.Perm R.flatten/\L'≠[]) (Q:=λc st=>c=(none,())/\∃ R' L' g',st=St κ f (R'.flatten++V2) (Z6 L') g'/\Okl T L' R'/\R'.flatten.Perm R.flatten/\L'≠[]) ?_ (λ_ _ z=>z) ⟨rfl,R,L,g,rfl,O,.refl _,ne⟩) ?_)
     ·intro i c st _ _ z
      refine oq02 z λe1 z=>oq34 z λR' L' g' e2 O' pm' ne'=>?_
      subst e1; subst e2
      refine X1 (wpS_get ?_)
      have es:(D6 (St κ f (R'.flatten++V2) (Z6 L') g')).size=L'.length:=X0 ..
      generalize e3:(if (D6 (St κ f (R'.flatten++V2) (Z6 L') g')).size > 1 then (D6 (St κ f (R'.flatten++V2) (Z6 L') g'))[(D6 (St κ f (R'.flatten++V2) (Z6 L') g')).size - 2]? else none)=v
      cases v with
      | none=>exact X7 ⟨rfl,R',L',g',rfl,O',pm',ne'⟩
      | some v =>
       have big:1<L'.length:=by
        by_cases q:(D6 (St κ f (R'.flatten++V2) (Z6 L') g')).size > 1
        ·exact es ▸ q
        ·rw [if_neg q] at e3; cases e3
       dsimp only
       split
       ·exact X7 ⟨rfl,R',L',g',rfl,O',pm',ne'⟩
       ·have pq:=(pm'.append_right V2).trans pm2
        refine X1 (mst_ok K O' (i:=(D6 (St κ f (R'.flatten++V2) (Z6 L') g')).size - 2) (by rw [es]; omega) (pq.nodup_iff.mpr nd) (λx hx=>hX x (pq.mem_iff.mp hx)) λR2 L2 g2 O2 l2 p2=>?_)
        refine X7 ⟨rfl,R2,L2,g2,rfl,O2,p2.trans pm',λz=>?_⟩
        rw [z] at l2
        exact absurd big (by rw [<- l2]; exact Q8 _)
     ·intro c st z
      refine oq02 z λe1 z=>oq34 z λR' L' g' e2 O' pm' ne'=>?_
      subst e1; subst e2
      refine X1 (wpS_modify ?_)
      have em:∀ w,((Z6 L').modify ((Z6 L').size - 1) w)=Z6 (L'.modify ((Z6 L').size - 1) w):=λw=>by rw [List.modify_toArray]
      show wpS M A E s (u3 R.flatten.length n') _ (St κ f (R'.flatten++V2) ((Z6 L').modify ((Z6 L').size - 1) _) g')
      rw [em]
      refine fin R' _ g' ⟨Eq.trans (map_mod ?_) O'.mp,O'.rn⟩ pm'
      exact λ_=>rfl
   ·refine X1 (wpS_lift (C3 ⟨rfl,?_⟩))
    exact X1 (bin_ok K (pv.nodup_iff.mpr nv) (λx hx=>xv x (pv.mem_iff.mp hx)) n1 (by omega) (by omega) pw λV2 p2 w2=>hh _ _ ⟨V2,rfl,p2.trans pv,by omega,by have:=pv.length_eq; omega,w2⟩)
 ·intro c st z
  refine oq03 z λe W le=>⟨e,W,?_⟩
  rw [show min (max 0 l0.length) l0.length=l0.length by omega] at le
  exact le
 ·intro c st z
  refine oq03 z λe W le=>oq44 W λR V L g e1 e2 O pm=>?_
  have lv:=pm.length_eq
  rw [Y8] at lv
  have vn:V=[]:=List.length_eq_zero_iff.mp (by omega)
  subst vn
  subst e1
  rw [e]
  rw [V6] at pm
  have lr:=bo R λr hr=>(O.rn r hr).1
  refine X1 (E3 (Q5 (I:=λi c st=>c=(none,())/\∃ R L g,st=St κ f (R.flatten++[]) (Z6 L) g/\Okl T L R/\R.flatten.Perm l0/\L.length<=l0.length - i) (Q:=λc st=>c=(none,())/\∃ R L g,st=St κ f (R.flatten++[]) (Z6 L) g/\Okl T L R/\R.flatten.Perm l0/\L.length<=1) ?_ ?_ ⟨rfl,R,L,g,rfl,O,pm,by rw [O.len,<- pm.length_eq]; exact lr⟩) ?_)
  ·intro i c st _ hi z
   refine oq02 z λe1 z=>oq34 z λR L g e2 O pm le=>?_
   subst e1; subst e2
   refine X1 (wpS_get ?_)
   show wpS M A E s (if (Z6 L).size<=1 then _ else _) _ _
   have es:(Z6 L).size=L.length:=X0 ..
   by_cases q:(Z6 L).size<=1
   ·rw [if_pos q]
    exact X7 ⟨rfl,R,L,g,rfl,O,pm,es ▸ q⟩
   ·rw [if_neg q]
    have pq:(R.flatten++[]).Perm l0:=by rw [V6]; exact pm
    refine X1 (mst_ok K O ?_ (pq.nodup_iff.mpr nd) (λx hx=>hX x (pq.mem_iff.mp hx)) λR2 L2 g2 O2 l2 p2=>?_)
    ·exact ite_lt (show (Z6 L).size - 2 - 1+1<L.length by omega) (show (Z6 L).size - 2+1<L.length by omega)
    ·exact X7 ⟨rfl,R2,L2,g2,rfl,O2,p2.trans pm,by omega⟩
  ·intro c st z
   refine oq02 z λe1 z=>oq34 z λR L g e2 O pm le=>⟨e1,R,L,g,e2,O,pm,by omega⟩
  ·intro c st z
   refine oq02 z λe1 z=>oq34 z λR L g e2 O pm le=>?_
   subst e1; subst e2
   refine X7 (h R.flatten _ (by rw [V6]) rfl pm ?_)
   rw [O.len] at le
   match R,le,O with
   | [],_,_=>exact .nil
   | [r],_,O=>rw [A4,List.flatten_nil,V6]; exact (O.rn r (.head _)).2
   | _ :: _ :: _,le,_=>exact absurd le (by simp)
end
end Tim
namespace Pu
noncomputable def nD (g:Int->Option (Int × Int)) (ns:List Int):Option (List Int):=(keysOf g ns).bind λps=>if ns.length<1000000/\ps.Nodup then some (srtK ns ps) else none
end Pu
namespace L2
section
open PySem PySem.Spec PyProof.Rows
variable [Kon]
section
variable {prog:W5} {w:World} {A:Around} {E:Value->Shared->Prop} {s:Shared} {vs ks:List Value} {a kS:Addr}
open PySem.W
theorem tim_run {κ:B0} {c:Nat->Nat->Bool} (hl:ks.length=vs.length) (L:Srt.Lin c vs.length) (hc:∀ i j C,i<vs.length->j<vs.length->C (c i j) s->kas_ask prog w A κ ks i j C s) :
  wpAny (model prog w) A ((sortRuns').run (J7 κ (ks.toArray.zip vs.toArray) #[] 7 none)) (λr s2=>s2=s/\∃ p:Array Nat,Srt.Arr vs.length p/\Srt.Up c p vs.length/\arrOf r.2=p.map (kas_item (ks.toArray.zip vs.toArray))/\failedOf r.2=none) E s:=by
 have K:Tim.Cx (model prog w) A s κ (kas_item (ks.toArray.zip vs.toArray)) (λi j=>i<vs.length/\j<vs.length/\c i j=true) (λi=>i<vs.length):=by
  refine ⟨λi j hi hj C h1 h0=>?_,λ{i j k} x y=>⟨x.1,y.2.1,L.tr i j k x.1 x.2.1 y.2.1 x.2.2 y.2.2⟩,λ{i} x=>by rw [L.irr i x.1] at x; exact nomatch x.2.2⟩
  have q:=hc i j (λb s'=>s'=s/\C b) hi hj ⟨rfl,by
   cases e:c i j with
   | true=>exact h1 ⟨hi,hj,e⟩
   | false =>
    by_cases z:i=j
    ·exact h0 (.inl z)
    ·exact h0 (.inr ⟨hj,hi,L.tot i j hi hj z e⟩)⟩
  rw [kat_ask_eq hl] at q
  exact q
 have e:=kas_range (ks.toArray.zip vs.toArray)
 rw [show (ks.toArray.zip vs.toArray).size=vs.length by simp [hl]] at e
 have est:J7 κ (ks.toArray.zip vs.toArray) #[] 7 none=Tim.St κ (kas_item (ks.toArray.zip vs.toArray)) (X3 vs.length) #[] 7:=by
  show _=J7 κ (Z6 ((X3 vs.length).map (kas_item (ks.toArray.zip vs.toArray)))) #[] 7 none
  rw [<- List.map_toArray,e]
 rw [est]
 refine Tim.sort_ok (E:=E) K (l0:=X3 vs.length) List.nodup_range (λx hx=>L8.mp hx) (Q:=λ_ st=>∃ p:Array Nat,Srt.Arr vs.length p/\Srt.Up c p vs.length/\arrOf st=p.map (kas_item (ks.toArray.zip vs.toArray))/\failedOf st=none) λp st ha hf pm pw=>?_
 have lp:p.length=vs.length:=by rw [pm.length_eq,V5]
 refine ⟨Z6 p,⟨by rw [X0,lp],pm⟩,λi j hij hj=>?_,by rw [ha,List.map_toArray],hf⟩
 have hj':j<p.length:=lp ▸ hj
 have hi':i<p.length:=nz8 hij hj'
 have z:=(M4.mp pw) i j hi' hj' hij
 have gt:∀ k (h:k<p.length),Srt.at' (Z6 p) k=p[k]:=λk h=>by simp [Srt.at',Array.getD,h]
 rw [gt i hi',gt j hj']
 exact z.2.2
theorem kd {st:SortSt} {e e1:Nat} {p:Array Nat} {P:PySem.Fin->Shared->Prop} (hka:kS≠a) (hk:s.heap.get? kS=some (seqObj "list" (Z6 ks) e)) (ha:s.heap.get? a=some (seqObj "list" #[] e1)) (hz:ks.length<1000000)
  (ho:(arrOf st).map (·.2)=cX vs p) (hf:failedOf st=none) (hp:p.size<1000000) (h:P (.done (.ret .none)) { s with heap:=(s.heap.update kS (X9 λ_=>#[])).update a (X9 λ_=>cX vs p) }) :
  wpAny (model prog w) A (ksk_tail a false e1 (.ref kS) st) P E s:=by
 have ha':(s.heap.update kS (X9 λ_=>(#[]:Array Value))).get? a=some (seqObj "list" #[] e1):=by rw [U7 _ _ _ _ (R5 hka)]; exact ha
 unfold ksk_tail
 rw [ho]
 simp only [N3,if_false]
 refine Z0 (B4 hk rfl ?_ (by rw [X0,V8]; exact nz5 (nz8 hz (by decide))) (U2 _))
 refine Z0 (wpAny_letGo ?_)
 refine Z0 (seqEpoch_at ha' rfl ?_)
 refine Z0 (B4 ha' rfl ?_ (U2 _) (by rw [jR,V8]; exact F8 (nz5 (nz8 hp (by decide)))))
 rw [hf]
 simp only [bne_self_eq_false,N3,if_false]
 exact Y0 h
theorem keys_endW {e e1:Nat} {P:PySem.Fin->Shared->Prop} (hka:kS≠a) (hk:s.heap.get? kS=some (seqObj "list" (Z6 ks) e)) (hl:ks.length=vs.length) (h64:vs.length<1000000) (h:eQ prog w A a e1 kS vs P ks s) :
  wpAny (model prog w) A (ksk_end a false vs.toArray e1 (.ref kS) (Z6 ks)) P E s:=by
 refine oq02 h λha zz=>oq24 zz λκ c L hkd hc fin=>?_
 unfold ksk_end
 simp only [N3,if_false]
 by_cases h2:vs.toArray.size<2
 ·rw [if_pos h2,if_pos h2]
  refine Z0 (Y0 ?_)
  rw [StateT.run_pure]
  refine Z0 (Y0 ?_)
  have sz:vs.length<2:=by simpa using h2
  refine kd (p:=Z6 (X3 vs.length)) hka hk ha (by exact nz2 (nz3 hl) h64) ?_ rfl (by simp; exact h64) (fin _ ⟨by simp,by simp⟩ λi j hij hj=>by omega)
  have e2:=kas_range (ks.toArray.zip vs.toArray)
  rw [show (ks.toArray.zip vs.toArray).size=vs.length by simp [hl]] at e2
  exact kat_snds (st:=J7 general' (ks.toArray.zip vs.toArray) #[] 7 none) hl e2.symm
 ·rw [if_neg h2,if_neg h2]
  have h2':2<=vs.length:=by simpa using U3.mp h2
  refine Z0 (T4 (hkd h2' (λκ' s'=>κ'=κ/\s'=s) ⟨rfl,rfl⟩) ?_ λ_ _ z=>z.elim)
  intro κ' s' zq; refine oq02 zq λeq0_ eq1_=>?_; subst eq0_; subst eq1_
  refine Z0 (T4 (tim_run (κ:=κ') hl L hc) ?_ λ_ _ z=>z)
  rintro ⟨⟨⟩,st'⟩ s2 ⟨rfl,p,b1,b2,b3,b4⟩
  exact kd hka hk ha (by exact nz2 (nz3 hl) h64) (kat_snds hl b3) b4 (by rw [b1.sz]; exact h64) (fin p b1 b2)
theorem ke {f:Value} {Fi:List Value->Shared->Prop} {n:Nat} {body:Value->PUnit->Sem (ForInStep PUnit)} (hn:n<1000000)
  (hb:∀ x l (s1:Shared) (C:Value->Shared->Prop),List.length l<1000000->wpAny (model prog w) A (call f [x]) (λk s2=>(∃ e,s2.heap.get? kS=some (seqObj "list" (Z6 l) e))/\C k { s2 with heap:=s2.heap.update kS (X9 (·.push k)) }) (λ_ _=>False) s1 ->
   wpAny (model prog w) A (body x ⟨⟩) (λr s2=>r=.yield ⟨⟩/\∃ k,(∃ e,s2.heap.get? kS=some (seqObj "list" (Z6 (l++[k])) e))/\C k s2) E s1):∀ (r l:List Value) (s1:Shared),l.length+r.length=n ->
   (∃ e,s1.heap.get? kS=some (seqObj "list" (Z6 l) e))->fE prog w A f kS Fi r l s1 ->
   wpAny (model prog w) A (forIn r PUnit.unit body) (λ_ s2=>∃ l,(∃ e,s2.heap.get? kS=some (seqObj "list" (Z6 l) e))/\l.length=n/\Fi l s2) E s1
 | [],l,s1,hl,hk,h=>by
  rw [List.forIn_nil]
  exact Y0 (oi13 l hk (by simpa using hl) h)
 | x :: r,l,s1,hl,hk,h=>by
  rw [W4] at hl
  rw [List.forIn_cons]
  refine Z0 (T4 (hb x l s1 _ (by omega) h) ?_ λ_ _ z=>z)
  intro q s2 zq; refine oq02 zq λeq0_ zz=>oq12 zz λk hk' h2=>?_; subst eq0_
  exact ke hn hb r (l++[k]) s2 (by rw [Y8,List.length_singleton]; omega) hk' h2
theorem rV {f:Value} {e1:Nat} {P:PySem.Fin->Shared->Prop} (hka:kS≠a) (hk:s.heap.get? kS=some (seqObj "list" #[] 0)) (h64:vs.length<1000000) (h:fE prog w A f kS (eQ prog w A a e1 kS vs P) vs [] s) :
  wpAny (model prog w) A (ksk_rest a f false vs.toArray e1 (.ref kS)) P E s:=by
 unfold ksk_rest
 refine Z0 (C3 ?_)
 first
  | rw [List.forIn_toArray]
  | rw [<- Array.forIn_toList]
 refine Z0 (T4 (ke (kS:=kS) h64 (λx l s1 C hz hx=>?_) vs [] s (by simp) ⟨0,hk⟩ h) ?_ λ_ _ z=>z)
 ·refine Z0 (wpAny_attempt (T4 hx ?_ λ_ _ z=>z.elim))
  rintro k s2 ⟨⟨e,he⟩,hC⟩
  have ea:(Z6 l).push k=Z6 (l++[k]):=by simp
  have hn:∃ e2,(s2.heap.update kS (X9 (·.push k))).get? kS=some (seqObj "list" (Z6 (l++[k])) e2):=⟨_,by rw [<- ea]; exact G3 he (·.push k)⟩
  refine Z0 (B4 he rfl ?_ (by rw [X0,V8]; exact nz5 (nz8 hz (by decide))) (by rw [Array.size_push,X0,V8]; omega))
  exact Y0 ⟨rfl,k,hn,hC⟩
 ·rintro _ s2 ⟨l,⟨e,he⟩,hl,fin⟩
  refine Z0 (listItems_at he rfl ?_)
  exact keys_endW hka he hl h64 fin
theorem kf {f:Value} {n:Nat} {P:PySem.Fin->Shared->Prop} (ho:s.heap.get? a=some (seqObj "list" vs.toArray n)) (h64:vs.length<1000000)
  (h:∀ (e1:Nat) (kS:Addr) (h':Heap),(∀ b o,b≠a->s.heap.get? b=some o->h'.get? b=some o)->h'.get? a=some (seqObj "list" #[] e1)->h'.get? kS=some (seqObj "list" #[] 0)->s.heap.objs.size<=kS->kS<h'.objs.size ->
   fE prog w A f kS (eQ prog w A a e1 kS vs P) vs [] { s with heap:=h' }):wpAny (model prog w) A (ksk_tree a f false) P E s:=by
 have ha:a<s.heap.objs.size:=X5 ho
 obtain ⟨e1,ho1⟩:∃ e1,(s.heap.update a (X9 λ_=>(#[]:Array Value))).get? a=some (seqObj "list" #[] e1):=⟨_,G3 ho (λ_=>#[])⟩
 have hz:((s.heap.update a (X9 λ_=>(#[]:Array Value))).push (seqObj "tuple" vs.toArray 0)).objs.size=s.heap.objs.size+1:=by rw [size_push',Heap.size_update]
 unfold ksk_tree
 refine Z0 (listItems_at ho rfl ?_)
 refine Z0 (B4 ho rfl ?_ (by rw [X0,V8]; exact nz5 (nz8 h64 (by decide))) (U2 _))
 refine Z0 (seqEpoch_at ho1 rfl ?_)
 refine Z0 (wpAny_newTuple ?_ (by show vs.length<=_; rw [V8]; exact nz5 (nz8 h64 (by decide))))
 refine Z0 (wpAny_newList ?_ (U2 _))
 refine Q0 ?_
 have hkS:(((s.heap.update a (X9 λ_=>(#[]:Array Value))).push (seqObj "tuple" vs.toArray 0)).push (seqObj "list" #[] 0)).get? ((s.heap.update a (X9 λ_=>(#[]:Array Value))).push (seqObj "tuple" vs.toArray 0)).objs.size=some (seqObj "list" #[] 0):=X4 _ rfl
 refine rV (s:={ s with heap:=((s.heap.update a (X9 λ_=>(#[]:Array Value))).push (seqObj "tuple" vs.toArray 0)).push (seqObj "list" #[] 0) }) (by rw [hz]; exact N2 (M2 ha)) hkS h64 (h e1 _ _ (λb o nb q=>?_) ?_ hkS (by rw [hz]; exact P6 _) (X5 hkS))
 ·refine Z5 _ (Z5 _ ?_)
  rw [U7 _ _ _ _ nb]; exact q
 ·exact Z5 _ (Z5 _ ho1)
theorem pK {l q:Addr} {Q:Value->Shared->Prop} (hl:s.heap.IsList l vs.toArray) (h64:vs.length<1000000)
  (h:∀ (D:Addr) (e1:Nat) (kS:Addr) (h':Heap),(∀ b o,s.heap.get? b=some o->h'.get? b=some o)->h'.get? D=some (seqObj "list" #[] e1)->h'.get? kS=some (seqObj "list" #[] 0)->s.heap.objs.size<=D->D<kS->kS<h'.objs.size ->
   fE prog w A.in1.in1 (.ref q) kS (eQ prog w A.in1.in1 D e1 kS vs λf s'=>Q (.ref D) s') vs [] { s with heap:=h' }) :
  wpAny (model prog w) A (call (.builtin "sorted") [.ref l] [(F7 "key",.ref q)]) Q E s:=by
 refine call_function_entry_kw kind_sorted plain_sorted entry_sorted (ksk_s1 _ _) ?_
 unfold R0.«sorted»
 refine Z0 (m:=checkCount "sorted" 1 1 _) (Y0 ?_)
 refine Z0 (collect_list hl ?_ (by rw [V8]; exact nz5 (nz8 h64 (by decide))))
 refine Z0 (wpAny_newList ?_ (by rw [V8]; exact nz5 (nz8 h64 (by decide))))
 have hsz:((s.heap.push (seqObj "list" #[] 0)).update s.heap.objs.size (X9 (·++vs.toArray))).objs.size=s.heap.objs.size+1:=by
  rw [Heap.size_update,size_push']
 have hoL:(((s.heap.push (seqObj "list" #[] 0)).update s.heap.objs.size (X9 (·++vs.toArray))).push (seqObj "list" vs.toArray 0)).get? (s.heap.objs.size+1)=some (seqObj "list" vs.toArray 0):=by
  rw [<- hsz]; exact X4 _ rfl
 have keep:∀ b o,s.heap.get? b=some o->b≠s.heap.objs.size+1/\(((s.heap.push (seqObj "list" #[] 0)).update s.heap.objs.size (X9 (·++vs.toArray))).push (seqObj "list" vs.toArray 0)).get? b=some o:=λb o q=>by
  have hlt:b<s.heap.objs.size:=X5 q
  refine ⟨nz7 (M2 hlt),Z5 _ ?_⟩
  rw [U7 _ _ _ _ (nz7 hlt)]
  exact Z5 _ q
 show wpAny _ _ _ _ _ { s with heap:=((s.heap.push (seqObj "list" #[] 0)).update s.heap.objs.size (X9 (·++vs.toArray))).push (seqObj "list" vs.toArray 0) }
 rw [hsz]
 refine Z0 (Q0 (wpAny_call_entry_kw slot_list_sort ⟨_,hoL,rfl⟩ entry_list_sort ?_ (ksk_l1 _ _)))
 rw [ksk_t1]
 refine kf (s:={ s with heap:=((s.heap.push (seqObj "list" #[] 0)).update s.heap.objs.size (X9 (·++vs.toArray))).push (seqObj "list" vs.toArray 0) }) hoL h64 λe1 kS h' k1 k2 k3 k4 k5=>?_
 have hDk:s.heap.objs.size+1<kS:=by
  have:(((s.heap.push (seqObj "list" #[] 0)).update s.heap.objs.size (X9 (·++vs.toArray))).push (seqObj "list" vs.toArray 0)).objs.size=s.heap.objs.size+2:=by rw [size_push',hsz]
  have k4':s.heap.objs.size+2<=kS:=by rw [<- this]; exact k4
  (clear k5 k4 k3 k2 k1 keep hoL hsz h h64 hl; omega)
 have hh:=h (s.heap.objs.size+1) e1 kS h' (λb o q=>k1 b o (keep b o q).1 (keep b o q).2) k2 k3 (P6 _) hDk k5
 have mono:∀ (r l:List Value) (s1:Shared),fE prog w A.in1.in1 (.ref q) kS (eQ prog w A.in1.in1 (s.heap.objs.size+1) e1 kS vs λf s'=>Q (.ref (s.heap.objs.size+1)) s') r l s1 ->
   fE prog w A.in1.in1 (.ref q) kS (eQ prog w A.in1.in1 (s.heap.objs.size+1) e1 kS vs λfin s'=>∃ v,fin=.done (.ret v)/\wpAny (model prog w) A.in1 (ret (.ref (s.heap.objs.size+1))) (λfin s'=>∃ v,fin=.done (.ret v)/\Q v s') E s') r l s1:=by
  intro r
  induction r with
  | nil=>exact λl s1 zq=>oq02 zq λz0 zz=>oq24 zz λκ c z1 z2 z3 z4=>⟨z0,κ,c,z1,z2,z3,λp a1 a2=>(oi12 _ rfl (Y0 (oi12 _ rfl (z4 p a1 a2))))⟩
  | cons x r ih=>exact λl s1 z=>T4 z (λk s2 z2=>⟨z2.1,ih _ _ z2.2⟩) λ_ _ z=>z
 exact mono _ _ _ hh
end
def tSortKW (K:Z3) (P:Addr) (cap:List (Str × Nat)) (te tb:TE):TE:=λσ H Q=>te σ H λv H1=>∃ p vs,v=.ref p/\SqL K H1 p vs/\vs.length<1000000/\TbG H1 /\
 ∀ H2 c,TbSt P H1 H2->H2 c=some (.ext (aE c (Kon.Q P)))->jT (λσ H Q=>H c=some (.ext (aE c (Kon.Q P)))/\tb σ H Q) (λx=>dr x cap σ) (rm vs Q) vs [] H2
section
variable {X:Cx} {A:Around} {pins:List (Addr × Obj)} {σ:St} {H:Hp} {s:Shared} {x:Str} {cap:List (Str × Nat)} {scope:Scope} {cl:List (Str × Addr)} {f:Addr} {cd:Value}
theorem rX {D kS:Addr} {e e1:Nat} {ks vs:List V} {kvs its:List Value} {Q:VK} {P':List (Addr × Obj)} (I:Inv X ((kS,seqObj "list" (Z6 kvs) e) :: (D,seqObj "list" #[] e1) :: pins) σ H s) (hDk:D<kS) (hz:X.s₀.heap.objs.size<=D)
  (hpn:∀ p∈X.pn++pins,p.1≠kS/\p.1≠D) (h64:vs.length<1000000) (rk:Vals ks kvs) (rv:Vals vs its) (h:rm vs Q ks H):eQ X.prog X.w A D e1 kS its (λ_ s'=>EP X pins σ Q (.ref D) s') kvs s:=by
 refine oq14 h λps hP hl hnd q=>?_
 have pk:=I.pin (kS,seqObj "list" (Z6 kvs) e) (by simp)
 have pd:=I.pin (D,seqObj "list" #[] e1) (by simp)
 have l1:=rk.length
 have l2:=rv.length
 have l3:=hP.length
 have pa:=Vals.pairs I rk hP
 have el:its.length=ps.length:=by exact T2 (nz4 (nz3 l2.symm) (nz4 (nz3 hl.symm) (nz3 l3))) (nz4 (nz3 l3.symm) (nz4 (nz3 hl) (nz3 l2)))
 refine ⟨pd.1,tuples' true,λi j=>Pu.lt2 (ps.getD i (0,0)) (ps.getD j (0,0)),by rw [el]; exact lN hnd,λh2 Q' hq=>?_,λi j C hi hj hC=>lM pa (by exact nz1 hi (nz4 (nz3 l2.symm) (nz4 (nz3 hl.symm) (nz3 l1)))) (by exact nz1 hj (nz4 (nz3 l2.symm) (nz4 (nz3 hl.symm) (nz3 l1)))) hC,λp1 a1 u1=>?_⟩
 ·refine oq13 pa.tups λfs g1 g2 g3=>?_
  refine PySem.W.kat_kind (T:=.type "int") g1 (by omega) (λv hv=>?_) rfl hq
  refine oq21 (g3 v hv) λi t eq2_=>?_; subst eq2_
  exact .now
 ·rw [el] at a1 u1
  have eu:=up_srt hnd a1 u1
  have hlt:∀ i∈p1.toList,i<ps.length:=λi hi=>by
   have:=a1.pm.subset hi
   simpa using this
  have neD:∀ b o,b≠kS->b≠D->s.heap.get? b=some o->((s.heap.update kS (X9 λ_=>#[])).update D (X9 λ_=>cX its p1)).get? b=some o:=λb o n1 n2 e=>by
   rw [U7 _ _ _ _ n2,U7 _ _ _ _ n1]; exact e
  have hD1:(s.heap.update kS (X9 λ_=>(#[]:Array Value))).get? D=some (seqObj "list" #[] e1):=by rw [U7 _ _ _ _ (nz7 hDk)]; exact pd.1
  obtain ⟨e2,hD2⟩:∃ e2,((s.heap.update kS (X9 λ_=>#[])).update D (X9 λ_=>cX its p1)).get? D=some (seqObj "list" (cX its p1) e2):=⟨_,G3 hD1 λ_=>cX its p1⟩
  have unt:∀ b o,H b=some o->b≠kS/\b≠D:=λb o z=>⟨af z pk.2.1,af z pd.2.1⟩
  have noc:∀ y c,X.env.cells.lookup y=some c->c≠kS/\c≠D:=λy c z=>by
   refine oq22 (I.cell y c z) λv ob ho hd=>?_
   refine ⟨λw=>?_,λw=>?_⟩
   ·rw [w] at ho; exact pk.2.2.2.2 v (by rw [<- Z7 (ho.symm.trans pk.1)]; exact hd)
   ·rw [w] at ho; exact pd.2.2.2.2 v (by rw [<- Z7 (ho.symm.trans pd.1)]; exact hd)
  have I0:Inv X pins σ H s:=I.pins_of λp hp=>I.pin p (Y7 _ (Y4.mpr (.inr (Y4.mpr (.inr hp)))))
  have I1:Inv X pins σ (upd H D (.lst (p1.toList.map λi=>vs.getD i .non))) { s with heap:=(s.heap.update kS (X9 λ_=>#[])).update D (X9 λ_=>cX its p1) }:=by
   refine I0.step (g':=s.gens) (d':=s.drawn) (t':=s.toks) (ch:=[kS,D]) (λb hb=>?_) (λb o _ _ hc e _=>neD b o (λz=>hc (by simp [z])) (λz=>hc (by simp [z])) e) (λb o _ _ hc e _=>⟨o.slots,neD b o (λz=>hc (by simp [z])) (λz=>hc (by simp [z])) e⟩)
    (λb o hc _ n=>by rw [ai λz=>hc (by simp [z])]; exact n) (λb o hc e=>⟨o,neD b o (λz=>hc (by simp [z])) (λz=>hc (by simp [z])) e⟩) (λb xs z=>by rw [ai (unt b _ z).2]; exact z) (λb o u z=>by rw [ai (unt b _ z).2]; exact z) (λb ps z=>⟨#[],by rw [ai (unt b _ z).2,z]; simp⟩) (λm hm=>?_) (λa o z=>?_) I.bare
   ·have hb:b=kS\/b=D:=by simpa using hb
    rcases hb with rfl | rfl
    ·exact (oi04 (.inr (nz4 hz (nz5 hDk))) pk.2.2.1 (λy c z=>(noc y c z).1) (λp hp=>(hpn p hp).1))
    ·exact (oi04 (.inr hz) pd.2.2.1 (λy c z=>(noc y c z).2) (λp hp=>(hpn p hp).2))
   ·refine oq32 hm λo es ep ho r=>?_
    exact ⟨o,es,ep,neD _ o (R5 pk.2.2.1) (R5 pd.2.2.1) ho,r⟩
   ·by_cases w:a=D
    ·subst w
     rw [ah] at z
     cases z
     refine ⟨by rw [Y3,V9,a1.sz,V8]; exact nz5 (nz2 (nz3 l3.symm) (nz2 (nz3 hl) (nz8 h64 (by decide)))),p1.toList.map λi=>its.getD i M7,e2,cY λi hi=>mV rv (by have:=hlt i hi; exact nz1 this (nz4 (nz3 l3.symm) (nz3 hl))),hD2⟩
    ·rw [ai w] at z
     refine (I.hok a o z).stay (λb u hb e=>?_) (λb z=>by rw [ai (unt b _ z).2]; exact z) λb xs z=>by rw [ai (unt b _ z).2]; exact z
     rcases hb with rfl | hb
     ·exact neD _ _ (unt _ _ z).1 (unt _ _ z).2 e
     ·exact neD _ _ (unt _ _ hb).1 (unt _ _ hb).2 e
  exact ⟨.ref D,_,I1,rfl,q D _ pd.2.1 (λi hi=>by have:=hlt i hi; exact nz1 this (nz4 (nz3 l3.symm) (nz3 hl))) eu⟩
open PySem.W in
theorem pe_sortKW {P c:Addr} {params:Arguments} {body e:Expr} {p pos kpos lpos:Pos} {te tb:TE} (he:PE X e te) (hr:Room 3 X.A) (hm:X.mg "sorted"=none) (bm:BM X.mg X.base) (hC:codeHdIn X.K c P=true) (hT:P∈Kon.T) (hq:Kon.Q P=X.env.qual++"<lambda>") (hcode:X.env.code=.ref c)
  (S:LamScope X x cap scope) (hb:∀ cl pm cd ct u,A9 (kla_fn "<lambda>" (Kon.Q P) params body scope cl pm cd ct) ⟨[u],[]⟩=pure [(x,u)])
  (hp:∀ f cd cl s H,PE (gW X X.A.in1.in1 (x :: cap.map (·.1)) (Kon.Q P) scope f cd cl s H) body tb) (hg:autoParam (Gl X "sorted") L2.a2q._auto_1) (hdef:autoParam (defaultsOf params X.env=([],[])) L2.a2q._auto_1)
  (hst:autoParam (V4 [e] X.env=(false,eval e X.env) :: V4 [] X.env) L2.a2q._auto_1) (hpl:autoParam ((backTo pos (V4 [e] X.env)).any (·.1)=false) L2.a2q._auto_1) :
  PE X (.Call (.Name "sorted" p) [e] [⟨some "key",.Lambda params body scope lpos,kpos⟩] pos) (tSortKW X.K P cap te tb):=by
 intro pins s σ H Q I h
 refine M8 (dN I hg hm iC ?_)
 refine PyProof.Rows.callWith_kw ?_ (by rw [hst]; rfl) hpl
 have h1:(aZ te tNil) σ H λxs H1=>match xs with
  | [v]=>∃ p vs,v=.ref p/\SqL X.K H1 p vs/\vs.length<1000000/\TbG H1/\∀ H2 c,TbSt P H1 H2->H2 c=some (.ext (aE c (Kon.Q P)))->jT (λσ H Q=>H c=some (.ext (aE c (Kon.Q P)))/\tb σ H Q) (λx=>dr x cap σ) (rm vs Q) vs [] H2
  | _=>False:=h
 refine thn (a7 he a9 hst pos pins s σ H _ I h1) ?_
 intro us s1 zq; refine oq23 zq λvv H1 I1 r q=>?_
 show wpAny _ _ (evalAll ((do let v <- eval (.Lambda params body scope lpos) X.env; standAt pos; pure v) :: [])) _ _ s1
 match vv,q with
 | [v],q =>
  obtain ⟨l,vs,rfl,hS,h64,tg,q⟩:=q
  obtain ⟨u,rfl,ru⟩:=vals1 r
  cases ru
  refine wpAny_evalAll_cons (Z0 (mk_lam (P:=P) I1 S tg hT hq hcode hC bm hdef λf cl pm c' ctv H2 s2 I2 ts hc' CL=>Z0 (wpAny_standAt (Y0 (wpAny_evalAll_nil ?_)))))
  show wpAny _ _ (call (.builtin "sorted") [.ref l] [(F7 "key",.ref f)]) _ _ s2
  obtain ⟨its,rv,ht,hz⟩:=I2.list (ts.sm.seq hS)
  have lv:=rv.length
  refine pK ht.isList (by exact nz2 (nz3 lv.symm) h64) λD e1 kS h' k1 k2 k3 k4 k5 k6=>?_
  have I3:Inv X ((f,kla_obj "<lambda>" (Kon.Q P) params body scope cl pm c' ctv) :: pins) σ H2 { s2 with heap:=h' }:=I2.kept (t':=s2.toks) k1
  have big:∀ b,s2.heap.objs.size<=b->H2 b=none/\b≠X.env.locals/\b ∉ X.fs:=λb hb=>(oi03 (I2.hok.fresh hb) (N2 (nz1 I2.lt hb)) (I2.nofs hb))
  have I4:=I3.addPin (f:=D) (o:=seqObj "list" #[] e1) k2 (big D k4).1 (big D k4).2.1 (big D k4).2.2 λv z=>nomatch z
  have k4':s2.heap.objs.size<=kS:=nz4 k4 (nz5 k5)
  have I5:=I4.addPin (f:=kS) (o:=seqObj "list" #[] 0) k3 (big kS k4').1 (big kS k4').2.1 (big kS k4').2.2 λv z=>nomatch z
  have old:∀ p∈X.pn++((f,kla_obj "<lambda>" (Kon.Q P) params body scope cl pm c' ctv) :: pins),p.1<s2.heap.objs.size:=λp hp=>X5 (I2.pin p hp).1
  have hpn:∀ p∈X.pn++((D,seqObj "list" #[] e1) :: (f,kla_obj "<lambda>" (Kon.Q P) params body scope cl pm c' ctv) :: pins),p.1≠kS:=λp hp=>by
   rcases W9.mp hp with hp | hp
   ·exact nz7 (nz1 (old p (U0 _ hp)) k4')
   ·rcases Y4.mp hp with rfl | hp
    ·exact nz7 k5
    ·exact nz7 (nz1 (old p (Y7 _ hp)) k4')
  refine keys_inv (A:=X.A.in1.in1) (oD:=seqObj "list" #[] e1) S CL I.ok.frames hr.hd (by have:=hr.dp; show X.A.depth<_; omega) hb hp (nz4 I2.sz k4') hpn (λe2 ks kvs H3 s3 J rk hk=>?_) vs its [] [] 0 H2 _ I5 rv .nil (q H2 c' ts hc')
  have K:=rX (A:=X.A.in1.in1) (pins:=(f,kla_obj "<lambda>" (Kon.Q P) params body scope cl pm c' ctv) :: pins) (P':=pins) J k5 (nz4 I2.sz k4) (λp hp=>⟨nz7 (nz1 (old p hp) k4'),nz7 (nz1 (old p hp) k4)⟩) h64 rk rv hk
  refine oq02 K λz0 zz=>oq24 zz λκ cc z1 z2 z3 z4=>?_
  refine ⟨z0,κ,cc,z1,z2,z3,λp a1 a2=>?_⟩
  refine oq23 (z4 p a1 a2) λv9 H9 I9 r9 q9=>?_
  exact ⟨v9,H9,I9.pins_of λp hp=>I9.pin p (Y7 _ (Y4.mpr (.inr hp))),r9,q9⟩
end
section
variable {Γ:List Slot} {te tb:TE} {K:Z3} {P:Addr} {cap:List (Str × Nat)}
theorem rY {o:Option (List Int)} {g:Int->Option (Int × Int)} {x:Str} (hc:(cap.map (·.2)).Nodup) (h:EV Γ te o (rL rInt)) (hb:∀ a,EV ((csl [x] cap Γ).set 0 (.fr rInt a)) tb (g a) (rT2 rInt rInt)):EVL Γ (tSortKW K P cap te tb) (o.bind λxs=>Pu.nD g xs) rInt:=by
 intro C F σ H Q xs S e k
 refine oq12 (a8 e) λns e1 e=>?_
 unfold Pu.nD at e
 refine oq12 (a8 e) λps e2 e=>?_
 split at e
 ·rename_i hh
  refine oq02 hh λh64 hnd=>?_
  cases e
  have hl:=Pu.jS e2
  refine h C F σ H _ ns S e1 λv F1 H1 x1 zq=>oq23 zq λp vs e3 h1 h2=>?_
  have ev:=dq h2
  subst ev
  refine (oi25 p _ e3 (.inl (x1.sub.rd h1)) (by rw [Y3]; exact h64) ((S.grow x1).tg) (λH2 c ts h0=>?_))
  have x2:=ts.ext (S.grow x1).sub (S.grow x1).nt
  refine key_ev (ps:=ps) hc hb (λF' H' ks x3 hk=>?_) ns [] [] ps F1 H2 ((S.grow x1).grow x2) (x1.trans x2) h0 .nil e2 rfl
  refine ⟨ps,Paired.imp2 (λ_ _ z=>Rp.mono _ x3.sub z) hk,by rw [hk.length,Y3,hl],hnd,λq ix hq hi hx=>?_⟩
  rw [Y3] at hi
  refine k q _ F' H' x3 hq ?_
  rw [<- Pu.srtK_of hl hnd hi hx]
  refine cY λi hi'=>?_
  have:=hi i hi'
  show (ns.map V.int).getD i .non=.int (ns.getD i 0)
  simp [this]
 ·cases e
end
end
end L2
namespace Pu
open PySem
noncomputable def lnS (x:Str):Option Int:=if x.length<1000000 then some (x.length:Int) else none
noncomputable def atS (x:Str) (i:Int):Option Str:=if x.length<1000000 then (L2.atI x.cps.toList i).bind λc=>some ⟨#[c]⟩ else none
noncomputable def signs (x:Str):List Str:=x.cps.toList.map λc=>⟨#[c]⟩
noncomputable def hZ (sep:Str) (ws:List Str):Option Str:=if ((ws.map λw=>w.length+sep.length).sum)<1000000 then some (Txt.join sep ws) else none
end Pu
namespace L2
open PySem PySem.Spec PyProof.Rows
section
variable {X:Cx} {K:Z3}
def rLenS:List V->Hp->VK->Prop:=λxs H Q=>∃ z,xs=[.str z]/\z.length<=V1/\Q (.int z.length) H
theorem call_lenS:cV X (.builtin "len") rLenS:=mB
theorem strs_of:∀ {ws:List Str} {its:List Value},Vals (ws.map V.str) its->∃ l:List (Str × Tok),its=strValues l/\l.map (·.1)=ws
 | [],_,.nil=>⟨[],rfl,rfl⟩
 | w :: ws,_,.cons ⟨t,e⟩ r=>by
  obtain ⟨l,e1,e2⟩:=strs_of r
  exact ⟨(w,t) :: l,by rw [e,e1]; rfl,by rw [V0,e2]⟩
theorem pN (sep:Str):∀ (l:List Str) (k:Nat),l.foldl (λ(n:Nat) (w:Str)=>n+w.length+sep.length) k=k+(l.map λw=>w.length+sep.length).sum
 | [],k=>rfl
 | w :: l,k=>by
  rw [List.foldl_cons,pN sep l,V0,List.sum_cons]; omega
def rJoin (K:Z3):V->List V->Hp->VK->Prop:=λx xs H Q=>∃ a p ws,x=.str a/\xs=[.ref p]/\SqL K H p (ws.map V.str)/\((ws.map λw=>w.length+a.length).sum)<1000000/\Q (.str (Txt.join a ws)) H
theorem glued_len (sep:Str):∀ (ws:List Str),(Txt.join sep ws).length<=(ws.map λw=>w.length+sep.length).sum:=by
 have key:∀ (l:List Str) (acc:Array Nat),(l.foldl (λacc p=>acc++sep.cps++p.cps) acc).size=acc.size+(l.map λw=>w.length+sep.length).sum:=λl=>by
  induction l with
  | nil=>exact λacc=>rfl
  | cons w l ih =>
   intro acc
   rw [List.foldl_cons,ih,Array.size_append,Array.size_append,V0,List.sum_cons]
   show acc.size+sep.length+w.length+_=_
   omega
 intro ws
 cases ws with
 | nil=>exact nz6 _
 | cons w ws =>
  show (((w :: ws).drop 1).foldl (λacc p=>acc++sep.cps++p.cps) w.cps).size<=_
  rw [List.drop_one,List.tail_cons,key,V0,List.sum_cons]
  show w.length+_<=w.length+sep.length+_
  omega
theorem mt_join (h:X.K=K):MtM X "str.join" (rJoin K):=by
 subst h
 intro pins s σ H x vs v us Q I rx rv h
 refine oq35 h λa p ws eq3_ eq4_ hS hz q=>?_; subst eq3_; subst eq4_
 refine oq11 rx λt e=>?_; subst e
 refine oq12 rv.one λu e ru=>?_; subst e
 cases ru
 refine oq13 (I.list hS) λits r ht _=>?_
 obtain ⟨l,e1,e2⟩:=strs_of r
 subst e1
 have hT:s.TypeIs (.str a t) "str":=typeIs_str _ _ _
 have tl:R0.Str.tooLong ((l.map (·.1)).toArray.foldl (·+·.length+a.length) 0)=false:=by
  rw [e2,List.foldl_toArray,pN]
  unfold R0.Str.tooLong
  rw [V8]
  simp; omega
 refine call_meets PySem.F.slot_str_join hT PySem.F.entry_str_join (PySem.F.args_str_join_2 _ _) (meets_str_join_list a t p l tl) ⟨ht.isList,?_⟩
 subst e2
 match l,hz,q with
 | [],hz,q=>exact ⟨by rw [V8]; exact U2 _,⟨.str _,H,I.tok _,⟨_,rfl⟩,q⟩⟩
 | [w],hz,q=>exact ⟨.str w.1,H,I,⟨w.2,rfl⟩,q⟩
 | w :: w' :: l,hz,q=>exact ⟨by rw [V8]; exact nz4 (glued_len a _) (by omega),⟨.str _,H,I.tok _,⟨_,rfl⟩,q⟩⟩
end
section
variable [Kon] {Γ:List Slot} {ta tb:TE} {K:Z3} {oa:Option Str} {oi:Option Int}
theorem nE {n:Nat} (h:n<1000000):n<=V1:=by rw [V8]; omega
theorem ev_lenS (h:EV Γ ta oa rStr):EV Γ (tCB rLenS (aZ ta tNil)) (oa.bind λx=>Pu.lnS x) rInt:=by
 intro C F σ H Q M S e k
 refine oq12 (a8 e) λz e1 e=>?_
 unfold Pu.lnS at e
 split at e
 ·rename_i hz
  cases e
  exact h C F σ H _ z S e1 λv F' H' x1 r1=>⟨z,by rw [show v=.str z from r1],nE hz,k _ F' H' x1 rfl⟩
 ·cases e
theorem ev_ixS (h:EV Γ ta oa rStr) (hi:EV Γ tb oi rInt):EV Γ (tOp rIxS ta tb) (oa.bind λx=>oi.bind λi=>Pu.atS x i) rStr :=
 j3 (r:=rStr) (s:=rInt) (λF H x y a b c Q sb hx r2 e3 k=>by
  unfold Pu.atS at e3
  split at e3
  ·rename_i hz
   refine oq12 (a8 e3) λd e4 e5=>?_
   cases e5
   exact ⟨a,b,d,hx,r2,nE hz,e4,k _ rfl⟩
  ·cases e3) h hi
theorem fF {F:Hp}:∀ {vs:List V} {l:List Str},Paired (rStr.rel F) vs l->vs=l.map V.str
 | _,_,.nil=>rfl
 | _,_,.cons (a:=v) (b:=w) r t=>by rw [show v=.str w from r,fF t]; rfl
theorem ev_join {o:Option (List Str)} (h:EV Γ ta oa rStr) (h':EV Γ tb o (rL rStr)):EV Γ (tBM K "str" (rJoin K) ta (aZ tb tNil)) (oa.bind λx=>o.bind λws=>Pu.hZ x ws) rStr:=by
 intro C F σ H Q xs S e k
 refine oq12 (a8 e) λa e1 e=>oq12 (a8 e) λb e2 e=>?_
 unfold Pu.hZ at e
 split at e
 ·rename_i hz
  cases e
  refine h C F σ H _ a S e1 λv F1 H1 x1 r1=>?_
  have ev:v=.str a:=r1
  subst ev
  refine ⟨rfl,h' C F1 σ H1 _ b (S.grow x1) e2 λw F2 H2 x2 zq=>oq23 zq λp vs e3 h1 h2=>?_⟩
  subst e3
  exact ⟨a,p,b,rfl,rfl,by rw [<- fF h2]; exact .inl (x2.sub.rd h1),hz,k _ F2 H2 (x1.trans x2) rfl⟩
 ·cases e
end
def Cst (mg:Str->Option Value) (x:Str) (v:V):Prop:=∃ u,mg x=some u/\RelV v u
theorem pe_cst {X:Cx} {x:Str} {v:V} {pos:Pos} (c:Cst X.mg x v) (hg:Gl X x) (hd:autoParam ((x == ("__debug__":Str))=false) L2.a0q._auto_1):PE X (.Name x pos) (tC v):=by
 obtain ⟨u,h1,h2⟩:=c
 exact pe_glob hg h1 h2 hd
section
variable [Kon]
theorem bo_str:P0 "str"=some (.type "str"):=by decide +kernel
theorem cst_mk {K:Z3} {mg:Str->Option Value} {h:Heap} {x:Str} {v:V} {u:Value} (X:K.In h) (G:h.Ns U8 mg) (a:G8 K U8 x=some (some u)) (r:RelV v u):Cst mg x v:=⟨u,PySem.W.mg_of X G a,r⟩
end
end L2
namespace Pu
noncomputable def nF (ps:List (Int × Int)):Option (List (Int × Int)):=if ps.length<1000000/\ps.Nodup then some (srtP ps) else none
end Pu
namespace L2
section
open PySem PySem.Spec PyProof.Rows
variable [Kon]
section
variable {prog:W5} {w:World} {A:Around} {E:Value->Shared->Prop} {s:Shared} {κ:B0} {c:Nat->Nat->Bool} {vs:List Value}
open PySem.W
theorem kg {a:Addr} {n:Nat} {P:PySem.Fin->Shared->Prop} (ho:s.heap.get? a=some (seqObj "list" vs.toArray n)) (h64:vs.length<1000000) (L:Srt.Lin c vs.length)
  (hk:2<=vs.length->∀ h':Heap,(∀ b o,b≠a->s.heap.get? b=some o->h'.get? b=some o)->∀ Q':B0->Shared->Prop,Q' κ { s with heap:=h' }->wpAny (model prog w) A (keyKind' vs.toArray) Q' E { s with heap:=h' })
  (hc:∀ h':Heap,(∀ b o,b≠a->s.heap.get? b=some o->h'.get? b=some o)->∀ i j C,i<vs.length->j<vs.length->C (c i j) { s with heap:=h' }->kas_ask prog w A κ vs i j C { s with heap:=h' })
  (h:∀ p,Srt.Arr vs.length p->Srt.Up c p vs.length->P (.done (.ret .none)) { s with heap:=sortedHeap s.heap a vs (cX vs p) }) :
  wpAny (model prog w) A (R0.«list.sort» ⟨[.ref a],[]⟩) P E s:=by
 have ha:a<s.heap.objs.size:=X5 ho
 obtain ⟨e1,ho1⟩:∃ e1,(s.heap.update a (X9 λ_=>(#[]:Array Value))).get? a=some (seqObj "list" #[] e1):=⟨_,G3 ho (λ_=>#[])⟩
 generalize hh3:((s.heap.update a (X9 λ_=>(#[]:Array Value))).push (seqObj "tuple" vs.toArray 0)).push (seqObj "list" #[] 0)=h3
 have ho6:h3.get? a=some (seqObj "list" #[] e1):=by
  rw [<- hh3]; exact Z5 _ (Z5 _ ho1)
 have keep:∀ b o,b≠a->s.heap.get? b=some o->h3.get? b=some o:=λb o nb q=>by
  rw [<- hh3]
  refine Z5 _ (Z5 _ ?_)
  rw [U7 _ _ _ _ nb]; exact q
 have fin:∀ p,Srt.Arr vs.length p->Srt.Up c p vs.length->P (.done (.ret .none)) { s with heap:=h3.update a (X9 λ_=>cX vs p) }:=λp a1 a2=>by
  rw [<- hh3]; exact h p a1 a2
 rw [list_sort_plain]
 refine Z0 (listItems_at ho rfl ?_)
 refine Z0 (B4 ho rfl ?_ (by rw [X0,V8]; exact nz5 (nz8 h64 (by decide))) (U2 _))
 refine Z0 (seqEpoch_at ho1 rfl ?_)
 refine Z0 (wpAny_newTuple ?_ (by show vs.length<=_; rw [V8]; exact nz5 (nz8 h64 (by decide))))
 refine Z0 (wpAny_newList ?_ (U2 _))
 refine Q0 ?_
 show wpAny (model prog w) A _ P E { s with heap:=((s.heap.update a (X9 λ_=>(#[]:Array Value))).push (seqObj "tuple" vs.toArray 0)).push (seqObj "list" #[] 0) }
 rw [hh3]
 dsimp only
 have hsz:vs.toArray.size=vs.length:=by simp
 by_cases h2:vs.toArray.size<2
 ·rw [if_pos h2,if_pos h2]
  refine Z0 (Y0 ?_)
  rw [StateT.run_pure]
  refine Z0 (Y0 ?_)
  dsimp only
  refine Z0 (seqEpoch_at ho6 rfl ?_)
  refine Z0 (B4 ho6 rfl ?_ (U2 _) (by rw [Array.size_map]; show (pairsOf vs).size<=_; rw [pairsOf_size,V8]; exact F8 (nz5 (nz8 h64 (by decide)))))
  simp only [bne_self_eq_false,N3,if_false]
  have ep:(arrOf (J7 general' (vs.toArray.zip vs.toArray) #[] 7 none)).map (·.2)=cX vs (Z6 (X3 vs.length)):=by
   have e:=kas_range (pairsOf vs)
   rw [pairsOf_size] at e
   show (pairsOf vs).map (·.2)=_
   conv=>lhs; rw [<- e]
   unfold cX
   apply Array.toList_inj.mp
   rw [Array.map_map,Array.toList_map]
   exact Q2 λi _=>by show (kas_item (pairsOf vs) i).2=_; rw [kas_item_eq]
  refine Y0 ?_
  rw [ep]
  exact fin _ ⟨by simp,by simp⟩ λi j hij hj=>by omega
 ·rw [if_neg h2,if_neg h2]
  have h2':2<=vs.length:=by exact nz4 (U3.mp h2) (nz3 hsz)
  refine Z0 (hk h2' h3 keep _ ?_)
  refine Z0 (T4 (tim_run (s:={ s with heap:=h3 }) (ks:=vs) (κ:=κ) rfl L (hc h3 keep)) ?_ λ_ _ e=>e)
  rintro ⟨⟨⟩,st'⟩ s' ⟨rfl,p,b1,b2,b3,b4⟩
  dsimp only
  have hout:(arrOf st').map (·.2)=cX vs p:=kat_snds rfl b3
  rw [hout]
  refine Z0 (seqEpoch_at ho6 rfl ?_)
  refine Z0 (B4 ho6 rfl ?_ (U2 _) (by rw [jR,b1.sz,V8]; exact F8 (nz5 (nz8 h64 (by decide)))))
  rw [b4]
  simp only [bne_self_eq_false,N3,if_false]
  exact Y0 (fin p b1 b2)
theorem pO {l:Addr} {Q:Value->Shared->Prop} (hl:s.heap.IsList l vs.toArray) (h64:vs.length<1000000) (L:Srt.Lin c vs.length)
  (hk:2<=vs.length->∀ h':Heap,(∀ b o,s.heap.get? b=some o->h'.get? b=some o)->∀ Q':B0->Shared->Prop,Q' κ { s with heap:=h' }->wpAny (model prog w) A.in1.in1 (keyKind' vs.toArray) Q' E { s with heap:=h' })
  (hc:∀ h':Heap,(∀ b o,s.heap.get? b=some o->h'.get? b=some o)->∀ i j C,i<vs.length->j<vs.length->C (c i j) { s with heap:=h' }->kas_ask prog w A.in1.in1 κ vs i j C { s with heap:=h' })
  (h:∀ p,Srt.Arr vs.length p->Srt.Up c p vs.length->Q (.ref (s.heap.objs.size+1)) { s with heap:=sortedAll s.heap vs (cX vs p) }) :
  wpAny (model prog w) A (call (.builtin "sorted") [.ref l]) Q E s:=by
 refine Calls.call_function_entry kind_sorted plain_sorted entry_sorted (args_sorted1 _) ?_
 unfold R0.«sorted»
 refine Z0 (m:=checkCount "sorted" 1 1 _) (Y0 ?_)
 refine Z0 (collect_list hl ?_ (by rw [V8]; exact nz5 (nz8 h64 (by decide))))
 refine Z0 (wpAny_newList ?_ (by rw [V8]; exact nz5 (nz8 h64 (by decide))))
 have hsz:((s.heap.push (seqObj "list" #[] 0)).update s.heap.objs.size (X9 (·++vs.toArray))).objs.size=s.heap.objs.size+1:=by
  rw [Heap.size_update,size_push']
 have hoL:(((s.heap.push (seqObj "list" #[] 0)).update s.heap.objs.size (X9 (·++vs.toArray))).push (seqObj "list" vs.toArray 0)).get? (s.heap.objs.size+1)=some (seqObj "list" vs.toArray 0):=by
  rw [<- hsz]; exact X4 _ rfl
 have keep:∀ b o,s.heap.get? b=some o->b≠s.heap.objs.size+1/\(((s.heap.push (seqObj "list" #[] 0)).update s.heap.objs.size (X9 (·++vs.toArray))).push (seqObj "list" vs.toArray 0)).get? b=some o:=λb o q=>by
  have hlt:b<s.heap.objs.size:=X5 q
  refine ⟨nz7 (M2 hlt),Z5 _ ?_⟩
  rw [U7 _ _ _ _ (nz7 hlt)]
  exact Z5 _ q
 show wpAny _ _ _ _ _ { s with heap:=((s.heap.push (seqObj "list" #[] 0)).update s.heap.objs.size (X9 (·++vs.toArray))).push (seqObj "list" vs.toArray 0) }
 rw [hsz]
 refine Z0 (Q0 (N8 slot_list_sort ⟨_,hoL,rfl⟩ entry_list_sort
  (kg (s:={ s with heap:=((s.heap.push (seqObj "list" #[] 0)).update s.heap.objs.size (X9 (·++vs.toArray))).push (seqObj "list" vs.toArray 0) }) hoL h64 L
   (λh2 h' k=>hk h2 h' λb o q=>k b o (keep b o q).1 (keep b o q).2) (λh' k=>hc h' λb o q=>k b o (keep b o q).1 (keep b o q).2) λp a1 a2=>(oi12 _ rfl ?_)) (args_list_sort _)))
 exact Y0 (oi12 _ rfl (h p a1 a2))
end
section
variable {X:Cx} {K:Z3}
open PySem.W
def rSortPW (K:Z3):List V->Hp->VK->Prop:=λxs H Q=>∃ p vs ps,xs=[.ref p]/\SqL K H p vs/\Paired ((rT2 rInt rInt).rel H) vs ps/\ps.length<1000000/\ps.Nodup/\∀ q (ix:List Nat),H q=none->(∀ i∈ix,i<vs.length)->ix.map (λi=>ps.getD i (0,0))=Pu.srtP ps->Q (.ref q) (upd H q (.lst (ix.map λi=>vs.getD i .non)))
theorem pP (h:X.K=K):cV X (.builtin "sorted") (rSortPW K):=by
 subst h
 intro pins s σ H xs us Q I r hh
 refine oq36 hh λp vs ps eq3_ hS hP h64 hnd q=>?_; subst eq3_
 refine oq12 (vals1 r) λu eq1_ ru=>?_; subst eq1_
 cases ru
 refine oq13 (I.list hS) λits rv ht hz=>?_
 have hl:=rv.length
 have hl2:=hP.length
 have pa:=Vals.pairs I rv hP
 have el:its.length=ps.length:=by exact T2 (nz4 (nz3 hl.symm) (nz3 hl2)) (nz4 (nz3 hl2.symm) (nz3 hl))
 refine pO (κ:=tuples' true) (c:=λi j=>Pu.lt2 (ps.getD i (0,0)) (ps.getD j (0,0))) ht.isList (by exact nz2 (nz3 el) h64) (by rw [el]; exact lN hnd) (λh2 h' k Q' hq=>?_) (λh' k i j C hi hj hC=>lM (s:={ s with heap:=h' }) (pa.kept k) hi hj hC) λp1 a1 u1=>?_
 ·refine oq13 ((pa.kept k).tups) λfs g1 g2 g3=>?_
  refine kat_kind (s:={ s with heap:=h' }) (T:=.type "int") g1 (by omega) (λv hv=>?_) rfl hq
  refine oq21 (g3 v hv) λi t eq2_=>?_; subst eq2_
  exact .now
 ·rw [el] at a1 u1
  have eu:=up_srt hnd a1 u1
  refine oq11 (sortedAll_at s.heap its (cX its p1)) λep hat=>?_
  have hlt:∀ i∈p1.toList,i<ps.length:=λi hi=>by
   have:=a1.pm.subset hi
   simpa using this
  refine ⟨.ref _,_,I.laid (t':=s.toks) (o:=.lst (p1.toList.map λi=>vs.getD i .non)) (λb ob q=>sortedAll_old q) (P6 _) ⟨?_,p1.toList.map λi=>its.getD i M7,ep,?_,hat⟩,rfl,q _ _ (I.hok.fresh (P6 _)) (λi hi=>by have:=hlt i hi; exact nz1 this (nz3 hl2.symm)) eu⟩
  ·rw [Y3,V9,a1.sz,V8]; exact nz5 (nz8 h64 (by decide))
  ·exact cY λi hi=>mV rv (by have:=hlt i hi; exact nz1 this (nz3 hl2.symm))
end
section
variable {Γ:List Slot} {ta:TE} {K:Z3}
theorem rZ {o:Option (List (Int × Int))} (h:EV Γ ta o (rL (rT2 rInt rInt))):EVL Γ (tCB (rSortPW K) (aZ ta tNil)) (o.bind λps=>Pu.nF ps) (rT2 rInt rInt):=by
 intro C F σ H Q xs S e k
 refine oq12 (a8 e) λps e1 e=>?_
 unfold Pu.nF at e
 split at e
 ·rename_i h64
  cases e
  refine h C F σ H _ ps S e1 λv F' H' x1 zq=>oq23 zq λp vs e2 h1 h2=>?_
  refine ⟨p,vs,ps,by rw [e2],.inl (x1.sub.rd h1),Paired.imp2 (λ_ _ z=>Rp.mono _ x1.sub z) h2,h64.1,h64.2,λq ix hq hi hx=>?_⟩
  refine k q _ F' H' x1 hq ?_
  rw [<- hx]
  exact cY λi h=>mV h2 (hi i h)
 ·cases e
end
end
open PySem PySem.Spec PyProof.Rows
def EntAt (h:Heap) (d:Addr) (es:Array K4) (ep:Nat):Prop:=∃ o,h.get? d=some o/\o.ExactDict/\o.data=.dict es ep
theorem EntAt.typeIs {s:Shared} {d:Addr} {es:Array K4} {ep:Nat} (x:EntAt s.heap d es ep):s.TypeIs (.ref d) "dict":=let ⟨o,a,b,_⟩:=x; ⟨o,a,b.1⟩
end L2
namespace Pu
section
variable {α β γ ε:Type} {oa:Option α} {ob:Option β} {oc:Option γ}
theorem as2 {F:α × β->Option ε}:(oa.bind λa=>ob.bind λb=>F (a,b))=(oa.bind λa=>ob.bind λb=>some (a,b)).bind F:=by cases oa <;> cases ob <;> rfl
theorem as3 {F:α × β × γ->Option ε}:(oa.bind λa=>ob.bind λb=>oc.bind λc=>F (a,b,c))=(oa.bind λa=>(ob.bind λb=>oc.bind λc=>some (b,c)).bind λb=>some (a,b)).bind F:=by cases oa <;> cases ob <;> cases oc <;> rfl
end
open PySem
noncomputable def putE (d:List (Option Int × Str)) (k:Int) (v:Str):List (Option Int × Str):=if d.any (λkv=>decide (kv.1=some k))=true then d.map (λkv=>if kv.1=some k then (kv.1,v) else kv) else d++[(some k,v)]
noncomputable def bO (d:List (Option Int × Str)) (k:Option Int):Option Str:=(d.find? λkv=>decide (kv.1=k)).map (·.2)
noncomputable def cutS (x:Str) (a b:Option Int):Option Str:=if x.length<1000000 then a.bind λi=>b.bind λj=>some (Txt.slice x (some i) (some j)) else none
theorem j8 (d:List (Option Int × Str)) (k:Int) (v:Str):(putE d k v).length<=d.length+1:=by
 unfold putE
 split
 ·rw [Y3]; exact P6 _
 ·rw [Y8]; exact nz6 _
end Pu
namespace L2
open PySem PySem.Spec PyProof.Rows
noncomputable def oK (k:Option Int):Option Key:=k.map A1
theorem oK_inj {a b:Option Int} (h:oK a=oK b):a=b:=by
 cases a <;> cases b <;> first | rfl | cases h | skip
 rfl
noncomputable def eW (P:W5) (w:World):PySem.KeyKind P w (Option Int) where
 is:=λk v=>oZ (oK k) v
 hash:=λk=>(dF P w).hash (oK k)
 inj:=λv a b ha hb=>oK_inj ((dF P w).inj v _ _ ha hb)
 byValue:=λk v h=>(dF P w).byValue _ v h
 pyHash:=λhv h=>(dF P w).pyHash hv h
 eqBool:=λ{_ _ _ a b _ _ Q} hu hv h=>(dF P w).eqBool hu hv (by
  have e:decide (oK a=oK b)=decide (a=b):=decide_eq_decide.mpr ⟨oK_inj,λz=>z ▸ rfl⟩
  rw [e]; exact h)
 «strs»:=λk x t v h=>(dF P w).strs _ x t v h
theorem oi_pairs {P P':W5} {w w':World} {l:List K4} {vs:List (Option Int × Value)} (h:Pairs (eW P w) l vs):Pairs (eW P' w') l vs:=by
 induction h with
 | nil=>exact .nil
 | cons a b _ ih=>exact .cons a b ih
theorem oi_any {P P':W5} {w w':World} {h:Heap} {a:Addr} {vs:List (Option Int × Value)} (d:h.DictOf (eW P w) a vs):h.DictOf (eW P' w') a vs :=
 oq36 d λo es ep h1 h2 h3 h4 h5 h6=>⟨o,es,ep,h1,h2,h3,λe he=>oq12 (h4 e he) λk g1 g2=>⟨k,g1,by rw [g2]; cases k <;> rfl⟩,oi_pairs h5,h6⟩
abbrev KE:List (Option Int × Str)->List (Option Int × Value)->Prop:=Paired λp q=>p.1=q.1/\RelV (.str p.2) q.2
def dOS (kvs:List (Option Int × Str)) (a:Addr):Heap->Prop:=λh=>kvs.length<=V1/\(a == K6)=false/\∃ vs,KE kvs vs/\∃ P w,h.DictOf (eW P w) a vs
theorem pQ {kvs:List (Option Int × Str)} {a:Addr}:qS (dOS kvs a):=λc q e=>by
 have g:∀ b,b<=a+c->(Heap.mk (Array.replicate (a+c+1) { cls:=.none,data:=.fields #[.none,.str q 0] }) {}).get? b=some { cls:=.none,data:=.fields #[.none,.str q 0] }:=λb hb=>by
  unfold Heap.get?
  rw [Array.getElem?_replicate,if_pos (Nat.lt_succ_of_le hb)]
 have h1:aE c q (Heap.mk (Array.replicate (a+c+1) { cls:=.none,data:=.fields #[.none,.str q 0] }) {}):=⟨c,_,_,_,rfl,g c (Nat.le_add_left _ _),rfl,rfl⟩
 rw [<- e] at h1
 refine oq12 h1.2.2 λvs _ zz=>oq21 zz λP w d=>oq33 d λo es ep e1 _ zz=>?_
 rw [g a (U6 _ _)] at e1
 cases e1
 exact nomatch zz.1
theorem dos_ok {P:W5} {w:World} {H:Hp} {h:Heap} {a:Addr} {kvs:List (Option Int × Str)} (x:dOS kvs a h):aS P w H h a (.ext (dOS kvs a)) :=
 ⟨x,oq12 x.2.2 λ_ _ z=>oq21 z λ_ _ d=>oq32 d λo _ _ e _=>⟨o,e⟩,λh1 h2 y k=>⟨y.1,y.2.1,oq12 y.2.2 λvs r z=>oq21 z λP w d=>⟨vs,r,P,w,oq32 d λo es ep e c=>⟨o,es,ep,k o e,c⟩⟩⟩⟩
theorem KE.val {kvs:List (Option Int × Str)} {vs:List (Option Int × Value)} (r:KE kvs vs) (k:Option Int):RelO ((Pu.bO kvs k).map V.str) (valueAt vs k):=by
 unfold Pu.bO valueAt
 induction r with
 | nil=>exact M0
 | @cons p q ps qs h t ih =>
  rw [Q6,Q6]
  by_cases e:p.1=k
  ·rw [decide_eq_true e,decide_eq_true (h.1.symm.trans e)]; exact h.2
  ·rw [decide_eq_false e,decide_eq_false λz=>e (h.1.trans z)]; exact ih
theorem KE.any {kvs:List (Option Int × Str)} {vs:List (Option Int × Value)} (r:KE kvs vs) (k:Option Int):(kvs.any λkv=>decide (kv.1=k))=vs.any λkv=>decide (kv.1=k):=by
 induction r with
 | nil=>rfl
 | cons h t ih=>rw [E4,E4,ih,h.1]
theorem KE.put {kvs:List (Option Int × Str)} {vs:List (Option Int × Value)} (r:KE kvs vs) (k:Int) {v:Str} {u:Value} (rv:RelV (.str v) u):KE (Pu.putE kvs k v) (stored vs (some k) u):=by
 unfold Pu.putE stored
 rw [r.any]
 split
 ·rename_i q; clear q
  induction r with
  | nil=>exact .nil
  | @cons p q _ _ h t ih =>
   rw [V0,V0]
   refine .cons ?_ ih
   by_cases e:p.1=some k
   ·rw [if_pos e,if_pos (h.1.symm.trans e)]; exact ⟨h.1,rv⟩
   ·rw [if_neg e,if_neg λz=>e (h.1.trans z)]; exact h
 ·exact Paired.snoc r ⟨rfl,rv⟩
section
variable {X:Cx} {pins:List (Addr × Obj)} {σ:St} {H:Hp} {s:Shared} {a:Addr} {kvs:List (Option Int × Str)} {u:Value}
noncomputable def oV:Option Int->V
 | none=>.non
 | some i=>.int i
theorem oV_is {P:W5} {w:World} {k:Option Int} (h:RelV (oV k) u):(eW P w).is k u=true:=by
 cases k with
 | none=>obtain rfl:u=M7:=h; rfl
 | some i=>exact oo (P:=P) (w:=w) (k:=.inl i) h
theorem dos_at (I:Inv X pins σ H s) (e:H a=some (.ext (dOS kvs a))):kvs.length<=V1/\(a == K6)=false/\∃ vs,KE kvs vs/\s.heap.DictOf (eW X.prog X.w) a vs :=
 have x:dOS kvs a s.heap:=(I.hok a _ e).1
 ⟨x.1,x.2.1,oq12 x.2.2 λvs r z=>oq21 z λ_ _ d=>⟨vs,r,oi_any d⟩⟩
theorem lS {h':Heap} {t':Nat} {kvs':List (Option Int × Str)} {vs:List (Option Int × Value)} (I:Inv X pins σ H s) (mu:Mut (H a)) (hd:(a == K6)=false) (z:kvs'.length<=V1) (r:KE kvs' vs) (d:h'.DictOf (eW X.prog X.w) a vs) (hs:S8 a s.heap h'):Inv X pins σ (upd H a (.ext (dOS kvs' a))) { s with heap:=h',toks:=t' } :=
 mE I mu hs (oq32 d λo _ _ e _=>⟨o,e⟩) (dos_ok ⟨z,hd,vs,r,_,_,d⟩)
def tDGetE (td ty:TE):TE:=λσ H Q=>td σ H λx H1=>ty σ H1 λy H2=>∃ a kvs k v,x=.ref a/\H2 a=some (.ext (dOS kvs a))/\y=oV k/\Pu.bO kvs k=some v/\Q (.str v) H2
def sDPutE (td ty tv:TE):TS:=λD σ H=>tv σ H λv H1=>td σ H1 λx H2=>ty σ H2 λy H3=>∃ a kvs k z,x=.ref a/\H3 a=some (.ext (dOS kvs a))/\y=.int k/\v=.str z/\kvs.length<V1/\D.nx σ (upd H3 a (.ext (dOS (Pu.putE kvs k z) a)))
def tDispE (x:Str):TE:=λ_ H Q=>∀ p,H p=none->Q (.ref p) (upd H p (.ext (dOS [(none,x)] p)))
end
section
variable {X:Cx} {o i e value:Expr} {pos pos' p1 p2:Pos} {td ty tv:TE} {x:Str}
theorem pe_dgetE (ho:PE X o td) (hi:PE X i ty) (hs:NoSl i):PE X (.Subscript o i pos) (tDGetE td ty):=by
 intro pins s σ H Q I h
 refine subD_of PySem.F.slot_dict_getitem.lookup hs (thn (ho pins s σ H _ I h) λu s1 zq=>oq23 zq λx H1 I1 rx q1=>thn (hi pins s1 σ H1 _ I1 q1) λiv s2 zq=>oq23 zq λy H2 I2 ry zz=>oq45 zz λa kvs k v ex g ey ev q2=>?_)
 subst ex
 subst ey
 obtain rfl:u=S7 a:=rx
 refine oq03 (dos_at I2 g) λz hd zz=>oq12 zz λvs rel dd=>?_
 refine oq12 (RelO.some_of (v:=.str v) (o:=valueAt vs k) (by have:=rel.val k; rw [ev] at this; exact this)) λw' hw rw'=>?_
 exact ⟨dd.typeIs,wpAny_getItem_of (oV_is ry) dd.mapOf hw ⟨.str v,H2,I2.tok _,rw',q2⟩⟩
theorem ps_dputE (ho:PE X o td) (hi:PE X i ty) (hv:PE X value tv) (hs:swapsWith value (some (.Subscript o i pos')) pos.line X.env=pure false) :
  PS X (.Assign [.Subscript o i pos'] value pos) (sDPutE td ty tv):=by
 intro pins s σ H D I h
 refine wpAny_Assign_Subscript (thn (hv pins s σ H _ I h) λr s1 zq=>oq23 zq λv H1 I1 rv q1=>thn (ho pins s1 σ H1 _ I1 q1) λu s2 zq=>oq23 zq λx H2 I2 rx q2=>thn (hi pins s2 σ H2 _ I2 q2) λiv s3 zq=>oq23 zq λy H3 I3 ry zz=>oq46 zz λa kvs k z ex g ey ez l q3=>?_) hs
 subst ex ey ez
 obtain rfl:u=S7 a:=rx
 refine oq03 (dos_at I3 g) λhz hd zz=>oq12 zz λvs rel dd=>?_
 refine wpAny_setItem_pairs (hsz:=by rw [<- Paired.length rel]; exact hz) (oV_is (k:=some k) ry) dd λh' dd' hs=>⟨σ,_,?_,q3⟩
 exact lS I3 (by rw [g]; exact M0) hd (nz4 (Pu.j8 kvs k z) l) (rel.put k rv) dd' hs
theorem pe_dispE {j1 j2}:PE X (.Dict [some (.Constant .none j1 p1)] [.Constant (.str x) j2 p2] pos) (tDispE x):=by
 intro pins s σ H Q I q
 have hn:=I.hok.fresh (nz6 s.heap.objs.size)
 have I1:=I.laid (a:=s.heap.objs.size) (o:=.dK []) (h':=s.heap.push { cls:=.type "dict",data:=.dict #[] }) (t':=s.toks) (λ_ _ q=>Z5 _ q) (nz6 _) (ot s.heap I.big)
 have hp:PPs X pos [some (.Constant .none j1 p1)] [.Constant (.str x) j2 p2] _:=pps_cons qy eE pps_nil
 refine wpAny_Dict_walk (knd:=eW X.prog X.w) rfl rfl (λz=>nomatch z) (show 1<=15 by decide) (thn (hp pins _ σ _ (λps H2=>ps=[(.non,.str x)]/\H2=upd H s.heap.objs.size (.dK [])) I1 ⟨rfl,rfl⟩) λws s2 zq=>oq24 zq λps H2 I2 rel e1 e2=>?_)
 subst e1 e2
 cases rel with
 | @cons p w _ _ h t =>
  cases t
  obtain ⟨w1,w2⟩:=w
  obtain rfl:w1=M7:=h.1
  refine oq03 (dk_of I2.hok ah) λz hd zz=>oq12 zz λvs0 r0 dd=>?_
  cases r0
  refine ⟨[(none,w2)],⟨rfl,rfl,M0⟩,?_,λh' dd' hs=>⟨.ref s.heap.objs.size,_,lS (kvs':=[(none,x)]) I2 (by rw [ah]; exact M0) hd (by rw [V8]; exact (by decide:1<=16777216)) (.cons ⟨rfl,h.2⟩ .nil) dd' hs,rfl,?_⟩⟩
  ·refine oq36 dd λo es ep h1 h2 h3 h4 h5 h6=>⟨o,es,ep,h1,h2,h3,?_,?_,List.nodup_nil⟩
   ·intro e he
    generalize hl:es.toList=l at h5
    cases h5
    rw [<- Array.mem_toList_iff,hl] at he
    cases he
   ·generalize es.toList=l at h5 ⊢
    cases h5
    exact .nil
  ·rw [sF]; exact q _ hn
end
section
variable [Kon] {Γ:List Slot} {T:Type} {ta tb te:TE} {u:TS} {fin:Fc->T->Ends->Prop} {kvs:List (Option Int × Str)}
noncomputable def rDO:Rp (List (Option Int × Str)):=⟨λF v kvs=>∃ p,v=.ref p/\F p=some (.ext (dOS kvs p)),λe h=>h.imp λ_ z=>⟨z.1,e _ _ z.2⟩⟩
theorem oV_op {F:Hp} {v:V} {k:Option Int} (h:(rOp rInt).rel F v k):v=oV k:=by
 cases k with
 | none=>exact h
 | some i=>exact h
theorem ev_ixE {o:Option (List (Option Int × Str))} {oi:Option (Option Int)} (h:EV Γ ta o rDO) (hi:EV Γ tb oi (rOp rInt)):EV Γ (tDGetE ta tb) (o.bind λd=>oi.bind λk=>Pu.bO d k) rStr:=by
 intro C F σ H Q b S e k
 refine oq12 (a8 e) λd e1 e=>?_
 refine oq12 (a8 e) λn e2 e=>?_
 refine h C F σ H _ d S e1 λv F' H' x1 r1=>hi C F' σ H' _ n (S.grow x1) e2 λw F2 H2 x2 r2=>?_
 refine oq12 r1 λp h1 h2=>oi45 p d n b h1 (x2.sub _ _ (x2.ff _ _ h2)) (oV_op r2) e (k _ F2 H2 (x1.trans x2) rfl)
theorem bv_newE {x:Str} {f:List (Option Int × Str)->Option T} (i:Nat) (h:∀ a,BV (Γ.set i (.oe (dOS a))) u (f a) fin):BV Γ (tSeq (tAsg (tDispE x) (gd i)) u) ((some [(none,x)]).bind f) fin:=by
 intro C F σ H D y S e k
 exact λp hp=>h _ C F _ _ D y (S.setO i hp rfl ⟨p,rfl,S.keep.free hp,S.sub.free hp,ah,pQ⟩) e k
theorem bv_putE {oa:Option Str} {oi:Option Int} {f:List (Option Int × Str)->Option T} (i:Nat) (hi:Γ[i]?=some (.oe (dOS kvs))) (hk:EV Γ tb oi rInt) (he:EV Γ te oa rStr) (h:∀ ys,BV (Γ.set i (.oe (dOS ys))) u (f ys) fin) :
  BV Γ (tSeq (sDPutE (tVar i) tb te) u) (oa.bind λa=>oi.bind λk=>if kvs.length<16777216 then f (Pu.putE kvs k a) else none) fin:=by
 intro C F σ H D x S e k
 refine oq12 (a8 e) λa e1 e=>?_
 refine oq12 (a8 e) λn e2 e=>?_
 split at e
 case isFalse=>cases e
 rename_i hl
 refine he C F σ H _ a S e1 λv F' H' x1 r1=>?_
 refine oq12 (S.at_ i _ hi) λo h1 zz=>oq12 zz λp eq4_ _=>?_; subst eq4_
 refine own_var i C F' σ H' _ (.ref p) (S.grow x1) h1 (hk C F' σ H' _ n (S.grow x1) e2 λw F2 H2 x2 r2=>?_)
 have S':=(S.grow x1).grow x2
 refine oq12 (S'.at_ i _ hi) λo' q1 zz=>oq15 zz λp' eq4_ q3 q4 q5 q6=>?_; subst eq4_
 obtain rfl:=V.ref.inj (Z7 (Z7 (h1.symm.trans q1)))
 refine oi46 p kvs n a rfl q5 r2 r1 (by rw [V8]; exact hl) ?_
 exact h _ C F2 σ _ D x (S'.chg hi rfl h1 q3 q4 rfl ⟨p,rfl,q3,q4,ah,pQ⟩) e k
theorem bv_retE (i:Nat) (hi:Γ[i]?=some (.oe (dOS kvs))):BV Γ (tRet (tVar i)) (some kvs) (finV rDO):=λC F σ H D x S e k=>by
 cases e
 refine oq12 (S.at_ i _ hi) λo h1 zz=>oq15 zz λp eq4_ q3 q4 q5 q6=>?_; subst eq4_
 have S':=S.freeze hi p _ (.fr rDO kvs) rfl rfl h1 q3 q4 q5 ⟨_,rfl,p,rfl,ah⟩ q6
 exact ⟨.ref p,h1,k _ _ H S'.toFr ⟨p,rfl,ah⟩⟩
end
section
variable {X:Cx}
def rSlS:V->Option Int->Option Int->Hp->VK->Prop:=λx lo hi H Q=>∃ z i j,x=.str z/\lo=some i/\hi=some j/\z.length<=V1/\Q (.str (Txt.slice z (some i) (some j))) H
theorem sl_str:SlR X rSlS:=by
 intro pins s σ H x v vl vu lo hi sl Q I rx hs pl pu h
 refine oq35 h λz i j e1 e2 e3 hz q=>?_
 subst e1 e2 e3
 refine oq11 rx λt eq1_=>?_; subst eq1_
 cases pl with
 | int i ti=>cases pu with
  | int j tj=>exact ⟨"str",_,PySem.F.slot_str_getitem.lookup,typeIs_str _ _ _,wpAny_getItem_str_slice (l:=some (i,ti)) (u:=some (j,tj)) (st:=none) hs rfl (post_val_or_str ⟨nz4 (Txt.slice_le z _ _) hz,λt' k=>⟨.str _,H,I.tok _,⟨t',rfl⟩,q⟩⟩)⟩
end
section
variable [Kon] {Γ:List Slot} {ta:TE}
theorem ev_cutS {o:Option Str} {tl th:TO} {ol oh:Option (Option Int)} (h:EV Γ ta o rStr) (h1:EO Γ tl ol) (h2:EO Γ th oh):EV Γ (tSl rSlS ta tl th) (o.bind λx=>ol.bind λa=>oh.bind λb=>Pu.cutS x a b) rStr:=by
 intro C F σ H Q b S e k
 refine oq12 (a8 e) λx e1 e=>oq12 (a8 e) λlo e2 e=>oq12 (a8 e) λhi e3 e=>?_
 unfold Pu.cutS at e
 split at e
 case isFalse=>cases e
 rename_i hl
 refine oq12 (a8 e) λi ei e=>oq12 (a8 e) λj ej e=>?_
 subst ei ej
 cases e
 exact h C F σ H _ x S e1 λv F1 H1 x1 hx=>h1 C F1 σ H1 _ _ (S.grow x1) e2 λF2 H2 x2=>h2 C F2 σ H2 _ _ ((S.grow x1).grow x2) e3 λF3 H3 x3=>oi35 x i j hx rfl rfl (nE hl) (k _ F3 H3 ((x1.trans x2).trans x3) rfl)
end
end L2
namespace Pf
open PySem L2
noncomputable def mixed (a:Int) (p_k:Int):Option Int :=
 ((((Pu.mul p_k p_k).bind λx1=>some (x1 * 2503)).bind λx2=>some (((a % 100000000000000000000) * 40503)+x2)).bind λx3=>some (x3+11)).bind λx4=>some (x4 % 2147483587)
noncomputable def dv (a:(Int × Int)) (b:Int) (c:Int):Option (List Int) :=
 (Pu.fdiv c a.2).bind λd=>(Pu.fmod c a.2).bind λe=>(some (if (decide (b=8))=true then 2 else 1)).bind λf=>(Pu.rng2 (Pu.mx 0 (d - 1)) (Pu.mn a.1 (d+2))).bind λx17=>(Pu.forS (λ(s9:(List Int)) (x8:Int)=>(Pu.rng2 (Pu.mx 0 (e - 1)) (Pu.mn a.2 (e+2))).bind λx16=>(Pu.forS (λ(s11:(List Int)) (x10:Int)=>if (decide (0<(Pu.ab (x8 - d))+(Pu.ab (x10 - e))) && decide ((Pu.ab (x8 - d))+(Pu.ab (x10 - e))<=f))=true then ((Pu.mul x8 a.2).bind λx12=>some (x12+x10)).bind λx15=>(Pu.app s11 x15).bind λg=>some (g) else some (s11)) x16 s9).bind λ(s11:(List Int))=>some (s11)) x17 ([])).bind λ(s9:(List Int))=>some (s9)
noncomputable def kh (a:(Int × Int)) (b:Int) (c:Int):Option (List Int) :=
 (some (a)).bind λt2=>((Pu.mul t2.1 t2.2).bind λx4=>Pu.rng1 x4).bind λx19=>(Pu.forS (λ(s6:(List Int)) (x5:Int)=>(((Pu.fdiv x5 t2.2).bind λx7=>(Pu.fdiv c t2.2).bind λx8=>some (x7 - x8)).bind λx9=>some (Pu.ab x9)).bind λd=>(((Pu.fmod x5 t2.2).bind λx12=>(Pu.fmod c t2.2).bind λx13=>some (x12 - x13)).bind λx14=>some (Pu.ab x14)).bind λe=>if ((decide ((d+e)=1)) || ((decide (b=8)) && ((decide (d=1)) && (decide (e=1)))))=true then (Pu.app s6 x5).bind λf=>some (f) else some (s6)) x19 ([])).bind λ(s6:(List Int))=>some (s6)
noncomputable def bY (a:List Int) (p_k:Int):Option Int :=
 if (decide (p_k<Pu.ln a))=true then Pu.at_ a p_k else some (0)
noncomputable def cr (a:Int) (p_k:Int) (b:Int):Option Int :=
 (Pf.mixed a p_k).bind λc=>if (decide (b=0))=true then some (c % 4) else if (decide (b=1))=true then some (c % 12) else if (decide (b=2))=true then some (a % (1000000000000000000+1)) else Pu.at_ ([c % 3,1000000000000000000 - (c % 3)]) ((c / 3) % 2)
noncomputable def folded (a:List Int) (b:Int):Option (List (List Int)) :=
 (Pu.rng3 0 (((Pu.ln a) - b)+1) b).bind λx2=>Pu.comp (λ(y1:Int)=>some (Pu.cut a (some y1) (some (y1+b)))) x2
noncomputable def floor (a:List Int) (b:Int):Option (List (List Int)) :=
 ((Pf.bY a b).bind λx1=>some (x1 % 5)).bind λc=>(Pu.comp (λ(y4:(Int × Int))=>Pf.cr y4.2 y4.1 (c % 4)) (Pu.enum (Pu.cut a (some (b+1)) (some (b+61))))).bind λd=>(if (decide (d=[]))=true then ((((Pf.bY a b).bind λx8=>some (x8 / 5)).bind λx9=>some (x9 % (1000000000000000000+1))).bind λx10=>some ([x10])).bind λe=>some (e) else some (d)).bind λs7=>((((Pf.bY a b).bind λx13=>some (x13 / 5)).bind λx14=>Pu.fmod x14 (Pu.mn 12 (Pu.ln s7))).bind λx15=>some (1+x15)).bind λf=>(if (decide (c=4))=true then (some (Pu.mx 1 (Pu.mn f ((Pu.ln s7) / 3)))).bind λg=>some (g) else some (f)).bind λs18=>Pf.folded s7 (Pu.mx s18 (0 - ((0 - (Pu.ln s7)) / 12)))
noncomputable def reach (a:List Int) (b:Int):Option Int :=
 (((Pf.bY a b).bind λx1=>Pf.mixed x1 7).bind λx2=>some (x2 % 2)).bind λx3=>Pu.at_ ([4,8]) x3
noncomputable def i0 (a:List (List Int)):Option (List Int) :=
 (Pu.forS (λ(s3:(List Int)) (x2:List Int)=>(Pu.cat s3 x2).bind λb=>some (b)) a ([])).bind λ(s3:(List Int))=>some (s3)
noncomputable def size_of (a:List (List Int)):Option ((Int × Int)) :=
 (if (!a.isEmpty)=true then (Pu.at_ a 0).bind λx1=>some (Pu.ln x1) else some (0)).bind λb=>some ((Pu.ln a,b))
noncomputable def dc (a:List (List Int)) (b:Int):Option Int :=
 ((Pf.size_of a).bind λx1=>some (x1.2)).bind λc=>((Pu.fdiv b c).bind λx4=>Pu.at_ a x4).bind λx5=>(Pu.fmod b c).bind λx6=>Pu.at_ x5 x6
noncomputable def bH (a:List (List Int)) (b:Int):Option ((Int × Int)) :=
 (Pf.dc a b).bind λx1=>some ((x1,b))
noncomputable def cj (a:List (List Int)):Option (List Int) :=
 (Pf.size_of a).bind λb=>(Pu.mul b.1 b.2).bind λx3=>Pu.lrng x3
noncomputable def in_order (a:List (List Int)):Option (List Int) :=
 (Pf.cj a).bind λx2=>Pu.sortK (λ(c1:Int)=>Pf.bH a c1) x2
noncomputable def eX (a:List (List Int)):Option (List (Option Int)) :=
 (Pf.cj a).bind λx1=>Pu.comp (λ(_y2:Int)=>some (none:Option Int)) x1
noncomputable def aR (a:Wa) (b:Int):Option (List Int) :=
 ((Pf.size_of a.1).bind λx1=>Pf.dv x1 a.2.1 b).bind λc=>Pu.dh (λ(y4:Int)=>(Pu.at_ a.2.2.1 y4).bind λx5=>some (x5.isSome)) (λ(y4:Int)=>(Pu.at_ a.2.2.1 y4).bind λx6=>x6) c
noncomputable def bj (a:List (List Int) × End_) (b:Int):Option Int :=
 (Pu.whS (λ(s2:Int)=>some ((Pu.find a.2 s2).isSome)) (λ(s2:Int)=>(((Pu.find a.2 s2).bind λx3=>some (x3.2)).bind λx5=>x5).bind λc=>some (c)) 100000 b).bind λ(s2:Int)=>some (s2)
noncomputable def bP (a:List (List Int)) (b:List Int):Option Int :=
 Pu.minK (λ(c1:Int)=>Pf.bH a c1) b
noncomputable def bp (a:List (List Int) × End_) (b:List Int) (c:Int):Option (Int × End_) :=
 (Pu.comp (λ(y1:Int)=>Pf.bj a y1) b).bind λd=>(Pf.bP a.1 d).bind λe=>(Pu.forS (λ(s5:End_) (x4:Int)=>if (!decide (x4=e))=true then if s5.length<16777216 then some (Pu.put s5 x4 (some c,some e)) else none else some s5) d a.2).bind λs5=>some (e,s5)
noncomputable def bB (a:Wa) (b:Int):Option (List (Option Int) × End_) :=
 (Pf.aR a b).bind λc=>(if (!c.isEmpty)=true then Pf.bp (a.1,a.2.2.2) c b else some (b,a.2.2.2)).bind λx=>(ixN a.2.2.1.length b).bind λj=>some (a.2.2.1.set j (some x.1),x.2)
noncomputable def ki (a:List (List Int)) (b:Int) (d:List Int):Option (Wa) :=
 (Pf.eX a).bind λe=>(Pu.forS (λ(s3:List (Option Int) × End_) (x2:Int)=>(Pf.bB (a,b,s3.1,s3.2) x2).bind λc=>some (c.1,c.2)) d (e,[])).bind λs=>some (a,b,s.1,s.2)
noncomputable def aA (a:List (List Int) × End_) (b:Option Int):Option (Option Int) :=
 (Pu.whS (λ(s2:(Option Int))=>some ((Pu.oX a.2 s2).isSome)) (λ(s2:(Option Int))=>(((s2).bind λx3=>Pu.find a.2 x3).bind λx4=>some (x4.2)).bind λc=>some (c)) 100000 b).bind λ(s2:(Option Int))=>some (s2)
noncomputable def aM (a:List (List Int) × End_) (b:List Int) (c:Int):Option (Int × End_) :=
 (Pu.comp (λ(y1:Int)=>(Pf.aA a (some y1)).bind λx=>x) b).bind λd=>(Pf.bP a.1 d).bind λe=>(Pu.forS (λ(s5:End_) (x4:Int)=>if (!decide (x4=e))=true then if s5.length<16777216 then some (Pu.put s5 x4 (some c,some e)) else none else some s5) d a.2).bind λs5=>some (e,s5)
noncomputable def be (a:Wa) (b:Int):Option (List (Option Int) × End_) :=
 (Pf.aR a b).bind λc=>(if (!c.isEmpty)=true then Pf.aM (a.1,a.2.2.2) c b else some (b,a.2.2.2)).bind λx=>(ixN a.2.2.1.length b).bind λj=>some (a.2.2.1.set j (some x.1),x.2)
noncomputable def aC (a:Wa) (b:Int):Option (Option Int) :=
 (Pu.at_ a.2.2.1 b).bind λx1=>Pf.aA (a.1,a.2.2.2) x1
noncomputable def cC (a:List (List Int)) (b:Int) (d:List Int):Option (Wa) :=
 (Pf.eX a).bind λe=>(Pu.forS (λ(s3:List (Option Int) × End_) (x2:Int)=>(Pf.be (a,b,s3.1,s3.2) x2).bind λc=>some (c.1,c.2)) d (e,[])).bind λs=>some (a,b,s.1,s.2)
noncomputable def br (a:List (List Int)):Option (List Int) :=
 (Pf.cj a).bind λx2=>Pu.nD (λ(c1:Int)=>Pf.bH a c1) x2
noncomputable def eA (a:List Int):Option (List (List Int)) :=
 (Pf.bY a 1).bind λb=>if (!decide ((b % 6)=1))=true then Pf.floor a 5 else (Pu.fmod (b / 12) (1+((b / 6) % 100000000000000000))).bind λc=>(Pu.rng1 12).bind λx21=>(Pu.forS (λ(s8:(List (List Int))) (x7:Int)=>(Pu.rng1 12).bind λx20=>(Pu.forS (λ(s11:(List Int)) (x10:Int)=>((Pf.mixed b ((x7 * 12)+x10)).bind λx12=>some (x12 % 2)).bind λd=>(Pu.at_ ([c+d,(1+((b / 6) % 100000000000000000))+3]) ((x7+x10) % 2)).bind λx17=>(Pu.app s11 x17).bind λe=>some (e)) x20 ([])).bind λ(s11:(List Int))=>(Pu.app s8 s11).bind λf=>some (f)) x21 ([])).bind λ(s8:(List (List Int)))=>some (s8)
noncomputable def dz (a:List (List Int)) (b:Int):Option (List (List Int)) :=
 (((Pu.at_ a 0).bind λx1=>some (Pu.ln x1)).bind λx2=>some ((Pu.ln a,x2))).bind λc=>((Pu.mul c.1 c.2).bind λx5=>Pu.rng1 x5).bind λx7=>Pu.comp (λ(y6:Int)=>Pf.kh c b y6) x7
noncomputable def cD (a:List (List Int)) (b:Int):Option (List Int) :=
 (Pf.br a).bind λx3=>Pu.dh (λ(y1:Int)=>(Pf.dc a y1).bind λx2=>some (decide (x2<=b))) (λ(y1:Int)=>some (y1)) x3
noncomputable def cO (a:List (List Int)) (b:Int) (c:Int):Option (List (Option Int)) :=
 ((Pf.cD a c).bind λx1=>Pf.cC a b x1).bind λd=>(Pf.cj a).bind λx5=>Pu.comp (λ(y4:Int)=>Pf.aC d y4) x5
noncomputable def fG (a:List Int):Option (List (Option Int × Str)) :=
 (Pu.forS (λ(s3:(List (Option Int × Str))) (x2:(Int × Int))=>(((Pu.lnS ("abcdefghijklmnopqrstuvwxyz":Str)).bind λx4=>some (decide (x2.1<x4))).bind λx5=>if x5=true then Pu.atS ("abcdefghijklmnopqrstuvwxyz":Str) x2.1 else some (("+":Str))).bind λx8=>if (s3).length<16777216 then (λb=>some (b)) (Pu.putE s3 x2.2 x8) else none) (Pu.enum a) ([(none,("#":Str))])).bind λ(s3:(List (Option Int × Str)))=>some (s3)
noncomputable def cP (a:(Int × Int)) (b:List (Str)):Option (List (List (Str))) :=
 (Pu.rng1 a.1).bind λx7=>Pu.comp (λ(y2:Int)=>((Pu.mul y2 a.2).bind λx3=>some ((some x3))).bind λx5=>((Pu.mul (y2+1) a.2).bind λx4=>some ((some x4))).bind λx6=>some (Pu.cut b x5 x6)) x7
noncomputable def eZ (a:List (List Int)) (b:Int) (c:Int):Option (List (Str)) :=
 (Pf.cO a b c).bind λd=>(((Pf.br a).bind λx5=>Pu.dh (λ(y3:Int)=>(Pu.at_ d y3).bind λx4=>some (decide (x4=some y3))) (λ(y3:Int)=>some (y3)) x5).bind λx6=>Pf.fG x6).bind λe=>((Pf.size_of a).bind λx10=>(Pu.comp (λ(y9:Option Int)=>Pu.bO e y9) d).bind λx11=>Pf.cP x10 x11).bind λx13=>Pu.comp (λ(y12:List (Str))=>Pu.hZ ("":Str) y12) x13
noncomputable def dA (a:List (Str)) (b:Str) (c:List (List Int)):Option (Bool) :=
 ((Pu.at_ c 0).bind λx1=>some (Pu.ln x1)).bind λd=>if ((!true) || (!decide ((Pu.ln a)=(Pu.ln c))))=true then some (false) else Pu.andThen (Pu.forC (λ(s5:Unit) (x4:(Int × Str))=>(if (!true)=true then some true else (((Pu.mul x4.1 d).bind λx6=>some ((some x6))).bind λx8=>((Pu.mul (x4.1+1) d).bind λx7=>some ((some x7))).bind λx9=>Pu.cutS b x8 x9).bind λx10=>some (!decide (x4.2=x10))).bind λx11=>if x11=true then some (.rt (false)) else some (.nx ())) (Pu.enum a) ()) (λ(s5:Unit)=>some (true)) (λx=>x)
noncomputable def bQ (a:List Int):Option (List Int) :=
 ((Pu.comp (λ(y1:(Int × Int))=>some ((y1.2,y1.1))) (Pu.enum a)).bind λx2=>Pu.nF x2).bind λx4=>Pu.comp (λ(y3:(Int × Int))=>some (y3.2)) x4
noncomputable def ci (a:List Int) (b:List (List Int)) (c:Int):Option (Str) :=
 (Pu.comp (λ(y1:Int)=>some (("#":Str))) a).bind λd=>(Pf.bQ a).bind λx33=>(Pu.forS (λ(s6:(List (Str)) × Int) (x5:Int)=>(((Pu.at_ a x5).bind λx7=>some (decide (x7<=c))).bind λx9=>if x9=true then (Pu.at_ s6.1 x5).bind λx8=>some (decide (x8=("#":Str))) else some false).bind λx32=>if x32=true then (Pu.atS ("abcdefghijklmnopqrstuvwxyz+":Str) (Pu.mn s6.2 26)).bind λe=>(ixN (s6.1).length x5).bind λj14=>(λf=>(Pu.whS (λ(s17:(List (Str)) × (List Int))=>some (!decide (s17.2=[]))) (λ(s17:(List (Str)) × (List Int))=>(s17.2).getLast?.bind λk31=>(Pu.at_ b k31).bind λg=>(Pu.forS (λ(s19:(List (Str)) × (List Int)) (x18:Int)=>(((Pu.at_ a x18).bind λx20=>some (decide (x20<=c))).bind λx22=>if x22=true then (Pu.at_ s19.1 x18).bind λx21=>some (decide (x21=("#":Str))) else some false).bind λx28=>if x28=true then (ixN (s19.1).length x18).bind λj24=>(λh=>(Pu.app s19.2 x18).bind λi=>some ((h,i))) ((s19.1).set j24 (e)) else some ((s19.1,s19.2))) g (s17.1,(s17.2).dropLast)).bind λ(s19:(List (Str)) × (List Int))=>some ((s19.1,s19.2))) 100000 (f,[x5])).bind λ(s17:(List (Str)) × (List Int))=>some ((s17.1,s6.2+1))) ((s6.1).set j14 (e)) else some ((s6.1,s6.2))) x33 (d,0)).bind λ(s6:(List (Str)) × Int)=>Pu.hZ ("":Str) s6.1
noncomputable def i3 (a:List Int):Option (Bool) :=
 (Pf.eA a).bind λb=>(Pf.reach a 0).bind λc=>(Pf.i0 b).bind λd=>(Pf.dz b c).bind λe=>(Pu.comp (λ(y9:List Int)=>some (y9)) b).bind λf=>((Pu.mset d).bind λz=>Pu.sortI z).bind λg=>((Pf.bY a 2).bind λx14=>Pu.fmod x14 (Pu.ln g)).bind λh=>((Pu.cat (Pu.cut g (some h) none) (Pu.cut g none (some h))).bind λx18=>some (Pu.cut x18 none (some 6))).bind λx38=>(Pu.forS (λ(s20:(List Int)) (x19:Int)=>(Pu.cat s20 ([x19,Pu.mx 0 (x19 - 1),Pu.mn 1000000000000000000 (x19+1)])).bind λi=>some (i)) x38 ([0,1000000000000000000])).bind λ(s20:(List Int))=>Pu.andThen (Pu.forC (λ(s24:Unit) (x23:Int)=>(Pf.eZ f c x23).bind λj=>(((Pf.ci d e x23).bind λx27=>Pf.dA j x27 b).bind λx28=>some (!x28)).bind λx31=>if x31=true then some (.rt (false)) else (Pu.app j ("":Str)).bind λk=>some (.nx ())) s20 ()) (λ(s24:Unit)=>(Pu.at_ s20 2).bind λl=>(Pf.eZ f c l).bind λm=>((Pf.ci d e l).bind λx36=>Pf.dA m x36 b).bind λx37=>if x37=true then some (decide (f=b)) else some false) (λx=>x)
end Pf
namespace Pu
section
variable {S R T β α:Type}
theorem cE {f:S->β->Option S} (I:Nat->S->Prop):∀ {xs:List β} {s:S},I 0 s->(∀ i x s,xs[i]?=some x->I i s->∃ s',f s x=some s'/\I (i+1) s')->∃ s',forS f xs s=some s'/\I xs.length s'
 | [],s,h0,_=>(oi12 s rfl h0)
 | x :: xs,s,h0,h=>by
  refine oq12 (h 0 x s rfl h0) λs1 e1 h1=>?_
  refine oq12 (cE (λi=>I (i+1)) (xs:=xs) (s:=s1) h1 λi y t hy ht=>h (i+1) y t (by simpa using hy) ht) λs2 e2 h2=>?_
  exact (oi12 s2 (by rw [forS_cons,e1]; exact e2) h2)
theorem pR {f:S->β->Option (Ctl S R)} (I:Nat->S->Prop):∀ {xs:List β} {s:S},I 0 s->(∀ i x s,xs[i]?=some x->I i s->∃ s',f s x=some (.nx s')/\I (i+1) s')->∃ s',forC f xs s=some (.nx s')/\I xs.length s'
 | [],s,h0,_=>(oi12 s rfl h0)
 | x :: xs,s,h0,h=>by
  refine oq12 (h 0 x s rfl h0) λs1 e1 h1=>?_
  refine oq12 (pR (λi=>I (i+1)) (xs:=xs) (s:=s1) h1 λi y t hy ht=>h (i+1) y t (by simpa using hy) ht) λs2 e2 h2=>?_
  exact (oi12 s2 (by rw [forC_cons,e1]; exact e2) h2)
theorem forC_unit {f:Unit->β->Option (Ctl Unit R)} {xs:List β} (h:∀ x∈xs,f () x=some (.nx ())):forC f xs ()=some (.nx ()):=by
 refine oq12 (pR (f:=f) (λ_ _=>True) (xs:=xs) (s:=()) trivial λi x s hx _=>(oi12 () (h x (W8 hx)) trivial)) λs' e _=>?_
 exact e
theorem se {k:S->Option T} {e:R->T} {o:Option (Ctl S R)} {s:S} (h:o=some (.nx s)):andThen o k e=k s:=by subst h; rfl
theorem i4 {f:Unit->β->Option (Ctl Unit R)} {xs:List β} {k:Unit->Option T} {e:R->T} (h:∀ x∈xs,f () x=some (.nx ())):andThen (forC f xs ()) k e=k ():=se (forC_unit h)
theorem g8 {f:S->β->Option S} {k:S->Option T} {o:Option T} (I:Nat->S->Prop) {xs:List β} {s:S} (h0:I 0 s) (h:∀ i x s,xs[i]?=some x->I i s->∃ s',f s x=some s'/\I (i+1) s') (hk:∀ s',I xs.length s'->k s'=o):(forS f xs s).bind k=o:=by
 refine oq12 (cE I h0 h) λs' e q=>?_
 rw [e]; exact hk s' q
theorem whS_inv {t:S->Option Bool} {f:S->Option S} (I:S->Prop) (μ:S->Nat) (h:∀ s,I s->∃ b,t s=some b/\(b=true->∃ s',f s=some s'/\I s'/\μ s'<μ s)):∀ {n:Nat} {s:S},I s->μ s<n->∃ s',whS t f n s=some s'/\I s'/\t s'=some false
 | 0,_,_,hn=>absurd hn (K8 _)
 | n+1,s,hI,hn=>by
  refine oq12 (h s hI) λb e1 e2=>?_
  cases b with
  | false=>exact (oi13 s (by rw [oG,e1]; rfl) hI e1)
  | true =>
   refine oq13 (e2 rfl) λs1 e3 h1 h2=>?_
   obtain ⟨s2,e4,h3,h4⟩:=whS_inv I μ h h1 (show μ s1<n by exact nz1 h2 (G7 hn))
   exact (oi13 s2 (by rw [oG,e1,nza,if_pos rfl,e3]; exact e4) h3 h4)
theorem whS_then {t:S->Option Bool} {f:S->Option S} {k:S->Option T} {o:Option T} (I:S->Prop) (μ:S->Nat) {n:Nat} {s:S} (h0:I s) (hn:μ s<n) (h:∀ s,I s->∃ b,t s=some b/\(b=true->∃ s',f s=some s'/\I s'/\μ s'<μ s)) (hk:∀ s',I s'->t s'=some false->k s'=o):(whS t f n s).bind k=o:=by
 refine oq13 (whS_inv I μ h h0 hn) λs' e h1 h2=>?_
 rw [e]; exact hk s' h1 h2
theorem forS_ex {f:S->β->Option S} {k:S->Option T} {P:T->Prop} (I:Nat->S->Prop) {xs:List β} {s:S} (h0:I 0 s) (h:∀ i x s,xs[i]?=some x->I i s->∃ s',f s x=some s'/\I (i+1) s') (hk:∀ s',I xs.length s'->∃ o,k s'=some o/\P o):∃ o,(forS f xs s).bind k=some o/\P o:=by
 refine oq12 (cE I h0 h) λs' e q=>?_
 rw [e]; exact hk s' q
theorem nats_get {n i:Nat} {x:Int} (h:(nats n)[i]?=some x):i<n/\x=(i:Int):=by
 unfold nats at h
 rw [X2] at h
 by_cases hi:i<n
 ·rw [J0 hi] at h
  exact ⟨hi,(Z7 h).symm⟩
 ·rw [M6 (by simp; exact U3.mp hi)] at h; cases h
theorem dB (n:Nat):(nats n).length=n:=by unfold nats; simp
theorem i5 {n:Nat} {x:Int}:x∈nats n↔∃ i:Nat,i<n/\x=(i:Int):=by
 unfold nats
 simp only [Q4,L8]
 constructor
 ·intro zq; refine oq12 zq λi h eq2_=>?_; subst eq2_; exact (oi12 i h rfl)
 ·intro zq; refine oq12 zq λi h eq2_=>?_; subst eq2_; exact (oi12 i h rfl)
theorem i6 {n:Nat} (h:n<=1000000):rng1 (n:Int)=some (nats n):=by
 unfold rng1
 rw [if_pos ⟨by omega,by omega⟩,U5]
theorem rng2_ok {i j:Int} (h1:-1000000<=i) (h2:i<=1000000) (h3:-1000000<=j) (h4:j<=1000000):rng2 i j=some ((X3 (j - i).toNat).map λ(k:Nat)=>i+(k:Int)):=by
 unfold rng2
 rw [if_pos (oi04 (by omega) (by omega) (by omega) (by omega))]
theorem iK {xs:List α} {a:α} (h:xs.length<=1000000):app xs a=some (xs++[a]):=by
 unfold app
 rw [if_pos (by exact nz2 h (by decide))]
theorem sf {xs ys:List α} (h:xs.length+ys.length<=1000000):cat xs ys=some (xs++ys):=by
 unfold cat
 rw [if_pos (by exact nz5 (nz2 h (by decide)))]
theorem nG {i j:Int} (h:-(2 ^ 64)<i/\i<2 ^ 64):mul i j=some (i * j):=by
 unfold mul
 rw [if_pos (.inl h)]
theorem i7 {i j:Int} (h:-(2 ^ 64)<j/\j<2 ^ 64):mul i j=some (i * j):=by
 unfold mul
 rw [if_pos (.inr h)]
theorem nH {i j:Int} (h:0<j/\j<2 ^ 64):fdiv i j=some (i / j):=by
 unfold fdiv
 rw [if_pos h]
theorem g9 {i j:Int} (h:0<j):fmod i j=some (i % j):=by
 unfold fmod
 rw [if_pos h]
theorem bZ {f:β->Option α} {g:β->α} {xs:List β} (hl:xs.length<=1000000) (h:∀ x∈xs,f x=some (g x)):comp f xs=some (xs.map g):=by
 unfold comp
 rw [if_pos (by exact nz5 (nz2 hl (by decide)))]
 clear hl
 induction xs with
 | nil=>rfl
 | cons x xs ih =>
  rw [qU,h x (Y4.mpr (.inl rfl)),nza,ih λy hy=>h y (Y4.mpr (.inr hy))]
  rfl
theorem iL {t:β->Option Bool} {f:β->Option α} {p:β->Bool} {g:β->α} {xs:List β} (hl:xs.length<=1000000) (ht:∀ x∈xs,t x=some (p x)) (h:∀ x∈xs,p x=true->f x=some (g x)):dh t f xs=some ((xs.filter p).map g):=by
 unfold dh
 rw [if_pos (by exact nz5 (nz2 hl (by decide)))]
 clear hl
 induction xs with
 | nil=>rfl
 | cons x xs ih =>
  rw [bv,ht x (Y4.mpr (.inl rfl)),nza,ih (λy hy=>ht y (Y4.mpr (.inr hy))) λy hy=>h y (Y4.mpr (.inr hy))]
  cases q:p x with
  | false=>rw [if_neg Z8,List.filter_cons_of_neg (by simp [q])]
  | true =>
   rw [if_pos rfl,h x (Y4.mpr (.inl rfl)) q,D7 q]
   rfl
theorem bR {xs:List α} {i:Nat}:at_ xs (i:Int)=xs[i]?:=by
 unfold at_ L2.atI L2.ixN
 rw [if_pos (by exact C6.mpr (U2 _))]
 by_cases h:i<xs.length
 ·rw [if_pos (by exact Int.ofNat_lt.mpr h)]; simp
 ·rw [if_neg (by exact Int.not_lt.mpr (C6.mpr (U3.mp h)))]; simp; exact U3.mp h
theorem pT {xs:List α} {i:Nat} {x:Int × α} (h:(enum xs)[i]?=some x):∃ a,xs[i]?=some a/\x=((i:Int),a):=by
 unfold enum at h
 rw [X2,List.getElem?_zipIdx] at h
 cases q:xs[i]? with
 | none=>rw [q] at h; cases h
 | some a=>rw [q] at h; simp at h; exact (oi12 a rfl h.symm)
theorem pU {xs:List α} {x:Int × α} (h:x∈enum xs):∃ (i:Nat) (a:α),xs[i]?=some a/\x=((i:Int),a):=by
 refine oq11 (G0.mp h) λi hi=>?_
 refine oq12 (pT hi) λa h1 h2=>?_
 exact (oi22 i a h1 h2)
theorem kj (xs:List α):(enum xs).length=xs.length:=by unfold enum; simp
theorem cut_to {xs:List α} {j:Nat}:cut xs none (some (j:Int))=xs.take j:=by
 unfold cut
 rw [HT.o9,HT.jj,D3,Nat.sub_zero]
 by_cases h:j<=xs.length
 ·rw [Q7 h]
 ·rw [Nat.min_eq_right (by exact nz5 (Nat.not_le.mp h)),O6 (nz6 _),O6 (by exact nz5 (Nat.not_le.mp h))]
theorem cut_from {xs:List α} {i:Nat}:cut xs (some (i:Int)) none=xs.drop i:=by
 unfold cut
 rw [HT.o9,HT.jj]
 by_cases h:i<=xs.length
 ·rw [Q7 h,O6 (by simp)]
 ·rw [Nat.min_eq_right (by exact nz5 (Nat.not_le.mp h)),C7 (nz6 _),C7 (by exact nz5 (Nat.not_le.mp h))]; simp
theorem nI {xs:List α} {i j:Nat}:cut xs (some (i:Int)) (some (j:Int))=(xs.drop i).take (j - i):=by
 unfold cut
 rw [HT.jj,HT.jj]
 by_cases h:i<=xs.length
 ·rw [Q7 h]
  by_cases h2:j<=xs.length
  ·rw [Q7 h2]
  ·rw [Nat.min_eq_right (by exact nz5 (Nat.not_le.mp h2)),O6 (by simp),O6 (by simp; omega)]
 ·rw [Nat.min_eq_right (a:=i) (by exact nz5 (Nat.not_le.mp h)),C7 (nz6 _),C7 (by exact nz5 (Nat.not_le.mp h))]
  simp
end
end Pu
namespace Fl
noncomputable abbrev cl (l:List Nat):List Int:=l.map λ(o:Nat)=>(o:Int)
theorem bS (l:List Nat):(cl l).length=l.length:=by simp
theorem km {l:List Nat} {x:Int}:x∈cl l↔∃ o,o∈l/\x=(o:Int):=by
 simp only [Q4]
 constructor
 ·intro zq; refine oq12 zq λo h eq2_=>?_; subst eq2_; exact (oi12 o h rfl)
 ·intro zq; refine oq12 zq λo h eq2_=>?_; subst eq2_; exact (oi12 o h rfl)
theorem si (a b:Int):Pu.ab (a - b)=dif a b:=rfl
end Fl
namespace Pf
open Fl Pu
theorem kn {n k:Int} (h1:-(2 ^ 31)<k) (h2:k<2 ^ 31):Pf.mixed n k=some (Fl.mixed n k):=by
 unfold Pf.mixed
 rw [nG ⟨by omega,by omega⟩]
 rfl
theorem pX {i j:Nat} (hi:i<=1000) (hj:j<=1000):rng2 (i:Int) (j:Int)=some ((X3 (j - i)).map λ(k:Nat)=>((i+k:Nat):Int)):=by
 rw [rng2_ok (by omega) (by exact C6.mpr (nz5 (nz2 hi (by decide)))) (by omega) (by exact C6.mpr (nz5 (nz2 hj (by decide)))),Int.toNat_sub]
 simp only [Int.natCast_add]
theorem mx_dn (R:Nat):Pu.mx 0 ((R:Int) - 1)=((R - 1:Nat):Int):=by unfold Pu.mx; split <;> omega
theorem mn_up (m R:Nat):Pu.mn (m:Int) ((R:Int)+2)=((min m (R+2):Nat):Int):=by unfold Pu.mn; split <;> omega
theorem pY {a b:Nat} (h1:a<=b+1) (h2:b<=a+1):0<=dif a b/\dif a b<=1:=by unfold dif; split <;> omega
theorem near_iff {p q ms reach:Int} (b1:0<=p/\p<=1) (b2:0<=q/\q<=1) (e:ms=(if reach=8 then 2 else 1)):(p+q=1\/(reach=8/\p=1/\q=1))↔(0<p+q/\p+q<=ms):=by
 subst e; split <;> omega
theorem rng_get {α:Type} {f:Nat->α} {n j:Nat} {y:α} (h:((X3 n).map f)[j]?=some y):j<n/\y=f j:=by
 rw [X2] at h
 refine oq12 (O4.mp h) λk hk eq2_=>?_; subst eq2_
 obtain ⟨h1,h2⟩:=Z4.mp hk
 rw [V5] at h1
 rw [List.getElem_range] at h2
 exact ⟨h1,by rw [h2]⟩
theorem pZ {R m:Nat} (h:R<m):R - 1+(min m (R+2) - (R - 1))=min m (R+2):=Nat.add_sub_cancel' (Nat.le_min.mpr ⟨nz4 (Nat.sub_le _ _) (nz5 h),nz4 (Nat.sub_le _ _) (U6 _ _)⟩)
theorem span_at {R m i:Nat} (h:i<min m (R+2) - (R - 1)):R - 1+i<m/\R - 1+i<=R+1/\R<=R - 1+i+1 :=
 have q:=Nat.lt_min.mp (Nat.add_lt_of_lt_sub' h)
 ⟨q.1,G7 q.2,Nat.le_add_of_sub_le (U6 _ _)⟩
theorem q0 {R m v:Nat} (h:min m (R+2)<=v) (h2:v<m):R+1<v:=by omega
theorem kZ {m c x:Nat} {reach:Int} (hc0:0<c) (hcm:c<=1000) (hmm:m<=1000) (hx:x<m * c):Pf.dv ((m:Int),(c:Int)) reach (x:Int)=some (cl (nbL m c reach x)):=by
 have hxr:x / c<m:=Nat.div_lt_of_lt_mul (by rw [Nat.mul_comm]; exact hx)
 have hxc:x % c<c:=Nat.mod_lt _ hc0
 have d1:((x:Nat):Int) / ((c:Nat):Int)=((x / c:Nat):Int):=(Int.natCast_ediv x c).symm
 have d2:((x:Nat):Int) % ((c:Nat):Int)=((x % c:Nat):Int):=(Int.natCast_emod x c).symm
 have c1:(0:Int)<(c:Int):=Int.ofNat_lt.mpr hc0
 have c2:((c:Nat):Int)<2 ^ 64:=Int.lt_of_le_of_lt (C6.mpr hcm) (by decide)
 unfold Pf.dv
 simp only
 rw [nH ⟨c1,c2⟩,nza,g9 c1,nza,d1,d2,nza]
 generalize hR:x / c=R at hxr
 generalize hC:x % c=C at hxc
 generalize hms:(if (decide (reach=8))=true then (2:Int) else 1)=ms
 have ems:ms=(if reach=8 then 2 else 1):=by rw [<- hms]; simp
 have lR:R - 1<=1000:=nz4 (Nat.sub_le _ _) (nz4 (nz5 hxr) hmm)
 have lC:C - 1<=1000:=nz4 (Nat.sub_le _ _) (nz4 (nz5 hxc) hcm)
 rw [mx_dn,mn_up,mx_dn,mn_up,pX lR (nz4 (B1 _ _) hmm),nza]
 have key:∀ (s:List Int) (r:Nat),r<m->r<=R+1->R<=r+1->s=cl ((X3 (r * c)).filter (adj c reach x)) ->
   ∃ s',((rng2 ((C - 1:Nat):Int) ((min c (C+2):Nat):Int)).bind λx16=>(Pu.forS (λ(s11:List Int) (x10:Int)=>if (decide (0<(Pu.ab ((r:Int) - (R:Int)))+(Pu.ab (x10 - (C:Int)))) && decide ((Pu.ab ((r:Int) - (R:Int)))+(Pu.ab (x10 - (C:Int)))<=ms))=true then ((Pu.mul (r:Int) (c:Int)).bind λx12=>some (x12+x10)).bind λx15=>(Pu.app s11 x15).bind λfound14=>some (found14) else some (s11)) x16 s).bind λs11=>some s11)=some s'/\s'=cl ((X3 ((r+1) * c)).filter (adj c reach x)):=by
  intro s r hr1 hr2 hr3 es
  have hrc:r * c+c<=m * c:=by rw [<- Nat.succ_mul]; exact G6 c hr1
  have hmc:m * c<=1000000:=D8 hmm hcm
  rw [pX lC (nz4 (B1 _ _) hcm),nza]
  refine (oi12 _ (g8 (λj s=>s=cl ((X3 (r * c+(C - 1+j))).filter (adj c reach x))) ?_ ?_ ?_) rfl)
  rotate_left 2
  ·rintro s' e2
   show some s'=some _
   congr 1
   rw [e2,Nat.add_mul,Nat.one_mul,Y3,V5,pZ hxc,dW _ (r * c+min c (C+2)) (r * c+c) (Nat.add_le_add_left (B1 _ _) _) λo h1 h2=>?_]
   refine oq11 (show ∃ k,o=r * c+k from ⟨o - r * c,(Nat.add_sub_cancel' (nz4 (U6 _ _) h1)).symm⟩) λk eq1_=>?_; subst eq1_
   have hk:=Nat.lt_of_add_lt_add_left h2
   refine iZ (.inr ?_)
   rw [(jH (i:=r) hk).2,hC]
   exact q0 (Nat.le_of_add_le_add_left h1) hk
  ·rw [es,Nat.add_zero,dW _ (r * c) _ (U6 _ _) λo h1 h2=>?_]
   refine oq11 (show ∃ k,o=r * c+k from ⟨o - r * c,(Nat.add_sub_cancel' h1).symm⟩) λk eq1_=>?_; subst eq1_
   have hk:=Nat.lt_of_add_lt_add_left h2
   refine iZ (.inl ?_)
   rw [(jH (i:=r) (nz8 (nz1 hk (Nat.sub_le _ _)) hxc)).2,hC]
   exact Nat.add_lt_of_lt_sub hk
  ·intro j y s hy es
   refine oq02 (rng_get hy) λhj eq1_=>?_; subst eq1_
   refine oq03 (span_at hj) λk1 k2 k3=>?_
   rw [show r * c+(C - 1+(j+1))=r * c+(C - 1+j)+1 from rfl,iB,adj_at k1]
   generalize C - 1+j=k at k1 k2 k3 es
   rw [si,si,hR,hC]
   have l2:s.length<=1000000:=by
    rw [es,bS]
    refine nz4 (M5 _ _) ?_
    rw [V5]
    exact nz4 (Nat.add_le_add_left (nz5 k1) _) (nz4 hrc hmc)
   have iff:=near_iff (pY hr2 hr3) (pY k2 k3) ems
   by_cases hcond:0<dif (r:Nat) (R:Nat)+dif (k:Nat) (C:Nat)/\dif (r:Nat) (R:Nat)+dif (k:Nat) (C:Nat)<=ms
   ·refine (oi12 (s++[((r * c+k:Nat):Int)]) ?_ ?_)
    ·rw [if_pos (by simpa using hcond),i7 ⟨Int.lt_trans (by decide) c1,c2⟩,nza,nza,iK l2,nza,Int.natCast_add,K9]
    ·rw [decide_eq_true (iff.mpr hcond),if_pos rfl,es]; unfold cl; rw [T3]; rfl
   ·refine (oi12 s ?_ ?_)
    ·rw [if_neg (by simpa using hcond)]
    ·rw [decide_eq_false λh=>hcond (iff.mp h),if_neg Z8,V6]; exact es
 refine g8 (λi s=>s=cl ((X3 ((R - 1+i) * c)).filter (adj c reach x))) ?_ ?_ ?_
 rotate_left 2
 ·rintro s' e2
  rw [e2]
  congr 2
  unfold nbL
  rw [Y3,V5,pZ hxr,dW _ (min m (R+2) * c) (m * c) (G6 c (B1 _ _)) λo h1 h2=>?_]
  refine iY hc0 (.inr ?_)
  rw [hR]
  exact q0 ((Nat.le_div_iff_mul_le hc0).mpr h1) ((B6 hc0).mpr h2)
 ·rw [Nat.add_zero,dW _ 0 _ (U2 _) λo _ ho=>?_]
  ·rfl
  ·refine iY hc0 (.inl ?_)
   rw [hR]
   exact Nat.add_lt_of_lt_sub ((B6 hc0).mpr ho)
 ·intro i y s hy es
  refine oq02 (rng_get hy) λhi eq1_=>?_; subst eq1_
  refine oq03 (span_at hi) λk1 k2 k3=>?_
  exact key s (R - 1+i) k1 k2 k3 es
theorem due_nb_eq {m c x:Nat} {reach:Int} (hc0:0<c) (hcm:c<=1000) (hmm:m<=1000):Pf.kh ((m:Int),(c:Int)) reach (x:Int)=some (cl (nbL m c reach x)):=by
 have hmc:m * c<=1000000:=D8 hmm hcm
 unfold Pf.kh
 simp only [bs]
 rw [nG ⟨by omega,by omega⟩,nza]
 have e0:((m:Nat):Int) * ((c:Nat):Int)=((m * c:Nat):Int):=(K9 m c).symm
 rw [e0,i6 (by exact hmc),nza]
 refine g8 (λi s=>s=cl ((X3 i).filter (adj c reach x))) rfl ?_ λs' e2=>by rw [e2,dB]; rfl
 ·intro i y s hy es
  refine oq02 (nats_get hy) λhi eq1_=>?_; subst eq1_
  have d1:∀ y:Nat,((y:Nat):Int) / ((c:Nat):Int)=((y / c:Nat):Int):=λy=>(Int.natCast_ediv y c).symm
  have d2:∀ y:Nat,((y:Nat):Int) % ((c:Nat):Int)=((y % c:Nat):Int):=λy=>(Int.natCast_emod y c).symm
  simp only [nH (show 0<((c:Nat):Int)/\((c:Nat):Int)<2 ^ 64 by omega),g9 (show 0<((c:Nat):Int) by exact Int.ofNat_lt.mpr hc0),bs,d1,d2,si]
  rw [iB]
  have l2:s.length<=1000000:=by
   rw [es,bS]
   refine nz4 (M5 _ _) ?_
   rw [V5]; exact nz5 (nz1 hi hmc)
  have ea:adj c reach x i=((decide (dif (i / c:Nat) (x / c:Nat)+dif (i % c:Nat) (x % c:Nat)=1)) || ((decide (reach=8)) && ((decide (dif (i / c:Nat) (x / c:Nat)=1)) && (decide (dif (i % c:Nat) (x % c:Nat)=1))))):=by
   unfold adj
   rw [T9]
   simp
  rw [<- ea]
  cases q:adj c reach x i with
  | false=>exact (oi12 s (if_neg Z8) (by rw [if_neg Z8,V6]; exact es))
  | true=>exact (oi12 (s++[(i:Int)]) (by rw [if_pos rfl,iK l2]; rfl) (by rw [if_pos rfl,es]; simp))
theorem fe (ns:List Int) (k:Nat):Pf.bY ns (k:Int)=some (cellAt ns k):=by
 unfold Pf.bY cellAt Pu.ln
 by_cases h:k<ns.length
 ·rw [if_pos (by simpa using h),bR]; simp [h]
 ·rw [if_neg (by simpa using h)]; simp [h]
theorem height_eq {n k way:Int} (h1:-(2 ^ 31)<k) (h2:k<2 ^ 31):Pf.cr n k way=some (Fl.cr n k way):=by
 have hm:=jE n k
 unfold Pf.cr Fl.cr
 rw [Pf.kn h1 h2,nza]
 by_cases e0:way=0
 ·rw [if_pos (by simpa using e0),if_pos e0]
 rw [if_neg (by simpa using e0),if_neg e0]
 by_cases e1:way=1
 ·rw [if_pos (by simpa using e1),if_pos e1]
 rw [if_neg (by simpa using e1),if_neg e1]
 by_cases e2:way=2
 ·rw [if_pos (by simpa using e2),if_pos e2]
  rfl
 rw [if_neg (by simpa using e2),if_neg e2]
 generalize Fl.mixed n k=p at *
 have hz:p / 3 % 2=0\/p / 3 % 2=1:=by omega
 rcases hz with z | z
 ·rw [z,if_pos rfl]; rfl
 ·rw [z,if_neg (by omega)]; rfl
theorem folded_eq {hs:List Int} {c:Nat} (hc:0<c) (hcn:c<=hs.length) (hn:hs.length<=1000):Pf.folded hs (c:Int)=some (Fl.folded hs c):=by
 have e:jD 0 ((hs.length:Int) - c+1) c=hs.length / c:=jF hc hcn
 have hd:hs.length / c<=hs.length:=Nat.div_le_self _ _
 unfold Pf.folded Pu.rng3 Pu.ln Fl.folded
 rw [if_pos (oi06 (by omega) (by omega) (by omega) (by omega) (by exact Int.ofNat_lt.mpr hc) (by exact Int.ofNat_lt.mpr (nz2 hcn (nz2 hn (by decide))))),nza,bZ (g:=λy=>Pu.cut hs (some y) (some (y+(c:Int)))) (by rw [Y3,V5,e]; exact nz5 (nz2 hd (nz2 hn (by decide)))) λ_ _=>rfl,T8]
 congr 1
 refine Q2 λi _=>?_
 show Pu.cut hs (some (0+(i:Int) * (c:Int))) (some (0+(i:Int) * (c:Int)+(c:Int)))=_
 have e1:(0:Int)+(i:Int) * (c:Int)=((i * c:Nat):Int):=by rw [Int.zero_add,K9]
 have e2:(0:Int)+(i:Int) * (c:Int)+(c:Int)=((i * c+c:Nat):Int):=by rw [e1,Int.natCast_add]
 rw [e2,e1,nI,U9]
theorem floor_eq (ns:List Int) (first:Nat) (hf:first<=100):Pf.floor ns (first:Int)=some (floorOf ns first):=by
 refine oq02 (iX ns first) λl1 l2=>?_
 refine oq04 (iW (cellAt ns first) l1 l2) λc1 c2 c3 c4=>?_
 unfold Pf.floor
 simp only [fe,bs]
 have e1:((first:Nat):Int)+1=((first+1:Nat):Int):=by omega
 have e2:((first:Nat):Int)+61=((first+61:Nat):Int):=by omega
 rw [e1,e2,nI,show first+61 - (first+1)=60 by omega]
 have eh:Pu.comp (λ(y4:Int × Int)=>Pf.cr y4.2 y4.1 (cellAt ns first % 5 % 4)) (Pu.enum ((ns.drop (first+1)).take 60))=some (cu ns first):=by
  rw [bZ (g:=λy=>Fl.cr y.2 y.1 (cellAt ns first % 5 % 4))]
  ·unfold cu Pu.enum; rw [T8]; rfl
  ·rw [kj,V7]; omega
  ·intro y hy
   refine oq22 (pU hy) λi a hi eq3_=>?_; subst eq3_
   have hi':=(Z4.mp hi).1
   rw [V7] at hi'
   exact height_eq (by omega) (by omega)
 rw [eh,nza]
 have e3:(if (decide (cu ns first=[]))=true then some [cellAt ns first / 5 % (1000000000000000000+1)] else some (cu ns first))=some (bb ns first):=by
  unfold bb
  by_cases h:cu ns first=[]
  ·rw [if_pos (by simpa using h),if_pos h]; rfl
  ·rw [if_neg (by simpa using h),if_neg h]
 rw [e3,nza]
 have ef:floorOf ns first=Fl.folded (bb ns first) (dO (cellAt ns first) (bb ns first).length).toNat:=rfl
 rw [ef]
 clear ef e3 eh
 generalize bb ns first=hs at *
 have hm:=mn12 l1
 have hmn:Pu.mn 12 (Pu.ln hs)=Fl.mn 12 hs.length:=rfl
 rw [hmn,g9 (by omega),nza,nza]
 have e5:(if (decide (cellAt ns first % 5=4))=true then some (Pu.mx 1 (Pu.mn (1+cellAt ns first / 5 % Fl.mn 12 hs.length) (Pu.ln hs / 3))) else some (1+cellAt ns first / 5 % Fl.mn 12 hs.length))=some (if cellAt ns first % 5=4 then Fl.mx 1 (Fl.mn (1+cellAt ns first / 5 % Fl.mn 12 hs.length) ((hs.length:Int) / 3)) else 1+cellAt ns first / 5 % Fl.mn 12 hs.length):=by
  by_cases h:cellAt ns first % 5=4
  ·rw [if_pos (by simpa using h),if_pos h]; rfl
  ·rw [if_neg (by simpa using h),if_neg h]
 rw [e5,nza]
 have e6:Pu.mx (if cellAt ns first % 5=4 then Fl.mx 1 (Fl.mn (1+cellAt ns first / 5 % Fl.mn 12 hs.length) ((hs.length:Int) / 3)) else 1+cellAt ns first / 5 % Fl.mn 12 hs.length) (0 - (0 - Pu.ln hs) / 12)=dO (cellAt ns first) hs.length:=rfl
 rw [e6]
 generalize dO (cellAt ns first) hs.length=cc at *
 obtain ⟨k,rfl⟩:∃ k:Nat,cc=(k:Int):=⟨cc.toNat,by omega⟩
 rw [U5]
 exact folded_eq (by omega) (by omega) (by exact nz5 (nz2 l2 (by decide)))
theorem reach_eq (ns:List Int) (k:Nat):∃ r,Pf.reach ns (k:Int)=some r/\(r=4\/r=8):=by
 unfold Pf.reach
 rw [fe,nza,Pf.kn (by omega) (by omega),nza,nza]
 have hm:=jE (cellAt ns k) 7
 generalize Fl.mixed (cellAt ns k) 7=p at *
 have hz:p % 2=0\/p % 2=1:=by omega
 rcases hz with z | z <;> rw [z]
 ·exact (oi12 4 rfl (.inl rfl))
 ·exact (oi12 8 rfl (.inr rfl))
theorem sj (rows:List (List Int)) (h:rows.flatten.length<=1000000):Pf.i0 rows=some rows.flatten:=by
 unfold Pf.i0
 refine g8 (λi s=>s=(rows.take i).flatten) rfl ?_ λs' e=>by rw [e,N7]
 intro i r s hr es
 have hi:=(Z4.mp hr).1
 have er:=(Z4.mp hr).2
 have e1:(rows.take (i+1)).flatten=s++r:=by
  have e0:rows.take (i+1)=rows.take i++[rows[i]]:=(E5 hi).symm
  rw [e0,es,er]; simp
 have hle:(s++r).length<=rows.flatten.length:=by
  rw [<- e1]
  have e2:rows.flatten=(rows.take (i+1)).flatten++(rows.drop (i+1)).flatten:=by rw [<- D0,W0]
  rw [e2,Y8]; exact U6 _ _
 rw [Y8] at hle
 exact (oi12 (s++r) (by rw [sf (by exact nz4 hle h)]; rfl) e1.symm)
end Pf
namespace Fl
noncomputable def hgt (rows:List (List Int)) (c x:Nat):Int:=(rows.getD (x / c) []).getD (x % c) 0
theorem bo {rows:List (List Int)} {c:Nat} (h:∀ r∈rows,r.length=c):rows.flatten.length=rows.length * c:=by
 induction rows with
 | nil=>simp
 | cons r rs ih =>
  rw [A4,Y8,ih λq hq=>h q (Y4.mpr (.inr hq)),h r (Y4.mpr (.inl rfl)),W4,Nat.succ_mul]
  omega
theorem qa {rows:List (List Int)} {c:Nat} (hc:0<c) (h:∀ r∈rows,r.length=c) {x:Nat} (hx:x<rows.length * c):rows.flatten[x]?=some (hgt rows c x):=by
 induction rows generalizing x with
 | nil=>simp at hx
 | cons r rs ih =>
  have hr:=h r (Y4.mpr (.inl rfl))
  rw [A4]
  by_cases hlt:x<c
  ·rw [X8 (by exact nz1 hlt (nz3 hr.symm)),Z9 (by exact nz1 hlt (nz3 hr.symm))]
   unfold hgt
   rw [Nat.div_eq_of_lt hlt,Nat.mod_eq_of_lt hlt]
   simp [hr,hlt]
  ·rw [Y5 (by exact nz4 (nz3 hr) (U3.mp hlt)),hr]
   rw [W4,Nat.succ_mul] at hx
   rw [ih (λq hq=>h q (Y4.mpr (.inr hq))) (by omega)]
   unfold hgt
   have e1:x / c=(x - c) / c+1:=by rw [Nat.div_eq x c,if_pos ⟨hc,by exact U3.mp hlt⟩]
   have e2:x % c=(x - c) % c:=by rw [Nat.mod_eq_sub_mod (by exact U3.mp hlt)]
   rw [e1,e2]
   simp
end Fl
namespace Pf
open Fl Pu
section
variable {rows:List (List Int)} {c:Nat}
theorem fg (hp:0<rows.length) (h:∀ r∈rows,r.length=c):Pf.size_of rows=some ((rows.length:Int),(c:Int)):=by
 unfold Pf.size_of
 cases rows with
 | nil=>simp at hp
 | cons r rs =>
  have hr:=h r (Y4.mpr (.inl rfl))
  rw [if_pos (by simp)]
  have e0:Pu.at_ (r :: rs) 0=some r:=bR (i:=0)
  rw [e0,nza,nza]
  unfold Pu.ln
  rw [hr]
theorem i8 (hc:0<c) (hcm:c<=1000) (h:∀ r∈rows,r.length=c) {x:Nat} (hx:x<rows.length * c):Pf.dc rows (x:Int)=some (hgt rows c x):=by
 have hp:0<rows.length:=by
  rcases Nat.eq_zero_or_pos rows.length with z | z
  ·rw [z] at hx; simp at hx
  ·exact z
 have hq:x / c<rows.length:=Nat.div_lt_of_lt_mul (by rw [Nat.mul_comm]; exact hx)
 have hm:x % c<c:=Nat.mod_lt _ hc
 unfold Pf.dc
 rw [fg hp h,nza,nza,nH ⟨by omega,by omega⟩,nza,g9 (by omega),<- Int.natCast_ediv,bR,Z9 hq,nza,nza,<- Int.natCast_emod,bR]
 have hr:=h _ (J3 hq)
 rw [Z9 (by exact nz1 hm (nz3 hr.symm))]
 unfold hgt
 simp [hq,hr,hm]
noncomputable def key (rows:List (List Int)) (c x:Nat):Int × Int:=(hgt rows c x,(x:Int))
theorem i9 (hc:0<c) (hcm:c<=1000) (h:∀ r∈rows,r.length=c) {x:Nat} (hx:x<rows.length * c):Pf.bH rows (x:Int)=some (key rows c x):=by
 unfold Pf.bH
 rw [i8 hc hcm h hx]; rfl
end
end Pf
namespace Fl
theorem lT (l m:List Nat):cl (l++m)=cl l++cl m:=by simp
end Fl
namespace Gr
open Fl Pu
theorem bnk {α β:Type} {o:Option α} {a:α} {f:α->Option β} {r:Option β} (h:o=some a) (k:f a=r):o.bind f=r:=by
 subst h; exact k
theorem bind_two {α β:Type} (o:Option (α × β)):(o.bind λs=>some (s.1,s.2))=o:=by cases o <;> rfl
def Tk (ws:List Nat) (u:Nat) (ws':List Nat):Prop:=u∈ws/\(∀ w∈ws,w=u\/w∈ws')/\(∀ w∈ws',w∈ws)/\ws.length=ws'.length+1
theorem Tk.last {u:Nat} {ws':List Nat}:Tk (ws'++[u]) u ws':=⟨Y7 _ W6,λ_ h=>(W9.mp h).elim .inr λz=>.inl (Y6.mp z),λ_ h=>U0 _ h,Y8⟩
theorem snoc_of (a:Nat) (l:List Nat):∃ u ws,a :: l=ws++[u]:=(List.eq_nil_or_concat (a :: l)).elim (λz=>nomatch z) λz=>oq21 z λws u e=>oi21 u ws (e.trans List.concat_eq_append)
end Gr
namespace Fl
open Pu
noncomputable def hk (hs:List Int) (x:Nat):Int × Int:=(hs.getD x 0,(x:Int))
theorem ju {rows:List (List Int)} {c:Nat} (hc:0<c) (h:∀ r∈rows,r.length=c) {x:Nat} (hx:x<rows.length * c):hk rows.flatten x=Pf.key rows c x:=by
 unfold hk Pf.key
 have:=qa hc h hx
 rw [List.getD_eq_getElem?_getD,this]; rfl
theorem lt2_as {a b:Int × Int} (h1:lt2 a b=true):lt2 b a=false:=by
 unfold lt2 at *; simp only [decide_eq_true_eq] at *; rw [decide_eq_false_iff_not]; omega
theorem lt2_ir (a:Int × Int):lt2 a a=false:=by unfold lt2; rw [decide_eq_false_iff_not]; omega
structure Ord (hs:List Int) (os:List Nat):Prop where
 pm:os.Perm (X3 hs.length)
 up:os.Pairwise λa b=>lt2 (hk hs a) (hk hs b)=true
section
variable {hs:List Int} {os:List Nat}
theorem Ord.nd (o:Ord hs os):os.Nodup:=(o.pm.nodup_iff).mpr List.nodup_range
theorem Ord.mem (o:Ord hs os) {x:Nat}:x∈os↔x<hs.length:=by rw [o.pm.mem_iff,L8]
theorem Ord.len (o:Ord hs os):os.length=hs.length:=by rw [o.pm.length_eq,V5]
noncomputable abbrev rk (os:List Nat) (x:Nat):Nat:=os.idxOf x
theorem Ord.rk_lt (o:Ord hs os) {x:Nat} (hx:x<hs.length):rk os x<hs.length:=by rw [<- o.len]; exact List.idxOf_lt_length_iff.mpr (o.mem.mpr hx)
theorem Ord.at_rk (o:Ord hs os) {x:Nat} (hx:x<hs.length):os[rk os x]?=some x:=by
 have h:=List.idxOf_lt_length_iff.mpr (o.mem.mpr hx)
 rw [Z9 h,List.getElem_idxOf h]
theorem Ord.rk_at (o:Ord hs os) {i x:Nat} (h:os[i]?=some x):rk os x=i:=by
 have hi:=(Z4.mp h).1
 have e:=(Z4.mp h).2
 rw [<- e]
 exact o.nd.idxOf_getElem i hi
theorem Ord.lt_iff (o:Ord hs os) {x y:Nat} (hx:x<hs.length) (hy:y<hs.length):rk os x<rk os y↔lt2 (hk hs x) (hk hs y)=true:=by
 have go:∀ {x y:Nat},x<hs.length->y<hs.length->rk os x<rk os y->lt2 (hk hs x) (hk hs y)=true:=λ{x y} hx hy h=>by
  have h1:=o.at_rk hx
  have h2:=o.at_rk hy
  have e1:=(Z4.mp h1)
  have e2:=(Z4.mp h2)
  obtain ⟨l1,e1⟩:=e1
  obtain ⟨l2,e2⟩:=e2
  have:=M4.mp o.up _ _ l1 l2 h
  rw [e1,e2] at this
  exact this
 refine ⟨go hx hy,λh=>?_⟩
 rcases Nat.lt_trichotomy (rk os x) (rk os y) with z | z | z
 ·exact z
 ·have e1:=o.at_rk hx
  rw [z,o.at_rk hy] at e1
  cases e1
  rw [lt2_ir] at h; cases h
 ·have:=lt2_as (go hy hx z)
  rw [this] at h; cases h
theorem Ord.le_iff (o:Ord hs os) {x y:Nat} (hx:x<hs.length) (hy:y<hs.length):rk os x<=rk os y↔lt2 (hk hs y) (hk hs x)=false:=by
 rw [<- U3,o.lt_iff hy hx,Bool.not_eq_true]
end
end Fl
namespace Pf
open Fl Pu
theorem hk_nd (hs:List Int):((X3 hs.length).map (hk hs)).Nodup:=by
 rw [List.Nodup,F6]
 refine List.nodup_range.imp λ{a b} hab e=>hab ?_
 have:(hk hs a).2=(hk hs b).2:=by rw [e]
 unfold hk at this
 simp only at this
 omega
theorem enum_hk {hs:List Int} (h:hs.length<=1000000):Pu.comp (λ(y1:Int × Int)=>some ((y1.2,y1.1))) (Pu.enum hs)=some ((X3 hs.length).map (hk hs)):=by
 rw [bZ (g:=fun y:Int × Int=>(y.2,y.1)) (by rw [kj]; exact h) λ_ _=>rfl]
 congr 1
 apply G9
 intro i
 unfold Pu.enum hk
 rw [X2,X2,X2,List.getElem?_zipIdx]
 by_cases hi:i<hs.length
 ·rw [Z9 hi,J0 hi]; simp [hi]
 ·rw [M6 (by exact U3.mp hi),M6 (by simp; exact U3.mp hi)]; rfl
theorem srtP_ord {hs:List Int} (h:hs.length<=1000000):∃ os,Pu.comp (λ(y3:Int × Int)=>some (y3.2)) (srtP ((X3 hs.length).map (hk hs)))=some (cl os)/\Ord hs os:=by
 have pm:=iE ((X3 hs.length).map (hk hs))
 have so:=fz ((X3 hs.length).map (hk hs))
 generalize srtP ((X3 hs.length).map (hk hs))=qs at pm so
 have hl:qs.length=hs.length:=by rw [pm.length_eq]; simp
 rw [bZ (g:=fun y:Int × Int=>y.2) (nz4 (nz3 hl) h) λ_ _=>rfl]
 have form:∀ q∈qs,q=hk hs q.2.toNat:=λq hq=>by
  refine oq12 (Q4.mp (pm.mem_iff.mp hq)) λi _ e=>?_
  rw [<- e]; unfold hk; simp
 refine ⟨qs.map λq=>q.2.toNat,?_,?_,?_⟩
 ·congr 1
  unfold cl
  rw [T8]
  refine Q2 λq hq=>?_
  have:=form q hq
  rw [this]; unfold hk; simp
 ·have:=pm.map λq=>q.2.toNat
  rw [T8] at this
  refine this.trans ?_
  have e:((X3 hs.length).map ((fun q:Int × Int=>q.2.toNat) ∘ hk hs))=X3 hs.length:=by
   conv=>rhs; rw [<- List.map_id (X3 hs.length)]
   refine Q2 λi _=>?_
   unfold hk; simp
  rw [e]
 ·rw [F6]
  have ndq:qs.Nodup:=(pm.nodup_iff).mpr (hk_nd hs)
  refine (List.Pairwise.imp_of_mem ?_ (so.and ndq))
  intro a b ha hb ⟨h1,h2⟩
  rw [<- form a ha,<- form b hb]
  unfold le2 at h1
  unfold lt2
  rw [decide_eq_true_eq] at *
  obtain ⟨a1,a2⟩:=a; obtain ⟨b1,b2⟩:=b
  have:¬ (a1=b1/\a2=b2):=λz=>h2 (by rw [z.1,z.2])
  simp only at *
  omega
theorem nJ {n i:Nat} (h:i<n):L2.ixN n (i:Int)=some i:=by
 unfold L2.ixN
 rw [if_pos (by exact C6.mpr (U2 _)),if_pos (by exact Int.ofNat_lt.mpr h),U5]
end Pf
namespace Fl
open Pu
theorem nats_cl (n:Nat):nats n=cl (X3 n):=rfl
theorem ord_nd (hs:List Int):((X3 hs.length).map (hk hs)).Nodup:=Pf.hk_nd hs
theorem srtK_ord (hs:List Int):∃ os,srtK (cl (X3 hs.length)) ((X3 hs.length).map (hk hs))=cl os/\Ord hs os:=by
 unfold srtK
 have ez:((X3 hs.length).map (hk hs)).zip (cl (X3 hs.length))=(X3 hs.length).map λ(x:Nat)=>(hk hs x,(x:Int)):=by
  unfold cl
  rw [List.zip_map']
 rw [ez]
 have pm:=E7 ((X3 hs.length).map λ(x:Nat)=>(hk hs x,(x:Int))) λa b=>le2 a.1 b.1
 have so:(((X3 hs.length).map λ(x:Nat)=>(hk hs x,(x:Int))).mergeSort λa b=>le2 a.1 b.1).Pairwise λa b=>le2 a.1 b.1=true:=D4 (λa b c=>iF a.1 b.1 c.1) (λa b=>iG a.1 b.1) _
 generalize (((X3 hs.length).map λ(x:Nat)=>(hk hs x,(x:Int))).mergeSort λa b=>le2 a.1 b.1)=qs at pm so
 have form:∀ q∈qs,q=(hk hs q.2.toNat,(q.2.toNat:Int)):=λq hq=>by
  refine oq12 (Q4.mp (pm.mem_iff.mp hq)) λi _ e=>?_
  rw [<- e]; simp
 refine ⟨qs.map λq=>q.2.toNat,?_,?_,?_⟩
 ·unfold cl
  rw [T8]
  refine Q2 λq hq=>?_
  have:=form q hq
  rw [this]; simp
 ·have:=pm.map λq=>q.2.toNat
  rw [T8] at this
  refine this.trans ?_
  have e:((X3 hs.length).map ((fun q:(Int × Int) × Int=>q.2.toNat) ∘ λ(x:Nat)=>(hk hs x,(x:Int))))=X3 hs.length:=by
   conv=>rhs; rw [<- List.map_id (X3 hs.length)]
   refine Q2 λi _=>?_
   simp
  rw [e]
 ·rw [F6]
  have nd:qs.Nodup:=by
   rw [pm.nodup_iff,List.Nodup,F6]
   refine List.nodup_range.imp λ{a b} hab e=>hab ?_
   have:=(Prod.mk.inj e).2
   omega
  refine (List.Pairwise.imp_of_mem ?_ (so.and nd))
  intro a b ha hb ⟨h1,h2⟩
  have fa:=form a ha
  have fb:=form b hb
  have ne:a.2.toNat≠b.2.toNat:=λz=>h2 (by rw [fa,fb,z])
  rw [fa,fb] at h1
  simp only at h1
  unfold le2 at h1
  unfold lt2
  rw [decide_eq_true_eq] at *
  unfold hk at *
  simp only at *
  omega
end Fl
namespace Pf
open Fl Pu
section
variable {rows:List (List Int)} {c:Nat}
theorem fh (hp:0<rows.length) (hcm:c<=1000) (hm:rows.length<=1000) (h:∀ r∈rows,r.length=c):Pf.cj rows=some (cl (X3 (rows.length * c))):=by
 unfold Pf.cj
 have hb:rows.length * c<=1000000:=by
  have:=D8 hm hcm
  omega
 rw [fg hp h,nza,nG ⟨by simp; omega,by simp; exact Int.ofNat_lt.mpr (nz2 hm (by decide))⟩,nza]
 have e:(rows.length:Int) * (c:Int)=((rows.length * c:Nat):Int):=by simp
 simp only
 rw [e]
 unfold Pu.lrng
 rw [if_pos (oi03 (by omega) (by omega) (by omega)),U5,nats_cl]
theorem lV {g:Int->Option (Int × Int)} {f:Nat->Int × Int}:∀ {l:List Nat},(∀ x∈l,g (x:Int)=some (f x))->Pu.keysOf g (cl l)=some (l.map f)
 | [],_=>rfl
 | x :: l,h=>by
  show Pu.keysOf g ((x:Int) :: cl l)=_
  rw [Pu.keysOf,h x (Y4.mpr (.inl rfl)),nza,lV λy hy=>h y (Y4.mpr (.inr hy))]
  rfl
end
end Pf
namespace Pu
section
variable {α:Type}
theorem find_put {d:List (Int × α)} {k j:Int} {v:α}:find (put d k v) j=if j=k then some v else find d j:=by
 unfold put
 split
 ·rename_i h
  unfold find
  induction d with
  | nil=>simp at h
  | cons e d ih =>
   rw [V0,Q6,Q6]
   by_cases hk:e.1=k
   ·rw [if_pos hk]
    by_cases hj:j=k
    ·subst hj; simp [hk]
    ·rw [if_neg hj]
     have:¬ e.1=j:=λz=>hj (z.symm.trans hk)
     simp only [this,decide_false]
     by_cases hr:(d.any λkv=>decide (kv.1=k))=true
     ·have:=ih hr
      rw [if_neg hj] at this
      exact this
     ·have e2:d.map (λkv=>if kv.1=k then (kv.1,v) else kv)=d:=by
       conv=>rhs; rw [<- List.map_id d]
       refine Q2 λkv hkv=>?_
       rw [if_neg]
       ·rfl
       ·intro z
        exact hr (D9.mpr (oi12 kv hkv (by simp [z])))
      rw [e2]
   ·rw [if_neg hk]
    have hr:(d.any λkv=>decide (kv.1=k))=true:=by
     rw [E4] at h
     simpa [hk] using h
    have:=ih hr
    by_cases hj:e.1=j
    ·subst hj
     simp [hk]
    ·simp only [hj,decide_false]
     exact this
 ·rename_i h
  unfold find
  rw [List.find?_append]
  by_cases hj:j=k
  ·subst hj
   have:(d.find? λkv=>decide (kv.1=j))=none:=by
    rw [List.find?_eq_none]
    intro kv hkv z
    exact h (D9.mpr (oi12 kv hkv z))
   rw [this]; simp
  ·rw [if_neg hj]
   have:¬ k=j:=λz=>hj z.symm
   simp [this]
theorem put_len {d:List (Int × α)} {k:Int} {v:α}:(put d k v).length<=d.length+1:=by
 unfold put
 split
 ·rw [Y3]; exact nz5 (U1 _)
 ·simp
end
end Pu
namespace Fl
open Pu Gr
def Nb (m c:Nat) (reach:Int) (a b:Nat):Prop:=a<m * c/\b<m * c/\adj c reach a b=true
theorem Nb.sy {m c:Nat} {reach:Int} (a b:Nat) (h:Nb m c reach a b):Nb m c reach b a:=⟨h.2.1,h.1,by rw [adj_comm]; exact h.2.2⟩
theorem nK {m c:Nat} {reach:Int} {a b:Nat} (ha:a<m * c):Nb m c reach a b↔b∈nbL m c reach a:=by
 rw [jk]; exact ⟨λh=>⟨h.2.1,h.2.2⟩,λh=>⟨ha,h.1,h.2⟩⟩
theorem Ord.inj {hs:List Int} {os:List Nat} (o:Ord hs os) (x y:Nat) (hx:x<hs.length) (hy:y<hs.length) (e:rk os x=rk os y):x=y:=by
 have h1:=o.at_rk hx
 rw [e,o.at_rk hy] at h1
 exact (Z7 h1).symm
def dI (n:Nat) (homes:List (Option Int)) (home:Nat->Option Nat):Prop:=homes.length=n/\∀ x,x<n->homes[x]?=some ((home x).map λ(s:Nat)=>(s:Int))
def ia (ended:L2.End_) (par:Nat->Option (Nat × Nat)):Prop:=∀ s:Nat,find ended (s:Int)=(par s).map λp=>(some (p.1:Int),some (p.2:Int))
end Fl
namespace Pf
open Fl Pu Gr
section
variable {rows:List (List Int)} {c:Nat} {reach:Int} {os:List Nat} {home:Nat->Option Nat} {par:Nat->Option (Nat × Nat)} {homes:List (Option Int)} {ended:L2.End_} {k n:Nat} {A:Nat->Nat->Prop}
theorem lW {ρ:Nat->Nat} (inj:∀ x y,x<n->y<n->ρ x=ρ y->x=y) (u:UF A n ρ k home par) (hk:k<=1000) (he:ia ended par) {s r:Nat} (hs:home s=some s) (h:Liv par s r):Pf.bj (rows,ended) (s:Int)=some (r:Int):=by
 unfold Pf.bj
 refine whS_then (λz=>∃ t:Nat,z=(t:Int)/\home t=some t/\Liv par t r) (λz=>ρ z.toNat) (oi13 s rfl hs h) ?_ ?_ ?_
 ·rw [U5]
  have:=(u.dom s (by rw [hs]; exact nofun)).2
  exact nz8 this (nz2 hk (by decide))
 ·intro z zq; refine oq13 zq λt eq1_ ht hl=>?_; subst eq1_
  refine (oi12 _ rfl (λhb=>?_))
  simp only
  rw [he t] at hb ⊢
  cases q:par t with
  | none=>rw [q] at hb; cases hb
  | some p =>
   obtain ⟨m,e⟩:=p
   refine (oi13 (e:Int) rfl (oi13 e rfl ((u.pr t m e q).2.1) ?_) ?_)
   ·cases hl with
    | root z=>rw [q] at z; cases z
    | up z w=>rw [q] at z; cases z; exact w
   ·rw [U5,U5]
    exact u.rk_pr inj q
 ·rintro z ⟨t,rfl,ht,hl⟩ hb
  simp only at hb
  rw [he t] at hb
  cases hl with
  | root=>rfl
  | up q _=>rw [q] at hb; cases hb
theorem jh (hp:0<rows.length) (hc:0<c) (hcm:c<=1000) (hm:rows.length<=1000) (h:∀ r∈rows,r.length=c) (hh:dI (rows.length * c) homes home) {x:Nat} (hx:x<rows.length * c) :
  Pf.aR (rows,reach,homes,ended) (x:Int)=some (cl (((nbL rows.length c reach x).filter λo=>(home o).isSome).map λo=>(home o).getD 0)):=by
 unfold Pf.aR
 have hb:rows.length * c<=1000 * 1000:=D8 hm hcm
 simp only
 rw [fg hp h,nza,kZ hc hcm hm hx,nza]
 have mem:∀ y∈cl (nbL rows.length c reach x),∃ o:Nat,y=(o:Int)/\o<rows.length * c:=λy hy=>by
  refine oq12 (km.mp hy) λo ho eq2_=>?_; subst eq2_
  exact (oi12 o rfl ((jk.mp ho).1))
 rw [iL (p:=λy=>(home y.toNat).isSome) (g:=λy=>(((home y.toNat).getD 0:Nat):Int)) (by rw [bS]; have:=nbL_len rows.length c reach x; omega)]
 ·congr 1
  unfold cl
  rw [List.filter_map,T8,T8]
  rfl
 ·intro y hy
  refine oq12 (mem y hy) λo eq1_ ho=>?_; subst eq1_
  rw [bR,hh.2 o ho,nza,U5]
  cases home o <;> rfl
 ·intro y hy hq
  refine oq12 (mem y hy) λo eq1_ ho=>?_; subst eq1_
  rw [U5] at hq ⊢
  rw [bR,hh.2 o ho,nza]
  cases q:home o with
  | none=>rw [q] at hq; cases hq
  | some s=>rfl
theorem ko {hs:List Int} (o:Ord hs os) {g:Int->Option (Int × Int)} (hg:∀ x,x<hs.length->g (x:Int)=some (hk hs x)):∀ {l:List Nat} {b:Nat},(∀ x∈l,x<hs.length)->b<hs.length->∃ e:Nat,Pu.j5 g (cl l) (b:Int) (hk hs b)=some (e:Int)/\(e=b\/e∈l)/\rk os e<=rk os b/\∀ x∈l,rk os e<=rk os x
 | [],b,_,_=>(oi14 b rfl (.inl rfl) (nz6 _) (λ_ h=>nomatch h))
 | x :: l,b,hl,hb=>by
  have hx:=hl x (Y4.mpr (.inl rfl))
  show ∃ e:Nat,Pu.j5 g ((x:Int) :: cl l) (b:Int) (hk hs b)=_/\_
  rw [Pu.j5,hg x hx,nza]
  cases q:lt2 (hk hs x) (hk hs b) with
  | true =>
   rw [if_pos rfl]
   refine oq14 (ko o hg (l:=l) (b:=x) (λy hy=>hl y (Y4.mpr (.inr hy))) hx) λe h1 h2 h3 h4=>?_
   have:=(o.lt_iff hx hb).mpr q
   refine (oi14 e h1 ?_ (by exact nz5 (nz2 h3 this)) (λy hy=>?_))
   ·rcases h2 with z | z
    ·exact .inr (Y4.mpr (.inl z))
    ·exact .inr (Y4.mpr (.inr z))
   ·rcases Y4.mp hy with z | z
    ·rw [z]; exact h3
    ·exact h4 y z
  | false =>
   rw [if_neg Z8]
   refine oq14 (ko o hg (l:=l) (b:=b) (λy hy=>hl y (Y4.mpr (.inr hy))) hb) λe h1 h2 h3 h4=>?_
   have:=(o.le_iff hb hx).mpr q
   refine (oi14 e h1 ?_ h3 (λy hy=>?_))
   ·rcases h2 with z | z
    ·exact .inl z
    ·exact .inr (Y4.mpr (.inr z))
   ·rcases Y4.mp hy with z | z
    ·rw [z]; exact nz4 h3 this
    ·exact h4 y z
theorem kq (hc:0<c) (hcm:c<=1000) (h:∀ r∈rows,r.length=c) (o:Ord rows.flatten os) {l:List Nat} (hl:∀ x∈l,x<rows.length * c) (ne:l≠[]):∃ e:Nat,Pf.bP rows (cl l)=some (e:Int)/\e∈l/\∀ x∈l,rk os e<=rk os x:=by
 have hfl:rows.flatten.length=rows.length * c:=bo h
 have hg:∀ x,x<rows.flatten.length->Pf.bH rows (x:Int)=some (hk rows.flatten x):=λx hx=>by
  rw [i9 hc hcm h (by exact nz1 hx (nz3 hfl)),ju hc h (by exact nz1 hx (nz3 hfl))]
 unfold Pf.bP
 cases l with
 | nil=>exact absurd rfl ne
 | cons b l =>
  have hb:=hl b (Y4.mpr (.inl rfl))
  show ∃ e:Nat,Pu.minK (λc1=>Pf.bH rows c1) ((b:Int) :: cl l)=_/\_
  rw [Pu.minK,hg b (by exact nz1 hb (nz3 hfl.symm)),nza]
  obtain ⟨e,h1,h2,h3,h4⟩:=ko o (g:=λc1=>Pf.bH rows c1) hg (l:=l) (b:=b) (λy hy=>by have:=hl y (Y4.mpr (.inr hy)); exact nz1 this (nz3 hfl.symm)) (by exact nz1 hb (nz3 hfl.symm))
  refine (oi13 e h1 ?_ (λx hx=>?_))
  ·rcases h2 with z | z
   ·exact Y4.mpr (.inl z)
   ·exact Y4.mpr (.inr z)
  ·rcases Y4.mp hx with z | z
   ·rw [z]; exact h3
   ·exact h4 x z
theorem qb (hc:0<c) (hcm:c<=1000) (h:∀ r∈rows,r.length=c) (o:Ord rows.flatten os) (u:UF A (rows.length * c) (rk os) k home par) (hk:k<=1000) (he:ia ended par) (hel:ended.length<=1000000) {hs:List Nat} (hhs:∀ s∈hs,home s=some s) (hl:hs.length<=1000) (ne:hs≠[]) (x:Nat) :
  ∃ (met:List Nat) (elder:Nat) (ended':L2.End_),Pf.bp (rows,ended) (cl hs) (x:Int)=some ((elder:Int),ended')/\(∀ s∈hs,∃ r,r∈met/\Liv par s r)/\(∀ r∈met,∃ s,s∈hs/\Liv par s r)/\elder∈met/\(∀ r∈met,rk os elder<=rk os r) /\
   ia ended' (λs=>if s∈met/\s≠elder then some (x,elder) else par s)/\ended'.length<=ended.length+hs.length:=by
 have hfl:rows.flatten.length=rows.length * c:=bo h
 have inj:∀ x y,x<rows.length * c->y<rows.length * c->rk os x=rk os y->x=y:=λx y hx hy=>o.inj x y (by exact nz1 hx (nz3 hfl.symm)) (by exact nz1 hy (nz3 hfl.symm))
 have rt:∀ s,∃ r,s∈hs->Liv par s r:=λs=>by
  by_cases q:s∈hs
  ·refine oq12 (u.liv s s (hhs s q)) λr h1 _=>?_
   exact ⟨r,λ_=>h1⟩
  ·exact ⟨0,λz=>absurd z q⟩
 refine oq11 (show ∃ root:Nat->Nat,∀ s∈hs,Liv par s (root s) from ⟨λs=>(rt s).choose,λs hs=>(rt s).choose_spec hs⟩) λroot hroot=>?_
 have e1:Pu.comp (λ(y1:Int)=>Pf.bj (rows,ended) y1) (cl hs)=some (cl (hs.map root)):=by
  rw [bZ (g:=λy=>((root y.toNat:Nat):Int)) (by rw [bS]; exact nz5 (nz2 hl (by decide)))]
  ·congr 1
   unfold cl
   rw [T8,T8]; rfl
  ·intro y hy
   refine oq12 (km.mp hy) λs hs' eq2_=>?_; subst eq2_
   rw [U5]
   exact lW inj u hk he (hhs s hs') (hroot s hs')
 have hmet:∀ r∈hs.map root,r<rows.length * c:=λr hr=>by
  refine oq12 (Q4.mp hr) λs hs' eq2_=>?_; subst eq2_
  have:=u.root (hhs s hs') (hroot s hs')
  exact (u.dom _ (by rw [this]; exact nofun)).1
 refine oq13 (kq hc hcm h o hmet (by simpa using ne)) λelder g1 g2 g3=>?_
 have e3:∃ ended',Pu.forS (λ(s5:L2.End_) (x4:Int)=>if (!decide (x4=(elder:Int)))=true then if s5.length<16777216 then some (Pu.put s5 x4 (some (x:Int),some (elder:Int))) else none else some s5) (cl (hs.map root)) ended=some ended' /\
   (∀ s:Nat,find ended' (s:Int)=if s∈(hs.map root).take (cl (hs.map root)).length/\s≠elder then some (some (x:Int),some (elder:Int)) else find ended (s:Int))/\ended'.length<=ended.length+(cl (hs.map root)).length:=by
  refine cE (λi (e:L2.End_)=>(∀ s:Nat,find e (s:Int)=if s∈(hs.map root).take i/\s≠elder then some (some (x:Int),some (elder:Int)) else find ended (s:Int))/\e.length<=ended.length+i) ⟨λs=>by simp,by exact U6 _ _⟩ ?_
  intro i y e hy zq; refine oq02 zq λh1 h2=>?_
  have hi:i<(cl (hs.map root)).length:=(Z4.mp hy).1
  rw [bS,Y3] at hi
  unfold cl at hy
  rw [X2] at hy
  refine oq12 (O4.mp hy) λr hr eq2_=>?_; subst eq2_
  have tk:(hs.map root).take (i+1)=(hs.map root).take i++[r]:=by
   have e:=(Z4.mp hr).2
   rw [<- e,E5]
  by_cases q:r=elder
  ·refine (oi13 e (by rw [if_neg (by simp [q])]) (λs=>?_) (by omega))
   rw [h1 s,tk]
   have:(s∈(hs.map root).take i++[r]/\s≠elder)↔(s∈(hs.map root).take i/\s≠elder):=by
    rw [W9,Y6]
    constructor
    ·rintro ⟨z | z,w⟩
     ·exact ⟨z,w⟩
     ·exact absurd (z.trans q) w
    ·intro zq; refine oq02 zq λz w=>?_; exact ⟨.inl z,w⟩
   simp only [this]
  ·refine (oi13 _ (by rw [if_pos (by simp; (clear tk hy hr hi h2 h1 g3 g2 g1 hmet e1 hroot rt inj hfl ne hl hhs hel he hk u o h hcm hc; omega)),if_pos (by omega)]) (λs=>?_) (by have:=put_len (d:=e) (k:=(r:Int)) (v:=(some (x:Int),some (elder:Int))); omega))
   rw [find_put,tk]
   by_cases qs:s=r
   ·subst qs
    rw [if_pos rfl,if_pos ⟨by simp,q⟩]
   ·rw [if_neg (by (clear q tk hy hr hi h2 h1 g3 g2 g1 hmet e1 hroot rt inj hfl ne hl hhs hel he hk u o h hcm hc; omega)),h1 s]
    have:(s∈(hs.map root).take i++[r]/\s≠elder)↔(s∈(hs.map root).take i/\s≠elder):=by
     rw [W9,Y6]
     constructor
     ·rintro ⟨z | z,w⟩
      ·exact ⟨z,w⟩
      ·exact absurd z qs
     ·intro zq; refine oq02 zq λz w=>?_; exact ⟨.inl z,w⟩
    simp only [this]
 refine oq13 e3 λended' f1 f2 f3=>?_
 refine (oi37 (hs.map root) elder ended' ?_ (λs hs'=>(oi12 (root s) (Q4.mpr (oi12 s hs' rfl)) (hroot s hs'))) (λr hr=>?_) g2 g3 (λs=>?_) ?_)
 ·unfold Pf.bp
  simp only
  rw [e1,nza,g1,nza,f1,nza]
 ·refine oq12 (Q4.mp hr) λs hs' eq2_=>?_; subst eq2_
  exact (oi12 s hs' (hroot s hs'))
 ·show find ended' (s:Int)=(if s∈hs.map root/\s≠elder then some (x,elder) else par s).map _
  rw [f2 s,bS,N7]
  by_cases q:s∈hs.map root/\s≠elder
  ·rw [if_pos q,if_pos q]; rfl
  ·rw [if_neg q,if_neg q]; exact he s
 ·rw [bS,Y3] at f3; exact f3
theorem qc (hp:0<rows.length) (hc:0<c) (hcm:c<=1000) (hm:rows.length<=1000) (h:∀ r∈rows,r.length=c) (h64:rows.length * c<1000) (o:Ord rows.flatten os) (u:UF (Nb rows.length c reach) (rows.length * c) (rk os) k home par) (hk:k<=1000) (he:ia ended par) (hel:ended.length<=k * 1000) (hh:dI (rows.length * c) homes home)
  {x:Nat} (hx:x<rows.length * c) (hr:rk os x=k):∃ homes' ended' home' par',Pf.bB (rows,reach,homes,ended) (x:Int)=some (homes',ended')/\UF (Nb rows.length c reach) (rows.length * c) (rk os) (k+1) home' par'/\ia ended' par'/\ended'.length<=(k+1) * 1000/\dI (rows.length * c) homes' home':=by
 have hfl:rows.flatten.length=rows.length * c:=bo h
 have inj:∀ x y,x<rows.length * c->y<rows.length * c->rk os x=rk os y->x=y:=λx y hx hy=>o.inj x y (by exact nz1 hx (nz3 hfl.symm)) (by exact nz1 hy (nz3 hfl.symm))
 have nbl:=nbL_len rows.length c reach x
 unfold Pf.bB
 rw [jh hp hc hcm hm h hh hx,nza]
 have set_ok:∀ v:Nat,dI (rows.length * c) (homes.set x (some (v:Int))) (λy=>if y=x then some v else home y):=λv=>by
  refine ⟨by rw [O1]; exact hh.1,λy hy=>?_⟩
  show _=some ((if y=x then some v else home y).map _)
  rw [List.getElem?_set]
  by_cases e:x=y
  ·subst e
   rw [if_pos rfl,if_pos (by rw [hh.1]; exact hx),if_pos rfl]; rfl
  ·rw [if_neg e,if_neg (λz=>e z.symm)]; exact hh.2 y hy
 have hix:L2.ixN homes.length (x:Int)=some x:=nJ (by rw [hh.1]; exact hx)
 generalize eh:((nbL rows.length c reach x).filter λo=>(home o).isSome).map (λo=>(home o).getD 0)=hs
 have memhs:∀ s,s∈hs↔∃ o',Nb rows.length c reach x o'/\home o'=some s:=λs=>by
  rw [<- eh,Q4]
  constructor
  ·intro zq; refine oq12 zq λo' h1 h2=>?_
   refine oq02 (C8.mp h1) λh3 h4=>?_
   refine oq11 (Option.isSome_iff_exists.mp h4) λt ht=>?_
   rw [ht] at h2
   exact (oi12 o' ((nK hx).mpr h3) (by rw [ht]; exact congrArg some h2))
  ·intro zq; refine oq12 zq λo' h1 h2=>?_
   exact (oi12 o' (C8.mpr ⟨(nK hx).mp h1,by rw [h2]; rfl⟩) (by rw [h2]; rfl))
 have hlen:hs.length<=1000:=by
  rw [<- eh,Y3]
  have:=M5 (λo=>(home o).isSome) (nbL rows.length c reach x)
  exact nz5 (nz2 this (nz2 nbl h64))
 by_cases ne:hs=[]
 ·refine (oi45 _ _ (λy=>if y=x then some x else home y) par ?_ ?_ he (by omega) (set_ok x))
  ·rw [ne,if_neg (by simp),nza]
   simp only
   rw [hix,nza]
  ·refine u.alone Nb.sy inj hx hr (λo' h1 h2=>?_) (if_pos rfl) λy hy=>if_neg hy
   refine oq11 (u.has o' h2) λs hs'=>?_
   have:s∈hs:=(memhs s).mpr (oi12 o' h1 hs')
   rw [ne] at this; cases this
 ·obtain ⟨met,elder,ended',g1,g2,g3,g4,g5,g6,g7⟩:=qb hc hcm h o u hk he (by omega) (hs:=hs) (λs hs'=>by
   refine oq12 ((memhs s).mp hs') λo' h1 h2=>?_
   exact u.own o' s h2) hlen ne x
  refine (oi45 _ _ (λy=>if y=x then some elder else home y) (λs=>if s∈met/\s≠elder then some (x,elder) else par s) ?_ ?_ g6 (by omega) (set_ok elder))
  ·rw [if_pos (by cases hs with | nil=>exact absurd rfl ne | cons=>rfl),g1,nza]
   simp only
   rw [hix,nza]
  ·refine u.meet Nb.sy inj (met:=met) (elder:=elder) hx hr (λo' s h1 h2=>g2 s ((memhs s).mpr (oi12 o' h1 h2))) (λr hr'=>?_) g4 g5 (if_pos rfl) (λy hy=>if_neg hy) (λs h1 h2=>if_pos ⟨h1,h2⟩) λs hs'=>if_neg hs'
   refine oq12 (g3 r hr') λs h1 h2=>?_
   refine oq12 ((memhs s).mp h1) λo' h3 h4=>?_
   exact (oi23 o' s h3 h4 h2)
theorem l6 (hp:0<rows.length) (hc:0<c) (hcm:c<=1000) (hm:rows.length<=1000) (h:∀ r∈rows,r.length=c) (h64:rows.length * c<1000) (o:Ord rows.flatten os) {ks:List Nat} (hks:∀ i x,ks[i]?=some x->x<rows.length * c/\rk os x=i):∃ homes ended home par,Pf.ki rows reach (cl ks)=some (rows,reach,homes,ended) /\
  UF (Nb rows.length c reach) (rows.length * c) (rk os) ks.length home par/\ia ended par/\dI (rows.length * c) homes home:=by
 have hfl:rows.flatten.length=rows.length * c:=bo h
 have e0:Pf.eX rows=some ((X3 (rows.length * c)).map λ_=>none):=by
  unfold Pf.eX
  rw [fh hp hcm hm h,nza,bZ (g:=λ_=>(none:Option Int)) (by rw [bS,V5]; exact nz5 (nz8 h64 (by decide))) λ_ _=>rfl]
  congr 1
  unfold cl
  rw [T8]; rfl
 have hkl:∀ i,i<ks.length->i<1000:=λi hi=>by
  obtain ⟨h1,h2⟩:=hks i _ (Z9 hi)
  have:=o.rk_lt (x:=ks[i]) (by exact nz1 h1 (nz3 hfl.symm))
  exact nz2 (nz3 h2.symm) (nz8 this (nz2 (nz3 hfl) h64))
 unfold Pf.ki
 rw [e0,nza]
 have key:∃ w,(Pu.forS (λ(s3:List (Option Int) × L2.End_) (x2:Int)=>(Pf.bB (rows,reach,s3.1,s3.2) x2).bind λc=>some (c.1,c.2)) (cl ks) ((X3 (rows.length * c)).map λ_=>none,[])).bind (λs=>some (rows,reach,s.1,s.2))=some w /\
   ∃ home par,UF (Nb rows.length c reach) (rows.length * c) (rk os) (cl ks).length home par/\ia w.2.2.2 par/\dI (rows.length * c) w.2.2.1 home/\w.1=rows/\w.2.1=reach:=by
  refine forS_ex (λi s=>∃ home par,UF (Nb rows.length c reach) (rows.length * c) (rk os) i home par/\ia s.2 par/\s.2.length<=i * 1000/\dI (rows.length * c) s.1 home) ?_ ?_ ?_
  ·exact ⟨λ_=>none,λ_=>none,UF.start,λ_=>rfl,by simp,by simp,λx hx=>by rw [X2,J0 hx]; rfl⟩
  ·rintro i y ⟨homes,ended⟩ hy ⟨home,par,u,he,hel,hh⟩
   unfold cl at hy
   rw [X2] at hy
   refine oq12 (O4.mp hy) λx hx eq2_=>?_; subst eq2_
   refine oq02 (hks i x hx) λh1 h2=>?_
   have hi:=hkl i (Z4.mp hx).1
   refine oq45 (qc hp hc hcm hm h h64 o u (by exact nz5 hi) he hel hh h1 h2) λhomes' ended' home' par' g1 g2 g3 g4 g5=>?_
   simp only
   exact ⟨(homes',ended'),by rw [g1]; rfl,home',par',g2,g3,g4,g5⟩
  ·rintro ⟨homes,ended⟩ ⟨home,par,u,he,hel,hh⟩
   exact ⟨_,rfl,home,par,u,he,hh,rfl,rfl⟩
 refine oq12 key λw e1 zz=>oq25 zz λhome par u he hh e2 e3=>?_
 obtain ⟨a,b,d,e⟩:=w
 simp only at e2 e3
 subst e2 e3
 rw [bS] at u
 exact (oi44 d e home par e1 u he hh)
end
end Pf
namespace Fl
open Pu Gr
theorem Ord.uniq {hs:List Int} {os os':List Nat} (o:Ord hs os) (o':Ord hs os'):os=os' :=
 fD (le:=λa b=>lt2 (hk hs a) (hk hs b)=true) (λa b h1 h2=>by rw [lt2_as h1] at h2; cases h2) (o.pm.trans o'.pm.symm) o.up o'.up
end Fl
namespace Pf
open Fl Pu Gr
theorem j9 (p:List (List Int) × L2.End_) (s:Int):(Pf.aA p (some s)).bind (λx=>x)=Pf.bj p s:=by
 unfold Pf.aA Pf.bj
 have:∀ (n:Nat) (s:Int),(Pu.whS (λ(s2:Option Int)=>some ((Pu.oX p.2 s2).isSome)) (λ(s2:Option Int)=>(((s2).bind λx3=>Pu.find p.2 x3).bind λx4=>some (x4.2)).bind λhere6=>some (here6)) n (some s)).bind (λx=>x) =
   Pu.whS (λ(s2:Int)=>some ((Pu.find p.2 s2).isSome)) (λ(s2:Int)=>(((Pu.find p.2 s2).bind λx3=>some (x3.2)).bind λx5=>x5).bind λhere6=>some (here6)) n s:=λn=>by
  induction n with
  | zero=>intro s; rfl
  | succ n ih =>
   intro s
   rw [Pu.whS,Pu.whS,bs,bs]
   have e0:Pu.oX p.2 (some s)=Pu.find p.2 s:=rfl
   simp only [e0,nza]
   cases q:Pu.find p.2 s with
   | none=>rfl
   | some e =>
    simp only [Option.isSome_some,if_true,nza]
    cases q2:e.2 with
    | none =>
     cases n with
     | zero=>rfl
     | succ n=>rw [Pu.whS]; rfl
    | some e2=>exact ih e2
 have h:=this 100000 s
 rw [nz9]
 show Option.bind _ (λx=>x)=_
 rw [h]
 cases Pu.whS (λ(s2:Int)=>some ((Pu.find p.2 s2).isSome)) (λ(s2:Int)=>(((Pu.find p.2 s2).bind λx3=>some (x3.2)).bind λx5=>x5).bind λhere6=>some (here6)) 100000 s <;> rfl
theorem l7 (p:List (List Int) × L2.End_):Pf.aA p none=some none:=by
 unfold Pf.aA
 rw [Pu.whS]; rfl
theorem l8:Pf.aM=Pf.bp:=by
 funext p l m
 unfold Pf.aM Pf.bp
 simp only [j9]
theorem l9:Pf.be=Pf.bB:=by
 funext p x
 unfold Pf.be Pf.bB
 rw [l8]
section
variable {rows:List (List Int)} {reach:Int}
theorem nL {ρ:Nat->Nat} {A:Nat->Nat->Prop} {n k:Nat} {home:Nat->Option Nat} {par:Nat->Option (Nat × Nat)} {homes:List (Option Int)} {ended:L2.End_} (inj:∀ x y,x<n->y<n->ρ x=ρ y->x=y) (u:UF A n ρ k home par) (hk:k<=1000) (he:ia ended par) (hh:dI n homes home) {x:Nat} (hx:x<n) :
  (home x=none/\Pf.aC (rows,reach,homes,ended) (x:Int)=some none)\/∃ r,Lv n ρ k x/\Fst A n ρ k x r/\Pf.aC (rows,reach,homes,ended) (x:Int)=some (some (r:Int)):=by
 unfold Pf.aC
 simp only
 rw [bR,hh.2 x hx,bs]
 cases q:home x with
 | none=>exact .inl ⟨rfl,l7 _⟩
 | some s =>
  refine oq12 (u.liv x s q) λr h1 h2=>?_
  refine .inr (oi13 r (u.dom x (by rw [q]; exact nofun)) h2 ?_)
  have e:=lW (rows:=rows) inj u hk he (u.own x s q) h1
  rw [<- j9] at e
  show Pf.aA (rows,ended) (some (s:Int))=_
  cases z:Pf.aA (rows,ended) (some (s:Int)) with
  | none=>rw [z] at e; cases e
  | some w=>rw [z] at e; rw [show w=some (r:Int) from e]
end
section
variable {rows:List (List Int)} {c:Nat}
theorem lb (hp:0<rows.length) (hc:0<c) (hcm:c<=900) (hm:rows.length<=900) (h:∀ r∈rows,r.length=c):∃ os,Pf.br rows=some (cl os)/\Ord rows.flatten os:=by
 have hfl:rows.flatten.length=rows.length * c:=bo h
 have lt:rows.length * c<1000000:=nz2 (D8 hm hcm) (by decide)
 refine oq12 (srtK_ord rows.flatten) λos e o=>?_
 refine (oi12 os ?_ o)
 unfold Pf.br
 rw [fh hp (by omega) (by omega) h,nza]
 unfold Pu.nD
 rw [lV (f:=hk rows.flatten) λx hx=>by
  have hx:=L8.mp hx
  rw [i9 hc (by omega) h hx,ju hc h hx],nza]
 rw [hfl] at e
 have nd:=ord_nd rows.flatten
 rw [hfl] at nd
 rw [if_pos ⟨by rw [bS,V5]; exact lt,nd⟩,e]
end
end Pf
namespace Gr
open Fl Pu PySem
noncomputable abbrev sg (v:Nat):Str:=⟨#[v]⟩
theorem nM {p q:Prop} [Decidable p] [Decidable q] {α:Type _} {a b:α} (h:p↔q):(if p then a else b)=if q then a else b:=by
 by_cases e:p
 ·rw [if_pos e,if_pos (h.mp e)]
 ·rw [if_neg e,if_neg λz=>e (h.mpr z)]
theorem sg_inj {a b:Nat} (h:sg a=sg b):a=b:=by injection h with h; injection h with h; injection h
section
variable {nb:Nat->List Nat} {ok:Nat->Bool} {n x u j:Nat} {S0:List Str} {l:Str}
def Mrk (n:Nat) (S0:List Str) (l:Str) (S:List Str) (kk:List Nat):Prop:=S.length=n/\∀ z,z<n->S[z]?=if z∈kk then some l else S0[z]?
theorem Mrk.set {S:List Str} {kk:List Nat} {o:Nat} (h:Mrk n S0 l S kk) (ho:o<n):Mrk n S0 l (S.set o l) (kk++[o]):=by
 refine ⟨by rw [O1]; exact h.1,λz hz=>?_⟩
 by_cases e:o=z
 ·rw [<- e,C0 (by rw [h.1]; exact ho),if_pos (Y7 _ W6)]
 ·rw [A8 e,h.2 z hz]
  have:z∈kk++[o]↔z∈kk:=by
   rw [W9,Y6]
   exact ⟨λq=>q.elim id λq=>absurd q.symm e,.inl⟩
  rw [nM this]
def NetM (n j:Nat) (S0:List Str) (l:Str) (S:List Str) (kk ws:List Nat):Prop:=Mrk n S0 l S kk/\(∀ k∈kk,k<n)/\kk.length=ws.length+j
noncomputable def qd (nb:Nat->List Nat) (ok:Nat->Bool) (n:Nat) (S0:List Str) (l:Str) (u:Nat) (g:List Str × List Int->Int->Option (List Str × List Int)):Prop :=
 ∀ (o:Nat) (S:List Str) (kk:List Nat) (w:List Int),o∈nb u->o<n->Mrk n S0 l S kk->(o∈kk\/ok o=false->g (S,w) (o:Int)=some (S,w))/\(o ∉ kk->ok o=true->S0[o]?=some (sg 35)->w.length<=10000->g (S,w) (o:Int)=some (S.set o l,w++[(o:Int)]))
theorem lookM_one {g:List Str × List Int->Int->Option (List Str × List Int)} (hn:n<=10000) (hnb:∀ o∈nb u,o<n) (h0:∀ o,Rch (λa b=>b∈nb a) (λa=>ok a=true) x o->o≠x->S0[o]?=some (sg 35)) (hg:qd nb ok n S0 l u g) {o:Nat} {done kk ws:List Nat} {S:List Str} (ho:o∈nb u) (sa:SeaAt nb ok x u done kk ws) (nt:NetM n j S0 l S kk ws) :
  ∃ S' kk' ws',g (S,cl ws) (o:Int)=some (S',cl ws')/\SeaAt nb ok x u (done++[o]) kk' ws'/\NetM n j S0 l S' kk' ws':=by
 have hl:kk.length<=10000:=nz4 (jI n sa.nd nt.2.1) hn
 by_cases hin:o∈kk
 ·exact oi33 S kk ws ((hg o S kk (cl ws) ho (hnb o ho) nt.1).1 (.inl hin)) (sa.skip λ_=>hin) nt
 ·cases hok:ok o with
  | false=>exact oi33 S kk ws ((hg o S kk (cl ws) ho (hnb o ho) nt.1).1 (.inr hok)) (sa.skip λz=>absurd (hok.symm.trans z) Z8) nt
  | true =>
   refine oi33 _ _ _ (((hg o S kk (cl ws) ho (hnb o ho) nt.1).2 hin hok (h0 o (.on (sa.rch u sa.u_in) ho hok) λz=>hin (z ▸ sa.x_in)) ?_).trans (congrArg (λw=>some (S.set o l,w)) (lT ws [o]).symm)) (sa.add ho hok hin λw=>?_) ⟨nt.1.set (hnb o ho),λk hk=>(W9.mp hk).elim (nt.2.1 k) λz=>(Y6.mp z) ▸ hnb o ho,by rw [Y8,Y8,nt.2.2]; exact Nat.add_right_comm _ _ _⟩
   ·rw [bS]; exact nz4 (U6 _ _) (nz4 (nz3 nt.2.2.symm) hl)
   ·rw [W9,Y6]
theorem lX {g:List Str × List Int->Int->Option (List Str × List Int)} (hn:n<=10000) (hnb:∀ o∈nb u,o<n) (h0:∀ o,Rch (λa b=>b∈nb a) (λa=>ok a=true) x o->o≠x->S0[o]?=some (sg 35)) (hg:qd nb ok n S0 l u g) :
  ∀ (os done:List Nat) (S:List Str) (kk ws:List Nat),(∀ o∈os,o∈nb u)->SeaAt nb ok x u done kk ws->NetM n j S0 l S kk ws->∃ S' kk' ws',forS g (cl os) (S,cl ws)=some (S',cl ws')/\SeaAt nb ok x u (done++os) kk' ws'/\NetM n j S0 l S' kk' ws'
 | [],done,d,kk,ws,_,sa,nt=>oi33 d kk ws rfl ((V6 done).symm ▸ sa) nt
 | o :: os,done,d,kk,ws,ho,sa,nt =>
  oq33 (lookM_one hn hnb h0 hg (ho o W6) sa nt) λd1 k1 w1 e1 s1 n1=>oq33 (lX hn hnb h0 hg os (done++[o]) d1 k1 w1 (λp hp=>ho p (X6 _ hp)) s1 n1) λd2 k2 w2 e2 s2 n2 =>
   oi33 d2 k2 w2 (bnk e1 e2) ((Y9 done [o] os) ▸ s2) n2
theorem lY {t:List Str × List Int->Option Bool} {f:List Str × List Int->Option (List Str × List Int)} (hn:n<=10000) (hnb:∀ u,u<n->∀ o∈nb u,o<n) (h0:∀ o,Rch (λa b=>b∈nb a) (λa=>ok a=true) x o->o≠x->S0[o]?=some (sg 35))
  (ht:∀ d w,t (d,w)=some (!decide (w=[]))) (hf:∀ d ws u,u<n->∃ g,f (d,cl (ws++[u]))=forS g (cl (nb u)) (d,cl ws)/\qd nb ok n S0 l u g) :
  ∀ (N j:Nat) (d:List Str) (kk ws:List Nat),n<N+j->Sea nb ok x kk ws->NetM n j S0 l d kk ws->∃ d' kk',whS t f N (d,cl ws)=some (d',[])/\Sea nb ok x kk' []/\Mrk n S0 l d' kk'
 | 0,j,d,kk,ws,hN,sa,nt=>absurd (nz4 (Nat.le_add_left j _) (nz4 (nz3 nt.2.2.symm) (jI n sa.nd nt.2.1))) (Nat.not_le.mpr (nz1 hN (nz3 (Nat.zero_add j))))
 | N+1,j,d,kk,[],hN,sa,nt=>oi23 d kk (bnk (ht d []) rfl) sa nt.1
 | N+1,j,d,kk,w :: ws,hN,sa,nt=>oq21 (snoc_of w ws) λu ws' e=>by
  have tk:Tk (w :: ws) u ws':=e ▸ Tk.last
  refine oq12 (hf d ws' u (nt.2.1 u (sa.sub u tk.1))) λg ef lk=>oq33 (lX hn (hnb u (nt.2.1 u (sa.sub u tk.1))) h0 lk (nb u) [] d kk ws' (λ_ h=>h) (sa.take tk.1 tk.2.1 tk.2.2.1) ⟨nt.1,nt.2.1,nt.2.2.trans ((congrArg (·+j) tk.2.2.2).trans ((Nat.add_assoc _ _ _).trans (congrArg (ws'.length+·) (Nat.add_comm 1 j))))⟩) λd1 k1 w1 e1 s1 n1=>?_
  refine oq23 (lY hn hnb h0 ht hf N (j+1) d1 k1 w1 (nz1 hN (nz3 ((Nat.add_assoc _ _ _).trans (congrArg (N+·) (Nat.add_comm 1 j))))) s1.fin n1) λd2 k2 e2 s2 m2=>oi23 d2 k2 (bnk (ht d _) (bnk ((congrArg (λz=>f (d,cl z)) e).trans (ef.trans e1)) e2)) s2 m2
theorem sk {t:List Str × List Int->Option Bool} {f:List Str × List Int->Option (List Str × List Int)} (hn:n<=10000) (hx:x<n) (hl:S0.length=n) (hnb:∀ u,u<n->∀ o∈nb u,o<n) (h0:∀ o,Rch (λa b=>b∈nb a) (λa=>ok a=true) x o->o≠x->S0[o]?=some (sg 35))
  (ht:∀ d w,t (d,w)=some (!decide (w=[]))) (hf:∀ d ws u,u<n->∃ g,f (d,cl (ws++[u]))=forS g (cl (nb u)) (d,cl ws)/\qd nb ok n S0 l u g) :
  ∃ d' kk',whS t f 100000 (S0.set x l,[(x:Int)])=some (d',[])/\Sea nb ok x kk' []/\Mrk n S0 l d' kk' :=
 lY hn hnb h0 ht hf 100000 0 (S0.set x l) [x] [x] (nz2 hn (by decide)) Sea.start ⟨(Mrk.set (kk:=[]) ⟨hl,λ_ _=>(if_neg (λz=>nomatch z)).symm⟩ hx),λk hk=>nz2 (nz3 (Y6.mp hk)) hx,rfl⟩
end
end Gr
namespace Pf
open Fl Pu Gr
theorem ib {α:Type} {R:α->α->Prop} {p:α->Bool} (dn:∀ a b,R a b->p b=true->p a=true):∀ {l:List α},l.Pairwise R->l.filter p=l.take (l.filter p).length
 | [],_=>rfl
 | a :: l,h=>by
  have h':=List.pairwise_cons.mp h
  cases q:p a with
  | true=>rw [D7 q,W4,List.take_succ_cons,<- ib dn h'.2]
  | false =>
   have e:l.filter p=[]:=List.filter_eq_nil_iff.mpr λb hb z=>by rw [dn a b (h'.1 b hb) z] at q; cases q
   rw [List.filter_cons_of_neg (by rw [q]; exact Z8),e]; rfl
noncomputable def LkOk (A:Nat->Nat->Prop) (n:Nat) (ρ:Nat->Nat) (k:Nat) (L:List (Option Int)):Prop :=
 L.length=n/\∀ x,x<n->(¬ Lv n ρ k x->L[x]?=some none)/\∀ r,Lv n ρ k x->Fst A n ρ k x r->L[x]?=some (some (r:Int))
section
variable {rows:List (List Int)} {c:Nat} {reach:Int} {os:List Nat}
theorem qf (hc:0<c) (hr:∀ r∈rows,r.length=c) (o:Ord rows.flatten os) (h:Int) :
  os.filter (λy=>decide (hgt rows c y<=h))=os.take (os.filter λy=>decide (hgt rows c y<=h)).length/\(os.filter λy=>decide (hgt rows c y<=h)).length<=rows.length * c/\∀ x,x<rows.length * c->(rk os x<(os.filter λy=>decide (hgt rows c y<=h)).length↔hgt rows c x<=h):=by
 have fl:rows.flatten.length=rows.length * c:=bo hr
 have pw:os.Pairwise λa b=>a∈os/\b∈os/\lt2 (hk rows.flatten a) (hk rows.flatten b)=true:=List.Pairwise.imp_of_mem (λha hb h=>⟨ha,hb,h⟩) o.up
 have e:=ib (p:=λy=>decide (hgt rows c y<=h)) (λa b z q=>?_) pw
 ·have lk:(os.filter λy=>decide (hgt rows c y<=h)).length<=rows.length * c:=nz4 (M5 _ _) (by rw [o.len,fl]; exact nz6 _)
  refine ⟨e,lk,λx hx=>?_⟩
  have hxo:x∈os:=o.mem.mpr (by rw [fl]; exact hx)
  have m1:hgt rows c x<=h↔x∈os.take (os.filter λy=>decide (hgt rows c y<=h)).length:=by
   rw [<- e,C8,decide_eq_true_eq]
   exact ⟨λz=>⟨hxo,z⟩,λz=>z.2⟩
  rw [m1]
  constructor
  ·intro z
   have g:=o.at_rk (x:=x) (by rw [fl]; exact hx)
   exact G0.mpr ⟨rk os x,by rw [List.getElem?_take,if_pos z]; exact g⟩
  ·intro z
   refine oq11 (G0.mp z) λi hi=>?_
   rw [List.getElem?_take] at hi
   split at hi
   ·rename_i q; rw [o.rk_at hi]; exact q
   ·cases hi
 ·have ha:a<rows.length * c:=fl ▸ o.mem.mp z.1
  have hb:b<rows.length * c:=fl ▸ o.mem.mp z.2.1
  have z3:=z.2.2
  rw [ju hc hr ha,ju hc hr hb] at z3
  unfold lt2 Pf.key at z3
  rw [decide_eq_true_eq] at z3 q ⊢
  simp only at z3
  exact z3.elim (λw=>P4 (G4 w) q) λw=>P4 (Int.le_of_eq w.1) q
theorem lakesW (hp:0<rows.length) (hc:0<c) (hcm:c<=900) (hm:rows.length<=900) (hr:∀ r∈rows,r.length=c) (hn:rows.length * c<1000) (o:Ord rows.flatten os) (eo:Pf.br rows=some (cl os)) (h:Int) :
  ∃ L,Pf.cO rows reach h=some L/\LkOk (Nb rows.length c reach) (rows.length * c) (rk os) (os.filter λy=>decide (hgt rows c y<=h)).length L/\∀ x,Lv (rows.length * c) (rk os) (os.filter λy=>decide (hgt rows c y<=h)).length x->∃ r,Fst (Nb rows.length c reach) (rows.length * c) (rk os) (os.filter λy=>decide (hgt rows c y<=h)).length x r:=by
 have fl:rows.flatten.length=rows.length * c:=bo hr
 have cm:c<=1000:=nz4 hcm (by decide)
 have mm:rows.length<=1000:=nz4 hm (by decide)
 have inj:∀ x y,x<rows.length * c->y<rows.length * c->rk os x=rk os y->x=y:=λx y hx hy=>o.inj x y (by rw [fl]; exact hx) (by rw [fl]; exact hy)
 refine oq03 (qf hc hr o h) λe lk _=>?_
 have ol:(cl os).length<=1000000:=by rw [bS,o.len,fl]; exact nz4 (nz5 hn) (by decide)
 have ec:Pf.cD rows h=some (cl (os.filter λy=>decide (hgt rows c y<=h))):=by
  unfold Pf.cD
  rw [eo,bs,iL (p:=λy=>decide (hgt rows c y.toNat<=h)) (g:=λy=>y) ol (λy hy=>?_) λ_ _ _=>rfl]
  ·unfold cl
   rw [List.map_id',List.filter_map]
   congr 2
  ·refine oq12 (km.mp hy) λk hk e=>?_
   subst e
   rw [Pf.i8 hc cm hr (fl ▸ o.mem.mp hk),bs,U5]
 generalize ek:(os.filter λy=>decide (hgt rows c y<=h))=ks at *
 have hks:∀ i x,ks[i]?=some x->x<rows.length * c/\rk os x=i:=λi x hx=>by
  rw [e,List.getElem?_take] at hx
  split at hx
  ·exact ⟨fl ▸ o.mem.mp (W8 hx),o.rk_at hx⟩
  ·cases hx
 refine oq44 (Pf.l6 (reach:=reach) hp hc cm mm hr hn o hks) λhomes ended home par ew u he hh=>?_
 have st:=λx (hx:x<rows.length * c)=>Pf.nL (rows:=rows) (reach:=reach) inj u (nz4 lk (nz5 hn)) he hh hx
 have all:∀ y∈cl (X3 (rows.length * c)),Pf.aC (rows,reach,homes,ended) y=some ((Pf.aC (rows,reach,homes,ended) y).getD none):=λy hy=>oq12 (km.mp hy) λx hx e=>by
  subst e
  exact (st x (L8.mp hx)).elim (λz=>by rw [z.2]; rfl) λz=>oq13 z λr _ _ z=>by rw [z]; rfl
 refine ⟨(cl (X3 (rows.length * c))).map λy=>(Pf.aC (rows,reach,homes,ended) y).getD none,?_,⟨by rw [Y3,bS,V5],λx hx=>?_⟩,λx hx=>(st x hx.1).elim (λz=>oq11 (u.has x hx) λs hs=>nomatch z.1.symm.trans hs) λz=>oq13 z λr _ f _=>⟨r,f⟩⟩
 ·unfold Pf.cO
  refine bnk (bnk ec ?_) (bnk (Pf.fh hp cm mm hr) (bZ (by rw [bS,V5]; exact nz4 (nz5 hn) (by decide)) all))
  unfold Pf.cC
  rw [Pf.l9]
  exact ew
 ·have g:((cl (X3 (rows.length * c))).map λy=>(Pf.aC (rows,reach,homes,ended) y).getD none)[x]?=some ((Pf.aC (rows,reach,homes,ended) (x:Int)).getD none):=by
   unfold cl
   rw [T8,X2,J0 hx]; rfl
  rw [g]
  refine (st x hx).elim (λz=>⟨λ_=>by rw [z.2]; rfl,λr l _=>?_⟩) λz=>oq13 z λr l f z=>⟨λq=>absurd l q,λr' _ f'=>?_⟩
  ·refine oq11 (u.has x l) λs hs=>nomatch z.1.symm.trans hs
  ·rw [z,f.same inj f']; rfl
end
end Pf
namespace K36
open PySem PySem.Spec PyProof.Rows L2
noncomputable def top (i:Nat):Stmt:=PySem.Challenge.pw_floodtree_k36_pictures.main.body.getD i (.Pass ⟨0,0,0,0⟩)
noncomputable abbrev spLaw:=@L2.rj
noncomputable abbrev iM:Stmt:=top 21
noncomputable abbrev nN:Stmt:=top 22
noncomputable abbrev kr:Stmt:=top 23
noncomputable abbrev kt:Stmt:=top 24
noncomputable abbrev nO:Stmt:=top 25
noncomputable abbrev fH:Stmt:=top 34
noncomputable abbrev nP:Stmt:=top 26
noncomputable abbrev iN:Stmt:=top 27
noncomputable abbrev sr:Stmt:=top 30
noncomputable abbrev gD:Stmt:=top 31
noncomputable abbrev iO:Stmt:=top 2
noncomputable abbrev fI:Stmt:=top 5
noncomputable abbrev aN:Stmt:=inClass (top 12) 0
noncomputable abbrev bf:Stmt:=inClass (top 13) 0
noncomputable abbrev fi:Stmt:=top 3
noncomputable abbrev bT:Stmt:=inClass (top 13) 2
noncomputable abbrev cF:Stmt:=inClass (top 12) 1
noncomputable abbrev fJ:Stmt:=top 4
noncomputable abbrev fL:Stmt:=top 7
noncomputable abbrev bI:Stmt:=top 8
noncomputable abbrev c8:Stmt:=inClass (top 12) 2
noncomputable abbrev cQ:Stmt:=inClass (top 13) 3
noncomputable abbrev cG:Stmt:=top 14
noncomputable abbrev cR:Stmt:=top 9
noncomputable abbrev fj:Stmt:=top 10
noncomputable abbrev cH:Stmt:=inClass (top 13) 1
noncomputable abbrev gE:Stmt:=top 15
noncomputable abbrev gF:Stmt:=top 18
noncomputable abbrev gG:Stmt:=top 6
noncomputable abbrev iP:Stmt:=top 19
noncomputable abbrev nQ:Stmt:=top 33
noncomputable abbrev nR:Stmt:=top 28
noncomputable abbrev iQ:Stmt:=top 32
noncomputable abbrev ic:Stmt:=top 35
structure Glb (mg:Str->Option Value):Prop where
 all:mg "all"=none
 str_:mg "str"=none
 c_LETTERS:Cst mg "LETTERS" (.str "abcdefghijklmnopqrstuvwxyz")
section
variable [Kon] {P:W5} {w:World} {K:Z3} {mg:Str->Option Value} {base:Heap}
variable {CM CW:Addr}
section
variable [Kon] (P:W5) (w:World) (K:Z3) (mg:Str->Option Value) (base:Heap) (CM CW:Addr)
abbrev dJ:Prop:=Has P w K mg base 2 "all_cells" ["floor"] (spL (aOne (rL (rL rInt))) rInt λx=>Pf.cj x)
abbrev gb:Prop:=HasI P w K mg base 1 "Meetings" CM ["self","floor"] (spIM CM)
abbrev cI:Prop:=HasM P w K mg base 1 CM "living" ["self","start"] (spV (aD (rM CM) (aOne (rOp rInt))) (rOp rInt) λx=>Pf.aA x.1 x.2)
abbrev lg:Prop:=Has P w K mg base 7 "earliest_of" ["floor","cells"] (spV (aD (rL (rL rInt)) (aOne (rL rInt))) rInt λx=>Pf.bP x.1 x.2)
abbrev d3:Prop:=HasM P w K mg base 2 CW "homes_around" ["self","cell"] (spL (aD (rW CM CW) (aOne rInt)) rInt λx=>Pf.aR x.1 x.2)
abbrev gc:Prop:=HasM P w K mg base 8 CM "let_meet" ["self","starts","meet"] (spM CM (aD (rL rInt) (aOne rInt)) rInt λx=>Pf.aM x.1 x.2.1 x.2.2)
abbrev iR:Prop:=HasI P w K mg base 4 "Water" CW ["self","floor","reach"] (spIW CM CW λx=>Pf.eX x)
abbrev iS:Prop:=HasM P w K mg base 9 CW "let_come" ["self","cell"] (spW CM CW (aOne rInt) λx=>Pf.be x.1 x.2)
abbrev eB:Prop:=Has P w K mg base 1 "_law_cell_at" ["_law_script","_law_k"] (spV (aD (rScr K) (aOne rInt)) rInt λx=>Pf.bY x.1 x.2)
abbrev jv:Prop:=Has P w K mg base 1 "_law_mixed" ["_law_number","_law_k"] (spV (aD rInt (aOne rInt)) rInt λx=>Pf.mixed x.1 x.2)
abbrev qg:Prop:=Has P w K mg base 2 "_law_height" ["_law_number","_law_k","_law_way"] (spV (aD rInt (aD rInt (aOne rInt))) rInt λx=>Pf.cr x.1 x.2.1 x.2.2)
abbrev qh:Prop:=Has P w K mg base 1 "_law_folded" ["_law_heights_here","_law_columns"] (spL (aD (rL rInt) (aOne rInt)) (rL rInt) λx=>Pf.folded x.1 x.2)
abbrev H_floor:Prop:=Has P w K mg base 3 "_law_floor" ["_law_script","_law_first"] (spL (aD (rScr K) (aOne rInt)) (rL rInt) λx=>Pf.floor x.1 x.2)
abbrev ja:Prop:=Has P w K mg base 4 "_law_any_floor" ["_law_script"] (spL (aOne (rScr K)) (rL rInt) λx=>Pf.eA x)
abbrev H_reach:Prop:=Has P w K mg base 2 "_law_reach" ["_law_script","_law_first"] (spV (aD (rScr K) (aOne rInt)) rInt λx=>Pf.reach x.1 x.2)
abbrev lZ:Prop:=Has P w K mg base 1 "_law_heights" ["_law_floor_here"] (spL (aOne (rL (rL rInt))) rInt λx=>Pf.i0 x)
abbrev H_next:Prop:=Has P w K mg base 1 "_law_next" ["_law_size","_law_reach_here","_law_cell"] (spL (aD (rT2 rInt rInt) (aD rInt (aOne rInt))) rInt λx=>Pf.kh x.1 x.2.1 x.2.2)
abbrev ku:Prop:=Has P w K mg base 2 "_law_all_next" ["_law_floor_here","_law_reach_here"] (spL (aD (rL (rL rInt)) (aOne rInt)) (rL rInt) λx=>Pf.dz x.1 x.2)
abbrev eC:Prop:=Has P w K mg base 1 "size_of" ["floor"] (spV (aOne (rL (rL rInt))) (rT2 rInt rInt) λx=>Pf.size_of x)
abbrev ie:Prop:=Has P w K mg base 1 "neighbours" ["size","reach","cell"] (spL (aD (rT2 rInt rInt) (aD rInt (aOne rInt))) rInt λx=>Pf.dv x.1 x.2.1 x.2.2)
abbrev fM:Prop:=Has P w K mg base 2 "height_of" ["floor","cell"] (spV (aD (rL (rL rInt)) (aOne rInt)) rInt λx=>Pf.dc x.1 x.2)
abbrev fN:Prop:=Has P w K mg base 3 "order_key" ["floor","cell"] (spV (aD (rL (rL rInt)) (aOne rInt)) (rT2 rInt rInt) λx=>Pf.bH x.1 x.2)
abbrev kx:Prop:=Has P w K mg base 7 "in_order" ["floor"] (spL (aOne (rL (rL rInt))) rInt λx=>Pf.br x)
abbrev ig:Prop:=Has P w K mg base 8 "covered_at" ["floor","height"] (spL (aD (rL (rL rInt)) (aOne rInt)) rInt λx=>Pf.cD x.1 x.2)
abbrev dM:Prop:=HasM P w K mg base 2 CW "start_now" ["self","cell"] (spV (aD (rW CM CW) (aOne rInt)) (rOp rInt) λx=>Pf.aC x.1 x.2)
abbrev nS:Prop:=Has P w K mg base 11 "water_over" ["floor","reach","cells"] (spV (aD rF (aD rInt (aOne (rL rInt)))) (rW CM CW) λx=>Pf.cC x.1 x.2.1 x.2.2)
abbrev kA:Prop:=Has P w K mg base 12 "lakes_at" ["floor","reach","height"] (spL (aD (rL (rL rInt)) (aD rInt (aOne rInt))) (rOp rInt) λx=>Pf.cO x.1 x.2.1 x.2.2)
abbrev kB:Prop:=Has P w K mg base 1 "signs_of" ["starts"] (spV (aOne (rL rInt)) rDO λx=>Pf.fG x)
abbrev kC:Prop:=Has P w K mg base 1 "floor_of" ["size","heights"] (spL (aD (rT2 rInt rInt) (aOne (rL rStr))) (rL rStr) λx=>Pf.cP x.1 x.2)
abbrev m7:Prop:=Has P w K mg base 13 "picture" ["floor","reach","height"] (spL (aD (rL (rL rInt)) (aD rInt (aOne rInt))) rStr λx=>Pf.eZ x.1 x.2.1 x.2.2)
abbrev H_right:Prop:=Has P w K mg base 1 "_law_right" ["_law_found","_law_signs","_law_floor_here"] (spV (aD (rL rStr) (aD rStr (aOne (rL (rL rInt))))) c6 λx=>Pf.dA x.1 x.2.1 x.2.2)
abbrev H_order:Prop:=Has P w K mg base 1 "_law_order" ["_law_heights_here"] (spL (aOne (rL rInt)) rInt λx=>Pf.bQ x)
abbrev m8:Prop:=Has P w K mg base 2 "_law_letters" ["_law_heights_here","_law_beside","_law_high"] (spV (aD (rL rInt) (aD (rL (rL rInt)) (aOne rInt))) rStr λx=>Pf.ci x.1 x.2.1 x.2.2)
end
theorem fO (D:gA K mg "Meetings" CM "Meetings.__init__" aN ["self","floor"]) (B:Blt mg) (Cg:Glb mg) (kM:MK K CM) (kW:WK K CW):HasI P w K mg base 1 "Meetings" CM ["self","floor"] (spIM CM):=by
 have sc:FnScope ["self","floor"] ["self","floor"] (aa aN):=⟨rfl,rfl,rfl,by decide +kernel,rfl,by decide +kernel,by decide +kernel⟩
 refine D.has sc (λvs H Q E h=>?_) λf cdv A outer s H vs Q E hr h=>?_
 ·obtain ⟨x,dx,vf,rfl,_⟩:=h; rfl
 ·exact ⟨_,ae (iw (pv 0) (pv 1) rfl) (ak (iw (pv 0) pe_dnewK rfl)),init_M kM rfl h⟩
theorem ii (D:gA K mg "Water" CW "Water.__init__" bf ["self","floor","reach"]) (B:Blt mg) (Cg:Glb mg) (kM:MK K CM) (kW:WK K CW) (G02:dJ P w K mg base) (G72:gb P w K mg base CM):HasI P w K mg base 4 "Water" CW ["self","floor","reach"] (spIW CM CW λx=>Pf.eX x):=by
 have sc:FnScope ["self","floor","reach"] ["self","floor","reach"] (aa bf):=⟨rfl,rfl,rfl,by decide +kernel,rfl,by decide +kernel,by decide +kernel⟩
 refine D.has sc (λvs H Q E h=>?_) λf cdv A outer s H vs Q E hr h=>?_
 ·obtain ⟨F,x,dx,vf,rows,reach,homes,rfl,_⟩:=h; rfl
 ·exact ⟨_,ae (iw (pv 0) (pv 1) rfl) (ae (iw (pv 0) (pv 2) rfl) (ae (iw (pv 0) (cb (loc:=["cell"]) (cap:=[]) rfl ⟨rfl,by decide +kernel,by decide +kernel,rfl,trivial,rfl⟩ (aP (K:=K) rfl (ao G02 (hr.mono (by decide)) rfl (a7 (pv 1) a9))) (λ_ _ _ _=>(ax (i:=0) (show (["cell"]:List Str).Nodup by decide +kernel) rfl (Or.inl rfl))) (λ_ _ _ _=>bu) (λ_ _ _ _=>qy)) rfl)
   (ak (iw (pv 0) (oW G72 (hr.mono (by decide)) rfl (a7 (pv 1) a9)) rfl)))),
   init_W kW (λrows reach=>(show EVL _ _ _ _ from bz (bn sq_l (aQ (av (a6 1 rfl))).ev) (by decide) (by decide) (aH 0) λy=>ev_none).cast (by unfold Pf.eX; simp only [Pu.bs])) rfl h⟩
theorem fP (D:bq K CM "let_meet" "Meetings.let_meet" c8 ["self","starts","meet"]) (B:Blt mg) (Cg:Glb mg) (kM:MK K CM) (kW:WK K CW) (G08:cI P w K mg base CM) (G73:lg P w K mg base):HasM P w K mg base 8 CM "let_meet" ["self","starts","meet"] (spM CM (aD (rL rInt) (aOne rInt)) rInt λx=>Pf.aM x.1 x.2.1 x.2.2):=by
  have sc:FnScope ["self","starts","meet","#ended","met","elder","start"] ["self","starts","meet"] (aa c8):=⟨rfl,rfl,rfl,by decide +kernel,rfl,by decide +kernel,by decide +kernel⟩
  have nd:=sc.nd
  refine D.pM (n:=3) (gx:="#ended") sc (λ_=>rfl) rfl rfl (by decide +kernel) λf cdv A outer s H E hr=>?_
  have hu:=ba hr
  refine ⟨_,ae (eK (loc:=["start"]) (cap:=[("self",0)]) (i:=4) rfl ⟨rfl,by decide +kernel,by decide +kernel,rfl,⟨⟨rfl,rfl,by first | exact Or.inl rfl | exact Or.inr rfl⟩,trivial⟩,rfl⟩ nd rfl (Or.inl rfl) (aP (K:=K) rfl (pv 1)) (λ_ _ _ _=>(ax (i:=0) (show (["start","self"]:List Str).Nodup by decide +kernel) rfl (Or.inl rfl))) (λ_ _ _ _=>bu) (λ_ _ _ _=>(dZ G08 (pv 1) kM.c (hr.mono (by decide)) (a7 (pv 0) a9))))
    (ae (au (i:=5) nd rfl (Or.inl rfl) (ao G73 (hr.mono (by decide)) rfl (a7 (cf (K:=K) rfl (pv 0) rfl) (a7 (pv 4) a9))))
    (ae (ck S6 rfl (aP (K:=K) rfl (pv 4)) (ax (i:=6) nd rfl (Or.inl rfl))
      (ak (de (aK op_ne (pv 6) (pv 5) (aX _)) (ak (ps_dput hu (cf (K:=K) rfl (pv 0) rfl) (pv 6) (jA (a7 (pv 2) (a7 (pv 5) a9))) rfl)) bC)))
    (ak (aB (pv 5))))),λrows p ended a=>BV.cast
    (ay 4 (evl_borM 0 3 rfl rfl jP (bz (bn sq_l (a6 1 rfl)) (by decide) (by decide) (aH 0) λy=>qV (mZ ob_m (a6 1 rfl) (av (mM (a6 0 rfl)))))).ev λmet =>
     ay 5 (aG (aq (rz kM (a6 0 rfl)) (av (a6 4 rfl)))) λelder =>
     cy (Γf:=λ(s:End_)=>[.fr (rM0 CM) (rows,p),.fr (rL rInt) a.1,.fr rInt a.2,.od rP (λb=>b=p) s,.fr (rL rInt) met,.fr rInt elder,.any]) ended (bn sq_l (a6 4 rfl)) (sbR (sbR (sbR (sbR (sbR (sbR (sbA .nil))))))) (λ_=>aH 6)
      (λs x=>b8 (dj (bG (mN fm (a6 6 rfl) (a6 5 rfl)))
        (bv_putG 3 (own_mE kM 0 3 rfl rfl) rfl (a6 6 rfl) (gR (mM (a6 2 rfl)) (mM (a6 5 rfl))) λy=>b9 y (sbR (sbR (sbR (sbR (sbR (sbR (sbA .nil))))))))
        (bE (b9 s (sbR (sbR (sbR (sbR (sbR (sbR (sbA .nil)))))))))))
      λs=>bv_retM 3 rfl (a6 5 rfl))
    (by unfold Pf.aM; first | (simp only [Pu.bs,nz9]; done) | (simp only [Pu.bs,nz9]; rfl))⟩
theorem ik (D:bq K CW "let_come" "Water.let_come" cQ ["self","cell"]) (B:Blt mg) (Cg:Glb mg) (kM:MK K CM) (kW:WK K CW) (G74:d3 P w K mg base CM CW) (G75:gc P w K mg base CM):HasM P w K mg base 9 CW "let_come" ["self","cell"] (spW CM CW (aOne rInt) λx=>Pf.be x.1 x.2):=by
  have sc:FnScope ["self","cell","#homes","#ended","homes"] ["self","cell"] (aa cQ):=⟨rfl,rfl,rfl,by decide +kernel,rfl,by decide +kernel,by decide +kernel⟩
  have nd:=sc.nd
  refine D.pW (n:=1) (gx:="#homes") (gy:="#ended") sc (λ_=>rfl) rfl rfl (by decide +kernel) rfl (by decide +kernel) λf cdv A outer s H E hr=>?_
  have hu:=ba hr
  refine ⟨_,ae (au (i:=4) nd rfl (Or.inl rfl) (dZ G74 (pv 0) kW.c (hr.mono (by decide)) (a7 (pv 1) a9)))
    (ak (mj (gK (pt_truK (K:=K) rfl (pv 4) (λ_=>rfl)) (dZ G75 (cf (K:=K) rfl (pv 0) rfl) kM.c (hr.mono (by decide)) (a7 (pv 4) (a7 (pv 1) a9))) (pv 1)) (qC (cf (K:=K) rfl (pv 0) rfl) (pv 1) set_list))),λrows reach hh p homes ended a=>BV.cast
    (ay 4 (evl_borW 0 2 3 rfl rfl rfl (by decide) jP (evl_meth ob_w (a6 0 rfl) (av (a6 1 rfl)))).ev λhs =>
     b8 (bv_setAtM (g:=3) 2 (by decide) (λe=>own_wH kW 0 2 rfl rfl) rfl (λe=>a6 1 rfl) (em_some (em_if (et_truL sq_l (a6 4 rfl)) (em_meth kW 0 rfl rfl (aq (a6 4 rfl) (av (a6 1 rfl)))) (em_pure rfl (a6 1 rfl))))
      λys e=>bv_endW 2 3 rfl rfl))
    (by unfold Pf.be; first | (simp only [Pu.bs,nz9]; done) | (simp only [Pu.bs,nz9]; rfl))⟩
theorem lh (D:az K mg "water_over" cG ["floor","reach","cells"]) (B:Blt mg) (Cg:Glb mg) (kM:MK K CM) (kW:WK K CW) (G76:iR P w K mg base CM CW) (G77:iS P w K mg base CM CW):Has P w K mg base 11 "water_over" ["floor","reach","cells"] (spV (aD rF (aD rInt (aOne (rL rInt)))) (rW CM CW) λx=>Pf.cC x.1 x.2.1 x.2.2):=by
  have sc:FnScope ["floor","reach","cells","#homes","#ended","water","cell"] ["floor","reach","cells"] (aa cG):=⟨rfl,rfl,rfl,by decide +kernel,rfl,by decide +kernel,by decide +kernel⟩
  have nd:=sc.nd
  refine D.pV sc (λ_=>rfl) rfl λf cdv A outer s H E hr=>?_
  have hu:=ba hr
  refine ⟨_,ae (au (i:=5) nd rfl (Or.inl rfl) (oW G76 (hr.mono (by decide)) rfl (a7 (pv 0) (a7 (pv 1) a9))))
    (pss_gh (x:="#homes") 3 (pss_gh (x:="#ended") 4 (ae (ck S6 rfl (aP (K:=K) rfl (pv 2)) (ax (i:=6) nd rfl (Or.inl rfl)) (ak (eG (dZ G77 (pv 5) kW.c (hr.mono (by decide)) (a7 (pv 6) a9)))))
      (ak (aB (pv 5)))) rfl (show j6 (aa cG) "#ended"=true by decide +kernel)) rfl (show j6 (aa cG) "#homes"=true by decide +kernel)),λa=>BV.cast
    (bv_make 5 3 4 ⟨by decide,by decide,by decide,(show 3<7 by decide),(show 4<7 by decide)⟩ (aq (a6 0 rfl) (av (a6 1 rfl))) λrows reach hh p homes =>
     cy (Γf:=λ(s:List (Option Int) × End_)=>[.fr rF a.1,.fr rInt a.2.1,.fr (rL rInt) a.2.2,.ol (rOp rInt) (λb=>b=hh) s.1,.od rP (λb=>b=p) s.2,.fr (rW0 CM CW) (rows,reach,hh,p),.any]) (homes,[]) (bn sq_l (a6 2 rfl)) (sbR (sbR (sbR (sbR (sbR (sbR (sbA .nil))))))) (λ_=>aH 6)
      (λs x=>b8 (bv_come 5 3 4 (by decide) rfl rfl rfl (av (a6 6 rfl)) (λhs es=>b9 (hs,es) (sbR (sbR (sbR (sbR (sbR (sbR (sbA .nil)))))))) ob_w0))
      λs=>bv_retW 5 3 4 (by decide) rfl rfl rfl ⟨by decide,by decide,(show 5<7 by decide)⟩)
    (by unfold Pf.cC; first | (simp only [Pu.bs,nz9]; done) | (simp only [Pu.bs,nz9]; rfl))⟩
theorem kD:FnScope ["_law_script","_law_k"] ["_law_script","_law_k"] (aa iM):=⟨rfl,rfl,rfl,by decide +kernel,rfl,by decide +kernel,by decide +kernel⟩
theorem su (D:az K mg "_law_cell_at" iM ["_law_script","_law_k"]) (B:Blt mg) (Cg:Glb mg) (kM:MK K CM) (kW:WK K CW) :eB P w K mg base:=by
 have nd:=kD.nd
 refine D.pV kD (λ_=>rfl) rfl λf cdv A outer s H E hr=>?_
 have hu:=ba hr
 exact ⟨_,(ae (de (aK op_lt (pv 1) (aw (bc (K:=K) rfl) (by rfl) B.len cw (a7 (pv 0) a9)) (aX _))
   (ak (aB (aW (aL (K:=K) rfl) (pv 0) (pv 1) (λ_ _=>rfl))))
   bC)
   (ak (aB ag))),
  λa=>BV.cast (dj (bG (ev_lt (a6 1 rfl) (cN sq_s (a6 0 rfl))))
  (dE (bA (bJ sq_s (a6 0 rfl) (a6 1 rfl))))
  (bE (bA aj))) (by unfold Pf.bY; first | rfl | (simp only [Pu.bs]; done) | (simp only [Pu.bs,nz9]; done))⟩
theorem qi:FnScope ["_law_number","_law_k"] ["_law_number","_law_k"] (aa nN):=⟨rfl,rfl,rfl,by decide +kernel,rfl,by decide +kernel,by decide +kernel⟩
theorem ok_mixed (D:az K mg "_law_mixed" nN ["_law_number","_law_k"]) (B:Blt mg) (Cg:Glb mg) (kM:MK K CM) (kW:WK K CW) :jv P w K mg base:=by
 have nd:=qi.nd
 refine D.pV qi (λ_=>rfl) rfl λf cdv A outer s H E hr=>?_
 have hu:=ba hr
 exact ⟨_,(ak (aB (am bh (am bg (am bg (am d4 (am bh (pv 0) (am gm ag ag)) ag) (am d4 (am d4 (pv 1) (pv 1)) ag)) ag) ag))),
  λa=>BV.cast (bA (bt (bi (bi (mT (bt (a6 0 rfl) (eN (v:=100000000000000000000) aj aj (by decide)) (by decide)) aj (by decide)) (mT (dR (a6 1 rfl) (a6 1 rfl)) aj (by decide))) aj) aj (by decide))) (by unfold Pf.mixed; first | rfl | (simp only [Pu.bs]; done) | (simp only [Pu.bs,nz9]; done))⟩
theorem m9:FnScope ["_law_number","_law_k","_law_way","_law_part"] ["_law_number","_law_k","_law_way"] (aa kr):=⟨rfl,rfl,rfl,by decide +kernel,rfl,by decide +kernel,by decide +kernel⟩
theorem ok_height (D:az K mg "_law_height" kr ["_law_number","_law_k","_law_way"]) (B:Blt mg) (Cg:Glb mg) (kM:MK K CM) (kW:WK K CW) (G03:jv P w K mg base):qg P w K mg base:=by
 have nd:=m9.nd
 refine D.pV m9 (λ_=>rfl) rfl λf cdv A outer s H E hr=>?_
 have hu:=ba hr
 exact ⟨_,(ae (au (i:=3) nd rfl (Or.inl rfl) (ao G03 (hr.mono (by decide)) rfl (a7 (pv 0) (a7 (pv 1) a9))))
   (ae (de (aK fk (pv 2) ag (aX _))
   (ak (aB (am bh (pv 3) ag)))
   bC)
   (ae (de (aK fk (pv 2) ag (aX _))
   (ak (aB (am bh (pv 3) ag)))
   bC)
   (ae (de (aK fk (pv 2) ag (aX _))
   (ak (aB (am bh (pv 0) (am bg (am gm ag ag) ag))))
   bC)
   (ak (aB (aW (aL (K:=K) rfl) (cn (a7 (am bh (pv 3) ag) (a7 (am df (am gm ag ag) (am bh (pv 3) ag)) a9))) (am bh (am bM (pv 3) ag) ag) (λ_ _=>rfl)))))))),
  λa=>BV.cast (ay 3 (aG (aq (a6 0 rfl) (av (a6 1 rfl)))) λpart1=>(dj (bG (d5 fm (a6 2 rfl) aj))
  (dE (bA (bt (a6 3 rfl) aj (by decide))))
  (bE (dj (bG (d5 fm (a6 2 rfl) aj))
  (dE (bA (bt (a6 3 rfl) aj (by decide))))
  (bE (dj (bG (d5 fm (a6 2 rfl) aj))
  (dE (bA (bt (a6 0 rfl) (bi (eN (v:=1000000000000000000) aj aj (by decide)) aj) (by decide))))
  (bE (bA (bJ sq_l ((bL (bx (bt (a6 3 rfl) aj (by decide)) (bx (di (eN (v:=1000000000000000000) aj aj (by decide)) (bt (a6 3 rfl) aj (by decide))) bK)))).ev (bt (dk (a6 3 rfl) aj (by decide)) aj (by decide))))))))))) (by unfold Pf.cr; first | rfl | (simp only [Pu.bs]; done) | (simp only [Pu.bs,nz9]; done))⟩
theorem ma:FnScope ["_law_heights_here","_law_columns"] ["_law_heights_here","_law_columns"] (aa kt):=⟨rfl,rfl,rfl,by decide +kernel,rfl,by decide +kernel,by decide +kernel⟩
theorem ok_folded (D:az K mg "_law_folded" kt ["_law_heights_here","_law_columns"]) (B:Blt mg) (Cg:Glb mg) (kM:MK K CM) (kW:WK K CW) :qh P w K mg base:=by
 have nd:=ma.nd
 refine D.pL ma (λ_=>rfl) rfl λf cdv A outer s H E hr=>?_
 have hu:=ba hr
 exact ⟨_,(ak (aB (cb (loc:=["_law_k"]) (cap:=[("_law_heights_here",0),("_law_columns",1)]) rfl ⟨rfl,by decide +kernel,by decide +kernel,rfl,⟨⟨rfl,rfl,by first | exact Or.inl rfl | exact Or.inr rfl⟩,⟨⟨rfl,rfl,by first | exact Or.inl rfl | exact Or.inr rfl⟩,trivial⟩⟩,rfl⟩  (pi_range3 rfl B.range (a7 ag (a7 (am bg (am df (aw (bc (K:=K) rfl) (by rfl) B.len cw (a7 (pv 0) a9)) (pv 1)) ag) (a7 (pv 1) a9)))) (λ_ _ _ _=>(ax (i:=0) (show (["_law_k","_law_heights_here","_law_columns"]:List Str).Nodup by decide +kernel) rfl (Or.inl rfl))) (λ_ _ _ _=>bu) (λ_ _ _ _=>(dg (dX (K:=K) rfl) (pv 1) (cp (pv 0)) (cp (am bg (pv 0) (pv 2)))))))),
  λa=>BV.cast (ce (bz (iv_rng3 aj (bi (di (cN sq_l (a6 0 rfl)) (a6 1 rfl)) aj) (a6 1 rfl)) (by decide) (by decide) (aH 0) λy1=>((fT sq_l (a6 1 rfl) (cx (a6 0 rfl)) (cx (bi (a6 0 rfl) (a6 2 rfl))))).ev)) (by unfold Pf.folded; first | rfl | (simp only [Pu.bs]; done) | (simp only [Pu.bs,nz9]; done))⟩
theorem qj:FnScope ["_law_script","_law_first","_law_way","_law_heights_here","_law_columns"] ["_law_script","_law_first"] (aa nO):=⟨rfl,rfl,rfl,by decide +kernel,rfl,by decide +kernel,by decide +kernel⟩
theorem ok_floor (D:az K mg "_law_floor" nO ["_law_script","_law_first"]) (B:Blt mg) (Cg:Glb mg) (kM:MK K CM) (kW:WK K CW) (G00:eB P w K mg base) (G78:qg P w K mg base) (G79:qh P w K mg base):H_floor P w K mg base:=by
 have nd:=qj.nd
 refine D.pL qj (λ_=>rfl) rfl λf cdv A outer s H E hr=>?_
 have hu:=ba hr
 exact ⟨_,(ae (au (i:=2) nd rfl (Or.inr rfl) (am bh (ao G00 (hr.mono (by decide)) rfl (a7 (pv 0) (a7 (pv 1) a9))) ag))
   (ae (eK (loc:=["_law_k","_law_number"]) (cap:=[("_law_way",2)]) (i:=3) rfl ⟨rfl,by decide +kernel,by decide +kernel,rfl,⟨⟨rfl,rfl,by first | exact Or.inl rfl | exact Or.inr rfl⟩,trivial⟩,rfl⟩ nd rfl (Or.inl rfl) (gO (K:=K) rfl rfl B.enumerate (a7 (dg (dX (K:=K) rfl) (pv 0) (cp (am bg (pv 1) ag)) (cp (am bg (pv 1) ag))) a9)) (λ_ _ _ _=>(fS (K:=K) (n:=2) rfl rfl (bF (ax (i:=0) (show (["_law_k","_law_number","_law_way"]:List Str).Nodup by decide +kernel) rfl (Or.inl rfl)) (bF (ax (i:=1) (show (["_law_k","_law_number","_law_way"]:List Str).Nodup by decide +kernel) rfl (Or.inl rfl)) fR)))) (λ_ _ _ _=>bu) (λ_ _ _ _=>(ao G78 (hr.mono (by decide)) rfl (a7 (pv 1) (a7 (pv 0) (a7 (am bh (pv 2) ag) a9))))))
   (ae (de (aK (op_eqDK (K:=K) rfl hr.units) (pv 3) (cn a9) (aX _))
   (ak (au (i:=3) nd rfl (Or.inl rfl) (cn (a7 (am bh (am bM (ao G00 (hr.mono (by decide)) rfl (a7 (pv 0) (a7 (pv 1) a9))) ag) (am bg (am gm ag ag) ag)) a9))))
   bC)
   (ae (au (i:=4) nd rfl (Or.inl rfl) (am bg ag (am bh (am bM (ao G00 (hr.mono (by decide)) rfl (a7 (pv 0) (a7 (pv 1) a9))) ag) (aw (d9 rfl) (by rfl) B.min gr (a7 ag (a7 (aw (bc (K:=K) rfl) (by rfl) B.len cw (a7 (pv 3) a9)) a9))))))
   (ae (de (aK fk (pv 2) ag (aX _))
   (ak (au (i:=4) nd rfl (Or.inl rfl) (aw (dU rfl) (by rfl) B.max jM (a7 ag (a7 (aw (d9 rfl) (by rfl) B.min gr (a7 (pv 4) (a7 (am bM (aw (bc (K:=K) rfl) (by rfl) B.len cw (a7 (pv 3) a9)) ag) a9))) a9)))))
   bC)
   (ak (aB (ao G79 (hr.mono (by decide)) rfl (a7 (pv 3) (a7 (aw (dU rfl) (by rfl) B.max jM (a7 (pv 4) (a7 (am df ag (am bM (am df ag (aw (bc (K:=K) rfl) (by rfl) B.len cw (a7 (pv 3) a9))) ag)) a9))) a9)))))))))),
  λa=>BV.cast (ay 2 (bt (aG (aq (a6 0 rfl) (av (a6 1 rfl)))) aj (by decide)) λway2=>(ay 3 ((bz (jm sq_l ((fT sq_s (a6 0 rfl) (cx (bi (a6 1 rfl) aj)) (cx (bi (a6 1 rfl) aj)))).ev) (by decide) (by decide) (fW 0 1) λy4=>(aG (aq (a6 1 rfl) (aq (a6 0 rfl) (av (bt (a6 2 rfl) aj (by decide)))))))).ev λheights_here5=>(bv_join (Γj:=λ(s7:(List (Int)))=>[.fr (rScr K) (a.1),.fr rInt (a.2),.fr rInt (way2),.fr (rL rInt) (s7),.any]) (b8 (dj (bG (ev_eqD (dL dInt) (a6 3 rfl) ((bL (r:=rInt) bK)).ev))
  (ay 3 ((bL (bx (bt (dk (aG (aq (a6 0 rfl) (av (a6 1 rfl)))) aj (by decide)) (bi (eN (v:=1000000000000000000) aj aj (by decide)) aj) (by decide)) bK))).ev λheights_here11=>(gV (heights_here11) (sbR (sbR (sbR (sbR (sbA .nil)))))))
  (bE (gV (heights_here5) (sbR (sbR (sbR (sbR (sbA .nil))))))))) λs7=>(ay 4 (bi aj (fx (dk (aG (aq (a6 0 rfl) (av (a6 1 rfl)))) aj (by decide)) (fU aj (cN sq_l (a6 3 rfl))))) λcolumns16=>(bv_join (Γj:=λ(s18:Int)=>[.fr (rScr K) (a.1),.fr rInt (a.2),.fr rInt (way2),.fr (rL rInt) (s7),.fr rInt (s18)]) (b8 (dj (bG (d5 fm (a6 2 rfl) aj))
  (ay 4 (gT aj (fU (a6 4 rfl) (dk (cN sq_l (a6 3 rfl)) aj (by decide)))) λcolumns19=>(gV (columns19) (sbR (sbR (sbR (sbR (sbR .nil)))))))
  (bE (gV (columns16) (sbR (sbR (sbR (sbR (sbR .nil))))))))) λs18=>(ce (aQ (aq (a6 3 rfl) (av (gT (a6 4 rfl) (di aj (dk (di aj (cN sq_l (a6 3 rfl))) aj (by decide))))))))))))) (by unfold Pf.floor; first | rfl | (simp only [Pu.bs]; done) | (simp only [Pu.bs,nz9]; done))⟩
theorem im:FnScope ["_law_script","_law_number","_law_high","_law_low","_law_floor_here","_law_row","_law_some","_law_k","_law_part"] ["_law_script"] (aa fH):=⟨rfl,rfl,rfl,by decide +kernel,rfl,by decide +kernel,by decide +kernel⟩
theorem nT (D:az K mg "_law_any_floor" fH ["_law_script"]) (B:Blt mg) (Cg:Glb mg) (kM:MK K CM) (kW:WK K CW) (G00:eB P w K mg base) (G03:jv P w K mg base) (G80:H_floor P w K mg base):ja P w K mg base:=by
 have nd:=im.nd
 refine D.pL im (λ_=>rfl) rfl λf cdv A outer s H E hr=>?_
 have hu:=ba hr
 exact ⟨_,(ae (au (i:=1) nd rfl (Or.inl rfl) (ao G00 (hr.mono (by decide)) rfl (a7 (pv 0) (a7 ag a9))))
   (ae (de (aK op_ne (am bh (pv 1) ag) ag (aX _))
   (ak (aB (ao G80 (hr.mono (by decide)) rfl (a7 (pv 0) (a7 ag a9)))))
   bC)
   (ae (au (i:=2) nd rfl (Or.inl rfl) (am bg ag (am bh (am bM (pv 1) ag) (am gm ag ag))))
   (ae (au (i:=3) nd rfl (Or.inl rfl) (am bh (am bM (pv 1) ag) (pv 2)))
   (ae (au (i:=4) nd rfl (Or.inl rfl) (cn a9))
   (ae (ck S6 rfl (dS rfl B.range (a7 ag a9)) (ax (i:=5) nd rfl (Or.inl rfl))
   (ae (au (i:=6) nd rfl (Or.inl rfl) (cn a9))
   (ae (ck S6 rfl (dS rfl B.range (a7 ag a9)) (ax (i:=7) nd rfl (Or.inl rfl))
   (ae (au (i:=8) nd rfl (Or.inl rfl) (am bh (ao G03 (hr.mono (by decide)) rfl (a7 (pv 1) (a7 (am bg (am d4 (pv 5) ag) (pv 7)) a9))) ag))
   (ak (eG (fv (K:=K) rfl P5 N0 N1 cL (pv 6) (a7 (aW (aL (K:=K) rfl) (cn (a7 (am bg (pv 3) (pv 8)) (a7 (am bg (pv 2) ag) a9))) (am bh (am bg (pv 5) (pv 7)) ag) (λ_ _=>rfl)) a9))))))
   (ak (eG (fv (K:=K) rfl P5 N0 N1 cL (pv 4) (a7 (pv 6) a9)))))))
   (ak (aB (pv 4))))))))),
  λa=>BV.cast (ay 1 (aG (aq (a6 0 rfl) (av aj))) λnumber1=>(dj (bG (mN fm (bt (a6 1 rfl) aj (by decide)) aj))
  (dE (ce (aQ (aq (a6 0 rfl) (av aj)))))
  (bE (ay 2 (bi aj (bt (dk (a6 1 rfl) aj (by decide)) (eN (v:=100000000000000000) aj aj (by decide)) (by decide))) λhigh3=>(ay 3 (fx (dk (a6 1 rfl) aj (by decide)) (a6 2 rfl)) λlow4=>(cT 4 (bL (r:=(rL rInt)) bK) λfloor_here6=>(cy (Γf:=λ(s8:(List (List (Int))))=>[.fr (rScr K) (a),.fr rInt (number1),.fr rInt (high3),.fr rInt (low4),.ol (rL rInt) tt_ (s8),.any,.any,.any,.any]) (floor_here6) (gU aj) (sbR (sbR (sbR (sbR (sbR (sbA (sbA (sbA (sbA .nil))))))))) (λ_=>(aH 5))
  (λs8 x7=>(cT 6 (bL (r:=rInt) bK) λsome9=>(cy (Γf:=λ(s11:(List (Int)))=>[.fr (rScr K) (a),.fr rInt (number1),.fr rInt (high3),.fr rInt (low4),.ol (rL rInt) tt_ (s8),.fr rInt (x7),.ol rInt tt_ (s11),.any,.any]) (some9) (gU aj) (sbR (sbR (sbR (sbR (sbR (sbR (sbR (sbA (sbA .nil))))))))) (λ_=>(aH 7))
  (λs11 x10=>(ay 8 (bt (aG (aq (a6 1 rfl) (av (bi (mT (a6 5 rfl) aj (by decide)) (a6 7 rfl))))) aj (by decide)) λpart13=>(b8 (da 6 rfl (bJ sq_l ((bL (bx (bi (a6 3 rfl) (a6 8 rfl)) (bx (bi (a6 2 rfl) aj) bK)))).ev (bt (bi (a6 5 rfl) (a6 7 rfl)) aj (by decide))) λsome15=>(b9 (some15) (sbR (sbR (sbR (sbR (sbR (sbR (sbR (sbA (sbA .nil))))))))))))))
  λs11=>(b8 (bv_sub (sbR (sbR (sbR (sbR (sbR (sbR (.cons .frz (sbA (sbA .nil))))))))) (da 4 rfl (a6 6 rfl) λfloor_here18=>(b9 (floor_here18) (sbR (sbR (sbR (sbR (sbR (sbA (sbA (sbA (sbA .nil))))))))))))))))
  λs8=>(jn 4 rfl)))))))) (by unfold Pf.eA; first | rfl | (simp only [Pu.bs]; done) | (simp only [Pu.bs,nz9]; done))⟩
theorem qk:FnScope ["_law_script","_law_first"] ["_law_script","_law_first"] (aa nP):=⟨rfl,rfl,rfl,by decide +kernel,rfl,by decide +kernel,by decide +kernel⟩
theorem ok_reach (D:az K mg "_law_reach" nP ["_law_script","_law_first"]) (B:Blt mg) (Cg:Glb mg) (kM:MK K CM) (kW:WK K CW) (G00:eB P w K mg base) (G03:jv P w K mg base):H_reach P w K mg base:=by
 have nd:=qk.nd
 refine D.pV qk (λ_=>rfl) rfl λf cdv A outer s H E hr=>?_
 have hu:=ba hr
 exact ⟨_,(ak (aB (aW (aL (K:=K) rfl) (cn (a7 ag (a7 ag a9))) (am bh (ao G03 (hr.mono (by decide)) rfl (a7 (ao G00 (hr.mono (by decide)) rfl (a7 (pv 0) (a7 (pv 1) a9))) (a7 ag a9))) ag) (λ_ _=>rfl)))),
  λa=>BV.cast (bA (bJ sq_l ((bL (bx aj (bx aj bK)))).ev (bt (EV.cast (aG (aq (aG (aq (a6 0 rfl) (av (a6 1 rfl)))) (av aj))) Pu.as2) aj (by decide)))) (by unfold Pf.reach; first | rfl | (simp only [Pu.bs]; done) | (simp only [Pu.bs,nz9]; done))⟩
theorem kE:FnScope ["_law_floor_here","_law_heights_here","_law_row"] ["_law_floor_here"] (aa iN):=⟨rfl,rfl,rfl,by decide +kernel,rfl,by decide +kernel,by decide +kernel⟩
theorem sv (D:az K mg "_law_heights" iN ["_law_floor_here"]) (B:Blt mg) (Cg:Glb mg) (kM:MK K CM) (kW:WK K CW) :lZ P w K mg base:=by
 have nd:=kE.nd
 refine D.pL kE (λ_=>rfl) rfl λf cdv A outer s H E hr=>?_
 have hu:=ba hr
 exact ⟨_,(ae (au (i:=1) nd rfl (Or.inl rfl) (cn a9))
   (ae (ck S6 rfl (aP (K:=K) rfl (pv 0)) (ax (i:=2) nd rfl (Or.inl rfl))
   (ak (au (i:=1) nd rfl (Or.inl rfl) (am mO (pv 1) (pv 2)))))
   (ak (aB (pv 1))))),
  λa=>BV.cast (cT 1 (bL (r:=rInt) bK) λheights_here1=>(cy (Γf:=λ(s3:(List (Int)))=>[.fr (rL (rL rInt)) (a),.ol rInt tt_ (s3),.any]) (heights_here1) (bn sq_l (a6 0 rfl)) (sbR (sbR (sbA .nil))) (λ_=>(aH 2))
  (λs3 x2=>(b8 (cT 1 (evl_bor 1 rfl jP (mP (a6 1 rfl) (a6 2 rfl))) λheights_here4=>(b9 (heights_here4) (sbR (sbR (sbA .nil)))))))
  λs3=>(jn 1 rfl))) (by unfold Pf.i0; first | rfl | (simp only [Pu.bs]; done) | (simp only [Pu.bs,nz9]; done))⟩
theorem sc_next:FnScope ["_law_size","_law_reach_here","_law_cell","_law_rows","_law_columns","_law_found","_law_other","_law_down","_law_aside"] ["_law_size","_law_reach_here","_law_cell"] (aa sr):=⟨rfl,rfl,rfl,by decide +kernel,rfl,by decide +kernel,by decide +kernel⟩
theorem ok_next (D:az K mg "_law_next" sr ["_law_size","_law_reach_here","_law_cell"]) (B:Blt mg) (Cg:Glb mg) (kM:MK K CM) (kW:WK K CW) :H_next P w K mg base:=by
 have nd:=sc_next.nd
 refine D.pL sc_next (λ_=>rfl) rfl λf cdv A outer s H E hr=>?_
 have hu:=ba hr
 exact ⟨_,(ae (mj (pv 0) (fS (K:=K) (n:=2) rfl rfl (bF (ax (i:=3) nd rfl (Or.inl rfl)) (bF (ax (i:=4) nd rfl (Or.inl rfl)) fR))))
   (ae (au (i:=5) nd rfl (Or.inl rfl) (cn a9))
   (ae (ck S6 rfl (dS rfl B.range (a7 (am d4 (pv 3) (pv 4)) a9)) (ax (i:=6) nd rfl (Or.inl rfl))
   (ae (au (i:=7) nd rfl (Or.inl rfl) (aw gL (by rfl) B.abs mH (a7 (am df (am bM (pv 6) (pv 4)) (am bM (pv 2) (pv 4))) a9)))
   (ae (au (i:=8) nd rfl (Or.inl rfl) (aw gL (by rfl) B.abs mH (a7 (am df (am bh (pv 6) (pv 4)) (am bh (pv 2) (pv 4))) a9)))
   (ak (de (PW.pt (pw_or (aK fk (am bg (pv 7) (pv 8)) ag (aX _)) (qA (PW.pt (mi (aK fk (pv 1) ag (aX _)) (mi (aK fk (pv 7) ag (aX _)) (mf (aK fk (pv 8) ag (aX _)))))))))
   (ak (eG (fv (K:=K) rfl P5 N0 N1 cL (pv 5) (a7 (pv 6) a9))))
   bC)))))
   (ak (aB (pv 5)))))),
  λa=>BV.cast (bv_asg (a6 0 rfl) (fW 3 4) λt1=>(cT 5 (bL (r:=rInt) bK) λfound3=>(cy (Γf:=λ(s6:(List (Int)))=>[.fr (rT2 rInt rInt) (a.1),.fr rInt (a.2.1),.fr rInt (a.2.2),.fr rInt (t1.1),.fr rInt (t1.2),.ol rInt tt_ (s6),.any,.any,.any]) (found3) (gU (dR (a6 3 rfl) (a6 4 rfl))) (sbR (sbR (sbR (sbR (sbR (sbR (sbA (sbA (sbA .nil))))))))) (λ_=>(aH 6))
  (λs6 x5=>(ay 7 (mR (di (gQ (a6 6 rfl) (a6 4 rfl)) (gQ (a6 2 rfl) (a6 4 rfl)))) λdown10=>(ay 8 (mR (di (fx (a6 6 rfl) (a6 4 rfl)) (fx (a6 2 rfl) (a6 4 rfl)))) λaside15=>(b8 (dj (et_orT (bG (d5 fm (bi (a6 7 rfl) (a6 8 rfl)) aj)) (et_andT (bG (d5 fm (a6 1 rfl) aj)) (et_andT (bG (d5 fm (a6 7 rfl) aj)) (bG (d5 fm (a6 8 rfl) aj)))))
  (da 5 rfl (a6 6 rfl) λfound17=>(b9 (found17) (sbR (sbR (sbR (sbR (sbR (sbR (sbA (sbA (sbA .nil)))))))))))
  (bE (b9 (s6) (sbR (sbR (sbR (sbR (sbR (sbR (sbA (sbA (sbA .nil))))))))))))))))
  λs6=>(jn 5 rfl)))) (by unfold Pf.kh; first | rfl | (simp only [Pu.bs]; done) | (simp only [Pu.bs,nz9]; done))⟩
theorem jb:FnScope ["_law_floor_here","_law_reach_here","_law_size"] ["_law_floor_here","_law_reach_here"] (aa gD):=⟨rfl,rfl,rfl,by decide +kernel,rfl,by decide +kernel,by decide +kernel⟩
theorem ql (D:az K mg "_law_all_next" gD ["_law_floor_here","_law_reach_here"]) (B:Blt mg) (Cg:Glb mg) (kM:MK K CM) (kW:WK K CW) (G81:H_next P w K mg base):ku P w K mg base:=by
 have nd:=jb.nd
 refine D.pL jb (λ_=>rfl) rfl λf cdv A outer s H E hr=>?_
 have hu:=ba hr
 exact ⟨_,(ae (au (i:=2) nd rfl (Or.inr rfl) (jA (a7 (aw (bc (K:=K) rfl) (by rfl) B.len cw (a7 (pv 0) a9)) (a7 (aw (bc (K:=K) rfl) (by rfl) B.len cw (a7 (aW (aL (K:=K) rfl) (pv 0) ag (λ_ _=>rfl)) a9)) a9))))
   (ak (aB (cb (loc:=["_law_cell"]) (cap:=[("_law_size",2),("_law_reach_here",1)]) rfl ⟨rfl,by decide +kernel,by decide +kernel,rfl,⟨⟨rfl,rfl,by first | exact Or.inl rfl | exact Or.inr rfl⟩,⟨⟨rfl,rfl,by first | exact Or.inl rfl | exact Or.inr rfl⟩,trivial⟩⟩,rfl⟩  (dS rfl B.range (a7 (am d4 (aW (bU (K:=K) rfl) (pv 2) ag (λ_ _=>rfl)) (aW (bU (K:=K) rfl) (pv 2) ag (λ_ _=>rfl))) a9)) (λ_ _ _ _=>(ax (i:=0) (show (["_law_cell","_law_size","_law_reach_here"]:List Str).Nodup by decide +kernel) rfl (Or.inl rfl))) (λ_ _ _ _=>bu) (λ_ _ _ _=>(ao G81 (hr.mono (by decide)) rfl (a7 (pv 1) (a7 (pv 2) (a7 (pv 0) a9))))))))),
  λa=>BV.cast (ay 2 (gR (cN sq_l (a6 0 rfl)) (cN sq_l (bJ sq_l (a6 0 rfl) aj))) λsize3=>(ce (bz (gU (dR (jl (a6 2 rfl)) (d8 (a6 2 rfl)))) (by decide) (by decide) (aH 0) λy6=>((aQ (aq (a6 1 rfl) (aq (a6 2 rfl) (av (a6 0 rfl)))))).ev))) (by unfold Pf.dz; first | rfl | (simp only [Pu.bs]; done) | (simp only [Pu.bs,nz9]; done))⟩
theorem kF:FnScope ["floor","columns"] ["floor"] (aa iO):=⟨rfl,rfl,rfl,by decide +kernel,rfl,by decide +kernel,by decide +kernel⟩
theorem sw (D:az K mg "size_of" iO ["floor"]) (B:Blt mg) (Cg:Glb mg) (kM:MK K CM) (kW:WK K CW) :eC P w K mg base:=by
 have nd:=kF.nd
 refine D.pV kF (λ_=>rfl) rfl λf cdv A outer s H E hr=>?_
 have hu:=ba hr
 exact ⟨_,(ae (au (i:=1) nd rfl (Or.inl rfl) (gK (pt_truK (K:=K) rfl (pv 0) (λ_=>rfl)) (aw (bc (K:=K) rfl) (by rfl) B.len cw (a7 (aW (aL (K:=K) rfl) (pv 0) ag (λ_ _=>rfl)) a9)) ag))
   (ak (aB (jA (a7 (aw (bc (K:=K) rfl) (by rfl) B.len cw (a7 (pv 0) a9)) (a7 (pv 1) a9)))))),
  λa=>BV.cast (ay 1 (qY (et_truL sq_l (a6 0 rfl)) (cN sq_l (bJ sq_l (a6 0 rfl) aj)) aj) λcolumns2=>(bA (gR (cN sq_l (a6 0 rfl)) (a6 1 rfl)))) (by unfold Pf.size_of; first | rfl | (simp only [Pu.bs]; done) | (simp only [Pu.bs,nz9]; done))⟩
theorem io:FnScope ["floor","size"] ["floor"] (aa fI):=⟨rfl,rfl,rfl,by decide +kernel,rfl,by decide +kernel,by decide +kernel⟩
theorem nU (D:az K mg "all_cells" fI ["floor"]) (B:Blt mg) (Cg:Glb mg) (kM:MK K CM) (kW:WK K CW) (G01:eC P w K mg base):dJ P w K mg base:=by
 have nd:=io.nd
 refine D.pL io (λ_=>rfl) rfl λf cdv A outer s H E hr=>?_
 have hu:=ba hr
 exact ⟨_,(ae (au (i:=1) nd rfl (Or.inl rfl) (ao G01 (hr.mono (by decide)) rfl (a7 (pv 0) a9)))
   (ak (aB (iz (rp rfl) (by rfl) B.list_ mI (a7 (pe_rng (am d4 (aW (bU (K:=K) rfl) (pv 1) ag (λ_ _=>rfl)) (aW (bU (K:=K) rfl) (pv 1) ag (λ_ _=>rfl))) rfl B.range) a9))))),
  λa=>BV.cast (ay 1 (aG (av (a6 0 rfl))) λsize1=>(ce (oU (dR (jl (a6 1 rfl)) (d8 (a6 1 rfl)))))) (by unfold Pf.cj; first | rfl | (simp only [Pu.bs]; done) | (simp only [Pu.bs,nz9]; done))⟩
theorem gk:FnScope ["size","reach","cell","row","column","most_steps","found","other_row","other_column"] ["size","reach","cell"] (aa fi):=⟨rfl,rfl,rfl,by decide +kernel,rfl,by decide +kernel,by decide +kernel⟩
theorem li (D:az K mg "neighbours" fi ["size","reach","cell"]) (B:Blt mg) (Cg:Glb mg) (kM:MK K CM) (kW:WK K CW) :ie P w K mg base:=by
 have nd:=gk.nd
 refine D.pL gk (λ_=>rfl) rfl λf cdv A outer s H E hr=>?_
 have hu:=ba hr
 exact ⟨_,(ae (au (i:=3) nd rfl (Or.inl rfl) (am bM (pv 2) (aW (bU (K:=K) rfl) (pv 0) ag (λ_ _=>rfl))))
   (ae (au (i:=4) nd rfl (Or.inl rfl) (am bh (pv 2) (aW (bU (K:=K) rfl) (pv 0) ag (λ_ _=>rfl))))
   (ae (au (i:=5) nd rfl (Or.inl rfl) (gK (aK fk (pv 1) ag (aX _)) ag ag))
   (ae (au (i:=6) nd rfl (Or.inl rfl) (cn a9))
   (ae (ck S6 rfl (lz rfl B.range (a7 (aw (dU rfl) (by rfl) B.max jM (a7 ag (a7 (am df (pv 3) ag) a9))) (a7 (aw (d9 rfl) (by rfl) B.min gr (a7 (aW (bU (K:=K) rfl) (pv 0) ag (λ_ _=>rfl)) (a7 (am bg (pv 3) ag) a9))) a9))) (ax (i:=7) nd rfl (Or.inl rfl))
   (ak (ck S6 rfl (lz rfl B.range (a7 (aw (dU rfl) (by rfl) B.max jM (a7 ag (a7 (am df (pv 4) ag) a9))) (a7 (aw (d9 rfl) (by rfl) B.min gr (a7 (aW (bU (K:=K) rfl) (pv 0) ag (λ_ _=>rfl)) (a7 (am bg (pv 4) ag) a9))) a9))) (ax (i:=8) nd rfl (Or.inl rfl))
   (ak (de (pt_chain op_lt op_le ag (am bg (aw gL (by rfl) B.abs mH (a7 (am df (pv 7) (pv 3)) a9)) (aw gL (by rfl) B.abs mH (a7 (am df (pv 8) (pv 4)) a9))) (pv 5))
   (ak (eG (fv (K:=K) rfl P5 N0 N1 cL (pv 6) (a7 (am bg (am d4 (pv 7) (aW (bU (K:=K) rfl) (pv 0) ag (λ_ _=>rfl))) (pv 8)) a9))))
   bC)))))
   (ak (aB (pv 6)))))))),
  λa=>BV.cast (ay 3 (gQ (a6 2 rfl) (d8 (a6 0 rfl))) λrow1=>(ay 4 (fx (a6 2 rfl) (d8 (a6 0 rfl))) λcolumn3=>(ay 5 (ev_ifxT (bG (d5 fm (a6 1 rfl) aj)) aj aj) λmost_steps5=>(cT 6 (bL (r:=rInt) bK) λfound7=>(cy (Γf:=λ(s9:(List (Int)))=>[.fr (rT2 rInt rInt) (a.1),.fr rInt (a.2.1),.fr rInt (a.2.2),.fr rInt (row1),.fr rInt (column3),.fr rInt (most_steps5),.ol rInt tt_ (s9),.any,.any]) (found7) (iv_rng2 (gT aj (di (a6 3 rfl) aj)) (fU (jl (a6 0 rfl)) (bi (a6 3 rfl) aj))) (sbR (sbR (sbR (sbR (sbR (sbR (sbR (sbA (sbA .nil))))))))) (λ_=>(aH 7))
  (λs9 x8=>(b8 (cy (Γf:=λ(s11:(List (Int)))=>[.fr (rT2 rInt rInt) (a.1),.fr rInt (a.2.1),.fr rInt (a.2.2),.fr rInt (row1),.fr rInt (column3),.fr rInt (most_steps5),.ol rInt tt_ (s11),.fr rInt (x8),.any]) (s9) (iv_rng2 (gT aj (di (a6 4 rfl) aj)) (fU (d8 (a6 0 rfl)) (bi (a6 4 rfl) aj))) (sbR (sbR (sbR (sbR (sbR (sbR (sbR (sbR (sbA .nil))))))))) (λ_=>(aH 8))
  (λs11 x10=>(b8 (dj (bG (ev_chainT aj (bi (mR (di (a6 7 rfl) (a6 3 rfl))) (mR (di (a6 8 rfl) (a6 4 rfl)))) (a6 5 rfl)))
  (da 6 rfl (bi (dR (a6 7 rfl) (d8 (a6 0 rfl))) (a6 8 rfl)) λfound13=>(b9 (found13) (sbR (sbR (sbR (sbR (sbR (sbR (sbR (sbR (sbA .nil)))))))))))
  (bE (b9 (s11) (sbR (sbR (sbR (sbR (sbR (sbR (sbR (sbR (sbA .nil))))))))))))))
  λs11=>(b9 (s11) (sbR (sbR (sbR (sbR (sbR (sbR (sbR (sbA (sbA .nil)))))))))))))
  λs9=>(jn 6 rfl)))))) (by unfold Pf.dv; first | rfl | (simp only [Pu.bs]; done) | (simp only [Pu.bs,nz9]; done))⟩
theorem cK:FnScope ["self","cell","around"] ["self","cell"] (aa bT):=⟨rfl,rfl,rfl,by decide +kernel,rfl,by decide +kernel,by decide +kernel⟩
theorem fq (D:bq K CW "homes_around" "Water.homes_around" bT ["self","cell"]) (B:Blt mg) (Cg:Glb mg) (kM:MK K CM) (kW:WK K CW) (G01:eC P w K mg base) (G82:ie P w K mg base):d3 P w K mg base CM CW:=by
 have nd:=cK.nd
 refine D.pL cK (λ_=>rfl) rfl λf cdv A outer s H E hr=>?_
 have hu:=ba hr
 exact ⟨_,(ae (au (i:=2) nd rfl (Or.inl rfl) (ao G82 (hr.mono (by decide)) rfl (a7 (ao G01 (hr.mono (by decide)) rfl (a7 (cf (K:=K) rfl (pv 0) rfl) a9)) (a7 (cf (K:=K) rfl (pv 0) rfl) (a7 (pv 1) a9)))))
   (ak (aB (cb (loc:=["other"]) (cap:=[("self",0)]) rfl ⟨rfl,by decide +kernel,by decide +kernel,rfl,⟨⟨rfl,rfl,by first | exact Or.inl rfl | exact Or.inr rfl⟩,trivial⟩,rfl⟩  (aP (K:=K) rfl (pv 2)) (λ_ _ _ _=>(ax (i:=0) (show (["other","self"]:List Str).Nodup by decide +kernel) rfl (Or.inl rfl))) (λ_ _ _ _=>(jK (aK op_notN (aW (aL (K:=K) rfl) (cf (K:=K) rfl (pv 1) rfl) (pv 0) (λ_ _=>rfl)) qy (aX _)))) (λ_ _ _ _=>(aW (aL (K:=K) rfl) (cf (K:=K) rfl (pv 1) rfl) (pv 0) (λ_ _=>rfl))))))),
  λa=>BV.cast (ay 2 ((EVL.cast (aQ (aq (aG (av (ev_wFloor kW (a6 0 rfl)))) (aq (ev_wReach kW (a6 0 rfl)) (av (a6 1 rfl))))) Pu.as3)).ev λaround2=>(ce (eM (bn sq_l (a6 2 rfl)) (by decide) (by decide) (aH 0) (λy4=>(bG (ev_notN (bJ sq_l (iI kW (a6 1 rfl)) (a6 0 rfl)) nn_int))) λy4=>(qV (bJ sq_l (iI kW (a6 1 rfl)) (a6 0 rfl)))))) (by unfold Pf.aR; first | rfl | (simp only [Pu.bs]; done) | (simp only [Pu.bs,nz9]; done))⟩
theorem dC:FnScope ["self","start","here"] ["self","start"] (aa cF):=⟨rfl,rfl,rfl,by decide +kernel,rfl,by decide +kernel,by decide +kernel⟩
theorem gH (D:bq K CM "living" "Meetings.living" cF ["self","start"]) (B:Blt mg) (Cg:Glb mg) (kM:MK K CM) (kW:WK K CW) :cI P w K mg base CM:=by
 have nd:=dC.nd
 refine D.pV dC (λ_=>rfl) rfl λf cdv A outer s H E hr=>?_
 have hu:=ba hr
 exact ⟨_,(ae (au (i:=2) nd rfl (Or.inl rfl) (pv 1))
   (ae (o6 S6 (pt_cmp (pc_dinO hu (pv 2) (cf (K:=K) rfl (pv 0) rfl)))
   (ak (au (i:=2) nd rfl (Or.inl rfl) (aW (bU (K:=K) rfl) (pe_dget hu (cf (K:=K) rfl (pv 0) rfl) (pv 2) (λ_ _=>rfl)) ag (λ_ _=>rfl)))))
   (ak (aB (pv 2))))),
  λa=>BV.cast (ay 2 (a6 1 rfl) λhere1=>(bv_whS (Γf:=λ(s2:(Option (Int)))=>[.fr (rM CM) (a.1),.fr (rOp rInt) (a.2),.fr (rOp rInt) (s2)]) 100000 (here1) (sbR (sbR (sbR .nil))) (λs2=>(et_b (ev_inDO (a6 2 rfl) (lO kM (a6 0 rfl)))))
  (λs2=>(b8 (ay 2 (d8 (ev_ixD (lO kM (a6 0 rfl)) (qV (a6 2 rfl)))) λhere5=>(b9 (here5) (sbR (sbR (sbR .nil)))))))
  λs2=>(bA (a6 2 rfl)))) (by unfold Pf.aA; first | rfl | (simp only [Pu.bs]; done) | (simp only [Pu.bs,nz9]; done))⟩
theorem ip:FnScope ["floor","cell","columns"] ["floor","cell"] (aa fJ):=⟨rfl,rfl,rfl,by decide +kernel,rfl,by decide +kernel,by decide +kernel⟩
theorem nV (D:az K mg "height_of" fJ ["floor","cell"]) (B:Blt mg) (Cg:Glb mg) (kM:MK K CM) (kW:WK K CW) (G01:eC P w K mg base):fM P w K mg base:=by
 have nd:=ip.nd
 refine D.pV ip (λ_=>rfl) rfl λf cdv A outer s H E hr=>?_
 have hu:=ba hr
 exact ⟨_,(ae (au (i:=2) nd rfl (Or.inl rfl) (aW (bU (K:=K) rfl) (ao G01 (hr.mono (by decide)) rfl (a7 (pv 0) a9)) ag (λ_ _=>rfl)))
   (ak (aB (aW (aL (K:=K) rfl) (aW (aL (K:=K) rfl) (pv 0) (am bM (pv 1) (pv 2)) (λ_ _=>rfl)) (am bh (pv 1) (pv 2)) (λ_ _=>rfl))))),
  λa=>BV.cast (ay 2 (d8 (aG (av (a6 0 rfl)))) λcolumns2=>(bA (bJ sq_l (bJ sq_l (a6 0 rfl) (gQ (a6 1 rfl) (a6 2 rfl))) (fx (a6 1 rfl) (a6 2 rfl))))) (by unfold Pf.dc; first | rfl | (simp only [Pu.bs]; done) | (simp only [Pu.bs,nz9]; done))⟩
theorem iq:FnScope ["floor","cell"] ["floor","cell"] (aa fL):=⟨rfl,rfl,rfl,by decide +kernel,rfl,by decide +kernel,by decide +kernel⟩
theorem nW (D:az K mg "order_key" fL ["floor","cell"]) (B:Blt mg) (Cg:Glb mg) (kM:MK K CM) (kW:WK K CW) (G09:fM P w K mg base):fN P w K mg base:=by
 have nd:=iq.nd
 refine D.pV iq (λ_=>rfl) rfl λf cdv A outer s H E hr=>?_
 have hu:=ba hr
 exact ⟨_,(ak (aB (jA (a7 (ao G09 (hr.mono (by decide)) rfl (a7 (pv 0) (a7 (pv 1) a9))) (a7 (pv 1) a9))))),
  λa=>BV.cast (bA (gR (aG (aq (a6 0 rfl) (av (a6 1 rfl)))) (a6 1 rfl))) (by unfold Pf.bH; first | rfl | (simp only [Pu.bs]; done) | (simp only [Pu.bs,nz9]; done))⟩
theorem fQ:FnScope ["floor","cells"] ["floor","cells"] (aa bI):=⟨rfl,rfl,rfl,by decide +kernel,rfl,by decide +kernel,by decide +kernel⟩
theorem kG {c9 P9:Addr} (D:dt K mg "earliest_of" bI ["floor","cells"] c9) (L:LamAt K mg base c9 P9 "earliest_of") (B:Blt mg) (Cg:Glb mg) (kM:MK K CM) (kW:WK K CW) (G10:fN P w K mg base):Has P w K mg base 7 "earliest_of" ["floor","cells"] (spV (aD (rL (rL rInt)) (aOne (rL rInt))) rInt λx=>Pf.bP x.1 x.2):=by
 have nd:=fQ.nd
 refine D.pV fQ (λ_=>rfl) rfl λf A outer s H E hr=>?_
 have hu:=ba hr
 exact ⟨_,(ak (aB (pe_minK (x:="cell") (cap:=[("floor",0)]) (pv 1) (hr.mono (by decide)) B.min L.bm L.hd L.mem L.nm rfl ⟨rfl,rfl,rfl,by decide +kernel,rfl,rfl,⟨⟨rfl,rfl,by first | exact Or.inl rfl | exact Or.inr rfl⟩,trivial⟩⟩ (λ_ _ _ _ _=>rfl) (λ_ _ _ _ _=>have hl:=(hr.mono (j:=5) (by decide)).in1.deeper _; (ao G10 (hl.mono (by decide)) rfl (a7 (pv 1) (a7 (pv 0) a9))))))),
  λa=>BV.cast (bA (ev_minK (x:="cell") (by decide) (a6 1 rfl) λc1=>(aG (aq (a6 1 rfl) (av (a6 0 rfl)))))) (by unfold Pf.bP; first | rfl | (simp only [Pu.bs]; done) | (simp only [Pu.bs,nz9]; done))⟩
theorem jc:FnScope ["floor"] ["floor"] (aa cR):=⟨rfl,rfl,rfl,by decide +kernel,rfl,by decide +kernel,by decide +kernel⟩
theorem qm {c9 P9:Addr} (D:dt K mg "in_order" cR ["floor"] c9) (L:LamAt K mg base c9 P9 "in_order") (B:Blt mg) (Cg:Glb mg) (kM:MK K CM) (kW:WK K CW) (G02:dJ P w K mg base) (G10:fN P w K mg base):Has P w K mg base 7 "in_order" ["floor"] (spL (aOne (rL (rL rInt))) rInt λx=>Pf.br x):=by
 have nd:=jc.nd
 refine D.pL jc (λ_=>rfl) rfl λf A outer s H E hr=>?_
 have hu:=ba hr
 exact ⟨_,(ak (aB (pe_sortKW (x:="cell") (cap:=[("floor",0)]) (ao G02 (hr.mono (by decide)) rfl (a7 (pv 0) a9)) (hr.mono (by decide)) B.sorted L.bm L.hd L.mem L.nm rfl ⟨rfl,rfl,rfl,by decide +kernel,rfl,rfl,⟨⟨rfl,rfl,by first | exact Or.inl rfl | exact Or.inr rfl⟩,trivial⟩⟩ (λ_ _ _ _ _=>rfl) (λ_ _ _ _ _=>have hl:=(hr.mono (j:=6) (by decide)).in1.in1.deeper _; (ao G10 (hl.mono (by decide)) rfl (a7 (pv 1) (a7 (pv 0) a9))))))),
  λa=>BV.cast (ce (rY (x:="cell") (by decide) ((aQ (av (a6 0 rfl)))).ev λc1=>(aG (aq (a6 1 rfl) (av (a6 0 rfl)))))) (by unfold Pf.br; first | rfl | (simp only [Pu.bs]; done) | (simp only [Pu.bs,nz9]; done))⟩
theorem gl:FnScope ["floor","height"] ["floor","height"] (aa fj):=⟨rfl,rfl,rfl,by decide +kernel,rfl,by decide +kernel,by decide +kernel⟩
theorem lj (D:az K mg "covered_at" fj ["floor","height"]) (B:Blt mg) (Cg:Glb mg) (kM:MK K CM) (kW:WK K CW) (G09:fM P w K mg base) (G11:kx P w K mg base):ig P w K mg base:=by
 have nd:=gl.nd
 refine D.pL gl (λ_=>rfl) rfl λf cdv A outer s H E hr=>?_
 have hu:=ba hr
 exact ⟨_,(ak (aB (cb (loc:=["cell"]) (cap:=[("floor",0),("height",1)]) rfl ⟨rfl,by decide +kernel,by decide +kernel,rfl,⟨⟨rfl,rfl,by first | exact Or.inl rfl | exact Or.inr rfl⟩,⟨⟨rfl,rfl,by first | exact Or.inl rfl | exact Or.inr rfl⟩,trivial⟩⟩,rfl⟩  (aP (K:=K) rfl (ao G11 (hr.mono (by decide)) rfl (a7 (pv 0) a9))) (λ_ _ _ _=>(ax (i:=0) (show (["cell","floor","height"]:List Str).Nodup by decide +kernel) rfl (Or.inl rfl))) (λ_ _ _ _=>(jK (aK op_le (ao G09 (hr.mono (by decide)) rfl (a7 (pv 1) (a7 (pv 0) a9))) (pv 2) (aX _)))) (λ_ _ _ _=>(pv 0))))),
  λa=>BV.cast (ce (eM (bn sq_l ((aQ (av (a6 0 rfl)))).ev) (by decide) (by decide) (aH 0) (λy1=>(bG (ev_le (aG (aq (a6 1 rfl) (av (a6 0 rfl)))) (a6 2 rfl)))) λy1=>(a6 0 rfl))) (by unfold Pf.cD; first | rfl | (simp only [Pu.bs]; done) | (simp only [Pu.bs,nz9]; done))⟩
theorem dD:FnScope ["self","cell"] ["self","cell"] (aa cH):=⟨rfl,rfl,rfl,by decide +kernel,rfl,by decide +kernel,by decide +kernel⟩
theorem gJ (D:bq K CW "start_now" "Water.start_now" cH ["self","cell"]) (B:Blt mg) (Cg:Glb mg) (kM:MK K CM) (kW:WK K CW) (G08:cI P w K mg base CM):dM P w K mg base CM CW:=by
 have nd:=dD.nd
 refine D.pV dD (λ_=>rfl) rfl λf cdv A outer s H E hr=>?_
 have hu:=ba hr
 exact ⟨_,(ak (aB (dZ G08 (cf (K:=K) rfl (pv 0) rfl) kM.c (hr.mono (by decide)) (a7 (aW (aL (K:=K) rfl) (cf (K:=K) rfl (pv 0) rfl) (pv 1) (λ_ _=>rfl)) a9)))),
  λa=>BV.cast (bA (mZ ob_m (ev_wMeet kW (a6 0 rfl)) (av (bJ sq_l (iI kW (a6 0 rfl)) (a6 1 rfl))))) (by unfold Pf.aC; first | rfl | (simp only [Pu.bs]; done) | (simp only [Pu.bs,nz9]; done))⟩
theorem jd:FnScope ["floor","reach","height","water"] ["floor","reach","height"] (aa gE):=⟨rfl,rfl,rfl,by decide +kernel,rfl,by decide +kernel,by decide +kernel⟩
theorem qo (D:az K mg "lakes_at" gE ["floor","reach","height"]) (B:Blt mg) (Cg:Glb mg) (kM:MK K CM) (kW:WK K CW) (G02:dJ P w K mg base) (G83:nS P w K mg base CM CW) (G84:ig P w K mg base) (G85:dM P w K mg base CM CW):kA P w K mg base:=by
 have nd:=jd.nd
 refine D.pL jd (λ_=>rfl) rfl λf cdv A outer s H E hr=>?_
 have hu:=ba hr
 exact ⟨_,(ae (au (i:=3) nd rfl (Or.inr rfl) (ao G83 (hr.mono (by decide)) rfl (a7 (pv 0) (a7 (pv 1) (a7 (ao G84 (hr.mono (by decide)) rfl (a7 (pv 0) (a7 (pv 2) a9))) a9)))))
   (ak (aB (cb (loc:=["cell"]) (cap:=[("water",3)]) rfl ⟨rfl,by decide +kernel,by decide +kernel,rfl,⟨⟨rfl,rfl,by first | exact Or.inl rfl | exact Or.inr rfl⟩,trivial⟩,rfl⟩  (aP (K:=K) rfl (ao G02 (hr.mono (by decide)) rfl (a7 (pv 0) a9))) (λ_ _ _ _=>(ax (i:=0) (show (["cell","water"]:List Str).Nodup by decide +kernel) rfl (Or.inl rfl))) (λ_ _ _ _=>bu) (λ_ _ _ _=>(dZ G85 (pv 1) kW.c (hr.mono (by decide)) (a7 (pv 0) a9))))))),
  λa=>BV.cast (ay 3 (EV.cast (aG (aq (a6 0 rfl) (aq (a6 1 rfl) (av ((aQ (aq (a6 0 rfl) (av (a6 2 rfl))))).ev)))) Pu.as3) λwater2=>(ce (bz (bn sq_l ((aQ (av (a6 0 rfl)))).ev) (by decide) (by decide) (aH 0) λy4=>(mZ ob_w (a6 1 rfl) (av (a6 0 rfl)))))) (by unfold Pf.cO; first | rfl | (simp only [Pu.bs]; done) | (simp only [Pu.bs,nz9]; done))⟩
theorem je:FnScope ["starts","signs","place","start"] ["starts"] (aa gF):=⟨rfl,rfl,rfl,by decide +kernel,rfl,by decide +kernel,by decide +kernel⟩
theorem qp (D:az K mg "signs_of" gF ["starts"]) (B:Blt mg) (Cg:Glb mg) (kM:MK K CM) (kW:WK K CW) :kB P w K mg base:=by
 have nd:=je.nd
 refine D.pV je (λ_=>rfl) rfl λf cdv A outer s H E hr=>?_
 have hu:=ba hr
 exact ⟨_,(ae (au (i:=1) nd rfl (Or.inl rfl) pe_dispE)
   (ae (ck S6 rfl (gO (K:=K) rfl rfl B.enumerate (a7 (pv 0) a9)) (fS (K:=K) (n:=2) rfl rfl (bF (ax (i:=2) nd rfl (Or.inl rfl)) (bF (ax (i:=3) nd rfl (Or.inl rfl)) fR)))
   (ak (ps_dputE (pv 1) (pv 3) (gK (aK op_lt (pv 2) (aw call_lenS (by rfl) B.len cw (a7 (pe_cst Cg.c_LETTERS rfl) a9)) (aX _)) (aW ix_str (pe_cst Cg.c_LETTERS rfl) (pv 2) (λ_ _=>rfl)) eE) rfl)))
   (ak (aB (pv 1))))),
  λa=>BV.cast (bv_newE 1 λsigns1=>(cy (Γf:=λ(s3:(List (Option Int × Str)))=>[.fr (rL rInt) (a),.oe (dOS (s3)),.any,.any]) (signs1) (jm sq_l (a6 0 rfl)) (sbR (sbR (sbA (sbA .nil)))) (λ_=>(fW 2 3))
  (λs3 x2=>(b8 (bv_putE 1 rfl (a6 3 rfl) (qY (bG (ev_lt (a6 2 rfl) (ev_lenS dQ))) (ev_ixS dQ (a6 2 rfl)) dQ) λsigns6=>(b9 (signs6) (sbR (sbR (sbA (sbA .nil))))))))
  λs3=>(bv_retE 1 rfl))) (by unfold Pf.fG; first | rfl | (simp only [Pu.bs]; done) | (simp only [Pu.bs,nz9]; done))⟩
theorem jf:FnScope ["size","heights","columns"] ["size","heights"] (aa gG):=⟨rfl,rfl,rfl,by decide +kernel,rfl,by decide +kernel,by decide +kernel⟩
theorem qq (D:az K mg "floor_of" gG ["size","heights"]) (B:Blt mg) (Cg:Glb mg) (kM:MK K CM) (kW:WK K CW) :kC P w K mg base:=by
 have nd:=jf.nd
 refine D.pL jf (λ_=>rfl) rfl λf cdv A outer s H E hr=>?_
 have hu:=ba hr
 exact ⟨_,(ae (au (i:=2) nd rfl (Or.inr rfl) (aW (bU (K:=K) rfl) (pv 0) ag (λ_ _=>rfl)))
   (ak (aB (cb (loc:=["row"]) (cap:=[("heights",1),("columns",2)]) rfl ⟨rfl,by decide +kernel,by decide +kernel,rfl,⟨⟨rfl,rfl,by first | exact Or.inl rfl | exact Or.inr rfl⟩,⟨⟨rfl,rfl,by first | exact Or.inl rfl | exact Or.inr rfl⟩,trivial⟩⟩,rfl⟩  (dS rfl B.range (a7 (aW (bU (K:=K) rfl) (pv 0) ag (λ_ _=>rfl)) a9)) (λ_ _ _ _=>(ax (i:=0) (show (["row","heights","columns"]:List Str).Nodup by decide +kernel) rfl (Or.inl rfl))) (λ_ _ _ _=>bu) (λ_ _ _ _=>(dg (dX (K:=K) rfl) (pv 1) (cp (am d4 (pv 0) (pv 2))) (cp (am d4 (am bg (pv 0) ag) (pv 2))))))))),
  λa=>BV.cast (ay 2 (d8 (a6 0 rfl)) λcolumns1=>(ce (bz (gU (jl (a6 0 rfl))) (by decide) (by decide) (aH 0) λy2=>((fT sq_l (a6 1 rfl) (cx (dR (a6 0 rfl) (a6 2 rfl))) (cx (dR (bi (a6 0 rfl) aj) (a6 2 rfl))))).ev))) (by unfold Pf.cP; first | rfl | (simp only [Pu.bs]; done) | (simp only [Pu.bs,nz9]; done))⟩
theorem kH:FnScope ["floor","reach","height","lakes","signs"] ["floor","reach","height"] (aa iP):=⟨rfl,rfl,rfl,by decide +kernel,rfl,by decide +kernel,by decide +kernel⟩
theorem sA (D:az K mg "picture" iP ["floor","reach","height"]) (B:Blt mg) (Cg:Glb mg) (kM:MK K CM) (kW:WK K CW) (G01:eC P w K mg base) (G11:kx P w K mg base) (G86:kA P w K mg base) (G87:kB P w K mg base) (G88:kC P w K mg base):m7 P w K mg base:=by
 have nd:=kH.nd
 refine D.pL kH (λ_=>rfl) rfl λf cdv A outer s H E hr=>?_
 have hu:=ba hr
 exact ⟨_,(ae (au (i:=3) nd rfl (Or.inr rfl) (ao G86 (hr.mono (by decide)) rfl (a7 (pv 0) (a7 (pv 1) (a7 (pv 2) a9)))))
   (ae (au (i:=4) nd rfl (Or.inr rfl) (ao G87 (hr.mono (by decide)) rfl (a7 (cb (loc:=["cell"]) (cap:=[("lakes",3)]) rfl ⟨rfl,by decide +kernel,by decide +kernel,rfl,⟨⟨rfl,rfl,by first | exact Or.inl rfl | exact Or.inr rfl⟩,trivial⟩,rfl⟩  (aP (K:=K) rfl (ao G11 (hr.mono (by decide)) rfl (a7 (pv 0) a9))) (λ_ _ _ _=>(ax (i:=0) (show (["cell","lakes"]:List Str).Nodup by decide +kernel) rfl (Or.inl rfl))) (λ_ _ _ _=>(jK (aK fk (aW (aL (K:=K) rfl) (pv 1) (pv 0) (λ_ _=>rfl)) (pv 0) (aX _)))) (λ_ _ _ _=>(pv 0))) a9)))
   (ak (aB (cb (loc:=["row"]) (cap:=[]) rfl ⟨rfl,by decide +kernel,by decide +kernel,rfl,trivial,rfl⟩  (aP (K:=K) rfl (ao G88 (hr.mono (by decide)) rfl (a7 (ao G01 (hr.mono (by decide)) rfl (a7 (pv 0) a9)) (a7 (cb (loc:=["start"]) (cap:=[("signs",4)]) rfl ⟨rfl,by decide +kernel,by decide +kernel,rfl,⟨⟨rfl,rfl,by first | exact Or.inl rfl | exact Or.inr rfl⟩,trivial⟩,rfl⟩  (aP (K:=K) rfl (pv 3)) (λ_ _ _ _=>(ax (i:=0) (show (["start","signs"]:List Str).Nodup by decide +kernel) rfl (Or.inl rfl))) (λ_ _ _ _=>bu) (λ_ _ _ _=>(pe_dgetE (pv 1) (pv 0) (λ_ _=>rfl)))) a9)))) (λ_ _ _ _=>(ax (i:=0) (show (["row"]:List Str).Nodup by decide +kernel) rfl (Or.inl rfl))) (λ_ _ _ _=>bu) (λ_ _ _ _=>(fv (K:=K) rfl PySem.F.plainAttrs_str PySem.F.slot_str_join PySem.F.type_str_join (mt_join (K:=K) rfl) eE (a7 (pv 0) a9)))))))),
  λa=>BV.cast (ay 3 ((aQ (aq (a6 0 rfl) (aq (a6 1 rfl) (av (a6 2 rfl)))))).ev λlakes1=>(ay 4 (aG (av ((eM (bn sq_l ((aQ (av (a6 0 rfl)))).ev) (by decide) (by decide) (aH 0) (λy3=>(bG (d5 sc_oi (bJ sq_l (a6 1 rfl) (a6 0 rfl)) (a6 0 rfl)))) λy3=>(a6 0 rfl))).ev)) λsigns7=>(ce (bz (bn sq_l ((EVL.cast (aQ (aq (aG (av (a6 0 rfl))) (av ((bz (bn sq_l (a6 3 rfl)) (by decide) (by decide) (aH 0) λy9=>(ev_ixE (a6 1 rfl) (a6 0 rfl)))).ev))) Pu.as2)).ev) (by decide) (by decide) (aH 0) λy12=>(ev_join dQ (a6 0 rfl)))))) (by unfold Pf.eZ; first | rfl | (simp only [Pu.bs]; done) | (simp only [Pu.bs,nz9]; done))⟩
theorem qr:FnScope ["_law_found","_law_signs","_law_floor_here","_law_columns","_law_at","_law_row"] ["_law_found","_law_signs","_law_floor_here"] (aa nQ):=⟨rfl,rfl,rfl,by decide +kernel,rfl,by decide +kernel,by decide +kernel⟩
theorem ok_right (D:az K mg "_law_right" nQ ["_law_found","_law_signs","_law_floor_here"]) (B:Blt mg) (Cg:Glb mg) (kM:MK K CM) (kW:WK K CW) :H_right P w K mg base:=by
 have nd:=qr.nd
 refine D.pV qr (λ_=>rfl) rfl λf cdv A outer s H E hr=>?_
 have hu:=ba hr
 exact ⟨_,(ae (au (i:=3) nd rfl (Or.inl rfl) (aw (bc (K:=K) rfl) (by rfl) B.len cw (a7 (aW (aL (K:=K) rfl) (pv 2) ag (λ_ _=>rfl)) a9)))
   (ae (de (PW.pt (pw_or (qB (qz (aw (lI (K:=K) (T:="list") rfl) (by rfl) B.isinstance gi (a7 (pv 0) (a7 (pe_bltn (v:=.ty "list") rfl B.list_ mI rfl) a9))))) (qA (aK op_ne (aw (bc (K:=K) rfl) (by rfl) B.len cw (a7 (pv 0) a9)) (aw (bc (K:=K) rfl) (by rfl) B.len cw (a7 (pv 2) a9)) (aX _)))))
   (ak (aB pe_bl))
   bC)
   (ae (ck S6 rfl (gO (K:=K) rfl rfl B.enumerate (a7 (pv 0) a9)) (fS (K:=K) (n:=2) rfl rfl (bF (ax (i:=4) nd rfl (Or.inl rfl)) (bF (ax (i:=5) nd rfl (Or.inl rfl)) fR)))
   (ak (de (PW.pt (pw_or (qB (qz (aw (lI (K:=K) (T:="str") rfl) (by rfl) B.isinstance gi (a7 (pv 5) (a7 (pe_bltn (v:=.ty "str") rfl Cg.str_ bo_str rfl) a9))))) (qA (aK op_ne (pv 5) (dg sl_str (pv 1) (cp (am d4 (pv 4) (pv 3))) (cp (am d4 (am bg (pv 4) ag) (pv 3)))) (aX _)))))
   (ak (aB pe_bl))
   bC)))
   (ak (aB pe_bl))))),
  λa=>BV.cast (ay 3 (cN sq_l (bJ sq_l (a6 2 rfl) aj)) λcolumns2=>(dj (et_orT (qX (et_b (ev_isi (a6 0 rfl) isi_ll))) (bG (mN fm (cN sq_l (a6 0 rfl)) (cN sq_l (a6 2 rfl)))))
  (dE (bA ev_bl))
  (bE (bv_forC (Γf:=λ(s5:Unit)=>[.fr (rL rStr) (a.1),.fr rStr (a.2.1),.fr (rL (rL rInt)) (a.2.2),.fr rInt (columns2),.any,.any]) (rf:=finV c6) (e:=(λx=>x)) (()) (jm sq_l (a6 0 rfl)) (sbR (sbR (sbR (sbR (sbA (sbA .nil)))))) (λ_=>(fW 4 5))
  (λs5 x4=>(b8 (dj (et_or (qX (et_b (ev_isi (a6 5 rfl) isi_ss))) (bG (mN sc_ss (a6 5 rfl) (ev_cutS (a6 1 rfl) (cx (dR (a6 4 rfl) (a6 3 rfl))) (cx (dR (bi (a6 4 rfl) aj) (a6 3 rfl)))))))
  (dE (bv_retC (bA ev_bl)))
  (bE (oM (()) (sbR (sbR (sbR (sbR (sbA (sbA .nil)))))))))))
  rfV (λ_ _ _ h=>h) λs5=>(bA ev_bl))))) (by unfold Pf.dA; first | rfl | (simp only [Pu.bs]; done) | (simp only [Pu.bs,nz9]; done))⟩
theorem qt:FnScope ["_law_heights_here"] ["_law_heights_here"] (aa nR):=⟨rfl,rfl,rfl,by decide +kernel,rfl,by decide +kernel,by decide +kernel⟩
theorem ok_order (D:az K mg "_law_order" nR ["_law_heights_here"]) (B:Blt mg) (Cg:Glb mg) (kM:MK K CM) (kW:WK K CW) :H_order P w K mg base:=by
 have nd:=qt.nd
 refine D.pL qt (λ_=>rfl) rfl λf cdv A outer s H E hr=>?_
 have hu:=ba hr
 exact ⟨_,(ak (aB (cb (loc:=["_law_high","_law_cell"]) (cap:=[]) rfl ⟨rfl,by decide +kernel,by decide +kernel,rfl,trivial,rfl⟩  (aP (K:=K) rfl (aw (pP (K:=K) rfl) (by rfl) B.sorted iC (a7 (cb (loc:=["_law_cell","_law_high"]) (cap:=[]) rfl ⟨rfl,by decide +kernel,by decide +kernel,rfl,trivial,rfl⟩  (gO (K:=K) rfl rfl B.enumerate (a7 (pv 0) a9)) (λ_ _ _ _=>(fS (K:=K) (n:=2) rfl rfl (bF (ax (i:=0) (show (["_law_cell","_law_high"]:List Str).Nodup by decide +kernel) rfl (Or.inl rfl)) (bF (ax (i:=1) (show (["_law_cell","_law_high"]:List Str).Nodup by decide +kernel) rfl (Or.inl rfl)) fR)))) (λ_ _ _ _=>bu) (λ_ _ _ _=>(jA (a7 (pv 1) (a7 (pv 0) a9))))) a9))) (λ_ _ _ _=>(fS (K:=K) (n:=2) rfl rfl (bF (ax (i:=0) (show (["_law_high","_law_cell"]:List Str).Nodup by decide +kernel) rfl (Or.inl rfl)) (bF (ax (i:=1) (show (["_law_high","_law_cell"]:List Str).Nodup by decide +kernel) rfl (Or.inl rfl)) fR)))) (λ_ _ _ _=>bu) (λ_ _ _ _=>(pv 1))))),
  λa=>BV.cast (ce (bz (bn sq_l ((rZ ((bz (jm sq_l (a6 0 rfl)) (by decide) (by decide) (fW 0 1) λy1=>(gR (a6 1 rfl) (a6 0 rfl)))).ev)).ev) (by decide) (by decide) (fW 0 1) λy3=>(a6 1 rfl))) (by unfold Pf.bQ; first | rfl | (simp only [Pu.bs]; done) | (simp only [Pu.bs,nz9]; done))⟩
theorem kI:FnScope ["_law_heights_here","_law_beside","_law_high","_law_signs","_law_many","_law_cell","_law_letter","_law_left","_law_near"] ["_law_heights_here","_law_beside","_law_high"] (aa iQ):=⟨rfl,rfl,rfl,by decide +kernel,rfl,by decide +kernel,by decide +kernel⟩
theorem sB (D:az K mg "_law_letters" iQ ["_law_heights_here","_law_beside","_law_high"]) (B:Blt mg) (Cg:Glb mg) (kM:MK K CM) (kW:WK K CW) (G89:H_order P w K mg base):m8 P w K mg base:=by
 have nd:=kI.nd
 refine D.pV kI (λ_=>rfl) rfl λf cdv A outer s H E hr=>?_
 have hu:=ba hr
 exact ⟨_,(ae (eK (loc:=["_law_height_here"]) (cap:=[]) (i:=3) rfl ⟨rfl,by decide +kernel,by decide +kernel,rfl,trivial,rfl⟩ nd rfl (Or.inl rfl) (aP (K:=K) rfl (pv 0)) (λ_ _ _ _=>(ax (i:=0) (show (["_law_height_here"]:List Str).Nodup by decide +kernel) rfl (Or.inl rfl))) (λ_ _ _ _=>bu) (λ_ _ _ _=>eE))
   (ae (au (i:=4) nd rfl (Or.inl rfl) ag)
   (ae (ck S6 rfl (aP (K:=K) rfl (ao G89 (hr.mono (by decide)) rfl (a7 (pv 0) a9))) (ax (i:=5) nd rfl (Or.inl rfl))
   (ak (de (PW.pt (mi (aK op_le (aW (aL (K:=K) rfl) (pv 0) (pv 5) (λ_ _=>rfl)) (pv 2) (aX _)) (mf (aK fk (aW (aL (K:=K) rfl) (pv 3) (pv 5) (λ_ _=>rfl)) eE (aX _)))))
   (ae (au (i:=6) nd rfl (Or.inl rfl) (aW ix_str eE (aw (d9 rfl) (by rfl) B.min gr (a7 (pv 4) (a7 ag a9))) (λ_ _=>rfl)))
   (ae (au (i:=4) nd rfl (Or.inl rfl) (am bg (pv 4) ag))
   (ae (mj (pv 6) (qC (pv 3) (pv 5) set_list))
   (ae (au (i:=7) nd rfl (Or.inl rfl) (cn (a7 (pv 5) a9)))
   (ak (o6 S6 (aK (op_neDK (K:=K) rfl hr.units) (pv 7) (cn a9) (aX _))
   (ak (ck S6 rfl (aP (K:=K) rfl (aW (aL (K:=K) rfl) (pv 1) (pe_bm0K (K:=K) rfl P5 PySem.F.slot_list_pop PySem.F.type_list_pop mt_pop (pv 7)) (λ_ _=>rfl))) (ax (i:=8) nd rfl (Or.inl rfl))
   (ak (de (PW.pt (mi (aK op_le (aW (aL (K:=K) rfl) (pv 0) (pv 8) (λ_ _=>rfl)) (pv 2) (aX _)) (mf (aK fk (aW (aL (K:=K) rfl) (pv 3) (pv 8) (λ_ _=>rfl)) eE (aX _)))))
   (ae (mj (pv 6) (qC (pv 3) (pv 8) set_list))
   (ak (eG (fv (K:=K) rfl P5 N0 N1 cL (pv 7) (a7 (pv 8) a9)))))
   bC))))))))))
   bC)))
   (ak (aB (fv (K:=K) rfl PySem.F.plainAttrs_str PySem.F.slot_str_join PySem.F.type_str_join (mt_join (K:=K) rfl) eE (a7 (pv 3) a9))))))),
  λa=>BV.cast (cT 3 (bz (bn sq_l (a6 0 rfl)) (by decide) (by decide) (aH 0) λy1=>dQ) λsigns2=>(ay 4 aj λmany4=>(cy (Γf:=λ(s6:(List (Str)) × Int)=>[.fr (rL rInt) (a.1),.fr (rL (rL rInt)) (a.2.1),.fr rInt (a.2.2),.ol rStr tt_ (s6.1),.fr rInt (s6.2),.any,.any,.any,.any]) ((signs2,many4)) (bn sq_l ((aQ (av (a6 0 rfl)))).ev) (sbR (sbR (sbR (sbR (sbR (sbA (sbA (sbA (sbA .nil))))))))) (λ_=>(aH 5))
  (λs6 x5=>(b8 (dj (mS 3 rfl (qW (bG (ev_le (bJ sq_l (a6 0 rfl) (a6 5 rfl)) (a6 2 rfl))) (bG (d5 sc_ss (bJ sq_l (a6 3 rfl) (a6 5 rfl)) dQ))))
  (fy (ay 6 (ev_ixS dQ (fU (a6 4 rfl) aj)) λletter10=>(fy (ay 4 (bi (a6 4 rfl) aj) λmany12=>(fy (oN 3 rfl (a6 5 rfl) (a6 6 rfl) λsigns13=>(fy (cT 7 (bL (bx (a6 5 rfl) bK)) λleft16=>(bv_whS (Γf:=λ(s17:(List (Str)) × (List (Int)))=>[.fr (rL rInt) (a.1),.fr (rL (rL rInt)) (a.2.1),.fr rInt (a.2.2),.ol rStr tt_ (s17.1),.fr rInt (many12),.fr rInt (x5),.fr rStr (letter10),.ol rInt tt_ (s17.2),.any]) 100000 ((signs13,left16)) (sbR (sbR (sbR (sbR (sbR (sbR (sbR (sbR (sbA .nil))))))))) (λs17=>(mS 7 rfl (bG (ev_neD (dL dInt) (a6 7 rfl) ((bL (r:=rInt) bK)).ev))))
  (λs17=>(b8 (bv_forSp (Γf:=λ(s19:(List (Str)) × (List (Int)))=>[.fr (rL rInt) (a.1),.fr (rL (rL rInt)) (a.2.1),.fr rInt (a.2.2),.ol rStr tt_ (s19.1),.fr rInt (many12),.fr rInt (x5),.fr rStr (letter10),.ol rInt tt_ (s19.2),.any]) (λleft29=>(s17.1,left29)) 1 7 rfl rfl (λleft29=>(sbR (sbR (sbR (sbR (sbR (sbR (sbR (sbR (sbA .nil)))))))))) (λ_=>(aH 8))
  (λs19 x18=>(b8 (dj (mS 3 rfl (qW (bG (ev_le (bJ sq_l (a6 0 rfl) (a6 8 rfl)) (a6 2 rfl))) (bG (d5 sc_ss (bJ sq_l (a6 3 rfl) (a6 8 rfl)) dQ))))
  (fy (oN 3 rfl (a6 8 rfl) (a6 6 rfl) λsigns23=>(da 7 rfl (a6 8 rfl) λleft26=>(b9 ((signs23,left26)) (sbR (sbR (sbR (sbR (sbR (sbR (sbR (sbR (sbA .nil)))))))))))))
  (bE (b9 ((s19.1,s19.2)) (sbR (sbR (sbR (sbR (sbR (sbR (sbR (sbR (sbA .nil))))))))))))))
  λs19=>(b9 ((s19.1,s19.2)) (sbR (sbR (sbR (sbR (sbR (sbR (sbR (sbR (sbA .nil)))))))))))))
  λs17=>(b9 ((s17.1,many12)) (sbR (sbR (sbR (sbR (sbR (sbA (sbA (sbA (sbA .nil)))))))))))))))))))
  (bE (b9 ((s6.1,s6.2)) (sbR (sbR (sbR (sbR (sbR (sbA (sbA (sbA (sbA .nil))))))))))))))
  λs6=>(bA (ev_bor 3 rfl flat_str (ev_join dQ (a6 3 rfl))))))) (by unfold Pf.ci; first | rfl | (simp only [Pu.bs]; done) | (simp only [Pu.bs,nz9]; done))⟩
theorem sc_law:FnScope ["_law_script","_law_floor_here","_law_reach_here","_law_heights_here","_law_beside","_law_handed","_law_asked","_law_first","_law_some","_law_high","_law_found"] ["_law_script"] (aa ic):=⟨rfl,rfl,rfl,by decide +kernel,rfl,by decide +kernel,by decide +kernel⟩
theorem ok_law {f:Addr} {fd:C9} (F:Fun K "law" "law" ic f fd) (B:Blt mg) (Cg:Glb mg) (kM:MK K CM) (kW:WK K CW) (G00:eB P w K mg base) (G90:ja P w K mg base) (G91:H_reach P w K mg base) (G92:lZ P w K mg base) (G93:ku P w K mg base) (G65:m7 P w K mg base) (G66:H_right P w K mg base) (G67:m8 P w K mg base) (hl:∀ ns:List Int,ns.length<=63->Pf.i3 ns=some true):FnOk P w K mg base CX0 14 f fd ["_law_script"] (rj K):=by
 have nd:=sc_law.nd
 refine F.law (fl:=Pf.i3) sc_law rfl hl λf cdv A outer s H E hr=>?_
 have hu:=ba hr
 exact ⟨_,(ae (au (i:=1) nd rfl (Or.inl rfl) (ao G90 (hr.mono (by decide)) rfl (a7 (pv 0) a9)))
   (ae (au (i:=2) nd rfl (Or.inl rfl) (ao G91 (hr.mono (by decide)) rfl (a7 (pv 0) (a7 ag a9))))
   (ae (au (i:=3) nd rfl (Or.inl rfl) (ao G92 (hr.mono (by decide)) rfl (a7 (pv 1) a9)))
   (ae (au (i:=4) nd rfl (Or.inl rfl) (ao G93 (hr.mono (by decide)) rfl (a7 (pv 1) (a7 (pv 2) a9))))
   (ae (eK (loc:=["_law_row"]) (cap:=[]) (i:=5) rfl ⟨rfl,by decide +kernel,by decide +kernel,rfl,trivial,rfl⟩ nd rfl (Or.inl rfl) (aP (K:=K) rfl (pv 1)) (λ_ _ _ _=>(ax (i:=0) (show (["_law_row"]:List Str).Nodup by decide +kernel) rfl (Or.inl rfl))) (λ_ _ _ _=>bu) (λ_ _ _ _=>(iz (qQ (K:=K) rfl) (by rfl) B.list_ mI (a7 (pv 0) a9))))
   (ae (au (i:=6) nd rfl (Or.inl rfl) (aw (rU rfl) (by rfl) B.sorted iC (a7 (iz (call_setW (K:=K) rfl rfl) (by rfl) B.set_ bo_set (a7 (pv 3) a9)) a9)))
   (ae (au (i:=7) nd rfl (Or.inl rfl) (am bh (ao G00 (hr.mono (by decide)) rfl (a7 (pv 0) (a7 ag a9))) (aw (bc (K:=K) rfl) (by rfl) B.len cw (a7 (pv 6) a9))))
   (ae (au (i:=8) nd rfl (Or.inl rfl) (cn (a7 ag (a7 (am gm ag ag) a9))))
   (ae (ck S6 rfl (aP (K:=K) rfl (dg (dX (K:=K) rfl) (am mO (dg (dX (K:=K) rfl) (pv 6) (cp (pv 7)) ml) (dg (dX (K:=K) rfl) (pv 6) ml (cp (pv 7)))) ml (cp ag))) (ax (i:=9) nd rfl (Or.inl rfl))
   (ak (au (i:=8) nd rfl (Or.inl rfl) (am mO (pv 8) (cn (a7 (pv 9) (a7 (aw (dU rfl) (by rfl) B.max jM (a7 ag (a7 (am df (pv 9) ag) a9))) (a7 (aw (d9 rfl) (by rfl) B.min gr (a7 (am gm ag ag) (a7 (am bg (pv 9) ag) a9))) a9))))))))
   (ae (ck S6 rfl (aP (K:=K) rfl (pv 8)) (ax (i:=9) nd rfl (Or.inl rfl))
   (ae (au (i:=10) nd rfl (Or.inl rfl) (ao G65 (hr.mono (by decide)) rfl (a7 (pv 5) (a7 (pv 2) (a7 (pv 9) a9)))))
   (ae (de (qB (qz (ao G66 (hr.mono (by decide)) rfl (a7 (pv 10) (a7 (ao G67 (hr.mono (by decide)) rfl (a7 (pv 3) (a7 (pv 4) (a7 (pv 9) a9)))) (a7 (pv 1) a9))))))
   (ak (aB pe_bl))
   bC)
   (ak (eG (fv (K:=K) rfl P5 N0 N1 cL (pv 10) (a7 eE a9)))))))
   (ae (au (i:=9) nd rfl (Or.inl rfl) (aW (aL (K:=K) rfl) (pv 8) ag (λ_ _=>rfl)))
   (ae (au (i:=10) nd rfl (Or.inl rfl) (ao G65 (hr.mono (by decide)) rfl (a7 (pv 5) (a7 (pv 2) (a7 (pv 9) a9)))))
   (ak (aB (pe_and (ao G66 (hr.mono (by decide)) rfl (a7 (pv 10) (a7 (ao G67 (hr.mono (by decide)) rfl (a7 (pv 3) (a7 (pv 4) (a7 (pv 9) a9)))) (a7 (pv 1) a9)))) (pe_one (pe_cmpR (op_eqDK (K:=K) rfl hr.units) (pv 5) (pv 1) (aX _)))))))))))))))))),
  λa=>BV.cast (ay 1 ((aQ (av (a6 0 rfl)))).ev λfloor_here1=>(ay 2 (aG (aq (a6 0 rfl) (av aj))) λreach_here3=>(ay 3 ((aQ (av (a6 1 rfl)))).ev λheights_here5=>(ay 4 ((aQ (aq (a6 1 rfl) (av (a6 2 rfl))))).ev λbeside7=>(ay 5 ((bz (bn sq_l (a6 1 rfl)) (by decide) (by decide) (aH 0) λy9=>((evl_list sq_l (a6 0 rfl))).ev)).ev λhanded10=>(ay 6 ((evl_sortW (ev_setW (a6 3 rfl)))).ev λasked12=>(ay 7 (fx (aG (aq (a6 0 rfl) (av aj))) (cN sq_l (a6 6 rfl))) λfirst15=>(ay 8 ((bL (bx aj (bx (eN (v:=1000000000000000000) aj aj (by decide)) bK)))).ev λsome17=>(cy (Γf:=λ(s20:(List (Int)))=>[.fr (rScr K) (a),.fr (rL (rL rInt)) (floor_here1),.fr rInt (reach_here3),.fr (rL rInt) (heights_here5),.fr (rL (rL rInt)) (beside7),.fr (rL (rL rInt)) (handed10),.fr (rL rInt) (asked12),.fr rInt (first15),.fr (rL rInt) (s20),.any,.any]) (some17) (bn sq_l ((fT sq_l ((mP ((fT sq_l (a6 6 rfl) (cx (a6 7 rfl)) mQ)).ev ((fT sq_l (a6 6 rfl) mQ (cx (a6 7 rfl)))).ev)).ev mQ (cx aj))).ev) (sbR (sbR (sbR (sbR (sbR (sbR (sbR (sbR (sbR (sbA (sbA .nil))))))))))) (λ_=>(aH 9))
  (λs20 x19=>(b8 (ay 8 ((mP (a6 8 rfl) ((bL (bx (a6 9 rfl) (bx (gT aj (di (a6 9 rfl) aj)) (bx (fU (eN (v:=1000000000000000000) aj aj (by decide)) (bi (a6 9 rfl) aj)) bK))))).ev)).ev λsome21=>(b9 (some21) (sbR (sbR (sbR (sbR (sbR (sbR (sbR (sbR (sbR (sbA (sbA .nil)))))))))))))))
  λs20=>(bv_forC (Γf:=λ(s24:Unit)=>[.fr (rScr K) (a),.fr (rL (rL rInt)) (floor_here1),.fr rInt (reach_here3),.fr (rL rInt) (heights_here5),.fr (rL (rL rInt)) (beside7),.fr (rL (rL rInt)) (handed10),.fr (rL rInt) (asked12),.fr rInt (first15),.fr (rL rInt) (s20),.any,.any]) (rf:=finV c6) (e:=(λx=>x)) (()) (bn sq_l (a6 8 rfl)) (sbR (sbR (sbR (sbR (sbR (sbR (sbR (sbR (sbR (sbA (sbA .nil))))))))))) (λ_=>(aH 9))
  (λs24 x23=>(cT 10 (aQ (aq (a6 5 rfl) (aq (a6 2 rfl) (av (a6 9 rfl))))) λfound25=>(dj (mS 10 rfl (qX (et_b (EV.cast (aG (aq (a6 10 rfl) (aq (aG (aq (a6 3 rfl) (aq (a6 4 rfl) (av (a6 9 rfl))))) (av (a6 1 rfl))))) Pu.as3))))
  (dE (bv_retC (bA ev_bl)))
  (bE (b8 (da 10 rfl dQ λfound29=>(oM (()) (sbR (sbR (sbR (sbR (sbR (sbR (sbR (sbR (sbR (sbA (sbA .nil))))))))))))))))))
  rfV (λ_ _ _ h=>h) λs24=>(ay 9 (bJ sq_l (a6 8 rfl) aj) λhigh32=>(cT 10 (aQ (aq (a6 5 rfl) (aq (a6 2 rfl) (av (a6 9 rfl))))) λfound34=>(bA (ev_bor 10 rfl flat_bool (ev_and (EV.cast (aG (aq (a6 10 rfl) (aq (aG (aq (a6 3 rfl) (aq (a6 4 rfl) (av (a6 9 rfl))))) (av (a6 1 rfl))))) Pu.as3) (ev_eqD (dL (dL dInt)) (a6 5 rfl) (a6 1 rfl))))))))))))))))) (by unfold Pf.i3; first | (simp only [Pu.bs]; done) | (simp only [Pu.bs,nz9]; done) | (simp only [Pu.bs,nz9]; rfl))⟩
end
open Fl Pu Gr
noncomputable def lam (p:Nat):Nat:=if p<26 then 97+p else 43
theorem lam_ne (p:Nat):sg (lam p)≠sg 35:=λz=>by
 have:=sg_inj z
 unfold lam at this
 split at this <;> omega
theorem ir:("#":Str)=sg 35:=by decide +kernel
theorem plus_eq:("+":Str)=sg 43:=by decide +kernel
theorem at_abc {p:Nat} (h:p<26):Pu.atS ("abcdefghijklmnopqrstuvwxyz":Str) (p:Int)=some (sg (97+p)):=by
 have:∀ q:Fin 26,Pu.atS ("abcdefghijklmnopqrstuvwxyz":Str) (q.val:Int)=some (sg (97+q.val)):=by decide +kernel
 exact this ⟨p,h⟩
theorem at_abd {p:Nat} (h:p<27):Pu.atS ("abcdefghijklmnopqrstuvwxyz+":Str) (p:Int)=some (sg (lam p)):=by
 have:∀ q:Fin 27,Pu.atS ("abcdefghijklmnopqrstuvwxyz+":Str) (q.val:Int)=some (sg (lam q.val)):=by decide +kernel
 exact this ⟨p,h⟩
theorem at_lam (p:Nat):Pu.atS ("abcdefghijklmnopqrstuvwxyz+":Str) (Pu.mn (p:Int) 26)=some (sg (lam p)):=by
 unfold Pu.mn
 by_cases h:p<27
 ·have e:(if (26:Int)<(p:Int) then (26:Int) else (p:Int))=(p:Int):=if_neg (by omega)
  rw [e]; exact at_abd h
 ·have e:(if (26:Int)<(p:Int) then (26:Int) else (p:Int))=((26:Nat):Int):=if_pos (by omega)
  rw [e,at_abd (by decide)]
  unfold lam
  rw [if_neg (by decide),if_neg (by omega)]
section
variable {m c:Nat} {reach:Int} {os:List Nat} {hs:List Int} {bes:List (List Int)} {k:Nat} {H:Nat->Int} {high:Int}
theorem rch_iff (hk:∀ x,x<m * c->(rk os x<k↔H x<=high)) {x y:Nat} (hx:x<m * c):Rch (λa b=>b∈nbL m c reach a) (λa=>decide (H a<=high)=true) x y↔Rch (Nb m c reach) (Lv (m * c) (rk os) k) x y:=by
 constructor
 ·intro h
  have:y<m * c/\Rch (Nb m c reach) (Lv (m * c) (rk os) k) x y:=by
   induction h with
   | here=>exact ⟨hx,.here⟩
   | on _ h2 h3 ih =>
    have hz:=(jk.mp h2).1
    exact ⟨hz,.on ih.2 ((nK ih.1).mpr h2) ⟨hz,(hk _ hz).mpr (of_decide_eq_true h3)⟩⟩
  exact this.2
 ·intro h
  induction h with
  | here=>exact .here
  | on _ h2 h3 ih=>exact .on ih ((nK h2.1).mp h2) (decide_eq_true ((hk _ h3.1).mp h3.2))
def Rt (m c:Nat) (reach:Int) (os:List Nat) (k x:Nat):Prop:=Fst (Nb m c reach) (m * c) (rk os) k x x
open Classical in
noncomputable def cnt (m c:Nat) (reach:Int) (os:List Nat) (k i:Nat):Nat:=((os.take i).filter λx=>decide (Rt m c reach os k x)).length
noncomputable def SgOk (m c:Nat) (reach:Int) (os:List Nat) (k i:Nat) (S:List Str):Prop :=
 S.length=m * c/\∀ x,x<m * c->(¬ Lv (m * c) (rk os) k x->S[x]?=some (sg 35))/\∀ r,Lv (m * c) (rk os) k x->Fst (Nb m c reach) (m * c) (rk os) k x r->S[x]?=some (sg (if rk os r<i then lam (cnt m c reach os k (rk os r)) else 35))
theorem SgOk.uniq {i:Nat} {S T:List Str} (h:SgOk m c reach os k i S) (g:SgOk m c reach os k i T) (ex:∀ x,Lv (m * c) (rk os) k x->∃ r,Fst (Nb m c reach) (m * c) (rk os) k x r):S=T:=by
 apply G9
 intro x
 by_cases hx:x<m * c
 ·by_cases l:Lv (m * c) (rk os) k x
  ·refine oq11 (ex x l) λr f=>?_
   rw [(h.2 x hx).2 r l f,(g.2 x hx).2 r l f]
  ·rw [(h.2 x hx).1 l,(g.2 x hx).1 l]
 ·rw [M6 (by rw [h.1]; exact M9 hx),M6 (by rw [g.1]; exact M9 hx)]
theorem SgOk.next {i y:Nat} {S:List Str} (h:SgOk m c reach os k i S) (inj:∀ x y,x<m * c->y<m * c->rk os x=rk os y->x=y) (hy:y<m * c) (hyi:rk os y=i) (nr:¬ Rt m c reach os k y):SgOk m c reach os k (i+1) S :=
 ⟨h.1,λx hx=>⟨(h.2 x hx).1,λr l f=>by
  rw [(h.2 x hx).2 r l f]
  have ne:rk os r≠i:=λz=>nr (by
   have e:r=y:=inj r y f.lv.1 hy (z.trans hyi.symm)
   subst e
   exact f.of_rch Nb.sy l f.rch)
  have:rk os r<i↔rk os r<i+1:=by omega
  rw [nM this]⟩⟩
open Classical in
theorem qu {i y:Nat} (h:os[i]?=some y):cnt m c reach os k (i+1)=cnt m c reach os k i+(if Rt m c reach os k y then 1 else 0):=by
 unfold cnt
 have e:os.take (i+1)=os.take i++[y]:=by
  have:=(Z4.mp h).2
  rw [<- this,E5]
 rw [e,List.filter_append,Y8]
 congr 1
 by_cases q:Rt m c reach os k y
 ·rw [D7 (p:=λx=>decide (Rt m c reach os k x)) (decide_eq_true q),if_pos q]; rfl
 ·rw [List.filter_cons_of_neg (p:=λx=>decide (Rt m c reach os k x)) (by rw [decide_eq_false q]; exact Z8),if_neg q]; rfl
theorem look_36 {S0:List Str} {l:Str} {u:Nat} (hl:l≠sg 35) (hH:∀ x,x<m * c->hs[x]?=some (H x)):qd (nbL m c reach) (λa=>decide (H a<=high)) (m * c) S0 l u λ(s19:(List Str) × (List Int)) (x18:Int)=>(((Pu.at_ hs x18).bind λx20=>some (decide (x20<=high))).bind λx22=>if x22=true then (Pu.at_ s19.1 x18).bind λx21=>some (decide (x21=("#":Str))) else some false).bind λx28=>if x28=true then (L2.ixN (s19.1).length x18).bind λj24=>(λsigns25=>(Pu.app s19.2 x18).bind λleft27=>some ((signs25,left27))) ((s19.1).set j24 l) else some ((s19.1,s19.2)):=by
 intro o S kk w _ ho mk
 simp only
 rw [bR,hH o ho,bs,bs,ir]
 refine ⟨λh=>bnk (a:=false) ?_ (if_neg Z8),λh1 h2 h3 h4=>bnk (a:=true) ?_ ((if_pos rfl).trans (bnk (Pf.nJ (by rw [mk.1]; exact ho)) (bnk (iK (nz4 h4 (by decide))) rfl)))⟩
 ·by_cases q:H o<=high
  ·rw [if_pos (decide_eq_true q),bR,mk.2 o ho,if_pos (h.elim id λz=>absurd (decide_eq_true q) (by rw [z]; exact Z8)),bs,decide_eq_false hl]
  ·exact if_neg (by rw [decide_eq_false q]; exact Z8)
 ·rw [if_pos h2,bR,mk.2 o ho,if_neg h1,h3,bs,decide_eq_true rfl]
theorem sC (hn:m * c<1000) (o:Ord hs os) (hl:hs.length=m * c) (hH:∀ x,x<m * c->hs[x]?=some (H x)) (hb:∀ i,i<m * c->bes[i]?=some (cl (nbL m c reach i))) (hk:∀ x,x<m * c->(rk os x<k↔H x<=high)) (ex:∀ x,Lv (m * c) (rk os) k x->∃ r,Fst (Nb m c reach) (m * c) (rk os) k x r) (eo:Pf.bQ hs=some (cl os)) :
  ∃ S,Pf.ci hs bes high=Pu.hZ ("":Str) S/\SgOk m c reach os k (m * c) S:=by
 have inj:∀ x y,x<m * c->y<m * c->rk os x=rk os y->x=y:=λx y hx hy=>o.inj x y (by rw [hl]; exact hx) (by rw [hl]; exact hy)
 have ol:os.length=m * c:=o.len.trans hl
 have e0:Pu.comp (λ(_:Int)=>some ("#":Str)) hs=some (hs.map λ_=>sg 35):=by
  rw [ir]; exact bZ (by rw [hl]; exact nz4 (nz5 hn) (by decide)) λ_ _=>rfl
 unfold Pf.ci
 refine oq12 (cE (f:=λ(s6:(List (Str)) × Int) (x5:Int)=>(((Pu.at_ hs x5).bind λx7=>some (decide (x7<=high))).bind λx9=>if x9=true then (Pu.at_ s6.1 x5).bind λx8=>some (decide (x8=("#":Str))) else some false).bind λx32=>if x32=true then (Pu.atS ("abcdefghijklmnopqrstuvwxyz+":Str) (Pu.mn s6.2 26)).bind λletter11=>(L2.ixN (s6.1).length x5).bind λj14=>(λsigns15=>(Pu.whS (λ(s17:(List (Str)) × (List (Int)))=>some (!decide (s17.2=[]))) (λ(s17:(List (Str)) × (List (Int)))=>(s17.2).getLast?.bind λk31=>(Pu.at_ bes k31).bind λxs30=>(Pu.forS (λ(s19:(List (Str)) × (List (Int))) (x18:Int)=>(((Pu.at_ hs x18).bind λx20=>some (decide (x20<=high))).bind λx22=>if x22=true then (Pu.at_ s19.1 x18).bind λx21=>some (decide (x21=("#":Str))) else some false).bind λx28=>if x28=true then (L2.ixN (s19.1).length x18).bind λj24=>(λsigns25=>(Pu.app s19.2 x18).bind λleft27=>some ((signs25,left27))) ((s19.1).set j24 (letter11)) else some ((s19.1,s19.2))) xs30 (s17.1,(s17.2).dropLast)).bind λ(s19:(List (Str)) × (List (Int)))=>some ((s19.1,s19.2))) 100000 (signs15,[x5])).bind λ(s17:(List (Str)) × (List (Int)))=>some ((s17.1,s6.2+1))) ((s6.1).set j14 (letter11)) else some ((s6.1,s6.2)))
  (λi (s:List Str × Int)=>SgOk m c reach os k i s.1/\s.2=(cnt m c reach os k i:Int)) (xs:=cl os) (s:=(hs.map λ_=>sg 35,0)) ⟨⟨by rw [Y3,hl],λx hx=>?_⟩,rfl⟩ ?_) λs es hs'=>⟨s.1,bnk e0 (bnk eo (bnk es rfl)),by have:=hs'.1; rw [bS,ol] at this; exact this⟩
 ·have g:(hs.map λ_=>sg 35)[x]?=some (sg 35):=by rw [X2,hH x hx]; rfl
  exact ⟨λ_=>g,λr _ _=>by rw [g,if_neg (K8 _)]⟩
 ·rintro i y ⟨S,n9⟩ hy ⟨ok,ec⟩
  unfold cl at hy
  rw [X2] at hy
  refine oq12 (O4.mp hy) λx hx e=>?_
  subst e
  have hxn:x<m * c:=hl ▸ o.mem.mp (W8 hx)
  have hxr:rk os x=i:=o.rk_at hx
  simp only at ok ec ⊢
  subst ec
  rw [bR,hH x hxn,bs,bs,ir]
  have stay:¬ Rt m c reach os k x->∃ s',(some (S,(cnt m c reach os k i:Int)):Option (List Str × Int))=some s'/\SgOk m c reach os k (i+1) s'.1/\s'.2=(cnt m c reach os k (i+1):Int):=λnr=>⟨_,rfl,ok.next inj hxn hxr nr,by rw [qu hx,if_neg nr]; rfl⟩
  by_cases q:H x<=high
  ·have lx:Lv (m * c) (rk os) k x:=⟨hxn,(hk x hxn).mpr q⟩
   refine oq11 (ex x lx) λr f=>?_
   rw [if_pos (decide_eq_true q),bR,(ok.2 x hxn).2 r lx f,bs,bs]
   by_cases e:r=x
   ·subst e
    rw [hxr,if_neg (Q8 i),decide_eq_true rfl,if_pos rfl,at_lam,bs,Pf.nJ (by rw [ok.1]; exact hxn),bs]
    have h0:∀ o',Rch (λa b=>b∈nbL m c reach a) (λa=>decide (H a<=high)=true) r o'->o'≠r->S[o']?=some (sg 35):=λo' h _=>by
     have h:=(rch_iff hk hxn).mp h
     have lo:=h.ok_ lx
     rw [(ok.2 o' lo.1).2 r lo (f.of_rch Nb.sy lx h),hxr,if_neg (Q8 i)]
    refine oq23 (sk (nb:=nbL m c reach) (ok:=λa=>decide (H a<=high)) (l:=sg (lam (cnt m c reach os k i))) (S0:=S) (x:=r) (nz4 (nz5 hn) (by decide)) hxn ok.1 (λu hu o' ho=>(jk.mp ho).1) h0 (t:=λ(s17:(List (Str)) × (List (Int)))=>some (!decide (s17.2=[]))) (f:=λ(s17:(List (Str)) × (List (Int)))=>(s17.2).getLast?.bind λk31=>(Pu.at_ bes k31).bind λxs30=>(Pu.forS (λ(s19:(List (Str)) × (List (Int))) (x18:Int)=>(((Pu.at_ hs x18).bind λx20=>some (decide (x20<=high))).bind λx22=>if x22=true then (Pu.at_ s19.1 x18).bind λx21=>some (decide (x21=("#":Str))) else some false).bind λx28=>if x28=true then (L2.ixN (s19.1).length x18).bind λj24=>(λsigns25=>(Pu.app s19.2 x18).bind λleft27=>some ((signs25,left27))) ((s19.1).set j24 (sg (lam (cnt m c reach os k i)))) else some ((s19.1,s19.2))) xs30 (s17.1,(s17.2).dropLast)).bind λ(s19:(List (Str)) × (List (Int)))=>some ((s19.1,s19.2))) (λ_ _=>rfl) λd ws u hu=>⟨_,?_,look_36 (lam_ne _) hH⟩) λd' kk es sa mk=>?_
    ·simp only
     have el:cl (ws++[u])=cl ws++[(u:Int)]:=lT ws [u]
     rw [el,List.getLast?_concat,bs,bR,hb u hu,bs,List.dropLast_concat,bind_two]
    ·rw [ir] at es
     rw [es,bs]
     have mem:∀ z,z∈kk↔Rch (Nb m c reach) (Lv (m * c) (rk os) k) r z:=λz=>sa.all.trans (rch_iff hk hxn)
     refine ⟨_,rfl,⟨mk.1,λz hz=>⟨λnl=>?_,λr' l' f'=>?_⟩⟩,?_⟩
     ·rw [mk.2 z hz,if_neg λw=>nl (((mem z).mp w).ok_ lx)]
      exact (ok.2 z hz).1 nl
     ·rw [mk.2 z hz]
      by_cases w:z∈kk
      ·have e:r'=r:=f'.same inj (f.of_rch Nb.sy lx ((mem z).mp w))
       subst e
       rw [if_pos w,hxr,if_pos (U1 i)]
      ·rw [if_neg w,(ok.2 z hz).2 r' l' f']
       have ne:rk os r'≠i:=λv=>w ((mem z).mpr (by
        have e:r'=r:=inj r' r f'.lv.1 hxn (v.trans hxr.symm)
        subst e
        exact f'.rch.symm Nb.sy l'))
       have:rk os r'<i↔rk os r'<i+1:=by omega
       rw [nM this]
     ·rw [qu hx,if_pos (show Rt m c reach os k r from f)]; rfl
   ·have lt:rk os r<i:=Nat.lt_of_le_of_ne (hxr ▸ f.min x .here) λz=>e (inj r x f.lv.1 hxn (z.trans hxr.symm))
    rw [if_pos lt,decide_eq_false (lam_ne _),if_neg Z8]
    exact stay λz=>e (f.same inj z)
  ·rw [if_neg (by rw [decide_eq_false q]; exact Z8),bs,if_neg Z8]
   exact stay λz=>q ((hk x hxn).mp z.lv.2)
end
theorem find_mapE (d:List (Option Int × Str)) (k:Int) (v:Str) (j:Option Int):bO (d.map λkv=>if kv.1=some k then (kv.1,v) else kv) j=(bO d j).map λs=>if j=some k then v else s:=by
 unfold bO
 induction d with
 | nil=>rfl
 | cons p d ih =>
  rw [V0,Q6,Q6]
  by_cases q:p.1=some k
  ·rw [if_pos q]
   by_cases e:p.1=j
   ·rw [decide_eq_true e]
    show some v=some (if j=some k then v else p.2)
    rw [if_pos (e.symm.trans q)]
   ·rw [decide_eq_false e]; exact ih
  ·rw [if_neg q]
   by_cases e:p.1=j
   ·rw [decide_eq_true e]
    show some p.2=some (if j=some k then v else p.2)
    rw [if_neg λz=>q (e.trans z)]
   ·rw [decide_eq_false e]; exact ih
theorem md (d:List (Option Int × Str)) (k:Int) (v:Str) (j:Option Int):bO (putE d k v) j=if j=some k then some v else bO d j:=by
 unfold putE
 split
 ·rename_i q
  rw [find_mapE]
  by_cases e:j=some k
  ·rw [if_pos e]
   refine oq12 (D9.mp q) λp hp hq=>?_
   have:(bO d j).isSome:=by
    unfold bO
    rw [Option.isSome_map,List.find?_isSome]
    exact ⟨p,hp,by rw [e]; exact hq⟩
   refine oq11 (Option.isSome_iff_exists.mp this) λs hs=>?_
   rw [hs]; exact congrArg some (if_pos e)
  ·rw [if_neg e]
   cases bO d j with
   | none=>rfl
   | some s=>exact congrArg some (if_neg e)
 ·rename_i q
  unfold bO
  rw [List.find?_append,Option.map_or]
  by_cases e:j=some k
  ·rw [if_pos e]
   have n:d.find? (λkv=>decide (kv.1=j))=none:=by
    rw [List.find?_eq_none]
    intro p hp hq
    exact q (D9.mpr ⟨p,hp,by rw [<- e]; exact hq⟩)
   rw [n,List.find?_cons_of_pos (p:=fun kv:Option Int × Str=>decide (kv.1=j)) (decide_eq_true e.symm)]; rfl
  ·rw [if_neg e,List.find?_cons_of_neg (p:=fun kv:Option Int × Str=>decide (kv.1=j)) (by rw [decide_eq_false λz=>e z.symm]; exact Z8)]
   exact Option.or_none
theorem signs_eq {ss:List Nat} (nd:ss.Nodup) (hl:ss.length<=1000):∃ D,Pf.fG (cl ss)=some D/\bO D none=some (sg 35)/\∀ (p r:Nat),ss[p]?=some r->bO D (some (r:Int))=some (sg (lam p)):=by
 unfold Pf.fG
 have ll:Pu.lnS ("abcdefghijklmnopqrstuvwxyz":Str)=some 26:=by decide +kernel
 rw [ll,ir,plus_eq]
 refine oq12 (cE (f:=λ(s3:(List (Option Int × Str))) (x2:(Int × Int))=>(((some (26:Int)).bind λx4=>some (decide (x2.1<x4))).bind λx5=>if x5=true then Pu.atS ("abcdefghijklmnopqrstuvwxyz":Str) x2.1 else some (sg 43)).bind λx8=>if (s3).length<16777216 then (λsigns7=>some (signs7)) (Pu.putE s3 x2.2 x8) else none)
  (λi (D:List (Option Int × Str))=>D.length<=i+1/\bO D none=some (sg 35)/\∀ (p r:Nat),p<i->ss[p]?=some r->bO D (some (r:Int))=some (sg (lam p))) (xs:=Pu.enum (cl ss)) (s:=[(none,sg 35)]) ⟨nz6 _,rfl,λ_ _ z=>absurd z (K8 _)⟩ ?_) λD eD hD=>?_
 ·intro i x D hx hi
  refine oq12 (pT hx) λa ha e=>?_
  subst e
  unfold cl at ha
  rw [X2] at ha
  refine oq12 (O4.mp ha) λr hr e=>?_
  subst e
  have il:i<ss.length:=(Z4.mp hr).1
  have ev:((some (26:Int)).bind λx4=>some (decide (((i:Int),(r:Int)).1<x4))).bind (λx5=>if x5=true then Pu.atS ("abcdefghijklmnopqrstuvwxyz":Str) (((i:Int),(r:Int)).1) else some (sg 43))=some (sg (lam i)):=by
   rw [bs,bs]
   unfold lam
   by_cases q:i<26
   ·rw [if_pos (decide_eq_true (by omega)),if_pos q]; exact at_abc q
   ·rw [if_neg (by rw [decide_eq_false (by omega)]; exact Z8),if_neg q]
  refine ⟨_,bnk ev (if_pos (nz2 hi.1 (by omega))),nz4 (j8 D r _) (Nat.succ_le_succ hi.1),?_,λp r' hp hr'=>?_⟩
  ·rw [md,if_neg nofun]; exact hi.2.1
  ·rw [md]
   by_cases e:p=i
   ·subst e
    rw [Z7 (hr'.symm.trans hr),if_pos rfl]
   ·rw [if_neg λz=>e (by
     have er:r'=r:=by have:=Z7 z; omega
     rw [er] at hr'
     obtain ⟨h1,h2⟩:=Z4.mp hr'
     obtain ⟨h3,h4⟩:=Z4.mp hr
     exact (List.getElem_inj nd).mp (h2.trans h4.symm))]
    exact hi.2.2 p r' (by omega) hr'
 ·rw [eD]
  rw [kj,bS] at hD
  exact ⟨D,rfl,hD.2.1,λp r h=>hD.2.2 p r (Z4.mp h).1 h⟩
theorem join_sg (v:List Nat):Txt.join ("":Str) (v.map sg)=⟨v.toArray⟩:=by
 have ee:("":Str)=⟨#[]⟩:=by decide +kernel
 refine (PySem.StrLaws.glued_eq_join _ _).trans ?_
 rw [ee]
 induction v with
 | nil=>rfl
 | cons a v ih =>
  cases v with
  | nil=>rfl
  | cons b v =>
   show (sg a++⟨#[]⟩++Str.join ⟨#[]⟩ ((b :: v).map sg):Str)=_
   rw [ih]
   show (⟨(#[a]++#[])++(b :: v).toArray⟩:Str)=⟨(a :: b :: v).toArray⟩
   congr 1
   apply Array.ext'
   simp
theorem qv {v:List Nat} (h:v.length<1000000):Pu.hZ ("":Str) (v.map sg)=some ⟨v.toArray⟩:=by
 unfold Pu.hZ
 have ee:("":Str).length=0:=by decide +kernel
 have e:((v.map sg).map λw=>w.length+("":Str).length).sum=v.length:=by
  rw [T8,ee]
  induction v with
  | nil=>rfl
  | cons a v ih =>
   rw [V0,List.sum_cons,ih (Nat.lt_of_succ_lt h),W4]
   show 1+0+v.length=v.length+1
   omega
 rw [e,if_pos h,join_sg]
theorem slice_at {a b n:Nat} (hab:a<=b) (hb:b<=n):R0.Str.strSliceIndices (some (a:Int)) (some (b:Int)) 1 n=(X3 (b - a)).map λk=>a+k:=by
 unfold R0.Str.strSliceIndices sliceRange
 simp only [show (1:Int) > 0 by decide,if_true]
 rw [if_neg (by omega:¬ (a:Int)<0),if_neg (by omega:¬ (b:Int)<0)]
 have e1:max (0:Int) (min (a:Int) (n:Int))=a:=by omega
 have e2:max (0:Int) (min (b:Int) (n:Int))=b:=by omega
 rw [e1,e2]
 have e3:((if (a:Int)<b then ((b:Int) - a+1 - 1) / 1 else 0)).toNat=b - a:=by
  split
  ·rw [Int.ediv_one]; omega
  ·omega
 rw [e3]
 refine Q2 λk _=>?_
 omega
theorem qw (v:List Nat) (a:Nat):∀ n,a+n<=v.length->((X3 n).map λk=>a+k).filterMap (λi=>v[i]?)=(v.drop a).take n
 | 0,_=>rfl
 | n+1,h=>by
  rw [List.range_succ,T3,List.filterMap_append,qw v a n (Nat.le_of_succ_le h),List.take_add_one,L6]
  congr 1
theorem cut_sg {v:List Nat} (h:v.length<1000000) {a b:Nat} (hab:a<=b) (hb:b<=v.length):Pu.cutS ⟨v.toArray⟩ (some (a:Int)) (some (b:Int))=some ⟨((v.drop a).take (b - a)).toArray⟩:=by
 have hl:(⟨v.toArray⟩:Str).length=v.length:=X0
 unfold Pu.cutS
 rw [hl,if_pos h,bs,bs]
 refine congrArg some ?_
 unfold Txt.slice
 rw [hl,slice_at hab hb]
 have g:((X3 (b - a)).map λk=>a+k).filterMap (λi=>(⟨v.toArray⟩:Str).cps[i]?)=(v.drop a).take (b - a):=by
  rw [<- qw v a (b - a) (by omega)]
  exact congrArg (λf=>List.filterMap f _) (funext λi=>R6)
 split
 ·rename_i q
  have q:b - a=v.length:=by
   rw [Bool.and_eq_true,beq_iff_eq,Y3,V5] at q
   have:=q.2
   simpa using this
  have:a=0:=by omega
  subst this
  rw [Nat.sub_zero] at q ⊢
  rw [D3,q,N7]
 ·rw [g]
theorem qx:∀ {S:List Str},(∀ s∈S,∃ a,s=sg a)->∃ v:List Nat,S=v.map sg
 | [],_=>⟨[],rfl⟩
 | s :: S,h=>oq11 (h s W6) λa e=>oq11 (qx λt ht=>h t (X6 _ ht)) λv ev=>⟨a :: v,by rw [e,ev]; rfl⟩
theorem SgOk.chars {m c k i:Nat} {reach:Int} {os:List Nat} {S:List Str} (h:SgOk m c reach os k i S) (ex:∀ x,Lv (m * c) (rk os) k x->∃ r,Fst (Nb m c reach) (m * c) (rk os) k x r):∃ v:List Nat,S=v.map sg/\v.length=m * c:=by
 refine oq11 (qx (S:=S) λs hs=>?_) λv e=>⟨v,e,by have:=h.1; rw [e,Y3] at this; exact this⟩
 refine oq11 (G0.mp hs) λx hx=>?_
 have hxn:x<m * c:=h.1 ▸ (Z4.mp hx).1
 by_cases l:Lv (m * c) (rk os) k x
 ·exact oq11 (ex x l) λr f=>⟨_,Z7 (hx.symm.trans ((h.2 x hxn).2 r l f))⟩
 ·exact ⟨_,Z7 (hx.symm.trans ((h.2 x hxn).1 l))⟩
theorem filter_at {α:Type} {q:α->Bool} {l:List α} {i:Nat} {x:α} (h:l[i]?=some x) (hq:q x=true):(l.filter q)[((l.take i).filter q).length]?=some x:=by
 obtain ⟨hi,e⟩:=Z4.mp h
 have e2:l.filter q=(l.take i).filter q++(x :: l.drop (i+1)).filter q:=by
  rw [<- List.filter_append,<- e,<- O7 hi,W0]
 rw [e2,Y5 (nz6 _),Nat.sub_self,D7 hq]; rfl
theorem lq {m c:Nat} {hs:List Str} (hm:m<=1000) (hc:c<=1000):Pf.cP ((m:Int),(c:Int)) hs=some ((X3 m).map λy=>(hs.drop (y * c)).take c):=by
 have c1:-(2 ^ 64)<((c:Nat):Int):=Int.lt_of_lt_of_le (by decide) (Int.natCast_nonneg c)
 have c2:((c:Nat):Int)<2 ^ 64:=Int.lt_of_le_of_lt (C6.mpr hc) (by decide)
 unfold Pf.cP
 simp only
 rw [i6 (nz4 hm (by decide)),bs,bZ (g:=λy=>(hs.drop (y.toNat * c)).take c) (by rw [dB]; exact nz4 hm (by decide)) λy hy=>?_]
 ·unfold nats
  rw [T8]
  congr 1
 ·refine oq12 (i5.mp hy) λi _ eq2_=>?_; subst eq2_
  rw [i7 ⟨c1,c2⟩,bs,bs,i7 ⟨c1,c2⟩,bs,bs,U5]
  have e1:(i:Int) * (c:Int)=((i * c:Nat):Int):=(K9 i c).symm
  have e2:((i:Int)+1) * (c:Int)=(((i+1) * c:Nat):Int):=(K9 (i+1) c).symm
  rw [e1,e2,nI,Nat.succ_mul,U9]
section
variable {rows:List (List Int)} {c:Nat} {reach:Int} {os:List Nat} {k:Nat}
open Classical in
theorem sD (hp:0<rows.length) (hc:0<c) (hr:∀ r∈rows,r.length=c) (hn:rows.length * c<1000) (o:Ord rows.flatten os) (eo:Pf.br rows=some (cl os)) {h:Int} {L:List (Option Int)} (hL:Pf.cO rows reach h=some L) (ok:Pf.LkOk (Nb rows.length c reach) (rows.length * c) (rk os) k L) (ex:∀ x,Lv (rows.length * c) (rk os) k x->∃ r,Fst (Nb rows.length c reach) (rows.length * c) (rk os) k x r) :
  ∃ S,SgOk rows.length c reach os k (rows.length * c) S/\Pf.eZ rows reach h=(Pf.cP ((rows.length:Int),(c:Int)) S).bind λx=>Pu.comp (λy=>Pu.hZ ("":Str) y) x:=by
 have fl:rows.flatten.length=rows.length * c:=bo hr
 have inj:∀ x y,x<rows.length * c->y<rows.length * c->rk os x=rk os y->x=y:=λx y hx hy=>o.inj x y (by rw [fl]; exact hx) (by rw [fl]; exact hy)
 have ol:os.length=rows.length * c:=o.len.trans fl
 have n6:rows.length * c<=1000000:=nz4 (nz5 hn) (by decide)
 have es:Pu.dh (λ(y3:Int)=>(Pu.at_ L y3).bind λx4=>some (decide (x4=some y3))) (λ(y3:Int)=>some (y3)) (cl os)=some (cl (os.filter λx=>decide (Rt rows.length c reach os k x))):=by
  rw [iL (p:=λy=>decide (Rt rows.length c reach os k y.toNat)) (g:=λy=>y) (by rw [bS,ol]; exact n6) (λy hy=>?_) λ_ _ _=>rfl]
  ·unfold cl
   rw [List.map_id',List.filter_map]
   congr 2
  ·refine oq12 (km.mp hy) λx hx e=>?_
   subst e
   have hxn:x<rows.length * c:=fl ▸ o.mem.mp hx
   rw [bR,U5]
   by_cases l:Lv (rows.length * c) (rk os) k x
   ·refine oq11 (ex x l) λr f=>?_
    rw [(ok.2 x hxn).2 r l f,bs]
    refine congrArg some (decide_eq_decide.mpr ⟨λz=>?_,λz=>?_⟩)
    ·have e:r=x:=Int.ofNat.inj (Z7 z)
     subst e; exact f
    ·rw [f.same inj z]
   ·rw [(ok.2 x hxn).1 l,bs,decide_eq_false nofun,decide_eq_false λz=>l z.lv]
 refine oq13 (signs_eq (ss:=os.filter λx=>decide (Rt rows.length c reach os k x)) (o.nd.filter _) (nz4 (M5 _ _) (by rw [ol]; exact nz5 hn))) λD eD d0 d1=>?_
 have at_:∀ x,x<rows.length * c->∃ v,L[x]?=some v/\(¬ Lv (rows.length * c) (rk os) k x->bO D v=some (sg 35))/\∀ r,Lv (rows.length * c) (rk os) k x->Fst (Nb rows.length c reach) (rows.length * c) (rk os) k x r->bO D v=some (sg (lam (cnt rows.length c reach os k (rk os r)))):=λx hx=>by
  by_cases l:Lv (rows.length * c) (rk os) k x
  ·refine oq11 (ex x l) λr f=>⟨_,(ok.2 x hx).2 r l f,λz=>absurd l z,λr' _ f'=>?_⟩
   rw [f'.same inj f]
   exact d1 _ r (filter_at (o.at_rk (by rw [fl]; exact f.lv.1)) (decide_eq_true (show Rt rows.length c reach os k r from f.of_rch Nb.sy l f.rch)))
  ·exact ⟨none,(ok.2 x hx).1 l,λ_=>d0,λ_ z=>absurd z l⟩
 have some_:∀ v∈L,bO D v=some ((bO D v).getD (sg 35)):=λv hv=>by
  refine oq11 (G0.mp hv) λx hx=>?_
  have hxn:x<rows.length * c:=ok.1 ▸ (Z4.mp hx).1
  refine oq13 (at_ x hxn) λv' e a b=>?_
  have ev:v=v':=Z7 (hx.symm.trans e)
  subst ev
  by_cases l:Lv (rows.length * c) (rk os) k x
  ·exact oq11 (ex x l) λr f=>by rw [b r l f]; rfl
  ·rw [a l]; rfl
 refine ⟨L.map λv=>(bO D v).getD (sg 35),⟨by rw [Y3,ok.1],λx hx=>?_⟩,?_⟩
 ·refine oq13 (at_ x hx) λv e a b=>⟨λl=>by rw [X2,e,Option.map_some,a l]; rfl,λr l f=>?_⟩
  rw [X2,e,Option.map_some,b r l f,if_pos (by have:=o.rk_lt (x:=r) (by rw [fl]; exact f.lv.1); rwa [fl] at this)]; rfl
 ·unfold Pf.eZ
  refine bnk hL (bnk (bnk (bnk eo es) eD) ?_)
  exact congrArg (λz=>Option.bind z λx=>Pu.comp (λy=>Pu.hZ ("":Str) y) x) (bnk (Pf.fg hp hr) (bnk (bZ (by rw [ok.1]; exact n6) some_) rfl))
end
theorem kJ {hs:List Int} (h:hs.length<1000000):∃ os,Pf.bQ hs=some (cl os)/\Ord hs os:=by
 refine oq12 (Pf.srtP_ord (nz5 h)) λos e o=>⟨os,?_,o⟩
 unfold Pf.bQ
 rw [Pf.enum_hk (nz5 h),bs]
 unfold Pu.nF
 rw [if_pos ⟨by simp; exact h,Pf.hk_nd hs⟩]
 exact e
theorem lu {rows:List (List Int)} {c:Nat} {reach:Int} (hp:0<rows.length) (hc0:0<c) (hcm:c<=1000) (hmm:rows.length<=1000) (h:∀ r∈rows,r.length=c):Pf.dz rows reach=some ((X3 (rows.length * c)).map λx=>cl (nbL rows.length c reach x)):=by
 have hmc:rows.length * c<=1000 * 1000:=D8 hmm hcm
 unfold Pf.dz
 have e0:Pu.at_ rows 0=some (rows[0]'hp):=(bR (i:=0)).trans (Z9 hp)
 have hr:=h _ (J3 hp)
 rw [e0]
 simp only [bs,Pu.ln]
 rw [hr,nG ⟨by omega,by omega⟩,bs,<- K9,i6 (by omega),bs]
 rw [bZ (g:=λy=>cl (nbL rows.length c reach y.toNat)) (by rw [dB]; omega) λy hy=>?_]
 ·unfold nats
  rw [T8]
  rfl
 ·refine oq12 (i5.mp hy) λi hi eq2_=>?_; subst eq2_
  rw [U5]
  exact Pf.due_nb_eq hc0 hcm hmm
theorem right_eq {rows:List (List Int)} {c:Nat} {v:List Nat} (hp:0<rows.length) (hr:∀ r∈rows,r.length=c) (hc:c<=1000) (hv:v.length=rows.length * c) (hn:rows.length * c<1000) :
  Pf.dA ((X3 rows.length).map λy=>(⟨((v.drop (y * c)).take c).toArray⟩:Str)) ⟨v.toArray⟩ rows=some true:=by
 unfold Pf.dA
 have e0:Pu.at_ rows 0=some (rows[0]'hp):=(bR (i:=0)).trans (Z9 hp)
 have c1:-(2 ^ 64)<((c:Nat):Int):=Int.lt_of_lt_of_le (by decide) (Int.natCast_nonneg c)
 have c2:((c:Nat):Int)<2 ^ 64:=Int.lt_of_le_of_lt (C6.mpr hc) (by decide)
 have lc:Pu.ln (rows[0]'hp)=(c:Int):=by unfold Pu.ln; rw [hr _ (J3 hp)]
 have lf:Pu.ln ((X3 rows.length).map λy=>(⟨((v.drop (y * c)).take c).toArray⟩:Str))=Pu.ln rows:=by unfold Pu.ln; rw [Y3,V5]
 rw [e0,bs,bs,lc,if_neg (by rw [lf,decide_eq_true rfl]; exact Z8),i4 λx hx=>?_]
 refine oq22 (pU hx) λi a ha e=>?_
 subst e
 rw [X2] at ha
 refine oq12 (O4.mp ha) λy hy e=>?_
 subst e
 have hi:i<rows.length:=by
  have:=(Z4.mp hy).1
  rwa [V5] at this
 have ey:y=i:=by
  rw [J0 hi] at hy
  exact (Z7 hy).symm
 subst ey
 have le:(y+1) * c<=v.length:=by rw [hv]; exact G6 c hi
 simp only
 rw [i7 ⟨c1,c2⟩,bs,bs,i7 ⟨c1,c2⟩,bs,bs]
 have e1:(y:Int) * (c:Int)=((y * c:Nat):Int):=(K9 y c).symm
 have e2:((y:Int)+1) * (c:Int)=(((y+1) * c:Nat):Int):=(K9 (y+1) c).symm
 rw [e1,e2,cut_sg (by omega) (G6 c (P6 y)) le,Nat.succ_mul,U9,bs,decide_eq_true rfl]
 rfl
theorem sE {rows:List (List Int)} {c:Nat} {reach:Int} {os:List Nat} (hp:0<rows.length) (hc:0<c) (hcm:c<=900) (hm:rows.length<=900) (hr:∀ r∈rows,r.length=c) (hn:rows.length * c<1000) (o:Ord rows.flatten os) (eo:Pf.br rows=some (cl os)) (el:Pf.bQ rows.flatten=some (cl os)) (h:Int) :
  ∃ P t,Pf.eZ rows reach h=some P/\Pf.ci rows.flatten ((X3 (rows.length * c)).map λx=>cl (nbL rows.length c reach x)) h=some t/\Pf.dA P t rows=some true/\P.length<=1000:=by
 have fl:rows.flatten.length=rows.length * c:=bo hr
 have cm:c<=1000:=nz4 hcm (by decide)
 have mm:rows.length<=1000:=nz4 hm (by decide)
 refine oq13 (Pf.lakesW (reach:=reach) hp hc hcm hm hr hn o eo h) λL hL ok ex=>?_
 refine oq12 (sD hp hc hr hn o eo hL ok ex) λS okS eP=>?_
 refine oq12 (sC (reach:=reach) (bes:=(X3 (rows.length * c)).map λx=>cl (nbL rows.length c reach x)) (H:=hgt rows c) (high:=h) hn o fl (λx hx=>qa hc hr hx) (λi hi=>by rw [X2,J0 hi]; rfl) (Pf.qf hc hr o h).2.2 ex el) λT et okT=>?_
 have e:=okT.uniq okS ex
 subst e
 refine oq12 (okT.chars ex) λv ev hv=>?_
 subst ev
 have hvl:v.length<1000000:=by omega
 refine ⟨_,_,eP.trans (bnk (lq mm cm) (bZ (g:=λr=>(⟨(r.map λs=>s.cps.getD 0 0).toArray⟩:Str)) (by rw [Y3,V5]; exact nz4 mm (by decide)) λr hr'=>?_)),et.trans (qv hvl),?_,by rw [Y3,Y3,V5]; exact mm⟩
 ·refine oq12 (Q4.mp hr') λy hy e=>?_
  subst e
  rw [<- List.map_drop,<- List.map_take,qv (nz2 (E9 _ _) (by omega)),T8]
  refine congrArg some (congrArg (fun z:List Nat=>(⟨z.toArray⟩:Str)) ?_)
  exact (List.map_id' _).symm
 ·rw [T8]
  have e2:((fun r:List Str=>(⟨(r.map λs=>s.cps.getD 0 0).toArray⟩:Str)) ∘ λy=>((v.map sg).drop (y * c)).take c)=λy=>(⟨((v.drop (y * c)).take c).toArray⟩:Str):=by
   funext y
   show (⟨((((v.map sg).drop (y * c)).take c).map λs=>s.cps.getD 0 0).toArray⟩:Str)=_
   rw [<- List.map_drop,<- List.map_take,T8]
   refine congrArg (fun z:List Nat=>(⟨z.toArray⟩:Str)) ?_
   exact List.map_id' _
  rw [e2]
  exact right_eq hp hr cm hv hn
theorem nd_len:∀ {l m:List Int},l.Nodup->(∀ x∈l,x∈m)->l.length<=m.length
 | [],_,_,_=>U2 _
 | x :: l,m,nd,h=>by
  have nd:=List.nodup_cons.mp nd
  have hx:=h x W6
  have h1:=nd_len (m:=m.erase x) nd.2 λy hy=>(List.mem_erase_of_ne (λ(z:y=x)=>nd.1 (z ▸ hy))).mpr (h y (X6 _ hy))
  rw [List.length_erase_of_mem hx] at h1
  have:=List.length_pos_of_mem hx
  rw [W4]; omega
theorem ded_all:∀ (l acc:List Int),acc.Nodup->(l.foldl dedS acc).Nodup/\(∀ x,x∈l.foldl dedS acc↔x∈acc\/x∈l)
 | [],acc,h=>⟨h,λx=>by simp⟩
 | a :: l,acc,h=>by
  have st:(dedS acc a).Nodup/\∀ x,x∈dedS acc a↔x∈acc\/x=a:=by
   unfold dedS
   split
   ·rename_i q
    refine oq12 (D9.mp q) λy hy e=>⟨h,λx=>⟨.inl,λz=>z.elim id λz=>?_⟩⟩
    have e:y=a:=by simpa using e
    rw [z,<- e]; exact hy
   ·rename_i q
    refine ⟨List.nodup_append.mpr ⟨h,by simp,λx hx y hy e=>q (D9.mpr ⟨x,hx,?_⟩)⟩,λx=>by rw [W9,Y6]⟩
    rw [Y6.mp hy] at e
    simpa using e
  rw [List.foldl_cons]
  refine oq02 (ded_all l (dedS acc a) st.1) λg1 g2=>⟨g1,λx=>?_⟩
  rw [g2 x,st.2 x,Y4,or_assoc]
theorem once_eq {hs m:List Int} (h0:hs≠[]) (hl:hs.length<=1000) (hm:∀ x∈hs,x∈m) (h1:m.length<=60):∃ as:List Int,((Pu.mset hs).bind λz=>Pu.sortI z)=some as/\0<as.length/\as.length<=60:=by
 refine oq02 (ded_all hs [] List.nodup_nil) λg1 g2=>?_
 have d1:(ded hs).length<=60:=nz4 (nd_len g1 λx hx=>hm x (((g2 x).mp hx).elim (λz=>nomatch z) id)) h1
 have d2:0<(ded hs).length:=by
  cases hs with
  | nil=>exact absurd rfl h0
  | cons a l=>exact List.length_pos_iff_exists_mem.mpr ⟨a,(g2 a).mpr (.inr W6)⟩
 refine ⟨srtI (ded hs),bnk (show Pu.mset hs=some (ded hs) by unfold Pu.mset; rw [if_pos (by omega)]) (by unfold Pu.sortI; rw [if_pos (by omega)]),?_,?_⟩
 ·rw [(fY _).length_eq]; exact d2
 ·rw [(fY _).length_eq]; exact d1
structure Fw (rows:List (List Int)) (c:Nat):Prop where
 pos:0<rows.length
 most:rows.length<=12
 cpos:0<c
 cmost:c<=12
 row:∀ r∈rows,r.length=c
 few:∃ m:List Int,m.length<=60/\∀ x∈rows.flatten,x∈m
theorem nX (ns:List Int):∃ rows c,Pf.eA ns=some rows/\Fw rows c:=by
 unfold Pf.eA
 rw [show Pf.bY ns 1=some (cellAt ns 1) from Pf.fe ns 1,bs]
 generalize cellAt ns 1=w
 by_cases q:w % 6=1
 ·rw [if_neg (by rw [decide_eq_true q]; exact Z8),g9 (by omega),bs]
  generalize (w / 12) % (1+w / 6 % 100000000000000000)=low
  generalize 1+w / 6 % 100000000000000000=hi
  rw [show Pu.rng1 12=some (nats 12) from i6 (n:=12) (by decide),bs]
  have inner:∀ y:Nat,y<12->∃ r,Pu.forS (λ(s11:(List (Int))) (x10:Int)=>((Pf.mixed w (((y:Int) * 12)+x10)).bind λx12=>some (x12 % 2)).bind λpart14=>(Pu.at_ ([low+part14,hi+3]) (((y:Int)+x10) % 2)).bind λx17=>(Pu.app s11 x17).bind λsome16=>some (some16)) (nats 12) []=some r/\r.length=(nats 12).length/\∀ x∈r,x∈[low,low+1,hi+3]:=λy hy=>by
   refine cE (λi (s:List Int)=>s.length=i/\∀ x∈s,x∈[low,low+1,hi+3]) ⟨rfl,λ_ z=>nomatch z⟩ λi x s hx hs=>?_
   refine oq12 (i5.mp (W8 hx)) λz hz e=>?_
   subst e
   have il:i<12:=by have:=(Z4.mp hx).1; rwa [dB] at this
   rw [Pf.kn (by omega) (by omega),bs,bs]
   have hp:Fl.mixed w ((y:Int) * 12+(z:Int)) % 2=0\/Fl.mixed w ((y:Int) * 12+(z:Int)) % 2=1:=by omega
   generalize Fl.mixed w ((y:Int) * 12+(z:Int)) % 2=p at hp
   have hpar:((y:Int)+z) % 2=0\/((y:Int)+z) % 2=1:=by omega
   have key:∃ v,Pu.at_ ([low+p,hi+3]) (((y:Int)+(z:Int)) % 2)=some v/\v∈[low,low+1,hi+3]:=by
    rcases hpar with e | e
    ·rw [e]
     exact ⟨low+p,rfl,hp.elim (λe=>by rw [e,Int.add_zero]; exact W6) λe=>by rw [e]; exact X6 _ W6⟩
    ·rw [e]
     exact ⟨hi+3,rfl,X6 _ (X6 _ W6)⟩
   refine oq12 key λv ev hv=>⟨s++[v],bnk ev (bnk (iK (by omega)) rfl),by rw [Y8,hs.1]; rfl,λx hx=>(W9.mp hx).elim (hs.2 x) λz=>(Y6.mp z) ▸ hv⟩
  refine oq12 (cE (f:=λ(s8:(List (List (Int)))) (x7:Int)=>(some (nats 12)).bind λx20=>(Pu.forS (λ(s11:(List (Int))) (x10:Int)=>((Pf.mixed w ((x7 * 12)+x10)).bind λx12=>some (x12 % 2)).bind λpart14=>(Pu.at_ ([low+part14,hi+3]) ((x7+x10) % 2)).bind λx17=>(Pu.app s11 x17).bind λsome16=>some (some16)) x20 ([])).bind λ(s11:(List (Int)))=>(Pu.app s8 s11).bind λfloor_here19=>some (floor_here19)) (λi (s:List (List Int))=>s.length=i/\(∀ r∈s,r.length=12)/\∀ r∈s,∀ x∈r,x∈[low,low+1,hi+3]) (xs:=nats 12) (s:=[]) ⟨rfl,(λ_ z=>nomatch z),λ_ z=>nomatch z⟩ ?_) λrows er hr=>?_
  ·intro i x s hx hs
   refine oq12 (i5.mp (W8 hx)) λz hz e=>?_
   subst e
   have il:i<12:=by have:=(Z4.mp hx).1; rwa [dB] at this
   refine oq13 (inner z hz) λr e1 e2 e3=>⟨s++[r],bnk rfl (bnk e1 (bnk (iK (by omega)) rfl)),by rw [Y8,hs.1]; rfl,λt ht=>(W9.mp ht).elim (hs.2.1 t) λz=>?_,λt ht=>(W9.mp ht).elim (hs.2.2 t) λz=>?_⟩
   ·rw [Y6.mp z,e2,dB]
   ·rw [Y6.mp z]; exact e3
  ·rw [dB] at hr
   refine ⟨rows,12,bnk er rfl,by omega,by omega,by decide,by decide,hr.2.1,[low,low+1,hi+3],by simp,λx hx=>?_⟩
   refine oq12 (List.mem_flatten.mp hx) λr h1 h2=>hr.2.2 r h1 x h2
 ·rw [if_pos (by rw [decide_eq_false q]; rfl)]
  have sh:=oB ns 5
  refine ⟨_,_,Pf.floor_eq ns 5 (by decide),sh.pos,sh.most,sh.cpos,sh.cmost,sh.row,_,?_,λx hx=>hx⟩
  rw [bo sh.row]; exact sh.area
theorem holds (ns:List Int) (_:ns.length<=63):Pf.i3 ns=some true:=by
 refine oq22 (nX ns) λrows c ef fw=>oq12 (Pf.reach_eq ns 0) λreach er _=>?_
 have hfl:rows.flatten.length=rows.length * c:=bo fw.row
 have hn:rows.length * c<1000:=nz2 (D8 fw.most fw.cmost) (by decide)
 have cm:c<=900:=nz4 fw.cmost (by decide)
 have mm:rows.length<=900:=nz4 fw.most (by decide)
 have hne:rows.flatten≠[]:=λz=>by
  have:=Nat.mul_pos fw.pos fw.cpos
  rw [<- hfl,z] at this
  exact Q8 _ this
 refine oq12 (Pf.lb fw.pos fw.cpos cm mm fw.row) λos eo o=>oq12 (kJ (hs:=rows.flatten) (by omega)) λos' elo o'=>?_
 have eos:=o'.uniq o
 subst eos
 refine oq12 fw.few λm hm1 hm2=>oq13 (once_eq hne (by omega) hm2 hm1) λas ea a0 a1=>?_
 have one:=λh=>sE (reach:=reach) fw.pos fw.cpos cm mm fw.row hn o eo elo h
 have efi:∃ f:Nat,((Pf.bY ns 2).bind λx14=>Pu.fmod x14 (Pu.ln as))=some (f:Int)/\f<as.length:=by
  rw [show Pf.bY ns 2=some (cellAt ns 2) from Pf.fe ns 2,bs]
  unfold Pu.ln
  rw [g9 (by omega)]
  exact ⟨(cellAt ns 2 % (as.length:Int)).toNat,by rw [Int.toNat_of_nonneg (Int.emod_nonneg _ (by omega))],by have:=Int.emod_lt_of_pos (cellAt ns 2) (show (0:Int)<(as.length:Int) by omega); omega⟩
 refine oq12 efi λf e1 hf=>?_
 have e38:((Pu.cat (Pu.cut as (some (f:Int)) none) (Pu.cut as none (some (f:Int)))).bind λx18=>some (Pu.cut x18 none (some 6)))=some ((as.drop f++as.take f).take 6):=by
  rw [cut_from,cut_to,sf (by rw [O3,V7]; omega),bs]
  exact congrArg some (cut_to (j:=6))
 have l38:0<((as.drop f++as.take f).take 6).length/\((as.drop f++as.take f).take 6).length<=6:=by
  rw [V7,Y8,O3,V7]; omega
 generalize (as.drop f++as.take f).take 6=xs at e38 l38
 refine oq12 (cE (f:=λ(s20:(List (Int))) (x19:Int)=>(Pu.cat s20 ([x19,Pu.mx 0 (x19 - 1),Pu.mn 1000000000000000000 (x19+1)])).bind λsome22=>some (some22)) (λi (s:List Int)=>s.length=2+3 * i/\i<=xs.length) (xs:=xs) (s:=[0,1000000000000000000]) ⟨rfl,U2 _⟩ λi x s hx hs=>?_) λqs eq hq=>?_
 ·have:=(Z4.mp hx).1
  exact ⟨_,bnk (sf (by rw [hs.1]; simp; omega)) rfl,by rw [Y8,hs.1]; simp; omega,this⟩
 ·unfold Pf.i3
  refine bnk ef (bnk (show Pf.reach ns 0=some reach from er) (bnk (Pf.sj rows (by omega)) (bnk (lu fw.pos fw.cpos (nz4 cm (by decide)) (nz4 mm (by decide)) fw.row) (bnk (bZ (g:=λy=>y) (by omega) λ_ _=>rfl) (bnk ea (bnk e1 (bnk e38 (bnk eq ?_))))))))
  rw [List.map_id']
  rw [i4 λh _=>?_]
  ·have h2:2<qs.length:=by omega
   refine bnk ((bR (i:=2)).trans (Z9 h2)) (oq24 (one qs[2]) λP t e1 e2 e3 _=>bnk e1 (bnk (a:=true) (bnk e2 e3) ((if_pos rfl).trans (congrArg some (decide_eq_true rfl)))))
  ·exact oq24 (one h) λP t e1 e2 e3 l=>bnk e1 (bnk (a:=false) (bnk (a:=true) (bnk e2 e3) rfl) ((if_neg Z8).trans (bnk (iK (nz4 l (by decide))) rfl)))
noncomputable def dn:Stmt->Str
 | .FunctionDef n ..=>n
 | _=>""
noncomputable def fo (q:Stmt->Str) (st:Stmt) (c:Nat) (pm:Value):Obj:=⟨.type "function",none,.func (T7 (dn st) (q st) (b0 st) (aF st) (aa st) .none .none .none pm none (.ref c) .none),#[]⟩
noncomputable def cq (q:Stmt->Str) (st:Stmt) (t l g f a b:Nat) (c d:Value) (e i m:Nat):Obj:=⟨.type "code",none,.fields #[.str (dn st) t,.str (q st) (t+1),.str "/claim/cut.py" (t+2),.int l 0,.int g 0,.int 0 0,.int 0 0,.int f 0,.ref a,.bool true,.int 181 0,.ref b,.none,c,d,.ref e,.int i 0,.int l 0,.str "/claim/cut.py" m],#[]⟩
noncomputable def fA:=fo dn
noncomputable def cA (st:Stmt) (t l g a i:Nat):Obj:=cq dn st t l g 3 a (a+1) (.ref (a+2)) (.ref (a+3)) (a+4) i (i+1)
noncomputable def cB (st:Stmt) (t l g a i:Nat):Obj:=cq dn st t l g 3 a (a+1) .none .none (a+2) i (i+1)
noncomputable def ne (P:Params) (n:Str) (t:Nat) (v:Value):K4:=⟨PyData.keyHash P n,.str n t,v⟩
noncomputable def d3_0 (P:Params):List K4:=[ne P "__name__" 165 (.str "law_floodtree_k36_pictures" 418),ne P "__doc__" 166 .none,ne P "__package__" 167 .none,ne P "__loader__" 168 (.builtin "__main__.__loader__#opaque"),ne P "__spec__" 169 .none,ne P "__annotations__" 170 (.ref 6),ne P "__builtins__" 171 (.ref 4),ne P "__file__" 173 (.str "/claim/cut.py" 172)]
noncomputable def d3_8 (P:Params):List K4:=[ne P "__cached__" 174 .none,ne P "_wall" 193 (.ref 21),ne P "size_of" 203 (.ref 28),ne P "neighbours" 218 (.ref 35),ne P "height_of" 227 (.ref 42),ne P "all_cells" 235 (.ref 49),ne P "floor_of" 241 (.ref 54),ne P "order_key" 249 (.ref 61)]
noncomputable def d3_16 (P:Params):List K4:=[ne P "earliest_of" 258 (.ref 68),ne P "in_order" 266 (.ref 75),ne P "covered_at" 272 (.ref 80),ne P "Meetings" 327 (.ref 116),ne P "Water" 380 (.ref 154),ne P "water_over" 391 (.ref 165),ne P "lakes_at" 397 (.ref 170),ne P "LETTERS" 401 (.str "abcdefghijklmnopqrstuvwxyz" 400)]
noncomputable def d3_24 (P:Params):List K4:=[ne P "signs_of" 411 (.ref 177),ne P "picture" 417 (.ref 182),ne P "_law_cell_at" 427 (.ref 189),ne P "_law_mixed" 435 (.ref 196),ne P "_law_height" 445 (.ref 203),ne P "_law_folded" 451 (.ref 208),ne P "_law_floor" 457 (.ref 213),ne P "_law_reach" 465 (.ref 220)]
noncomputable def d3_32 (P:Params):List K4:=[ne P "_law_heights" 474 (.ref 227),ne P "_law_order" 480 (.ref 232),ne P "_law_places" 486 (.ref 237),ne P "_law_next" 501 (.ref 244),ne P "_law_all_next" 507 (.ref 249),ne P "_law_letters" 513 (.ref 254),ne P "_law_right" 525 (.ref 261),ne P "_law_any_floor" 540 (.ref 268)]
noncomputable def d3_40 (P:Params):List K4:=[ne P "law" 546 (.ref 273)]
noncomputable def d115_0 (P:Params):List K4:=[ne P "__module__" 282 (.str "floodtree.lakes" 273),ne P "__firstlineno__" 286 (.int 36 285),ne P "__init__" 294 (.ref 94),ne P "living" 303 (.ref 101),ne P "let_meet" 309 (.ref 106),ne P "tree" 317 (.ref 113),ne P "__static_attributes__" 320 (.ref 114),ne P "__dict__" 322 (.ref 117)]
noncomputable def d115_8 (P:Params):List K4:=[ne P "__weakref__" 324 (.ref 118),ne P "__doc__" 325 .none]
noncomputable def d153_0 (P:Params):List K4:=[ne P "__module__" 335 (.str "floodtree.lakes" 273),ne P "__firstlineno__" 339 (.int 58 338),ne P "__init__" 345 (.ref 132),ne P "start_now" 353 (.ref 139),ne P "homes_around" 359 (.ref 144),ne P "let_come" 368 (.ref 151),ne P "__static_attributes__" 373 (.ref 152),ne P "__dict__" 375 (.ref 155)]
noncomputable def d153_8 (P:Params):List K4:=[ne P "__weakref__" 377 (.ref 156),ne P "__doc__" 378 .none]
noncomputable def pm0:Value:=.str "floodtree.cells" 194
noncomputable def pm1:Value:=.str "floodtree.lakes" 273
noncomputable def pm2:Value:=.str "floodtree.texts" 398
noncomputable def pm3:Value:=.str "law_floodtree_k36_pictures" 418
noncomputable def fK (P:Params):Z3:=(nat_lit 3,⟨(.type "dict"),none,.dict ((d3_0 P)++(d3_8 P)++(d3_16 P)++(d3_24 P)++(d3_32 P)++(d3_40 P)).toArray 41,#[]⟩) ::
 (nat_lit 27,cA (top 2) 196 5 1 22 201) ::
 (nat_lit 28,fA (top 2) 27 pm0) ::
 (nat_lit 34,cA (top 3) 204 8 3 29 216) ::
 (nat_lit 35,fA (top 3) 34 pm0) ::
 (nat_lit 41,cA (top 4) 219 18 2 36 225) ::
 (nat_lit 42,fA (top 4) 41 pm0) ::
 (nat_lit 48,cA (top 5) 228 21 1 43 233) ::
 (nat_lit 49,fA (top 5) 48 pm0) ::
 (nat_lit 53,cB (top 6) 236 24 2 50 239) ::
 (nat_lit 54,fA (top 6) 53 pm0) ::
 (nat_lit 60,cA (top 7) 242 27 2 55 247) ::
 (nat_lit 61,fA (top 7) 60 pm0) ::
 (nat_lit 67,cA (top 8) 250 29 2 62 256) ::
 (nat_lit 68,fA (top 8) 67 pm0) ::
 (nat_lit 74,cA (top 9) 259 31 1 69 264) ::
 (nat_lit 75,fA (top 9) 74 pm0) ::
 (nat_lit 79,cB (top 10) 267 33 2 76 270) ::
 (nat_lit 80,fA (top 10) 79 pm0) ::
 (nat_lit 93,cq (λ_=>"Meetings.__init__") (inClass (top 12) 0) 287 38 2 3 88 89 (.ref 90) (.ref 91) 92 292 293) ::
 (nat_lit 94,fo (λ_=>"Meetings.__init__") (inClass (top 12) 0) 93 pm1) ::
 (nat_lit 100,cq (λ_=>"Meetings.living") (inClass (top 12) 1) 295 42 2 3 95 96 (.ref 97) (.ref 98) 99 301 302) ::
 (nat_lit 101,fo (λ_=>"Meetings.living") (inClass (top 12) 1) 100 pm1) ::
 (nat_lit 105,cq (λ_=>"Meetings.let_meet") (inClass (top 12) 2) 304 48 3 3 102 103 .none .none 104 307 308) ::
 (nat_lit 106,fo (λ_=>"Meetings.let_meet") (inClass (top 12) 2) 105 pm1) ::
 (nat_lit 115,⟨(.type "dict"),none,.dict ((d115_0 P)++(d115_8 P)).toArray 4,#[]⟩) ::
 (nat_lit 116,⟨(.type "type"),none,.cls ⟨"Meetings",[(.type "object")],[(.ref 116),(.type "object")],115,"Meetings",true,[],[],false,none,false⟩,#[none,none,(some (.str "Meetings" 275)),(some (.str "Meetings" 283)),(some (.builtin "object.__new__")),(some (.bool true))]⟩) ::
 (nat_lit 131,cq (λ_=>"Water.__init__") (inClass (top 13) 0) 340 60 3 3 128 129 .none .none 130 343 344) ::
 (nat_lit 132,fo (λ_=>"Water.__init__") (inClass (top 13) 0) 131 pm1) ::
 (nat_lit 138,cq (λ_=>"Water.start_now") (inClass (top 13) 1) 346 66 2 3 133 134 (.ref 135) (.ref 136) 137 351 352) ::
 (nat_lit 139,fo (λ_=>"Water.start_now") (inClass (top 13) 1) 138 pm1) ::
 (nat_lit 143,cq (λ_=>"Water.homes_around") (inClass (top 13) 2) 354 69 2 3 140 141 .none .none 142 357 358) ::
 (nat_lit 144,fo (λ_=>"Water.homes_around") (inClass (top 13) 2) 143 pm1) ::
 (nat_lit 150,cq (λ_=>"Water.let_come") (inClass (top 13) 3) 360 73 2 3 145 146 (.ref 147) (.ref 148) 149 366 367) ::
 (nat_lit 151,fo (λ_=>"Water.let_come") (inClass (top 13) 3) 150 pm1) ::
 (nat_lit 153,⟨(.type "dict"),none,.dict ((d153_0 P)++(d153_8 P)).toArray 4,#[]⟩) ::
 (nat_lit 154,⟨(.type "type"),none,.cls ⟨"Water",[(.type "object")],[(.ref 154),(.type "object")],153,"Water",true,[],[],false,none,false⟩,#[none,none,(some (.str "Water" 328)),(some (.str "Water" 336)),(some (.builtin "object.__new__")),(some (.bool true))]⟩) ::
 (nat_lit 164,cA (top 14) 381 76 3 159 389) ::
 (nat_lit 165,fA (top 14) 164 pm1) ::
 (nat_lit 169,cB (top 15) 392 81 3 166 395) ::
 (nat_lit 170,fA (top 15) 169 pm1) ::
 (nat_lit 176,cA (top 18) 402 86 1 171 409) ::
 (nat_lit 177,fA (top 18) 176 pm2) ::
 (nat_lit 181,cB (top 19) 412 91 3 178 415) ::
 (nat_lit 182,fA (top 19) 181 pm2) ::
 (nat_lit 188,cA (top 21) 420 96 2 183 425) ::
 (nat_lit 189,fA (top 21) 188 pm3) ::
 (nat_lit 195,cA (top 22) 428 100 2 190 433) ::
 (nat_lit 196,fA (top 22) 195 pm3) ::
 (nat_lit 202,cA (top 23) 436 102 3 197 443) ::
 (nat_lit 203,fA (top 23) 202 pm3) ::
 (nat_lit 207,cB (top 24) 446 111 2 204 449) ::
 (nat_lit 208,fA (top 24) 207 pm3) ::
 (nat_lit 212,cB (top 25) 452 113 2 209 455) ::
 (nat_lit 213,fA (top 25) 212 pm3) ::
 (nat_lit 219,cA (top 26) 458 122 2 214 463) ::
 (nat_lit 220,fA (top 26) 219 pm3) ::
 (nat_lit 226,cA (top 27) 466 124 1 221 472) ::
 (nat_lit 227,fA (top 27) 226 pm3) ::
 (nat_lit 231,cB (top 28) 475 129 1 228 478) ::
 (nat_lit 232,fA (top 28) 231 pm3) ::
 (nat_lit 243,cA (top 30) 487 136 3 238 499) ::
 (nat_lit 244,fA (top 30) 243 pm3) ::
 (nat_lit 248,cB (top 31) 502 145 2 245 505) ::
 (nat_lit 249,fA (top 31) 248 pm3) ::
 (nat_lit 253,cB (top 32) 508 148 3 250 511) ::
 (nat_lit 254,fA (top 32) 253 pm3) ::
 (nat_lit 260,cA (top 33) 514 163 3 255 523) ::
 (nat_lit 261,fA (top 33) 260 pm3) ::
 (nat_lit 267,cA (top 34) 526 171 1 262 538) ::
 (nat_lit 268,fA (top 34) 267 pm3) ::
 (nat_lit 272,cB (top 35) 541 185 1 269 544) ::
 (nat_lit 273,fA (top 35) 272 pm3) :: []
theorem all_mk {l:PySem.W.OpenLaw} {w:World} {K:Z3} {h:Heap} {mg:Str->Option Value} {fa:Addr} (X:K.In h) (G:h.Ns U8 mg) (hfa:mg "law"=some (.ref fa))
  {f1 f2 f3 f4 f5:Addr} {od1 an1 od2 an2 od3 an3 od4 an4 od5 an5:Option Addr} {sl1 sl2 sl3 sl4 sl5:Array (Option Value)} {oc1 kV1 dc1 pm1 cd1 ct1 oc2 kV2 dc2 pm2 cd2 ct2 oc3 kV3 dc3 pm3 cd3 ct3 oc4 kV4 dc4 pm4 cd4 ct4 oc5 kV5 dc5 pm5 cd5 ct5:Value}
  {CM CW:Addr}
  (G12:G8 K U8 "Meetings"=some (some (.ref CM))) (G13:D1 K CM Str.empty=true) (G14:A2 K CM=true) (G15:PySem.W.plainOver K CM=true) (G16:R4 K (.ref CM) "__setattr__"=some (some (.builtin "object.__setattr__"))) (G17:PySem.W.makesIn K CM=true) (G18:T5 K (.ref CM)=true)
  (G19:aU K CM "floor") (G20:aU K CM "ended")
  (G21:G8 K U8 "Water"=some (some (.ref CW))) (G22:D1 K CW Str.empty=true) (G23:A2 K CW=true) (G24:PySem.W.plainOver K CW=true) (G25:R4 K (.ref CW) "__setattr__"=some (some (.builtin "object.__setattr__"))) (G26:PySem.W.makesIn K CW=true) (G27:T5 K (.ref CW)=true)
  (G28:aU K CW "floor") (G29:aU K CW "reach") (G30:aU K CW "homes") (G31:aU K CW "meetings")
  (a1:R4 K (.ref CM) "__init__"=some (some (.ref f1))) (i1:PySem.W.isFn K (.ref f1)=true) (l1:K.lookup f1=some ⟨oc1,od1,.func (T7 "__init__" "Meetings.__init__" (b0 aN) (aF aN) (aa aN) .none kV1 dc1 pm1 an1 cd1 ct1),sl1⟩) (c1:P7 K cd1 "Meetings.__init__"=true) (k1:T5 K (.ref f1)=true)
  (a2:R4 K (.ref CW) "__init__"=some (some (.ref f2))) (i2:PySem.W.isFn K (.ref f2)=true) (l2:K.lookup f2=some ⟨oc2,od2,.func (T7 "__init__" "Water.__init__" (b0 bf) (aF bf) (aa bf) .none kV2 dc2 pm2 an2 cd2 ct2),sl2⟩) (c2:P7 K cd2 "Water.__init__"=true) (k2:T5 K (.ref f2)=true)
  (a3:G8 K U8 "earliest_of"=some (some (.ref f3))) (l3:K.lookup f3=some ⟨oc3,od3,.func (T7 "earliest_of" "earliest_of" (b0 bI) (aF bI) (aa bI) .none kV3 dc3 pm3 an3 cd3 ct3),sl3⟩) (c3:P7 K cd3 "earliest_of"=true) (k3:T5 K (.ref f3)=true)
  (a4:G8 K U8 "in_order"=some (some (.ref f4))) (l4:K.lookup f4=some ⟨oc4,od4,.func (T7 "in_order" "in_order" (b0 cR) (aF cR) (aa cR) .none kV4 dc4 pm4 an4 cd4 ct4),sl4⟩) (c4:P7 K cd4 "in_order"=true) (k4:T5 K (.ref f4)=true)
  (a5:G8 K U8 "law"=some (some (.ref f5))) (l5:K.lookup f5=some ⟨oc5,od5,.func (T7 "law" "law" (b0 ic) (aF ic) (aa ic) .none kV5 dc5 pm5 an5 cd5 ct5),sl5⟩) (c5:P7 K cd5 "law"=true) (k5:T5 K (.ref f5)=true)
  {cc3:Addr} (G32:cd3=.ref cc3) (G04:J4 K cc3 63=true)
  {cc4:Addr} (G33:cd4=.ref cc4) (G05:J4 K cc4 70=true)
  (G34:az K mg "_law_cell_at" iM ["_law_script","_law_k"])
  (G35:az K mg "_law_mixed" nN ["_law_number","_law_k"])
  (G36:az K mg "_law_height" kr ["_law_number","_law_k","_law_way"])
  (G37:az K mg "_law_folded" kt ["_law_heights_here","_law_columns"])
  (G38:az K mg "_law_floor" nO ["_law_script","_law_first"])
  (G39:az K mg "_law_any_floor" fH ["_law_script"])
  (G40:az K mg "_law_reach" nP ["_law_script","_law_first"])
  (G41:az K mg "_law_heights" iN ["_law_floor_here"])
  (G42:az K mg "_law_next" sr ["_law_size","_law_reach_here","_law_cell"])
  (G43:az K mg "_law_all_next" gD ["_law_floor_here","_law_reach_here"])
  (G44:az K mg "size_of" iO ["floor"])
  (G45:az K mg "all_cells" fI ["floor"])
  (G46:az K mg "neighbours" fi ["size","reach","cell"])
  (G47:bq K CW "homes_around" "Water.homes_around" bT ["self","cell"])
  (G48:bq K CM "living" "Meetings.living" cF ["self","start"])
  (G49:az K mg "height_of" fJ ["floor","cell"])
  (G50:az K mg "order_key" fL ["floor","cell"])
  (G51:bq K CM "let_meet" "Meetings.let_meet" c8 ["self","starts","meet"])
  (G52:bq K CW "let_come" "Water.let_come" cQ ["self","cell"])
  (G53:az K mg "water_over" cG ["floor","reach","cells"])
  (G54:az K mg "covered_at" fj ["floor","height"])
  (G55:bq K CW "start_now" "Water.start_now" cH ["self","cell"])
  (G56:az K mg "lakes_at" gE ["floor","reach","height"])
  (G57:az K mg "signs_of" gF ["starts"])
  (G58:az K mg "floor_of" gG ["size","heights"])
  (G59:az K mg "picture" iP ["floor","reach","height"])
  (G60:az K mg "_law_right" nQ ["_law_found","_law_signs","_law_floor_here"])
  (G61:az K mg "_law_order" nR ["_law_heights_here"])
  (G62:az K mg "_law_letters" iQ ["_law_heights_here","_law_beside","_law_high"])
  (B:Blt mg) (Cg:Glb mg) :
  ∃ fd:C9,(∀ (s:Shared) (v:Value),BindsTo s fd ⟨[v],[]⟩ [("_law_script",v)])/\(∀ P∈(konL [(63,(("earliest_of":Str)++".<locals>.")++"<lambda>"),(70,(("in_order":Str)++".<locals>.")++"<lambda>")]).T,∃ c,J4 K c P=true)/\∀ base:Heap,K.In base->base.Ns U8 mg->BM mg base->FnOk l.prog w K mg base CX0 14 fa fd ["_law_script"] (@spLaw (konL [(63,(("earliest_of":Str)++".<locals>.")++"<lambda>"),(70,(("in_order":Str)++".<locals>.")++"<lambda>")]) K):=by
 letI:Kon:=(konL [(63,(("earliest_of":Str)++".<locals>.")++"<lambda>"),(70,(("in_order":Str)++".<locals>.")++"<lambda>")])
 have e:=hfa.symm.trans (PySem.W.mg_of X G a5)
 cases e
 have kM:MK K CM:=⟨⟨G13,G14,G15,G16⟩,G19,G20⟩
 have kW:WK K CW:=⟨⟨G22,G23,G24,G25⟩,G28,G29,G30,G31⟩
 have G94:gA K mg "Meetings" CM "Meetings.__init__" aN ["self","floor"]:=init_mk X G G12 a1 l1 c1 k1 i1 G17 G18 λ_ _ _ _ _ _ us hl=>by obtain ⟨_,_,rfl⟩:=L2.len2 hl; rfl
 have G95:gA K mg "Water" CW "Water.__init__" bf ["self","floor","reach"]:=init_mk X G G21 a2 l2 c2 k2 i2 G26 G27 λ_ _ _ _ _ _ us hl=>by obtain ⟨_,_,_,rfl⟩:=L2.len3 hl; rfl
 have G96:dt K mg "earliest_of" bI ["floor","cells"] cc3:=def_mkC X G a3 l3 c3 k3 G32 λ_ _ _ _ _ _ us hl=>by obtain ⟨_,_,rfl⟩:=L2.len2 hl; rfl
 have G97:dt K mg "in_order" cR ["floor"] cc4:=def_mkC X G a4 l4 c4 k4 G33 λ_ _ _ _ _ _ us hl=>by obtain ⟨_,rfl⟩:=L2.len1 hl; rfl
 have F_law:=eJ (st:=ic) l5 c5 k5
 refine ⟨T7 "law" "law" (b0 ic) (aF ic) (aa ic) .none kV5 dc5 pm5 an5 cd5 ct5,λs v=>.of_eq rfl,List.forall_mem_cons.mpr ⟨⟨_,G04⟩,List.forall_mem_cons.mpr ⟨⟨_,G05⟩,λ_ h=>nomatch h⟩⟩,λbase _ _ bm=>?_⟩
 have G06:=su (P:=l.prog) (w:=w) (base:=base) G34 B Cg  kM kW
 have G63:=ok_mixed (P:=l.prog) (w:=w) (base:=base) G35 B Cg  kM kW
 have G98:=ok_height (P:=l.prog) (w:=w) (base:=base) G36 B Cg  kM kW G63
 have G99:=ok_folded (P:=l.prog) (w:=w) (base:=base) G37 B Cg  kM kW
 have G100:=ok_floor (P:=l.prog) (w:=w) (base:=base) G38 B Cg  kM kW G06 G98 G99
 have G101:=nT (P:=l.prog) (w:=w) (base:=base) G39 B Cg  kM kW G06 G63 G100
 have G102:=ok_reach (P:=l.prog) (w:=w) (base:=base) G40 B Cg  kM kW G06 G63
 have G103:=sv (P:=l.prog) (w:=w) (base:=base) G41 B Cg  kM kW
 have G104:=ok_next (P:=l.prog) (w:=w) (base:=base) G42 B Cg  kM kW
 have G105:=ql (P:=l.prog) (w:=w) (base:=base) G43 B Cg  kM kW G104
 have G07:=sw (P:=l.prog) (w:=w) (base:=base) G44 B Cg  kM kW
 have G64:=nU (P:=l.prog) (w:=w) (base:=base) G45 B Cg  kM kW G07
 have G106:=fO (P:=l.prog) (w:=w) (base:=base) G94 B Cg  kM kW
 have G107:=ii (P:=l.prog) (w:=w) (base:=base) G95 B Cg  kM kW G64 G106
 have G108:=li (P:=l.prog) (w:=w) (base:=base) G46 B Cg  kM kW
 have G109:=fq (P:=l.prog) (w:=w) (base:=base) G47 B Cg  kM kW G07 G108
 have G68:=gH (P:=l.prog) (w:=w) (base:=base) G48 B Cg  kM kW
 have G69:=nV (P:=l.prog) (w:=w) (base:=base) G49 B Cg  kM kW G07
 have G70:=nW (P:=l.prog) (w:=w) (base:=base) G50 B Cg  kM kW G69
 have G110:=kG (P:=l.prog) (w:=w) (base:=base) G96 ⟨bm,G04,by first | exact B3 _ | exact List.Mem.tail _ (B3 _) | exact List.Mem.tail _ (List.Mem.tail _ (B3 _)),by first | rfl | decide +kernel⟩ B Cg  kM kW G70
 have G111:=fP (P:=l.prog) (w:=w) (base:=base) G51 B Cg  kM kW G68 G110
 have G112:=ik (P:=l.prog) (w:=w) (base:=base) G52 B Cg  kM kW G109 G111
 have G113:=lh (P:=l.prog) (w:=w) (base:=base) G53 B Cg  kM kW G107 G112
 have G71:=qm (P:=l.prog) (w:=w) (base:=base) G97 ⟨bm,G05,by first | exact B3 _ | exact List.Mem.tail _ (B3 _) | exact List.Mem.tail _ (List.Mem.tail _ (B3 _)),by first | rfl | decide +kernel⟩ B Cg  kM kW G64 G70
 have G114:=lj (P:=l.prog) (w:=w) (base:=base) G54 B Cg  kM kW G69 G71
 have G115:=gJ (P:=l.prog) (w:=w) (base:=base) G55 B Cg  kM kW G68
 have G116:=qo (P:=l.prog) (w:=w) (base:=base) G56 B Cg  kM kW G64 G113 G114 G115
 have G117:=qp (P:=l.prog) (w:=w) (base:=base) G57 B Cg  kM kW
 have G118:=qq (P:=l.prog) (w:=w) (base:=base) G58 B Cg  kM kW
 have G119:=sA (P:=l.prog) (w:=w) (base:=base) G59 B Cg  kM kW G07 G71 G116 G117 G118
 have G120:=ok_right (P:=l.prog) (w:=w) (base:=base) G60 B Cg  kM kW
 have G121:=ok_order (P:=l.prog) (w:=w) (base:=base) G61 B Cg  kM kW
 have G122:=sB (P:=l.prog) (w:=w) (base:=base) G62 B Cg  kM kW G121
 exact ok_law F_law B Cg kM kW G06 G101 G102 G103 G105 G119 G120 G122 holds
theorem walk {l:PySem.W.OpenLaw} {q:W5} {loose:List Str} {XP:(Str->Option Value)->Heap->Prop} {YP:World->Heap->Prop} {d:DefRec} {K:Params->Z3} (hn:l.most=some 63) (hdf:d.params.defaults=[])
  (hY:∀ (w:World) (h:Heap),YP w h->(K w.params).In h/\∀ P∈(konL [(63,(("earliest_of":Str)++".<locals>.")++"<lambda>"),(70,(("in_order":Str)++".<locals>.")++"<lambda>")]).T,h.get? P=some (PySem.W.tabObj #[])) (hC:∀ (w:World),∀ P∈(konL [(63,(("earliest_of":Str)++".<locals>.")++"<lambda>"),(70,(("in_order":Str)++".<locals>.")++"<lambda>")]).T,(K w.params).lookup P=none)
  (F:∀ (w:World) (mg:Str->Option Value) (fa:Addr) (h:Heap),(K w.params).In h->h.Ns U8 mg->mg d.name=some (.ref fa) ->
   ∃ fd:C9,(∀ (s:Shared) (u:Value),BindsTo s fd ⟨[u],[]⟩ [("_law_script",u)])/\(∀ P∈(konL [(63,(("earliest_of":Str)++".<locals>.")++"<lambda>"),(70,(("in_order":Str)++".<locals>.")++"<lambda>")]).T,∃ c,J4 (K w.params) c P=true)/\∀ base:Heap,(K w.params).In base->base.Ns U8 mg->BM mg base->FnOk l.prog w (K w.params) mg base CX0 14 fa fd ["_law_script"] (@spLaw (konL [(63,(("earliest_of":Str)++".<locals>.")++"<lambda>"),(70,(("in_order":Str)++".<locals>.")++"<lambda>")]) (K w.params))) :
  PySem.W.WalkO q loose XP YP l.row.toRowW d [] (λf vs=>PySem.call f vs) :=
 letI:Kon:=(konL [(63,(("earliest_of":Str)++".<locals>.")++"<lambda>"),(70,(("in_order":Str)++".<locals>.")++"<lambda>")])
 L2.walk_ofT (n:=63) (k:=14) (x:="_law_script") (sp:=λw=>spLaw (K w.params)) hn (by decide) hdf ⟨rfl,by decide,by decide⟩ hY hC F (λ_ _ a ns hl tg hS=>⟨a,ns,rfl,hS,hl,tg,λ_=>rfl⟩)
end K36
open PySem PySem.W PyProof.Rows
set_option maxRecDepth 100000 in
set_option maxHeartbeats 0 in
theorem PySem.Challenge.cw_floodtree_k36_pictures_holds : PySem.Challenge.rw_floodtree_k36_pictures.Holds := by
 w_on; o_law; o_head (PySem.W.kmHook K36.fK [3,27,28,34,35,41,42,48,49,53,54,60,61,67,68,74,75,79,80,93,94,100,101,105,106,115,116,131,132,138,139,143,144,150,151,153,154,164,165,169,170,176,177,181,182,188,189,195,196,202,203,207,208,212,213,219,220,226,227,231,232,243,244,248,249,253,254,260,261,267,268,272,273] (λ_=>by kernel_rfl) [63,70]); (case hw=>w_witness2)
 k_fill
 refine K36.walk (l:=PySem.Challenge.rw_floodtree_k36_pictures) rfl rfl (λw h Y=>⟨PySem.W.km_in_of Y,PySem.W.km_tabs_of Y⟩) (λw=>?C) ?F
 case F =>
  intro w mg fa h KX G hmg
  refine' K36.all_mk KX G hmg ?G12 ?G13 ?G14 ?G15 ?G16 ?G17 ?G18 ?G19 ?G20 ?G21 ?G22 ?G23 ?G24 ?G25 ?G26 ?G27 ?G28 ?G29 ?G30 ?G31 ?a1 ?i1 ?l1 ?c1 ?k1 ?a2 ?i2 ?l2 ?c2 ?k2 ?a3 ?l3 ?c3 ?k3 ?a4 ?l4 ?c4 ?k4 ?a5 ?l5 ?c5 ?k5 ?G32 ?G04 ?G33 ?G05 ?G34 ?G35 ?G36 ?G37 ?G38 ?G39 ?G40 ?G41 ?G42 ?G43 ?G44 ?G45 ?G46 ?G47 ?G48 ?G49 ?G50 ?G51 ?G52 ?G53 ?G54 ?G55 ?G56 ?G57 ?G58 ?G59 ?G60 ?G61 ?G62 ?B ?Cg
  (case G12=>k_is); (case G13=>k_is); (case G14=>k_is); (case G15=>k_is); (case G16=>k_is); (case G17=>k_is); (case G18=>k_is); (case G19=>unfold L2.aU; k_is); (case G20=>unfold L2.aU; k_is)
  (case G21=>k_is); (case G22=>k_is); (case G23=>k_is); (case G24=>k_is); (case G25=>k_is); (case G26=>k_is); (case G27=>k_is); (case G28=>unfold L2.aU; k_is); (case G29=>unfold L2.aU; k_is); (case G30=>unfold L2.aU; k_is); (case G31=>unfold L2.aU; k_is)
  (case a1=>k_is); (case i1=>k_is); (case l1=>k_is); (case c1=>k_is); (case k1=>k_is)
  (case a2=>k_is); (case i2=>k_is); (case l2=>k_is); (case c2=>k_is); (case k2=>k_is)
  (case a3=>k_is); (case l3=>k_is); (case c3=>k_is); (case k3=>k_is)
  (case a4=>k_is); (case l4=>k_is); (case c4=>k_is); (case k4=>k_is)
  (case a5=>k_is); (case l5=>k_is); (case c5=>k_is); (case k5=>k_is)
  (case G32=>rfl); (case G04=>kernel_rfl)
  (case G33=>rfl); (case G05=>kernel_rfl)
  (case G34=>refine' L2.b7 KX G ?a ?l ?c ?k (λ_ _ _ _ _ _ us hl=>by obtain ⟨_,_,rfl⟩:=L2.len2 hl; rfl); case a | l | c | k=>k_is)
  (case G35=>refine' L2.b7 KX G ?a ?l ?c ?k (λ_ _ _ _ _ _ us hl=>by obtain ⟨_,_,rfl⟩:=L2.len2 hl; rfl); case a | l | c | k=>k_is)
  (case G36=>refine' L2.b7 KX G ?a ?l ?c ?k (λ_ _ _ _ _ _ us hl=>by obtain ⟨_,_,_,rfl⟩:=L2.len3 hl; rfl); case a | l | c | k=>k_is)
  (case G37=>refine' L2.b7 KX G ?a ?l ?c ?k (λ_ _ _ _ _ _ us hl=>by obtain ⟨_,_,rfl⟩:=L2.len2 hl; rfl); case a | l | c | k=>k_is)
  (case G38=>refine' L2.b7 KX G ?a ?l ?c ?k (λ_ _ _ _ _ _ us hl=>by obtain ⟨_,_,rfl⟩:=L2.len2 hl; rfl); case a | l | c | k=>k_is)
  (case G39=>refine' L2.b7 KX G ?a ?l ?c ?k (λ_ _ _ _ _ _ us hl=>by obtain ⟨_,rfl⟩:=L2.len1 hl; rfl); case a | l | c | k=>k_is)
  (case G40=>refine' L2.b7 KX G ?a ?l ?c ?k (λ_ _ _ _ _ _ us hl=>by obtain ⟨_,_,rfl⟩:=L2.len2 hl; rfl); case a | l | c | k=>k_is)
  (case G41=>refine' L2.b7 KX G ?a ?l ?c ?k (λ_ _ _ _ _ _ us hl=>by obtain ⟨_,rfl⟩:=L2.len1 hl; rfl); case a | l | c | k=>k_is)
  (case G42=>refine' L2.b7 KX G ?a ?l ?c ?k (λ_ _ _ _ _ _ us hl=>by obtain ⟨_,_,_,rfl⟩:=L2.len3 hl; rfl); case a | l | c | k=>k_is)
  (case G43=>refine' L2.b7 KX G ?a ?l ?c ?k (λ_ _ _ _ _ _ us hl=>by obtain ⟨_,_,rfl⟩:=L2.len2 hl; rfl); case a | l | c | k=>k_is)
  (case G44=>refine' L2.b7 KX G ?a ?l ?c ?k (λ_ _ _ _ _ _ us hl=>by obtain ⟨_,rfl⟩:=L2.len1 hl; rfl); case a | l | c | k=>k_is)
  (case G45=>refine' L2.b7 KX G ?a ?l ?c ?k (λ_ _ _ _ _ _ us hl=>by obtain ⟨_,rfl⟩:=L2.len1 hl; rfl); case a | l | c | k=>k_is)
  (case G46=>refine' L2.b7 KX G ?a ?l ?c ?k (λ_ _ _ _ _ _ us hl=>by obtain ⟨_,_,_,rfl⟩:=L2.len3 hl; rfl); case a | l | c | k=>k_is)
  (case G47=>letI:L2.Kon:=L2.kon0; refine' L2.gY ?a ?l ?c ?k ?i (λ_ _ _ _ _ _ us hl=>by obtain ⟨_,_,rfl⟩:=L2.len2 hl; rfl); (case a=>k_is); (case l=>k_is); (case c=>k_is); (case k=>k_is); (case i=>k_is))
  (case G48=>letI:L2.Kon:=L2.kon0; refine' L2.gY ?a ?l ?c ?k ?i (λ_ _ _ _ _ _ us hl=>by obtain ⟨_,_,rfl⟩:=L2.len2 hl; rfl); (case a=>k_is); (case l=>k_is); (case c=>k_is); (case k=>k_is); (case i=>k_is))
  (case G49=>refine' L2.b7 KX G ?a ?l ?c ?k (λ_ _ _ _ _ _ us hl=>by obtain ⟨_,_,rfl⟩:=L2.len2 hl; rfl); case a | l | c | k=>k_is)
  (case G50=>refine' L2.b7 KX G ?a ?l ?c ?k (λ_ _ _ _ _ _ us hl=>by obtain ⟨_,_,rfl⟩:=L2.len2 hl; rfl); case a | l | c | k=>k_is)
  (case G51=>letI:L2.Kon:=L2.kon0; refine' L2.gY ?a ?l ?c ?k ?i (λ_ _ _ _ _ _ us hl=>by obtain ⟨_,_,_,rfl⟩:=L2.len3 hl; rfl); (case a=>k_is); (case l=>k_is); (case c=>k_is); (case k=>k_is); (case i=>k_is))
  (case G52=>letI:L2.Kon:=L2.kon0; refine' L2.gY ?a ?l ?c ?k ?i (λ_ _ _ _ _ _ us hl=>by obtain ⟨_,_,rfl⟩:=L2.len2 hl; rfl); (case a=>k_is); (case l=>k_is); (case c=>k_is); (case k=>k_is); (case i=>k_is))
  (case G53=>refine' L2.b7 KX G ?a ?l ?c ?k (λ_ _ _ _ _ _ us hl=>by obtain ⟨_,_,_,rfl⟩:=L2.len3 hl; rfl); case a | l | c | k=>k_is)
  (case G54=>refine' L2.b7 KX G ?a ?l ?c ?k (λ_ _ _ _ _ _ us hl=>by obtain ⟨_,_,rfl⟩:=L2.len2 hl; rfl); case a | l | c | k=>k_is)
  (case G55=>letI:L2.Kon:=L2.kon0; refine' L2.gY ?a ?l ?c ?k ?i (λ_ _ _ _ _ _ us hl=>by obtain ⟨_,_,rfl⟩:=L2.len2 hl; rfl); (case a=>k_is); (case l=>k_is); (case c=>k_is); (case k=>k_is); (case i=>k_is))
  (case G56=>refine' L2.b7 KX G ?a ?l ?c ?k (λ_ _ _ _ _ _ us hl=>by obtain ⟨_,_,_,rfl⟩:=L2.len3 hl; rfl); case a | l | c | k=>k_is)
  (case G57=>refine' L2.b7 KX G ?a ?l ?c ?k (λ_ _ _ _ _ _ us hl=>by obtain ⟨_,rfl⟩:=L2.len1 hl; rfl); case a | l | c | k=>k_is)
  (case G58=>refine' L2.b7 KX G ?a ?l ?c ?k (λ_ _ _ _ _ _ us hl=>by obtain ⟨_,_,rfl⟩:=L2.len2 hl; rfl); case a | l | c | k=>k_is)
  (case G59=>refine' L2.b7 KX G ?a ?l ?c ?k (λ_ _ _ _ _ _ us hl=>by obtain ⟨_,_,_,rfl⟩:=L2.len3 hl; rfl); case a | l | c | k=>k_is)
  (case G60=>refine' L2.b7 KX G ?a ?l ?c ?k (λ_ _ _ _ _ _ us hl=>by obtain ⟨_,_,_,rfl⟩:=L2.len3 hl; rfl); case a | l | c | k=>k_is)
  (case G61=>refine' L2.b7 KX G ?a ?l ?c ?k (λ_ _ _ _ _ _ us hl=>by obtain ⟨_,rfl⟩:=L2.len1 hl; rfl); case a | l | c | k=>k_is)
  (case G62=>refine' L2.b7 KX G ?a ?l ?c ?k (λ_ _ _ _ _ _ us hl=>by obtain ⟨_,_,_,rfl⟩:=L2.len3 hl; rfl); case a | l | c | k=>k_is)
  (case B=>refine' ⟨U4 KX G ?_,U4 KX G ?_,U4 KX G ?_,U4 KX G ?_,U4 KX G ?_,U4 KX G ?_,U4 KX G ?_,U4 KX G ?_,U4 KX G ?_,U4 KX G ?_,U4 KX G ?_,U4 KX G ?_,U4 KX G ?_,U4 KX G ?_⟩ <;> k_is)
  (case Cg=>letI:L2.Kon:=L2.kon0; refine' ⟨U4 KX G ?n1,U4 KX G ?n2,L2.cst_mk KX G ?c0 ?r0⟩; (case n1=>k_is); (case n2=>k_is); (case c0=>k_is); (case r0=>exact ⟨_,rfl⟩))
 case C =>
  refine List.forall_mem_cons.mpr ⟨?_,List.forall_mem_cons.mpr ⟨?_,λ_ h=>nomatch h⟩⟩
  all_goals kernel_rfl
#print axioms PySem.Challenge.cw_floodtree_k36_pictures_holds