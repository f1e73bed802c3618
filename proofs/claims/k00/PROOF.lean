import PyProof.Rows.All
import Wide.All
import OpenK.AllK
import Wide.FinOn
import KE.GoesEnum
import KE.GoesZip
import HandS.ForMost
import HandS.Defaults
import HandS.ExpandTabs
import HandS.Translate
import HandS.Wide
import HandS.IsInst
import HandS.NoneIn
import HandS.StrMore
import HandS.Evl
import KE.KStateDown
import Lean
import HandS.Head0
import HandS.Head1
import HandS.Head2
import HandS.HeadEnd
import HandS.HeadHook1
import HandS.HeadHook2
import PySem.Challenge.RW_sidesigns_k00_rows_sign_by_sign
set_option Elab.async false
set_option linter.all false
set_option maxRecDepth 100000
set_option maxHeartbeats 4000000
/-! walks over enumerate(text), enumerate(tuple), zip(text, text) -/
namespace Z
open PySem PySem.Spec PyProof.Rows L2
/-- the signs of a text, as values -/
def signs (x : Str) : List V := x.cps.toList.map fun c => V.str ⟨#[c]⟩
theorem signs_len (x : Str) : (signs x).length = x.cps.size := by unfold signs; simp
/-- enumerate(text): a new pair each -/
def ItEs (x : Str) : It :=
  ⟨fun i _ => i < x.cps.size, fun i H v H' => ∃ T c, v = .ref T ∧ H T = none ∧ H' = upd H T (.tup [.int (i : Nat), .str ⟨#[c]⟩]) ∧ x.cps[i]? = some c, fun i _ => x.cps.size ≤ i⟩
theorem turn_enumS {P : Program} {w : World} {K : PySem.W.Frag} {elts : List Expr} {kk : Nat} {tpos : Pos} (x : Str) (t : Tok) (e it : Addr) :
    Turn P w K (.Tuple elts kk tpos) (ItEs x) [e, it] e (fun i h => i ≤ x.cps.size ∧ (∃ old, IsEnum h e it ((i : Nat) : Int) old) ∧ h.IsStrIter it (strIterType x) x t i ∧ e ≠ it) where
  mem := by simp
  obj := fun i h st b hb => by
    obtain ⟨_, ⟨old, he⟩, ⟨o, ho, hc, hd⟩, _⟩ := st
    have e' : b = e ∨ b = it := by simpa using hb
    rcases e' with z | z
    · rw [z]; exact ⟨_, he, fun v q => nomatch q⟩
    · rw [z]; exact ⟨o, ho, fun v q => by rw [hd] at q; cases q⟩
  keep := fun i h h' st k => by
    obtain ⟨hn, ⟨old, he⟩, ⟨o, ho, r⟩, hne⟩ := st
    exact ⟨hn, ⟨old, k e (by simp) _ he⟩, ⟨o, k it (by simp) o ho, r⟩, hne⟩
  item := by
    intro X hP hw hK hc i pins s σ H E I hf st hg
    subst hP hw hK
    obtain ⟨hn, ⟨old, he⟩, hit, hne⟩ := st
    have hg : i < x.cps.size := hg
    have hel : e < s.heap.objs.size := Heap.lt_size he
    have hil : it < s.heap.objs.size := by obtain ⟨_, q, _⟩ := hit; exact Heap.lt_size q
    have D := Draws.text (prog := X.prog) (w := X.w) (A := X.A.in1) (I.ok.hd hc) it x t
    refine wpAny_pyNext_enum_itemD D he hit hg hne (by simpa using hne) fun u h' tk hu ho hit' hT hsz hk => ?_
    obtain ⟨c, u', hcx, rfl⟩ := hu
    refine ⟨_, rfl, wpAny_letOwnedTupleGo_enum (s := { s with heap := h', toks := tk + 1 }) ho fun h'' he' sb => ?_⟩
    have hT2 : h''.get? s.heap.objs.size = some { cls := .type "tuple", data := .seq #[.int i tk, .str ⟨#[c]⟩ u'] } := (sb.2 _ (Nat.ne_of_gt hel)).trans hT
    have new : ObjOk X.prog X.w (upd H s.heap.objs.size (.tup [.int (i : Nat), .str ⟨#[c]⟩])) h'' s.heap.objs.size (.tup [.int (i : Nat), .str ⟨#[c]⟩]) :=
      ⟨by show 2 ≤ sizeLine; decide, [.int i tk, .str ⟨#[c]⟩ u'], .cons ⟨_, rfl⟩ (.cons ⟨_, rfl⟩ .nil), ⟨_, hT2, rfl, _, rfl⟩⟩
    have I1 : Inv X pins σ (upd H s.heap.objs.size (.tup [.int (i : Nat), .str ⟨#[c]⟩])) { s with heap := h'', toks := tk + 1 } :=
      I.turnedNew (ch := [e, it]) (fun b ob hb q => (sb.2 b (fun z => hb (by simp [z]))).trans (hk b ob (fun z => hb (by simp [z])) (fun z => hb (by simp [z])) q)) hf (Nat.le_refl _) new
    refine ⟨.ref s.heap.objs.size, _, I1, rfl, ⟨_, c, rfl, I.hok.fresh (Nat.le_refl _), rfl, hcx⟩, ⟨hg, ⟨.str ⟨#[c]⟩ u', ?_⟩, ?_, hne⟩, fun b hb => ?_⟩
    · have e1 : ((i + 1 : Nat) : Int) = (i : Int) + 1 := by omega
      rw [e1]; exact he'
    · obtain ⟨o, ho', r⟩ := hit'
      exact ⟨o, (sb.2 it (Ne.symm hne)).trans ho', r⟩
    · have hb' : b < s.heap.objs.size := by
        have e' : b = e ∨ b = it := by simpa using hb
        rcases e' with z | z
        · rw [z]; exact hel
        · rw [z]; exact hil
      rw [upd_ne (Nat.ne_of_lt hb')]
      exact (hf b hb).1
  done := by
    intro X hP hw hK hc i pins s σ H E I hf st hg
    subst hP hw hK
    obtain ⟨hn, ⟨old, he⟩, hit, hne⟩ := st
    have hg : x.cps.size ≤ i := hg
    have ei : i = x.cps.size := by omega
    subst ei
    obtain ⟨f0, f1, f2, f3, f4, f5⟩ := hf it (by simp)
    have D := Draws.text (prog := X.prog) (w := X.w) (A := X.A.in1) (I.ok.hd hc) it x t
    exact wpAny_pyNext_enum_endD D he hit fun h' eb => ⟨rfl, I.turned (t' := s.toks) (fun b o hb q => eb b o hb q) f0 f1 f3 f4 f5⟩
  self := fun A i s Q E st h => let ⟨_, ⟨_, he⟩, _⟩ := st; wpAny_pyIter_enum he h
def iEnumS (ta : TA) : TI := fun σ H R => ta σ H fun vs H1 => ∃ x, vs = [.str x] ∧ R (ItEs x) H1
theorem pi_enumS {X : Cx} {e : Expr} {ta : TA} {p pos tpos : Pos} {elts : List Expr} {kk : Nat} (hg : Gl X "enumerate") (hm : X.mg "enumerate" = none) (ha : PA X [e] ta) (hs : starEach [e] X.env = [(false, eval e X.env)] := by rfl) :
    PI X (.Tuple elts kk tpos) (.Call (.Name "enumerate" p) [e] [] pos) (iEnumS ta) := by
  refine ⟨fun pins s σ H R I h => ?_⟩
  refine Call_ (ld_blt I hg hm boot_enumerate (PyProof.Rows.callWith_type1 (thn (ha.run pos pins s σ H _ I h) fun us s1 ⟨vs, H1, I1, r1, q1⟩ => ?_) hs rfl))
  obtain ⟨x, ex, q⟩ := q1
  subst ex
  cases r1 with
  | cons r rr =>
    cases rr
    obtain ⟨t, rfl⟩ := r
    refine call_enumerate_str fun h' he hit hsz hk => wpAny_pyIter_enum he ?_
    have I2 : Inv X pins σ H1 { s1 with heap := h' } := I1.kept (t' := s1.toks) hk
    refine ⟨s1.heap.objs.size + 1, [s1.heap.objs.size + 1, s1.heap.objs.size], _, _, H1, rfl, I2, turn_enumS x t (s1.heap.objs.size + 1) s1.heap.objs.size, ⟨Nat.zero_le _, ⟨.none, he⟩, hit, Nat.succ_ne_self _⟩, fun b hb => ?_, q⟩
    have e' : b = s1.heap.objs.size + 1 ∨ b = s1.heap.objs.size := by simpa using hb
    have hle : s1.heap.objs.size ≤ b := by
      rcases e' with z | z
      · rw [z]; exact Nat.le_add_right _ _
      · rw [z]; exact Nat.le_refl _
    exact I1.fpOk hle (I1.hok.fresh hle)
/-- enumerate(tuple): a new pair each -/
def ItEt (K : PySem.W.Frag) (a : Addr) : It :=
  ⟨fun i H => ∃ xs x, SqT K H a xs ∧ xs[i]? = some x, fun i H v H' => ∃ T x, v = .ref T ∧ H T = none ∧ H' = upd H T (.tup [.int (i : Nat), x]) ∧ ∀ xs, SqT K H a xs → xs[i]? = some x, fun i H => ∃ xs, SqT K H a xs ∧ xs.length = i⟩
theorem ne_tuple {h : Heap} {e it a : Addr} {i : Int} {old : Value} {its : Array Value} (he : IsEnum h e it i old) (ht : h.IsTuple a its) : e ≠ a := by
  intro z
  subst z
  obtain ⟨o, ho, hc, _⟩ := ht
  rw [he] at ho
  cases ho
  exact absurd hc (by intro h; injection h with h; exact absurd h (by decide))
theorem turn_enumT {P : Program} {w : World} {K : PySem.W.Frag} {elts : List Expr} {kk : Nat} {tpos : Pos} (a e it : Addr) :
    Turn P w K (.Tuple elts kk tpos) (ItEt K a) [e, it] e (fun i h => (∃ old, IsEnum h e it ((i : Nat) : Int) old) ∧ h.IsTupleIter it a i ∧ e ≠ it ∧ a ≠ it) where
  mem := by simp
  obj := fun i h st b hb => by
    obtain ⟨⟨old, he⟩, ⟨o, ho, hc, hd⟩, _⟩ := st
    have e' : b = e ∨ b = it := by simpa using hb
    rcases e' with z | z
    · rw [z]; exact ⟨_, he, fun v q => nomatch q⟩
    · rw [z]; exact ⟨o, ho, fun v q => by rw [hd] at q; cases q⟩
  keep := fun i h h' st k => by
    obtain ⟨⟨old, he⟩, hi, hne⟩ := st
    exact ⟨⟨old, k e (by simp) _ he⟩, hi.at fun o q => k it (by simp) o q, hne⟩
  item := by
    intro X hP hw hK hc i pins s σ H E I hf st hg
    subst hP hw hK
    obtain ⟨⟨old, he⟩, hit, hne, hna⟩ := st
    obtain ⟨xs, x, hq, hx⟩ := hg
    obtain ⟨its, rv, p, hz⟩ := I.tuple hq
    obtain ⟨u, hu, ru⟩ := rv.get hx
    have hlt : i < its.toArray.size := by
      have q := (List.getElem?_eq_some_iff.mp hu).1
      simpa using q
    have hel : e < s.heap.objs.size := Heap.lt_size he
    have hil : it < s.heap.objs.size := by obtain ⟨_, q, _⟩ := hit; exact Heap.lt_size q
    have hea : e ≠ a := ne_tuple he p
    have D := Draws.tuple (prog := X.prog) (w := X.w) (A := X.A.in1) (I.ok.hd hc) it a hna its.toArray
    refine wpAny_pyNext_enum_itemD D he ⟨hit, p⟩ hlt hne (by simp [hne, hea]) fun u1 h' tk hu1 ho hit' hT hsz hk => ?_
    have hu2 : its[i]? = some u1 := by simpa using hu1
    rw [hu] at hu2
    cases hu2
    refine ⟨_, rfl, wpAny_letOwnedTupleGo_enum (s := { s with heap := h', toks := tk + 1 }) ho fun h'' he' sb => ?_⟩
    have hT2 : h''.get? s.heap.objs.size = some { cls := .type "tuple", data := .seq #[.int i tk, u] } := (sb.2 _ (Nat.ne_of_gt hel)).trans hT
    have new : ObjOk X.prog X.w (upd H s.heap.objs.size (.tup [.int (i : Nat), x])) h'' s.heap.objs.size (.tup [.int (i : Nat), x]) :=
      ⟨by show 2 ≤ sizeLine; decide, [.int i tk, u], .cons ⟨_, rfl⟩ (.cons ru .nil), ⟨_, hT2, rfl, _, rfl⟩⟩
    have I1 : Inv X pins σ (upd H s.heap.objs.size (.tup [.int (i : Nat), x])) { s with heap := h'', toks := tk + 1 } :=
      I.turnedNew (ch := [e, it]) (fun b ob hb q => (sb.2 b (fun z => hb (by simp [z]))).trans (hk b ob (fun z => hb (by simp [z])) (fun z => hb (by simp [z])) q)) hf (Nat.le_refl _) new
    refine ⟨.ref s.heap.objs.size, _, I1, rfl, ⟨_, x, rfl, I.hok.fresh (Nat.le_refl _), rfl, fun ys hy => by rw [I.tuple_inj hy hq]; exact hx⟩, ⟨⟨u, ?_⟩, hit'.1.at fun o q => (sb.2 it (Ne.symm hne)).trans q, hne, hna⟩, fun b hb => ?_⟩
    · have e1 : ((i + 1 : Nat) : Int) = (i : Int) + 1 := by omega
      rw [e1]; exact he'
    · have hb' : b < s.heap.objs.size := by
        have e' : b = e ∨ b = it := by simpa using hb
        rcases e' with z | z
        · rw [z]; exact hel
        · rw [z]; exact hil
      rw [upd_ne (Nat.ne_of_lt hb')]
      exact (hf b hb).1
  done := by
    intro X hP hw hK hc i pins s σ H E I hf st hg
    subst hP hw hK
    obtain ⟨⟨old, he⟩, hit, hne, hna⟩ := st
    obtain ⟨xs, hq, hx⟩ := hg
    obtain ⟨its, rv, p, hz⟩ := I.tuple hq
    obtain ⟨f0, f1, f2, f3, f4, f5⟩ := hf it (by simp)
    have hl := rv.length
    have D := Draws.tuple (prog := X.prog) (w := X.w) (A := X.A.in1) (I.ok.hd hc) it a hna its.toArray
    have hi : i = its.toArray.size := by simp; omega
    rw [hi] at hit
    exact wpAny_pyNext_enum_endD D he ⟨hit, p⟩ fun h' eb => ⟨rfl, I.turned (t' := s.toks) (fun b o hb q => eb b o hb q) f0 f1 f3 f4 f5⟩
  self := fun A i s Q E st h => let ⟨⟨_, he⟩, _⟩ := st; wpAny_pyIter_enum he h
set_option maxHeartbeats 1000000 in
theorem meets_enumerate_newB0 {v : Value} {o : Obj} {H : Heap → Prop} (B : Begins v o H) :
    Meets (Builtin.«enumerate.__new__» ⟨[.type "enumerate", v], []⟩) (fun _ R s => H s.heap ∧
      R (.ok (.ret (.ref (s.heap.push o).objs.size))) { s with heap := (s.heap.push o).push { cls := .type "enumerate", data := .fields #[.none, .bool false, .ref s.heap.objs.size, rawInt 0, .none, .none] } }) :=
  .of_wp fun prog w A R s h => by
    obtain ⟨hp, g, d, tk, os⟩ := s; obtain ⟨h1, h⟩ := h
    have hsub := sub_enumerate
    have q1 : ∀ {A' : Around} {E : Value → Shared → Prop} {Q : Value → Shared → Prop}, Q (.ref hp.objs.size) ⟨hp.push o, g, d, tk, os⟩ → wpAny (model prog w) A' (pyIter v) Q E ⟨hp, g, d, tk, os⟩ :=
      fun q => B.iter prog w _ _ ⟨hp, g, d, tk, os⟩ _ h1 q
    wp_walk using q1
    refine wpAny_stack_any fun st => wpAny_pure ?_
    split
    · rename_i c _ _ _ _ _
      cases (c == Value.type "enumerate")
      · wp_walk using q1
        exact ⟨_, rfl, h⟩
      · wp_walk using q1
        exact ⟨_, rfl, h⟩
    · wp_walk using q1
      exact ⟨_, rfl, h⟩
theorem enum_begins0 {prog : Program} {w : World} {A : Around} {E : Value → Shared → Prop} {s : Shared} {v : Value} {o : Obj} {H : Heap → Prop} {Q : Value → Shared → Prop} (B : Begins v o H) (h1 : H s.heap)
    (h : ∀ h', IsEnum h' (s.heap.objs.size + 1) s.heap.objs.size 0 .none → h'.get? s.heap.objs.size = some o → h'.objs.size = s.heap.objs.size + 2 →
      (∀ b o, s.heap.get? b = some o → h'.get? b = some o) → Q (.ref (s.heap.objs.size + 1)) { s with heap := h' }) :
    wpAny (model prog w) A (call (.type "enumerate") [v]) Q E s := by
  refine callType_new F.called_enumerate (by decide) (F.typeCall_enumerate_1 _) (F.newCall_enumerate_1 _) (fun obj => F.args_object_init_2 obj _) F.entry_enumerate_new
    (meets_enumerate_newB0 B) ⟨h1, ?_⟩
  have hz : (s.heap.push o).objs.size = s.heap.objs.size + 1 := Heap.size_push ..
  show _ ∧ _
  rw [hz]
  have he : IsEnum ((s.heap.push o).push { cls := .type "enumerate", data := .fields #[.none, .bool false, .ref s.heap.objs.size, rawInt 0, .none, .none] }) (s.heap.objs.size + 1) s.heap.objs.size 0 .none := by
    have := Heap.get?_push_size (s.heap.push o) (o := { cls := .type "enumerate", data := .fields #[.none, .bool false, .ref s.heap.objs.size, rawInt 0, .none, .none] }) rfl
    rw [hz] at this; exact this
  refine ⟨⟨_, he, rfl⟩, h _ he (Heap.get?_push_of_some _ (Heap.get?_push_size _ B.free)) (by rw [Heap.size_push, hz]) fun b o x => Heap.get?_push_of_some _ (Heap.get?_push_of_some _ x)⟩
def iEnumT (K : PySem.W.Frag) (ta : TA) : TI := fun σ H R => ta σ H fun vs H1 => ∃ a xs, vs = [.ref a] ∧ SqT K H1 a xs ∧ R (ItEt K a) H1
theorem pi_enumT {X : Cx} {e : Expr} {ta : TA} {p pos tpos : Pos} {elts : List Expr} {kk : Nat} (hg : Gl X "enumerate") (hm : X.mg "enumerate" = none) (ha : PA X [e] ta) (hs : starEach [e] X.env = [(false, eval e X.env)] := by rfl) :
    PI X (.Tuple elts kk tpos) (.Call (.Name "enumerate" p) [e] [] pos) (iEnumT X.K ta) := by
  refine ⟨fun pins s σ H R I h => ?_⟩
  refine Call_ (ld_blt I hg hm boot_enumerate (PyProof.Rows.callWith_type1 (thn (ha.run pos pins s σ H _ I h) fun us s1 ⟨vs, H1, I1, r1, q1⟩ => ?_) hs rfl))
  obtain ⟨a, xs, ex, hq, q⟩ := q1
  subst ex
  cases r1 with
  | cons r rr =>
    cases rr
    cases r
    obtain ⟨its, rv, p', hz⟩ := I1.tuple hq
    have hlt : a < s1.heap.objs.size := by obtain ⟨_, q, _⟩ := p'; exact Heap.lt_size q
    refine enum_begins0 (begins_tuple a its.toArray) p' fun h' he hit hsz hk => wpAny_pyIter_enum he ?_
    have I2 : Inv X pins σ H1 { s1 with heap := h' } := I1.kept (t' := s1.toks) hk
    refine ⟨s1.heap.objs.size + 1, [s1.heap.objs.size + 1, s1.heap.objs.size], _, _, H1, rfl, I2, turn_enumT a (s1.heap.objs.size + 1) s1.heap.objs.size, ⟨⟨.none, he⟩, ⟨_, hit, rfl, rfl⟩, Nat.succ_ne_self _, Nat.ne_of_lt hlt⟩, fun b hb => ?_, q⟩
    have e' : b = s1.heap.objs.size + 1 ∨ b = s1.heap.objs.size := by simpa using hb
    have hle : s1.heap.objs.size ≤ b := by
      rcases e' with z | z
      · rw [z]; exact Nat.le_add_right _ _
      · rw [z]; exact Nat.le_refl _
    exact I1.fpOk hle (I1.hok.fresh hle)
/-- zip(text, text): a new pair each -/
def ItZs (x y : Str) : It :=
  ⟨fun i _ => i < min x.cps.size y.cps.size, fun i H v H' => ∃ T c d, v = .ref T ∧ H T = none ∧ H' = upd H T (.tup [.str ⟨#[c]⟩, .str ⟨#[d]⟩]) ∧ x.cps[i]? = some c ∧ y.cps[i]? = some d, fun i _ => min x.cps.size y.cps.size ≤ i⟩
theorem turn_zipS {P : Program} {w : World} {K : PySem.W.Frag} {elts : List Expr} {kk : Nat} {tpos : Pos} {x y : Str} {t1 t2 : Tok} {z TI TO i1 i2 : Addr} (S : ZipSep2 z TI TO i1 i2 [i1] [i2]) :
    Turn P w K (.Tuple elts kk tpos) (ItZs x y) [z, TI, TO, i1, i2] z (fun i h => i ≤ min x.cps.size y.cps.size ∧ IsZip h z TI TO .none ∧ IsTupOf2 h TI (.ref i1) (.ref i2) ∧ (∃ a b, IsTupOf2 h TO a b) ∧ h.IsStrIter i1 (strIterType x) x t1 i ∧ h.IsStrIter i2 (strIterType y) y t2 i) where
  mem := by simp
  obj := fun i h st c hc => by
    obtain ⟨_, hz, hTI, ⟨x, y, hTO⟩, ⟨o1, e1, _, d1⟩, ⟨o2, e2, _, d2⟩⟩ := st
    have e' : c = z ∨ c = TI ∨ c = TO ∨ c = i1 ∨ c = i2 := by simpa using hc
    rcases e' with q | q | q | q | q
    · rw [q]; exact ⟨_, hz, fun v q => nomatch q⟩
    · rw [q]; exact ⟨_, hTI, fun v q => nomatch q⟩
    · rw [q]; exact ⟨_, hTO, fun v q => nomatch q⟩
    · rw [q]; exact ⟨o1, e1, fun v q => by rw [d1] at q; cases q⟩
    · rw [q]; exact ⟨o2, e2, fun v q => by rw [d2] at q; cases q⟩
  keep := fun i h h' st k => by
    obtain ⟨hn, hz, hTI, ⟨x, y, hTO⟩, ⟨o1, e1, r1⟩, ⟨o2, e2, r2⟩⟩ := st
    exact ⟨hn, k z (by simp) _ hz, k TI (by simp) _ hTI, ⟨x, y, k TO (by simp) _ hTO⟩, ⟨o1, k i1 (by simp) _ e1, r1⟩, ⟨o2, k i2 (by simp) _ e2, r2⟩⟩
  item := by
    intro X hP hw hK hc i pins s σ H E I hf st hg
    subst hP hw hK
    obtain ⟨hn, hz, hTI, ⟨x0, y0, hTO⟩, h1, h2⟩ := st
    have hg : i < min x.cps.size y.cps.size := hg
    have D1 := Draws.text (prog := X.prog) (w := X.w) (A := X.A.in1) (I.ok.hd hc) i1 x t1
    have D2 := Draws.text (prog := X.prog) (w := X.w) (A := X.A.in1) (I.ok.hd hc) i2 y t2
    have hzl : z < s.heap.objs.size := Heap.lt_size hz
    refine wpAny_pyNext_zipD2_item S D1 D2 hz hTI hTO h1 h2 (Nat.lt_of_lt_of_le hg (Nat.min_le_left _ _)) (Nat.lt_of_lt_of_le hg (Nat.min_le_right _ _)) fun u1 u2 h' tk p1 p2 z' TO' h1' h2' hT hsz hk => ?_
    obtain ⟨c, q1, hcx, rfl⟩ := p1
    obtain ⟨d, q2, hdx, rfl⟩ := p2
    refine ⟨_, rfl, wpAny_letOwnedTupleGo_zip (s := { s with heap := h', toks := tk }) z' fun h'' z'' sb => ?_⟩
    have hT2 : h''.get? s.heap.objs.size = some { cls := .type "tuple", data := .seq #[.str ⟨#[c]⟩ q1, .str ⟨#[d]⟩ q2] } := (sb.2 _ (Nat.ne_of_gt hzl)).trans hT
    have new : ObjOk X.prog X.w (upd H s.heap.objs.size (.tup [.str ⟨#[c]⟩, .str ⟨#[d]⟩])) h'' s.heap.objs.size (.tup [.str ⟨#[c]⟩, .str ⟨#[d]⟩]) :=
      ⟨by show 2 ≤ sizeLine; decide, [.str ⟨#[c]⟩ q1, .str ⟨#[d]⟩ q2], .cons ⟨_, rfl⟩ (.cons ⟨_, rfl⟩ .nil), ⟨_, hT2, rfl, _, rfl⟩⟩
    have I1 : Inv X pins σ (upd H s.heap.objs.size (.tup [.str ⟨#[c]⟩, .str ⟨#[d]⟩])) { s with heap := h'', toks := tk } :=
      I.turnedNew (ch := [z, TI, TO, i1, i2]) (fun c o hb q => (sb.2 c (fun q' => hb (by simp [q']))).trans (hk c o (fun q' => hb (by simp [q'])) (fun q' => hb (by simp [q'])) (fun q' => hb (by simp [q'])) (fun q' => hb (by simp [q'])) q)) hf (Nat.le_refl _) new
    refine ⟨.ref s.heap.objs.size, _, I1, rfl, ⟨_, c, d, rfl, I.hok.fresh (Nat.le_refl _), rfl, hcx, hdx⟩, ⟨hg, z'', ?_, ⟨.str ⟨#[c]⟩ q1, .str ⟨#[d]⟩ q2, ?_⟩, ?_, ?_⟩, fun c hcm => ?_⟩
    · exact (sb.2 _ S.TIz).trans (hk _ _ S.TIz S.TITO S.TIi1 S.TIi2 hTI)
    · exact (sb.2 _ S.TOz).trans TO'
    · obtain ⟨o, ho, r⟩ := h1'
      exact ⟨o, (sb.2 _ (Ne.symm S.zi1)).trans ho, r⟩
    · obtain ⟨o, ho, r⟩ := h2'
      exact ⟨o, (sb.2 _ (Ne.symm S.zi2)).trans ho, r⟩
    · have hlt : c < s.heap.objs.size := by
        have e' : c = z ∨ c = TI ∨ c = TO ∨ c = i1 ∨ c = i2 := by simpa using hcm
        rcases e' with q | q | q | q | q
        · rw [q]; exact hzl
        · rw [q]; exact Heap.lt_size hTI
        · rw [q]; exact Heap.lt_size hTO
        · rw [q]; obtain ⟨_, e1, _⟩ := h1; exact Heap.lt_size e1
        · rw [q]; obtain ⟨_, e2, _⟩ := h2; exact Heap.lt_size e2
      rw [upd_ne (Nat.ne_of_lt hlt)]
      exact (hf c hcm).1
  done := by
    intro X hP hw hK hc i pins s σ H E I hf st hg
    subst hP hw hK
    obtain ⟨hn, hz, hTI, ⟨x0, y0, hTO⟩, h1, h2⟩ := st
    have hg : min x.cps.size y.cps.size ≤ i := hg
    have D1 := Draws.text (prog := X.prog) (w := X.w) (A := X.A.in1) (I.ok.hd hc) i1 x t1
    have D2 := Draws.text (prog := X.prog) (w := X.w) (A := X.A.in1) (I.ok.hd hc) i2 y t2
    exact wpAny_pyNext_zipD2_end S D1 D2 hz hTI hTO h1 h2 (by omega) (by omega) (by omega) fun h' tk hk => ⟨rfl, I.turnedL (t' := tk) (ch := [z, TI, TO, i1, i2]) (fun c o hb q =>
      hk c o (fun q' => hb (by simp [q'])) (fun q' => hb (by simp [q'])) (fun q' => hb (by simp [q'])) (fun q' => hb (by simp [q'])) q) hf⟩
  self := fun A i s Q E st h => wpAny_pyIter_zip st.2.1 h
def iZipS (ta : TA) : TI := fun σ H R => ta σ H fun vs H1 => ∃ x y, vs = [.str x, .str y] ∧ R (ItZs x y) H1
theorem pi_zipS {X : Cx} {e e2 : Expr} {ta : TA} {p pos tpos : Pos} {elts : List Expr} {kk : Nat} (hg : Gl X "zip") (hm : X.mg "zip" = none) (ha : PA X [e, e2] ta)
    (hs : starEach [e, e2] X.env = (false, eval e X.env) :: starEach [e2] X.env := by rfl) (hpl : (backTo pos (starEach [e2] X.env)).any (·.1) = false := by rfl) :
    PI X (.Tuple elts kk tpos) (.Call (.Name "zip" p) [e, e2] [] pos) (iZipS ta) := by
  refine ⟨fun pins s σ H R I h => ?_⟩
  refine Call_ (ld_blt I hg hm PyProof.Rows.boot_zip (PyProof.Rows.callWith_type1 (thn (ha.run pos pins s σ H _ I h) fun us s1 ⟨vs, H1, I1, r1, q1⟩ => ?_) hs hpl))
  obtain ⟨x, y, ex, q⟩ := q1
  subst ex
  cases r1 with
  | cons r rr =>
    cases rr with
    | cons r' rr =>
      cases rr
      obtain ⟨t1, rfl⟩ := r
      obtain ⟨t2, rfl⟩ := r'
      refine zip_begins2 (begins_text x t1) (begins_text y t2) trivial trivial fun h' hz hTI hTO h1 h2 hsz hk => wpAny_pyIter_zip hz ?_
      have I2 : Inv X pins σ H1 { s1 with heap := h' } := I1.kept (t' := s1.toks) hk
      have S : ZipSep2 (s1.heap.objs.size + 4) (s1.heap.objs.size + 2) (s1.heap.objs.size + 3) s1.heap.objs.size (s1.heap.objs.size + 1) [s1.heap.objs.size] [s1.heap.objs.size + 1] := zip_sep2 (by simp) (by simp)
      refine ⟨s1.heap.objs.size + 4, [s1.heap.objs.size + 4, s1.heap.objs.size + 2, s1.heap.objs.size + 3, s1.heap.objs.size, s1.heap.objs.size + 1], _, _, H1, rfl, I2, turn_zipS (t1 := t1) (t2 := t2) S, ⟨Nat.zero_le _, hz, hTI, ⟨_, _, hTO⟩, ⟨_, h1, rfl, rfl⟩, ⟨_, h2, rfl, rfl⟩⟩, fun c hcm => ?_, q⟩
      have e' : c = s1.heap.objs.size + 4 ∨ c = s1.heap.objs.size + 2 ∨ c = s1.heap.objs.size + 3 ∨ c = s1.heap.objs.size ∨ c = s1.heap.objs.size + 1 := by simpa using hcm
      have hle : s1.heap.objs.size ≤ c := by
        rcases e' with z | z | z | z | z
        · rw [z]; exact Nat.le_add_right _ _
        · rw [z]; exact Nat.le_add_right _ _
        · rw [z]; exact Nat.le_add_right _ _
        · rw [z]; exact Nat.le_refl _
        · rw [z]; exact Nat.le_add_right _ _
      exact I1.fpOk hle (I1.hok.fresh hle)
end Z

set_option Elab.async false
set_option linter.all false
set_option maxRecDepth 100000
set_option maxHeartbeats 4000000
/-! s.translate(str.maketrans("+-", "-+")) -/
namespace Z
open PySem PySem.Spec PyProof.Rows L2
theorem cls_mk (K : PySem.W.Frag) : PySem.W.findCls K (.type "str") (.type "type") (Str.ofString "maketrans") = some (.val (.builtin "str.maketrans")) := by
  first
    | kernel_rfl
    | rfl
section
variable {prog : Program} {w : World} {A : Around} {E : Value → Shared → Prop} {s : Shared}
theorem getm_mk {K : PySem.W.Frag} {pl : Sem Bool} {Q : Value × List Value → Shared → Prop} (X : K.In s.heap) (h : Q (.builtin "str.maketrans", []) { s with toks := s.toks + 1 }) :
    wpAny (model prog w) A (getMethod (.type "str") (Str.ofString "maketrans") pl) Q E s := by
  have hstub : opaqueClassAbove (.type "str") = pure none := by unfold opaqueClassAbove; dsimp only; rw [show Manifest.isStub "str" = false by decide +kernel]; all_goals rfl
  have ht : typeOf (.type "str") = pure (.type "type") := by first | rfl | kernel_rfl
  have L0 : PySem.W.Looks (model prog w) s.heap (typeOf (.type "str")) (.type "type") := PySem.W.Looks.of_pure ht
  have hg : PySem.W.findIn K (.type "type") "__getattribute__" = some (some (.builtin "type.__getattribute__")) := PySem.W.type_tga
  unfold getMethod specialOf
  refine wpAny_bind (wpAny_bind (L0.here ((PySem.W.looks_findIn X hg).here ?_)))
  dsimp only
  rw [if_pos PySem.W.canon_tga]
  refine wpAny_bind (wpAny_mono (Q := fun v => Q (v, [])) (E := E) ?_ (fun _ _ z => wpAny_pure z) fun _ _ z => z)
  have LO : PySem.W.Looks (model prog w) s.heap (opaqueClassAbove (.type "str")) none := PySem.W.Looks.of_pure hstub
  refine PySem.W.cls_open X LO L0 hg (PySem.W.looks_hook X (r := none) (by rfl)) (by show PySem.W.subIn K _ _ = _; rfl) (cls_mk K) ?_
  show wpAny _ _ (ret _) _ _ _
  exact wpAny_pure (wpAny_pure h)
theorem entry_mk : entryFor table "str.maketrans" = some Builtin.«str.maketrans» := entryFor_of_tree (by kernel_rfl)
/-- the swap of 43 and 45 -/
def swp : List (Key × Value) → Prop := fun kvs => ∃ a b : Tok, kvs = [(.inl 43, .int 45 a), (.inl 45, .int 43 b)]
theorem run_mk (t1 t2 : Tok) : MeetsIn prog w (Builtin.«str.maketrans» ⟨[.str "+-" t1, .str "-+" t2], []⟩) (fun A R s =>
    ∀ h' tk kvs, swp kvs → h'.DictOf (mixKind prog w) s.heap.objs.size kvs → (∀ b o, s.heap.get? b = some o → h'.get? b = some o) → R (.ok (.ret (.ref s.heap.objs.size))) { s with heap := h', toks := tk }) := by
  refine .of_wp fun A R s h => ?_
  obtain ⟨hp, g, d, tk, os⟩ := s
  unfold Builtin.«str.maketrans»
  refine wpAny_bind (wpAny_of_eq (a := ()) (by first | rfl | kernel_rfl) ?_)
  refine wpAny_bind (wpAny_of_eq (a := ()) (by first | rfl | kernel_rfl) ?_)
  dsimp only
  refine wpAny_bind (wpAny_of_eq (a := some (Str.ofString "-+")) (by first | rfl | kernel_rfl) ?_)
  refine wpAny_bind (wpAny_of_eq (a := none) (by first | rfl | kernel_rfl) ?_)
  unfold newDict
  refine wpAny_bind (wpAny_newObj_type ?_)
  dsimp only
  have hD0 : (hp.push { cls := .type "dict", data := .dict #[] }).DictOf (mixKind prog w) hp.objs.size [] := Heap.DictOf.new hp
  refine wpAny_bind (wpAny_holding ?_)
  refine wpAny_bind (wpAny_of_eq (a := some (Str.ofString "+-")) (by first | rfl | kernel_rfl) ?_)
  dsimp only
  refine PySem.W.KFB.if_not (by decide +kernel) ?_
  rw [show (Str.ofString "+-").cps.toList.zip (Str.ofString "-+").cps.toList = [(43, 45), (45, 43)] by decide +kernel]
  simp only [List.forIn_cons, List.forIn_nil, bind_assoc, pure_bind]
  refine wpAny_bind (wpAny_mkInt ?_)
  refine wpAny_bind (wpAny_mkInt ?_)
  refine wpAny_bind (wpAny_dictSet_pairs (knd := mixKind prog w) (k := .inl 43) (kV_is (k := .inl 43) ⟨_, rfl⟩) hD0 (fun h1 hd1 sb1 => ?_) (by decide))
  dsimp only at hd1 sb1 ⊢
  refine wpAny_bind (wpAny_mkInt ?_)
  refine wpAny_bind (wpAny_mkInt ?_)
  have e1 : stored ([] : List (Key × Value)) (.inl 43) (.int (45 : Nat) (tk + 1)) = [(.inl 43, .int (45 : Nat) (tk + 1))] := rfl
  rw [e1] at hd1
  refine wpAny_bind (wpAny_dictSet_pairs (knd := mixKind prog w) (k := .inl 45) (kV_is (k := .inl 45) ⟨_, rfl⟩) hd1 (fun h2 hd2 sb2 => ?_) (by show 1 ≤ sizeLine; decide))
  dsimp only at hd2 sb2 ⊢
  refine wpAny_bind (wpAny_of_eq (a := PUnit.unit) (by first | rfl | kernel_rfl) ?_)
  refine wpAny_pure (wpAny_pure ⟨_, rfl, h h2 _ _ ⟨_, _, rfl⟩ hd2 fun b o z => ?_⟩)
  have hb : b ≠ hp.objs.size := Nat.ne_of_lt (Heap.lt_size z)
  exact (sb2.2 b hb).trans ((sb1.2 b hb).trans (Heap.get?_push_of_some _ z))
theorem plain_mk : plainId "str.maketrans" = true := by decide +kernel
theorem check_mk (t1 t2 : Tok) : checkBuiltinCall "str.maketrans" ⟨[.str "+-" t1, .str "-+" t2], []⟩ = pure () := by first | kernel_rfl | rfl
theorem call_mk {t1 t2 : Tok} {Q : Value → Shared → Prop}
    (h : ∀ h' tk kvs, swp kvs → h'.DictOf (mixKind prog w) s.heap.objs.size kvs → (∀ b o, s.heap.get? b = some o → h'.get? b = some o) → Q (.ref s.heap.objs.size) { s with heap := h', toks := tk }) :
    wpAny (model prog w) A (call (.builtin "str.maketrans") [.str "+-" t1, .str "-+" t2]) Q E s :=
  wpAny_call (codeAny_call_builtin plain_mk entry_mk (wpAny_of_eq (a := ()) (check_mk t1 t2) (run_mk t1 t2 A (wants Q E) s h)))
end
/-- the table of the swap -/
def swpV : List (Key × V) := [(.inl 43, .int 45), (.inl 45, .int 43)]
def tMk : TE := fun _ H Q => ∀ p, H p = none → Q (.ref p) (upd H p (.dK swpV))
section
variable {X : Cx}
theorem pe_mk {pl : Sem Bool} {e1 e2 : Expr} {p apos pos j1 p1 j2 p2} (hg : Gl X "str") (hm : X.mg "str" = none)
    (h1 : e1 = .Constant (.str "+-") j1 p1 := by rfl) (h2 : e2 = .Constant (.str "-+") j2 p2 := by rfl)
    (he : eval (.Call (.Attribute (.Name "str" p) "maketrans" apos) [e1, e2] [] pos) X.env = (do
      let ov ← eval (.Name "str" p) X.env
      standAt apos.atName
      let (f, first) ← holding [ov] (getMethod ov "maketrans" pl)
      callWith pos f first (backTo pos (starEach [e1, e2] X.env)) (backToKw pos (keywordEach [] X.env))) := by rfl)
    (hs : starEach [e1, e2] X.env = (false, eval e1 X.env) :: starEach [e2] X.env := by rfl) (hs2 : starEach [e2] X.env = (false, eval e2 X.env) :: starEach [] X.env := by rfl)
    (hpl : (backTo pos (starEach [e2] X.env)).any (·.1) = false := by rfl) : PE X (.Call (.Attribute (.Name "str" p) "maketrans" apos) [e1, e2] [] pos) tMk := by
  subst h1 h2
  refine ⟨fun pins s σ H Q I h => ?_⟩
  refine PySem.W.methodCall_KW (ld_blt I hg hm PyProof.Rows.boot_str ?_ (by decide) (by decide)) he
  refine getm_mk I.kIn ?_
  have I1 : Inv X pins σ H { s with toks := s.toks + 1 } := I.tok _
  have ha : PA X [.Constant (.str "+-") j1 p1, .Constant (.str "-+") j2 p2] (tCons (tC (.str "+-")) (tCons (tC (.str "-+")) tNil)) := pa_cons pe_str (pa_cons pe_str pa_nil)
  show wpAny _ _ (callWith pos (.builtin "str.maketrans") [] (backTo pos (starEach [.Constant (.str "+-") j1 p1, .Constant (.str "-+") j2 p2] X.env)) []) _ _ _
  refine PyProof.Rows.callWith_builtin1 (thn (ha.run pos pins _ σ H (fun vs H1 => H1 = H ∧ vs = [.str "+-", .str "-+"]) I1 ⟨rfl, rfl⟩) fun us s1 ⟨vs, H1, I2, r, e1, e2⟩ => ?_) hs hpl
  subst e1 e2
  obtain ⟨u, w', rfl, ⟨t, rfl⟩, ⟨t', rfl⟩⟩ := vals2 r
  refine call_mk fun h' tk kvs ⟨a, b, ek⟩ hD hk => ?_
  subst ek
  have hsys : (s1.heap.objs.size == sysModules) = false := beq_eq_false_iff_ne.mpr (Ne.symm (Nat.ne_of_lt I2.big))
  have rel : KV swpV [(.inl 43, .int 45 a), (.inl 45, .int 43 b)] := .cons ⟨rfl, _, rfl⟩ (.cons ⟨rfl, _, rfl⟩ .nil)
  exact ⟨.ref s1.heap.objs.size, _, I2.laid (t' := tk) (o := .dK swpV) hk (Nat.le_refl _) (dk_new (by show 2 ≤ sizeLine; decide) hsys rel hD), rfl, h _ (I2.hok.fresh (Nat.le_refl _))⟩
end
/-- a sign, swapped -/
def sw (c : Nat) : Nat := if c = 43 then 45 else if c = 45 then 43 else c
end Z

set_option Elab.async false
set_option linter.all false
set_option maxRecDepth 100000
set_option maxHeartbeats 4000000
namespace Z
open PySem PySem.Spec PyProof.Rows L2
open PySem.Builtin PySem.Builtin.Str
theorem sw_43 : sw 43 = 45 := rfl
theorem sw_45 : sw 45 = 43 := rfl
theorem sw_no {c : Nat} (h1 : c ≠ 43) (h2 : c ≠ 45) : sw c = c := by unfold sw; rw [if_neg h1, if_neg h2]
theorem mapOfK {prog : Program} {w : World} {h h' : Heap} {a : Addr} {f : Key → Option Value} (m : h.MapOf (mixKind prog w) a f) (k : ∀ b o, h.get? b = some o → h'.get? b = some o) : h'.MapOf (mixKind prog w) a f := by
  obtain ⟨o, es, ep, ho, r⟩ := m
  exact ⟨o, es, ep, k _ _ ho, r⟩
def TellsS (f : Key → Option Value) : Prop := (∃ t, f (.inl 43) = some (.int 45 t)) ∧ (∃ t, f (.inl 45) = some (.int 43 t)) ∧ ∀ c : Nat, c ≠ 43 → c ≠ 45 → f (.inl (c : Int)) = none
section
variable {prog : Program} {w : World} {A : Around} {E : Value → Shared → Prop} {s : Shared} {d : Addr} {c : Nat}
theorem wpAny_tlS {f : Key → Option Value} {Q : Mapped → Shared → Prop} (hh : A.handled = none) (hd : (d == sysModules) = false) (hm : s.heap.MapOf (mixKind prog w) d f) (hk : TellsS f)
    (h1 : c = 43 → ∀ h' k, (∀ b o, s.heap.get? b = some o → h'.get? b = some o) → Q (.char 45) { s with heap := h', toks := k })
    (h3 : c = 45 → ∀ h' k, (∀ b o, s.heap.get? b = some o → h'.get? b = some o) → Q (.char 43) { s with heap := h', toks := k })
    (h2 : c ≠ 43 → c ≠ 45 → ∀ h' k, (∀ b o, s.heap.get? b = some o → h'.get? b = some o) → Q .keep { s with heap := h', toks := k }) : wpAny (model prog w) A (tableLookup (.ref d) c) Q E s := by
  unfold tableLookup
  refine wpAny_bind (wpAny_attempt (wpAny_bind (wpAny_mkInt ?_)))
  obtain ⟨⟨t, k1⟩, ⟨t', k2⟩, k3⟩ := hk
  by_cases c1 : c = 43
  · subst c1
    refine wpAny_getItem_of (knd := mixKind prog w) (k := .inl 43) (kV_is (k := .inl 43) ⟨_, rfl⟩) hm k1 ?_
    show wpAny _ _ (do let o ← asInt? (Value.int 45 t); _) _ _ _
    refine wpAny_bind (wpAny_of_eq (a := some 45) rfl ?_)
    show wpAny _ _ (if (decide ((45 : Int) < 0) || decide ((45 : Int) > 0x10FFFF)) = true then _ else pure (Mapped.char (45 : Int).toNat)) _ _ _
    rw [if_neg (by decide)]
    exact wpAny_pure (h1 rfl s.heap _ fun _ _ e => e)
  · by_cases c2 : c = 45
    · subst c2
      refine wpAny_getItem_of (knd := mixKind prog w) (k := .inl 45) (kV_is (k := .inl 45) ⟨_, rfl⟩) hm k2 ?_
      show wpAny _ _ (do let o ← asInt? (Value.int 43 t'); _) _ _ _
      refine wpAny_bind (wpAny_of_eq (a := some 43) rfl ?_)
      show wpAny _ _ (if (decide ((43 : Int) < 0) || decide ((43 : Int) > 0x10FFFF)) = true then _ else pure (Mapped.char (43 : Int).toNat)) _ _ _
      rw [if_neg (by decide)]
      exact wpAny_pure (h3 rfl s.heap _ fun _ _ e => e)
    · refine wpAny_getItem_missing_of (knd := mixKind prog w) (k := .inl (c : Int)) (kV_is (k := .inl (c : Int)) ⟨_, rfl⟩) hd hh hm (k3 c c1 c2) fun h' e hx => ?_
      show wpAny _ _ (do let b ← isInstance (.ref e) (.type "LookupError"); _) _ _ _
      obtain ⟨ob, t, ho, hc, _⟩ := hx.there
      refine wpAny_bind (wpAny_isInstance (T := "KeyError") (b := true) ⟨ob, ho, hc⟩ key_is_lookup ?_)
      show wpAny _ _ (if true = true then (do rule "str.translate.not-in-table"; pure Mapped.keep) else _) _ _ _
      rw [if_pos rfl]
      exact wpAny_bind (wpAny_rule (wpAny_pure (h2 c1 c2 h' _ hx.keeps)))
end
theorem pieces_sw : ∀ (l : List Nat) (acc : Array Nat), List.foldl (fun acc (p : Str) => acc ++ p.cps) acc (l.map fun c => (⟨#[sw c]⟩ : Str)) = acc ++ (l.map sw).toArray
  | [], acc => by
    show acc = acc ++ #[]
    rw [Array.append_empty]
  | c :: l, acc => by
    rw [List.map_cons, List.foldl_cons, pieces_sw l]
    apply Array.toList_inj.mp
    simp
def TrS (x : List Nat) (fast0 : Bool) (s : Shared) (rest : List Nat) (st : List Str × Nat × Bool × List (Nat × Option Nat) × Bool) (s' : Shared) : Prop :=
  ∃ (past : List Nat) (pieces : List Str) (known : List (Nat × Option Nat)) (h' : Heap) (k : Nat), x = past ++ rest ∧ st = (pieces, past.length, fast0, known, false) ∧ pieces.reverse = past.map (fun c => (⟨#[sw c]⟩ : Str)) ∧
    (∀ c a, List.lookup c known = some a → a = some (sw c)) ∧ s' = { s with heap := h', toks := k } ∧ ∀ b o, s.heap.get? b = some o → h'.get? b = some o
theorem TrS.next {x : List Nat} {fast0 : Bool} {s : Shared} {rest past : List Nat} {c : Nat} {pieces : List Str} {known : List (Nat × Option Nat)} {h' : Heap} {k : Nat} (h1 : x = past ++ c :: rest)
    (h3 : pieces.reverse = past.map (fun c => (⟨#[sw c]⟩ : Str))) (h4 : ∀ c a, List.lookup c known = some a → a = some (sw c)) (h6 : ∀ b o, s.heap.get? b = some o → h'.get? b = some o) :
    TrS x fast0 s rest (⟨#[sw c]⟩ :: pieces, past.length + 1, fast0, known, false) { s with heap := h', toks := k } := by
  refine ⟨past ++ [c], ⟨#[sw c]⟩ :: pieces, known, h', k, ?_, ?_, ?_, h4, rfl, h6⟩
  · rw [h1, List.append_assoc] <;> rfl
  · rw [List.length_append] <;> rfl
  · rw [List.reverse_cons, h3, List.map_append] <;> rfl
theorem meets_tr {prog : Program} {w : World} (x : List Nat) (t : Tok) (d : Addr) (hd : (d == sysModules) = false) (hz : x.length ≤ 16000000) : MeetsIn prog w («str.translate» ⟨[.str (SX.S x) t, .ref d], []⟩) (fun A R s =>
    A.handled = none ∧ (∃ f, s.heap.MapOf (mixKind prog w) d f ∧ TellsS f) ∧ ∀ (v : Value) (h' : Heap) (k : Nat), (∀ b o, s.heap.get? b = some o → h'.get? b = some o) → (∃ t', v = .str (SX.S (x.map sw)) t') → R (.ok (.ret v)) { s with heap := h', toks := k }) := by
  refine .of_wp fun A R s h => ?_
  obtain ⟨hh, ⟨f, hm, hk⟩, h⟩ := h
  have hh1 : A.in1.handled = none := hh
  show wpAny _ _ (if ((SX.S x).length == 0) = true then (do rule "str.translate.empty"; ret (.str (SX.S x) t)) else (do
    let st ← forIn (SX.S x).cps (([], 0, (SX.S x).cps.all fun y => decide (y < 128), [], false) : List Str × Nat × Bool × List (Nat × Option Nat) × Bool) _
    _)) _ _ s
  by_cases h0 : ((SX.S x).length == 0) = true
  · rw [if_pos h0]
    have hx : x = [] := by
      rw [beq_iff_eq, SX.S_len] at h0
      exact List.eq_nil_of_length_eq_zero h0
    subst hx
    exact wpAny_bind (wpAny_rule (wpAny_pure ⟨_, rfl, h _ s.heap s.toks (fun _ _ e => e) ⟨t, rfl⟩⟩))
  · rw [if_neg h0]
    generalize ((SX.S x).cps.all fun y => decide (y < 128)) = fast0
    refine wpAny_bind (MeetsSeq2.wpAny_forIn_array _ (TrS x fast0 s) _ (fun c rest st s' hI => ?turn) (fun st s' hI => ?fin) (SX.S x).cps ([], 0, fast0, [], false) ?h0)
    case h0 =>
      refine ⟨[], [], [], s.heap, s.toks, ?_, rfl, rfl, fun c a z => ?_, rfl, fun _ _ e => e⟩
      · show x = [] ++ x.toArray.toList
        rw [List.toList_toArray, List.nil_append]
      · rw [List.lookup_nil] at z
        cases z
    case turn =>
      obtain ⟨past, pieces, known, h', k, e1, e2, e3, e4, e5, e6⟩ := hI
      subst e2
      subst e5
      have hpl : past.length ≤ 16000000 := by
        have q := congrArg List.length e1
        rw [List.length_append] at q
        omega
      have hm' : ({ s with heap := h', toks := k } : Shared).heap.MapOf (mixKind prog w) d f := mapOfK hm e6
      show wpAny _ _ (if tooLong past.length = true then _ else (if fast0 = true then _ else _)) _ _ _
      rw [show tooLong past.length = false from PyProof.Rows.short24 (by omega), if_neg Bool.false_ne_true]
      cases fast0 with
      | true =>
        rw [if_pos rfl]
        cases hl : List.lookup c known with
        | some a =>
          have ha := e4 c a hl
          subst ha
          refine wpAny_bind (wpAny_pure ?_)
          exact wpAny_pure (TrS.next e1 e3 e4 e6)
        | none =>
          have new : ∀ b, b = some (sw c) → ∀ c' a, List.lookup c' ((c, b) :: known) = some a → a = some (sw c') := fun b hb c' a z => by
            rcases lookup_new z with ⟨q1, q2⟩ | q
            · rw [q2, hb, q1]
            · exact e4 c' a q
          refine wpAny_bind (wpAny_tlS hh1 hd hm' hk (fun hw h2 k2 k3 => ?_) (fun hw h2 k2 k3 => ?_) (fun hw hw2 h2 k2 k3 => ?_))
          · subst hw
            refine wpAny_bind (wpAny_pure ?_)
            refine wpAny_pure ?_
            exact TrS.next (c := 43) (fast0 := true) (k := k2) (known := (43, some 45) :: known) e1 e3 (new (some 45) rfl) (fun b o z => k3 b o (e6 b o z))
          · subst hw
            refine wpAny_bind (wpAny_pure ?_)
            refine wpAny_pure ?_
            exact TrS.next (c := 45) (fast0 := true) (k := k2) (known := (45, some 43) :: known) e1 e3 (new (some 43) rfl) (fun b o z => k3 b o (e6 b o z))
          · have e : sw c = c := sw_no hw hw2
            refine wpAny_bind (wpAny_pure ?_)
            refine wpAny_pure ?_
            have q := TrS.next (fast0 := true) (k := k2) (known := (c, some c) :: known) e1 e3 (new (some c) (by rw [e])) (fun b o z => k3 b o (e6 b o z))
            rw [e] at q
            exact q
      | false =>
        rw [if_neg Bool.false_ne_true]
        show wpAny _ _ (if false = true then _ else _) _ _ _
        rw [if_neg Bool.false_ne_true]
        refine wpAny_bind (wpAny_tlS hh1 hd hm' hk (fun hw h2 k2 k3 => ?_) (fun hw h2 k2 k3 => ?_) (fun hw hw2 h2 k2 k3 => ?_))
        · subst hw
          refine wpAny_pure ?_
          exact TrS.next (c := 43) (fast0 := false) (k := k2) e1 e3 e4 (fun b o z => k3 b o (e6 b o z))
        · subst hw
          refine wpAny_pure ?_
          exact TrS.next (c := 45) (fast0 := false) (k := k2) e1 e3 e4 (fun b o z => k3 b o (e6 b o z))
        · have e : sw c = c := sw_no hw hw2
          refine wpAny_pure ?_
          have q := TrS.next (fast0 := false) (k := k2) e1 e3 e4 (fun b o z => k3 b o (e6 b o z))
          rw [e] at q
          exact q
    case fin =>
      obtain ⟨past, pieces, known, h', k, e1, e2, e3, e4, e5, e6⟩ := hI
      subst e2
      subst e5
      have ex : x = past := by rw [e1, List.append_nil]
      show wpAny _ _ (if tooLong past.length = true then _ else retStr { cps := List.foldl (fun acc (p : Str) => acc ++ p.cps) #[] pieces.reverse }) _ _ _
      rw [show tooLong past.length = false from PyProof.Rows.short24 (by rw [← ex]; omega), if_neg Bool.false_ne_true, e3, pieces_sw, ← ex]
      have ev : (⟨#[] ++ (x.map sw).toArray⟩ : Str) = SX.S (x.map sw) := by
        rw [Array.empty_append] <;> rfl
      rw [ev]
      exact wpAny_bind (wpAny_mkStr (wpAny_pure ⟨_, rfl, h _ h' _ e6 ⟨_, rfl⟩⟩) (by rw [SX.S_len, List.length_map, sizeLine_eq]; omega))
section
variable {X : Cx}
theorem swp_of {vs : List (Key × Value)} (r : KV swpV vs) : ∃ a b : Tok, vs = [(.inl 43, .int 45 a), (.inl 45, .int 43 b)] := by
  cases r with
  | cons r1 r2 =>
    cases r2 with
    | cons r3 r4 =>
      cases r4
      rename_i p q
      obtain ⟨p1, p2⟩ := p
      obtain ⟨q1, q2⟩ := q
      obtain ⟨e1, t1, e2⟩ := r1
      obtain ⟨e3, t2, e4⟩ := r3
      cases e1; cases e2; cases e3; cases e4
      exact ⟨t1, t2, rfl⟩
/-- x.translate(the swap) -/
theorem mt_trS (hc : X.calm = true) : MtR X "str.translate" (fun x xs H Q => ∃ (t : List Nat) (d : Addr), x = .str (SX.S t) ∧ xs = [.ref d] ∧ H d = some (.dK swpV) ∧ t.length ≤ 16000000 ∧ Q (.str (SX.S (t.map sw))) H) := by
  intro pins s σ H x xs v us Q I rx rs h
  obtain ⟨a, d, rfl, rfl, hd, h3, h⟩ := h
  obtain ⟨t, rfl⟩ := rx
  cases rs with
  | cons r1 rs =>
    cases rs
    cases r1
    obtain ⟨_, hsys, vs, rel, dd⟩ := dk_of I.hok hd
    obtain ⟨ta, tb, rfl⟩ := swp_of rel
    refine call_meetsIn F.slot_str_translate (typeIs_str _ _ _) F.entry_str_translate (F.args_str_translate_2 _ _) (meets_tr a t d hsys h3) ⟨I.ok.hd hc, ⟨_, dd.mapOf, ⟨ta, rfl⟩, ⟨tb, rfl⟩, fun c c1 c2 => ?_⟩, ?_⟩
    · have z1 : decide ((Sum.inl 43 : Key) = Sum.inl (c : Int)) = false := decide_eq_false (fun z => c1 (by have := Sum.inl.inj z; omega))
      have z2 : decide ((Sum.inl 45 : Key) = Sum.inl (c : Int)) = false := decide_eq_false (fun z => c2 (by have := Sum.inl.inj z; omega))
      unfold valueAt
      rw [List.find?_cons, z1, List.find?_cons, z2] <;> rfl
    · intro v h' k hk ⟨t', e⟩
      subst e
      exact ⟨.str _, H, I.kept (t' := k) hk, ⟨t', rfl⟩, h⟩
end
end Z

set_option Elab.async false
set_option linter.all false
set_option maxRecDepth 100000
set_option maxHeartbeats 1000000
/-! Readings told by data: what a name holds is told by a datum of plain Lean, whatever stands where in memory. -/
namespace Z
open PySem PySem.Spec PyProof.Rows L2

/-! ### cells that may change: each with what stays true of it -/
abbrev Gh := Addr → Option (HO → Prop)
def Hold (Δ : Gh) (H : Hp) : Prop := ∀ a I, Δ a = some I → ∃ o, H a = some o ∧ I o
def Keep (Δ : Gh) (H H' : Hp) : Prop := ∀ a o, Δ a = none → H a = some o → H' a = some o
def Ext (Δ : Gh) (H H' : Hp) : Prop := Keep Δ H H' ∧ Hold Δ H'
abbrev Own := List (Addr × (HO → Prop))
def Sat (Γ : Own) (Δ : Gh) : Prop := ∀ p ∈ Γ, Δ p.1 = some p.2
theorem Keep.refl (Δ : Gh) (H : Hp) : Keep Δ H H := fun _ _ _ h => h
theorem Keep.trans {Δ : Gh} {H H1 H2 : Hp} (a : Keep Δ H H1) (b : Keep Δ H1 H2) : Keep Δ H H2 := fun x o n h => b x o n (a x o n h)
theorem Ext.refl {Δ : Gh} {H : Hp} (h : Hold Δ H) : Ext Δ H H := ⟨Keep.refl Δ H, h⟩
theorem Ext.trans {Δ : Gh} {H H1 H2 : Hp} (a : Ext Δ H H1) (b : Ext Δ H1 H2) : Ext Δ H H2 := ⟨a.1.trans b.1, b.2⟩
/-- a fresh cell is none of the changing ones -/
theorem Hold.fresh {Δ : Gh} {H : Hp} (h : Hold Δ H) {p : Addr} (hp : H p = none) : Δ p = none := by
  cases e : Δ p with
  | none => rfl
  | some I =>
    obtain ⟨o, ho, _⟩ := h p I e
    rw [hp] at ho
    cases ho
theorem Hold.new {Δ : Gh} {H : Hp} (h : Hold Δ H) {p : Addr} (hp : H p = none) (o : HO) : Hold Δ (upd H p o) := fun a I e => by
  obtain ⟨u, hu, iu⟩ := h a I e
  exact ⟨u, by rw [upd_ne (ne_of_none hu hp)]; exact hu, iu⟩
theorem Ext.new {Δ : Gh} {H : Hp} (h : Hold Δ H) {p : Addr} (hp : H p = none) (o : HO) : Ext Δ H (upd H p o) :=
  ⟨fun a u _ e => by rw [upd_ne (ne_of_none e hp)]; exact e, h.new hp o⟩
/-- what is fresh later was fresh before -/
theorem Ext.back {Δ : Gh} {H H' : Hp} (h : Hold Δ H) (e : Ext Δ H H') {p : Addr} (hp : H' p = none) : H p = none := by
  cases q : H p with
  | none => rfl
  | some o =>
    have hn := e.2.fresh hp
    rw [e.1 p o hn q] at hp
    cases hp
theorem Ext.same {Δ : Gh} {H H' : Hp} (h : Hold Δ H) (s : Same H H') : Ext Δ H H' := ⟨fun a o _ q => s a o q, fun a I e => by
  obtain ⟨o, ho, io⟩ := h a I e
  exact ⟨o, s a o ho, io⟩⟩

/-! ### data -/
/-- which value of the heap bears a datum -/
class Rp (α : Type) where
  rp : PySem.W.Frag → Gh → Hp → V → α → Prop
  mono : ∀ {K : PySem.W.Frag} {Δ : Gh} {H H' : Hp} {v : V} {a : α}, Keep Δ H H' → rp K Δ H v a → rp K Δ H' v a
  weak : ∀ {K : PySem.W.Frag} {Δ Δ' : Gh} {H : Hp} {v : V} {a : α}, (∀ x o, H x = some o → Δ x = none → Δ' x = none) → rp K Δ H v a → rp K Δ' H v a
/-- a text, by its codes -/
structure Tx where
  s : List Nat
  deriving DecidableEq
/-- a tuple of any length -/
structure Tup (α : Type) where
  l : List α
/-- an object at a told place -/
structure Loc where
  p : Addr
instance : Rp Int := ⟨fun _ _ _ v a => v = .int a, fun _ h => h, fun _ h => h⟩
instance : Rp Bool := ⟨fun _ _ _ v a => v = .bl a, fun _ h => h, fun _ h => h⟩
instance : Rp Unit := ⟨fun _ _ _ v _ => v = .non, fun _ h => h, fun _ h => h⟩
instance : Rp Tx := ⟨fun _ _ _ v a => v = .str ⟨a.s.toArray⟩, fun _ h => h, fun _ h => h⟩
instance : Rp Loc := ⟨fun _ _ _ v a => v = .ref a.p, fun _ h => h, fun _ h => h⟩
universe u1 u2 u3
/-- members, one by one -/
def All2 {α : Type u1} {β : Type u2} (R : α → β → Prop) : List α → List β → Prop
  | [], [] => True
  | x :: xs, y :: ys => R x y ∧ All2 R xs ys
  | _, _ => False
theorem All2.imp {α : Type u1} {β : Type u2} {R S : α → β → Prop} (h : ∀ x y, R x y → S x y) : ∀ {xs : List α} {ys : List β}, All2 R xs ys → All2 S xs ys
  | [], [], _ => trivial
  | [], _ :: _, q => q.elim
  | _ :: _, [], q => q.elim
  | _ :: _, _ :: _, q => ⟨h _ _ q.1, All2.imp h q.2⟩
theorem All2.len {α : Type u1} {β : Type u2} {R : α → β → Prop} : ∀ {xs : List α} {ys : List β}, All2 R xs ys → xs.length = ys.length
  | [], [], _ => rfl
  | [], _ :: _, q => q.elim
  | _ :: _, [], q => q.elim
  | _ :: xs, _ :: ys, q => by rw [List.length_cons, List.length_cons, All2.len q.2]
theorem All2.get {α : Type u1} {β : Type u2} {R : α → β → Prop} : ∀ {xs : List α} {ys : List β} {i : Nat} {y : β}, All2 R xs ys → ys[i]? = some y → ∃ x, xs[i]? = some x ∧ R x y
  | [], [], _, _, _, e => by simp at e
  | [], _ :: _, _, _, q, _ => q.elim
  | _ :: _, [], _, _, q, _ => q.elim
  | x :: _, y :: _, 0, _, q, e => by
    have e' : y = _ := Option.some.inj e
    subst e'
    exact ⟨x, rfl, q.1⟩
  | _ :: xs, _ :: ys, i + 1, y, q, e => All2.get (xs := xs) (ys := ys) (i := i) q.2 e
theorem All2.getL {α : Type u1} {β : Type u2} {R : α → β → Prop} : ∀ {xs : List α} {ys : List β} {i : Nat} {x : α}, All2 R xs ys → xs[i]? = some x → ∃ y, ys[i]? = some y ∧ R x y
  | [], [], _, _, _, e => by simp at e
  | [], _ :: _, _, _, q, _ => q.elim
  | _ :: _, [], _, _, q, _ => q.elim
  | x :: _, y :: _, 0, _, q, e => by
    have e' : x = _ := Option.some.inj e
    subst e'
    exact ⟨y, rfl, q.1⟩
  | _ :: xs, _ :: ys, i + 1, x, q, e => All2.getL (xs := xs) (ys := ys) (i := i) q.2 e
theorem All2.snoc {α : Type u1} {β : Type u2} {R : α → β → Prop} {x : α} {y : β} (r : R x y) : ∀ {xs : List α} {ys : List β}, All2 R xs ys → All2 R (xs ++ [x]) (ys ++ [y])
  | [], [], _ => ⟨r, trivial⟩
  | [], _ :: _, q => q.elim
  | _ :: _, [], q => q.elim
  | _ :: _, _ :: _, q => ⟨q.1, All2.snoc r q.2⟩
theorem All2.map {α : Type u1} {β : Type u2} {γ : Type u3} {R : α → β → Prop} {f : γ → α} {g : γ → β} : ∀ {xs : List γ}, (∀ x ∈ xs, R (f x) (g x)) → All2 R (xs.map f) (xs.map g)
  | [], _ => trivial
  | _ :: xs, h => ⟨h _ List.mem_cons_self, All2.map fun x hx => h x (List.mem_cons_of_mem _ hx)⟩
/-- a list, a tuple of the written part -/
def KL (K : PySem.W.Frag) (p : Addr) (xs : List V) : Prop := ∃ (o : Obj) (its : Array Value) (n : Nat), K.lookup p = some o ∧ o.cls = .type "list" ∧ o.dict = none ∧ o.data = .seq its n ∧ its.size ≤ sizeLine ∧ Vals xs its.toList
def KT (K : PySem.W.Frag) (p : Addr) (xs : List V) : Prop := ∃ (o : Obj) (its : Array Value) (n : Nat), K.lookup p = some o ∧ o.cls = .type "tuple" ∧ o.data = .seq its n ∧ its.size ≤ sizeLine ∧ Vals xs its.toList
/-- a list, a tuple that stays as it is -/
def StL (K : PySem.W.Frag) (Δ : Gh) (H : Hp) (p : Addr) (xs : List V) : Prop := (Δ p = none ∧ Rd H p (.lst xs)) ∨ KL K p xs
def StT (K : PySem.W.Frag) (Δ : Gh) (H : Hp) (p : Addr) (xs : List V) : Prop := (Δ p = none ∧ Rd H p (.tup xs)) ∨ KT K p xs
section
variable {K : PySem.W.Frag} {Δ Δ' : Gh} {H H' : Hp} {p : Addr} {xs : List V}
theorem StL.seq (h : StL K Δ H p xs) : SqL K H p xs := h.elim (fun h => .inl h.2) .inr
theorem StT.seq (h : StT K Δ H p xs) : SqT K H p xs := h.elim (fun h => .inl h.2) .inr
theorem rd_mono {o : HO} (k : Keep Δ H H') (n : Δ p = none) (h : Rd H p o) : Rd H' p o := h.elim (fun h => .inl (k _ _ n h)) fun ⟨u, h⟩ => .inr ⟨u, k _ _ n h⟩
theorem rd_some {o : HO} (h : Rd H p o) : ∃ u, H p = some u := h.elim (fun h => ⟨_, h⟩) fun ⟨u, h⟩ => ⟨_, h⟩
theorem StL.mono (k : Keep Δ H H') (h : StL K Δ H p xs) : StL K Δ H' p xs := h.elim (fun h => .inl ⟨h.1, rd_mono k h.1 h.2⟩) .inr
theorem StT.mono (k : Keep Δ H H') (h : StT K Δ H p xs) : StT K Δ H' p xs := h.elim (fun h => .inl ⟨h.1, rd_mono k h.1 h.2⟩) .inr
theorem StL.weak (w : ∀ x o, H x = some o → Δ x = none → Δ' x = none) (h : StL K Δ H p xs) : StL K Δ' H p xs := h.elim (fun h => .inl ⟨let ⟨u, hu⟩ := rd_some h.2; w p u hu h.1, h.2⟩) .inr
theorem StT.weak (w : ∀ x o, H x = some o → Δ x = none → Δ' x = none) (h : StT K Δ H p xs) : StT K Δ' H p xs := h.elim (fun h => .inl ⟨let ⟨u, hu⟩ := rd_some h.2; w p u hu h.1, h.2⟩) .inr
end
section
variable {α β : Type} [Rp α] [Rp β]
instance : Rp (List α) where
  rp K Δ H v xs := ∃ p vs, v = .ref p ∧ StL K Δ H p vs ∧ SqL K H p vs ∧ All2 (fun u a => Rp.rp K Δ H u a) vs xs
  mono k h := by
    obtain ⟨p, vs, e, n, s, q⟩ := h
    exact ⟨p, vs, e, n.mono k, (n.mono k).seq, q.imp fun _ _ => Rp.mono k⟩
  weak w h := by
    obtain ⟨p, vs, e, n, s, q⟩ := h
    exact ⟨p, vs, e, n.weak w, s, q.imp fun _ _ => Rp.weak w⟩
instance : Rp (Tup α) where
  rp K Δ H v xs := ∃ p vs, v = .ref p ∧ StT K Δ H p vs ∧ SqT K H p vs ∧ All2 (fun u a => Rp.rp K Δ H u a) vs xs.l
  mono k h := by
    obtain ⟨p, vs, e, n, s, q⟩ := h
    exact ⟨p, vs, e, n.mono k, (n.mono k).seq, q.imp fun _ _ => Rp.mono k⟩
  weak w h := by
    obtain ⟨p, vs, e, n, s, q⟩ := h
    exact ⟨p, vs, e, n.weak w, s, q.imp fun _ _ => Rp.weak w⟩
instance : Rp (α × β) where
  rp K Δ H v x := ∃ p a b, v = .ref p ∧ StT K Δ H p [a, b] ∧ SqT K H p [a, b] ∧ Rp.rp K Δ H a x.1 ∧ Rp.rp K Δ H b x.2
  mono k h := by
    obtain ⟨p, a, b, e, n, s, q, r⟩ := h
    exact ⟨p, a, b, e, n.mono k, (n.mono k).seq, Rp.mono k q, Rp.mono k r⟩
  weak w h := by
    obtain ⟨p, a, b, e, n, s, q, r⟩ := h
    exact ⟨p, a, b, e, n.weak w, s, Rp.weak w q, Rp.weak w r⟩
end

/-! ### names -/
structure Cell where
  {α : Type}
  [r : Rp α]
  val : α
def Cell.rp (c : Cell) (K : PySem.W.Frag) (Δ : Gh) (H : Hp) (v : V) : Prop := c.r.rp K Δ H v c.val
abbrev Env := List (Option Cell)
def EnvOk (K : PySem.W.Frag) (Δ : Gh) (σ : L2.St) (H : Hp) (ρ : Env) : Prop := σ.length = ρ.length ∧ ∀ (i : Nat) (c : Cell), ρ[i]? = some (some c) → ∃ v, σ[i]? = some (some v) ∧ c.rp K Δ H v
section
variable {K : PySem.W.Frag} {Δ Δ' : Gh} {σ : L2.St} {H H' : Hp} {ρ : Env}
theorem EnvOk.mono (k : Keep Δ H H') (h : EnvOk K Δ σ H ρ) : EnvOk K Δ σ H' ρ := ⟨h.1, fun i c e => by
  obtain ⟨v, e1, e2⟩ := h.2 i c e
  exact ⟨v, e1, c.r.mono k e2⟩⟩
theorem EnvOk.weak (w : ∀ x o, H x = some o → Δ x = none → Δ' x = none) (h : EnvOk K Δ σ H ρ) : EnvOk K Δ' σ H ρ := ⟨h.1, fun i c e => by
  obtain ⟨v, e1, e2⟩ := h.2 i c e
  exact ⟨v, e1, c.r.weak w e2⟩⟩
theorem EnvOk.set {i : Nat} {c : Cell} {v : V} (h : EnvOk K Δ σ H ρ) (hi : i < ρ.length) (hv : c.rp K Δ H v) : EnvOk K Δ (σ.set i (some v)) H (ρ.set i (some c)) := by
  refine ⟨by rw [List.length_set, List.length_set]; exact h.1, fun j d e => ?_⟩
  by_cases hj : i = j
  · subst hj
    rw [List.getElem?_set_self hi] at e
    cases e
    exact ⟨v, List.getElem?_set_self (by rw [h.1]; exact hi), hv⟩
  · rw [List.getElem?_set_ne hj] at e ⊢
    exact h.2 j d e
theorem EnvOk.drop {i : Nat} (h : EnvOk K Δ σ H ρ) : EnvOk K Δ (σ.set i none) H (ρ.set i none) := by
  refine ⟨by rw [List.length_set, List.length_set]; exact h.1, fun j d e => ?_⟩
  by_cases hj : i = j
  · subst hj
    by_cases hi : i < ρ.length
    · rw [List.getElem?_set_self hi] at e
      cases e
    · rw [List.getElem?_eq_none (by rw [List.length_set]; omega)] at e
      cases e
  · rw [List.getElem?_set_ne hj] at e ⊢
    exact h.2 j d e
def wipeE (ρ : Env) : List Nat → Env
  | [] => ρ
  | v :: vs => (wipeE ρ vs).set v none
theorem EnvOk.wipe (h : EnvOk K Δ σ H ρ) : ∀ vs : List Nat, EnvOk K Δ (L2.wipe σ vs) H (wipeE ρ vs)
  | [] => h
  | v :: vs => (EnvOk.wipe h vs).drop
end

/-! ### expressions -/
/-- the datum is just this -/
def Is {α : Type u1} (a : α) : α → Prop := fun x => x = a
def Ev (K : PySem.W.Frag) (Γ : Own) (te : TE) (ρ : Env) {α : Type} [Rp α] (P : α → Prop) : Prop :=
  ∀ (Δ : Gh) (σ : L2.St) (H : Hp) (Q : VK), Sat Γ Δ → Hold Δ H → EnvOk K Δ σ H ρ → (∀ v H' a, P a → Ext Δ H H' → Rp.rp K Δ H' v a → Q v H') → te σ H Q
def EvT (K : PySem.W.Frag) (Γ : Own) (t : TT) (ρ : Env) (P : Bool → Prop) : Prop :=
  ∀ (Δ : Gh) (σ : L2.St) (H : Hp) (Q : Bool → Hp → Prop), Sat Γ Δ → Hold Δ H → EnvOk K Δ σ H ρ → (∀ b H', P b → Ext Δ H H' → Q b H') → t σ H Q
def ArgsOk (K : PySem.W.Frag) (Δ : Gh) (H : Hp) : List V → List Cell → Prop := All2 fun (v : V) (c : Cell) => c.rp K Δ H v
def EvA (K : PySem.W.Frag) (Γ : Own) (t : TA) (ρ : Env) (P : List Cell → Prop) : Prop :=
  ∀ (Δ : Gh) (σ : L2.St) (H : Hp) (Q : List V → Hp → Prop), Sat Γ Δ → Hold Δ H → EnvOk K Δ σ H ρ → (∀ vs H' cs, P cs → Ext Δ H H' → ArgsOk K Δ H' vs cs → Q vs H') → t σ H Q
section
variable {K : PySem.W.Frag} {Γ : Own} {ρ : Env} {ta tb tc te : TE} {t u : TT} {α β γ : Type} [Rp α] [Rp β] [Rp γ] {Pa : α → Prop} {Pb : β → Prop} {Pc : γ → Prop}
theorem Ev.imp {P P' : α → Prop} (h : Ev K Γ te ρ P) (q : ∀ a, P a → P' a) : Ev K Γ te ρ P' := fun Δ σ H Q s hh e k => h Δ σ H Q s hh e fun v H' a p => k v H' a (q a p)
theorem EvT.imp {P P' : Bool → Prop} (h : EvT K Γ t ρ P) (q : ∀ a, P a → P' a) : EvT K Γ t ρ P' := fun Δ σ H Q s hh e k => h Δ σ H Q s hh e fun b H' p => k b H' (q b p)
theorem ev_is {a b : α} (h : Ev K Γ te ρ (Is a)) (e : a = b) : Ev K Γ te ρ (Is b) := e ▸ h
theorem et_is {a b : Bool} (h : EvT K Γ t ρ (Is a)) (e : a = b) : EvT K Γ t ρ (Is b) := e ▸ h
theorem ev_var {i : Nat} {a : α} (h : ρ[i]? = some (some ⟨a⟩) := by rfl) : Ev K Γ (tVar i) ρ (Is a) := fun Δ σ H Q s hh e k => by
  obtain ⟨v, h1, h2⟩ := e.2 i _ h
  exact ⟨v, h1, k v H a rfl (Ext.refl hh) h2⟩
theorem ev_int {i : Int} : Ev K Γ (tC (.int i)) ρ (Is i) := fun Δ σ H Q s hh e k => k _ H i rfl (Ext.refl hh) rfl
theorem ev_bl {b : Bool} : Ev K Γ (tC (.bl b)) ρ (Is b) := fun Δ σ H Q s hh e k => k _ H b rfl (Ext.refl hh) rfl
theorem ev_non : Ev K Γ (tC .non) ρ (Is ()) := fun Δ σ H Q s hh e k => k _ H () rfl (Ext.refl hh) rfl
theorem ev_str {x : Str} : Ev K Γ (tC (.str x)) ρ (Is (⟨x.cps.toList⟩ : Tx)) := fun Δ σ H Q s hh e k => k _ H _ rfl (Ext.refl hh) rfl
/-- a two-place operation on data -/
def Op2 (K : PySem.W.Frag) (r : R2) (x : α) (y : β) (P : γ → Prop) : Prop :=
  ∀ (Δ : Gh) (H : Hp) (v w : V) (Q : VK), Hold Δ H → Rp.rp K Δ H v x → Rp.rp K Δ H w y → (∀ u H' c, P c → Ext Δ H H' → Rp.rp K Δ H' u c → Q u H') → r v w H Q
theorem ev_op {r : R2} (ha : Ev K Γ ta ρ Pa) (hb : Ev K Γ tb ρ Pb) (hr : ∀ x y, Pa x → Pb y → Op2 K r x y Pc) : Ev K Γ (tOp r ta tb) ρ Pc := fun Δ σ H Q s hh e k =>
  ha Δ σ H _ s hh e fun v H1 x px e1 r1 => hb Δ σ H1 _ s e1.2 (e.mono e1.1) fun w H2 y py e2 r2 =>
    hr x y px py Δ H2 v w Q e2.2 (Rp.mono e2.1 r1) r2 fun z H3 c pc e3 r3 => k z H3 c pc (e1.trans (e2.trans e3)) r3
theorem ev_op1 {r : R2} {x : α} {y : β} (ha : Ev K Γ ta ρ (Is x)) (hb : Ev K Γ tb ρ (Is y)) (hr : Op2 K r x y Pc) : Ev K Γ (tOp r ta tb) ρ Pc :=
  ev_op ha hb fun x' y' e1 e2 => by rw [show x' = x from e1, show y' = y from e2]; exact hr
theorem o2_I0 {g : Int → Int → Int} {x y : Int} : Op2 K (rI0 fun i j => .int (g i j)) x y (Is (g x y)) := fun Δ H v w Q hh r1 r2 k => ⟨x, y, r1, r2, k _ H _ rfl (Ext.refl hh) rfl⟩
theorem o2_B0 {g : Int → Int → Bool} {x y : Int} : Op2 K (rI0 fun i j => .bl (g i j)) x y (Is (g x y)) := fun Δ H v w Q hh r1 r2 k => ⟨x, y, r1, r2, k _ H _ rfl (Ext.refl hh) rfl⟩
theorem o2_I {C : Int → Int → Prop} {g : Int → Int → Int} {x y : Int} (c : C x y) : Op2 K (rI C fun i j => .int (g i j)) x y (Is (g x y)) := fun Δ H v w Q hh r1 r2 k => ⟨x, y, r1, r2, c, k _ H _ rfl (Ext.refl hh) rfl⟩
theorem dec_tx {x y : Tx} : decide (V.str ⟨x.s.toArray⟩ = V.str ⟨y.s.toArray⟩) = decide (x = y) := by
  rw [decide_eq_decide]
  constructor
  · intro h
    injection h with h
    injection h with h
    have h2 := congrArg Array.toList h
    cases x
    cases y
    simpa using h2
  · intro h
    rw [h]
theorem o2_eqS {x y : Tx} : Op2 K rEq x y (Is (decide (x = y))) := fun Δ H v w Q hh r1 r2 k => by
  have e1 : v = .str ⟨x.s.toArray⟩ := r1
  have e2 : w = .str ⟨y.s.toArray⟩ := r2
  subst e1 e2
  exact ⟨rfl, k _ H _ rfl (Ext.refl hh) (congrArg V.bl dec_tx)⟩
theorem o2_neS {x y : Tx} : Op2 K rNe x y (Is (!decide (x = y))) := fun Δ H v w Q hh r1 r2 k => by
  have e1 : v = .str ⟨x.s.toArray⟩ := r1
  have e2 : w = .str ⟨y.s.toArray⟩ := r2
  subst e1 e2
  exact ⟨rfl, k _ H _ rfl (Ext.refl hh) (congrArg (fun b => V.bl (!b)) dec_tx)⟩
theorem o2_eqI {x y : Int} : Op2 K rEq x y (Is (decide (x = y))) := fun Δ H v w Q hh r1 r2 k => by
  have e1 : v = .int x := r1
  have e2 : w = .int y := r2
  subst e1 e2
  refine ⟨rfl, k _ H _ rfl (Ext.refl hh) (congrArg V.bl ?_)⟩
  rw [decide_eq_decide]
  exact ⟨fun h => V.int.inj h, fun h => by rw [h]⟩
theorem o2_neI {x y : Int} : Op2 K rNe x y (Is (!decide (x = y))) := fun Δ H v w Q hh r1 r2 k => by
  have e1 : v = .int x := r1
  have e2 : w = .int y := r2
  subst e1 e2
  refine ⟨rfl, k _ H _ rfl (Ext.refl hh) (congrArg (fun b => V.bl (!b)) ?_)⟩
  rw [decide_eq_decide]
  exact ⟨fun h => V.int.inj h, fun h => by rw [h]⟩
theorem o2_eqB {x y : Bool} : Op2 K rEq x y (Is (decide (x = y))) := fun Δ H v w Q hh r1 r2 k => by
  have e1 : v = .bl x := r1
  have e2 : w = .bl y := r2
  subst e1 e2
  refine ⟨rfl, k _ H _ rfl (Ext.refl hh) (congrArg V.bl ?_)⟩
  rw [decide_eq_decide]
  exact ⟨fun h => V.bl.inj h, fun h => by rw [h]⟩
theorem o2_neB {x y : Bool} : Op2 K rNe x y (Is (!decide (x = y))) := fun Δ H v w Q hh r1 r2 k => by
  have e1 : v = .bl x := r1
  have e2 : w = .bl y := r2
  subst e1 e2
  refine ⟨rfl, k _ H _ rfl (Ext.refl hh) (congrArg (fun b => V.bl (!b)) ?_)⟩
  rw [decide_eq_decide]
  exact ⟨fun h => V.bl.inj h, fun h => by rw [h]⟩
theorem cp_at {x : Tx} {i : Nat} {c : Nat} (h : x.s[i]? = some c) : atI (⟨x.s.toArray⟩ : Str).cps.toList (i : Int) = some c := atI_nat (by simpa using h)
/-- row[i] -/
theorem o2_ixS {x : Tx} {i : Nat} {c : Nat} (hz : x.s.length ≤ 100000) (h : x.s[i]? = some c) : Op2 K rIxS x (i : Int) (Is (⟨[c]⟩ : Tx)) := fun Δ H v w Q hh r1 r2 k => by
  have e1 : v = .str ⟨x.s.toArray⟩ := r1
  have e2 : w = .int i := r2
  subst e1 e2
  refine ⟨_, _, c, rfl, rfl, ?_, cp_at h, k _ H _ rfl (Ext.refl hh) rfl⟩
  show x.s.toArray.size ≤ sizeLine
  rw [List.size_toArray]
  exact Nat.le_trans hz (by decide)
theorem o2_ixL {xs : List α} {i : Nat} {a : α} (h : xs[i]? = some a) : Op2 K (rIxL K) xs (i : Int) (Is a) := fun Δ H v w Q hh r1 r2 k => by
  obtain ⟨p, vs, rfl, n, s, q⟩ := r1
  have e2 : w = .int i := r2
  subst e2
  obtain ⟨u, hu, ru⟩ := q.get h
  exact ⟨p, vs, i, u, rfl, rfl, s, atI_nat hu, k u H a rfl (Ext.refl hh) ru⟩
theorem o2_ixT {xs : Tup α} {i : Nat} {a : α} (h : xs.l[i]? = some a) : Op2 K (rIxT K) xs (i : Int) (Is a) := fun Δ H v w Q hh r1 r2 k => by
  obtain ⟨p, vs, rfl, n, s, q⟩ := r1
  have e2 : w = .int i := r2
  subst e2
  obtain ⟨u, hu, ru⟩ := q.get h
  exact ⟨p, vs, i, u, rfl, rfl, s, atI_nat hu, k u H a rfl (Ext.refl hh) ru⟩
theorem o2_ixP0 {x : α × β} : Op2 K (rIxT K) x (0 : Int) (Is x.1) := fun Δ H v w Q hh r1 r2 k => by
  obtain ⟨p, a, b, rfl, n, s, q, q2⟩ := r1
  have e2 : w = .int 0 := r2
  subst e2
  exact ⟨p, _, _, a, rfl, rfl, s, atI_nat (j := 0) rfl, k a H _ rfl (Ext.refl hh) q⟩
theorem o2_ixP1 {x : α × β} : Op2 K (rIxT K) x (1 : Int) (Is x.2) := fun Δ H v w Q hh r1 r2 k => by
  obtain ⟨p, a, b, rfl, n, s, q, q2⟩ := r1
  have e2 : w = .int 1 := r2
  subst e2
  exact ⟨p, _, _, b, rfl, rfl, s, atI_nat (j := 1) rfl, k b H _ rfl (Ext.refl hh) q2⟩
theorem all2_int {Δ : Gh} {H : Hp} : ∀ {vs : List V} {xs : List Int}, All2 (fun u a => Rp.rp K Δ H u a) vs xs → vs = xs.map V.int
  | [], [], _ => rfl
  | [], _ :: _, q => q.elim
  | _ :: _, [], q => q.elim
  | v :: vs, x :: xs, q => by
    have e : v = .int x := q.1
    rw [List.map_cons, e, all2_int q.2]
theorem all2_bl {Δ : Gh} {H : Hp} : ∀ {vs : List V} {xs : List Bool}, All2 (fun u a => Rp.rp K Δ H u a) vs xs → vs = xs.map V.bl
  | [], [], _ => rfl
  | [], _ :: _, q => q.elim
  | _ :: _, [], q => q.elim
  | v :: vs, x :: xs, q => by
    have e : v = .bl x := q.1
    rw [List.map_cons, e, all2_bl q.2]
theorem all2_tx {Δ : Gh} {H : Hp} : ∀ {vs : List V} {xs : List Tx}, All2 (fun u a => Rp.rp K Δ H u a) vs xs → vs = (xs.map fun x => (⟨x.s.toArray⟩ : Str)).map V.str
  | [], [], _ => rfl
  | [], _ :: _, q => q.elim
  | _ :: _, [], q => q.elim
  | v :: vs, x :: xs, q => by
    have e : v = .str ⟨x.s.toArray⟩ := q.1
    rw [List.map_cons, List.map_cons, e, all2_tx q.2]
theorem inV_int {i : Int} : ∀ {xs : List Int}, inV (.int i) (xs.map V.int) = decide (i ∈ xs)
  | [] => rfl
  | x :: xs => by
    have ih := inV_int (i := i) (xs := xs)
    unfold inV at ih ⊢
    rw [List.map_cons, List.any_cons, ih]
    by_cases h : i = x
    · subst h
      simp [eqV]
    · have h' : ¬ x = i := fun z => h z.symm
      simp [eqV, h, h']
theorem flat_int : ∀ {xs : List Int}, (xs.map V.int).all flatV = true
  | [] => rfl
  | _ :: xs => by
    rw [List.map_cons, List.all_cons, flat_int]
    rfl
/-- i in t -/
theorem o2_inT {i : Int} {xs : Tup Int} : Op2 K (rIn K false) i xs (Is (decide (i ∈ xs.l))) := fun Δ H v w Q hh r1 r2 k => by
  have e1 : v = .int i := r1
  obtain ⟨p, vs, rfl, n, s, q⟩ := r2
  subst e1
  have ev := all2_int q
  subst ev
  exact ⟨p, _, rfl, .inr s, rfl, flat_int, k _ H _ rfl (Ext.refl hh) (by show V.bl _ = V.bl _; rw [if_neg Bool.false_ne_true, inV_int])⟩
/-! tests -/
theorem et_test {Pb : Bool → Prop} (h : Ev K Γ te ρ Pb) : EvT K Γ (tTest te) ρ Pb := fun Δ σ H Q s hh e k => h Δ σ H _ s hh e fun v H' b pb e1 r1 => ⟨b, r1, k b H' pb e1⟩
theorem et_B {Pb : Bool → Prop} (h : Ev K Γ te ρ Pb) : EvT K Γ (tB te) ρ Pb := fun Δ σ H Q s hh e k => h Δ σ H _ s hh e fun v H' b pb e1 r1 => ⟨b, r1, k b H' pb e1⟩
theorem et_not {a : Bool} (h : EvT K Γ t ρ (Is a)) : EvT K Γ (tNot t) ρ (Is (!a)) := fun Δ σ H Q s hh e k => h Δ σ H _ s hh e fun b H' pb e1 => k _ H' (by rw [show b = a from pb]; rfl) e1
theorem et_and {a b : Bool} (h1 : EvT K Γ t ρ (Is a)) (h2 : a = true → EvT K Γ u ρ (Is b)) : EvT K Γ (tAnd t u) ρ (Is (a && b)) := fun Δ σ H Q s hh e k => h1 Δ σ H _ s hh e fun c H' pc e1 => by
  have ec : c = a := pc
  subst ec
  cases c with
  | true => exact iteT (h2 rfl Δ σ H' Q s e1.2 (e.mono e1.1) fun d H2 pd e2 => k d H2 pd (e1.trans e2))
  | false => exact iteF (k false H' rfl e1)
theorem et_or {a b : Bool} (h1 : EvT K Γ t ρ (Is a)) (h2 : a = false → EvT K Γ u ρ (Is b)) : EvT K Γ (tOr t u) ρ (Is (a || b)) := fun Δ σ H Q s hh e k => h1 Δ σ H _ s hh e fun c H' pc e1 => by
  have ec : c = a := pc
  subst ec
  cases c with
  | true => exact iteT (k true H' rfl e1)
  | false => exact iteF (h2 rfl Δ σ H' Q s e1.2 (e.mono e1.1) fun d H2 pd e2 => k d H2 pd (e1.trans e2))
theorem ev_andV {a b : Bool} (h1 : Ev K Γ ta ρ (Is a)) (h2 : a = true → Ev K Γ tb ρ (Is b)) : Ev K Γ (tAndV ta tb) ρ (Is (a && b)) := fun Δ σ H Q s hh e k => h1 Δ σ H _ s hh e fun v H' c pc e1 r1 => by
  have ec : c = a := pc
  subst ec
  refine ⟨c, r1, ?_⟩
  cases c with
  | true => exact iteT (h2 rfl Δ σ H' Q s e1.2 (e.mono e1.1) fun d H2 x pd e2 r2 => k d H2 x pd (e1.trans e2) r2)
  | false => exact iteF (k _ H' false rfl e1 rfl)
theorem ev_orV {a b : Bool} (h1 : Ev K Γ ta ρ (Is a)) (h2 : a = false → Ev K Γ tb ρ (Is b)) : Ev K Γ (tOrV ta tb) ρ (Is (a || b)) := fun Δ σ H Q s hh e k => h1 Δ σ H _ s hh e fun v H' c pc e1 r1 => by
  have ec : c = a := pc
  subst ec
  refine ⟨c, r1, ?_⟩
  cases c with
  | true => exact iteT (k _ H' true rfl e1 rfl)
  | false => exact iteF (h2 rfl Δ σ H' Q s e1.2 (e.mono e1.1) fun d H2 x pd e2 r2 => k d H2 x pd (e1.trans e2) r2)
theorem ev_notV {a : Bool} (h1 : Ev K Γ ta ρ (Is a)) : Ev K Γ (tNotV ta) ρ (Is (!a)) := fun Δ σ H Q s hh e k => h1 Δ σ H _ s hh e fun v H' c pc e1 r1 => ⟨c, r1, k _ H' (!c) (by rw [show c = a from pc]; rfl) e1 rfl⟩
theorem ev_if {b : Bool} (h : EvT K Γ t ρ (Is b)) (h1 : b = true → Ev K Γ ta ρ Pa) (h2 : b = false → Ev K Γ tb ρ Pa) : Ev K Γ (tIf t ta tb) ρ Pa := fun Δ σ H Q s hh e k => h Δ σ H _ s hh e fun c H' pc e1 => by
  have ec : c = b := pc
  subst ec
  cases c with
  | true => exact iteT (h1 rfl Δ σ H' Q s e1.2 (e.mono e1.1) fun d H2 x pd e2 r2 => k d H2 x pd (e1.trans e2) r2)
  | false => exact iteF (h2 rfl Δ σ H' Q s e1.2 (e.mono e1.1) fun d H2 x pd e2 r2 => k d H2 x pd (e1.trans e2) r2)
/-- a < b < c -/
theorem ev_chain {r r' : R2} {a b : Bool} {x : α} {y : β} {z : γ} (ha : Ev K Γ ta ρ (Is x)) (hb : Ev K Γ tb ρ (Is y)) (hc : Ev K Γ tc ρ (Is z)) (h1 : Op2 K r x y (Is a)) (h2 : Op2 K r' y z (Is b)) : Ev K Γ (tChain r r' ta tb tc) ρ (Is (a && b)) := fun Δ σ H Q s hh e k =>
  ha Δ σ H _ s hh e fun v H1 x' px e1 r1 => hb Δ σ H1 _ s e1.2 (e.mono e1.1) fun w H2 y' py e2 r2 => by
    have ex : x' = x := px
    have ey : y' = y := py
    subst ex ey
    refine h1 Δ H2 v w _ e2.2 (Rp.mono e2.1 r1) r2 fun u H3 c pc e3 r3 => ?_
    have ec : c = a := pc
    subst ec
    refine ⟨c, r3, ?_⟩
    cases c with
    | true =>
      refine iteT (hc Δ σ H3 _ s e3.2 (e.mono (e1.trans (e2.trans e3)).1) fun q H4 z' pz e4 r4 => ?_)
      have ez : z' = z := pz
      subst ez
      exact h2 Δ H4 w q Q e4.2 (Rp.mono (e3.trans e4).1 r2) r4 fun d H5 x5 p5 e5 r5 => k d H5 x5 p5 (e1.trans (e2.trans (e3.trans (e4.trans e5)))) r5
    | false => exact iteF (k _ H3 false rfl (e1.trans (e2.trans e3)) rfl)
/-! arguments, displays -/
theorem ea_nil : EvA K Γ tNil ρ (Is ([] : List Cell)) := fun Δ σ H Q s hh e k => k [] H [] rfl (Ext.refl hh) trivial
theorem ea_cons {tr : TA} {Ps : List Cell → Prop} {P : List Cell → Prop} (h : Ev K Γ ta ρ Pa) (hr : EvA K Γ tr ρ Ps) (hp : ∀ a cs, Pa a → Ps cs → P (⟨a⟩ :: cs)) : EvA K Γ (tCons ta tr) ρ P := fun Δ σ H Q s hh e k =>
  h Δ σ H _ s hh e fun v H1 a pa e1 r1 => hr Δ σ H1 _ s e1.2 (e.mono e1.1) fun vs H2 cs pcs e2 r2 => k (v :: vs) H2 (⟨a⟩ :: cs) (hp a cs pa pcs) (e1.trans e2) ⟨Rp.mono e2.1 r1, r2⟩
theorem ea_1 {tr : TA} {a : α} {cs : List Cell} (h : Ev K Γ ta ρ (Is a)) (hr : EvA K Γ tr ρ (Is cs)) : EvA K Γ (tCons ta tr) ρ (Is (⟨a⟩ :: cs)) := ea_cons h hr fun a' cs' e1 e2 => by
  show _ = _
  rw [show a' = a from e1, show cs' = cs from e2]
end
end Z

set_option Elab.async false
set_option linter.all false
set_option maxRecDepth 100000
set_option maxHeartbeats 1000000
namespace Z
open PySem PySem.Spec PyProof.Rows L2
universe v1 v2
section
variable {K : PySem.W.Frag} {Γ : Own} {ρ : Env} {ta tb tc te : TE} {t u : TT} {α β γ : Type} [Rp α] [Rp β] [Rp γ] {Pa : α → Prop} {Pb : β → Prop} {Pc : γ → Prop}
/-! ### displays, calls -/
theorem All2.of_map {α : Type v1} {β : Type v2} {γ : Type} {R : α → β → Prop} {f : γ → β} : ∀ {xs : List α} {ys : List γ}, All2 R xs (ys.map f) → All2 (fun x y => R x (f y)) xs ys
  | [], [], _ => trivial
  | [], _ :: _, q => q.elim
  | _ :: _, [], q => q.elim
  | _ :: xs, _ :: ys, q => ⟨q.1, All2.of_map (xs := xs) (ys := ys) q.2⟩
theorem new_lst {Δ : Gh} {H : Hp} {p : Addr} {vs : List V} {xs : List α} (hh : Hold Δ H) (hp : H p = none) (q : All2 (fun u a => Rp.rp K Δ H u a) vs xs) : Rp.rp K Δ (upd H p (.lst vs)) (.ref p) xs :=
  ⟨p, vs, rfl, .inl ⟨hh.fresh hp, .inl upd_same⟩, .inl (.inl upd_same), q.imp fun _ _ => Rp.mono (Ext.new hh hp _).1⟩
theorem new_tup {Δ : Gh} {H : Hp} {p : Addr} {vs : List V} {xs : List α} (hh : Hold Δ H) (hp : H p = none) (q : All2 (fun u a => Rp.rp K Δ H u a) vs xs) : Rp.rp K Δ (upd H p (.tup vs)) (.ref p) (⟨xs⟩ : Tup α) :=
  ⟨p, vs, rfl, .inl ⟨hh.fresh hp, .inl upd_same⟩, .inl (.inl upd_same), q.imp fun _ _ => Rp.mono (Ext.new hh hp _).1⟩
theorem ev_lst {ta : TA} {xs : List α} (h : EvA K Γ ta ρ (Is (xs.map fun a => ⟨a⟩))) (hz : xs.length ≤ 100000) : Ev K Γ (tLst ta) ρ (Is xs) := fun Δ σ H Q s hh e k => h Δ σ H _ s hh e fun vs H' cs pcs e1 r => by
  have ec : cs = xs.map fun a => ⟨a⟩ := pcs
  subst ec
  have r' := All2.of_map r
  exact ⟨Nat.le_trans (Nat.le_of_eq r'.len) (Nat.le_trans hz (by decide)), fun p hp => k _ _ xs rfl (e1.trans (Ext.new e1.2 hp _)) (new_lst e1.2 hp r')⟩
theorem ev_tupN {ta : TA} {xs : List α} (h : EvA K Γ ta ρ (Is (xs.map fun a => ⟨a⟩))) (hz : xs.length ≤ 100000) : Ev K Γ (tTup ta) ρ (Is (⟨xs⟩ : Tup α)) := fun Δ σ H Q s hh e k => h Δ σ H _ s hh e fun vs H' cs pcs e1 r => by
  have ec : cs = xs.map fun a => ⟨a⟩ := pcs
  subst ec
  have r' := All2.of_map r
  exact ⟨Nat.le_trans (Nat.le_of_eq r'.len) (Nat.le_trans hz (by decide)), fun p hp => k _ _ ⟨xs⟩ rfl (e1.trans (Ext.new e1.2 hp _)) (new_tup e1.2 hp r')⟩
theorem ev_tup2 {ta : TA} {x : α} {y : β} (h : EvA K Γ ta ρ (Is [⟨x⟩, ⟨y⟩])) : Ev K Γ (tTup ta) ρ (Is (x, y)) := fun Δ σ H Q s hh e k => h Δ σ H _ s hh e fun vs H' cs pcs e1 r => by
  have ec : cs = [⟨x⟩, ⟨y⟩] := pcs
  subst ec
  match vs, r with
  | [v, w], r => exact ⟨by show 2 ≤ sizeLine; decide, fun p hp => k _ _ (x, y) rfl (e1.trans (Ext.new e1.2 hp _)) ⟨p, v, w, rfl, .inl ⟨e1.2.fresh hp, .inl upd_same⟩, .inl (.inl upd_same), Rp.mono (Ext.new e1.2 hp _).1 r.1, Rp.mono (Ext.new e1.2 hp _).1 r.2.1⟩⟩
/-- what a def promises: of the owned cells and the arguments' data, some datum with P -/
def spD (K : PySem.W.Frag) {β : Type} [Rp β] (F : Own → List Cell → (β → Prop) → Prop) : Sp := fun vs H Q _ => ∃ (Γ : Own) (Δ : Gh) (cs : List Cell) (P : β → Prop), F Γ cs P ∧ Sat Γ Δ ∧ Hold Δ H ∧ ArgsOk K Δ H vs cs ∧
  ∀ (v : V) (H' : Hp) (b : β), P b → Ext Δ H H' → Rp.rp K Δ H' v b → Q v H'
theorem All2.app {α : Type v1} {β : Type v2} {R : α → β → Prop} : ∀ {xs : List α} {ys : List β} {xs' : List α} {ys' : List β}, All2 R xs ys → All2 R xs' ys' → All2 R (xs ++ xs') (ys ++ ys')
  | [], [], _, _, _, h => h
  | [], _ :: _, _, _, q, _ => q.elim
  | _ :: _, [], _, _, q, _ => q.elim
  | _ :: _, _ :: _, _, _, q, h => ⟨q.1, All2.app q.2 h⟩
theorem ev_call {F : Own → List Cell → (β → Prop) → Prop} {E : XK} {ta : TA} {Pcs : List Cell → Prop} (ha : EvA K Γ ta ρ Pcs) (hf : ∀ cs, Pcs cs → F Γ cs Pb) : Ev K Γ (tCall (spD K F) [] E ta) ρ Pb := fun Δ σ H Q s hh e k =>
  ha Δ σ H _ s hh e fun vs H' cs pcs e1 r => ⟨Γ, Δ, cs, Pb, hf cs pcs, s, e1.2, by rw [List.append_nil]; exact r, fun v H2 b pb e2 r2 => k v H2 b pb (e1.trans e2) r2⟩
theorem ev_callD {F : Own → List Cell → (β → Prop) → Prop} {E : XK} {ta : TA} {Pcs : List Cell → Prop} {dvs : List V} {dcs : List Cell} (hd : ∀ Δ H, ArgsOk K Δ H dvs dcs) (ha : EvA K Γ ta ρ Pcs) (hf : ∀ cs, Pcs cs → F Γ (cs ++ dcs) Pb) : Ev K Γ (tCall (spD K F) dvs E ta) ρ Pb := fun Δ σ H Q s hh e k =>
  ha Δ σ H _ s hh e fun vs H' cs pcs e1 r => ⟨Γ, Δ, cs ++ dcs, Pb, hf cs pcs, s, e1.2, All2.app r (hd Δ H'), fun v H2 b pb e2 r2 => k v H2 b pb (e1.trans e2) r2⟩
theorem ev_call1 {F : Own → List Cell → (β → Prop) → Prop} {E : XK} {ta : TA} {cs : List Cell} (ha : EvA K Γ ta ρ (Is cs)) (hf : F Γ cs Pb) : Ev K Γ (tCall (spD K F) [] E ta) ρ Pb := ev_call ha fun cs' e => by rw [show cs' = cs from e]; exact hf
/-- a built-in's call, by its data -/
def Op1 (K : PySem.W.Frag) (r : List V → Hp → VK → Prop) (x : α) (P : γ → Prop) : Prop :=
  ∀ (Δ : Gh) (H : Hp) (v : V) (Q : VK), Hold Δ H → Rp.rp K Δ H v x → (∀ u H' c, P c → Ext Δ H H' → Rp.rp K Δ H' u c → Q u H') → r [v] H Q
theorem ev_cb1 {r : List V → Hp → VK → Prop} (ha : Ev K Γ ta ρ Pa) (hr : ∀ x, Pa x → Op1 K r x Pc) : Ev K Γ (tCB r (tCons ta tNil)) ρ Pc := fun Δ σ H Q s hh e k =>
  ha Δ σ H _ s hh e fun v H1 x px e1 r1 => hr x px Δ H1 v Q e1.2 r1 fun u H2 c pc e2 r2 => k u H2 c pc (e1.trans e2) r2
theorem ev_cb {r : List V → Hp → VK → Prop} {x : α} (ha : Ev K Γ ta ρ (Is x)) (hr : Op1 K r x Pc) : Ev K Γ (tCB r (tCons ta tNil)) ρ Pc := ev_cb1 ha fun x' e => by rw [show x' = x from e]; exact hr
theorem o1_lenS {x : Tx} (hz : x.s.length ≤ 100000) : Op1 K (fun xs H Q => ∃ x n, xs = [x] ∧ LenV K x H n ∧ Q (.int n) H) x (Is (x.s.length : Int)) := fun Δ H v Q hh r k => by
  have e : v = .str ⟨x.s.toArray⟩ := r
  subst e
  refine ⟨_, x.s.length, rfl, ⟨?_, ?_⟩, k _ H _ rfl (Ext.refl hh) rfl⟩
  · show x.s.toArray.size ≤ sizeLine
    rw [List.size_toArray]
    exact Nat.le_trans hz (by decide)
  · show x.s.length = x.s.toArray.size
    rw [List.size_toArray]
theorem o1_lenL {xs : List α} : Op1 K (fun xs H Q => ∃ x n, xs = [x] ∧ LenV K x H n ∧ Q (.int n) H) xs (Is (xs.length : Int)) := fun Δ H v Q hh r k => by
  obtain ⟨p, vs, rfl, n, s, q⟩ := r
  exact ⟨_, xs.length, rfl, .inl ⟨vs, s, q.len.symm⟩, k _ H _ rfl (Ext.refl hh) rfl⟩
theorem o1_lenT {xs : Tup α} : Op1 K (fun xs H Q => ∃ x n, xs = [x] ∧ LenV K x H n ∧ Q (.int n) H) xs (Is (xs.l.length : Int)) := fun Δ H v Q hh r k => by
  obtain ⟨p, vs, rfl, n, s, q⟩ := r
  exact ⟨_, xs.l.length, rfl, .inr ⟨vs, s, q.len.symm⟩, k _ H _ rfl (Ext.refl hh) rfl⟩
theorem o1_all {bs : List Bool} : Op1 K (rAll K) bs (Is (bs.all id)) := fun Δ H v Q hh r k => by
  obtain ⟨p, vs, rfl, n, s, q⟩ := r
  have e := all2_bl q
  subst e
  exact ⟨p, bs, rfl, s, k _ H _ rfl (Ext.refl hh) rfl⟩

/-! ### what is walked -/
/-- wi, walked with the target g, has n turns; turn i makes st i of the names (the slots js alone) -/
def Src (K : PySem.W.Frag) (Γ : Own) (wi : TI) (g : TG) (ρ : Env) (js : List Nat) (n : Nat) (st : Nat → Env → Env) : Prop :=
  ∀ (Δ : Gh) (σ : L2.St) (H : Hp) (R : It → Hp → Prop), Sat Γ Δ → Hold Δ H → EnvOk K Δ σ H ρ →
    (∀ (J : It) (H1 : Hp) (pv : V) (pc : Cell), Ext Δ H H1 → pc.rp K Δ H1 pv →
      (∀ Δ' H2, pc.rp K Δ' H2 pv → (∀ i, i < n → J.go i H2) ∧ J.stop n H2) →
      (∀ Δ' i H2 x H3, i < n → Hold Δ' H2 → pc.rp K Δ' H2 pv → J.yld i H2 x H3 → Ext Δ' H2 H3 ∧ ∀ (σ' : L2.St) (ρ' : Env) (Qs : L2.St → Hp → Prop), ρ'.length = ρ.length → EnvOk K Δ' σ' H3 ρ' →
        (∀ σ2 : L2.St, EnvOk K Δ' σ2 H3 (st i ρ') → σ2.length = σ'.length → (∀ k, k ∉ js → σ2[k]? = σ'[k]?) → Qs σ2 H3) → g x σ' H3 Qs) → R J H1) → wi σ H R
theorem set_off {σ : L2.St} {j : Nat} {v : Option V} {js : List Nat} (h : j ∈ js) : (σ.set j v).length = σ.length ∧ ∀ k, k ∉ js → (σ.set j v)[k]? = σ[k]? :=
  ⟨List.length_set, fun k hk => List.getElem?_set_ne fun e => hk (by rw [← e]; exact h)⟩
theorem src_rng1 {ta : TA} {j : Nat} {n : Nat} (h : EvA K Γ ta ρ (Is [⟨(n : Int)⟩])) (hn : n ≤ 100000) (hj : j < ρ.length) : Src K Γ (iRng1 ta) (gName j) ρ [j] n (fun i ρ => ρ.set j (some ⟨(i : Int)⟩)) := fun Δ σ H R s hh e k =>
  h Δ σ H _ s hh e fun vs H' cs pcs e1 r => by
    have ec : cs = [⟨(n : Int)⟩] := pcs
    subst ec
    match vs, r with
    | [v], r =>
      have ev : v = .int n := r.1
      subst ev
      refine ⟨n, rfl, by omega, by omega, k _ H' .non ⟨()⟩ e1 rfl (fun Δ' H2 _ => ⟨fun i hi => by show i < (n : Int).toNat; omega, by show (n : Int).toNat ≤ n; omega⟩) fun Δ' i H2 x H3 hi h2 _ y => ?_⟩
      obtain ⟨rfl, rfl⟩ := (show H3 = H2 ∧ x = V.int (0 + (i : Int)) from y)
      refine ⟨Ext.refl h2, fun σ' ρ' Qs hl e' q => ?_⟩
      rw [Int.zero_add]
      exact q _ (e'.set (c := ⟨(i : Int)⟩) (by rw [hl]; exact hj) rfl) (set_off (js := [j]) (List.mem_singleton_self j)).1 (set_off (js := [j]) (List.mem_singleton_self j)).2
theorem src_list {tl : TE} {j : Nat} {xs : List α} {x0 : Nat → α} (h : Ev K Γ tl ρ (Is xs)) (hx : ∀ i, i < xs.length → xs[i]? = some (x0 i)) (hj : j < ρ.length) : Src K Γ (iList K tl) (gName j) ρ [j] xs.length (fun i ρ => ρ.set j (some ⟨x0 i⟩)) := fun Δ σ H R s hh e k =>
  h Δ σ H _ s hh e fun v H' a pa e1 r => by
    have ea : a = xs := pa
    subst ea
    obtain ⟨p, vs, rfl, n, sq, q⟩ := id r
    refine ⟨p, rfl, ⟨vs, sq⟩, k _ H' (.ref p) ⟨a⟩ e1 r (fun Δ' H2 r2 => ?_) fun Δ' i H2 x H3 hi h2 r2 y => ?_⟩
    · obtain ⟨p', ws, e', n', sq', q'⟩ := (show Rp.rp K Δ' H2 (.ref p) a from r2)
      cases e'
      have hl := q'.len
      refine ⟨fun i hi => ⟨ws, ws[i], sq', List.getElem?_eq_getElem (by omega)⟩, ws, sq', by omega⟩
    · obtain ⟨p', ws, e', n', sq', q'⟩ := (show Rp.rp K Δ' H2 (.ref p) a from r2)
      cases e'
      obtain ⟨rfl, hy⟩ := (show H3 = H2 ∧ ∀ zs, SqL K H2 p zs → zs[i]? = some x from y)
      obtain ⟨w, hw, rw'⟩ := q'.get (hx i hi)
      have ew : x = w := Option.some.inj ((hy _ sq').symm.trans hw)
      subst ew
      exact ⟨Ext.refl h2, fun σ' ρ' Qs hl e' qq => qq _ (e'.set (c := ⟨x0 i⟩) (by rw [hl]; exact hj) rw') (set_off (js := [j]) (List.mem_singleton_self j)).1 (set_off (js := [j]) (List.mem_singleton_self j)).2⟩
theorem src_tup {tl : TE} {j : Nat} {xs : Tup α} {x0 : Nat → α} (h : Ev K Γ tl ρ (Is xs)) (hx : ∀ i, i < xs.l.length → xs.l[i]? = some (x0 i)) (hj : j < ρ.length) : Src K Γ (iTup K tl) (gName j) ρ [j] xs.l.length (fun i ρ => ρ.set j (some ⟨x0 i⟩)) := fun Δ σ H R s hh e k =>
  h Δ σ H _ s hh e fun v H' a pa e1 r => by
    have ea : a = xs := pa
    subst ea
    obtain ⟨p, vs, rfl, n, sq, q⟩ := id r
    refine ⟨p, rfl, ⟨vs, sq⟩, k _ H' (.ref p) ⟨a⟩ e1 r (fun Δ' H2 r2 => ?_) fun Δ' i H2 x H3 hi h2 r2 y => ?_⟩
    · obtain ⟨p', ws, e', n', sq', q'⟩ := (show Rp.rp K Δ' H2 (.ref p) a from r2)
      cases e'
      have hl := q'.len
      refine ⟨fun i hi => ⟨ws, ws[i], sq', List.getElem?_eq_getElem (by omega)⟩, ws, sq', by omega⟩
    · obtain ⟨p', ws, e', n', sq', q'⟩ := (show Rp.rp K Δ' H2 (.ref p) a from r2)
      cases e'
      obtain ⟨rfl, hy⟩ := (show H3 = H2 ∧ ∀ zs, SqT K H2 p zs → zs[i]? = some x from y)
      obtain ⟨w, hw, rw'⟩ := q'.get (hx i hi)
      have ew : x = w := Option.some.inj ((hy _ sq').symm.trans hw)
      subst ew
      exact ⟨Ext.refl h2, fun σ' ρ' Qs hl e' qq => qq _ (e'.set (c := ⟨x0 i⟩) (by rw [hl]; exact hj) rw') (set_off (js := [j]) (List.mem_singleton_self j)).1 (set_off (js := [j]) (List.mem_singleton_self j)).2⟩
theorem args1 {Δ : Gh} {H : Hp} {vs : List V} {c : Cell} (r : ArgsOk K Δ H vs [c]) : ∃ v, vs = [v] ∧ c.rp K Δ H v := by
  unfold ArgsOk at r
  cases vs with
  | nil => exact r.elim
  | cons v vs =>
    cases vs with
    | nil => exact ⟨v, rfl, r.1⟩
    | cons w ws => exact r.2.elim
/-- two names of a pair that was just made -/
theorem pair_put {Δ' : Gh} {H2 H3 : Hp} {T : Addr} {a b : V} {ca cb : Cell} {ja jb : Nat} {σ' : L2.St} {ρ' : Env} {Qs : L2.St → Hp → Prop} (e3 : H3 = upd H2 T (.tup [a, b])) (ha : ca.rp K Δ' H3 a) (hb : cb.rp K Δ' H3 b) (hja : ja < ρ'.length) (hjb : jb < ρ'.length)
    (e' : EnvOk K Δ' σ' H3 ρ') (q : ∀ σ2 : L2.St, EnvOk K Δ' σ2 H3 ((ρ'.set ja (some ca)).set jb (some cb)) → σ2.length = σ'.length → (∀ k, k ∉ [ja, jb] → σ2[k]? = σ'[k]?) → Qs σ2 H3) :
    gTup K 2 (gCons (gName ja) (gCons (gName jb) gNil)) (.ref T) σ' H3 Qs := by
  refine ⟨T, [a, b], rfl, .inl (.inl (by rw [e3]; exact upd_same)), rfl, a, [b], rfl, b, [], rfl, rfl, ?_⟩
  refine q _ ((e'.set hja ha).set (by rw [List.length_set]; exact hjb) hb) (by rw [List.length_set, List.length_set]) fun k hk => ?_
  have h1 : ja ≠ k := fun z => hk (by simp [z])
  have h2 : jb ≠ k := fun z => hk (by simp [z])
  rw [List.getElem?_set_ne h2, List.getElem?_set_ne h1]
theorem src_enumS {ta : TA} {ja jb : Nat} {x : Tx} {c0 : Nat → Nat} (h : EvA K Γ ta ρ (Is [⟨x⟩])) (hx : ∀ i, i < x.s.length → x.s[i]? = some (c0 i)) (hja : ja < ρ.length) (hjb : jb < ρ.length) :
    Src K Γ (iEnumS ta) (gTup K 2 (gCons (gName ja) (gCons (gName jb) gNil))) ρ [ja, jb] x.s.length (fun i ρ => (ρ.set ja (some ⟨(i : Int)⟩)).set jb (some ⟨(⟨[c0 i]⟩ : Tx)⟩)) := fun Δ σ H R s hh e k =>
  h Δ σ H _ s hh e fun vs H' cs pcs e1 r => by
    have ec : cs = [⟨x⟩] := pcs
    subst ec
    match vs, r with
    | [v], r =>
      have ev : v = .str ⟨x.s.toArray⟩ := r.1
      subst ev
      refine ⟨_, rfl, k _ H' .non ⟨()⟩ e1 rfl (fun Δ' H2 _ => ⟨fun i hi => by show i < x.s.toArray.size; simpa using hi, by show x.s.toArray.size ≤ x.s.length; simp⟩) fun Δ' i H2 y H3 hi h2 _ yy => ?_⟩
      obtain ⟨T, c, rfl, hT, e3, hc⟩ := (show ∃ T c, y = .ref T ∧ H2 T = none ∧ H3 = upd H2 T (.tup [.int (i : Nat), .str ⟨#[c]⟩]) ∧ x.s.toArray[i]? = some c from yy)
      have ec2 : c = c0 i := by
        have q1 : x.s[i]? = some c := by simpa using hc
        exact Option.some.inj (q1.symm.trans (hx i hi))
      subst ec2
      refine ⟨by rw [e3]; exact Ext.new h2 hT _, fun σ' ρ' Qs hl e' q => ?_⟩
      exact pair_put (ca := ⟨(i : Int)⟩) (cb := ⟨(⟨[c0 i]⟩ : Tx)⟩) e3 rfl rfl (by rw [hl]; exact hja) (by rw [hl]; exact hjb) e' q
theorem src_zipS {ta : TA} {ja jb : Nat} {x y : Tx} {c0 d0 : Nat → Nat} (h : EvA K Γ ta ρ (Is [⟨x⟩, ⟨y⟩])) (hl : x.s.length = y.s.length) (hx : ∀ i, i < x.s.length → x.s[i]? = some (c0 i) ∧ y.s[i]? = some (d0 i)) (hja : ja < ρ.length) (hjb : jb < ρ.length) :
    Src K Γ (iZipS ta) (gTup K 2 (gCons (gName ja) (gCons (gName jb) gNil))) ρ [ja, jb] x.s.length (fun i ρ => (ρ.set ja (some ⟨(⟨[c0 i]⟩ : Tx)⟩)).set jb (some ⟨(⟨[d0 i]⟩ : Tx)⟩)) := fun Δ σ H R s hh e k =>
  h Δ σ H _ s hh e fun vs H' cs pcs e1 r => by
    have ec : cs = [⟨x⟩, ⟨y⟩] := pcs
    subst ec
    match vs, r with
    | [v, w], r =>
      have ev : v = .str ⟨x.s.toArray⟩ := r.1
      have ew : w = .str ⟨y.s.toArray⟩ := r.2.1
      subst ev ew
      refine ⟨_, _, rfl, k _ H' .non ⟨()⟩ e1 rfl (fun Δ' H2 _ => ⟨fun i hi => ?_, ?_⟩) fun Δ' i H2 z H3 hi h2 _ yy => ?_⟩
      · show i < min x.s.toArray.size y.s.toArray.size
        rw [List.size_toArray, List.size_toArray]
        omega
      · show min x.s.toArray.size y.s.toArray.size ≤ x.s.length
        rw [List.size_toArray, List.size_toArray]
        omega
      obtain ⟨T, c, d, rfl, hT, e3, hc, hd⟩ := (show ∃ T c d, z = .ref T ∧ H2 T = none ∧ H3 = upd H2 T (.tup [.str ⟨#[c]⟩, .str ⟨#[d]⟩]) ∧ x.s.toArray[i]? = some c ∧ y.s.toArray[i]? = some d from yy)
      have ec2 : c = c0 i := by
        have q1 : x.s[i]? = some c := by simpa using hc
        exact Option.some.inj (q1.symm.trans (hx i hi).1)
      have ed2 : d = d0 i := by
        have q1 : y.s[i]? = some d := by simpa using hd
        exact Option.some.inj (q1.symm.trans (hx i hi).2)
      subst ec2 ed2
      refine ⟨by rw [e3]; exact Ext.new h2 hT _, fun σ' ρ' Qs hl e' q => ?_⟩
      exact pair_put (ca := ⟨(⟨[c0 i]⟩ : Tx)⟩) (cb := ⟨(⟨[d0 i]⟩ : Tx)⟩) e3 rfl rfl (by rw [hl]; exact hja) (by rw [hl]; exact hjb) e' q
theorem src_enumT {ta : TA} {ja jb : Nat} {xs : Tup α} {x0 : Nat → α} (h : EvA K Γ ta ρ (Is [⟨xs⟩])) (hx : ∀ i, i < xs.l.length → xs.l[i]? = some (x0 i)) (hja : ja < ρ.length) (hjb : jb < ρ.length) :
    Src K Γ (iEnumT K ta) (gTup K 2 (gCons (gName ja) (gCons (gName jb) gNil))) ρ [ja, jb] xs.l.length (fun i ρ => (ρ.set ja (some ⟨(i : Int)⟩)).set jb (some ⟨x0 i⟩)) := fun Δ σ H R s hh e k =>
  h Δ σ H _ s hh e fun vs H' cs pcs e1 r => by
    have ec : cs = [⟨xs⟩] := pcs
    subst ec
    obtain ⟨v, rfl, r0⟩ := args1 r
    · have r0 : Rp.rp K Δ H' v xs := r0
      obtain ⟨p, ws, rfl, n, sq, q⟩ := id r0
      refine ⟨p, ws, rfl, sq, k _ H' (.ref p) ⟨xs⟩ e1 r0 (fun Δ' H2 r2 => ?_) fun Δ' i H2 y H3 hi h2 r2 yy => ?_⟩
      · obtain ⟨p', ws, e', n', sq', q'⟩ := (show Rp.rp K Δ' H2 (.ref p) xs from r2)
        cases e'
        have hl := q'.len
        refine ⟨fun i hi => ⟨ws, ws[i], sq', List.getElem?_eq_getElem (by omega)⟩, ws, sq', by omega⟩
      · obtain ⟨p', ws, e', n', sq', q'⟩ := (show Rp.rp K Δ' H2 (.ref p) xs from r2)
        cases e'
        obtain ⟨T, x, rfl, hT, e3, hy⟩ := (show ∃ T x, y = .ref T ∧ H2 T = none ∧ H3 = upd H2 T (.tup [.int (i : Nat), x]) ∧ ∀ zs, SqT K H2 p zs → zs[i]? = some x from yy)
        obtain ⟨w, hw, rw'⟩ := q'.get (hx i hi)
        have ew : x = w := Option.some.inj ((hy _ sq').symm.trans hw)
        subst ew
        refine ⟨by rw [e3]; exact Ext.new h2 hT _, fun σ' ρ' Qs hl e' q => ?_⟩
        have hb : Rp.rp K Δ' H3 x (x0 i) := by
          subst e3
          exact Rp.mono (Ext.new h2 hT _).1 rw'
        exact pair_put (ca := ⟨(i : Int)⟩) (cb := ⟨x0 i⟩) (a := .int (i : Nat)) (b := x) e3 (show V.int (i : Nat) = V.int (i : Int) from rfl) hb (by rw [hl]; exact hja) (by rw [hl]; exact hjb) e' q
end
end Z

set_option Elab.async false
set_option linter.all false
set_option maxRecDepth 100000
set_option maxHeartbeats 1000000
namespace Z
open PySem PySem.Spec PyProof.Rows L2
section
variable {K : PySem.W.Frag} {Γ : Own} {ρ : Env} {ta tb tc te : TE} {t u : TT} {α β γ : Type} [Rp α] [Rp β] [Rp γ] {Pa : α → Prop} {Pb : β → Prop} {Pc : γ → Prop}
/-! ### comprehensions -/
theorem wipe_get (σ : L2.St) (k : Nat) : ∀ vs : List Nat, (wipe σ vs)[k]? = if k ∈ vs then (if k < σ.length then some none else none) else σ[k]?
  | [] => by simp [wipe]
  | v :: vs => by
    have ih := wipe_get σ k vs
    show ((wipe σ vs).set v none)[k]? = _
    by_cases h : v = k
    · subst h
      rw [List.getElem?_set]
      simp [wipe_length]
    · rw [List.getElem?_set_ne h, ih]
      have h' : ¬ k = v := fun z => h z.symm
      simp [h']
theorem wipe_off {σ σ2 : L2.St} {vs js : List Nat} (hl : σ2.length = σ.length) (hjs : ∀ j ∈ js, j ∈ vs) (h : ∀ k, k ∉ js → σ2[k]? = (wipe σ vs)[k]?) : wipe σ2 vs = wipe σ vs := by
  apply List.ext_getElem?
  intro k
  rw [wipe_get, wipe_get]
  by_cases hk : k ∈ vs
  · rw [if_pos hk, if_pos hk, hl]
  · rw [if_neg hk, if_neg hk, h k (fun z => hk (hjs k z)), wipe_get, if_neg hk]
def ghD (Δ : Gh) (D : Addr) (vs : List V) : Gh := fun a => if a = D then some (fun o => o = .lst vs) else Δ a
theorem ghD_sat {Δ : Gh} {D : Addr} {vs : List V} (s : Sat Γ Δ) (n : Δ D = none) : Sat Γ (ghD Δ D vs) := fun p hp => by
  have e := s p hp
  have hne : p.1 ≠ D := fun z => by
    rw [z, n] at e
    cases e
  show (if p.1 = D then _ else Δ p.1) = _
  rw [if_neg hne]
  exact e
theorem ghD_weak {Δ : Gh} {D : Addr} {vs : List V} {H : Hp} : ∀ x o, H x = some o → ghD Δ D vs x = none → Δ x = none := fun x o _ e => by
  have e' : (if x = D then some (fun o => o = HO.lst vs) else Δ x) = none := e
  by_cases h : x = D
  · rw [if_pos h] at e'
    cases e'
  · rw [if_neg h] at e'
    exact e'
/-- a fresh cell taken as one that changes -/
theorem ghD_new {Δ : Gh} {D : Addr} {vs : List V} {H : Hp} (hD : H D = none) : ∀ x o, H x = some o → Δ x = none → ghD Δ D vs x = none := fun x o hx e => by
  have hne : x ≠ D := ne_of_none hx hD
  show (if x = D then some (fun o => o = HO.lst vs) else Δ x) = none
  rw [if_neg hne]
  exact e
theorem gh_swap {Δ : Gh} {D : Addr} {vs ws : List V} {H : Hp} : ∀ x o, H x = some o → ghD Δ D vs x = none → ghD Δ D ws x = none := fun x o _ e => by
  have e' : (if x = D then some (fun o => o = HO.lst vs) else Δ x) = none := e
  show (if x = D then some (fun o => o = HO.lst ws) else Δ x) = none
  by_cases h : x = D
  · rw [if_pos h] at e'
    cases e'
  · rw [if_neg h] at e' ⊢
    exact e'
/-- the new list grows: all else stays -/
theorem gh_put {Δ : Gh} {H : Hp} {D : Addr} {vs ws : List V} (hh : Hold (ghD Δ D vs) H) : Hold (ghD Δ D ws) (upd H D (.lst ws)) ∧ Keep (ghD Δ D vs) H (upd H D (.lst ws)) := by
  constructor
  · intro a I e
    have e' : (if a = D then some (fun o => o = HO.lst ws) else Δ a) = some I := e
    by_cases h : a = D
    · rw [if_pos h] at e'
      cases e'
      exact ⟨_, by rw [h]; exact upd_same, rfl⟩
    · rw [if_neg h] at e'
      have e2 : ghD Δ D vs a = some I := by
        show (if a = D then _ else Δ a) = _
        rw [if_neg h]
        exact e'
      obtain ⟨o, ho, io⟩ := hh a I e2
      exact ⟨o, by rw [upd_ne h]; exact ho, io⟩
  · intro a o n e
    have hne : a ≠ D := fun z => by
      have n' : (if a = D then some (fun o => o = HO.lst vs) else Δ a) = none := n
      rw [if_pos z] at n'
      cases n'
    rw [upd_ne hne]
    exact e
theorem gh_first {Δ : Gh} {H : Hp} {D : Addr} {ws : List V} (hh : Hold Δ H) (hD : H D = none) : Hold (ghD Δ D ws) (upd H D (.lst ws)) ∧ Keep Δ H (upd H D (.lst ws)) := by
  refine ⟨fun a I e => ?_, (Ext.new hh hD _).1⟩
  have e' : (if a = D then some (fun o => o = HO.lst ws) else Δ a) = some I := e
  by_cases h : a = D
  · rw [if_pos h] at e'
    cases e'
    exact ⟨_, by rw [h]; exact upd_same, rfl⟩
  · rw [if_neg h] at e'
    obtain ⟨o, ho, io⟩ := hh a I e'
    exact ⟨o, by rw [upd_ne h]; exact ho, io⟩
theorem gh_last {Δ : Gh} {H : Hp} {D : Addr} {ws : List V} (n : Δ D = none) (hh : Hold (ghD Δ D ws) H) : Hold Δ H := fun a I e => by
  have hne : a ≠ D := fun z => by
    rw [z, n] at e
    cases e
  refine hh a I ?_
  show (if a = D then _ else Δ a) = _
  rw [if_neg hne]
  exact e
/-- how things stand ahead of turn i of a comprehension: the list made so far at D bears acc -/
structure CW (K : PySem.W.Frag) (Δ : Gh) (H1 : Hp) (D : Addr) (pv : V) (pc : Cell) (σw : L2.St) (ρw : Env) (vs : List V) (acc : List β) (H : Hp) : Prop where
  at_ : H D = some (.lst vs)
  hold : Hold (ghD Δ D vs) H
  keep : ∀ a o, a ≠ D → Δ a = none → H1 a = some o → H a = some o
  src : pc.rp K (ghD Δ D vs) H pv
  env : EnvOk K (ghD Δ D vs) σw H ρw
  els : All2 (fun u a => Rp.rp K (ghD Δ D vs) H u a) vs acc
theorem CW.next {Δ : Gh} {H1 H H' : Hp} {D : Addr} {pv : V} {pc : Cell} {σw : L2.St} {ρw : Env} {vs : List V} {acc : List β} (c : CW K Δ H1 D pv pc σw ρw vs acc H) (e : Ext (ghD Δ D vs) H H') (hD : H' D = some (.lst vs)) : CW K Δ H1 D pv pc σw ρw vs acc H' where
  at_ := hD
  hold := e.2
  keep a o ha n h := e.1 a o (by show (if a = D then _ else Δ a) = none; rw [if_neg ha]; exact n) (c.keep a o ha n h)
  src := pc.r.mono e.1 c.src
  env := c.env.mono e.1
  els := c.els.imp fun _ _ => Rp.mono e.1
theorem CW.put {Δ : Gh} {H1 H : Hp} {D : Addr} {pv : V} {pc : Cell} {σw : L2.St} {ρw : Env} {vs : List V} {acc : List β} {v : V} {b : β} (c : CW K Δ H1 D pv pc σw ρw vs acc H) (r : Rp.rp K (ghD Δ D vs) H v b) : CW K Δ H1 D pv pc σw ρw (vs ++ [v]) (acc ++ [b]) (upd H D (.lst (vs ++ [v]))) := by
  have g := gh_put (ws := vs ++ [v]) c.hold
  refine ⟨upd_same, g.1, fun a o ha n h => by rw [upd_ne ha]; exact c.keep a o ha n h, ?_, ?_, ?_⟩
  · exact pc.r.weak gh_swap (pc.r.mono g.2 c.src)
  · exact (c.env.mono g.2).weak gh_swap
  · exact All2.snoc (Rp.weak gh_swap (Rp.mono g.2 r)) (c.els.imp fun _ _ q => Rp.weak gh_swap (Rp.mono g.2 q))
theorem exact_at {Δ : Gh} {H : Hp} {D : Addr} {vs : List V} (hh : Hold (ghD Δ D vs) H) : H D = some (.lst vs) := by
  obtain ⟨o, ho, io⟩ := hh D (fun o => o = .lst vs) (by show (if D = D then _ else Δ D) = _; rw [if_pos rfl])
  rw [ho, show o = HO.lst vs from io]
theorem ev_lc {wi : TI} {g : TG} {js vs : List Nat} {n : Nat} {st : Nat → Env → Env} (Iv : Nat → List β → Prop) (S : Src K Γ wi g ρ js n st) (hn : n ≤ 50000) (hjs : ∀ j ∈ js, j ∈ vs) (h0 : Iv 0 [])
    (hs : ∀ i acc, i < n → Iv i acc → ∃ PB : Bool → Prop, EvT K Γ t (st i (wipeE ρ vs)) PB ∧ (PB false → Iv (i + 1) acc) ∧ (PB true → ∃ PV : β → Prop, Ev K Γ te (st i (wipeE ρ vs)) PV ∧ ∀ b, PV b → Iv (i + 1) (acc ++ [b]))) :
    Ev K Γ (tLc wi g t te vs) ρ (Iv n) := fun Δ σ H Q s hh e k => S Δ σ H _ s hh e fun J H1 pv pc e1 rp0 hgo hyld => fun D hD => by
  have nD : Δ D = none := e1.2.fresh hD
  have eW : EnvOk K Δ (wipe σ vs) H1 (wipeE ρ vs) := (e.mono e1.1).wipe vs
  have g0 := gh_first (ws := []) e1.2 hD
  have kp : Keep (ghD Δ D []) H1 (upd H1 D (.lst [])) := fun a o _ q => by rw [upd_ne (ne_of_none q hD)]; exact q
  have W0 : CW (β := β) K Δ H1 D pv pc (wipe σ vs) (wipeE ρ vs) [] [] (upd H1 D (.lst [])) :=
    ⟨upd_same, g0.1, fun a o ha n h => by rw [upd_ne ha]; exact h, pc.r.mono kp (pc.r.weak (ghD_new hD) rp0), (eW.weak (ghD_new hD)).mono kp, trivial⟩
  have wl : (wipeE ρ vs).length = ρ.length := by
    rw [← eW.1, wipe_length]
    exact e.1
  refine ⟨fun i m H2 => m = n - i ∧ i ≤ n ∧ ∃ vs' acc, CW K Δ H1 D pv pc (wipe σ vs) (wipeE ρ vs) vs' acc H2 ∧ acc.length ≤ i ∧ Iv i acc, ⟨n, by simp, Nat.zero_le _, [], [], W0, Nat.le_refl _, h0⟩, ?_⟩
  rintro i m H2 ⟨rfl, hi, vs', acc, c, hl, iv⟩
  have hg := hgo _ H2 c.src
  by_cases hlt : i < n
  · refine .inr ⟨hg.1 i hlt, fun H3 => ∃ vs' acc, CW K Δ H1 D pv pc (wipe σ vs) (wipeE ρ vs) vs' acc H3 ∧ acc.length ≤ i + 1 ∧ Iv (i + 1) acc, fun H' ⟨v', a', c', l', iv'⟩ => ⟨n - (i + 1), by omega, rfl, hlt, v', a', c', l', iv'⟩, fun x H3 hy => ?_⟩
    obtain ⟨e3, hput⟩ := hyld _ i H2 x H3 hlt c.hold c.src hy
    have c3 := c.next e3 (exact_at e3.2)
    refine hput (wipe σ vs) (wipeE ρ vs) _ wl c3.env fun σ2 env2 hl2 hoff => ⟨wipe_off (by rw [hl2, wipe_length]) hjs hoff, ?_⟩
    obtain ⟨PB, hT, hF, hV⟩ := hs i acc hlt iv
    refine hT (ghD Δ D vs') σ2 H3 _ (ghD_sat s nD) e3.2 env2 fun b H4 pb e4 => ?_
    have c4 := c3.next e4 (exact_at e4.2)
    cases b with
    | false => exact iteF ⟨vs', acc, c4, by omega, hF pb⟩
    | true =>
      obtain ⟨PV, hE, hb⟩ := hV pb
      refine iteT (hE (ghD Δ D vs') σ2 H4 _ (ghD_sat s nD) e4.2 (env2.mono e4.1) fun y H5 b pb' e5 r5 => ?_)
      have c5 := c4.next e5 (exact_at e5.2)
      have hlen : vs'.length < sizeLine := Nat.lt_of_le_of_lt (m := 50000) (by rw [c5.els.len]; omega) (by decide)
      exact ⟨vs', c5.at_, hlen, vs' ++ [y], acc ++ [b], c5.put r5, by rw [List.length_append]; show acc.length + 1 ≤ i + 1; omega, hb b pb'⟩
  · have ei : i = n := by omega
    subst ei
    refine .inl ⟨hg.2, k (.ref D) H2 acc iv ⟨fun a o na h => ?_, gh_last nD c.hold⟩ ⟨D, vs', rfl, .inl ⟨nD, .inl c.at_⟩, .inl (.inl c.at_), c.els.imp fun _ _ => Rp.weak ghD_weak⟩⟩
    have h1 := e1.1 a o na h
    exact c.keep a o (ne_of_none h1 hD) na h1
/-- the comprehension of told data: the items by f, chosen by p -/
theorem ev_lcD {wi : TI} {g : TG} {js vs : List Nat} {τ : Type} {xs : List τ} {st : Nat → Env → Env} (p : τ → Bool) (f : τ → β) (S : Src K Γ wi g ρ js xs.length st) (hn : xs.length ≤ 50000) (hjs : ∀ j ∈ js, j ∈ vs)
    (hs : ∀ i x, xs[i]? = some x → EvT K Γ t (st i (wipeE ρ vs)) (Is (p x)) ∧ (p x = true → Ev K Γ te (st i (wipeE ρ vs)) (Is (f x)))) :
    Ev K Γ (tLc wi g t te vs) ρ (Is ((xs.filter p).map f)) := by
  refine (ev_lc (fun i acc => acc = ((xs.take i).filter p).map f) S hn hjs rfl fun i acc hi e => ?_).imp fun a h => by
    show a = _
    rw [h, List.take_length]
  have hx : xs[i]? = some xs[i] := List.getElem?_eq_getElem hi
  have et : xs.take (i + 1) = xs.take i ++ [xs[i]] := by rw [List.take_add_one, hx]; rfl
  obtain ⟨h1, h2⟩ := hs i _ hx
  refine ⟨_, h1, fun q => ?_, fun q => ⟨_, h2 (show true = _ from q).symm, fun b hb => ?_⟩⟩
  · have q' : p xs[i] = false := (show false = _ from q).symm
    rw [et, List.filter_append, List.filter_cons, q', e]
    simp
  · have q' : p xs[i] = true := (show true = _ from q).symm
    rw [et, List.filter_append, List.filter_cons, q', e, show b = f xs[i] from hb]
    simp
theorem et_yes : EvT K Γ tYes ρ (Is true) := fun Δ σ H Q s hh e k => k true H rfl (Ext.refl hh)
end
end Z

set_option Elab.async false
set_option linter.all false
set_option maxRecDepth 100000
set_option maxHeartbeats 1000000
namespace Z
open PySem PySem.Spec PyProof.Rows L2
/-! ### statements -/
/-- how things stand within a def: Δ0, H0 at its entry; Γ what it owns; F data that stay; ρ its names -/
def Stt (K : PySem.W.Frag) (Δ0 : Gh) (H0 : Hp) (Γ : Own) (F : List (V × Cell)) (ρ : Env) (σ : L2.St) (H : Hp) : Prop :=
  ∃ Δ : Gh, Sat Γ Δ ∧ Hold Δ H ∧ EnvOk K Δ σ H ρ ∧ (∀ f ∈ F, f.2.rp K Δ H f.1) ∧ Ext Δ0 H0 H ∧ (∀ x I, Δ0 x = some I → Δ x = some I) ∧ (∀ x, Δ0 x = none → Δ x ≠ none → H0 x = none)
def Wp (K : PySem.W.Frag) (Δ0 : Gh) (H0 : Hp) (Γ : Own) (F : List (V × Cell)) (ρ : Env) (t : TS) (D : Ends) : Prop := ∀ σ H, Stt K Δ0 H0 Γ F ρ σ H → t D σ H
/-- what is wanted of what is handed back -/
def Fin (K : PySem.W.Frag) (Δ0 : Gh) (H0 : Hp) {β : Type} [Rp β] (R : β → Prop) (D : Ends) : Prop := ∀ v H' b, R b → Ext Δ0 H0 H' → Rp.rp K Δ0 H' v b → D.rt v H'
section
variable {K : PySem.W.Frag} {Δ0 : Gh} {H0 : Hp} {Γ : Own} {F : List (V × Cell)} {ρ : Env} {ta tb tc te : TE} {c : TT} {t u tz : TS} {D : Ends} {α β γ : Type} [Rp α] [Rp β] [Rp γ] {P : α → Prop} {R : β → Prop}
theorem ext0 {Δ : Gh} {H H' : Hp} (e0 : Ext Δ0 H0 H) (s1 : ∀ x I, Δ0 x = some I → Δ x = some I) (s2 : ∀ x, Δ0 x = none → Δ x ≠ none → H0 x = none) (e : Ext Δ H H') : Ext Δ0 H0 H' := by
  refine ⟨fun a o n h => ?_, fun a I q => e.2 a I (s1 a I q)⟩
  have n' : Δ a = none := by
    cases q : Δ a with
    | none => rfl
    | some I =>
      rw [s2 a n (by rw [q]; exact fun z => by cases z)] at h
      cases h
  exact e.1 a o n' (e0.1 a o n h)
theorem none0 {Δ : Gh} (s1 : ∀ x I, Δ0 x = some I → Δ x = some I) {x : Addr} (n : Δ x = none) : Δ0 x = none := by
  cases q : Δ0 x with
  | none => rfl
  | some I =>
    rw [s1 x I q] at n
    cases n
theorem wp_asg {i : Nat} (h : Ev K Γ te ρ P) (hi : i < ρ.length) (k : ∀ a, P a → Wp K Δ0 H0 Γ F (ρ.set i (some ⟨a⟩)) tz D) : Wp K Δ0 H0 Γ F ρ (tSeq (tAsg te (gName i)) tz) D := fun σ H ⟨Δ, s, hh, e, f, e0, s1, s2⟩ =>
  h Δ σ H _ s hh e fun v H' a pa e1 r1 => k a pa _ H' ⟨Δ, s, e1.2, (e.mono e1.1).set (c := ⟨a⟩) hi r1, fun q hq => q.2.r.mono e1.1 (f q hq), ext0 e0 s1 s2 e1, s1, s2⟩
theorem wp_asg1 {i : Nat} {a : α} (h : Ev K Γ te ρ (Is a)) (hi : i < ρ.length) (k : Wp K Δ0 H0 Γ F (ρ.set i (some ⟨a⟩)) tz D) : Wp K Δ0 H0 Γ F ρ (tSeq (tAsg te (gName i)) tz) D :=
  wp_asg h hi fun b e => by rw [show b = a from e]; exact k
/-- the same as the last of a block -/
theorem wp_asgL {i : Nat} (h : Ev K Γ te ρ P) (hi : i < ρ.length) (k : ∀ a, P a → Wp K Δ0 H0 Γ F (ρ.set i (some ⟨a⟩)) tNext D) : Wp K Δ0 H0 Γ F ρ (tAsg te (gName i)) D := fun σ H ⟨Δ, s, hh, e, f, e0, s1, s2⟩ =>
  h Δ σ H _ s hh e fun v H' a pa e1 r1 => k a pa _ H' ⟨Δ, s, e1.2, (e.mono e1.1).set (c := ⟨a⟩) hi r1, fun q hq => q.2.r.mono e1.1 (f q hq), ext0 e0 s1 s2 e1, s1, s2⟩
theorem wp_ret (hf : Fin K Δ0 H0 R D) (h : Ev K Γ te ρ R) : Wp K Δ0 H0 Γ F ρ (tRet te) D := fun σ H ⟨Δ, s, hh, e, f, e0, s1, s2⟩ =>
  h Δ σ H _ s hh e fun v H' a pa e1 r1 => hf v H' a pa (ext0 e0 s1 s2 e1) (Rp.weak (fun x o _ n => none0 s1 n) r1)
theorem wp_drop (h : Ev K Γ te ρ P) (k : Wp K Δ0 H0 Γ F ρ tz D) : Wp K Δ0 H0 Γ F ρ (tSeq (tDrop te) tz) D := fun σ H ⟨Δ, s, hh, e, f, e0, s1, s2⟩ =>
  h Δ σ H _ s hh e fun v H' a pa e1 r1 => k _ H' ⟨Δ, s, e1.2, e.mono e1.1, fun q hq => q.2.r.mono e1.1 (f q hq), ext0 e0 s1 s2 e1, s1, s2⟩
theorem wp_dropL (h : Ev K Γ te ρ P) (k : Wp K Δ0 H0 Γ F ρ tNext D) : Wp K Δ0 H0 Γ F ρ (tDrop te) D := fun σ H ⟨Δ, s, hh, e, f, e0, s1, s2⟩ =>
  h Δ σ H _ s hh e fun v H' a pa e1 r1 => k _ H' ⟨Δ, s, e1.2, e.mono e1.1, fun q hq => q.2.r.mono e1.1 (f q hq), ext0 e0 s1 s2 e1, s1, s2⟩
theorem wp_ifP {PB : Bool → Prop} (h : EvT K Γ c ρ PB) (h1 : PB true → Wp K Δ0 H0 Γ F ρ t D) (h2 : PB false → Wp K Δ0 H0 Γ F ρ u D) : Wp K Δ0 H0 Γ F ρ (tIfS c t u) D := fun σ H ⟨Δ, s, hh, e, f, e0, s1, s2⟩ =>
  h Δ σ H _ s hh e fun b H' pb e1 => by
    have st : Stt K Δ0 H0 Γ F ρ σ H' := ⟨Δ, s, e1.2, e.mono e1.1, fun q hq => q.2.r.mono e1.1 (f q hq), ext0 e0 s1 s2 e1, s1, s2⟩
    cases b with
    | true => exact iteT (h1 pb σ H' st)
    | false => exact iteF (h2 pb σ H' st)
theorem wp_if {b : Bool} (h : EvT K Γ c ρ (Is b)) (h1 : b = true → Wp K Δ0 H0 Γ F ρ t D) (h2 : b = false → Wp K Δ0 H0 Γ F ρ u D) : Wp K Δ0 H0 Γ F ρ (tIfS c t u) D := wp_ifP h (fun e => h1 (show true = b from e).symm) fun e => h2 (show false = b from e).symm
/-- if c: t, then the rest -/
theorem wp_when {b : Bool} (h : EvT K Γ c ρ (Is b)) (h1 : b = true → Wp K Δ0 H0 Γ F ρ t { D with nx := tz D }) (h2 : b = false → Wp K Δ0 H0 Γ F ρ tz D) : Wp K Δ0 H0 Γ F ρ (tSeq (tIfS c t tNext) tz) D := wp_if (D := { D with nx := tz D }) h h1 h2
theorem wp_ifs {b : Bool} (h : EvT K Γ c ρ (Is b)) (h1 : b = true → Wp K Δ0 H0 Γ F ρ t { D with nx := tz D }) (h2 : b = false → Wp K Δ0 H0 Γ F ρ u { D with nx := tz D }) : Wp K Δ0 H0 Γ F ρ (tSeq (tIfS c t u) tz) D := wp_if (D := { D with nx := tz D }) h h1 h2
/-- the raise of a way that is not gone -/
theorem wp_no {b : Bool} (hb : b = false) (h : EvT K Γ c ρ (Is b)) (h2 : Wp K Δ0 H0 Γ F ρ tz D) : Wp K Δ0 H0 Γ F ρ (tSeq (tIfS c t tNext) tz) D := wp_when h (fun e => by rw [hb] at e; cases e) fun _ => h2
theorem wp_noL {b : Bool} (hb : b = false) (h : EvT K Γ c ρ (Is b)) (h2 : Wp K Δ0 H0 Γ F ρ tNext D) : Wp K Δ0 H0 Γ F ρ (tIfS c t tNext) D := wp_if h (fun e => by rw [hb] at e; cases e) fun _ => h2
/-- a, b = e1, e2 -/
theorem wp_par {i j : Nat} {ta : TA} {Q : List Cell → Prop} (h : EvA K Γ ta ρ Q) (hi : i < ρ.length) (hj : j < ρ.length) (k : ∀ cs, Q cs → ∃ c d : Cell, cs = [c, d] ∧ Wp K Δ0 H0 Γ F ((ρ.set i (some c)).set j (some d)) tz D) : Wp K Δ0 H0 Γ F ρ (tSeq (tPar i j ta) tz) D := fun σ H ⟨Δ, s, hh, e, f, e0, s1, s2⟩ =>
  h Δ σ H _ s hh e fun vs H' cs pcs e1 r => by
    obtain ⟨c, d, rfl, kk⟩ := k cs pcs
    match vs, r with
    | [v, w], r => exact ⟨v, w, rfl, kk _ H' ⟨Δ, s, e1.2, ((e.mono e1.1).set hi r.1).set (by rw [List.length_set]; exact hj) r.2.1, fun q hq => q.2.r.mono e1.1 (f q hq), ext0 e0 s1 s2 e1, s1, s2⟩⟩
/-- a loop: Iv tells what may stand ahead of turn i -/
def At (K : PySem.W.Frag) (Δ0 : Gh) (H0 : Hp) (F : List (V × Cell)) (Iv : Nat → Own → Env → Prop) (i : Nat) : L2.St → Hp → Prop := fun σ H => ∃ Γ ρ, Iv i Γ ρ ∧ Stt K Δ0 H0 Γ F ρ σ H
theorem wp_for {wi : TI} {g : TG} {js : List Nat} {n : Nat} {st : Nat → Env → Env} (Iv : Nat → Own → Env → Prop) (S : Src K Γ wi g ρ js n st) (h0 : Iv 0 Γ ρ) (hl : ∀ i Γ' ρ', Iv i Γ' ρ' → ρ'.length = ρ.length)
    (hs : ∀ i Γ' ρ' F', i < n → Iv i Γ' ρ' → Wp K Δ0 H0 Γ' F' (st i ρ') t { D with nx := At K Δ0 H0 F' Iv (i + 1), ct := At K Δ0 H0 F' Iv (i + 1), bk := tz D })
    (hd : ∀ Γ' ρ' F', Iv n Γ' ρ' → Wp K Δ0 H0 Γ' F' ρ' tz D) : Wp K Δ0 H0 Γ F ρ (tSeq (tFor wi g t) tz) D := fun σ H ⟨Δ, s, hh, e, f, e0, s1, s2⟩ =>
  S Δ σ H _ s hh e fun J H1 pv pc e1 rp0 hgo hyld => by
    refine ⟨fun i m σ2 H2 => m = n - i ∧ i ≤ n ∧ At K Δ0 H0 ((pv, pc) :: F) Iv i σ2 H2, ⟨n, by simp, Nat.zero_le _, Γ, ρ, h0, Δ, s, e1.2, e.mono e1.1, ?_, ext0 e0 s1 s2 e1, s1, s2⟩, ?_⟩
    · intro q hq
      rcases List.mem_cons.mp hq with z | z
      · rw [z]; exact rp0
      · exact q.2.r.mono e1.1 (f q z)
    · rintro i m σ2 H2 ⟨rfl, hi, Γ', ρ', iv, st2⟩
      obtain ⟨Δ', s', hh', e', f', e0', s1', s2'⟩ := id st2
      have rp2 : pc.rp K Δ' H2 pv := f' (pv, pc) List.mem_cons_self
      have hg := hgo Δ' H2 rp2
      by_cases hlt : i < n
      · refine .inr ⟨hg.1 i hlt, At K Δ0 H0 ((pv, pc) :: F) Iv (i + 1), fun σ3 H3 a => ⟨n - (i + 1), by omega, rfl, hlt, a⟩, fun x H3 hy => ?_⟩
        obtain ⟨e3, hput⟩ := hyld Δ' i H2 x H3 hlt hh' rp2 hy
        refine hput σ2 ρ' _ (hl i Γ' ρ' iv) (e'.mono e3.1) fun σ3 env3 _ _ => ?_
        exact hs i Γ' ρ' _ hlt iv σ3 H3 ⟨Δ', s', e3.2, env3, fun q hq => q.2.r.mono e3.1 (f' q hq), ext0 e0' s1' s2' e3, s1', s2'⟩
      · have ei : i = n := by omega
        subst ei
        exact .inl ⟨hg.2, hd Γ' ρ' _ iv σ2 H2 st2⟩
/-- behind the last turn's body -/
theorem wp_turn {Iv : Nat → Own → Env → Prop} {i : Nat} (hiv : Iv i Γ ρ) (e : D.nx = At K Δ0 H0 F Iv i) : Wp K Δ0 H0 Γ F ρ tNext D := fun σ H st => by
  show D.nx σ H
  rw [e]
  exact ⟨Γ, ρ, hiv, st⟩
/-- x = a list of one's own: from here on its cell is owned, its members told -/
def LstIs (vs : List V) : HO → Prop := fun o => o = .lst vs
theorem wp_end {D : Ends} (h : ∀ H', Ext Δ0 H0 H' → D.nx = D.nx → ∀ σ, D.nx σ H') : Wp K Δ0 H0 Γ F ρ tNext D := fun σ H ⟨Δ, s, hh, e, f, e0, s1, s2⟩ => h H e0 rfl σ
end
/-! ### a def -/
section
variable {P : Program} {w : World} {K : PySem.W.Frag} {mg : Str → Option Value} {base : Heap} {β : Type} [Rp β]
def env0 (N : List Str) (cs : List Cell) : Env := cs.map some ++ List.replicate (N.length - cs.length) none
theorem start_ok {Δ : Gh} {H : Hp} {N : List Str} {vs : List V} {cs : List Cell} (h : ArgsOk K Δ H vs cs) : EnvOk K Δ (L2.start N vs) H (env0 N cs) := by
  have hl := All2.len h
  refine ⟨by unfold L2.start env0; rw [List.length_append, List.length_append, List.length_map, List.length_map, List.length_replicate, List.length_replicate, hl], fun i c e => ?_⟩
  unfold env0 at e
  unfold L2.start
  by_cases hi : i < cs.length
  · rw [List.getElem?_append_left (by rw [List.length_map]; exact hi), List.getElem?_map] at e
    cases q : cs[i]? with
    | none => rw [q] at e; cases e
    | some d =>
      rw [q] at e
      have ed : d = c := Option.some.inj (Option.some.inj e)
      subst ed
      obtain ⟨v, hv, rv⟩ := All2.get h q
      exact ⟨v, by rw [List.getElem?_append_left (by rw [List.length_map, hl]; exact hi), List.getElem?_map, hv]; rfl, rv⟩
  · rw [List.getElem?_append_right (by rw [List.length_map]; omega)] at e
    obtain ⟨_, e2⟩ := List.getElem?_eq_some_iff.mp e
    rw [List.getElem_replicate] at e2
    cases e2
/-- a def's promise from its body's term and the body's walk -/
theorem def_ok {x qual : Str} {args : Arguments} {body : List Stmt} {scope : Scope} {dvs : List V} {kws : List (Str × V)} {f : Addr} {fd : FuncData} {N ps : List Str} {k : Nat} {G : Own → List Cell → (β → Prop) → Prop}
    (Fn : FunD K x qual args body scope dvs kws f fd) (S : FnScope N ps scope) (len : ∀ Γ cs R, G Γ cs R → cs.length = ps.length)
    (hb : ∀ (cdv : Value) (A : Around) (outer : List PySem.Env) (s : Shared) (H : Hp) (E : XK), Room k (A.deeper (envOfC qual scope s.heap.objs.size f cdv)) →
      ∀ (Γ : Own) (cs : List Cell) (R : β → Prop), G Γ cs R → ∃ t, PSs (cxOf CX0 P w K mg base N qual scope f cdv A outer s H E).nox body t ∧
        ∀ (Δ0 : Gh) (D : Ends), Fin K Δ0 H R D → (∀ b : β, R b → (∀ H', Rp.rp K Δ0 H' .non b) → ∀ σ H', Ext Δ0 H H' → D.nx σ H') → Wp K Δ0 H Γ [] (env0 N cs) t D) :
    FnOk P w K mg base CX0 (k + 1) f fd ps (spD K G) := by
  refine Fn.ok S (fun vs H Q E h => ?_) (fun cdv A outer s H vs Q E hr h => ?_)
  · obtain ⟨Γ, Δ, cs, R, g, _, _, a, _⟩ := h
    rw [All2.len a]
    exact len Γ cs R g
  · obtain ⟨Γ, Δ, cs, R, g, sa, hh, a, q⟩ := h
    obtain ⟨t, ht, hw⟩ := hb cdv A outer s H E hr Γ cs R g
    refine ⟨t, ?_, hw Δ _ (fun v H' b pb e r => q v H' b pb e r) (fun b rb hb' σ H' e => q .non H' b rb e (hb' H')) _ H ⟨Δ, sa, hh, start_ok a, fun z hz => (nomatch hz), Ext.refl hh, fun _ _ z => z, fun x n m => absurd n m⟩⟩
    first
      | exact ht
      | exact PSs.nox ht
end
end Z

set_option Elab.async false
set_option linter.all false
set_option maxRecDepth 100000
set_option maxHeartbeats 1000000
namespace Z
open PySem PySem.Spec PyProof.Rows L2
/-! ### further rules -/
section
variable {X : Cx}
theorem call_reprB : CallR X (.builtin "repr") (fun xs H Q => ∃ b, xs = [.bl b] ∧ Q (.str (if b then "True" else "False")) H) := by
  intro pins s σ H xs us Q I r h
  obtain ⟨b, rfl, q⟩ := h
  obtain ⟨u, rfl, r1⟩ := vals1 r
  cases r1
  exact PySem.P.repr_of_bool ⟨.str _, H, I.tok _, ⟨_, rfl⟩, q⟩
def rMulS : R2 := fun x y H Q => ∃ z i, x = .str z ∧ y = .int i ∧ MulOk z i ∧ Q (.str (PySem.Txt.mul z i)) H
theorem op_mulS : OpR X (binaryOp .Mult) rMulS := by
  intro pins s σ H x y v u Q I rx ry h
  obtain ⟨z, i, rfl, rfl, hm, q⟩ := h
  obtain ⟨t, rfl⟩ := rx
  obtain ⟨t', rfl⟩ := ry
  exact PySem.SB.mul hm fun t2 k => ⟨.str _, H, I.tok k, ⟨t2, rfl⟩, q⟩
theorem pe_trS {o : Expr} {to te : TE} {e : Expr} {apos pos : Pos} (hc : X.calm = true) (ho : PE X o to) (he : PE X e te) (hs : starEach [e] X.env = [(false, eval e X.env)] := by rfl) (hbase : attributeBase o "translate" X.env (eval o X.env) = eval o X.env := by rfl) (hline : (apos.endLine == pos.line) = true := by rfl) :
    PE X (.Call (.Attribute o "translate" apos) [e] [] pos) (tM1 (fun x xs H Q => ∃ (t : List Nat) (d : Addr), x = .str (SX.S t) ∧ xs = [.ref d] ∧ H d = some (.dK swpV) ∧ t.length ≤ 16000000 ∧ Q (.str (SX.S (t.map sw))) H) to te) :=
  pe_m1 F.slot_str_translate F.type_str_translate (mt_trS hc) ho he hs hbase hline
theorem pe_stripC {o : Expr} {to te : TE} {e : Expr} {apos pos : Pos} (ho : PE X o to) (he : PE X e te) (hs : starEach [e] X.env = [(false, eval e X.env)] := by rfl) (hbase : attributeBase o "strip" X.env (eval o X.env) = eval o X.env := by rfl) (hline : (apos.endLine == pos.line) = true := by rfl) :
    PE X (.Call (.Attribute o "strip" apos) [e] [] pos) (tM1 (fun x xs H Q => ∃ a b, x = .str a ∧ xs = [.str b] ∧ a.length ≤ sizeLine ∧ Q (.str (PySem.Txt.stripChars a b)) H) to te) :=
  pe_m1 F.slot_str_strip F.type_str_strip mt_stripChars ho he hs hbase hline
end
end Z

set_option Elab.async false
set_option linter.all false
set_option maxRecDepth 100000
set_option maxHeartbeats 1000000
namespace Z
open PySem PySem.Spec PyProof.Rows L2
section
variable {K : PySem.W.Frag} {Γ : Own} {ρ : Env} {ta tb tc te : TE} {t u : TT} {α β γ : Type} [Rp α] [Rp β] [Rp γ] {Pa : α → Prop} {Pb : β → Prop} {Pc : γ → Prop}
/-! ### texts -/
theorem joinL_flat : ∀ ps : List (List Nat), TL.joinL [] ps = ps.flatten
  | [] => rfl
  | [p] => by simp [TL.joinL]
  | p :: q :: r => by
    show p ++ ([] ++ TL.joinL [] (q :: r)) = _
    rw [joinL_flat (q :: r), List.nil_append, List.flatten_cons, List.flatten_cons, List.flatten_cons]
theorem join_tx (xs : List Tx) : PySem.Txt.join Str.empty (xs.map fun x => (⟨x.s.toArray⟩ : Str)) = ⟨((xs.map (·.s)).flatten).toArray⟩ := by
  rw [TL.join_eq]
  have h := TL.tl_join Str.empty (xs.map fun x => (⟨x.s.toArray⟩ : Str))
  rw [show TL.tl Str.empty = [] from rfl, joinL_flat, List.map_map] at h
  have e : (xs.map (TL.tl ∘ fun x => (⟨x.s.toArray⟩ : Str))) = xs.map (·.s) := List.map_congr_left fun x _ => by show x.s.toArray.toList = x.s; simp
  rw [e] at h
  generalize PySem.Str.join Str.empty _ = z at h
  cases z
  have h' := congrArg List.toArray h
  simpa using h'
def rJoin (K : PySem.W.Frag) : V → List V → Hp → VK → Prop := fun x xs H Q => ∃ a p, ∃ ys : List Str, x = .str a ∧ xs = [.ref p] ∧ (SqL K H p (ys.map V.str) ∨ SqT K H p (ys.map V.str)) ∧
  (ys.map (·.length)).sum + ys.length * a.length ≤ 16777216 ∧ Q (.str (PySem.Txt.join a ys)) H
theorem sum_len (xs : List Tx) : ((xs.map fun x => (⟨x.s.toArray⟩ : Str)).map (·.length)).sum = ((xs.map (·.s)).flatten).length := by
  induction xs with
  | nil => rfl
  | cons x xs ih =>
    rw [List.map_cons, List.map_cons, List.sum_cons, ih, List.map_cons, List.flatten_cons, List.length_append]
    have e : (⟨x.s.toArray⟩ : Str).length = x.s.length := by show x.s.toArray.size = _; simp
    rw [e]
/-- "".join(texts) -/
theorem ev_join1 {xs : List Tx} (h : Ev K Γ te ρ (Is xs)) (hz : ((xs.map (·.s)).flatten).length ≤ 100000) : Ev K Γ (tM1 (rJoin K) (tC (.str "")) te) ρ (Is (⟨(xs.map (·.s)).flatten⟩ : Tx)) := fun Δ σ H Q s hh e k =>
  ⟨⟨_, rfl⟩, h Δ σ H _ s hh e fun v H' a pa e1 r => by
    have ea : a = xs := pa
    subst ea
    obtain ⟨p, vs, rfl, n, sq, q⟩ := r
    have ev := all2_tx q
    subst ev
    refine ⟨Str.empty, p, _, rfl, rfl, .inl sq, ?_, k _ H' _ rfl e1 (by show V.str _ = V.str _; rw [join_tx])⟩
    rw [sum_len]
    have e0 : Str.empty.length = 0 := rfl
    rw [e0]
    omega⟩
theorem ev_join {xs : List Tx} {z : Str} (hz0 : z = "" := by rfl) (h : Ev K Γ te ρ (Is xs)) (hz : ((xs.map (·.s)).flatten).length ≤ 100000) : Ev K Γ (tM1 (rJoin K) (tC (.str z)) te) ρ (Is (⟨(xs.map (·.s)).flatten⟩ : Tx)) := by
  subst hz0
  exact ev_join1 h hz
/-- the same of a drawn list -/
theorem ev_joinP {P : List Tx → Prop} {z : Str} (hz0 : z = "" := by rfl) (h : Ev K Γ te ρ P) (hz : ∀ xs, P xs → ((xs.map (·.s)).flatten).length ≤ 100000) : Ev K Γ (tM1 (rJoin K) (tC (.str z)) te) ρ (fun x : Tx => ∃ xs, P xs ∧ x = ⟨(xs.map (·.s)).flatten⟩) := by
  subst hz0
  exact fun Δ σ H Q s hh e k =>
    ⟨⟨_, rfl⟩, h Δ σ H _ s hh e fun v H' a pa e1 r => by
      obtain ⟨p, vs, rfl, n, sq, q⟩ := r
      have ev := all2_tx q
      subst ev
      refine ⟨Str.empty, p, _, rfl, rfl, .inl sq, ?_, k _ H' _ ⟨a, pa, rfl⟩ e1 (by show V.str _ = V.str _; rw [join_tx])⟩
      rw [sum_len]
      have e0 : Str.empty.length = 0 := rfl
      rw [e0]
      have := hz a pa
      omega⟩
def isSign (c : Nat) : Bool := c == 43 || c == 45 || c == 48
theorem contains_sign (c : Nat) : (Str.ofString "+-0").cps.contains c = isSign c := by
  have e : (Str.ofString "+-0").cps = #[43, 45, 48] := by decide +kernel
  rw [e]
  unfold isSign
  simp [Array.contains, Bool.or_assoc, eq_comm, BEq.comm]
theorem takeWhile_all {p : Nat → Bool} : ∀ {l : List Nat}, (l.takeWhile p).length = l.length → l.all p = true
  | [], _ => rfl
  | x :: l, h => by
    rw [List.takeWhile_cons] at h
    cases hp : p x with
    | true =>
      rw [hp] at h
      simp at h
      rw [List.all_cons, hp, takeWhile_all (by simpa using h)]
      try rfl
    | false =>
      rw [hp] at h
      simp at h
theorem all_takeWhile {p : Nat → Bool} : ∀ {l : List Nat}, l.all p = true → l.takeWhile p = l
  | [], _ => rfl
  | x :: l, h => by
    rw [List.all_cons, Bool.and_eq_true] at h
    rw [List.takeWhile_cons, h.1, if_pos rfl, all_takeWhile h.2]
theorem drop_take {p : Nat → Bool} : ∀ l : List Nat, l = l.takeWhile p ++ l.drop (l.takeWhile p).length
  | [] => rfl
  | x :: l => by
    rw [List.takeWhile_cons]
    split
    · rw [List.cons_append, List.length_cons, List.drop_succ_cons, ← drop_take l]
    · rfl
theorem take_goes {p : Nat → Bool} : ∀ l : List Nat, (l.takeWhile p).all p = true
  | [] => rfl
  | x :: l => by
    rw [List.takeWhile_cons]
    split
    · rename_i h
      rw [List.all_cons, h, take_goes l]
      rfl
    · rfl
theorem takeWhile_le {p : Nat → Bool} : ∀ (l : List Nat), (l.takeWhile p).length ≤ l.length
  | [] => Nat.le_refl _
  | x :: l => by
    rw [List.takeWhile_cons]
    split
    · have := takeWhile_le (p := p) l
      simp only [List.length_cons]
      omega
    · simp
/-- nothing is left of a row alone -/
theorem strip_nil (l : List Nat) : (PySem.Txt.stripChars ⟨l.toArray⟩ "+-0" = Str.empty) ↔ l.all isSign = true := by
  have hc : (fun c => (Str.ofString "+-0").cps.contains c) = isSign := funext contains_sign
  have hg : (Str.ofString "+-0").cps.contains = isSign := hc
  unfold PySem.Txt.stripChars PySem.Txt.stripBy
  rw [hg]
  have hlen : (⟨l.toArray⟩ : Str).length = l.length := by show l.toArray.size = _; simp
  have lo : PySem.stripLo isSign true ⟨l.toArray⟩ = (l.takeWhile isSign).length := by unfold PySem.stripLo; simp
  constructor
  · intro h
    split at h
    · rename_i hs
      unfold PySem.stripSame at hs
      rw [lo, Bool.and_eq_true] at hs
      have hl : l = [] := by
        have h2 : l.toArray = #[] := congrArg Str.cps h
        simpa using h2
      subst hl
      rfl
    · have hcps := congrArg Str.cps h
      unfold PySem.stripped at hcps
      have h2 : ((⟨l.toArray⟩ : Str).cps.extract (PySem.stripLo isSign true ⟨l.toArray⟩) (PySem.stripHi isSign true ⟨l.toArray⟩ (PySem.stripLo isSign true ⟨l.toArray⟩))).size = 0 := by
        have : (PySem.Builtin.Str.strSub (⟨l.toArray⟩ : Str) (PySem.stripLo isSign true ⟨l.toArray⟩) (PySem.stripHi isSign true ⟨l.toArray⟩ (PySem.stripLo isSign true ⟨l.toArray⟩))).cps = #[] := hcps
        exact congrArg Array.size this
      rw [Array.size_extract, lo] at h2
      have hi : PySem.stripHi isSign true ⟨l.toArray⟩ (l.takeWhile isSign).length = l.length - ((l.drop (l.takeWhile isSign).length).reverse.takeWhile isSign).length := by
        unfold PySem.stripHi
        rw [if_pos rfl, hlen]
      rw [hi] at h2
      have hsz : (⟨l.toArray⟩ : Str).cps.size = l.length := by simp
      rw [hsz] at h2
      have t1 := takeWhile_le (p := isSign) l
      have t2 := takeWhile_le (p := isSign) ((l.drop (l.takeWhile isSign).length).reverse)
      rw [List.length_reverse, List.length_drop] at t2
      -- the tail's own signs end at the first bad one
      have key : (l.takeWhile isSign).length = l.length ∨ ((l.drop (l.takeWhile isSign).length).reverse.takeWhile isSign).length < l.length - (l.takeWhile isSign).length := by
        by_cases hq : (l.takeWhile isSign).length = l.length
        · exact .inl hq
        · right
          have hne : ((l.drop (l.takeWhile isSign).length).reverse.takeWhile isSign).length ≠ (l.drop (l.takeWhile isSign).length).reverse.length := by
            intro hh
            have ha := takeWhile_all hh
            rw [List.all_reverse] at ha
            have hcat := drop_take (p := isSign) l
            have hall : l.all isSign = true := by
              rw [hcat, List.all_append, ha]
              rw [take_goes l]
              try rfl
            have := all_takeWhile hall
            exact hq (by rw [this])
          rw [List.length_reverse, List.length_drop] at hne
          omega
      rcases key with q | q
      · exact takeWhile_all q
      · omega
  · intro h
    have ht := all_takeWhile h
    split
    · rename_i hs
      unfold PySem.stripSame at hs
      rw [lo, Bool.and_eq_true, ht] at hs
      have h0 : l.length = 0 := by simpa using hs.1
      have hl := List.eq_nil_of_length_eq_zero h0
      subst hl
      rfl
    · unfold PySem.stripped
      show (⟨l.toArray.extract _ _⟩ : Str) = _
      rw [lo, ht]
      have : l.toArray.extract l.length (PySem.stripHi isSign true ⟨l.toArray⟩ l.length) = #[] := by
        apply Array.eq_empty_of_size_eq_zero
        rw [Array.size_extract]
        unfold PySem.stripHi
        rw [if_pos rfl, hlen]
        simp
      rw [this]
      rfl

def rStrip : V → List V → Hp → VK → Prop := fun x xs H Q => ∃ a b, x = .str a ∧ xs = [.str b] ∧ a.length ≤ sizeLine ∧ Q (.str (PySem.Txt.stripChars a b)) H
/-- x.strip("+-0"), told by what is left -/
theorem ev_strip {x : Tx} {z : Str} (hz0 : z = "+-0" := by rfl) (h : Ev K Γ ta ρ (Is x)) (hz : x.s.length ≤ 100000) :
    Ev K Γ (tM1 (fun x xs H Q => ∃ a b, x = .str a ∧ xs = [.str b] ∧ a.length ≤ sizeLine ∧ Q (.str (PySem.Txt.stripChars a b)) H) ta (tC (.str z))) ρ (fun y : Tx => y.s = [] ↔ x.s.all isSign = true) := by
  subst hz0
  exact fun Δ σ H Q s hh e k => h Δ σ H _ s hh e fun v H' a pa e1 r => by
    have ea : a = x := pa
    subst ea
    have ev : v = .str ⟨a.s.toArray⟩ := r
    subst ev
    refine ⟨⟨_, rfl⟩, _, _, rfl, rfl, ?_, k _ H' ⟨(PySem.Txt.stripChars ⟨a.s.toArray⟩ "+-0").cps.toList⟩ ?_ e1 rfl⟩
    · show a.s.toArray.size ≤ sizeLine
      rw [List.size_toArray]
      exact Nat.le_trans hz (by decide)
    · rw [← strip_nil]
      constructor
      · intro q
        generalize PySem.Txt.stripChars ⟨a.s.toArray⟩ "+-0" = y at q
        cases y with
        | mk c =>
          have q' : c.toList = [] := q
          have : c = #[] := by simpa using q'
          rw [this]
          rfl
      · intro q
        rw [q]
        rfl
/-- x.translate(the swap) -/
theorem ev_tr {x : Tx} (h : Ev K Γ ta ρ (Is x)) (hz : x.s.length ≤ 100000) :
    Ev K Γ (tM1 (fun x xs H Q => ∃ (t : List Nat) (d : Addr), x = .str (SX.S t) ∧ xs = [.ref d] ∧ H d = some (.dK swpV) ∧ t.length ≤ 16000000 ∧ Q (.str (SX.S (t.map sw))) H) ta tMk) ρ (Is (⟨x.s.map sw⟩ : Tx)) := fun Δ σ H Q s hh e k =>
  h Δ σ H _ s hh e fun v H' a pa e1 r => by
    have ea : a = x := pa
    subst ea
    have ev : v = .str ⟨a.s.toArray⟩ := r
    subst ev
    refine ⟨⟨_, rfl⟩, fun p hp => ⟨a.s, p, rfl, rfl, upd_same, by omega, k _ _ ⟨a.s.map sw⟩ rfl (e1.trans (Ext.new e1.2 hp _)) rfl⟩⟩
/-! ### built-in calls -/
theorem o1_abs {i : Int} : Op1 K (fun xs H Q => ∃ i, xs = [.int i] ∧ Q (.int (if i < 0 then -i else i)) H) i (Is (if i < 0 then -i else i)) := fun Δ H v Q hh r k => by
  have e : v = .int i := r
  subst e
  exact ⟨i, rfl, k _ H _ rfl (Ext.refl hh) rfl⟩
theorem o1_int {i : Int} : Op1 K (fun xs H Q => (∃ i, xs = [.int i] ∧ Q (.int i) H) ∨ ∃ k, xs = [.bl k] ∧ Q (.int (if k then 1 else 0)) H) i (Is i) := fun Δ H v Q hh r k => by
  have e : v = .int i := r
  subst e
  exact .inl ⟨i, rfl, k _ H _ rfl (Ext.refl hh) rfl⟩
theorem o1_intB {b : Bool} : Op1 K (fun xs H Q => (∃ i, xs = [.int i] ∧ Q (.int i) H) ∨ ∃ k, xs = [.bl k] ∧ Q (.int (if k then 1 else 0)) H) b (Is (if b then (1 : Int) else 0)) := fun Δ H v Q hh r k => by
  have e : v = .bl b := r
  subst e
  exact .inr ⟨b, rfl, k _ H _ rfl (Ext.refl hh) rfl⟩
def rB (b : Bool) : Tx := ⟨(Str.ofString (if b then "True" else "False")).cps.toList⟩
theorem o1_reprB {b : Bool} : Op1 K (fun xs H Q => ∃ b, xs = [.bl b] ∧ Q (.str (if b then "True" else "False")) H) b (Is (rB b)) := fun Δ H v Q hh r k => by
  have e : v = .bl b := r
  subst e
  refine ⟨b, rfl, k _ H _ rfl (Ext.refl hh) ?_⟩
  cases b <;> rfl
theorem o1_tuple {xs : List α} : Op1 K (fun xs H Q => ∃ p ys, xs = [.ref p] ∧ ((SqL K H p ys ∧ ∀ l, H l = none → Q (.ref l) (upd H l (.tup ys))) ∨ (SqT K H p ys ∧ Q (.ref p) H))) xs (Is (⟨xs⟩ : Tup α)) := fun Δ H v Q hh r k => by
  obtain ⟨p, vs, rfl, n, s, q⟩ := r
  exact ⟨p, vs, rfl, .inl ⟨s, fun l hl => k _ _ ⟨xs⟩ rfl (Ext.new hh hl _) (new_tup hh hl q)⟩⟩
/-- tuple(a drawn list) -/
theorem ev_tupleP {P : List α → Prop} (h : Ev K Γ te ρ P) : Ev K Γ (tCB (fun xs H Q => ∃ p ys, xs = [.ref p] ∧ ((SqL K H p ys ∧ ∀ l, H l = none → Q (.ref l) (upd H l (.tup ys))) ∨ (SqT K H p ys ∧ Q (.ref p) H))) (tCons te tNil)) ρ (fun t : Tup α => P t.l) :=
  ev_cb1 h fun x px => fun Δ H v Q hh r k => o1_tuple Δ H v Q hh r fun u H' c pc => k u H' c (by rw [show c = ⟨x⟩ from pc]; exact px)
/-- isinstance(x, T) -/
theorem ev_isi {c : String} {tn : String} {x : α} {b : Bool} (h : Ev K Γ te ρ (Is x)) (ty : ∀ Δ H v, Rp.rp K Δ H v x → TyX K H v (.type tn)) (hb : PySem.W.kitOne K (.type tn) (.type c) = some b) :
    Ev K Γ (tCB (rIsi K) (tCons te (tCons (tC (.ty c)) tNil))) ρ (Is b) := fun Δ σ H Q s hh e k =>
  h Δ σ H _ s hh e fun v H' a pa e1 r => by
    have ea : a = x := pa
    subst ea
    exact ⟨v, .ty c, _, _, b, rfl, .ty c, ty Δ H' v r, hb, k _ H' _ rfl e1 rfl⟩
theorem ty_tx {x : Tx} : ∀ Δ H v, Rp.rp K Δ H v x → TyX K H v (.type "str") := fun Δ H v r => by
  have e : v = .str ⟨x.s.toArray⟩ := r
  subst e
  exact .base (.str _)
theorem ty_int {x : Int} : ∀ Δ H v, Rp.rp K Δ H v x → TyX K H v (.type "int") := fun Δ H v r => by
  have e : v = .int x := r
  subst e
  exact .base (.int _)
theorem ty_bl {x : Bool} : ∀ Δ H v, Rp.rp K Δ H v x → TyX K H v (.type "bool") := fun Δ H v r => by
  have e : v = .bl x := r
  subst e
  exact .base (.bl _)
theorem ty_tup {x : Tup α} : ∀ Δ H v, Rp.rp K Δ H v x → TyX K H v (.type "tuple") := fun Δ H v r => by
  obtain ⟨p, vs, rfl, n, s, q⟩ := r
  rcases n with ⟨_, n | ⟨o, n⟩⟩ | ⟨o, its, m, e, c, _⟩
  · exact .base (.tup n)
  · exact .fTuple n
  · exact .kTuple e c
theorem ty_list {x : List α} : ∀ Δ H v, Rp.rp K Δ H v x → TyX K H v (.type "list") := fun Δ H v r => by
  obtain ⟨p, vs, rfl, n, s, q⟩ := r
  rcases n with ⟨_, n | ⟨o, n⟩⟩ | ⟨o, its, m, e, c, _⟩
  · exact .base (.lst n)
  · exact .base (.frz n)
  · exact .kList e c
theorem ty_non {x : Unit} : ∀ Δ H v, Rp.rp K Δ H v x → TyX K H v (.type "NoneType") := fun Δ H v r => by
  have e : v = .non := r
  subst e
  exact .base .non
/-- x is None, for a datum that is or is not -/
theorem ev_isN {x : α} {b : Bool} (h : Ev K Γ te ρ (Is x)) (hb : ∀ Δ H v, Rp.rp K Δ H v x → decide (v = .non) = b) : Ev K Γ (tOp (fun x y H Q => y = .non ∧ Q (.bl (decide (x = .non))) H) te (tC .non)) ρ (Is b) := fun Δ σ H Q s hh e k =>
  h Δ σ H _ s hh e fun v H' a pa e1 r => ⟨rfl, k _ H' b rfl e1 (by
    have ea : a = x := pa
    subst ea
    show V.bl _ = V.bl _
    rw [hb Δ H' v r])⟩
/-- '0' * n -/
theorem mul_tx (c : Nat) (n : Nat) : PySem.Txt.mul ⟨#[c]⟩ (n : Int) = ⟨(List.replicate n c).toArray⟩ := by
  unfold PySem.Txt.mul
  split
  · rename_i h
    have : n = 0 := by omega
    subst this
    rfl
  · split
    · rename_i h1 h2
      have h3 : n = 1 := by
        simp [Str.length] at h2
        omega
      subst h3
      rfl
    · show (⟨_⟩ : Str) = _
      have key : ∀ (m : Nat) (acc : Array Nat), (List.replicate m (#[c] : Array Nat)).foldl (· ++ ·) acc = acc ++ (List.replicate m c).toArray := by
        intro m
        induction m with
        | zero => intro acc; simp
        | succ m ih =>
          intro acc
          rw [List.replicate_succ, List.foldl_cons, ih, List.replicate_succ]
          apply Array.toList_inj.mp
          simp
      rw [show ((n : Int)).toNat = n from Int.toNat_natCast n, key n #[], Array.empty_append]
theorem o2_mulS {c : Nat} {x : Tx} {n : Nat} (hx : x = ⟨[c]⟩) (hn : n ≤ 10000) : Op2 K rMulS x (n : Int) (Is (⟨List.replicate n c⟩ : Tx)) := fun Δ H v w Q hh r1 r2 k => by
  subst hx
  have e1 : v = .str ⟨#[c]⟩ := r1
  have e2 : w = .int n := r2
  subst e1 e2
  refine ⟨_, _, rfl, rfl, ⟨?_, ?_, ?_⟩, k _ H _ rfl (Ext.refl hh) ?_⟩
  · have h1 : ¬ ((n : Int) < -(2 ^ 63 : Int)) := by omega
    have h2 : ¬ ((n : Int) ≥ 2 ^ 63) := by omega
    rw [decide_eq_false h1, decide_eq_false h2]
    rfl
  · intro h1 _
    have hl : (⟨#[c]⟩ : Str).length = 1 := rfl
    rw [hl]
    have : (1 : Int) ≤ (2 ^ 63 - 1) / (n : Int) := by
      rw [Int.le_ediv_iff_mul_le (by omega)]
      omega
    omega
  · intro h1 _
    have hl : (⟨#[c]⟩ : Str).length = 1 := rfl
    rw [hl]
    exact PyProof.Rows.short24 (by omega)
  · show V.str _ = V.str _
    rw [mul_tx]
theorem o2_addS {x y : Tx} (hz : x.s.length + y.s.length ≤ 100000) : Op2 K (fun x y H Q => ∃ i j, x = .str i ∧ y = .str j ∧ i.length + j.length ≤ sizeLine ∧ Q (.str (i ++ j)) H) x y (Is (⟨x.s ++ y.s⟩ : Tx)) := fun Δ H v w Q hh r1 r2 k => by
  have e1 : v = .str ⟨x.s.toArray⟩ := r1
  have e2 : w = .str ⟨y.s.toArray⟩ := r2
  subst e1 e2
  refine ⟨_, _, rfl, rfl, ?_, k _ H _ rfl (Ext.refl hh) ?_⟩
  · show x.s.toArray.size + y.s.toArray.size ≤ sizeLine
    rw [List.size_toArray, List.size_toArray]
    exact Nat.le_trans hz (by decide)
  · show V.str ⟨x.s.toArray ++ y.s.toArray⟩ = V.str ⟨(x.s ++ y.s).toArray⟩
    simp
end
end Z

set_option Elab.async false
set_option linter.all false
set_option maxRecDepth 100000
set_option maxHeartbeats 1000000
namespace Z
open PySem PySem.Spec PyProof.Rows L2
section
variable {K : PySem.W.Frag} {Γ : Own} {ρ : Env} {ta tb tc te : TE} {t u : TT} {α β γ : Type} [Rp α] [Rp β] [Rp γ] {Pa : α → Prop} {Pb : β → Prop} {Pc : γ → Prop}
theorem src_str {tl : TE} {j : Nat} {x : Tx} {c0 : Nat → Nat} (h : Ev K Γ tl ρ (Is x)) (hx : ∀ i, i < x.s.length → x.s[i]? = some (c0 i)) (hj : j < ρ.length) : Src K Γ (iStr tl) (gName j) ρ [j] x.s.length (fun i ρ => ρ.set j (some ⟨(⟨[c0 i]⟩ : Tx)⟩)) := fun Δ σ H R s hh e k =>
  h Δ σ H _ s hh e fun v H' a pa e1 r => by
    have ea : a = x := pa
    subst ea
    have ev : v = .str ⟨a.s.toArray⟩ := r
    subst ev
    refine ⟨_, rfl, k _ H' .non ⟨()⟩ e1 rfl (fun Δ' H2 _ => ⟨fun i hi => ?_, ?_⟩) fun Δ' i H2 y H3 hi h2 _ yy => ?_⟩
    · show i < a.s.toArray.size
      simpa using hi
    · show a.s.toArray.size ≤ a.s.length
      simp
    · obtain ⟨rfl, c, hc, rfl⟩ := (show H3 = H2 ∧ ∃ c, a.s.toArray[i]? = some c ∧ y = .str ⟨#[c]⟩ from yy)
      have ec2 : c = c0 i := by
        have q1 : a.s[i]? = some c := by simpa using hc
        exact Option.some.inj (q1.symm.trans (hx i hi))
      subst ec2
      exact ⟨Ext.refl h2, fun σ' ρ' Qs hl e' q => q _ (e'.set (c := ⟨(⟨[c0 i]⟩ : Tx)⟩) (by rw [hl]; exact hj) rfl) (set_off (js := [j]) (List.mem_singleton_self j)).1 (set_off (js := [j]) (List.mem_singleton_self j)).2⟩
/-- {'+': '-', '-': '+', '0': '0'}[c] -/
theorem ev_flip {c : Nat} (hc : isSign c = true) (h : Ev K Γ te ρ (Is (⟨[c]⟩ : Tx))) :
    Ev K Γ (tDGet (tDisp [(tC (.str "+"), tC (.str "-")), (tC (.str "-"), tC (.str "+")), (tC (.str "0"), tC (.str "0"))]) te) ρ (Is (⟨[sw c]⟩ : Tx)) := fun Δ σ H Q s hh e k => by
  intro p hp
  have hh1 : Hold Δ (upd H p (.dK [])) := hh.new hp _
  have n : Δ p = none := hh.fresh hp
  refine ⟨upd_same, [(.inr "+", .str "-"), (.inr "-", .str "+"), (.inr "0", .str "0")], rfl, by decide, ?_⟩
  have e2 : Ext Δ H (upd (upd H p (.dK [])) p (.dK (mergeK [] [(.inr "+", .str "-"), (.inr "-", .str "+"), (.inr "0", .str "0")]))) := by
    rw [upd_upd]
    exact Ext.new hh hp _
  refine h Δ σ _ _ s e2.2 (e.mono e2.1) fun v H' a pa e3 r => ?_
  have ea : a = ⟨[c]⟩ := pa
  subst ea
  have ev : v = .str ⟨#[c]⟩ := r
  subst ev
  have hd : H' p = some (.dK (mergeK [] [(.inr "+", .str "-"), (.inr "-", .str "+"), (.inr "0", .str "0")])) := e3.1 p _ n upd_same
  unfold isSign at hc
  simp only [Bool.or_eq_true, beq_iff_eq] at hc
  have hm : mergeK [] ([(.inr "+", .str "-"), (.inr "-", .str "+"), (.inr "0", .str "0")] : List (Key × V)) = [(.inr "+", .str "-"), (.inr "-", .str "+"), (.inr "0", .str "0")] := by decide +kernel
  rw [hm] at hd
  rcases hc with (rfl | rfl) | rfl
  · exact ⟨p, .str "-", rfl, .inl ⟨_, .inr "+", .inl hd, rfl, by decide +kernel⟩, k _ H' _ rfl (e2.trans e3) rfl⟩
  · exact ⟨p, .str "+", rfl, .inl ⟨_, .inr "-", .inl hd, rfl, by decide +kernel⟩, k _ H' _ rfl (e2.trans e3) rfl⟩
  · exact ⟨p, .str "0", rfl, .inl ⟨_, .inr "0", .inl hd, rfl, by decide +kernel⟩, k _ H' _ rfl (e2.trans e3) rfl⟩
/-! ### the dice: three ints, none below 0 -/
def DiceI : HO → Prop := fun o => ∃ x y z : Int, o = .lst [.int x, .int y, .int z] ∧ 0 ≤ x ∧ 0 ≤ y ∧ 0 ≤ z
/-- an item of the dice -/
theorem ev_dice {p : Addr} {i : Nat} (hp : (p, DiceI) ∈ Γ) (hi : i < 3) (h : Ev K Γ ta ρ (Is (⟨p⟩ : Loc))) : Ev K Γ (tOp (rIxL K) ta (tC (.int (i : Int)))) ρ (fun n : Int => 0 ≤ n) := fun Δ σ H Q s hh e k =>
  h Δ σ H _ s hh e fun v H' a pa e1 r => by
    have ea : a = ⟨p⟩ := pa
    subst ea
    have ev : v = .ref p := r
    subst ev
    obtain ⟨o, ho, x, y, z, rfl, h1, h2, h3⟩ := e1.2 p DiceI (s _ hp)
    match i, hi with
    | 0, _ => exact ⟨p, _, 0, .int x, rfl, rfl, .inl (.inl ho), atI_nat (j := 0) rfl, k _ H' x h1 e1 rfl⟩
    | 1, _ => exact ⟨p, _, 1, .int y, rfl, rfl, .inl (.inl ho), atI_nat (j := 1) rfl, k _ H' y h2 e1 rfl⟩
    | 2, _ => exact ⟨p, _, 2, .int z, rfl, rfl, .inl (.inl ho), atI_nat (j := 2) rfl, k _ H' z h3 e1 rfl⟩
end
section
variable {K : PySem.W.Frag} {Δ0 : Gh} {H0 : Hp} {Γ : Own} {F : List (V × Cell)} {ρ : Env} {ta tb te : TE} {tz : TS} {D : Ends} {α : Type} [Rp α]
/-- dice[i] = n -/
theorem wp_dice {p : Addr} {i : Nat} (hp : (p, DiceI) ∈ Γ) (hi : i < 3) (h : Ev K Γ te ρ (fun n : Int => 0 ≤ n)) (ho : Ev K Γ ta ρ (Is (⟨p⟩ : Loc))) (k : Wp K Δ0 H0 Γ F ρ tz D) : Wp K Δ0 H0 Γ F ρ (tSeq (tAsg te (gSub ta (tC (.int (i : Int))) rSetL)) tz) D := fun σ H ⟨Δ, s, hh, e, f, e0, s1, s2⟩ =>
  h Δ σ H _ s hh e fun v H1 n hn e1 r1 => ho Δ σ H1 _ s e1.2 (e.mono e1.1) fun w H2 a pa e2 r2 => by
    have ea : a = ⟨p⟩ := pa
    subst ea
    have ew : w = .ref p := r2
    subst ew
    have ev : v = .int n := r1
    subst ev
    have hΔ : Δ p = some DiceI := s _ hp
    obtain ⟨o, ho, x, y, z, rfl, h1, h2, h3⟩ := e2.2 p DiceI hΔ
    have fin : ∀ x' y' z' : Int, 0 ≤ x' → 0 ≤ y' → 0 ≤ z' → tz D σ (upd H2 p (.lst [.int x', .int y', .int z'])) := fun x' y' z' g1 g2 g3 => by
      have e3 : Ext Δ H2 (upd H2 p (.lst [.int x', .int y', .int z'])) := ⟨fun a o n q => by
          have hne : a ≠ p := fun z => by
            rw [z, hΔ] at n
            cases n
          rw [upd_ne hne]
          exact q, fun a I q => by
          by_cases ha : a = p
          · rw [ha, hΔ] at q
            cases q
            exact ⟨_, by rw [ha]; exact upd_same, x', y', z', rfl, g1, g2, g3⟩
          · obtain ⟨u, hu, iu⟩ := e2.2 a I q
            exact ⟨u, by rw [upd_ne ha]; exact hu, iu⟩⟩
      have e4 := e1.trans (e2.trans e3)
      exact k σ _ ⟨Δ, s, e4.2, e.mono e4.1, fun q hq => q.2.r.mono e4.1 (f q hq), ext0 e0 s1 s2 e4, s1, s2⟩
    match i, hi with
    | 0, _ => exact ⟨p, _, 0, 0, rfl, rfl, ho, rfl, fin n y z hn h2 h3⟩
    | 1, _ => exact ⟨p, _, 1, 1, rfl, rfl, ho, rfl, fin x n z h1 hn h3⟩
    | 2, _ => exact ⟨p, _, 2, 2, rfl, rfl, ho, rfl, fin x y n h1 h2 hn⟩
end
end Z
namespace Z
open PySem PySem.Spec PyProof.Rows L2
theorem ltr {a b : Nat} (h : Nat.blt a b = true) : a < b := Nat.le_of_ble_eq_true h
theorem tx1 {a b : Nat} : ((⟨[a]⟩ : Tx) = ⟨[b]⟩) ↔ a = b := by simp
section
variable {K : PySem.W.Frag} {Γ : Own} {ρ : Env}
theorem ev_strc {x : Str} (l : List Nat) (h : x.cps.toList = l := by decide +kernel) : Ev K Γ (tC (.str x)) ρ (Is (⟨l⟩ : Tx)) := by
  subst h
  exact ev_str
end
end Z
namespace Z
open PySem PySem.Spec PyProof.Rows L2
section
variable {K : PySem.W.Frag} {Δ0 : Gh} {H0 : Hp} {Γ : Own} {F : List (V × Cell)} {ρ : Z.Env} {ta tb te : TE} {D : Ends}
/-- the end of a def that hands back nothing -/
theorem wp_none {P : Unit → Prop} (hp : P ()) (hn : ∀ b : Unit, P b → (∀ H', Rp.rp K Δ0 H' .non b) → ∀ σ H', Ext Δ0 H0 H' → D.nx σ H') : Wp K Δ0 H0 Γ F ρ tNext D := fun σ H ⟨Δ, s, hh, e, f, e0, s1, s2⟩ => hn () hp (fun _ => rfl) σ H e0
theorem ev_stripEq {x : Tx} {z : Str} (hz0 : z = "+-0" := by rfl) {y : Str} (hy : y.cps.toList = [] := by decide +kernel) (h : Ev K Γ ta ρ (Is x)) (hz : x.s.length ≤ 100000) :
    Ev K Γ (tOp rEq (tM1 (fun x xs H Q => ∃ a b, x = .str a ∧ xs = [.str b] ∧ a.length ≤ sizeLine ∧ Q (.str (PySem.Txt.stripChars a b)) H) ta (tC (.str z))) (tC (.str y))) ρ (Is (x.s.all isSign)) :=
  ev_op (ev_strip hz0 h hz) (ev_strc [] hy) fun a b pa pb => by
    rw [show b = _ from pb]
    have e : decide (a = (⟨[]⟩ : Tx)) = x.s.all isSign := by
      have q : (a = (⟨[]⟩ : Tx)) ↔ x.s.all isSign = true := by
        rw [← pa]
        constructor
        · intro q; rw [q]
        · intro q; cases a; exact congrArg Tx.mk q
      by_cases hq : x.s.all isSign = true
      · rw [hq, decide_eq_true (q.mpr hq)]
      · rw [decide_eq_false (fun z => hq (q.mp z))]
        simpa using hq
    rw [← e]
    exact o2_eqS
/-- a def's answer by its default arguments -/
theorem dv_non : ∀ Δ H, ArgsOk K Δ H [V.non] [⟨()⟩] := fun _ _ => ⟨rfl, trivial⟩
end
end Z

set_option Elab.async false
set_option linter.all false
set_option maxRecDepth 100000
set_option maxHeartbeats 1000000
/-! the same rules with the written part as a letter, for blocks -/
namespace Z
open PySem PySem.Spec PyProof.Rows L2
section
variable {X : Cx} {K : PySem.W.Frag}
theorem op_inK (h : X.K = K := by rfl) : OpR X (compareOp .In) (rIn K false) := by subst h; exact op_in_seq
theorem op_notInK (h : X.K = K := by rfl) : OpR X (compareOp .NotIn) (rIn K true) := by subst h; exact op_notIn_seq
theorem ix_listK (h : X.K = K := by rfl) : IxR X (rIxL K) := by subst h; exact ix_list
theorem ix_tupK (h : X.K = K := by rfl) : IxR X (rIxT K) := by subst h; exact ix_tup
theorem call_lenK (h : X.K = K := by rfl) : CallR X (.builtin "len") (fun xs H Q => ∃ x n, xs = [x] ∧ LenV K x H n ∧ Q (.int n) H) := by subst h; exact call_len
theorem call_isK (h : X.K = K := by rfl) : CallR X (.builtin "isinstance") (rIsi K) := by subst h; exact call_isi
theorem call_tupK (h : X.K = K := by rfl) : CallR X (.type "tuple") (fun xs H Q => ∃ p ys, xs = [.ref p] ∧ ((SqL K H p ys ∧ ∀ l, H l = none → Q (.ref l) (upd H l (.tup ys))) ∨ (SqT K H p ys ∧ Q (.ref p) H))) := by subst h; exact call_tuple_of
theorem call_lstK (h : X.K = K := by rfl) : CallR X (.type "list") (fun xs H Q => ∃ p ys, xs = [.ref p] ∧ (SqL K H p ys ∨ SqT K H p ys) ∧ ∀ l, H l = none → Q (.ref l) (upd H l (.lst ys))) := by subst h; exact call_list_of
theorem cr_allK (hc : X.calm = true) (h : X.K = K := by rfl) : CallR X (.builtin "all") (rAll K) := by subst h; exact cr_all hc
theorem op_eqK (hu : X.A.units + 64 < cLine) (h : X.K = K := by rfl) : OpR X (compareOp .Eq) (rEqD K) := by subst h; exact op_eqD hu
theorem op_neK (hu : X.A.units + 64 < cLine) (h : X.K = K := by rfl) : OpR X (compareOp .NotEq) (rNeD K) := by subst h; exact op_neD hu
variable {o e : Expr} {to te : TE} {tg : Expr}
theorem pe_joinK {apos pos : Pos} (ho : PE X o to) (he : PE X e te) (h : X.K = K := by rfl) (hs : starEach [e] X.env = [(false, eval e X.env)] := by rfl) (hbase : attributeBase o "join" X.env (eval o X.env) = eval o X.env := by rfl) (hline : (apos.endLine == pos.line) = true := by rfl) :
    PE X (.Call (.Attribute o "join" apos) [e] [] pos) (tM1 (rJoin K) to te) := by subst h; exact pe_join ho he hs hbase hline
theorem pi_listK {l : Expr} {tl : TE} (hl : PE X l tl) (h : X.K = K := by rfl) : PI X tg l (iList K tl) := by subst h; exact pi_list hl
theorem pi_tupK {l : Expr} {tl : TE} (hl : PE X l tl) (h : X.K = K := by rfl) : PI X tg l (iTup K tl) := by subst h; exact pi_tup hl
end
end Z

set_option Elab.async false
set_option linter.all false
set_option maxRecDepth 100000
set_option maxHeartbeats 1000000
/-! lists of a def's own that it changes -/
namespace Z
open PySem PySem.Spec PyProof.Rows L2
section
variable {K : PySem.W.Frag} {Δ0 : Gh} {H0 : Hp} {Γ : Own} {F : List (V × Cell)} {ρ : Z.Env} {ta tb te : TE} {tz : TS} {D : Ends}
structure OwnP (Δ0 : Gh) (Γ : Own) (p : Addr) : Prop where
  n0 : Δ0 p = none
  ne : ∀ q ∈ Γ, q.1 ≠ p
theorem ghD_self {Δ : Gh} {D : Addr} {vs : List V} : ghD Δ D vs D = some (LstIs vs) := by
  show (if D = D then _ else _) = _
  rw [if_pos rfl]
  rfl
theorem ghD_other {Δ : Gh} {D x : Addr} {vs : List V} (h : x ≠ D) : ghD Δ D vs x = Δ x := by
  show (if x = D then _ else _) = _
  rw [if_neg h]
theorem own_new {Δ : Gh} {σ : L2.St} {H : Hp} {p : Addr} {vs : List V} (s : Sat Γ Δ) (hh : Hold Δ H) (e : EnvOk K Δ σ H ρ) (f : ∀ f ∈ F, f.2.rp K Δ H f.1) (e0 : Ext Δ0 H0 H) (s1 : ∀ x I, Δ0 x = some I → Δ x = some I) (s2 : ∀ x, Δ0 x = none → Δ x ≠ none → H0 x = none) (hp : H p = none) :
    OwnP Δ0 Γ p ∧ Stt K Δ0 H0 ((p, LstIs vs) :: Γ) F ρ σ (upd H p (.lst vs)) := by
  have nD : Δ p = none := hh.fresh hp
  have n0 : Δ0 p = none := none0 s1 nD
  have ne : ∀ q ∈ Γ, q.1 ≠ p := fun q hq z => by
    have h := s q hq
    rw [z, nD] at h
    cases h
  have kp : Keep (ghD Δ p vs) H (upd H p (.lst vs)) := fun a o _ q => by rw [upd_ne (ne_of_none q hp)]; exact q
  refine ⟨⟨n0, ne⟩, ghD Δ p vs, fun q hq => ?_, (gh_first hh hp).1, (e.weak (ghD_new hp)).mono kp, fun q hq => q.2.r.mono kp (q.2.r.weak (ghD_new hp) (f q hq)), ext0 e0 s1 s2 (Ext.new hh hp _), fun x I q => ?_, fun x n m => ?_⟩
  · rcases List.mem_cons.mp hq with z | z
    · rw [z]; exact ghD_self
    · rw [ghD_other (ne q z)]; exact s q z
  · have hne : x ≠ p := fun z => by
      rw [z, n0] at q
      cases q
    rw [ghD_other hne]
    exact s1 x I q
  · by_cases hx : x = p
    · subst hx
      cases q : H0 x with
      | none => rfl
      | some o =>
        have := e0.1 x o n0 q
        rw [hp] at this
        cases this
    · rw [ghD_other hx] at m
      exact s2 x n m
theorem own_put {σ : L2.St} {H : Hp} {p : Addr} {vs ws : List V} (o : OwnP Δ0 Γ p) (st : Stt K Δ0 H0 ((p, LstIs vs) :: Γ) F ρ σ H) : H p = some (.lst vs) ∧ Stt K Δ0 H0 ((p, LstIs ws) :: Γ) F ρ σ (upd H p (.lst ws)) := by
  obtain ⟨Δ, s, hh, e, f, e0, s1, s2⟩ := st
  have hΔ : Δ p = some (LstIs vs) := s (p, LstIs vs) List.mem_cons_self
  obtain ⟨u, hu, iu⟩ := hh p _ hΔ
  have iu' : u = HO.lst vs := iu
  subst iu'
  have kp : Keep Δ H (upd H p (.lst ws)) := fun a o n q => by
    have hne : a ≠ p := fun z => by
      rw [z, hΔ] at n
      cases n
    rw [upd_ne hne]
    exact q
  have wk : ∀ {H : Hp} x o, H x = some o → Δ x = none → ghD Δ p ws x = none := fun x o _ n => by
    have hne : x ≠ p := fun z => by
      rw [z, hΔ] at n
      cases n
    rw [ghD_other hne]
    exact n
  refine ⟨hu, ghD Δ p ws, fun q hq => ?_, fun a I q => ?_, (e.mono kp).weak wk, fun q hq => q.2.r.weak wk (q.2.r.mono kp (f q hq)), ⟨fun a o' n q => ?_, fun a I q => ?_⟩, fun x I q => ?_, fun x n m => ?_⟩
  · rcases List.mem_cons.mp hq with z | z
    · rw [z]; exact ghD_self
    · rw [ghD_other (o.ne q z)]; exact s q (List.mem_cons_of_mem _ z)
  · by_cases ha : a = p
    · subst ha
      rw [ghD_self] at q
      cases q
      exact ⟨_, upd_same, rfl⟩
    · rw [ghD_other ha] at q
      obtain ⟨u, hu, iu⟩ := hh a I q
      exact ⟨u, by rw [upd_ne ha]; exact hu, iu⟩
  · have h1 := e0.1 a o' n q
    have hne : a ≠ p := fun z => by
      subst z
      have := s2 a n (by rw [hΔ]; exact fun z => by cases z)
      rw [q] at this
      cases this
    rw [upd_ne hne]
    exact h1
  · have hne : a ≠ p := fun z => by
      rw [z, o.n0] at q
      cases q
    obtain ⟨u, hu, iu⟩ := e0.2 a I q
    exact ⟨u, by rw [upd_ne hne]; exact hu, iu⟩
  · have hne : x ≠ p := fun z => by
      rw [z, o.n0] at q
      cases q
    rw [ghD_other hne]
    exact s1 x I q
  · by_cases hx : x = p
    · subst hx
      exact s2 x n (by rw [hΔ]; exact fun z => by cases z)
    · rw [ghD_other hx] at m
      exact s2 x n m
theorem rep_flat {α : Type} {x : α} : ∀ m : Nat, (List.replicate m [x]).flatten = List.replicate m x
  | 0 => rfl
  | m + 1 => by
    rw [List.replicate_succ, List.flatten_cons, List.replicate_succ, rep_flat m]
    rfl
/-- name = [one text] * n -/
theorem wp_rep {i : Nat} {z : Str} {m : Nat} (hb : Ev K Γ tb ρ (Is (m : Int))) (hm : m ≤ 10000) (hi : i < ρ.length) (k : ∀ p, OwnP Δ0 Γ p → Wp K Δ0 H0 ((p, LstIs (List.replicate m (V.str z))) :: Γ) F (ρ.set i (some ⟨(⟨p⟩ : Loc)⟩)) tz D) :
    Wp K Δ0 H0 Γ F ρ (tSeq (tAsg (tOp rRep (tLst (tCons (tC (.str z)) tNil)) tb) (gName i)) tz) D := fun σ H ⟨Δ, s, hh, e, f, e0, s1, s2⟩ => by
  refine ⟨by show 1 ≤ sizeLine; decide, fun q hq => ?_⟩
  have e1 : Ext Δ H (upd H q (.lst [.str z])) := Ext.new hh hq _
  refine hb Δ σ _ _ s e1.2 (e.mono e1.1) fun v H2 a pa e2 r => ?_
  have ea : a = (m : Int) := pa
  subst ea
  have ev : v = .int m := r
  subst ev
  have hq2 : H2 q = some (.lst [.str z]) := e2.1 q _ (hh.fresh hq) upd_same
  refine ⟨q, m, _, rfl, rfl, hq2, by omega, by omega, ?_, fun p hp => ?_⟩
  · have h1 : ([V.str z] : List V).length * ((m : Int)).toNat = m := by rw [Int.toNat_natCast]; show 1 * m = m; omega
    rw [h1]
    exact Nat.le_trans hm (by decide)
  · have hf : (List.replicate ((m : Int)).toNat [V.str z]).flatten = List.replicate m (V.str z) := by rw [Int.toNat_natCast, rep_flat]
    rw [hf]
    have e3 := e1.trans e2
    obtain ⟨o, st⟩ := own_new (vs := List.replicate m (V.str z)) s e3.2 (e.mono e3.1) (fun q hq => q.2.r.mono e3.1 (f q hq)) (ext0 e0 s1 s2 e3) s1 s2 hp
    obtain ⟨Δ', s', hh', e', f', e0', s1', s2'⟩ := st
    exact k p o _ _ ⟨Δ', s', hh', e'.set (c := ⟨(⟨p⟩ : Loc)⟩) hi rfl, f', e0', s1', s2'⟩
/-- name[j] = e, the list one's own -/
theorem wp_put {p : Addr} {vs : List V} {j : Nat} {x : Tx} (o : OwnP Δ0 Γ p) (h : Ev K ((p, LstIs vs) :: Γ) te ρ (Is x)) (ha : Ev K ((p, LstIs vs) :: Γ) ta ρ (Is (⟨p⟩ : Loc))) (hb : Ev K ((p, LstIs vs) :: Γ) tb ρ (Is (j : Int))) (hj : j < vs.length)
    (k : Wp K Δ0 H0 ((p, LstIs (vs.set j (.str ⟨x.s.toArray⟩))) :: Γ) F ρ tNext D) : Wp K Δ0 H0 ((p, LstIs vs) :: Γ) F ρ (tAsg te (gSub ta tb rSetL)) D := fun σ H ⟨Δ, s, hh, e, f, e0, s1, s2⟩ =>
  h Δ σ H _ s hh e fun v H1 a pa e1 r1 => ha Δ σ H1 _ s e1.2 (e.mono e1.1) fun w H2 b pb e2 r2 => hb Δ σ H2 _ s e2.2 (e.mono (e1.trans e2).1) fun u H3 c pc e3 r3 => by
    have ea : a = x := pa
    have eb : b = ⟨p⟩ := pb
    have ec : c = (j : Int) := pc
    subst ea eb ec
    have ev : v = .str ⟨a.s.toArray⟩ := r1
    have ew : w = .ref p := r2
    have eu : u = .int j := r3
    subst ev ew eu
    have e4 := e1.trans (e2.trans e3)
    have st : Stt K Δ0 H0 ((p, LstIs vs) :: Γ) F ρ σ H3 := ⟨Δ, s, e4.2, e.mono e4.1, fun q hq => q.2.r.mono e4.1 (f q hq), ext0 e0 s1 s2 e4, s1, s2⟩
    obtain ⟨hp, st'⟩ := own_put (ws := vs.set j (.str ⟨a.s.toArray⟩)) o st
    exact ⟨p, vs, j, j, rfl, rfl, hp, Evl.ixN_nat hj, k σ _ st'⟩
/-- "".join of one's own list -/
theorem ev_joinO {p : Addr} {xs : List Tx} {z : Str} (ha : Ev K ((p, LstIs ((xs.map fun x => (⟨x.s.toArray⟩ : Str)).map V.str)) :: Γ) ta ρ (Is (⟨p⟩ : Loc))) (hz : ((xs.map (·.s)).flatten).length ≤ 100000) (hz0 : z = "" := by rfl) :
    Ev K ((p, LstIs ((xs.map fun x => (⟨x.s.toArray⟩ : Str)).map V.str)) :: Γ) (tM1 (rJoin K) (tC (.str z)) ta) ρ (Is (⟨(xs.map (·.s)).flatten⟩ : Tx)) := by
  subst hz0
  exact fun Δ σ H Q s hh e k => ⟨⟨_, rfl⟩, ha Δ σ H _ s hh e fun v H' a pa e1 r => by
    have ea : a = ⟨p⟩ := pa
    subst ea
    have ev : v = .ref p := r
    subst ev
    obtain ⟨u, hu, iu⟩ := e1.2 p _ (s _ List.mem_cons_self)
    have iu' : u = HO.lst _ := iu
    subst iu'
    refine ⟨Str.empty, p, _, rfl, rfl, .inl (.inl (.inl hu)), ?_, k _ H' _ rfl e1 (by show V.str _ = V.str _; rw [join_tx])⟩
    rw [sum_len]
    have e0 : Str.empty.length = 0 := rfl
    rw [e0]
    omega⟩
end
end Z

set_option Elab.async false
set_option linter.all false
set_option maxRecDepth 100000
set_option maxHeartbeats 1000000
/-! == of data, further statements -/
namespace Z
open PySem PySem.Spec PyProof.Rows L2
section
variable {α β : Type} [Rp α] [Rp β]
instance : Rp (α ⊕ β) where
  rp K Δ H v x := match x with
    | .inl a => Rp.rp K Δ H v a
    | .inr b => Rp.rp K Δ H v b
  mono {K Δ H H' v x} k h := match x, h with
    | .inl a, h => Rp.mono (a := a) k h
    | .inr b, h => Rp.mono (a := b) k h
  weak {K Δ Δ' H v x} w h := match x, h with
    | .inl a, h => Rp.weak (a := a) w h
    | .inr b, h => Rp.weak (a := b) w h
/-- a datum as the library tells it -/
class Dt (α : Type) [Rp α] where
  d : α → PyData
  ok : ∀ {K : PySem.W.Frag} {Δ : Gh} {H : Hp} {v : V} {a : α}, Rp.rp K Δ H v a → Dp K H v (d a)
instance : Dt Int := ⟨fun i => .int i, fun {K Δ H v a} h => by rw [show v = .int a from h]; exact .int a⟩
instance : Dt Bool := ⟨fun i => .bool i, fun {K Δ H v a} h => by rw [show v = .bl a from h]; exact .bl a⟩
instance : Dt Tx := ⟨fun x => .str ⟨x.s.toArray⟩, fun {K Δ H v a} h => by rw [show v = .str ⟨a.s.toArray⟩ from h]; exact .str _⟩
instance : Dt Unit := ⟨fun _ => .none, fun {K Δ H v a} h => by rw [show v = .non from h]; exact .non⟩
theorem dall {K : PySem.W.Frag} {Δ : Gh} {H : Hp} [Dt α] : ∀ {vs : List V} {xs : List α}, All2 (fun u a => Rp.rp K Δ H u a) vs xs → DpAll K H vs (xs.map Dt.d)
  | [], [], _ => .nil
  | [], _ :: _, q => q.elim
  | _ :: _, [], q => q.elim
  | v :: vs, x :: xs, q => .cons (Dt.ok q.1) (dall q.2)
instance [Dt α] : Dt (List α) := ⟨fun xs => .list (xs.map Dt.d), fun {K Δ H v a} h => by
  obtain ⟨p, vs, rfl, n, s, q⟩ := h
  exact .lst s (dall q)⟩
instance [Dt α] : Dt (Tup α) := ⟨fun xs => .tuple (xs.l.map Dt.d), fun {K Δ H v a} h => by
  obtain ⟨p, vs, rfl, n, s, q⟩ := h
  exact .tup s (dall q)⟩
instance [Dt α] [Dt β] : Dt (α × β) := ⟨fun x => .tuple [Dt.d x.1, Dt.d x.2], fun {K Δ H v a} h => by
  obtain ⟨p, a, b, rfl, n, s, q, r⟩ := h
  exact .tup s (.cons (Dt.ok q) (.cons (Dt.ok r) .nil))⟩
instance [Dt α] [Dt β] : Dt (α ⊕ β) := ⟨fun x => match x with
  | .inl a => Dt.d a
  | .inr b => Dt.d b, fun {K Δ H v x} h => match x, h with
  | .inl a, h => Dt.ok (a := a) h
  | .inr b, h => Dt.ok (a := b) h⟩
variable {K : PySem.W.Frag} {Γ : Own} {ρ : Z.Env} {ta tb te : TE}
theorem o2_eqD [Dt α] [Dt β] {x : α} {y : β} (hx : SeqAt.shaped (Dt.d x) = true) (hy : SeqAt.shaped (Dt.d y) = true) : Op2 K (rEqD K) x y (Is (PyData.eqv (Dt.d x) (Dt.d y))) := fun Δ H v w Q hh r1 r2 k =>
  ⟨_, _, Dt.ok r1, Dt.ok r2, hx, hy, k _ H _ rfl (Ext.refl hh) rfl⟩
theorem o2_neD [Dt α] [Dt β] {x : α} {y : β} (hx : SeqAt.shaped (Dt.d x) = true) (hy : SeqAt.shaped (Dt.d y) = true) : Op2 K (rNeD K) x y (Is (!PyData.eqv (Dt.d x) (Dt.d y))) := fun Δ H v w Q hh r1 r2 k =>
  ⟨_, _, Dt.ok r1, Dt.ok r2, hx, hy, k _ H _ rfl (Ext.refl hh) rfl⟩
theorem eqv_ints : ∀ xs ys : List Int, PyData.eqvAll (xs.map Dt.d) (ys.map Dt.d) = decide (xs = ys)
  | [], [] => by simp [PyData.eqvAll]
  | [], _ :: _ => by simp [PyData.eqvAll]
  | _ :: _, [] => by simp [PyData.eqvAll]
  | x :: xs, y :: ys => by
    have ih := eqv_ints xs ys
    rw [List.map_cons, List.map_cons, PyData.eqvAll, ih]
    show ((x == y) && _) = _
    by_cases h : x = y <;> simp [h]
theorem eqv_bls : ∀ xs ys : List Bool, PyData.eqvAll (xs.map Dt.d) (ys.map Dt.d) = decide (xs = ys)
  | [], [] => by simp [PyData.eqvAll]
  | [], _ :: _ => by simp [PyData.eqvAll]
  | _ :: _, [] => by simp [PyData.eqvAll]
  | x :: xs, y :: ys => by
    have ih := eqv_bls xs ys
    rw [List.map_cons, List.map_cons, PyData.eqvAll, ih]
    show ((x == y) && _) = _
    by_cases h : x = y <;> simp [h]
theorem lay_ints : ∀ xs : List Int, PyData.canLayAll0 (xs.map Dt.d) = true ∧ PyData.depthAll (xs.map Dt.d) = 0
  | [] => by simp [PyData.canLayAll0, PyData.depthAll]
  | x :: xs => by
    have ih := lay_ints xs
    rw [List.map_cons, PyData.canLayAll0, PyData.depthAll, ih.1, ih.2]
    exact ⟨rfl, rfl⟩
theorem lay_bls : ∀ xs : List Bool, PyData.canLayAll0 (xs.map Dt.d) = true ∧ PyData.depthAll (xs.map Dt.d) = 0
  | [] => by simp [PyData.canLayAll0, PyData.depthAll]
  | x :: xs => by
    have ih := lay_bls xs
    rw [List.map_cons, PyData.canLayAll0, PyData.depthAll, ih.1, ih.2]
    exact ⟨rfl, rfl⟩
theorem shaped_tI {xs : Tup Int} : SeqAt.shaped (Dt.d xs) = true := by
  unfold SeqAt.shaped
  show (PyData.canLay0 (.tuple _) && decide (PyData.depth (.tuple _) ≤ 64)) = true
  rw [PyData.canLay0, PyData.depth, (lay_ints xs.l).1, (lay_ints xs.l).2]
  rfl
theorem shaped_lI {xs : List Int} : SeqAt.shaped (Dt.d xs) = true := by
  unfold SeqAt.shaped
  show (PyData.canLay0 (.list _) && decide (PyData.depth (.list _) ≤ 64)) = true
  rw [PyData.canLay0, PyData.depth, (lay_ints xs).1, (lay_ints xs).2]
  rfl
theorem shaped_lB {xs : List Bool} : SeqAt.shaped (Dt.d xs) = true := by
  unfold SeqAt.shaped
  show (PyData.canLay0 (.list _) && decide (PyData.depth (.list _) ≤ 64)) = true
  rw [PyData.canLay0, PyData.depth, (lay_bls xs).1, (lay_bls xs).2]
  rfl
theorem o2_eqT {x y : Tup Int} : Op2 K (rEqD K) x y (Is (decide (x.l = y.l))) := by
  rw [← eqv_ints x.l y.l]
  exact o2_eqD shaped_tI shaped_tI
theorem o2_neT {x y : Tup Int} : Op2 K (rNeD K) x y (Is (!decide (x.l = y.l))) := by
  rw [← eqv_ints x.l y.l]
  exact o2_neD shaped_tI shaped_tI
theorem o2_eqLI {x y : List Int} : Op2 K (rEqD K) x y (Is (decide (x = y))) := by
  rw [← eqv_ints x y]
  exact o2_eqD shaped_lI shaped_lI
theorem o2_eqLB {x y : List Bool} : Op2 K (rEqD K) x y (Is (decide (x = y))) := by
  rw [← eqv_bls x y]
  exact o2_eqD shaped_lB shaped_lB
theorem ev_inl {x : α} (h : Ev K Γ te ρ (Is x)) : Ev K Γ te ρ (Is (.inl x : α ⊕ β)) := fun Δ σ H Q s hh e k => h Δ σ H Q s hh e fun v H' a pa e1 r => k v H' (.inl a) (by rw [show a = x from pa]; rfl) e1 r
theorem ev_inr {x : β} (h : Ev K Γ te ρ (Is x)) : Ev K Γ te ρ (Is (.inr x : α ⊕ β)) := fun Δ σ H Q s hh e k => h Δ σ H Q s hh e fun v H' a pa e1 r => k v H' (.inr a) (by rw [show a = x from pa]; rfl) e1 r
/-- an operation on drawn data -/
theorem ev_opP {γ : Type} [Rp γ] {r : R2} {Pa : α → Prop} {Pb : β → Prop} {Pc : γ → Prop} (ha : Ev K Γ ta ρ Pa) (hb : Ev K Γ tb ρ Pb) (h : ∀ x y, Pa x → Pb y → ∃ z, Op2 K r x y (Is z) ∧ Pc z) : Ev K Γ (tOp r ta tb) ρ Pc :=
  ev_op ha hb fun x y px py => by
    obtain ⟨z, hz, pz⟩ := h x y px py
    exact fun Δ H v w Q hh r1 r2 k => hz Δ H v w Q hh r1 r2 fun u H' c pc e1 rr => k u H' c (by rw [show c = z from pc]; exact pz) e1 rr
theorem ev_cbP {γ : Type} [Rp γ] {r : List V → Hp → VK → Prop} {Pa : α → Prop} {Pc : γ → Prop} (ha : Ev K Γ ta ρ Pa) (h : ∀ x, Pa x → ∃ z, Op1 K r x (Is z) ∧ Pc z) : Ev K Γ (tCB r (tCons ta tNil)) ρ Pc :=
  ev_cb1 ha fun x px => by
    obtain ⟨z, hz, pz⟩ := h x px
    exact fun Δ H v Q hh r1 k => hz Δ H v Q hh r1 fun u H' c pc e1 rr => k u H' c (by rw [show c = z from pc]; exact pz) e1 rr
theorem et_eqP {Pa : Int → Prop} {n : Int} {tb : TE} (ha : Ev K Γ ta ρ Pa) (hb : Ev K Γ tb ρ (Is n)) : EvT K Γ (tTest (tOp rEq ta tb)) ρ (fun _ => True) := et_test (ev_opP ha hb fun x y _ _ => ⟨decide (x = y), o2_eqI, trivial⟩)
/-- max(0, x) -/
theorem ev_max2 {i j : Int} (ha : Ev K Γ ta ρ (Is i)) (hb : Ev K Γ tb ρ (Is j)) : Ev K Γ (tCB (fun xs H Q => ∃ i j, xs = [.int i, .int j] ∧ Q (.int (if j > i then j else i)) H) (tCons ta (tCons tb tNil))) ρ (Is (if j > i then j else i)) := fun Δ σ H Q s hh e k =>
  ha Δ σ H _ s hh e fun v H1 a pa e1 r1 => hb Δ σ H1 _ s e1.2 (e.mono e1.1) fun w H2 b pb e2 r2 => by
    have ea : a = i := pa
    have eb : b = j := pb
    subst ea eb
    have ev : v = .int a := r1
    have ew : w = .int b := r2
    subst ev ew
    exact ⟨a, b, rfl, k _ H2 _ rfl (e1.trans e2) rfl⟩
theorem ev_min2 {i j : Int} (ha : Ev K Γ ta ρ (Is i)) (hb : Ev K Γ tb ρ (Is j)) : Ev K Γ (tCB (fun xs H Q => ∃ i j, xs = [.int i, .int j] ∧ Q (.int (if j < i then j else i)) H) (tCons ta (tCons tb tNil))) ρ (Is (if j < i then j else i)) := fun Δ σ H Q s hh e k =>
  ha Δ σ H _ s hh e fun v H1 a pa e1 r1 => hb Δ σ H1 _ s e1.2 (e.mono e1.1) fun w H2 b pb e2 r2 => by
    have ea : a = i := pa
    have eb : b = j := pb
    subst ea eb
    have ev : v = .int a := r1
    have ew : w = .int b := r2
    subst ev ew
    exact ⟨a, b, rfl, k _ H2 _ rfl (e1.trans e2) rfl⟩
end
section
variable {K : PySem.W.Frag} {Δ0 : Gh} {H0 : Hp} {Γ : Own} {F : List (V × Cell)} {ρ : Z.Env} {ta tb te : TE} {tz : TS} {D : Ends} {α : Type} [Rp α]
/-- a, b, c = a list of three -/
theorem wp_unl3 {i j l : Nat} {P : List α → Prop} (h : Ev K Γ te ρ P) (hi : i < ρ.length) (hj : j < ρ.length) (hl : l < ρ.length) (k : ∀ xs, P xs → ∃ a b c, xs = [a, b, c] ∧ Wp K Δ0 H0 Γ F (((ρ.set i (some ⟨a⟩)).set j (some ⟨b⟩)).set l (some ⟨c⟩)) tz D) :
    Wp K Δ0 H0 Γ F ρ (tSeq (tAsg te (gUnl K 3 (gCons (gName i) (gCons (gName j) (gCons (gName l) gNil))))) tz) D := fun σ H ⟨Δ, s, hh, e, f, e0, s1, s2⟩ =>
  h Δ σ H _ s hh e fun v H' xs pxs e1 r => by
    obtain ⟨a, b, c, rfl, kk⟩ := k xs pxs
    obtain ⟨p, vs, rfl, n, sq, q⟩ := r
    match vs, q with
    | [va, vb, vc], q =>
      exact ⟨p, _, rfl, sq, rfl, va, [vb, vc], rfl, vb, [vc], rfl, vc, [], rfl, rfl, kk _ H' ⟨Δ, s, e1.2, (((e.mono e1.1).set (c := ⟨a⟩) hi q.1).set (c := ⟨b⟩) (by rw [List.length_set]; exact hj) q.2.1).set (c := ⟨c⟩) (by rw [List.length_set, List.length_set]; exact hl) q.2.2.1, fun q hq => q.2.r.mono e1.1 (f q hq), ext0 e0 s1 s2 e1, s1, s2⟩⟩
end
end Z

set_option Elab.async false
set_option linter.all false
set_option maxRecDepth 100000
set_option maxHeartbeats 1000000
namespace Z
open PySem PySem.Spec PyProof.Rows L2
section
variable {K : PySem.W.Frag} {Δ0 : Gh} {H0 : Hp} {Γ : Own} {F : List (V × Cell)} {ρ : Z.Env} {ta tb te : TE} {tz : TS} {D : Ends}
/-- i, j = a, b with the pair made -/
theorem wp_tup2 {i j : Nat} {ta : TA} {Q : List Cell → Prop} (h : EvA K Γ ta ρ Q) (hi : i < ρ.length) (hj : j < ρ.length) (k : ∀ cs, Q cs → ∃ c d : Cell, cs = [c, d] ∧ Wp K Δ0 H0 Γ F ((ρ.set i (some c)).set j (some d)) tz D) : Wp K Δ0 H0 Γ F ρ (tSeq (tAsg (tTup ta) (gTup K 2 (gCons (gName i) (gCons (gName j) gNil)))) tz) D := fun σ H ⟨Δ, s, hh, e, f, e0, s1, s2⟩ =>
  h Δ σ H _ s hh e fun vs H' cs pcs e1 r => by
    obtain ⟨c, d, rfl, kk⟩ := k cs pcs
    match vs, r with
    | [v, w], r =>
      refine ⟨by show 2 ≤ sizeLine; decide, fun p hp => ?_⟩
      have e2 := Ext.new e1.2 hp (.tup [v, w])
      have e3 := e1.trans e2
      exact ⟨p, [v, w], rfl, .inl (.inl upd_same), rfl, v, [w], rfl, w, [], rfl, rfl, kk _ _ ⟨Δ, s, e3.2, ((e.mono e3.1).set hi (c.r.mono e2.1 r.1)).set (by rw [List.length_set]; exact hj) (d.r.mono e2.1 r.2.1), fun q hq => q.2.r.mono e3.1 (f q hq), ext0 e0 s1 s2 e3, s1, s2⟩⟩
theorem ev_callW {β : Type} [Rp β] {Pb : β → Prop} {F : Own → List Cell → (β → Prop) → Prop} {E : XK} {ta : TA} {Pcs : List Cell → Prop} (ha : EvA K Γ ta ρ Pcs) (hf : ∀ cs, Pcs cs → ∃ R, F Γ cs R ∧ ∀ b, R b → Pb b) : Ev K Γ (tCall (spD K F) [] E ta) ρ Pb := fun Δ σ H Q s hh e k =>
  ha Δ σ H _ s hh e fun vs H' cs pcs e1 r => by
    obtain ⟨R, h1, h2⟩ := hf cs pcs
    exact ⟨Γ, Δ, cs, R, h1, s, e1.2, by rw [List.append_nil]; exact r, fun v H2 b pb e2 r2 => k v H2 b (h2 b pb) (e1.trans e2) r2⟩
end
end Z

set_option Elab.async false
set_option linter.all false
set_option maxRecDepth 100000
set_option maxHeartbeats 1000000
namespace Z
open PySem PySem.Spec PyProof.Rows L2
/-! ### a def that hands back a new object, which its caller then owns -/
/-- what such a def promises -/
def spF (K : PySem.W.Frag) (G : Own → List Cell → Prop) (I : HO → Prop) : Sp := fun vs H Q _ => ∃ (Γ : Own) (Δ : Gh) (cs : List Cell), G Γ cs ∧ Sat Γ Δ ∧ Hold Δ H ∧ ArgsOk K Δ H vs cs ∧
  ∀ (p : Addr) (H' : Hp) (o : HO), I o → H p = none → Δ p = none → Ext Δ H H' → H' p = some o → Q (.ref p) H'
def ghI (Δ : Gh) (D : Addr) (I : HO → Prop) : Gh := fun a => if a = D then some I else Δ a
section
variable {K : PySem.W.Frag} {Γ : Own} {ρ : Z.Env} {ta : TA} {β : Type} [Rp β]
theorem ghI_self {Δ : Gh} {D : Addr} {I : HO → Prop} : ghI Δ D I D = some I := by
  unfold ghI
  exact if_pos rfl
theorem ghI_other {Δ : Gh} {D x : Addr} {I : HO → Prop} (h : x ≠ D) : ghI Δ D I x = Δ x := by
  unfold ghI
  exact if_neg h
/-- f(g(..)) where g hands back a new object -/
theorem ev_callF {Pb : β → Prop} {G : Own → List Cell → Prop} {I : HO → Prop} {F : Own → List Cell → (β → Prop) → Prop} {E E' : XK} {cs : List Cell} (ha : EvA K Γ ta ρ (Is cs)) (hg : G Γ cs) (hf : ∀ p, F ((p, I) :: Γ) [⟨(⟨p⟩ : Loc)⟩] Pb) :
    Ev K Γ (tCall (spD K F) [] E (tCons (tCall (spF K G I) [] E' ta) tNil)) ρ Pb := fun Δ σ H Q s hh e k =>
  ha Δ σ H _ s hh e fun vs H1 cs' pcs e1 r => by
    have ec : cs' = cs := pcs
    subst ec
    refine ⟨Γ, Δ, cs', hg, s, e1.2, by rw [List.append_nil]; exact r, fun p H2 o io hp1 hΔ e2 ho => ?_⟩
    have hs : Sat ((p, I) :: Γ) (ghI Δ p I) := fun q hq => by
      rcases List.mem_cons.mp hq with rfl | hq
      · exact ghI_self
      · have h := s q hq
        have hne : q.1 ≠ p := fun z => by
          rw [z, hΔ] at h
          cases h
        rw [ghI_other hne]
        exact h
    have hH : Hold (ghI Δ p I) H2 := fun a J h => by
      by_cases ea : a = p
      · rw [ea, ghI_self] at h
        have ej : I = J := Option.some.inj h
        subst ej
        exact ⟨o, by rw [ea]; exact ho, io⟩
      · rw [ghI_other ea] at h
        exact e2.2 a J h
    refine ⟨(p, I) :: Γ, ghI Δ p I, [⟨(⟨p⟩ : Loc)⟩], Pb, hf p, hs, hH, ⟨rfl, trivial⟩, fun v H3 b pb e3 r3 => k v H3 b pb ⟨fun a u na hu => ?_, fun a J h => ?_⟩ (Rp.weak (fun x u _ hn => ?_) r3)⟩
    · have h1 := e1.1 a u na hu
      have hne : a ≠ p := fun z => by
        rw [z, hp1] at h1
        cases h1
      exact e3.1 a u (by rw [ghI_other hne]; exact na) (e2.1 a u na h1)
    · have hne : a ≠ p := fun z => by
        rw [z, hΔ] at h
        cases h
      exact e3.2 a J (by rw [ghI_other hne]; exact h)
    · by_cases ex : x = p
      · rw [ex]
        exact hΔ
      · rw [ghI_other ex] at hn
        exact hn
end
section
variable {P : Program} {w : World} {K : PySem.W.Frag} {mg : Str → Option Value} {base : Heap} {β : Type} [Rp β]
def FinF (Δ0 : Gh) (H0 : Hp) (I : HO → Prop) (D : Ends) : Prop := ∀ (p : Addr) (H' : Hp) (o : HO), I o → H0 p = none → Δ0 p = none → Ext Δ0 H0 H' → H' p = some o → D.rt (.ref p) H'
theorem def_okF {x qual : Str} {args : Arguments} {body : List Stmt} {scope : Scope} {dvs : List V} {kws : List (Str × V)} {f : Addr} {fd : FuncData} {N ps : List Str} {k : Nat} {G : Own → List Cell → Prop} {I : HO → Prop}
    (Fn : FunD K x qual args body scope dvs kws f fd) (S : FnScope N ps scope) (len : ∀ Γ cs, G Γ cs → cs.length = ps.length)
    (hb : ∀ (cdv : Value) (A : Around) (outer : List PySem.Env) (s : Shared) (H : Hp) (E : XK), Room k (A.deeper (envOfC qual scope s.heap.objs.size f cdv)) →
      ∀ (Γ : Own) (cs : List Cell), G Γ cs → ∃ t, PSs (cxOf CX0 P w K mg base N qual scope f cdv A outer s H E).nox body t ∧
        ∀ (Δ0 : Gh) (D : Ends), FinF Δ0 H I D → Wp K Δ0 H Γ [] (env0 N cs) t D) :
    FnOk P w K mg base CX0 (k + 1) f fd ps (spF K G I) := by
  refine Fn.ok S (fun vs H Q E h => ?_) (fun cdv A outer s H vs Q E hr h => ?_)
  · obtain ⟨Γ, Δ, cs, g, _, _, a, _⟩ := h
    rw [All2.len a]
    exact len Γ cs g
  · obtain ⟨Γ, Δ, cs, g, sa, hh, a, q⟩ := h
    obtain ⟨t, ht, hw⟩ := hb cdv A outer s H E hr Γ cs g
    refine ⟨t, ?_, hw Δ _ (fun p H' o io h1 h2 e ho => q p H' o io h1 h2 e ho) _ H ⟨Δ, sa, hh, start_ok a, fun z hz => (nomatch hz), Ext.refl hh, fun _ _ z => z, fun x n m => absurd n m⟩⟩
    first
      | exact ht
      | exact PSs.nox ht
end
section
variable {K : PySem.W.Frag} {Δ0 : Gh} {H0 : Hp} {Γ : Own} {F : List (V × Cell)} {ρ : Z.Env} {ta : TA} {D : Ends}
/-- return [a, b, c] of a new list of ints -/
theorem wp_ret3 (hf : FinF Δ0 H0 DiceI D) (h : EvA K Γ ta ρ (fun cs => ∃ a b c : Int, cs = [⟨a⟩, ⟨b⟩, ⟨c⟩] ∧ 0 ≤ a ∧ 0 ≤ b ∧ 0 ≤ c)) : Wp K Δ0 H0 Γ F ρ (tRet (tLst ta)) D := fun σ H ⟨Δ, s, hh, e, f, e0, s1, s2⟩ =>
  h Δ σ H _ s hh e fun vs H' cs pcs e1 r => by
    obtain ⟨a, b, c, rfl, ha, hb, hc⟩ := pcs
    match vs, r with
    | [v1, v2, v3], r =>
      have z1 : v1 = .int a := r.1
      have z2 : v2 = .int b := r.2.1
      have z3 : v3 = .int c := r.2.2.1
      subst z1 z2 z3
      refine ⟨by show 3 ≤ sizeLine; decide, fun p hp => ?_⟩
      have e2 := e1.trans (Ext.new e1.2 hp (.lst [.int a, .int b, .int c]))
      have e3 := ext0 e0 s1 s2 e1
      have hn := none0 s1 (e1.2.fresh hp)
      refine hf p _ _ ⟨a, b, c, rfl, ha, hb, hc⟩ ?_ hn (ext0 e0 s1 s2 e2) upd_same
      cases q : H0 p with
      | none => rfl
      | some o =>
        have := e3.1 p o hn q
        rw [hp] at this
        cases this
end
section
variable {K : PySem.W.Frag} {Γ : Own} {ρ : Z.Env} {α β : Type} [Rp α] [Rp β]
/-- the pairs of a tuple, each to two names -/
theorem src_tupP {tl : TE} {ja jb : Nat} {xs : Tup (α × β)} {x0 : Nat → α × β} (h : Ev K Γ tl ρ (Is xs)) (hx : ∀ i, i < xs.l.length → xs.l[i]? = some (x0 i)) (hja : ja < ρ.length) (hjb : jb < ρ.length) :
    Src K Γ (iTup K tl) (gTup K 2 (gCons (gName ja) (gCons (gName jb) gNil))) ρ [ja, jb] xs.l.length (fun i ρ => (ρ.set ja (some ⟨(x0 i).1⟩)).set jb (some ⟨(x0 i).2⟩)) := fun Δ σ H R s hh e k =>
  h Δ σ H _ s hh e fun v H' a pa e1 r => by
    have ea : a = xs := pa
    subst ea
    obtain ⟨p, vs, rfl, n, sq, q⟩ := id r
    refine ⟨p, rfl, ⟨vs, sq⟩, k _ H' (.ref p) ⟨a⟩ e1 r (fun Δ' H2 r2 => ?_) fun Δ' i H2 x H3 hi h2 r2 y => ?_⟩
    · obtain ⟨p', ws, e', n', sq', q'⟩ := (show Rp.rp K Δ' H2 (.ref p) a from r2)
      cases e'
      have hl := q'.len
      refine ⟨fun i hi => ⟨ws, ws[i], sq', List.getElem?_eq_getElem (by omega)⟩, ws, sq', by omega⟩
    · obtain ⟨p', ws, e', n', sq', q'⟩ := (show Rp.rp K Δ' H2 (.ref p) a from r2)
      cases e'
      obtain ⟨rfl, hy⟩ := (show H3 = H2 ∧ ∀ zs, SqT K H2 p zs → zs[i]? = some x from y)
      obtain ⟨w, hw, rw'⟩ := q'.get (hx i hi)
      have ew : x = w := Option.some.inj ((hy _ sq').symm.trans hw)
      subst ew
      obtain ⟨T, va, vb, rfl, nT, sT, ra, rb⟩ := rw'
      refine ⟨Ext.refl h2, fun σ' ρ' Qs hl e' qq => ⟨T, [va, vb], rfl, sT, rfl, va, [vb], rfl, vb, [], rfl, rfl, ?_⟩⟩
      refine qq _ ((e'.set (c := ⟨(x0 i).1⟩) (by rw [hl]; exact hja) ra).set (c := ⟨(x0 i).2⟩) (by rw [List.length_set, hl]; exact hjb) rb) (by rw [List.length_set, List.length_set]) fun k hk => ?_
      have h1 : ja ≠ k := fun z => hk (by simp [z])
      have h2 : jb ≠ k := fun z => hk (by simp [z])
      rw [List.getElem?_set_ne h2, List.getElem?_set_ne h1]
end
end Z

set_option Elab.async false
set_option linter.all false
set_option maxRecDepth 100000
namespace K00
open PySem PySem.Spec PyProof.Rows L2 Z
/-! ### the mathematics -/
/-- sign i of a row -/
def sg (x : Tx) (i : Nat) : Nat := x.s.getD i 0
/-- the row of n signs -/
def mk (n : Nat) (f : Nat → Nat) : Tx := ⟨(List.range n).map f⟩
/-- the places below n with p -/
def ix (n : Nat) (p : Nat → Bool) : List Int := ((List.range n).filter p).map fun i => ((i : Nat) : Int)
theorem sg_at {x : Tx} {i : Nat} (h : i < x.s.length) : x.s[i]? = some (sg x i) := by
  rw [sg, List.getD_eq_getElem?_getD, List.getElem?_eq_getElem h]
  rfl
theorem mk_len {n : Nat} {f : Nat → Nat} : (mk n f).s.length = n := by simp [mk]
theorem mk_sg {n : Nat} {f : Nat → Nat} {i : Nat} (h : i < n) : sg (mk n f) i = f i := by
  simp [sg, mk, List.getD_eq_getElem?_getD, h]
theorem mk_self (x : Tx) : mk x.s.length (sg x) = x := by
  cases x with
  | mk s =>
    unfold mk
    congr 1
    apply List.ext_getElem?
    intro i
    by_cases h : i < s.length
    · simp [h, sg]
    · rw [List.getElem?_eq_none (by simp; omega), List.getElem?_eq_none (by omega)]
theorem mk_congr {n : Nat} {f g : Nat → Nat} (h : ∀ i, i < n → f i = g i) : mk n f = mk n g := by
  unfold mk
  congr 1
  exact List.map_congr_left fun i hi => h i (List.mem_range.mp hi)
theorem ix_congr {n : Nat} {p q : Nat → Bool} (h : ∀ i, i < n → p i = q i) : ix n p = ix n q := by
  unfold ix
  congr 1
  exact List.filter_congr fun i hi => h i (List.mem_range.mp hi)
theorem map_sw (x : Tx) : (⟨x.s.map sw⟩ : Tx) = mk x.s.length fun i => sw (sg x i) := by
  conv => lhs; rw [← mk_self x]
  unfold mk
  rw [List.map_map]
  rfl
theorem flat_mk {n : Nat} {f : Nat → Nat} : (⟨(((List.range n).map fun i => (⟨[f i]⟩ : Tx)).map (·.s)).flatten⟩ : Tx) = mk n f := by
  unfold mk
  congr 1
  induction n with
  | zero => rfl
  | succ n ih => rw [List.range_succ, List.map_append, List.map_append, List.flatten_append, ih, List.map_append]; rfl
theorem flat_len {n : Nat} {f : Nat → Nat} : (((List.range n).map fun i => (⟨[f i]⟩ : Tx)).map (·.s)).flatten.length = n := by
  have h := congrArg (fun t : Tx => t.s.length) (flat_mk (n := n) (f := f))
  simp only [mk_len] at h
  exact h
/-- a row of at most nine signs -/
structure Row (x : Tx) : Prop where
  all : x.s.all isSign = true
  len : x.s.length ≤ 9
theorem Row.sg {x : Tx} (h : Row x) {i : Nat} (hi : i < x.s.length) : isSign (sg x i) = true := List.all_eq_true.mp h.all _ (by
  rw [K00.sg, List.getD_eq_getElem?_getD, List.getElem?_eq_getElem hi]
  exact List.getElem_mem hi)
theorem row_mk {n : Nat} {f : Nat → Nat} (hn : n ≤ 9) (h : ∀ i, i < n → isSign (f i) = true) : Row (mk n f) := ⟨List.all_eq_true.mpr fun c hc => by
  unfold K00.mk at hc
  obtain ⟨i, hi, rfl⟩ := List.mem_map.mp hc
  exact h i (List.mem_range.mp hi), by rw [mk_len]; exact hn⟩
/-- ascending, from l on, below n -/
def ascF (n : Int) : Int → List Int → Bool
  | _, [] => true
  | l, t :: r => (decide (l ≤ t) && decide (t ≤ n - 1)) && ascF n (t + 1) r
theorem ascF_all {n : Int} : ∀ {l : Int} {ts : List Int}, ascF n l ts = true → ∀ t ∈ ts, l ≤ t ∧ t < n
  | _, [], _, t, ht => by cases ht
  | l, t0 :: r, h, t, ht => by
    simp only [ascF, Bool.and_eq_true, decide_eq_true_eq] at h
    rcases List.mem_cons.mp ht with rfl | ht
    · omega
    · have := ascF_all h.2 t ht
      omega
/-- what is asked of the next thing -/
def nextL (l : Int) : List Int → Int
  | [] => l
  | t :: r => nextL (t + 1) r
theorem nextL_snoc (l : Int) : ∀ (ts : List Int) (t : Int), nextL l (ts ++ [t]) = t + 1
  | [], t => rfl
  | a :: r, t => nextL_snoc (a + 1) r t
theorem ascF_snoc (n : Int) : ∀ (l : Int) (ts : List Int) (t : Int), ascF n l (ts ++ [t]) = (ascF n l ts && (decide (nextL l ts ≤ t) && decide (t ≤ n - 1)))
  | l, [], t => by
    show ((decide (l ≤ t) && decide (t ≤ n - 1)) && true) = (true && (decide (l ≤ t) && decide (t ≤ n - 1)))
    rw [Bool.and_true, Bool.true_and]
  | l, a :: r, t => by
    show (_ && ascF n (a + 1) (r ++ [t])) = _
    rw [ascF_snoc n (a + 1) r t, ← Bool.and_assoc]
    rfl
theorem ascF_app {n l : Int} {ts us : List Int} (h : ascF n l ts = false) : ascF n l (ts ++ us) = false := by
  induction ts generalizing l with
  | nil => cases h
  | cons a r ih =>
    show (_ && ascF n (a + 1) (r ++ us)) = false
    have h' : (_ && ascF n (a + 1) r) = false := h
    cases hx : (decide (l ≤ a) && decide (a ≤ n - 1)) with
    | false => rfl
    | true =>
      rw [hx] at h'
      rw [ih h']
      rfl
/-- the code of a row's first i signs -/
def bitAt (i c : Nat) : Nat := if c = 43 then 2 ^ i else if c = 45 then 2 ^ (i + 9) else 0
def codeUp (x : Tx) : Nat → Nat
  | 0 => 0
  | i + 1 => codeUp x i ||| bitAt i (sg x i)
def codeT (x : Tx) : Nat := codeUp x x.s.length
def tcode (c : Nat) : Nat := c / 2 ^ 9 ||| (c &&& 511) * 2 ^ 9
/-- apart at a sign, agreeing there -/
def ap (c d : Nat) : Bool := (!decide (c = 48)) && ((!decide (d = 48)) && !decide (c = d))
def upr (x y : Tx) : Bool := decide (decide (codeT x &&& codeT y = 0) = decide (codeT x &&& tcode (codeT y) = 0))

end K00

set_option Elab.async false
set_option linter.all false
set_option maxRecDepth 100000
set_option maxHeartbeats 1000000
namespace K00
open PySem PySem.Spec PyProof.Rows L2 Z
def top (i : Nat) : Stmt := PySem.Challenge.pw_sidesigns_k00_rows_sign_by_sign.main.body.getD i (.Pass ⟨0, 0, 0, 0⟩)
structure Txt (K : PySem.W.Frag) (mg : Str → Option Value) : Prop where
  z_abs : mg "abs" = none
  z_all : mg "all" = none
  z_bool : mg "bool" = none
  z_enumerate : mg "enumerate" = none
  z_int : mg "int" = none
  z_isinstance : mg "isinstance" = none
  z_len : mg "len" = none
  z_max : mg "max" = none
  z_min : mg "min" = none
  z_range : mg "range" = none
  z_repr : mg "repr" = none
  z_str : mg "str" = none
  z_tuple : mg "tuple" = none
  z_zip : mg "zip" = none
  i_SHIFT : ∃ t, mg "SHIFT" = some (.int 9 t)
  i_LOW : ∃ t, mg "LOW" = some (.int 511 t)
  i_MAX_THINGS : ∃ t, mg "MAX_THINGS" = some (.int 9 t)
/-- a def without defaults -/
structure Df (K : PySem.W.Frag) (mg : Str → Option Value) (x : Str) (st : Stmt) (ps : List Str) (f : Addr) (fd : FuncData) : Prop where
  F : FunD K x x (defArgs st) (defBody st) (defScope st) [] [] f fd
  g : mg x = some (.ref f)
  b : Binds K fd ps []
theorem Df.kp {K : PySem.W.Frag} {mg : Str → Option Value} {x : Str} {st : Stmt} {ps : List Str} {f : Addr} {fd : FuncData} (D : Df K mg x st ps f fd) : PySem.W.keepIn K (.ref f) = true := D.F.kp
/-- a def whose last parameter is None by default -/
structure DfD (K : PySem.W.Frag) (mg : Str → Option Value) (x : Str) (st : Stmt) (ps : List Str) (f : Addr) (fd : FuncData) : Prop where
  F : FunD K x x (defArgs st) (defBody st) (defScope st) [V.non] [] f fd
  g : mg x = some (.ref f)
  b : Binds K fd ps []
  b1 : Binds K fd ps [Value.none]
theorem DfD.kp {K : PySem.W.Frag} {mg : Str → Option Value} {x : Str} {st : Stmt} {ps : List Str} {f : Addr} {fd : FuncData} (D : DfD K mg x st ps f fd) : PySem.W.keepIn K (.ref f) = true := D.F.kp
theorem DfD.v1 {K : PySem.W.Frag} {mg : Str → Option Value} {x : Str} {st : Stmt} {ps : List Str} {f : Addr} {fd : FuncData} (D : DfD K mg x st ps f fd) : Vals [V.non] [Value.none] := .cons rfl .nil
abbrev s_is_integer : Stmt := top 6
abbrev s_is_between : Stmt := top 7
abbrev s_code_of : Stmt := top 11
abbrev s_turned_code : Stmt := top 12
abbrev s_turned_signs : Stmt := top 14
abbrev s_is_ascending : Stmt := top 16
abbrev s_is_row : Stmt := top 19
abbrev s_check_row : Stmt := top 20
abbrev s_check_things : Stmt := top 21
abbrev s_check_any_row : Stmt := top 22
abbrev s__check_rows : Stmt := top 23
abbrev s_turned : Stmt := top 24
abbrev s_laid_over : Stmt := top 25
abbrev s_are_apart_at : Stmt := top 26
abbrev s_apart : Stmt := top 27
abbrev s_is_upright : Stmt := top 28
abbrev s__is_code_upright : Stmt := top 29
abbrev s_things_of : Stmt := top 30
abbrev s_zeros_of : Stmt := top 31
abbrev s_signs_at : Stmt := top 32
abbrev s_spread : Stmt := top 33
abbrev s__law_dice : Stmt := top 35
abbrev s__law_roll : Stmt := top 36
abbrev s__law_pick : Stmt := top 37
abbrev s__law_flip : Stmt := top 38
abbrev s__law_turn : Stmt := top 39
abbrev s__law_turn_at : Stmt := top 40
abbrev s__law_laid : Stmt := top 41
abbrev s__law_apart : Stmt := top 42
abbrev s__law_upright : Stmt := top 43
abbrev s__law_held : Stmt := top 44
abbrev s__law_drawn_row : Stmt := top 45
abbrev s__law_drawn_things : Stmt := top 46
abbrev s__law_is_row_right : Stmt := top 47
abbrev s__law_are_two_right : Stmt := top 48
abbrev s__law_right : Stmt := top 49
abbrev s_law : Stmt := top 50
section
variable {P : Program} {w : World} {K : PySem.W.Frag} {mg : Str → Option Value} {base : Heap}
abbrev Pm (β : Type) := Own → List Cell → (β → Prop) → Prop
def F_is_integer : Pm Bool := fun _ cs R => ∃ i : Int, cs = [⟨i⟩] ∧ R = Is true
theorem sc_is_integer : FnScope ["value"] ["value"] (defScope s_is_integer) := ⟨rfl, rfl, rfl, by decide +kernel, rfl, by decide +kernel, by decide +kernel⟩
theorem ok_is_integer (T : Txt K mg) {f : Addr} {fd : FuncData} (D : Df K mg "is_integer" s_is_integer ["value"] f fd) : FnOk P w K mg base CX0 2 f fd ["value"] (spD K F_is_integer) := by
  obtain ⟨_, hI_SHIFT⟩ := T.i_SHIFT
  obtain ⟨_, hI_LOW⟩ := T.i_LOW
  obtain ⟨_, hI_MAX_THINGS⟩ := T.i_MAX_THINGS
  refine def_ok D.F sc_is_integer (fun Γ cs R g => ?len) (fun cdv A outer s H E hr Γ cs R g => ?_)
  case len => obtain ⟨i, rfl, _⟩ := g; rfl
  obtain ⟨i, rfl, rfl⟩ := g
  refine ⟨_, (pss_one (ps_ret (pe_and (pe_callB call_isK (by rfl) T.z_isinstance (by decide +kernel) (pa_cons (pv 0) (pa_cons (pe_bltn (v := .ty "int") (u := .type "int") (by rfl) T.z_int (by decide +kernel) rfl) pa_nil))) (pe_one (pe_not (pe_callB call_isK (by rfl) T.z_isinstance (by decide +kernel) (pa_cons (pv 0) (pa_cons (pe_bltn (v := .ty "bool") (u := .type "bool") (by rfl) T.z_bool (by decide +kernel) rfl) pa_nil)))))))), fun Δ0 D' hf hn => wp_ret hf ?_⟩
  exact ev_is (ev_andV (ev_isi ev_var ty_int (kit_ty (r := true) (by decide +kernel))) fun _ => ev_notV (ev_isi ev_var ty_int (kit_ty (r := false) (by decide +kernel)))) rfl
def F_is_between : Pm Bool := fun _ cs R => ∃ v l m : Int, cs = [⟨v⟩, ⟨l⟩, ⟨m⟩] ∧ R = Is (decide (l ≤ v) && decide (v ≤ m))
theorem sc_is_between : FnScope ["value", "least", "most"] ["value", "least", "most"] (defScope s_is_between) := ⟨rfl, rfl, rfl, by decide +kernel, rfl, by decide +kernel, by decide +kernel⟩
theorem ok_is_between (T : Txt K mg) {f : Addr} {fd : FuncData} (D : Df K mg "is_between" s_is_between ["value", "least", "most"] f fd) {f_is_integer : Addr} {fd_is_integer : FuncData} (D_is_integer : Df K mg "is_integer" s_is_integer ["value"] f_is_integer fd_is_integer) (G_is_integer : FnOk P w K mg base CX0 2 f_is_integer fd_is_integer ["value"] (spD K F_is_integer)) : FnOk P w K mg base CX0 3 f fd ["value", "least", "most"] (spD K F_is_between) := by
  obtain ⟨_, hI_SHIFT⟩ := T.i_SHIFT
  obtain ⟨_, hI_LOW⟩ := T.i_LOW
  obtain ⟨_, hI_MAX_THINGS⟩ := T.i_MAX_THINGS
  refine def_ok D.F sc_is_between (fun Γ cs R g => ?len) (fun cdv A outer s H E hr Γ cs R g => ?_)
  case len => obtain ⟨v, l, m, rfl, _⟩ := g; rfl
  obtain ⟨v, l, m, rfl, rfl⟩ := g
  refine ⟨_, (pss_one (ps_ret (pe_and (pe_call G_is_integer (hr.mono (by decide)) (by rfl) D_is_integer.g D_is_integer.kp D_is_integer.b .nil pass0 (pa_cons (pv 0) pa_nil)) (pe_one (pe_chain op_le op_le (pv 1) (pv 0) (pv 2)))))), fun Δ0 D' hf hn => wp_ret hf ?_⟩
  exact ev_is (ev_andV (ev_call1 (ea_1 ev_var ea_nil) ⟨v, rfl, rfl⟩) fun _ => ev_chain ev_var ev_var ev_var o2_B0 o2_B0) rfl
theorem len_le {x : Tx} (h : Row x) : x.s.length ≤ 100000 := Nat.le_trans h.len (by decide)
theorem or_nn (m n : Nat) : Builtin.bitOr (m : Int) (n : Int) = ((m ||| n : Nat) : Int) := by rw [Bits.bitOr_pp (Int.natCast_nonneg m) (Int.natCast_nonneg n), Int.toNat_natCast, Int.toNat_natCast]
theorem and_nn (m n : Nat) : Builtin.bitAnd (m : Int) (n : Int) = ((m &&& n : Nat) : Int) := by
  rw [bitAnd_pp (Int.natCast_nonneg m) (Int.natCast_nonneg n), Int.toNat_natCast, Int.toNat_natCast]
abbrev IvC (Γ : Own) (x : Tx) : Nat → Own → Z.Env → Prop := fun i Γ' ρ' => Γ' = Γ ∧ ∃ a b, ρ' = [some ⟨x⟩, some ⟨((codeUp x i : Nat) : Int)⟩, a, b]
def F_code_of : Pm Int := fun _ cs R => ∃ x : Tx, cs = [⟨x⟩] ∧ x.s.length ≤ 9 ∧ R = Is ((codeT x : Nat) : Int)
theorem sc_code_of : FnScope ["row", "code", "thing", "sign"] ["row"] (defScope s_code_of) := ⟨rfl, rfl, rfl, by decide +kernel, rfl, by decide +kernel, by decide +kernel⟩
theorem ok_code_of (T : Txt K mg) {f : Addr} {fd : FuncData} (D : Df K mg "code_of" s_code_of ["row"] f fd) : FnOk P w K mg base CX0 2 f fd ["row"] (spD K F_code_of) := by
  obtain ⟨_, hI_SHIFT⟩ := T.i_SHIFT
  obtain ⟨_, hI_LOW⟩ := T.i_LOW
  obtain ⟨_, hI_MAX_THINGS⟩ := T.i_MAX_THINGS
  refine def_ok D.F sc_code_of (fun Γ cs R g => ?len) (fun cdv A outer s H E hr Γ cs R g => ?_)
  case len => obtain ⟨x, rfl, _⟩ := g; rfl
  obtain ⟨x, rfl, hx, rfl⟩ := g
  refine ⟨_, (pss_cons (ps_set (i := 1) sc_code_of.nd rfl (by first | exact .inl rfl | exact .inr rfl) pe_int)
      (pss_cons (ps_for PassesOwn.never rfl (pi_enumS (by rfl) T.z_enumerate (pa_cons (pv 0) pa_nil)) (pg_tup rfl (pgs_cons (pg_name (i := 2) sc_code_of.nd rfl (by first | exact .inl rfl | exact .inr rfl)) (pgs_cons (pg_name (i := 3) sc_code_of.nd rfl (by first | exact .inl rfl | exact .inr rfl)) pgs_nil)))
        (pss_one (ps_if (pt_cmpR op_eq (pv 3) pe_str (nomark _)) (pss_one (ps_set (i := 1) sc_code_of.nd rfl (by first | exact .inl rfl | exact .inr rfl) (pe_op op_or (pv 1) (pe_op op_shl pe_int (pv 2))))) (pss_one (ps_if (pt_cmpR op_eq (pv 3) pe_str (nomark _)) (pss_one (ps_set (i := 1) sc_code_of.nd rfl (by first | exact .inl rfl | exact .inr rfl) (pe_op op_or (pv 1) (pe_op op_shl pe_int (pe_op op_add (pv 2) (pe_glob (v := .int 9) rfl hI_SHIFT ⟨_, rfl⟩)))))) pss_nil)))))
      (pss_one (ps_ret (pv 1))))), fun Δ0 D' hf hn => ?_⟩
  refine wp_asg1 ev_int (ltr rfl) ?_
  refine wp_for (IvC Γ x) (src_enumS (ea_1 ev_var ea_nil) (fun i hi => sg_at hi) (ltr rfl) (ltr rfl)) ⟨rfl, none, none, rfl⟩ (fun i Γ' ρ' h => by obtain ⟨_, a, b, rfl⟩ := h; rfl) ?_ ?_
  · rintro i Γ' ρ' F' hi ⟨rfl, a, b, rfl⟩
    refine wp_if (et_test (ev_op1 (ev_var (i := 3)) (ev_strc [43]) o2_eqS)) (fun h1 => ?_) (fun h1 => ?_)
    · have hc : sg x i = 43 := tx1.mp (of_decide_eq_true h1)
      refine wp_asgL (ev_op1 (ev_var (i := 1)) (ev_op1 ev_int (ev_var (i := 2)) (o2_I (C := CPow) ⟨by omega, by omega, by decide⟩)) o2_I0) (ltr rfl) (fun r hr => wp_turn (Iv := IvC Γ' x) ⟨rfl, some ⟨(i : Int)⟩, some ⟨(⟨[sg x i]⟩ : Tx)⟩, ?_⟩ rfl)
      have er : r = ((codeUp x (i + 1) : Nat) : Int) := by
        rw [show r = _ from hr, codeUp, bitAt, if_pos hc, Int.toNat_natCast, Int.one_mul, ← or_nn, Int.natCast_pow]
        rfl
      rw [er]
      rfl
    · have hc : sg x i ≠ 43 := fun z => of_decide_eq_false h1 (tx1.mpr z)
      refine wp_if (et_test (ev_op1 (ev_var (i := 3)) (ev_strc [45]) o2_eqS)) (fun h2 => ?_) (fun h2 => ?_)
      · have hd : sg x i = 45 := tx1.mp (of_decide_eq_true h2)
        refine wp_asgL (ev_op1 (ev_var (i := 1)) (ev_op1 ev_int (ev_op1 (ev_var (i := 2)) ev_int o2_I0) (o2_I (C := CPow) ⟨by omega, by omega, by decide⟩)) o2_I0) (ltr rfl) (fun r hr => wp_turn (Iv := IvC Γ' x) ⟨rfl, some ⟨(i : Int)⟩, some ⟨(⟨[sg x i]⟩ : Tx)⟩, ?_⟩ rfl)
        have er : r = ((codeUp x (i + 1) : Nat) : Int) := by
          rw [show r = _ from hr, codeUp, bitAt, if_neg hc, if_pos hd, Int.one_mul, ← or_nn, Int.natCast_pow]
          congr 2
        rw [er]
        rfl
      · have hd : sg x i ≠ 45 := fun z => of_decide_eq_false h2 (tx1.mpr z)
        refine wp_turn (Iv := IvC Γ' x) ⟨rfl, some ⟨(i : Int)⟩, some ⟨(⟨[sg x i]⟩ : Tx)⟩, ?_⟩ rfl
        have er : codeUp x (i + 1) = codeUp x i := by rw [codeUp, bitAt, if_neg hc, if_neg hd, Nat.or_zero]
        rw [er]
        rfl
  · rintro Γ' ρ' F' ⟨rfl, a, b, rfl⟩
    exact wp_ret hf (ev_var (i := 1))
def F_turned_code : Pm Int := fun _ cs R => ∃ c : Nat, cs = [⟨(c : Int)⟩] ∧ R = Is ((tcode c : Nat) : Int)
theorem sc_turned_code : FnScope ["code"] ["code"] (defScope s_turned_code) := ⟨rfl, rfl, rfl, by decide +kernel, rfl, by decide +kernel, by decide +kernel⟩
theorem ok_turned_code (T : Txt K mg) {f : Addr} {fd : FuncData} (D : Df K mg "turned_code" s_turned_code ["code"] f fd) : FnOk P w K mg base CX0 2 f fd ["code"] (spD K F_turned_code) := by
  obtain ⟨_, hI_SHIFT⟩ := T.i_SHIFT
  obtain ⟨_, hI_LOW⟩ := T.i_LOW
  obtain ⟨_, hI_MAX_THINGS⟩ := T.i_MAX_THINGS
  refine def_ok D.F sc_turned_code (fun Γ cs R g => ?len) (fun cdv A outer s H E hr Γ cs R g => ?_)
  case len => obtain ⟨x, rfl, _⟩ := g; rfl
  obtain ⟨c, rfl, rfl⟩ := g
  refine ⟨_, (pss_one (ps_ret (pe_op op_or (pe_op op_shr (pv 0) (pe_glob (v := .int 9) rfl hI_SHIFT ⟨_, rfl⟩)) (pe_op op_shl (pe_op op_and (pv 0) (pe_glob (v := .int 511) rfl hI_LOW ⟨_, rfl⟩)) (pe_glob (v := .int 9) rfl hI_SHIFT ⟨_, rfl⟩))))), fun Δ0 D' hf hn => wp_ret hf ?_⟩
  refine ev_is (ev_op1 (ev_op1 ev_var ev_int (o2_I (g := fun i j => i / 2 ^ j.toNat) (by decide))) (ev_op1 (ev_op1 ev_var ev_int (o2_I0 (g := Builtin.bitAnd))) ev_int (o2_I (C := CPow) ⟨by decide, by decide, ?_⟩)) (o2_I0 (g := Builtin.bitOr))) ?_
  · rw [show (511 : Int) = ((511 : Nat) : Int) from rfl, and_nn, Int.natAbs_natCast]
    exact Nat.lt_of_le_of_lt Nat.and_le_right (by decide)
  · have e1 : (c : Int) / 2 ^ (9 : Int).toNat = ((c / 2 ^ 9 : Nat) : Int) := by norm_cast
    have e2 : Builtin.bitAnd (c : Int) 511 * 2 ^ (9 : Int).toNat = (((c &&& 511) * 2 ^ 9 : Nat) : Int) := by
      rw [show (511 : Int) = ((511 : Nat) : Int) from rfl, and_nn]
      norm_cast
    rw [e1, e2, or_nn]
    rfl
def F_turned_signs : Pm Tx := fun _ cs R => ∃ x : Tx, cs = [⟨x⟩] ∧ Row x ∧ R = Is (mk x.s.length fun i => sw (sg x i))
theorem sc_turned_signs : FnScope ["signs"] ["signs"] (defScope s_turned_signs) := ⟨rfl, rfl, rfl, by decide +kernel, rfl, by decide +kernel, by decide +kernel⟩
theorem ok_turned_signs (T : Txt K mg) {f : Addr} {fd : FuncData} (D : Df K mg "turned_signs" s_turned_signs ["signs"] f fd) : FnOk P w K mg base CX0 2 f fd ["signs"] (spD K F_turned_signs) := by
  obtain ⟨_, hI_SHIFT⟩ := T.i_SHIFT
  obtain ⟨_, hI_LOW⟩ := T.i_LOW
  obtain ⟨_, hI_MAX_THINGS⟩ := T.i_MAX_THINGS
  refine def_ok D.F sc_turned_signs (fun Γ cs R g => ?len) (fun cdv A outer s H E hr Γ cs R g => ?_)
  case len => obtain ⟨x, rfl, _⟩ := g; rfl
  obtain ⟨x, rfl, hx, rfl⟩ := g
  refine ⟨_, (pss_one (ps_ret (pe_trS rfl (pv 0) (pe_mk (by rfl) T.z_str)))), fun Δ0 D' hf hn => wp_ret hf (ev_is (ev_tr ev_var (len_le hx)) (map_sw x))⟩
abbrev IvA (Γ : Own) (t : Tup Int) (n : Int) : Nat → Own → Z.Env → Prop := fun i Γ' ρ' => Γ' = Γ ∧ ascF n 0 (t.l.take i) = true ∧ ∃ a, ρ' = [some ⟨t⟩, some ⟨n⟩, some ⟨nextL 0 (t.l.take i)⟩, a]
def F_is_ascending : Pm Bool := fun _ cs R => ∃ (t : Tup Int) (n : Int), cs = [⟨t⟩, ⟨n⟩] ∧ R = Is (ascF n 0 t.l)
theorem sc_is_ascending : FnScope ["value", "many", "least", "thing"] ["value", "many"] (defScope s_is_ascending) := ⟨rfl, rfl, rfl, by decide +kernel, rfl, by decide +kernel, by decide +kernel⟩
theorem ok_is_ascending (T : Txt K mg) {f : Addr} {fd : FuncData} (D : Df K mg "is_ascending" s_is_ascending ["value", "many"] f fd) {f_is_between : Addr} {fd_is_between : FuncData} (D_is_between : Df K mg "is_between" s_is_between ["value", "least", "most"] f_is_between fd_is_between) (G_is_between : FnOk P w K mg base CX0 3 f_is_between fd_is_between ["value", "least", "most"] (spD K F_is_between)) : FnOk P w K mg base CX0 4 f fd ["value", "many"] (spD K F_is_ascending) := by
  obtain ⟨_, hI_SHIFT⟩ := T.i_SHIFT
  obtain ⟨_, hI_LOW⟩ := T.i_LOW
  obtain ⟨_, hI_MAX_THINGS⟩ := T.i_MAX_THINGS
  refine def_ok D.F sc_is_ascending (fun Γ cs R g => ?len) (fun cdv A outer s H E hr Γ cs R g => ?_)
  case len => obtain ⟨x, n, rfl, _⟩ := g; rfl
  obtain ⟨t, n, rfl, rfl⟩ := g
  refine ⟨_, (pss_cons (ps_if (pt_not (pt_val (pe_callB call_isK (by rfl) T.z_isinstance (by decide +kernel) (pa_cons (pv 0) (pa_cons (pe_bltn (v := .ty "tuple") (u := .type "tuple") (by rfl) T.z_tuple (by decide +kernel) rfl) pa_nil))))) (pss_one (ps_ret pe_bl)) pss_nil)
      (pss_cons (ps_set (i := 2) sc_is_ascending.nd rfl (by first | exact .inl rfl | exact .inr rfl) pe_int)
      (pss_cons (ps_for PassesOwn.never rfl (pi_tupK (pv 0)) (pg_name (i := 3) sc_is_ascending.nd rfl (by first | exact .inl rfl | exact .inr rfl))
        (pss_cons (ps_if (pt_not (pt_val (pe_call G_is_between (hr.mono (by decide)) (by rfl) D_is_between.g D_is_between.kp D_is_between.b .nil pass0 (pa_cons (pv 3) (pa_cons (pv 2) (pa_cons (pe_op op_sub (pv 1) pe_int) pa_nil)))))) (pss_one (ps_ret pe_bl)) pss_nil)
        (pss_one (ps_set (i := 2) sc_is_ascending.nd rfl (by first | exact .inl rfl | exact .inr rfl) (pe_op op_add (pv 3) pe_int)))))
      (pss_one (ps_ret pe_bl))))), fun Δ0 D' hf hn => ?_⟩
  refine wp_no rfl (et_not (et_B (ev_isi ev_var ty_tup (kit_ty (r := true) (by decide +kernel))))) ?_
  refine wp_asg1 ev_int (ltr rfl) ?_
  refine wp_for (IvA Γ t n) (src_tup (x0 := fun i => t.l.getD i 0) ev_var (fun i hi => by rw [List.getD_eq_getElem?_getD, List.getElem?_eq_getElem hi]; rfl) (ltr rfl)) ⟨rfl, rfl, none, rfl⟩ (fun i Γ' ρ' h => by obtain ⟨_, _, a, rfl⟩ := h; rfl) ?_ ?_
  · rintro i Γ' ρ' F' hi ⟨rfl, ha, a, rfl⟩
    have et : t.l.take (i + 1) = t.l.take i ++ [t.l.getD i 0] := by
      rw [List.take_add_one, List.getD_eq_getElem?_getD, List.getElem?_eq_getElem hi]
      rfl
    refine wp_when (et_not (et_B (ev_call1 (ea_1 (ev_var (i := 3)) (ea_1 (ev_var (i := 2)) (ea_1 (ev_op1 (ev_var (i := 1)) ev_int (o2_I0 (g := fun i j => i - j))) ea_nil))) ⟨_, _, _, rfl, rfl⟩))) (fun h1 => ?_) (fun h1 => ?_)
    · refine wp_ret hf (ev_is ev_bl ?_)
      have h2 : ascF n 0 (t.l.take (i + 1)) = false := by
        rw [et, ascF_snoc, ha, Bool.true_and]
        rw [Bool.not_eq_true'] at h1
        exact h1
      have h3 := ascF_app (us := t.l.drop (i + 1)) h2
      rw [List.take_append_drop] at h3
      exact h3.symm
    · refine wp_asgL (ev_op1 (ev_var (i := 3)) ev_int (o2_I0 (g := fun i j => i + j))) (ltr rfl) (fun r hr => wp_turn (Iv := IvA Γ' t n) ⟨rfl, ?_, some ⟨t.l.getD i 0⟩, ?_⟩ rfl)
      · rw [et, ascF_snoc, ha, Bool.true_and]
        rw [Bool.not_eq_false'] at h1
        exact h1
      · rw [show r = _ from hr, et, nextL_snoc]
        rfl
  · rintro Γ' ρ' F' ⟨rfl, ha, a, rfl⟩
    rw [List.take_length] at ha
    exact wp_ret hf (ev_is ev_bl ha.symm)
def F_is_row : Pm Bool := fun _ cs R => ∃ (x : Tx) (n : Int), cs = [⟨x⟩, ⟨n⟩] ∧ x.s.length ≤ 100000 ∧ R = Is (decide ((x.s.length : Int) = n) && x.s.all isSign)
theorem sc_is_row : FnScope ["value", "many"] ["value", "many"] (defScope s_is_row) := ⟨rfl, rfl, rfl, by decide +kernel, rfl, by decide +kernel, by decide +kernel⟩
theorem ok_is_row (T : Txt K mg) {f : Addr} {fd : FuncData} (D : Df K mg "is_row" s_is_row ["value", "many"] f fd) : FnOk P w K mg base CX0 2 f fd ["value", "many"] (spD K F_is_row) := by
  obtain ⟨_, hI_SHIFT⟩ := T.i_SHIFT
  obtain ⟨_, hI_LOW⟩ := T.i_LOW
  obtain ⟨_, hI_MAX_THINGS⟩ := T.i_MAX_THINGS
  refine def_ok D.F sc_is_row (fun Γ cs R g => ?len) (fun cdv A outer s H E hr Γ cs R g => ?_)
  case len => obtain ⟨x, n, rfl, _⟩ := g; rfl
  obtain ⟨x, n, rfl, hx, rfl⟩ := g
  refine ⟨_, (pss_one (ps_ret (pe_and (pe_callB call_isK (by rfl) T.z_isinstance (by decide +kernel) (pa_cons (pv 0) (pa_cons (pe_bltn (v := .ty "str") (u := .type "str") (by rfl) T.z_str (by decide +kernel) rfl) pa_nil))) (pe_and (pe_cmpR op_eq (pe_callB call_lenK (by rfl) T.z_len (by decide +kernel) (pa_cons (pv 0) pa_nil)) (pv 1) (nomark _)) (pe_one (pe_cmpR op_eq (pe_stripC (pv 0) pe_str) pe_str (nomark _))))))), fun Δ0 D' hf hn => wp_ret hf ?_⟩
  exact ev_is (ev_andV (ev_isi ev_var ty_tx (kit_ty (r := true) (by decide +kernel))) fun _ => ev_andV (ev_op1 (ev_cb ev_var (o1_lenS hx)) (ev_var (i := 1)) o2_eqI) fun _ => ev_stripEq (h := ev_var) (hz := hx)) rfl
def F_check_row : Pm Unit := fun _ cs R => ∃ (x : Tx), cs = [⟨x⟩, ⟨(x.s.length : Int)⟩] ∧ Row x ∧ R = Is ()
theorem sc_check_row : FnScope ["row", "many"] ["row", "many"] (defScope s_check_row) := ⟨rfl, rfl, rfl, by decide +kernel, rfl, by decide +kernel, by decide +kernel⟩
theorem ok_check_row (T : Txt K mg) {f : Addr} {fd : FuncData} (D : Df K mg "check_row" s_check_row ["row", "many"] f fd) {f_is_row : Addr} {fd_is_row : FuncData} (D_is_row : Df K mg "is_row" s_is_row ["value", "many"] f_is_row fd_is_row) (G_is_row : FnOk P w K mg base CX0 2 f_is_row fd_is_row ["value", "many"] (spD K F_is_row)) : FnOk P w K mg base CX0 3 f fd ["row", "many"] (spD K F_check_row) := by
  obtain ⟨_, hI_SHIFT⟩ := T.i_SHIFT
  obtain ⟨_, hI_LOW⟩ := T.i_LOW
  obtain ⟨_, hI_MAX_THINGS⟩ := T.i_MAX_THINGS
  refine def_ok D.F sc_check_row (fun Γ cs R g => ?len) (fun cdv A outer s H E hr Γ cs R g => ?_)
  case len => obtain ⟨x, rfl, _⟩ := g; rfl
  obtain ⟨x, rfl, hx, rfl⟩ := g
  refine ⟨_, (pss_one (ps_if (pt_not (pt_val (pe_call G_is_row (hr.mono (by decide)) (by rfl) D_is_row.g D_is_row.kp D_is_row.b .nil pass0 (pa_cons (pv 0) (pa_cons (pv 1) pa_nil))))) (pss_one ps_never) pss_nil)), fun Δ0 D' hf hn => ?_⟩
  refine wp_noL ?_ (et_not (et_B (ev_call1 (ea_1 ev_var (ea_1 (ev_var (i := 1)) ea_nil)) ⟨x, _, rfl, len_le hx, rfl⟩))) (wp_none rfl hn)
  rw [hx.all, decide_eq_true rfl]
  rfl
def F_check_things : Pm Unit := fun _ cs R => ∃ (t : Tup Int) (n : Int), cs = [⟨t⟩, ⟨n⟩] ∧ ascF n 0 t.l = true ∧ R = Is ()
theorem sc_check_things : FnScope ["things", "many"] ["things", "many"] (defScope s_check_things) := ⟨rfl, rfl, rfl, by decide +kernel, rfl, by decide +kernel, by decide +kernel⟩
theorem ok_check_things (T : Txt K mg) {f : Addr} {fd : FuncData} (D : Df K mg "check_things" s_check_things ["things", "many"] f fd) {f_is_ascending : Addr} {fd_is_ascending : FuncData} (D_is_ascending : Df K mg "is_ascending" s_is_ascending ["value", "many"] f_is_ascending fd_is_ascending) (G_is_ascending : FnOk P w K mg base CX0 4 f_is_ascending fd_is_ascending ["value", "many"] (spD K F_is_ascending)) : FnOk P w K mg base CX0 5 f fd ["things", "many"] (spD K F_check_things) := by
  obtain ⟨_, hI_SHIFT⟩ := T.i_SHIFT
  obtain ⟨_, hI_LOW⟩ := T.i_LOW
  obtain ⟨_, hI_MAX_THINGS⟩ := T.i_MAX_THINGS
  refine def_ok D.F sc_check_things (fun Γ cs R g => ?len) (fun cdv A outer s H E hr Γ cs R g => ?_)
  case len => obtain ⟨x, n, rfl, _⟩ := g; rfl
  obtain ⟨t, n, rfl, ha, rfl⟩ := g
  refine ⟨_, (pss_one (ps_if (pt_not (pt_val (pe_call G_is_ascending (hr.mono (by decide)) (by rfl) D_is_ascending.g D_is_ascending.kp D_is_ascending.b .nil pass0 (pa_cons (pv 0) (pa_cons (pv 1) pa_nil))))) (pss_one ps_never) pss_nil)), fun Δ0 D' hf hn => ?_⟩
  refine wp_noL ?_ (et_not (et_B (ev_call1 (ea_1 ev_var (ea_1 (ev_var (i := 1)) ea_nil)) ⟨t, n, rfl, rfl⟩))) (wp_none rfl hn)
  rw [ha]
  rfl
def F_check_any_row : Pm Unit := fun _ cs R => ∃ (x : Tx), cs = [⟨x⟩] ∧ Row x ∧ R = Is ()
theorem sc_check_any_row : FnScope ["row"] ["row"] (defScope s_check_any_row) := ⟨rfl, rfl, rfl, by decide +kernel, rfl, by decide +kernel, by decide +kernel⟩
theorem ok_check_any_row (T : Txt K mg) {f : Addr} {fd : FuncData} (D : Df K mg "check_any_row" s_check_any_row ["row"] f fd) {f_check_row : Addr} {fd_check_row : FuncData} (D_check_row : Df K mg "check_row" s_check_row ["row", "many"] f_check_row fd_check_row) (G_check_row : FnOk P w K mg base CX0 3 f_check_row fd_check_row ["row", "many"] (spD K F_check_row)) : FnOk P w K mg base CX0 4 f fd ["row"] (spD K F_check_any_row) := by
  obtain ⟨_, hI_SHIFT⟩ := T.i_SHIFT
  obtain ⟨_, hI_LOW⟩ := T.i_LOW
  obtain ⟨_, hI_MAX_THINGS⟩ := T.i_MAX_THINGS
  refine def_ok D.F sc_check_any_row (fun Γ cs R g => ?len) (fun cdv A outer s H E hr Γ cs R g => ?_)
  case len => obtain ⟨x, rfl, _⟩ := g; rfl
  obtain ⟨x, rfl, hx, rfl⟩ := g
  refine ⟨_, (pss_cons (ps_if (PW.pt (pw_or (pt_not (pt_val (pe_callB call_isK (by rfl) T.z_isinstance (by decide +kernel) (pa_cons (pv 0) (pa_cons (pe_bltn (v := .ty "str") (u := .type "str") (by rfl) T.z_str (by decide +kernel) rfl) pa_nil))))) (pw_or1 (pt_cmpR op_gt (pe_callB call_lenK (by rfl) T.z_len (by decide +kernel) (pa_cons (pv 0) pa_nil)) (pe_glob (v := .int 9) rfl hI_MAX_THINGS ⟨_, rfl⟩) (nomark _))))) (pss_one ps_never) pss_nil)
      (pss_one (ps_expr (pe_call G_check_row (hr.mono (by decide)) (by rfl) D_check_row.g D_check_row.kp D_check_row.b .nil pass0 (pa_cons (pv 0) (pa_cons (pe_callB call_lenK (by rfl) T.z_len (by decide +kernel) (pa_cons (pv 0) pa_nil)) pa_nil)))))), fun Δ0 D' hf hn => ?_⟩
  refine wp_no ?_ (et_or (et_not (et_B (ev_isi ev_var ty_tx (kit_ty (r := true) (by decide +kernel))))) fun _ => et_test (ev_op1 (ev_cb ev_var (o1_lenS (len_le hx))) ev_int (o2_B0 (g := fun i j => decide (j < i))))) ?_
  · have := hx.len
    rw [decide_eq_false (by omega)]
    rfl
  · exact wp_dropL (ev_call1 (ea_1 ev_var (ea_1 (ev_cb ev_var (o1_lenS (len_le hx))) ea_nil)) ⟨x, rfl, hx, rfl⟩) (wp_none rfl hn)
def F__check_rows : Pm Unit := fun _ cs R => ∃ (x y : Tx), cs = [⟨x⟩, ⟨y⟩] ∧ Row x ∧ Row y ∧ y.s.length = x.s.length ∧ R = Is ()
theorem sc__check_rows : FnScope ["one", "other"] ["one", "other"] (defScope s__check_rows) := ⟨rfl, rfl, rfl, by decide +kernel, rfl, by decide +kernel, by decide +kernel⟩
theorem ok__check_rows (T : Txt K mg) {f : Addr} {fd : FuncData} (D : Df K mg "_check_rows" s__check_rows ["one", "other"] f fd) {f_check_any_row : Addr} {fd_check_any_row : FuncData} (D_check_any_row : Df K mg "check_any_row" s_check_any_row ["row"] f_check_any_row fd_check_any_row) (G_check_any_row : FnOk P w K mg base CX0 4 f_check_any_row fd_check_any_row ["row"] (spD K F_check_any_row)) {f_check_row : Addr} {fd_check_row : FuncData} (D_check_row : Df K mg "check_row" s_check_row ["row", "many"] f_check_row fd_check_row) (G_check_row : FnOk P w K mg base CX0 3 f_check_row fd_check_row ["row", "many"] (spD K F_check_row)) : FnOk P w K mg base CX0 5 f fd ["one", "other"] (spD K F__check_rows) := by
  obtain ⟨_, hI_SHIFT⟩ := T.i_SHIFT
  obtain ⟨_, hI_LOW⟩ := T.i_LOW
  obtain ⟨_, hI_MAX_THINGS⟩ := T.i_MAX_THINGS
  refine def_ok D.F sc__check_rows (fun Γ cs R g => ?len) (fun cdv A outer s H E hr Γ cs R g => ?_)
  case len => obtain ⟨x, y, rfl, _⟩ := g; rfl
  obtain ⟨x, y, rfl, hx, hy, hl, rfl⟩ := g
  refine ⟨_, (pss_cons (ps_expr (pe_call G_check_any_row (hr.mono (by decide)) (by rfl) D_check_any_row.g D_check_any_row.kp D_check_any_row.b .nil pass0 (pa_cons (pv 0) pa_nil)))
      (pss_one (ps_expr (pe_call G_check_row (hr.mono (by decide)) (by rfl) D_check_row.g D_check_row.kp D_check_row.b .nil pass0 (pa_cons (pv 1) (pa_cons (pe_callB call_lenK (by rfl) T.z_len (by decide +kernel) (pa_cons (pv 0) pa_nil)) pa_nil)))))), fun Δ0 D' hf hn => ?_⟩
  refine wp_drop (ev_call1 (ea_1 ev_var ea_nil) ⟨x, rfl, hx, rfl⟩) ?_
  exact wp_dropL (ev_call1 (ea_1 (ev_var (i := 1)) (ea_1 (ev_cb (ev_var (i := 0)) (o1_lenS (len_le hx))) ea_nil)) ⟨y, by rw [hl], hy, rfl⟩) (wp_none rfl hn)
/-- the row turned at some things -/
def tnAt (x : Tx) (ts : List Int) : Tx := mk x.s.length fun i => if (i : Int) ∈ ts then sw (sg x i) else sg x i
def tn (x : Tx) : Tx := mk x.s.length fun i => sw (sg x i)
theorem tn_row {x : Tx} (h : Row x) : Row (tn x) := row_mk h.len fun i hi => by
  have q := h.sg hi
  revert q
  generalize sg x i = c
  intro q
  unfold isSign at q ⊢
  unfold sw
  simp only [Bool.or_eq_true, beq_iff_eq] at q ⊢
  split <;> (try split) <;> omega
theorem tnAt_row {x : Tx} {ts : List Int} (h : Row x) : Row (tnAt x ts) := row_mk h.len fun i hi => by
  have q := h.sg hi
  have q2 := (tn_row h).sg (i := i) (by rw [tn, mk_len]; exact hi)
  rw [tn, mk_sg hi] at q2
  split
  · exact q2
  · exact q
theorem getDx {n : Nat} {f : Nat → Nat} : True := trivial
theorem range_at {n i x : Nat} (h : (List.range n)[i]? = some x) : x = i ∧ i < n := by
  obtain ⟨h1, h2⟩ := List.getElem?_eq_some_iff.mp h
  rw [List.getElem_range] at h2
  rw [List.length_range] at h1
  exact ⟨h2.symm, h1⟩
/-- a row made sign by sign -/
theorem ev_mk {Γ : Own} {ρ : Z.Env} {te : TE} {wi : TI} {g : TG} {js vs : List Nat} {st : Nat → Z.Env → Z.Env} {z : Str} {n : Nat} {f : Nat → Nat} (hn : n ≤ 9) (S : Src K Γ wi g ρ js n st) (hjs : ∀ j ∈ js, j ∈ vs)
    (hs : ∀ i, i < n → Ev K Γ te (st i (wipeE ρ vs)) (Is (⟨[f i]⟩ : Tx))) (hz0 : z = "" := by rfl) :
    Ev K Γ (tM1 (rJoin K) (tC (.str z)) (tLc wi g tYes te vs)) ρ (Is (mk n f)) := by
  have S' : Src K Γ wi g ρ js (List.range n).length st := by rw [List.length_range]; exact S
  have h := ev_lcD (t := tYes) (te := te) (vs := vs) (xs := List.range n) (fun _ => true) (fun i => (⟨[f i]⟩ : Tx)) S' (by rw [List.length_range]; omega) hjs fun i x hx => by
    obtain ⟨rfl, hi⟩ := range_at hx
    exact ⟨et_yes, fun _ => hs x hi⟩
  rw [List.filter_eq_self.mpr (fun _ _ => rfl)] at h
  have h2 := ev_join (z := z) hz0 h (by rw [flat_len]; omega)
  rw [flat_mk] at h2
  exact h2
/-- the places with p, as a tuple -/
theorem ev_ix {Γ : Own} {ρ : Z.Env} {te : TE} {t : TT} {wi : TI} {g : TG} {js vs : List Nat} {st : Nat → Z.Env → Z.Env} {n : Nat} {p : Nat → Bool} (hn : n ≤ 9) (S : Src K Γ wi g ρ js n st) (hjs : ∀ j ∈ js, j ∈ vs)
    (hs : ∀ i, i < n → EvT K Γ t (st i (wipeE ρ vs)) (Is (p i)) ∧ Ev K Γ te (st i (wipeE ρ vs)) (Is (i : Int))) : Ev K Γ (tLc wi g t te vs) ρ (Is (ix n p)) := by
  have S' : Src K Γ wi g ρ js (List.range n).length st := by rw [List.length_range]; exact S
  exact ev_lcD (t := t) (te := te) (vs := vs) (xs := List.range n) p (fun i => ((i : Nat) : Int)) S' (by rw [List.length_range]; omega) hjs fun i x hx => by
    obtain ⟨rfl, hi⟩ := range_at hx
    exact ⟨(hs x hi).1, fun _ => (hs x hi).2⟩
theorem row1 {x : Tx} (h : Row x) {i : Nat} (hi : i < x.s.length) {Γ : Own} {ρ : Z.Env} {ta tb : TE} (h1 : Ev K Γ ta ρ (Is x)) (h2 : Ev K Γ tb ρ (Is (i : Int))) : Ev K Γ (tOp rIxS ta tb) ρ (Is (⟨[sg x i]⟩ : Tx)) := ev_op1 h1 h2 (o2_ixS (len_le h) (sg_at hi))
def F_turned : Pm Tx := fun _ cs R => (∃ x : Tx, cs = [⟨x⟩, ⟨()⟩] ∧ Row x ∧ R = Is (tn x)) ∨ ∃ (x : Tx) (t : Tup Int), cs = [⟨x⟩, ⟨t⟩] ∧ Row x ∧ ascF x.s.length 0 t.l = true ∧ R = Is (tnAt x t.l)
theorem sc_turned : FnScope ["row", "things", "whole", "at", "sign"] ["row", "things"] (defScope s_turned) := ⟨rfl, rfl, rfl, by decide +kernel, rfl, by decide +kernel, by decide +kernel⟩
theorem ok_turned (T : Txt K mg) {f : Addr} {fd : FuncData} (D : DfD K mg "turned" s_turned ["row", "things"] f fd) {f_check_any_row : Addr} {fd_check_any_row : FuncData} (D_check_any_row : Df K mg "check_any_row" s_check_any_row ["row"] f_check_any_row fd_check_any_row) (G_check_any_row : FnOk P w K mg base CX0 4 f_check_any_row fd_check_any_row ["row"] (spD K F_check_any_row)) {f_turned_signs : Addr} {fd_turned_signs : FuncData} (D_turned_signs : Df K mg "turned_signs" s_turned_signs ["signs"] f_turned_signs fd_turned_signs) (G_turned_signs : FnOk P w K mg base CX0 2 f_turned_signs fd_turned_signs ["signs"] (spD K F_turned_signs)) {f_check_things : Addr} {fd_check_things : FuncData} (D_check_things : Df K mg "check_things" s_check_things ["things", "many"] f_check_things fd_check_things) (G_check_things : FnOk P w K mg base CX0 5 f_check_things fd_check_things ["things", "many"] (spD K F_check_things)) : FnOk P w K mg base CX0 6 f fd ["row", "things"] (spD K F_turned) := by
  obtain ⟨_, hI_SHIFT⟩ := T.i_SHIFT
  obtain ⟨_, hI_LOW⟩ := T.i_LOW
  obtain ⟨_, hI_MAX_THINGS⟩ := T.i_MAX_THINGS
  refine def_ok D.F sc_turned (fun Γ cs R g => ?len) (fun cdv A outer s H E hr Γ cs R g => ?_)
  case len =>
    rcases g with ⟨x, rfl, _⟩ | ⟨x, t, rfl, _⟩
    · rfl
    · rfl
  refine ⟨_, (pss_cons (ps_expr (pe_call G_check_any_row (hr.mono (by decide)) (by rfl) D_check_any_row.g D_check_any_row.kp D_check_any_row.b .nil pass0 (pa_cons (pv 0) pa_nil)))
      (pss_cons (ps_set (i := 2) sc_turned.nd rfl (by first | exact .inl rfl | exact .inr rfl) (pe_call G_turned_signs (hr.mono (by decide)) (by rfl) D_turned_signs.g D_turned_signs.kp D_turned_signs.b .nil pass0 (pa_cons (pv 0) pa_nil)))
      (pss_cons (ps_if (pt_cmpR op_isN (pv 1) pe_non (nomark _)) (pss_one (ps_ret (pv 2))) pss_nil)
      (pss_cons (ps_expr (pe_call G_check_things (hr.mono (by decide)) (by rfl) D_check_things.g D_check_things.kp D_check_things.b .nil pass0 (pa_cons (pv 1) (pa_cons (pe_callB call_lenK (by rfl) T.z_len (by decide +kernel) (pa_cons (pv 0) pa_nil)) pa_nil))))
      (pss_one (ps_ret (pe_joinK pe_str (pe_lc (own := [("at", 3), ("sign", 4)]) (g := (gTup K 2 (gCons (gName 3) (gCons (gName 4) gNil)))) (tt := tYes) rfl sc_turned.nd (pi_enumS (by rfl) T.z_enumerate (pa_cons (pv 0) pa_nil)) (blkOk_by (N := ["row", "things", "whole", "at", "sign"]) (sc := defScope s_turned) (by decide +kernel)) (fun _ _ _ _ _ => (pg_tup rfl (pgs_cons (pg_name (i := 3) sc_turned.nd rfl (by first | exact .inl rfl | exact .inr rfl)) (pgs_cons (pg_name (i := 4) sc_turned.nd rfl (by first | exact .inl rfl | exact .inr rfl)) pgs_nil)))) (fun _ _ _ _ _ => pts_nil) (fun _ _ _ _ _ => (pe_ifExp (pt_cmpR op_inK (pv 3) (pv 1) (by rfl)) (pe_ix ix_str (pv 2) (pv 3) (fun _ _ => rfl)) (pv 4))))))))))), fun Δ0 D' hf hn => ?_⟩
  rcases g with ⟨x, rfl, hx, rfl⟩ | ⟨x, t, rfl, hx, ha, rfl⟩
  · refine wp_drop (ev_call1 (ea_1 (ev_var (i := 0)) ea_nil) ⟨x, rfl, hx, rfl⟩) ?_
    refine wp_asg1 (ev_call1 (ea_1 (ev_var (i := 0)) ea_nil) ⟨x, rfl, hx, rfl⟩) (ltr rfl) ?_
    refine wp_when (et_test (ev_isN (b := true) (ev_var (i := 1) (a := ())) (fun Δ H v r => by rw [show v = V.non from r]; rfl))) (fun _ => wp_ret hf (ev_var (i := 2))) (fun h => by cases h)
  · refine wp_drop (ev_call1 (ea_1 (ev_var (i := 0)) ea_nil) ⟨x, rfl, hx, rfl⟩) ?_
    refine wp_asg1 (ev_call1 (ea_1 (ev_var (i := 0)) ea_nil) ⟨x, rfl, hx, rfl⟩) (ltr rfl) ?_
    refine wp_when (et_test (ev_isN (b := false) (ev_var (i := 1) (a := t)) (fun Δ H v r => by obtain ⟨p, vs, rfl, _⟩ := r; rfl))) (fun h => by cases h) (fun _ => ?_)
    refine wp_drop (ev_call1 (ea_1 (ev_var (i := 1)) (ea_1 (ev_cb (ev_var (i := 0)) (o1_lenS (len_le hx))) ea_nil)) ⟨t, _, rfl, ha, rfl⟩) ?_
    refine wp_ret hf (ev_mk hx.len (src_enumS (ea_1 (ev_var (i := 0)) ea_nil) (fun i hi => sg_at hi) (ltr rfl) (ltr rfl)) (by decide) fun i hi => ?_)
    refine ev_if (et_test (ev_op1 (ev_var (i := 3)) (ev_var (i := 1) (a := t)) o2_inT)) (fun h => ?_) (fun h => ?_)
    · rw [if_pos (of_decide_eq_true h)]
      refine ev_is (row1 (tn_row hx) (i := i) (by rw [tn, mk_len]; exact hi) (ev_var (i := 2)) (ev_var (i := 3))) ?_
      rw [tn, mk_sg hi]
    · rw [if_neg (of_decide_eq_false h)]
      exact ev_var (i := 4)
def laidT (x y : Tx) : Tx := mk x.s.length fun i => if sg x i = 48 then sg y i else sg x i
theorem laid_row {x y : Tx} (h : Row x) (h2 : Row y) (hl : y.s.length = x.s.length) : Row (laidT x y) := row_mk h.len fun i hi => by
  split
  · exact h2.sg (by omega)
  · exact h.sg hi
/-- two rows of one size -/
structure Row2 (a b : Tx) : Prop where
  x : Row a
  y : Row b
  l : b.s.length = a.s.length
def F_laid_over : Pm Tx := fun _ cs R => ∃ (x y : Tx), cs = [⟨x⟩, ⟨y⟩] ∧ Row2 x y ∧ R = Is (laidT x y)
theorem sc_laid_over : FnScope ["one", "other", "at", "sign"] ["one", "other"] (defScope s_laid_over) := ⟨rfl, rfl, rfl, by decide +kernel, rfl, by decide +kernel, by decide +kernel⟩
theorem ok_laid_over (T : Txt K mg) {f : Addr} {fd : FuncData} (D : Df K mg "laid_over" s_laid_over ["one", "other"] f fd) {f__check_rows : Addr} {fd__check_rows : FuncData} (D__check_rows : Df K mg "_check_rows" s__check_rows ["one", "other"] f__check_rows fd__check_rows) (G__check_rows : FnOk P w K mg base CX0 5 f__check_rows fd__check_rows ["one", "other"] (spD K F__check_rows)) : FnOk P w K mg base CX0 6 f fd ["one", "other"] (spD K F_laid_over) := by
  obtain ⟨_, hI_SHIFT⟩ := T.i_SHIFT
  obtain ⟨_, hI_LOW⟩ := T.i_LOW
  obtain ⟨_, hI_MAX_THINGS⟩ := T.i_MAX_THINGS
  refine def_ok D.F sc_laid_over (fun Γ cs R g => ?len) (fun cdv A outer s H E hr Γ cs R g => ?_)
  case len => obtain ⟨x, y, rfl, _⟩ := g; rfl
  obtain ⟨x, y, rfl, hx, rfl⟩ := g
  refine ⟨_, (pss_cons (ps_expr (pe_call G__check_rows (hr.mono (by decide)) (by rfl) D__check_rows.g D__check_rows.kp D__check_rows.b .nil pass0 (pa_cons (pv 0) (pa_cons (pv 1) pa_nil))))
      (pss_one (ps_ret (pe_joinK pe_str (pe_lc (own := [("at", 2), ("sign", 3)]) (g := (gTup K 2 (gCons (gName 2) (gCons (gName 3) gNil)))) (tt := tYes) rfl sc_laid_over.nd (pi_enumS (by rfl) T.z_enumerate (pa_cons (pv 0) pa_nil)) (blkOk_by (N := ["one", "other", "at", "sign"]) (sc := defScope s_laid_over) (by decide +kernel)) (fun _ _ _ _ _ => (pg_tup rfl (pgs_cons (pg_name (i := 2) sc_laid_over.nd rfl (by first | exact .inl rfl | exact .inr rfl)) (pgs_cons (pg_name (i := 3) sc_laid_over.nd rfl (by first | exact .inl rfl | exact .inr rfl)) pgs_nil)))) (fun _ _ _ _ _ => pts_nil) (fun _ _ _ _ _ => (pe_ifExp (pt_cmpR op_eq (pv 3) pe_str (nomark _)) (pe_ix ix_str (pv 1) (pv 2) (fun _ _ => rfl)) (pv 3)))))))), fun Δ0 D' hf hn => ?_⟩
  refine wp_drop (ev_call1 (ea_1 (ev_var (i := 0)) (ea_1 (ev_var (i := 1)) ea_nil)) ⟨x, y, rfl, hx.x, hx.y, hx.l, rfl⟩) ?_
  refine wp_ret hf (ev_mk hx.x.len (src_enumS (ea_1 (ev_var (i := 0)) ea_nil) (fun i hi => sg_at hi) (ltr rfl) (ltr rfl)) (by decide) fun i hi => ?_)
  refine ev_if (et_test (ev_op1 (ev_var (i := 3)) (ev_strc [48]) o2_eqS)) (fun h => ?_) (fun h => ?_)
  · rw [if_pos (tx1.mp (of_decide_eq_true h))]
    exact row1 hx.y (by rw [hx.l]; exact hi) (ev_var (i := 1)) (ev_var (i := 2))
  · rw [if_neg (fun z => of_decide_eq_false h (tx1.mpr z))]
    exact ev_var (i := 3)
theorem tx_ne {a b : Nat} : (!decide ((⟨[a]⟩ : Tx) = ⟨[b]⟩)) = !decide (a = b) := by rw [decide_eq_decide.mpr tx1]
def F_are_apart_at : Pm Bool := fun _ cs R => ∃ (x y : Tx) (i : Nat), cs = [⟨x⟩, ⟨y⟩, ⟨(i : Int)⟩] ∧ Row2 x y ∧ i < x.s.length ∧ R = Is (ap (sg x i) (sg y i))
theorem sc_are_apart_at : FnScope ["one", "other", "thing"] ["one", "other", "thing"] (defScope s_are_apart_at) := ⟨rfl, rfl, rfl, by decide +kernel, rfl, by decide +kernel, by decide +kernel⟩
theorem ok_are_apart_at (T : Txt K mg) {f : Addr} {fd : FuncData} (D : Df K mg "are_apart_at" s_are_apart_at ["one", "other", "thing"] f fd) : FnOk P w K mg base CX0 2 f fd ["one", "other", "thing"] (spD K F_are_apart_at) := by
  obtain ⟨_, hI_SHIFT⟩ := T.i_SHIFT
  obtain ⟨_, hI_LOW⟩ := T.i_LOW
  obtain ⟨_, hI_MAX_THINGS⟩ := T.i_MAX_THINGS
  refine def_ok D.F sc_are_apart_at (fun Γ cs R g => ?len) (fun cdv A outer s H E hr Γ cs R g => ?_)
  case len => obtain ⟨x, y, i, rfl, _⟩ := g; rfl
  obtain ⟨x, y, i, rfl, hx, hi, rfl⟩ := g
  refine ⟨_, (pss_one (ps_ret (pe_and (pe_cmpR op_ne (pe_ix ix_str (pv 0) (pv 2) (fun _ _ => rfl)) pe_str (nomark _)) (pe_and (pe_cmpR op_ne (pe_ix ix_str (pv 1) (pv 2) (fun _ _ => rfl)) pe_str (nomark _)) (pe_one (pe_cmpR op_ne (pe_ix ix_str (pv 0) (pv 2) (fun _ _ => rfl)) (pe_ix ix_str (pv 1) (pv 2) (fun _ _ => rfl)) (nomark _))))))), fun Δ0 D' hf hn => wp_ret hf ?_⟩
  have e1 : Ev K Γ (tOp rIxS (tVar 0) (tVar 2)) (env0 ["one", "other", "thing"] [⟨x⟩, ⟨y⟩, ⟨(i : Int)⟩]) (Is (⟨[sg x i]⟩ : Tx)) := row1 hx.x hi (ev_var (i := 0)) (ev_var (i := 2))
  have e2 : Ev K Γ (tOp rIxS (tVar 1) (tVar 2)) (env0 ["one", "other", "thing"] [⟨x⟩, ⟨y⟩, ⟨(i : Int)⟩]) (Is (⟨[sg y i]⟩ : Tx)) := row1 hx.y (by rw [hx.l]; exact hi) (ev_var (i := 1)) (ev_var (i := 2))
  refine ev_is (ev_andV (ev_op1 e1 (ev_strc [48]) o2_neS) fun _ => ev_andV (ev_op1 e2 (ev_strc [48]) o2_neS) fun _ => ev_op1 e1 e2 o2_neS) ?_
  rw [tx_ne, tx_ne, tx_ne]
  rfl
/-- where two rows are apart -/
def apI (x y : Tx) : List Int := ix x.s.length fun i => ap (sg x i) (sg y i)
def F_apart : Pm (Tup Int) := fun _ cs R => ∃ (x y : Tx), cs = [⟨x⟩, ⟨y⟩] ∧ Row2 x y ∧ R = Is ⟨apI x y⟩
theorem sc_apart : FnScope ["one", "other", "thing"] ["one", "other"] (defScope s_apart) := ⟨rfl, rfl, rfl, by decide +kernel, rfl, by decide +kernel, by decide +kernel⟩
theorem ok_apart (T : Txt K mg) {f : Addr} {fd : FuncData} (D : Df K mg "apart" s_apart ["one", "other"] f fd) {f__check_rows : Addr} {fd__check_rows : FuncData} (D__check_rows : Df K mg "_check_rows" s__check_rows ["one", "other"] f__check_rows fd__check_rows) (G__check_rows : FnOk P w K mg base CX0 5 f__check_rows fd__check_rows ["one", "other"] (spD K F__check_rows)) {f_are_apart_at : Addr} {fd_are_apart_at : FuncData} (D_are_apart_at : Df K mg "are_apart_at" s_are_apart_at ["one", "other", "thing"] f_are_apart_at fd_are_apart_at) (G_are_apart_at : FnOk P w K mg base CX0 2 f_are_apart_at fd_are_apart_at ["one", "other", "thing"] (spD K F_are_apart_at)) : FnOk P w K mg base CX0 6 f fd ["one", "other"] (spD K F_apart) := by
  obtain ⟨_, hI_SHIFT⟩ := T.i_SHIFT
  obtain ⟨_, hI_LOW⟩ := T.i_LOW
  obtain ⟨_, hI_MAX_THINGS⟩ := T.i_MAX_THINGS
  refine def_ok D.F sc_apart (fun Γ cs R g => ?len) (fun cdv A outer s H E hr Γ cs R g => ?_)
  case len => obtain ⟨x, y, rfl, _⟩ := g; rfl
  obtain ⟨x, y, rfl, hx, rfl⟩ := g
  refine ⟨_, (pss_cons (ps_expr (pe_call G__check_rows (hr.mono (by decide)) (by rfl) D__check_rows.g D__check_rows.kp D__check_rows.b .nil pass0 (pa_cons (pv 0) (pa_cons (pv 1) pa_nil))))
      (pss_one (ps_ret (pe_callTy call_tupK (by rfl) T.z_tuple (by decide +kernel) (pa_cons (pe_lc (own := [("thing", 2)]) (g := (gName 2)) (tt := _) rfl sc_apart.nd (pi_range1 (by rfl) T.z_range (pa_cons (pe_callB call_lenK (by rfl) T.z_len (by decide +kernel) (pa_cons (pv 0) pa_nil)) pa_nil)) (blkOk_by (N := ["one", "other", "thing"]) (sc := defScope s_apart) (by decide +kernel)) (fun _ _ _ _ _ => (pg_name (i := 2) sc_apart.nd rfl (by first | exact .inl rfl | exact .inr rfl))) (fun _ _ _ _ _ => (pts_one (pt_val (pe_call G_are_apart_at (hr.mono (by decide)) (by rfl) D_are_apart_at.g D_are_apart_at.kp D_are_apart_at.b .nil pass0 (pa_cons (pv 0) (pa_cons (pv 1) (pa_cons (pv 2) pa_nil))))))) (fun _ _ _ _ _ => (pv 2))) pa_nil))))), fun Δ0 D' hf hn => ?_⟩
  refine wp_drop (ev_call1 (ea_1 (ev_var (i := 0)) (ea_1 (ev_var (i := 1)) ea_nil)) ⟨x, y, rfl, hx.x, hx.y, hx.l, rfl⟩) ?_
  refine wp_ret hf (ev_cb (ev_ix hx.x.len (src_rng1 (n := x.s.length) (ea_1 (ev_cb (ev_var (i := 0)) (o1_lenS (len_le hx.x))) ea_nil) (len_le hx.x) (ltr rfl)) (by decide) fun i hi => ⟨?_, ev_var (i := 2)⟩) o1_tuple)
  exact et_B (ev_call1 (ea_1 (ev_var (i := 0)) (ea_1 (ev_var (i := 1)) (ea_1 (ev_var (i := 2)) ea_nil))) ⟨x, y, i, rfl, hx, hi, rfl⟩)
theorem dec_zero {n : Nat} : decide ((n : Int) = 0) = decide (n = 0) := by rw [decide_eq_decide]; omega
def F__is_code_upright : Pm Bool := fun _ cs R => ∃ (a b : Nat), cs = [⟨(a : Int)⟩, ⟨(b : Int)⟩] ∧ R = Is (decide (decide (a &&& b = 0) = decide (a &&& tcode b = 0)))
theorem sc__is_code_upright : FnScope ["one", "other"] ["one", "other"] (defScope s__is_code_upright) := ⟨rfl, rfl, rfl, by decide +kernel, rfl, by decide +kernel, by decide +kernel⟩
theorem ok__is_code_upright (T : Txt K mg) {f : Addr} {fd : FuncData} (D : Df K mg "_is_code_upright" s__is_code_upright ["one", "other"] f fd) {f_turned_code : Addr} {fd_turned_code : FuncData} (D_turned_code : Df K mg "turned_code" s_turned_code ["code"] f_turned_code fd_turned_code) (G_turned_code : FnOk P w K mg base CX0 2 f_turned_code fd_turned_code ["code"] (spD K F_turned_code)) : FnOk P w K mg base CX0 3 f fd ["one", "other"] (spD K F__is_code_upright) := by
  obtain ⟨_, hI_SHIFT⟩ := T.i_SHIFT
  obtain ⟨_, hI_LOW⟩ := T.i_LOW
  obtain ⟨_, hI_MAX_THINGS⟩ := T.i_MAX_THINGS
  refine def_ok D.F sc__is_code_upright (fun Γ cs R g => ?len) (fun cdv A outer s H E hr Γ cs R g => ?_)
  case len => obtain ⟨x, y, rfl, _⟩ := g; rfl
  obtain ⟨a, b, rfl, rfl⟩ := g
  refine ⟨_, (pss_one (ps_ret (pe_cmpR op_eq (pe_cmpR op_eq (pe_op op_and (pv 0) (pv 1)) pe_int (nomark _)) (pe_cmpR op_eq (pe_op op_and (pv 0) (pe_call G_turned_code (hr.mono (by decide)) (by rfl) D_turned_code.g D_turned_code.kp D_turned_code.b .nil pass0 (pa_cons (pv 1) pa_nil))) pe_int (nomark _)) (nomark _)))), fun Δ0 D' hf hn => wp_ret hf ?_⟩
  refine ev_is (ev_op1 (ev_op1 (ev_op1 (ev_var (i := 0)) (ev_var (i := 1)) (o2_I0 (g := Builtin.bitAnd))) ev_int o2_eqI) (ev_op1 (ev_op1 (ev_var (i := 0)) (ev_call1 (ea_1 (ev_var (i := 1)) ea_nil) ⟨b, rfl, rfl⟩) (o2_I0 (g := Builtin.bitAnd))) ev_int o2_eqI) o2_eqB) ?_
  rw [and_nn, and_nn, dec_zero, dec_zero]
def F_is_upright : Pm Bool := fun _ cs R => ∃ (x y : Tx), cs = [⟨x⟩, ⟨y⟩] ∧ Row2 x y ∧ R = Is (upr x y)
theorem sc_is_upright : FnScope ["one", "other"] ["one", "other"] (defScope s_is_upright) := ⟨rfl, rfl, rfl, by decide +kernel, rfl, by decide +kernel, by decide +kernel⟩
theorem ok_is_upright (T : Txt K mg) {f : Addr} {fd : FuncData} (D : Df K mg "is_upright" s_is_upright ["one", "other"] f fd) {f__check_rows : Addr} {fd__check_rows : FuncData} (D__check_rows : Df K mg "_check_rows" s__check_rows ["one", "other"] f__check_rows fd__check_rows) (G__check_rows : FnOk P w K mg base CX0 5 f__check_rows fd__check_rows ["one", "other"] (spD K F__check_rows)) {f__is_code_upright : Addr} {fd__is_code_upright : FuncData} (D__is_code_upright : Df K mg "_is_code_upright" s__is_code_upright ["one", "other"] f__is_code_upright fd__is_code_upright) (G__is_code_upright : FnOk P w K mg base CX0 3 f__is_code_upright fd__is_code_upright ["one", "other"] (spD K F__is_code_upright)) {f_code_of : Addr} {fd_code_of : FuncData} (D_code_of : Df K mg "code_of" s_code_of ["row"] f_code_of fd_code_of) (G_code_of : FnOk P w K mg base CX0 2 f_code_of fd_code_of ["row"] (spD K F_code_of)) : FnOk P w K mg base CX0 6 f fd ["one", "other"] (spD K F_is_upright) := by
  obtain ⟨_, hI_SHIFT⟩ := T.i_SHIFT
  obtain ⟨_, hI_LOW⟩ := T.i_LOW
  obtain ⟨_, hI_MAX_THINGS⟩ := T.i_MAX_THINGS
  refine def_ok D.F sc_is_upright (fun Γ cs R g => ?len) (fun cdv A outer s H E hr Γ cs R g => ?_)
  case len => obtain ⟨x, y, rfl, _⟩ := g; rfl
  obtain ⟨x, y, rfl, hx, rfl⟩ := g
  refine ⟨_, (pss_cons (ps_expr (pe_call G__check_rows (hr.mono (by decide)) (by rfl) D__check_rows.g D__check_rows.kp D__check_rows.b .nil pass0 (pa_cons (pv 0) (pa_cons (pv 1) pa_nil))))
      (pss_one (ps_ret (pe_call G__is_code_upright (hr.mono (by decide)) (by rfl) D__is_code_upright.g D__is_code_upright.kp D__is_code_upright.b .nil pass0 (pa_cons (pe_call G_code_of (hr.mono (by decide)) (by rfl) D_code_of.g D_code_of.kp D_code_of.b .nil pass0 (pa_cons (pv 0) pa_nil)) (pa_cons (pe_call G_code_of (hr.mono (by decide)) (by rfl) D_code_of.g D_code_of.kp D_code_of.b .nil pass0 (pa_cons (pv 1) pa_nil)) pa_nil)))))), fun Δ0 D' hf hn => ?_⟩
  refine wp_drop (ev_call1 (ea_1 (ev_var (i := 0)) (ea_1 (ev_var (i := 1)) ea_nil)) ⟨x, y, rfl, hx.x, hx.y, hx.l, rfl⟩) ?_
  exact wp_ret hf (ev_call1 (ea_1 (ev_call1 (ea_1 (ev_var (i := 0)) ea_nil) ⟨x, rfl, hx.x.len, rfl⟩) (ea_1 (ev_call1 (ea_1 (ev_var (i := 1)) ea_nil) ⟨y, rfl, hx.y.len, rfl⟩) ea_nil)) ⟨codeT x, codeT y, rfl, rfl⟩)
def hasI (x : Tx) : List Int := ix x.s.length fun i => !decide (sg x i = 48)
def zerI (x : Tx) : List Int := ix x.s.length fun i => decide (sg x i = 48)
def F_things_of : Pm (Tup Int) := fun _ cs R => ∃ (x : Tx), cs = [⟨x⟩] ∧ Row x ∧ R = Is ⟨hasI x⟩
theorem sc_things_of : FnScope ["row", "thing", "sign"] ["row"] (defScope s_things_of) := ⟨rfl, rfl, rfl, by decide +kernel, rfl, by decide +kernel, by decide +kernel⟩
theorem ok_things_of (T : Txt K mg) {f : Addr} {fd : FuncData} (D : Df K mg "things_of" s_things_of ["row"] f fd) {f_check_any_row : Addr} {fd_check_any_row : FuncData} (D_check_any_row : Df K mg "check_any_row" s_check_any_row ["row"] f_check_any_row fd_check_any_row) (G_check_any_row : FnOk P w K mg base CX0 4 f_check_any_row fd_check_any_row ["row"] (spD K F_check_any_row)) : FnOk P w K mg base CX0 5 f fd ["row"] (spD K F_things_of) := by
  obtain ⟨_, hI_SHIFT⟩ := T.i_SHIFT
  obtain ⟨_, hI_LOW⟩ := T.i_LOW
  obtain ⟨_, hI_MAX_THINGS⟩ := T.i_MAX_THINGS
  refine def_ok D.F sc_things_of (fun Γ cs R g => ?len) (fun cdv A outer s H E hr Γ cs R g => ?_)
  case len => obtain ⟨x, rfl, _⟩ := g; rfl
  obtain ⟨x, rfl, hx, rfl⟩ := g
  refine ⟨_, (pss_cons (ps_expr (pe_call G_check_any_row (hr.mono (by decide)) (by rfl) D_check_any_row.g D_check_any_row.kp D_check_any_row.b .nil pass0 (pa_cons (pv 0) pa_nil)))
      (pss_one (ps_ret (pe_callTy call_tupK (by rfl) T.z_tuple (by decide +kernel) (pa_cons (pe_lc (own := [("thing", 1), ("sign", 2)]) (g := (gTup K 2 (gCons (gName 1) (gCons (gName 2) gNil)))) (tt := _) rfl sc_things_of.nd (pi_enumS (by rfl) T.z_enumerate (pa_cons (pv 0) pa_nil)) (blkOk_by (N := ["row", "thing", "sign"]) (sc := defScope s_things_of) (by decide +kernel)) (fun _ _ _ _ _ => (pg_tup rfl (pgs_cons (pg_name (i := 1) sc_things_of.nd rfl (by first | exact .inl rfl | exact .inr rfl)) (pgs_cons (pg_name (i := 2) sc_things_of.nd rfl (by first | exact .inl rfl | exact .inr rfl)) pgs_nil)))) (fun _ _ _ _ _ => (pts_one (pt_cmpR op_ne (pv 2) pe_str (nomark _)))) (fun _ _ _ _ _ => (pv 1))) pa_nil))))), fun Δ0 D' hf hn => ?_⟩
  refine wp_drop (ev_call1 (ea_1 (ev_var (i := 0)) ea_nil) ⟨x, rfl, hx, rfl⟩) ?_
  exact wp_ret hf (ev_cb (ev_ix hx.len (src_enumS (ea_1 (ev_var (i := 0)) ea_nil) (fun i hi => sg_at hi) (ltr rfl) (ltr rfl)) (by decide) fun i hi => ⟨et_is (et_test (ev_op1 (ev_var (i := 2)) (ev_strc [48]) o2_neS)) tx_ne, ev_var (i := 1)⟩) o1_tuple)
def F_zeros_of : Pm (Tup Int) := fun _ cs R => ∃ (x : Tx), cs = [⟨x⟩] ∧ Row x ∧ R = Is ⟨zerI x⟩
theorem sc_zeros_of : FnScope ["row", "thing", "sign"] ["row"] (defScope s_zeros_of) := ⟨rfl, rfl, rfl, by decide +kernel, rfl, by decide +kernel, by decide +kernel⟩
theorem ok_zeros_of (T : Txt K mg) {f : Addr} {fd : FuncData} (D : Df K mg "zeros_of" s_zeros_of ["row"] f fd) {f_check_any_row : Addr} {fd_check_any_row : FuncData} (D_check_any_row : Df K mg "check_any_row" s_check_any_row ["row"] f_check_any_row fd_check_any_row) (G_check_any_row : FnOk P w K mg base CX0 4 f_check_any_row fd_check_any_row ["row"] (spD K F_check_any_row)) : FnOk P w K mg base CX0 5 f fd ["row"] (spD K F_zeros_of) := by
  obtain ⟨_, hI_SHIFT⟩ := T.i_SHIFT
  obtain ⟨_, hI_LOW⟩ := T.i_LOW
  obtain ⟨_, hI_MAX_THINGS⟩ := T.i_MAX_THINGS
  refine def_ok D.F sc_zeros_of (fun Γ cs R g => ?len) (fun cdv A outer s H E hr Γ cs R g => ?_)
  case len => obtain ⟨x, rfl, _⟩ := g; rfl
  obtain ⟨x, rfl, hx, rfl⟩ := g
  refine ⟨_, (pss_cons (ps_expr (pe_call G_check_any_row (hr.mono (by decide)) (by rfl) D_check_any_row.g D_check_any_row.kp D_check_any_row.b .nil pass0 (pa_cons (pv 0) pa_nil)))
      (pss_one (ps_ret (pe_callTy call_tupK (by rfl) T.z_tuple (by decide +kernel) (pa_cons (pe_lc (own := [("thing", 1), ("sign", 2)]) (g := (gTup K 2 (gCons (gName 1) (gCons (gName 2) gNil)))) (tt := _) rfl sc_zeros_of.nd (pi_enumS (by rfl) T.z_enumerate (pa_cons (pv 0) pa_nil)) (blkOk_by (N := ["row", "thing", "sign"]) (sc := defScope s_zeros_of) (by decide +kernel)) (fun _ _ _ _ _ => (pg_tup rfl (pgs_cons (pg_name (i := 1) sc_zeros_of.nd rfl (by first | exact .inl rfl | exact .inr rfl)) (pgs_cons (pg_name (i := 2) sc_zeros_of.nd rfl (by first | exact .inl rfl | exact .inr rfl)) pgs_nil)))) (fun _ _ _ _ _ => (pts_one (pt_cmpR op_eq (pv 2) pe_str (nomark _)))) (fun _ _ _ _ _ => (pv 1))) pa_nil))))), fun Δ0 D' hf hn => ?_⟩
  refine wp_drop (ev_call1 (ea_1 (ev_var (i := 0)) ea_nil) ⟨x, rfl, hx, rfl⟩) ?_
  exact wp_ret hf (ev_cb (ev_ix hx.len (src_enumS (ea_1 (ev_var (i := 0)) ea_nil) (fun i hi => sg_at hi) (ltr rfl) (ltr rfl)) (by decide) fun i hi => ⟨et_is (et_test (ev_op1 (ev_var (i := 2)) (ev_strc [48]) o2_eqS)) (decide_eq_decide.mpr tx1), ev_var (i := 1)⟩) o1_tuple)
/-- thing k of a lot, as a place -/
def thAt (ts : List Int) (k : Nat) : Nat := (ts.getD k 0).toNat
theorem thAt_ok {ts : List Int} {n : Int} {k : Nat} (h : ascF n 0 ts = true) (hk : k < ts.length) : ts[k]? = some ((thAt ts k : Nat) : Int) ∧ ((thAt ts k : Nat) : Int) < n := by
  have e : ts.getD k 0 = ts[k] := by rw [List.getD_eq_getElem?_getD, List.getElem?_eq_getElem hk]; rfl
  have hb := ascF_all h _ (List.getElem_mem hk)
  unfold thAt
  rw [e, Int.toNat_of_nonneg hb.1]
  exact ⟨List.getElem?_eq_getElem hk, hb.2⟩
def sigsT (x : Tx) (ts : List Int) : Tx := mk ts.length fun k => sg x (thAt ts k)
def F_signs_at : Pm Tx := fun _ cs R => ∃ (x : Tx) (t : Tup Int), cs = [⟨x⟩, ⟨t⟩] ∧ Row x ∧ ascF x.s.length 0 t.l = true ∧ t.l.length ≤ 9 ∧ R = Is (sigsT x t.l)
theorem sc_signs_at : FnScope ["row", "things", "thing"] ["row", "things"] (defScope s_signs_at) := ⟨rfl, rfl, rfl, by decide +kernel, rfl, by decide +kernel, by decide +kernel⟩
theorem ok_signs_at (T : Txt K mg) {f : Addr} {fd : FuncData} (D : Df K mg "signs_at" s_signs_at ["row", "things"] f fd) {f_check_any_row : Addr} {fd_check_any_row : FuncData} (D_check_any_row : Df K mg "check_any_row" s_check_any_row ["row"] f_check_any_row fd_check_any_row) (G_check_any_row : FnOk P w K mg base CX0 4 f_check_any_row fd_check_any_row ["row"] (spD K F_check_any_row)) {f_check_things : Addr} {fd_check_things : FuncData} (D_check_things : Df K mg "check_things" s_check_things ["things", "many"] f_check_things fd_check_things) (G_check_things : FnOk P w K mg base CX0 5 f_check_things fd_check_things ["things", "many"] (spD K F_check_things)) : FnOk P w K mg base CX0 6 f fd ["row", "things"] (spD K F_signs_at) := by
  obtain ⟨_, hI_SHIFT⟩ := T.i_SHIFT
  obtain ⟨_, hI_LOW⟩ := T.i_LOW
  obtain ⟨_, hI_MAX_THINGS⟩ := T.i_MAX_THINGS
  refine def_ok D.F sc_signs_at (fun Γ cs R g => ?len) (fun cdv A outer s H E hr Γ cs R g => ?_)
  case len => obtain ⟨x, t, rfl, _⟩ := g; rfl
  obtain ⟨x, t, rfl, hx, ha, hl, rfl⟩ := g
  refine ⟨_, (pss_cons (ps_expr (pe_call G_check_any_row (hr.mono (by decide)) (by rfl) D_check_any_row.g D_check_any_row.kp D_check_any_row.b .nil pass0 (pa_cons (pv 0) pa_nil)))
      (pss_cons (ps_expr (pe_call G_check_things (hr.mono (by decide)) (by rfl) D_check_things.g D_check_things.kp D_check_things.b .nil pass0 (pa_cons (pv 1) (pa_cons (pe_callB call_lenK (by rfl) T.z_len (by decide +kernel) (pa_cons (pv 0) pa_nil)) pa_nil))))
      (pss_one (ps_ret (pe_joinK pe_str (pe_lc (own := [("thing", 2)]) (g := (gName 2)) (tt := tYes) rfl sc_signs_at.nd (pi_tupK (pv 1)) (blkOk_by (N := ["row", "things", "thing"]) (sc := defScope s_signs_at) (by decide +kernel)) (fun _ _ _ _ _ => (pg_name (i := 2) sc_signs_at.nd rfl (by first | exact .inl rfl | exact .inr rfl))) (fun _ _ _ _ _ => pts_nil) (fun _ _ _ _ _ => (pe_ix ix_str (pv 0) (pv 2) (fun _ _ => rfl))))))))), fun Δ0 D' hf hn => ?_⟩
  refine wp_drop (ev_call1 (ea_1 (ev_var (i := 0)) ea_nil) ⟨x, rfl, hx, rfl⟩) ?_
  refine wp_drop (ev_call1 (ea_1 (ev_var (i := 1)) (ea_1 (ev_cb (ev_var (i := 0)) (o1_lenS (len_le hx))) ea_nil)) ⟨t, _, rfl, ha, rfl⟩) ?_
  refine wp_ret hf (ev_mk hl (src_tup (x0 := fun k => ((thAt t.l k : Nat) : Int)) (ev_var (i := 1) (a := t)) (fun k hk => (thAt_ok ha hk).1) (ltr rfl)) (by decide) fun i hi => ?_)
  have hb := (thAt_ok ha hi).2
  exact row1 hx (by omega) (ev_var (i := 0)) (ev_var (i := 2))
/-- what stands at place i behind k turns -/
def spAt (x : Tx) (ts : List Int) : Nat → Nat → Nat
  | 0, _ => 48
  | k + 1, i => if i = thAt ts k then sg x k else spAt x ts k i
def spList (x : Tx) (ts : List Int) (m k : Nat) : List Tx := (List.range m).map fun i => ⟨[spAt x ts k i]⟩
abbrev vsOf (xs : List Tx) : List V := (xs.map fun x => (⟨x.s.toArray⟩ : Str)).map V.str
theorem sp_zero {x : Tx} {ts : List Int} {m : Nat} : vsOf (spList x ts m 0) = List.replicate m (V.str "0") := by
  unfold vsOf spList
  rw [List.map_map, List.map_map]
  apply List.ext_getElem?
  intro i
  by_cases h : i < m
  · simp [h, spAt]
    rfl
  · rw [List.getElem?_eq_none (by simp; omega), List.getElem?_eq_none (by simp; omega)]
theorem sp_succ {x : Tx} {ts : List Int} {m k : Nat} : (vsOf (spList x ts m k)).set (thAt ts k) (V.str ⟨(⟨[sg x k]⟩ : Tx).s.toArray⟩) = vsOf (spList x ts m (k + 1)) := by
  unfold vsOf spList
  rw [List.map_map, List.map_map, List.map_map, List.map_map]
  apply List.ext_getElem?
  intro i
  by_cases h : i < m
  · by_cases hi : thAt ts k = i
    · subst hi
      simp [h, spAt]
    · have hi' : ¬ i = thAt ts k := fun z => hi z.symm
      rw [List.getElem?_set_ne hi]
      simp [h, spAt, hi']
  · rw [List.getElem?_eq_none (by simp; omega), List.getElem?_eq_none (by simp; omega)]
def sprT (x : Tx) (ts : List Int) (m : Nat) : Tx := mk m (spAt x ts ts.length)
abbrev IvS (Γ : Own) (p : Addr) (x : Tx) (t : Tup Int) (m : Nat) : Nat → Own → Z.Env → Prop := fun k Γ' ρ' => Γ' = (p, LstIs (vsOf (spList x t.l m k))) :: Γ ∧ ∃ a b, ρ' = [some ⟨x⟩, some ⟨t⟩, some ⟨(m : Int)⟩, some ⟨(⟨p⟩ : Z.Loc)⟩, a, b]
def F_spread : Pm Tx := fun _ cs R => ∃ (x : Tx) (t : Tup Int) (m : Nat), cs = [⟨x⟩, ⟨t⟩, ⟨(m : Int)⟩] ∧ Row x ∧ t.l.length = x.s.length ∧ ascF 9 0 t.l = true ∧ ascF m 0 t.l = true ∧ m ≤ 9 ∧ R = Is (sprT x t.l m)
theorem sc_spread : FnScope ["row", "things", "many", "signs", "at", "thing"] ["row", "things", "many"] (defScope s_spread) := ⟨rfl, rfl, rfl, by decide +kernel, rfl, by decide +kernel, by decide +kernel⟩
theorem ok_spread (T : Txt K mg) {f : Addr} {fd : FuncData} (D : Df K mg "spread" s_spread ["row", "things", "many"] f fd) {f_check_any_row : Addr} {fd_check_any_row : FuncData} (D_check_any_row : Df K mg "check_any_row" s_check_any_row ["row"] f_check_any_row fd_check_any_row) (G_check_any_row : FnOk P w K mg base CX0 4 f_check_any_row fd_check_any_row ["row"] (spD K F_check_any_row)) {f_check_things : Addr} {fd_check_things : FuncData} (D_check_things : Df K mg "check_things" s_check_things ["things", "many"] f_check_things fd_check_things) (G_check_things : FnOk P w K mg base CX0 5 f_check_things fd_check_things ["things", "many"] (spD K F_check_things)) {f_is_between : Addr} {fd_is_between : FuncData} (D_is_between : Df K mg "is_between" s_is_between ["value", "least", "most"] f_is_between fd_is_between) (G_is_between : FnOk P w K mg base CX0 3 f_is_between fd_is_between ["value", "least", "most"] (spD K F_is_between)) {f_is_ascending : Addr} {fd_is_ascending : FuncData} (D_is_ascending : Df K mg "is_ascending" s_is_ascending ["value", "many"] f_is_ascending fd_is_ascending) (G_is_ascending : FnOk P w K mg base CX0 4 f_is_ascending fd_is_ascending ["value", "many"] (spD K F_is_ascending)) : FnOk P w K mg base CX0 6 f fd ["row", "things", "many"] (spD K F_spread) := by
  obtain ⟨_, hI_SHIFT⟩ := T.i_SHIFT
  obtain ⟨_, hI_LOW⟩ := T.i_LOW
  obtain ⟨_, hI_MAX_THINGS⟩ := T.i_MAX_THINGS
  refine def_ok D.F sc_spread (fun Γ cs R g => ?len) (fun cdv A outer s H E hr Γ cs R g => ?_)
  case len => obtain ⟨x, t, m, rfl, _⟩ := g; rfl
  obtain ⟨x, t, m, rfl, hx, hl, ha, hb, hm, rfl⟩ := g
  refine ⟨_, (pss_cons (ps_expr (pe_call G_check_any_row (hr.mono (by decide)) (by rfl) D_check_any_row.g D_check_any_row.kp D_check_any_row.b .nil pass0 (pa_cons (pv 0) pa_nil)))
      (pss_cons (ps_expr (pe_call G_check_things (hr.mono (by decide)) (by rfl) D_check_things.g D_check_things.kp D_check_things.b .nil pass0 (pa_cons (pv 1) (pa_cons (pe_glob (v := .int 9) rfl hI_MAX_THINGS ⟨_, rfl⟩) pa_nil))))
      (pss_cons (ps_if (pt_cmpR op_ne (pe_callB call_lenK (by rfl) T.z_len (by decide +kernel) (pa_cons (pv 1) pa_nil)) (pe_callB call_lenK (by rfl) T.z_len (by decide +kernel) (pa_cons (pv 0) pa_nil)) (nomark _)) (pss_one ps_never) pss_nil)
      (pss_cons (ps_if (PW.pt (pw_or (pt_not (pt_val (pe_call G_is_between (hr.mono (by decide)) (by rfl) D_is_between.g D_is_between.kp D_is_between.b .nil pass0 (pa_cons (pv 2) (pa_cons pe_int (pa_cons (pe_glob (v := .int 9) rfl hI_MAX_THINGS ⟨_, rfl⟩) pa_nil)))))) (pw_or1 (pt_not (pt_val (pe_call G_is_ascending (hr.mono (by decide)) (by rfl) D_is_ascending.g D_is_ascending.kp D_is_ascending.b .nil pass0 (pa_cons (pv 1) (pa_cons (pv 2) pa_nil)))))))) (pss_one ps_never) pss_nil)
      (pss_cons (ps_set (i := 3) sc_spread.nd rfl (by first | exact .inl rfl | exact .inr rfl) (pe_op op_rep (pe_lst (pa_cons pe_str pa_nil)) (pv 2)))
      (pss_cons (ps_for PassesOwn.never rfl (pi_enumT (by rfl) T.z_enumerate (pa_cons (pv 1) pa_nil)) (pg_tup rfl (pgs_cons (pg_name (i := 4) sc_spread.nd rfl (by first | exact .inl rfl | exact .inr rfl)) (pgs_cons (pg_name (i := 5) sc_spread.nd rfl (by first | exact .inl rfl | exact .inr rfl)) pgs_nil)))
        (pss_one (ps_asg (pe_ix ix_str (pv 0) (pv 4) (fun _ _ => rfl)) (pg_sub (pv 3) (pv 5) set_list))))
      (pss_one (ps_ret (pe_joinK pe_str (pv 3)))))))))), fun Δ0 D' hf hn => ?_⟩
  refine wp_drop (ev_call1 (ea_1 (ev_var (i := 0)) ea_nil) ⟨x, rfl, hx, rfl⟩) ?_
  refine wp_drop (ev_call1 (ea_1 (ev_var (i := 1)) (ea_1 ev_int ea_nil)) ⟨t, _, rfl, ha, rfl⟩) ?_
  refine wp_no ?_ (et_test (ev_op1 (ev_cb (ev_var (i := 1) (a := t)) o1_lenT) (ev_cb (ev_var (i := 0)) (o1_lenS (len_le hx))) o2_neI)) ?_
  · rw [hl, decide_eq_true rfl]
    rfl
  refine wp_no ?_ (et_or (et_not (et_B (ev_call1 (ea_1 (ev_var (i := 2)) (ea_1 ev_int (ea_1 ev_int ea_nil))) ⟨_, _, _, rfl, rfl⟩))) fun _ => et_not (et_B (ev_call1 (ea_1 (ev_var (i := 1)) (ea_1 (ev_var (i := 2)) ea_nil)) ⟨t, _, rfl, rfl⟩))) ?_
  · rw [hb, decide_eq_true (by omega), decide_eq_true (by omega)]
    rfl
  refine wp_rep (ev_var (i := 2)) (by omega) (ltr rfl) fun p hp => ?_
  rw [← sp_zero (x := x) (ts := t.l)]
  refine wp_for (IvS Γ p x t m) (src_enumT (x0 := fun k => ((thAt t.l k : Nat) : Int)) (ea_1 (ev_var (i := 1)) ea_nil) (fun k hk => (thAt_ok hb hk).1) (ltr rfl) (ltr rfl)) ⟨rfl, none, none, rfl⟩ (fun i Γ' ρ' h => by obtain ⟨_, a, b, rfl⟩ := h; rfl) ?_ ?_
  · rintro k Γ' ρ' F' hk ⟨rfl, a, b, rfl⟩
    have hb' := (thAt_ok hb hk).2
    refine wp_put hp (row1 hx (i := k) (by omega) (ev_var (i := 0)) (ev_var (i := 4))) (ev_var (i := 3)) (ev_var (i := 5)) (by unfold vsOf spList; simp; omega) ?_
    rw [sp_succ]
    exact wp_turn (Iv := IvS Γ p x t m) ⟨rfl, some ⟨(k : Int)⟩, some ⟨((thAt t.l k : Nat) : Int)⟩, rfl⟩ rfl
  · rintro Γ' ρ' F' ⟨rfl, a, b, rfl⟩
    refine wp_ret hf (ev_is (ev_joinO (ev_var (i := 3)) ?_) ?_)
    · unfold spList
      rw [flat_len]
      omega
    · exact flat_mk
end
end K00

set_option Elab.async false
set_option linter.all false
set_option maxRecDepth 100000
set_option maxHeartbeats 1000000
namespace K00
open PySem PySem.Spec PyProof.Rows L2 Z
section
variable {P : Program} {w : World} {K : PySem.W.Frag} {mg : Str → Option Value} {base : Heap}
theorem fmod_nn {x t : Int} (hx : 0 ≤ x) (ht : 0 < t) : 0 ≤ x.fmod t ∧ x.fmod t < t := by
  rw [Int.fmod_eq_emod_of_nonneg x (Int.le_of_lt ht)]
  exact ⟨Int.emod_nonneg x (by omega), Int.emod_lt_of_pos x ht⟩
theorem fdiv_nn {x t : Int} (hx : 0 ≤ x) (ht : 0 < t) : 0 ≤ x.fdiv t := by
  rw [Int.fdiv_eq_ediv_of_nonneg x (Int.le_of_lt ht)]
  exact Int.ediv_nonneg hx (Int.le_of_lt ht)
def F__law_roll : Pm Int := fun Γ cs R => ∃ (p : Addr) (t : Int), cs = [⟨(⟨p⟩ : Z.Loc)⟩, ⟨t⟩] ∧ (p, DiceI) ∈ Γ ∧ 1 ≤ t ∧ t ≤ 1000000 ∧ R = fun r => 0 ≤ r ∧ r < t
theorem sc__law_roll : FnScope ["_law_dice_here", "_law_total", "_law_found", "_law_one", "_law_two"] ["_law_dice_here", "_law_total"] (defScope s__law_roll) := ⟨rfl, rfl, rfl, by decide +kernel, rfl, by decide +kernel, by decide +kernel⟩
theorem ok__law_roll (T : Txt K mg) {f : Addr} {fd : FuncData} (D : Df K mg "_law_roll" s__law_roll ["_law_dice_here", "_law_total"] f fd) : FnOk P w K mg base CX0 2 f fd ["_law_dice_here", "_law_total"] (spD K F__law_roll) := by
  obtain ⟨_, hI_SHIFT⟩ := T.i_SHIFT
  obtain ⟨_, hI_LOW⟩ := T.i_LOW
  obtain ⟨_, hI_MAX_THINGS⟩ := T.i_MAX_THINGS
  refine def_ok D.F sc__law_roll (fun Γ cs R g => ?len) (fun cdv A outer s H E hr Γ cs R g => ?_)
  case len => obtain ⟨x, n, rfl, _⟩ := g; rfl
  obtain ⟨p, t, rfl, hp, h1, h2, rfl⟩ := g
  refine ⟨_, (pss_cons (ps_if (pt_cmpR op_gt (pe_ix ix_listK (pv 0) pe_int (fun _ _ => rfl)) pe_int (nomark _)) (pss_cons (ps_set (i := 2) sc__law_roll.nd rfl (by first | exact .inl rfl | exact .inr rfl) (pe_op op_modN (pe_callTy call_int1 (by rfl) T.z_int (by decide +kernel) (pa_cons (pe_ix ix_listK (pv 0) pe_int (fun _ _ => rfl)) pa_nil)) (pv 1)))
        (pss_cons (ps_asg (pe_op op_fdivN (pe_ix ix_listK (pv 0) pe_int (fun _ _ => rfl)) (pv 1)) (pg_sub (pv 0) pe_int set_list))
        (pss_one (ps_ret (pv 2))))) pss_nil)
      (pss_cons (ps_asg (pe_op op_add (pe_ix ix_listK (pv 0) pe_int (fun _ _ => rfl)) pe_int) (pg_sub (pv 0) pe_int set_list))
      (pss_cons (ps_set (i := 3) sc__law_roll.nd rfl (by first | exact .inl rfl | exact .inr rfl) (pe_op op_modN (pe_callTy call_int1 (by rfl) T.z_int (by decide +kernel) (pa_cons (pe_op op_add (pe_ix ix_listK (pv 0) pe_int (fun _ _ => rfl)) (pe_op op_mul pe_int (pe_ix ix_listK (pv 0) pe_int (fun _ _ => rfl)))) pa_nil)) pe_int))
      (pss_cons (ps_set (i := 4) sc__law_roll.nd rfl (by first | exact .inl rfl | exact .inr rfl) (pe_op op_add (pe_op op_mul (pe_op op_modN (pe_callTy call_int1 (by rfl) T.z_int (by decide +kernel) (pa_cons (pe_op op_add (pe_op op_mul (pv 3) (pv 3)) (pe_op op_mul pe_int (pe_ix ix_listK (pv 0) pe_int (fun _ _ => rfl)))) pa_nil)) pe_int) pe_int) (pv 3)))
      (pss_one (ps_ret (pe_op op_modN (pe_callTy call_int1 (by rfl) T.z_int (by decide +kernel) (pa_cons (pe_op op_fdivN (pv 4) pe_int) pa_nil)) (pv 1)))))))), fun Δ0 D' hf hn => ?_⟩
  have d0 : ∀ {ρ : Z.Env}, ρ[0]? = some (some ⟨(⟨p⟩ : Z.Loc)⟩) → Ev K Γ (tOp (rIxL K) (tVar 0) (tC (.int 0))) ρ (fun n : Int => 0 ≤ n) := fun h => ev_dice (i := 0) hp (by decide) (ev_var h)
  have d1 : ∀ {ρ : Z.Env}, ρ[0]? = some (some ⟨(⟨p⟩ : Z.Loc)⟩) → Ev K Γ (tOp (rIxL K) (tVar 0) (tC (.int 1))) ρ (fun n : Int => 0 ≤ n) := fun h => ev_dice (i := 1) hp (by decide) (ev_var h)
  have d2 : ∀ {ρ : Z.Env}, ρ[0]? = some (some ⟨(⟨p⟩ : Z.Loc)⟩) → Ev K Γ (tOp (rIxL K) (tVar 0) (tC (.int 2))) ρ (fun n : Int => 0 ≤ n) := fun h => ev_dice (i := 2) hp (by decide) (ev_var h)
  have md : ∀ {ρ : Z.Env} {ta tb : TE} {m : Int}, 0 < m → Ev K Γ ta ρ (fun n : Int => 0 ≤ n) → Ev K Γ tb ρ (Is m) → Ev K Γ (tOp (rI (fun _ j => j ≠ 0) fun i j => .int (i.fmod j)) ta tb) ρ (fun n : Int => 0 ≤ n ∧ n < m) := fun hm ha hb =>
    ev_opP ha hb fun x y hx hy => ⟨x.fmod y, o2_I (g := Int.fmod) (by rw [show y = _ from hy]; omega), by rw [show y = _ from hy]; exact fmod_nn hx hm⟩
  have it : ∀ {ρ : Z.Env} {ta : TE}, Ev K Γ ta ρ (fun n : Int => 0 ≤ n) → Ev K Γ (tCB (fun xs H Q => (∃ i, xs = [.int i] ∧ Q (.int i) H) ∨ ∃ k, xs = [.bl k] ∧ Q (.int (if k then 1 else 0)) H) (tCons ta tNil)) ρ (fun n : Int => 0 ≤ n) := fun h => ev_cbP h fun x hx => ⟨x, o1_int, hx⟩
  refine wp_ifP (D := { D' with nx := _ }) (PB := fun _ => True) (et_test (ev_opP (d0 rfl) ev_int fun x y _ _ => ⟨decide (y < x), o2_B0 (g := fun i j => decide (j < i)), trivial⟩)) (fun _ => ?_) (fun _ => ?_)
  · refine wp_asg (md (m := t) (by omega) (it (d0 rfl)) (ev_var (i := 1))) (ltr rfl) fun a ha => ?_
    refine wp_dice (i := 0) hp (by decide) (ev_opP (d0 rfl) (ev_var (i := 1) (a := t)) fun x y hx hy => ⟨x.fdiv y, o2_I (C := CDivN) (g := Int.fdiv) (by rw [show y = t from hy]; exact ⟨by omega, by omega⟩), by rw [show y = t from hy]; exact fdiv_nn hx (by omega)⟩) (ev_var (i := 0)) ?_
    exact wp_ret hf ((ev_var (i := 2)).imp fun r hr => by rw [show r = a from hr]; exact ha)
  · refine wp_dice (i := 2) hp (by decide) (ev_opP (d2 rfl) ev_int fun x y hx hy => ⟨x + y, o2_I0 (g := fun i j => i + j), by rw [show y = _ from hy]; omega⟩) (ev_var (i := 0)) ?_
    refine wp_asg (md (m := 2305843009213693487) (by decide) (it (ev_opP (d1 rfl) (ev_opP (Pc := fun n : Int => 0 ≤ n) ev_int (d2 rfl) fun x y hx hy => ⟨x * y, o2_I (C := CMul) (g := fun i j => i * j) (.inl (by rw [show x = 104395303 from hx]; decide)), by rw [show x = 104395303 from hx]; exact Int.mul_nonneg (by decide) hy⟩) fun x y hx hy => ⟨x + y, o2_I0 (g := fun i j => i + j), Int.add_nonneg hx hy⟩)) ev_int) (ltr rfl) fun one h1' => ?_
    refine wp_asg (P := fun n : Int => 0 ≤ n) (ev_opP (ev_opP (Pc := fun n : Int => 0 ≤ n) (md (m := 2305843009213693223) (by decide) (it (ev_opP (Pc := fun n : Int => 0 ≤ n) (ev_opP (Pc := fun n : Int => 0 ≤ n) (ev_var (i := 3) (a := one)) (ev_var (i := 3) (a := one)) fun x y hx hy => ⟨x * y, o2_I (C := CMul) (g := fun i j => i * j) (.inl (by rw [show x = one from hx]; omega)), by rw [show x = one from hx, show y = one from hy]; exact Int.mul_nonneg h1'.1 h1'.1⟩) (ev_opP (Pc := fun n : Int => 0 ≤ n) ev_int (d2 rfl) fun x y hx hy => ⟨x * y, o2_I (C := CMul) (g := fun i j => i * j) (.inl (by rw [show x = 113 from hx]; decide)), by rw [show x = 113 from hx]; exact Int.mul_nonneg (by decide) hy⟩) fun x y hx hy => ⟨x + y, o2_I0 (g := fun i j => i + j), Int.add_nonneg hx hy⟩)) ev_int) ev_int fun x y hx hy => ⟨x * y, o2_I (C := CMul) (g := fun i j => i * j) (.inl (by omega)), by rw [show y = 3497861 from hy]; exact Int.mul_nonneg hx.1 (by decide)⟩) (ev_var (i := 3) (a := one)) fun x y hx hy => ⟨x + y, o2_I0 (g := fun i j => i + j), by rw [show y = one from hy]; exact Int.add_nonneg hx h1'.1⟩) (ltr rfl) fun two h2' => ?_
    exact wp_ret hf (md (m := t) (by omega) (it (ev_opP (ev_var (i := 4) (a := two)) ev_int fun x y hx hy => ⟨x.fdiv y, o2_I (C := CDivN) (g := Int.fdiv) (by rw [show y = 65536 from hy]; exact ⟨by decide, by decide⟩), by rw [show x = two from hx, show y = 65536 from hy]; exact fdiv_nn h2' (by decide)⟩)) (ev_var (i := 1)))
end
end K00

set_option Elab.async false
set_option linter.all false
set_option maxRecDepth 100000
set_option maxHeartbeats 1000000
namespace K00
open PySem PySem.Spec PyProof.Rows L2 Z
section
variable {P : Program} {w : World} {K : PySem.W.Frag} {mg : Str → Option Value} {base : Heap}
def F__law_pick : Pm Tx := fun Γ cs R => ∃ (p : Addr) (x : Tx), cs = [⟨(⟨p⟩ : Z.Loc)⟩, ⟨x⟩] ∧ (p, DiceI) ∈ Γ ∧ 1 ≤ x.s.length ∧ x.s.length ≤ 100000 ∧ R = fun y => ∃ i, i < x.s.length ∧ y = ⟨[sg x i]⟩
theorem sc__law_pick : FnScope ["_law_dice_here", "_law_items"] ["_law_dice_here", "_law_items"] (defScope s__law_pick) := ⟨rfl, rfl, rfl, by decide +kernel, rfl, by decide +kernel, by decide +kernel⟩
theorem ok__law_pick (T : Txt K mg) {f : Addr} {fd : FuncData} (D : Df K mg "_law_pick" s__law_pick ["_law_dice_here", "_law_items"] f fd) {f__law_roll : Addr} {fd__law_roll : FuncData} (D__law_roll : Df K mg "_law_roll" s__law_roll ["_law_dice_here", "_law_total"] f__law_roll fd__law_roll) (G__law_roll : FnOk P w K mg base CX0 2 f__law_roll fd__law_roll ["_law_dice_here", "_law_total"] (spD K F__law_roll)) : FnOk P w K mg base CX0 3 f fd ["_law_dice_here", "_law_items"] (spD K F__law_pick) := by
  obtain ⟨_, hI_SHIFT⟩ := T.i_SHIFT
  obtain ⟨_, hI_LOW⟩ := T.i_LOW
  obtain ⟨_, hI_MAX_THINGS⟩ := T.i_MAX_THINGS
  refine def_ok D.F sc__law_pick (fun Γ cs R g => ?len) (fun cdv A outer s H E hr Γ cs R g => ?_)
  case len => obtain ⟨p, x, rfl, _⟩ := g; rfl
  obtain ⟨p, x, rfl, hp, h1, h2, rfl⟩ := g
  refine ⟨_, (pss_one (ps_ret (pe_ix ix_str (pv 1) (pe_call G__law_roll (hr.mono (by decide)) (by rfl) D__law_roll.g D__law_roll.kp D__law_roll.b .nil pass0 (pa_cons (pv 0) (pa_cons (pe_callB call_lenK (by rfl) T.z_len (by decide +kernel) (pa_cons (pv 1) pa_nil)) pa_nil))) (fun _ _ => rfl)))), fun Δ0 D' hf hn => wp_ret hf ?_⟩
  refine ev_opP (ev_var (i := 1) (a := x)) (ev_call1 (ea_1 (ev_var (i := 0)) (ea_1 (ev_cb (ev_var (i := 1)) (o1_lenS h2)) ea_nil)) ⟨p, _, rfl, hp, by omega, by omega, rfl⟩) fun a r ha hr => ⟨⟨[sg x r.toNat]⟩, ?_, r.toNat, by omega, rfl⟩
  rw [show a = x from ha]
  have e : r = ((r.toNat : Nat) : Int) := (Int.toNat_of_nonneg hr.1).symm
  rw [e, Int.toNat_natCast]
  exact o2_ixS h2 (sg_at (by omega))
def F__law_flip : Pm Tx := fun _ cs R => ∃ c : Nat, cs = [⟨(⟨[c]⟩ : Tx)⟩] ∧ isSign c = true ∧ R = Is ⟨[sw c]⟩
theorem sc__law_flip : FnScope ["_law_sign"] ["_law_sign"] (defScope s__law_flip) := ⟨rfl, rfl, rfl, by decide +kernel, rfl, by decide +kernel, by decide +kernel⟩
theorem ok__law_flip (T : Txt K mg) {f : Addr} {fd : FuncData} (D : Df K mg "_law_flip" s__law_flip ["_law_sign"] f fd) : FnOk P w K mg base CX0 2 f fd ["_law_sign"] (spD K F__law_flip) := by
  obtain ⟨_, hI_SHIFT⟩ := T.i_SHIFT
  obtain ⟨_, hI_LOW⟩ := T.i_LOW
  obtain ⟨_, hI_MAX_THINGS⟩ := T.i_MAX_THINGS
  refine def_ok D.F sc__law_flip (fun Γ cs R g => ?len) (fun cdv A outer s H E hr Γ cs R g => ?_)
  case len => obtain ⟨c, rfl, _⟩ := g; rfl
  obtain ⟨c, rfl, hc, rfl⟩ := g
  refine ⟨_, (pss_one (ps_ret (pe_dget (hu_of hr) (pe_disp (pps_cons pe_str pe_str (pps_cons pe_str pe_str (pps_cons pe_str pe_str pps_nil))) (by rfl) (by rfl) (fun z => by cases z) (by decide)) (pv 0) (fun _ _ => rfl)))), fun Δ0 D' hf hn => wp_ret hf (ev_flip hc (ev_var (i := 0)))⟩
def F__law_turn : Pm Tx := fun _ cs R => ∃ x : Tx, cs = [⟨x⟩] ∧ Row x ∧ R = Is (tn x)
theorem sc__law_turn : FnScope ["_law_row", "_law_sign"] ["_law_row"] (defScope s__law_turn) := ⟨rfl, rfl, rfl, by decide +kernel, rfl, by decide +kernel, by decide +kernel⟩
theorem ok__law_turn (T : Txt K mg) {f : Addr} {fd : FuncData} (D : Df K mg "_law_turn" s__law_turn ["_law_row"] f fd) {f__law_flip : Addr} {fd__law_flip : FuncData} (D__law_flip : Df K mg "_law_flip" s__law_flip ["_law_sign"] f__law_flip fd__law_flip) (G__law_flip : FnOk P w K mg base CX0 2 f__law_flip fd__law_flip ["_law_sign"] (spD K F__law_flip)) : FnOk P w K mg base CX0 3 f fd ["_law_row"] (spD K F__law_turn) := by
  obtain ⟨_, hI_SHIFT⟩ := T.i_SHIFT
  obtain ⟨_, hI_LOW⟩ := T.i_LOW
  obtain ⟨_, hI_MAX_THINGS⟩ := T.i_MAX_THINGS
  refine def_ok D.F sc__law_turn (fun Γ cs R g => ?len) (fun cdv A outer s H E hr Γ cs R g => ?_)
  case len => obtain ⟨c, rfl, _⟩ := g; rfl
  obtain ⟨x, rfl, hx, rfl⟩ := g
  refine ⟨_, (pss_one (ps_ret (pe_joinK pe_str (pe_lc (own := [("_law_sign", 1)]) (g := (gName 1)) (tt := tYes) rfl sc__law_turn.nd (pi_str (pv 0)) (blkOk_by (N := ["_law_row", "_law_sign"]) (sc := defScope s__law_turn) (by decide +kernel)) (fun _ _ _ _ _ => (pg_name (i := 1) sc__law_turn.nd rfl (by first | exact .inl rfl | exact .inr rfl))) (fun _ _ _ _ _ => pts_nil) (fun _ _ _ _ _ => (pe_call G__law_flip (hr.mono (by decide)) (by rfl) D__law_flip.g D__law_flip.kp D__law_flip.b .nil pass0 (pa_cons (pv 1) pa_nil))))))), fun Δ0 D' hf hn => wp_ret hf (ev_mk hx.len (src_str (ev_var (i := 0)) (fun i hi => sg_at hi) (ltr rfl)) (by decide) fun i hi => ?_)⟩
  exact ev_call1 (ea_1 (ev_var (i := 1)) ea_nil) ⟨_, rfl, hx.sg hi, rfl⟩
def F__law_turn_at : Pm Tx := fun _ cs R => ∃ (x : Tx) (t : Tup Int), cs = [⟨x⟩, ⟨t⟩] ∧ Row x ∧ R = Is (tnAt x t.l)
theorem sc__law_turn_at : FnScope ["_law_row", "_law_things", "_law_at", "_law_sign"] ["_law_row", "_law_things"] (defScope s__law_turn_at) := ⟨rfl, rfl, rfl, by decide +kernel, rfl, by decide +kernel, by decide +kernel⟩
theorem ok__law_turn_at (T : Txt K mg) {f : Addr} {fd : FuncData} (D : Df K mg "_law_turn_at" s__law_turn_at ["_law_row", "_law_things"] f fd) {f__law_flip : Addr} {fd__law_flip : FuncData} (D__law_flip : Df K mg "_law_flip" s__law_flip ["_law_sign"] f__law_flip fd__law_flip) (G__law_flip : FnOk P w K mg base CX0 2 f__law_flip fd__law_flip ["_law_sign"] (spD K F__law_flip)) : FnOk P w K mg base CX0 3 f fd ["_law_row", "_law_things"] (spD K F__law_turn_at) := by
  obtain ⟨_, hI_SHIFT⟩ := T.i_SHIFT
  obtain ⟨_, hI_LOW⟩ := T.i_LOW
  obtain ⟨_, hI_MAX_THINGS⟩ := T.i_MAX_THINGS
  refine def_ok D.F sc__law_turn_at (fun Γ cs R g => ?len) (fun cdv A outer s H E hr Γ cs R g => ?_)
  case len => obtain ⟨c, t, rfl, _⟩ := g; rfl
  obtain ⟨x, t, rfl, hx, rfl⟩ := g
  refine ⟨_, (pss_one (ps_ret (pe_joinK pe_str (pe_lc (own := [("_law_at", 2), ("_law_sign", 3)]) (g := (gTup K 2 (gCons (gName 2) (gCons (gName 3) gNil)))) (tt := tYes) rfl sc__law_turn_at.nd (pi_enumS (by rfl) T.z_enumerate (pa_cons (pv 0) pa_nil)) (blkOk_by (N := ["_law_row", "_law_things", "_law_at", "_law_sign"]) (sc := defScope s__law_turn_at) (by decide +kernel)) (fun _ _ _ _ _ => (pg_tup rfl (pgs_cons (pg_name (i := 2) sc__law_turn_at.nd rfl (by first | exact .inl rfl | exact .inr rfl)) (pgs_cons (pg_name (i := 3) sc__law_turn_at.nd rfl (by first | exact .inl rfl | exact .inr rfl)) pgs_nil)))) (fun _ _ _ _ _ => pts_nil) (fun _ _ _ _ _ => (pe_ifExp (pt_cmpR op_inK (pv 2) (pv 1) (by rfl)) (pe_call G__law_flip (hr.mono (by decide)) (by rfl) D__law_flip.g D__law_flip.kp D__law_flip.b .nil pass0 (pa_cons (pv 3) pa_nil)) (pv 3))))))), fun Δ0 D' hf hn => wp_ret hf (ev_mk hx.len (src_enumS (ea_1 (ev_var (i := 0)) ea_nil) (fun i hi => sg_at hi) (ltr rfl) (ltr rfl)) (by decide) fun i hi => ?_)⟩
  refine ev_if (et_test (ev_op1 (ev_var (i := 2)) (ev_var (i := 1) (a := t)) o2_inT)) (fun h => ?_) (fun h => ?_)
  · rw [if_pos (of_decide_eq_true h)]
    exact ev_call1 (ea_1 (ev_var (i := 3)) ea_nil) ⟨_, rfl, hx.sg hi, rfl⟩
  · rw [if_neg (of_decide_eq_false h)]
    exact ev_var (i := 3)
def F__law_laid : Pm Tx := fun _ cs R => ∃ (x y : Tx), cs = [⟨x⟩, ⟨y⟩] ∧ Row2 x y ∧ R = Is (laidT x y)
theorem sc__law_laid : FnScope ["_law_one", "_law_other", "_law_first", "_law_second"] ["_law_one", "_law_other"] (defScope s__law_laid) := ⟨rfl, rfl, rfl, by decide +kernel, rfl, by decide +kernel, by decide +kernel⟩
theorem ok__law_laid (T : Txt K mg) {f : Addr} {fd : FuncData} (D : Df K mg "_law_laid" s__law_laid ["_law_one", "_law_other"] f fd) : FnOk P w K mg base CX0 2 f fd ["_law_one", "_law_other"] (spD K F__law_laid) := by
  obtain ⟨_, hI_SHIFT⟩ := T.i_SHIFT
  obtain ⟨_, hI_LOW⟩ := T.i_LOW
  obtain ⟨_, hI_MAX_THINGS⟩ := T.i_MAX_THINGS
  refine def_ok D.F sc__law_laid (fun Γ cs R g => ?len) (fun cdv A outer s H E hr Γ cs R g => ?_)
  case len => obtain ⟨x, y, rfl, _⟩ := g; rfl
  obtain ⟨x, y, rfl, hx, rfl⟩ := g
  refine ⟨_, (pss_one (ps_ret (pe_joinK pe_str (pe_lc (own := [("_law_first", 2), ("_law_second", 3)]) (g := (gTup K 2 (gCons (gName 2) (gCons (gName 3) gNil)))) (tt := tYes) rfl sc__law_laid.nd (pi_zipS (by rfl) T.z_zip (pa_cons (pv 0) (pa_cons (pv 1) pa_nil))) (blkOk_by (N := ["_law_one", "_law_other", "_law_first", "_law_second"]) (sc := defScope s__law_laid) (by decide +kernel)) (fun _ _ _ _ _ => (pg_tup rfl (pgs_cons (pg_name (i := 2) sc__law_laid.nd rfl (by first | exact .inl rfl | exact .inr rfl)) (pgs_cons (pg_name (i := 3) sc__law_laid.nd rfl (by first | exact .inl rfl | exact .inr rfl)) pgs_nil)))) (fun _ _ _ _ _ => pts_nil) (fun _ _ _ _ _ => (pe_ifExp (pt_cmpR op_eq (pv 2) pe_str (nomark _)) (pv 3) (pv 2))))))), fun Δ0 D' hf hn => wp_ret hf (ev_mk hx.x.len (src_zipS (ea_1 (ev_var (i := 0)) (ea_1 (ev_var (i := 1)) ea_nil)) hx.l.symm (fun i hi => ⟨sg_at hi, sg_at (by rw [hx.l]; exact hi)⟩) (ltr rfl) (ltr rfl)) (by decide) fun i hi => ?_)⟩
  refine ev_if (et_test (ev_op1 (ev_var (i := 2)) (ev_strc [48]) o2_eqS)) (fun h => ?_) (fun h => ?_)
  · rw [if_pos (tx1.mp (of_decide_eq_true h))]
    exact ev_var (i := 3)
  · rw [if_neg (fun z => of_decide_eq_false h (tx1.mpr z))]
    exact ev_var (i := 2)
theorem ap_flip {c d : Nat} (hc : isSign c = true) (hd : isSign d = true) : (!decide (c = 48) && decide (d = sw c)) = ap c d := by
  unfold isSign at hc hd
  simp only [Bool.or_eq_true, beq_iff_eq] at hc hd
  rcases hc with (rfl | rfl) | rfl <;> rcases hd with (rfl | rfl) | rfl <;> rfl
def F__law_apart : Pm (List Int) := fun _ cs R => ∃ (x y : Tx), cs = [⟨x⟩, ⟨y⟩] ∧ Row2 x y ∧ R = Is (apI x y)
theorem sc__law_apart : FnScope ["_law_one", "_law_other", "_law_at", "_law_sign"] ["_law_one", "_law_other"] (defScope s__law_apart) := ⟨rfl, rfl, rfl, by decide +kernel, rfl, by decide +kernel, by decide +kernel⟩
theorem ok__law_apart (T : Txt K mg) {f : Addr} {fd : FuncData} (D : Df K mg "_law_apart" s__law_apart ["_law_one", "_law_other"] f fd) {f__law_flip : Addr} {fd__law_flip : FuncData} (D__law_flip : Df K mg "_law_flip" s__law_flip ["_law_sign"] f__law_flip fd__law_flip) (G__law_flip : FnOk P w K mg base CX0 2 f__law_flip fd__law_flip ["_law_sign"] (spD K F__law_flip)) : FnOk P w K mg base CX0 3 f fd ["_law_one", "_law_other"] (spD K F__law_apart) := by
  obtain ⟨_, hI_SHIFT⟩ := T.i_SHIFT
  obtain ⟨_, hI_LOW⟩ := T.i_LOW
  obtain ⟨_, hI_MAX_THINGS⟩ := T.i_MAX_THINGS
  refine def_ok D.F sc__law_apart (fun Γ cs R g => ?len) (fun cdv A outer s H E hr Γ cs R g => ?_)
  case len => obtain ⟨x, y, rfl, _⟩ := g; rfl
  obtain ⟨x, y, rfl, hx, rfl⟩ := g
  refine ⟨_, (pss_one (ps_ret (pe_lc (own := [("_law_at", 2), ("_law_sign", 3)]) (g := (gTup K 2 (gCons (gName 2) (gCons (gName 3) gNil)))) (tt := _) rfl sc__law_apart.nd (pi_enumS (by rfl) T.z_enumerate (pa_cons (pv 0) pa_nil)) (blkOk_by (N := ["_law_one", "_law_other", "_law_at", "_law_sign"]) (sc := defScope s__law_apart) (by decide +kernel)) (fun _ _ _ _ _ => (pg_tup rfl (pgs_cons (pg_name (i := 2) sc__law_apart.nd rfl (by first | exact .inl rfl | exact .inr rfl)) (pgs_cons (pg_name (i := 3) sc__law_apart.nd rfl (by first | exact .inl rfl | exact .inr rfl)) pgs_nil)))) (fun _ _ _ _ _ => (pts_one (PW.pt (pw_and (pt_cmpR op_ne (pv 3) pe_str (nomark _)) (pw_and1 (pt_cmpR op_eq (pe_ix ix_str (pv 1) (pv 2) (fun _ _ => rfl)) (pe_call G__law_flip (hr.mono (by decide)) (by rfl) D__law_flip.g D__law_flip.kp D__law_flip.b .nil pass0 (pa_cons (pv 3) pa_nil)) (nomark _))))))) (fun _ _ _ _ _ => (pv 2))))), fun Δ0 D' hf hn => wp_ret hf (ev_ix hx.x.len (src_enumS (ea_1 (ev_var (i := 0)) ea_nil) (fun i hi => sg_at hi) (ltr rfl) (ltr rfl)) (by decide) fun i hi => ⟨?_, ev_var (i := 2)⟩)⟩
  have hy : i < y.s.length := by rw [hx.l]; exact hi
  refine et_is (et_and (et_test (ev_op1 (ev_var (i := 3)) (ev_strc [48]) o2_neS)) fun _ => et_test (ev_op1 (row1 hx.y hy (ev_var (i := 1)) (ev_var (i := 2))) (ev_call1 (ea_1 (ev_var (i := 3)) ea_nil) ⟨_, rfl, hx.x.sg hi, rfl⟩) o2_eqS)) ?_
  rw [tx_ne, decide_eq_decide.mpr (tx1 (a := sg y i) (b := sw (sg x i)))]
  exact ap_flip (hx.x.sg hi) (hx.y.sg hy)
def F__law_held : Pm (Tup Int) := fun _ cs R => ∃ (x : Tx), cs = [⟨x⟩] ∧ Row x ∧ R = Is ⟨hasI x⟩
theorem sc__law_held : FnScope ["_law_row", "_law_at", "_law_sign"] ["_law_row"] (defScope s__law_held) := ⟨rfl, rfl, rfl, by decide +kernel, rfl, by decide +kernel, by decide +kernel⟩
theorem ok__law_held (T : Txt K mg) {f : Addr} {fd : FuncData} (D : Df K mg "_law_held" s__law_held ["_law_row"] f fd) : FnOk P w K mg base CX0 2 f fd ["_law_row"] (spD K F__law_held) := by
  obtain ⟨_, hI_SHIFT⟩ := T.i_SHIFT
  obtain ⟨_, hI_LOW⟩ := T.i_LOW
  obtain ⟨_, hI_MAX_THINGS⟩ := T.i_MAX_THINGS
  refine def_ok D.F sc__law_held (fun Γ cs R g => ?len) (fun cdv A outer s H E hr Γ cs R g => ?_)
  case len => obtain ⟨x, rfl, _⟩ := g; rfl
  obtain ⟨x, rfl, hx, rfl⟩ := g
  refine ⟨_, (pss_one (ps_ret (pe_callTy call_tupK (by rfl) T.z_tuple (by decide +kernel) (pa_cons (pe_lc (own := [("_law_at", 1), ("_law_sign", 2)]) (g := (gTup K 2 (gCons (gName 1) (gCons (gName 2) gNil)))) (tt := _) rfl sc__law_held.nd (pi_enumS (by rfl) T.z_enumerate (pa_cons (pv 0) pa_nil)) (blkOk_by (N := ["_law_row", "_law_at", "_law_sign"]) (sc := defScope s__law_held) (by decide +kernel)) (fun _ _ _ _ _ => (pg_tup rfl (pgs_cons (pg_name (i := 1) sc__law_held.nd rfl (by first | exact .inl rfl | exact .inr rfl)) (pgs_cons (pg_name (i := 2) sc__law_held.nd rfl (by first | exact .inl rfl | exact .inr rfl)) pgs_nil)))) (fun _ _ _ _ _ => (pts_one (pt_cmpR op_ne (pv 2) pe_str (nomark _)))) (fun _ _ _ _ _ => (pv 1))) pa_nil)))), fun Δ0 D' hf hn => ?_⟩
  exact wp_ret hf (ev_cb (ev_ix hx.len (src_enumS (ea_1 (ev_var (i := 0)) ea_nil) (fun i hi => sg_at hi) (ltr rfl) (ltr rfl)) (by decide) fun i hi => ⟨et_is (et_test (ev_op1 (ev_var (i := 2)) (ev_strc [48]) o2_neS)) tx_ne, ev_var (i := 1)⟩) o1_tuple)
theorem flat_signs : ∀ {xs : List Tx}, (∀ y ∈ xs, ∃ c, isSign c = true ∧ y = (⟨[c]⟩ : Tx)) → ((xs.map (·.s)).flatten).length = xs.length ∧ ((xs.map (·.s)).flatten).all isSign = true
  | [], _ => ⟨rfl, rfl⟩
  | x :: xs, h => by
    obtain ⟨c, hc, rfl⟩ := h x List.mem_cons_self
    obtain ⟨h1, h2⟩ := flat_signs fun y hy => h y (List.mem_cons_of_mem _ hy)
    constructor
    · simp only [List.map_cons, List.flatten_cons, List.length_append, List.length_cons, List.length_nil, h1]
      omega
    · simp only [List.map_cons, List.flatten_cons, List.all_append, h2, List.all_cons, hc]
      rfl
abbrev DR (n : Nat) : Tx → Prop := fun x => Row x ∧ x.s.length = n
def F__law_drawn_row : Pm Tx := fun Γ cs R => ∃ (p : Addr) (n : Nat), cs = [⟨(⟨p⟩ : Z.Loc)⟩, ⟨(n : Int)⟩] ∧ (p, DiceI) ∈ Γ ∧ n ≤ 9 ∧ R = DR n
theorem sg3 {i : Nat} (hi : i < 3) : isSign (sg (⟨[43, 45, 48]⟩ : Tx) i) = true := by
  match i, hi with
  | 0, _ => rfl
  | 1, _ => rfl
  | 2, _ => rfl
theorem sc__law_drawn_row : FnScope ["_law_dice_here", "_law_size", "_law_at"] ["_law_dice_here", "_law_size"] (defScope s__law_drawn_row) := ⟨rfl, rfl, rfl, by decide +kernel, rfl, by decide +kernel, by decide +kernel⟩
theorem ok__law_drawn_row (T : Txt K mg) {f : Addr} {fd : FuncData} (D : Df K mg "_law_drawn_row" s__law_drawn_row ["_law_dice_here", "_law_size"] f fd) {f__law_pick : Addr} {fd__law_pick : FuncData} (D__law_pick : Df K mg "_law_pick" s__law_pick ["_law_dice_here", "_law_items"] f__law_pick fd__law_pick) (G__law_pick : FnOk P w K mg base CX0 3 f__law_pick fd__law_pick ["_law_dice_here", "_law_items"] (spD K F__law_pick)) : FnOk P w K mg base CX0 4 f fd ["_law_dice_here", "_law_size"] (spD K F__law_drawn_row) := by
  obtain ⟨_, hI_SHIFT⟩ := T.i_SHIFT
  obtain ⟨_, hI_LOW⟩ := T.i_LOW
  obtain ⟨_, hI_MAX_THINGS⟩ := T.i_MAX_THINGS
  refine def_ok D.F sc__law_drawn_row (fun Γ cs R g => ?len) (fun cdv A outer s H E hr Γ cs R g => ?_)
  case len => obtain ⟨x, n, rfl, _⟩ := g; rfl
  obtain ⟨p, n, rfl, hp, hn9, rfl⟩ := g
  refine ⟨_, (pss_one (ps_ret (pe_joinK pe_str (pe_lc (own := [("_law_at", 2)]) (g := (gName 2)) (tt := tYes) rfl sc__law_drawn_row.nd (pi_range1 (by rfl) T.z_range (pa_cons (pv 1) pa_nil)) (blkOk_by (N := ["_law_dice_here", "_law_size", "_law_at"]) (sc := defScope s__law_drawn_row) (by decide +kernel)) (fun _ _ _ _ _ => (pg_name (i := 2) sc__law_drawn_row.nd rfl (by first | exact .inl rfl | exact .inr rfl))) (fun _ _ _ _ _ => pts_nil) (fun _ _ _ _ _ => (pe_call G__law_pick (hr.mono (by decide)) (by rfl) D__law_pick.g D__law_pick.kp D__law_pick.b .nil pass0 (pa_cons (pv 0) (pa_cons pe_str pa_nil)))))))), fun Δ0 D' hf hn => wp_ret hf ?_⟩
  refine (ev_joinP rfl (ev_lc (fun i (acc : List Tx) => acc.length = i ∧ ∀ y ∈ acc, ∃ c, isSign c = true ∧ y = (⟨[c]⟩ : Tx)) (src_rng1 (n := n) (ea_1 (ev_var (i := 1)) ea_nil) (by omega) (ltr rfl)) (by omega) (by decide) ⟨rfl, fun y hy => by cases hy⟩ fun i acc hi ⟨h1, h2⟩ => ⟨_, et_yes, fun h => (by cases h), fun _ => ⟨_, ev_call1 (ea_1 (ev_var (i := 0)) (ea_1 (ev_strc [43, 45, 48]) ea_nil)) ⟨p, ⟨[43, 45, 48]⟩, rfl, hp, by decide, by decide, rfl⟩, fun b hb => ?_⟩⟩) fun xs h => ?_).imp fun x h => ?_
  · obtain ⟨j, hj, rfl⟩ := hb
    refine ⟨by rw [List.length_append, h1]; rfl, fun y hy => ?_⟩
    rcases List.mem_append.mp hy with hy | hy
    · exact h2 y hy
    · rw [List.mem_singleton.mp hy]
      exact ⟨_, sg3 hj, rfl⟩
  · rw [(flat_signs h.2).1]
    omega
  · obtain ⟨xs, ⟨h1, h2⟩, rfl⟩ := h
    obtain ⟨q1, q2⟩ := flat_signs h2
    exact ⟨⟨q2, by show _ ≤ 9; rw [q1]; omega⟩, by show _ = n; rw [q1]; exact h1⟩
theorem ascF_le {n m : Int} (h : n ≤ m) : ∀ {l : Int} {ts : List Int}, ascF n l ts = true → ascF m l ts = true
  | _, [], _ => rfl
  | l, t :: r, q => by
    simp only [ascF, Bool.and_eq_true, decide_eq_true_eq] at q ⊢
    exact ⟨⟨q.1.1, by omega⟩, ascF_le h q.2⟩
theorem nextL_le {n : Int} : ∀ {l : Int} {ts : List Int}, l ≤ n → ascF n l ts = true → nextL l ts ≤ n
  | _, [], h, _ => h
  | l, t :: r, h, q => by
    simp only [ascF, Bool.and_eq_true, decide_eq_true_eq] at q
    exact nextL_le (l := t + 1) (by omega) q.2
abbrev DT (n : Nat) : Tup Int → Prop := fun t => ascF n 0 t.l = true ∧ t.l.length ≤ n
def F__law_drawn_things : Pm (Tup Int) := fun Γ cs R => ∃ (p : Addr) (n : Nat), cs = [⟨(⟨p⟩ : Z.Loc)⟩, ⟨(n : Int)⟩] ∧ (p, DiceI) ∈ Γ ∧ n ≤ 9 ∧ R = DT n
theorem sc__law_drawn_things : FnScope ["_law_dice_here", "_law_size", "_law_thing"] ["_law_dice_here", "_law_size"] (defScope s__law_drawn_things) := ⟨rfl, rfl, rfl, by decide +kernel, rfl, by decide +kernel, by decide +kernel⟩
theorem ok__law_drawn_things (T : Txt K mg) {f : Addr} {fd : FuncData} (D : Df K mg "_law_drawn_things" s__law_drawn_things ["_law_dice_here", "_law_size"] f fd) {f__law_roll : Addr} {fd__law_roll : FuncData} (D__law_roll : Df K mg "_law_roll" s__law_roll ["_law_dice_here", "_law_total"] f__law_roll fd__law_roll) (G__law_roll : FnOk P w K mg base CX0 2 f__law_roll fd__law_roll ["_law_dice_here", "_law_total"] (spD K F__law_roll)) : FnOk P w K mg base CX0 3 f fd ["_law_dice_here", "_law_size"] (spD K F__law_drawn_things) := by
  obtain ⟨_, hI_SHIFT⟩ := T.i_SHIFT
  obtain ⟨_, hI_LOW⟩ := T.i_LOW
  obtain ⟨_, hI_MAX_THINGS⟩ := T.i_MAX_THINGS
  refine def_ok D.F sc__law_drawn_things (fun Γ cs R g => ?len) (fun cdv A outer s H E hr Γ cs R g => ?_)
  case len => obtain ⟨x, n, rfl, _⟩ := g; rfl
  obtain ⟨p, n, rfl, hp, hn9, rfl⟩ := g
  refine ⟨_, (pss_one (ps_ret (pe_callTy call_tupK (by rfl) T.z_tuple (by decide +kernel) (pa_cons (pe_lc (own := [("_law_thing", 2)]) (g := (gName 2)) (tt := _) rfl sc__law_drawn_things.nd (pi_range1 (by rfl) T.z_range (pa_cons (pv 1) pa_nil)) (blkOk_by (N := ["_law_dice_here", "_law_size", "_law_thing"]) (sc := defScope s__law_drawn_things) (by decide +kernel)) (fun _ _ _ _ _ => (pg_name (i := 2) sc__law_drawn_things.nd rfl (by first | exact .inl rfl | exact .inr rfl))) (fun _ _ _ _ _ => (pts_one (pt_cmpR op_eq (pe_call G__law_roll (hr.mono (by decide)) (by rfl) D__law_roll.g D__law_roll.kp D__law_roll.b .nil pass0 (pa_cons (pv 0) (pa_cons pe_int pa_nil))) pe_int (nomark _)))) (fun _ _ _ _ _ => (pv 2))) pa_nil)))), fun Δ0 D' hf hn => wp_ret hf ?_⟩
  refine (ev_tupleP (ev_lc (fun i (acc : List Int) => ascF i 0 acc = true ∧ acc.length ≤ i) (src_rng1 (n := n) (ea_1 (ev_var (i := 1)) ea_nil) (by omega) (ltr rfl)) (by omega) (by decide) ⟨rfl, Nat.le_refl _⟩ fun i acc hi ⟨h1, h2⟩ => ⟨_, et_eqP (ev_call1 (ea_1 (ev_var (i := 0)) (ea_1 ev_int ea_nil)) ⟨p, 2, rfl, hp, by decide, by decide, rfl⟩) ev_int, fun _ => ⟨ascF_le (by omega) h1, by omega⟩, fun _ => ⟨_, ev_var (i := 2), fun b hb => ⟨?_, by rw [List.length_append]; show acc.length + 1 ≤ i + 1; omega⟩⟩⟩))
  rw [show b = (i : Int) from hb, ascF_snoc, ascF_le (by omega) h1, decide_eq_true (nextL_le (by omega) h1), decide_eq_true (by omega)]
  rfl
end
end K00

set_option Elab.async false
set_option linter.all false
set_option maxRecDepth 100000
set_option maxHeartbeats 1000000
namespace K00
open PySem PySem.Spec PyProof.Rows L2 Z
/-- agreeing, common at a sign -/
def ag (c d : Nat) : Bool := (!decide (c = 48)) && ((!decide (d = 48)) && decide (c = d))
def cm (c d : Nat) : Bool := (!decide (c = 48)) && (!decide (d = 48))
theorem tb_code (x : Tx) : ∀ (n j : Nat), n ≤ 9 → (codeUp x n).testBit j = ((decide (j < n) && decide (sg x j = 43)) || (decide (9 ≤ j) && (decide (j - 9 < n) && decide (sg x (j - 9) = 45))))
  | 0, j, _ => by simp [codeUp]
  | n + 1, j, h => by
    rw [codeUp, Nat.testBit_or, tb_code x n j (by omega), bitAt]
    by_cases h1 : sg x n = 43
    · rw [if_pos h1, Nat.testBit_two_pow]
      by_cases e : n = j
      · subst e
        simp [h1]
      · have e1 : decide (j < n + 1) = decide (j < n) := decide_eq_decide.mpr ⟨fun _ => by omega, fun _ => by omega⟩
        rw [e1, decide_eq_false e, Bool.or_false]
        by_cases e2 : j - 9 = n
        · have e3 : ¬ (sg x (j - 9) = 45) := by rw [e2, h1]; decide
          rw [decide_eq_false e3]
          simp
        · have e3 : decide (j - 9 < n + 1) = decide (j - 9 < n) := decide_eq_decide.mpr ⟨fun _ => by omega, fun _ => by omega⟩
          rw [e3]
    · rw [if_neg h1]
      by_cases h2 : sg x n = 45
      · rw [if_pos h2, Nat.testBit_two_pow]
        have e0 : (decide (j < n + 1) && decide (sg x j = 43)) = (decide (j < n) && decide (sg x j = 43)) := by
          by_cases e : j = n
          · subst e
            simp [h1]
          · have e1 : decide (j < n + 1) = decide (j < n) := decide_eq_decide.mpr ⟨fun _ => by omega, fun _ => by omega⟩
            rw [e1]
        rw [e0]
        by_cases e : n + 9 = j
        · subst e
          simp [h2]
        · rw [decide_eq_false e, Bool.or_false]
          by_cases e9 : 9 ≤ j
          · have e1 : decide (j - 9 < n + 1) = decide (j - 9 < n) := decide_eq_decide.mpr ⟨fun _ => by omega, fun _ => by omega⟩
            rw [e1]
          · rw [decide_eq_false e9]
            simp
      · rw [if_neg h2, Nat.zero_testBit, Bool.or_false]
        have e0 : (decide (j < n + 1) && decide (sg x j = 43)) = (decide (j < n) && decide (sg x j = 43)) := by
          by_cases e : j = n
          · subst e
            simp [h1]
          · have e1 : decide (j < n + 1) = decide (j < n) := decide_eq_decide.mpr ⟨fun _ => by omega, fun _ => by omega⟩
            rw [e1]
        have e5 : (decide (j - 9 < n + 1) && decide (sg x (j - 9) = 45)) = (decide (j - 9 < n) && decide (sg x (j - 9) = 45)) := by
          by_cases e : j - 9 = n
          · rw [e]
            simp [h2]
          · have e1 : decide (j - 9 < n + 1) = decide (j - 9 < n) := decide_eq_decide.mpr ⟨fun _ => by omega, fun _ => by omega⟩
            rw [e1]
        rw [e0, e5]
theorem tb_t (c j : Nat) : (tcode c).testBit j = (c.testBit (j + 9) || (decide (9 ≤ j) && (decide (j - 9 < 9) && c.testBit (j - 9)))) := by
  have e511 : (511 : Nat) = 2 ^ 9 - 1 := rfl
  rw [tcode, Nat.testBit_or, Nat.testBit_div_two_pow, Nat.testBit_mul_two_pow, e511, Nat.testBit_and, Nat.testBit_two_pow_sub_one, Nat.add_comm, Bool.and_comm (c.testBit (j - 9))]
theorem and_zero (a b : Nat) : a &&& b = 0 ↔ ∀ j, ¬ (a.testBit j = true ∧ b.testBit j = true) := by
  constructor
  · intro h j ⟨h1, h2⟩
    have q := congrArg (fun t => Nat.testBit t j) h
    simp only [Nat.testBit_and, h1, h2, Nat.zero_testBit] at q
    cases q
  · intro h
    apply Nat.eq_of_testBit_eq
    intro j
    rw [Nat.testBit_and, Nat.zero_testBit]
    have := h j
    revert this
    cases a.testBit j <;> cases b.testBit j <;> simp
theorem up_ag {x y : Tx} (h : Row2 x y) : codeT x &&& codeT y = 0 ↔ ∀ i, i < x.s.length → ag (sg x i) (sg y i) = false := by
  have h9 := h.x.len
  rw [and_zero]
  unfold codeT
  rw [h.l]
  constructor
  · intro q i hi
    have sx := h.x.sg hi
    have sy := h.y.sg (i := i) (by rw [h.l]; exact hi)
    have q1 := q i
    have q2 := q (i + 9)
    rw [tb_code x _ _ h9, tb_code y _ _ h9] at q1 q2
    unfold isSign at sx sy
    simp only [Bool.or_eq_true, beq_iff_eq] at sx sy
    unfold ag
    rcases sx with (sx | sx) | sx <;> rcases sy with (sy | sy) | sy <;> rw [sx, sy] <;> first | rfl | skip
    · exact absurd ⟨by simp [sx, hi], by simp [sy, hi]⟩ q1
    · exact absurd ⟨by simp [sx, hi], by simp [sy, hi]⟩ q2
  · intro q j ⟨h1, h2⟩
    rw [tb_code x _ _ h9] at h1
    rw [tb_code y _ _ h9] at h2
    simp only [Bool.or_eq_true, Bool.and_eq_true, decide_eq_true_eq] at h1 h2
    rcases h1 with h1 | h1 <;> rcases h2 with h2 | h2
    · have := q j h1.1
      rw [h1.2, h2.2] at this
      cases this
    · omega
    · omega
    · have := q (j - 9) h1.2.1
      rw [h1.2.2, h2.2.2] at this
      cases this
theorem up_ap {x y : Tx} (h : Row2 x y) : codeT x &&& tcode (codeT y) = 0 ↔ ∀ i, i < x.s.length → ap (sg x i) (sg y i) = false := by
  have h9 := h.x.len
  rw [and_zero]
  unfold codeT
  rw [h.l]
  constructor
  · intro q i hi
    have sx := h.x.sg hi
    have sy := h.y.sg (i := i) (by rw [h.l]; exact hi)
    have q1 := q i
    have q2 := q (i + 9)
    rw [tb_t, tb_code x _ _ h9, tb_code y _ _ h9, tb_code y _ _ h9] at q1 q2
    unfold isSign at sx sy
    simp only [Bool.or_eq_true, beq_iff_eq] at sx sy
    unfold ap
    rcases sx with (sx | sx) | sx <;> rcases sy with (sy | sy) | sy <;> rw [sx, sy] <;> first | rfl | skip
    · exact absurd ⟨by simp [sx, hi], by simp [sy, hi]⟩ q1
    · exact absurd ⟨by simp [sx, hi], by simp [sy, hi]; omega⟩ q2
  · intro q j ⟨h1, h2⟩
    rw [tb_code x _ _ h9] at h1
    rw [tb_t, tb_code y _ _ h9, tb_code y _ _ h9] at h2
    simp only [Bool.or_eq_true, Bool.and_eq_true, decide_eq_true_eq, Nat.add_sub_cancel] at h1 h2
    rcases h1 with h1 | h1
    · have := q j h1.1
      rcases h2 with (h2 | h2) | h2
      · omega
      · rw [h1.2, h2.2.2] at this
        cases this
      · omega
    · have := q (j - 9) h1.2.1
      rcases h2 with (h2 | h2) | h2
      · omega
      · omega
      · rcases h2.2.2 with h3 | h3
        · rw [h1.2.2, h3.2] at this
          cases this
        · omega
theorem cnt {p q : Nat → Bool} (h : ∀ i, p i = true → q i = true) : ∀ l : List Nat, (l.filter p).length ≤ (l.filter q).length ∧ ((l.filter p).length < (l.filter q).length ↔ ∃ i ∈ l, q i = true ∧ p i = false)
  | [] => ⟨Nat.le_refl _, by simp⟩
  | a :: l => by
    obtain ⟨h1, h2⟩ := cnt h l
    cases ep : p a with
    | true =>
      have eq := h a ep
      rw [List.filter_cons_of_pos ep, List.filter_cons_of_pos eq, List.length_cons, List.length_cons]
      refine ⟨by omega, ?_⟩
      rw [Nat.add_lt_add_iff_right, h2]
      constructor
      · rintro ⟨i, hi, q⟩
        exact ⟨i, List.mem_cons_of_mem _ hi, q⟩
      · rintro ⟨i, hi, q⟩
        rcases List.mem_cons.mp hi with rfl | hi
        · rw [ep] at q
          cases q.2
        · exact ⟨i, hi, q⟩
    | false =>
      rw [List.filter_cons_of_neg (by rw [ep]; decide)]
      cases eq : q a with
      | true =>
        rw [List.filter_cons_of_pos eq, List.length_cons]
        exact ⟨by omega, fun _ => ⟨a, List.mem_cons_self, eq, ep⟩, fun _ => by omega⟩
      | false =>
        rw [List.filter_cons_of_neg (by rw [eq]; decide)]
        refine ⟨h1, ?_⟩
        rw [h2]
        constructor
        · rintro ⟨i, hi, q⟩
          exact ⟨i, List.mem_cons_of_mem _ hi, q⟩
        · rintro ⟨i, hi, q⟩
          rcases List.mem_cons.mp hi with rfl | hi
          · rw [eq] at q
            cases q.1
          · exact ⟨i, hi, q⟩
def comI (x y : Tx) : List Int := ix x.s.length fun i => cm (sg x i) (sg y i)
theorem ix_nil {n : Nat} {p : Nat → Bool} : ix n p = [] ↔ ∀ i, i < n → p i = false := by
  unfold ix
  rw [List.map_eq_nil_iff, List.filter_eq_nil_iff]
  constructor
  · intro h i hi
    have := h i (List.mem_range.mpr hi)
    simpa using this
  · intro h i hi
    rw [h i (List.mem_range.mp hi)]
    decide
def upL (x y : Tx) : Bool := decide (comI x y = []) || (decide ((0 : Int) < (apI x y).length) && decide (((apI x y).length : Int) < (comI x y).length))
theorem upL_eq {x y : Tx} (h : Row2 x y) : upL x y = upr x y := by
  have e1 : (comI x y = []) ↔ (codeT x &&& codeT y = 0) ∧ (codeT x &&& tcode (codeT y) = 0) := by
    unfold comI
    rw [ix_nil, up_ag h, up_ap h]
    constructor
    · intro q
      refine ⟨fun i hi => ?_, fun i hi => ?_⟩
      · have := q i hi
        revert this
        unfold cm ag
        cases decide (sg x i = 48) <;> cases decide (sg y i = 48) <;> simp
      · have := q i hi
        revert this
        unfold cm ap
        cases decide (sg x i = 48) <;> cases decide (sg y i = 48) <;> simp
    · rintro ⟨q1, q2⟩ i hi
      have a1 := q1 i hi
      have a2 := q2 i hi
      revert a1 a2
      unfold cm ap ag
      cases decide (sg x i = 48) <;> cases decide (sg y i = 48) <;> cases decide (sg x i = sg y i) <;> simp
  have e2 : ((0 : Int) < (apI x y).length) ↔ ¬ (codeT x &&& tcode (codeT y) = 0) := by
    rw [up_ap h]
    have z : apI x y = [] ↔ ∀ i, i < x.s.length → ap (sg x i) (sg y i) = false := ix_nil
    rw [← z, ← List.length_eq_zero_iff]
    omega
  have e3 : (((apI x y).length : Int) < (comI x y).length) ↔ ¬ (codeT x &&& codeT y = 0) := by
    rw [up_ag h]
    unfold apI comI ix
    rw [List.length_map, List.length_map, Int.ofNat_lt, (cnt (fun i hi => ?_) _).2]
    · constructor
      · rintro ⟨i, hi, q1, q2⟩ q
        have a1 := q i (List.mem_range.mp hi)
        revert a1 q1 q2
        unfold cm ap ag
        cases decide (sg x i = 48) <;> cases decide (sg y i = 48) <;> cases decide (sg x i = sg y i) <;> simp
      · intro q
        refine Classical.byContradiction fun z => q fun i hi => ?_
        cases e : ag (sg x i) (sg y i) with
        | false => rfl
        | true =>
          refine absurd ⟨i, List.mem_range.mpr hi, ?_, ?_⟩ z
          · revert e
            unfold cm ag
            cases decide (sg x i = 48) <;> cases decide (sg y i = 48) <;> simp
          · revert e
            unfold ap ag
            cases decide (sg x i = 48) <;> cases decide (sg y i = 48) <;> cases decide (sg x i = sg y i) <;> simp
    · revert hi
      unfold cm ap
      cases decide (sg x i = 48) <;> cases decide (sg y i = 48) <;> simp
  unfold upL upr
  generalize codeT x &&& codeT y = A at e1 e3 ⊢
  generalize codeT x &&& tcode (codeT y) = B at e1 e2 ⊢
  by_cases a : A = 0
  · have d3 := decide_eq_false (fun z => e3.mp z a)
    by_cases b : B = 0
    · have d1 := decide_eq_true (e1.mpr ⟨a, b⟩)
      have d2 := decide_eq_false (fun z => e2.mp z b)
      rw [d1, d2, d3]
      simp [a, b]
    · have d1 := decide_eq_false (fun z => b (e1.mp z).2)
      have d2 := decide_eq_true (e2.mpr b)
      rw [d1, d2, d3]
      simp [a, b]
  · have d3 := decide_eq_true (e3.mpr a)
    have d1 := decide_eq_false (fun z => a (e1.mp z).1)
    by_cases b : B = 0
    · have d2 := decide_eq_false (fun z => e2.mp z b)
      rw [d1, d2, d3]
      simp [a, b]
    · have d2 := decide_eq_true (e2.mpr b)
      rw [d1, d2, d3]
      simp [a, b]
section
variable {P : Program} {w : World} {K : PySem.W.Frag} {mg : Str → Option Value} {base : Heap}
def F__law_upright : Pm Bool := fun _ cs R => ∃ (x y : Tx), cs = [⟨x⟩, ⟨y⟩] ∧ Row2 x y ∧ R = Is (upr x y)
theorem sc__law_upright : FnScope ["_law_one", "_law_other", "_law_common", "_law_unlike", "_law_at", "_law_sign"] ["_law_one", "_law_other"] (defScope s__law_upright) := ⟨rfl, rfl, rfl, by decide +kernel, rfl, by decide +kernel, by decide +kernel⟩
theorem ok__law_upright (T : Txt K mg) {f : Addr} {fd : FuncData} (D : Df K mg "_law_upright" s__law_upright ["_law_one", "_law_other"] f fd) {f__law_apart : Addr} {fd__law_apart : FuncData} (D__law_apart : Df K mg "_law_apart" s__law_apart ["_law_one", "_law_other"] f__law_apart fd__law_apart) (G__law_apart : FnOk P w K mg base CX0 3 f__law_apart fd__law_apart ["_law_one", "_law_other"] (spD K F__law_apart)) : FnOk P w K mg base CX0 4 f fd ["_law_one", "_law_other"] (spD K F__law_upright) := by
  obtain ⟨_, hI_SHIFT⟩ := T.i_SHIFT
  obtain ⟨_, hI_LOW⟩ := T.i_LOW
  obtain ⟨_, hI_MAX_THINGS⟩ := T.i_MAX_THINGS
  refine def_ok D.F sc__law_upright (fun Γ cs R g => ?len) (fun cdv A outer s H E hr Γ cs R g => ?_)
  case len => obtain ⟨x, y, rfl, _⟩ := g; rfl
  obtain ⟨x, y, rfl, hx, rfl⟩ := g
  refine ⟨_, (pss_cons (ps_setLc (i := 2) (own := [("_law_at", 4), ("_law_sign", 5)]) (g := (gTup K 2 (gCons (gName 4) (gCons (gName 5) gNil)))) (tt := _) rfl sc__law_upright.nd rfl rfl (sw_true rfl rfl rfl (by decide +kernel)) (pi_enumS (by rfl) T.z_enumerate (pa_cons (pv 0) pa_nil)) (blkOk_by (N := ["_law_one", "_law_other", "_law_common", "_law_unlike", "_law_at", "_law_sign"]) (sc := defScope s__law_upright) (by decide +kernel)) (fun _ _ _ _ _ => (pg_tup rfl (pgs_cons (pg_name (i := 4) sc__law_upright.nd rfl (by first | exact .inl rfl | exact .inr rfl)) (pgs_cons (pg_name (i := 5) sc__law_upright.nd rfl (by first | exact .inl rfl | exact .inr rfl)) pgs_nil)))) (fun _ _ _ _ _ => (pts_one (PW.pt (pw_and (pt_cmpR op_ne (pv 5) pe_str (nomark _)) (pw_and1 (pt_cmpR op_ne (pe_ix ix_str (pv 1) (pv 4) (fun _ _ => rfl)) pe_str (nomark _))))))) (fun _ _ _ _ _ => (pv 4)))
      (pss_cons (ps_set (i := 3) sc__law_upright.nd rfl (by first | exact .inl rfl | exact .inr rfl) (pe_call G__law_apart (hr.mono (by decide)) (by rfl) D__law_apart.g D__law_apart.kp D__law_apart.b .nil pass0 (pa_cons (pv 0) (pa_cons (pv 1) pa_nil))))
      (pss_one (ps_ret (pe_or (pe_cmpR (op_eqK hr.units) (pv 2) (pe_lst pa_nil) (nomark _)) (pe_one (pe_chain op_lt op_lt pe_int (pe_callB call_lenK (by rfl) T.z_len (by decide +kernel) (pa_cons (pv 3) pa_nil)) (pe_callB call_lenK (by rfl) T.z_len (by decide +kernel) (pa_cons (pv 2) pa_nil))))))))), fun Δ0 D' hf hn => ?_⟩
  refine wp_asg1 (a := comI x y) (ev_ix hx.x.len (src_enumS (ea_1 (ev_var (i := 0)) ea_nil) (fun i hi => sg_at hi) (ltr rfl) (ltr rfl)) (by decide) fun i hi => ⟨?_, ev_var (i := 4)⟩) (ltr rfl) ?_
  · refine et_is (et_and (et_test (ev_op1 (ev_var (i := 5)) (ev_strc [48]) o2_neS)) fun _ => et_test (ev_op1 (row1 hx.y (i := i) (by rw [hx.l]; exact hi) (ev_var (i := 1)) (ev_var (i := 4))) (ev_strc [48]) o2_neS)) ?_
    rw [tx_ne, tx_ne]
    rfl
  refine wp_asg1 (ev_call1 (ea_1 (ev_var (i := 0)) (ea_1 (ev_var (i := 1)) ea_nil)) ⟨x, y, rfl, hx, rfl⟩) (ltr rfl) ?_
  refine wp_ret hf (ev_is (ev_orV (ev_op1 (ev_var (i := 2) (a := comI x y)) (ev_lst (xs := ([] : List Int)) ea_nil (by decide)) o2_eqLI) fun _ => ev_chain ev_int (ev_cb (ev_var (i := 3) (a := apI x y)) o1_lenL) (ev_cb (ev_var (i := 2) (a := comI x y)) o1_lenL) o2_B0 o2_B0) (upL_eq hx))
end
end K00

set_option Elab.async false
set_option linter.all false
set_option maxRecDepth 100000
set_option maxHeartbeats 1000000
namespace K00
open PySem PySem.Spec PyProof.Rows L2 Z
theorem sw_sw (c : Nat) : sw (sw c) = c := by
  unfold sw
  split <;> (try split) <;> (try split) <;> omega
theorem tnAt_nil (x : Tx) : tnAt x [] = x := by
  conv => rhs; rw [← mk_self x]
  exact mk_congr fun i hi => by rw [if_neg (by simp)]
theorem tnAt_twice (x : Tx) (ts : List Int) : tnAt (tnAt x ts) ts = x := by
  conv => rhs; rw [← mk_self x]
  have e : (tnAt x ts).s.length = x.s.length := by rw [tnAt, mk_len]
  show mk (tnAt x ts).s.length _ = _
  rw [e]
  refine mk_congr fun i hi => ?_
  rw [tnAt, mk_sg hi]
  split
  · exact sw_sw _
  · rfl
theorem laid_self (x : Tx) : laidT x x = x := by
  conv => rhs; rw [← mk_self x]
  exact mk_congr fun i hi => by split <;> rfl
theorem sigs_row {x : Tx} {ts : List Int} (hx : Row x) (ha : ascF x.s.length 0 ts = true) (hl : ts.length ≤ 9) : Row (sigsT x ts) := row_mk hl fun i hi => by
  have := (thAt_ok ha hi).2
  exact hx.sg (by omega)
theorem sp_sigs {x : Tx} {ts : List Int} (ha : ascF x.s.length 0 ts = true) : ∀ (k i : Nat), k ≤ ts.length → spAt (sigsT x ts) ts k i = if (i : Int) ∈ ts.take k then sg x i else 48
  | 0, i, _ => by
    rw [if_neg (by simp)]
    rfl
  | k + 1, i, h => by
    rw [spAt, sp_sigs ha k i (by omega), List.take_add_one, (thAt_ok ha (k := k) (by omega)).1, sigsT, mk_sg (by omega)]
    by_cases e : i = thAt ts k
    · rw [if_pos e, if_pos (by rw [e]; simp), e]
    · rw [if_neg e]
      have q : ((i : Int) ∈ ts.take k ++ (some ((thAt ts k : Nat) : Int)).toList) ↔ (i : Int) ∈ ts.take k := by
        simp only [Option.toList_some, List.mem_append, List.mem_singleton]
        constructor
        · rintro (h | h)
          · exact h
          · omega
        · exact Or.inl
      by_cases q2 : (i : Int) ∈ ts.take k
      · rw [if_pos q2, if_pos (q.mpr q2)]
      · rw [if_neg q2, if_neg (fun z => q2 (q.mp z))]
def dueT (x : Tx) (ts : List Int) (m : Nat) : Tx := ⟨(mk x.s.length fun i => if (i : Int) ∈ ts then sg x i else 48).s ++ List.replicate (m - x.s.length) 48⟩
theorem spr_due {x : Tx} {ts : List Int} {m : Nat} (ha : ascF x.s.length 0 ts = true) (hm : x.s.length ≤ m) : sprT (sigsT x ts) ts m = dueT x ts m := by
  have e : sprT (sigsT x ts) ts m = mk m fun i => if (i : Int) ∈ ts then sg x i else 48 := mk_congr fun i hi => by
    rw [sp_sigs ha _ i (Nat.le_refl _), List.take_length]
  rw [e]
  unfold dueT mk
  congr 1
  obtain ⟨d, rfl⟩ : ∃ d, m = x.s.length + d := ⟨m - x.s.length, by omega⟩
  rw [Nat.add_sub_cancel_left]
  clear hm e
  induction d with
  | zero => simp
  | succ d ih =>
    have q : ¬ (((x.s.length + d : Nat) : Int) ∈ ts) := fun z => by
      have := (ascF_all ha _ z).2
      omega
    rw [← Nat.add_assoc, List.range_succ, List.map_append, ih, List.replicate_succ', ← List.append_assoc]
    congr 1
    show [if ((x.s.length + d : Nat) : Int) ∈ ts then sg x (x.s.length + d) else 48] = _
    rw [if_neg q]
section
variable {P : Program} {w : World} {K : PySem.W.Frag} {mg : Str → Option Value} {base : Heap}
theorem Ft1 {Γ : Own} {x : Tx} (h : Row x) : F_turned Γ ([⟨x⟩] ++ [⟨()⟩]) (Is (tn x)) := .inl ⟨x, rfl, h, rfl⟩
theorem Ft2 {Γ : Own} {x : Tx} {t : Tup Int} (h : Row x) (ha : ascF x.s.length 0 t.l = true) : F_turned Γ [⟨x⟩, ⟨t⟩] (Is (tnAt x t.l)) := .inr ⟨x, t, rfl, h, ha, rfl⟩
theorem ev_call1D {β : Type} [Rp β] {Γ : Own} {ρ : Z.Env} {Pb : β → Prop} {F : Own → List Cell → (β → Prop) → Prop} {E : XK} {ta : TA} {cs : List Cell} (ha : EvA K Γ ta ρ (Is cs)) (hf : F Γ (cs ++ [⟨()⟩]) Pb) : Ev K Γ (tCall (spD K F) [V.non] E ta) ρ Pb := ev_callD dv_non ha fun cs' e => by rw [show cs' = cs from e]; exact hf
theorem neT {b : Bool} (h : b = true) : (!b) = false := by rw [h]; rfl
def F__law_is_row_right : Pm Bool := fun Γ cs R => ∃ (p : Addr) (x : Tx), cs = [⟨(⟨p⟩ : Z.Loc)⟩, ⟨x⟩] ∧ (p, DiceI) ∈ Γ ∧ Row x ∧ R = Is true
theorem sc__law_is_row_right : FnScope ["_law_dice_here", "_law_row", "_law_size", "_law_things", "_law_part", "_law_most", "_law_due", "_law_at", "_law_thing"] ["_law_dice_here", "_law_row"] (defScope s__law_is_row_right) := ⟨rfl, rfl, rfl, by decide +kernel, rfl, by decide +kernel, by decide +kernel⟩
theorem ok__law_is_row_right (T : Txt K mg) {f : Addr} {fd : FuncData} (D : Df K mg "_law_is_row_right" s__law_is_row_right ["_law_dice_here", "_law_row"] f fd) {f_signs_at : Addr} {fd_signs_at : FuncData} (D_signs_at : Df K mg "signs_at" s_signs_at ["row", "things"] f_signs_at fd_signs_at) (G_signs_at : FnOk P w K mg base CX0 6 f_signs_at fd_signs_at ["row", "things"] (spD K F_signs_at)) {f__law_drawn_things : Addr} {fd__law_drawn_things : FuncData} (D__law_drawn_things : Df K mg "_law_drawn_things" s__law_drawn_things ["_law_dice_here", "_law_size"] f__law_drawn_things fd__law_drawn_things) (G__law_drawn_things : FnOk P w K mg base CX0 3 f__law_drawn_things fd__law_drawn_things ["_law_dice_here", "_law_size"] (spD K F__law_drawn_things)) {f__law_roll : Addr} {fd__law_roll : FuncData} (D__law_roll : Df K mg "_law_roll" s__law_roll ["_law_dice_here", "_law_total"] f__law_roll fd__law_roll) (G__law_roll : FnOk P w K mg base CX0 2 f__law_roll fd__law_roll ["_law_dice_here", "_law_total"] (spD K F__law_roll)) {f_things_of : Addr} {fd_things_of : FuncData} (D_things_of : Df K mg "things_of" s_things_of ["row"] f_things_of fd_things_of) (G_things_of : FnOk P w K mg base CX0 5 f_things_of fd_things_of ["row"] (spD K F_things_of)) {f__law_held : Addr} {fd__law_held : FuncData} (D__law_held : Df K mg "_law_held" s__law_held ["_law_row"] f__law_held fd__law_held) (G__law_held : FnOk P w K mg base CX0 2 f__law_held fd__law_held ["_law_row"] (spD K F__law_held)) {f_zeros_of : Addr} {fd_zeros_of : FuncData} (D_zeros_of : Df K mg "zeros_of" s_zeros_of ["row"] f_zeros_of fd_zeros_of) (G_zeros_of : FnOk P w K mg base CX0 5 f_zeros_of fd_zeros_of ["row"] (spD K F_zeros_of)) {f_turned : Addr} {fd_turned : FuncData} (D_turned : DfD K mg "turned" s_turned ["row", "things"] f_turned fd_turned) (G_turned : FnOk P w K mg base CX0 6 f_turned fd_turned ["row", "things"] (spD K F_turned)) {f__law_turn : Addr} {fd__law_turn : FuncData} (D__law_turn : Df K mg "_law_turn" s__law_turn ["_law_row"] f__law_turn fd__law_turn) (G__law_turn : FnOk P w K mg base CX0 3 f__law_turn fd__law_turn ["_law_row"] (spD K F__law_turn)) {f__law_turn_at : Addr} {fd__law_turn_at : FuncData} (D__law_turn_at : Df K mg "_law_turn_at" s__law_turn_at ["_law_row", "_law_things"] f__law_turn_at fd__law_turn_at) (G__law_turn_at : FnOk P w K mg base CX0 3 f__law_turn_at fd__law_turn_at ["_law_row", "_law_things"] (spD K F__law_turn_at)) {f_laid_over : Addr} {fd_laid_over : FuncData} (D_laid_over : Df K mg "laid_over" s_laid_over ["one", "other"] f_laid_over fd_laid_over) (G_laid_over : FnOk P w K mg base CX0 6 f_laid_over fd_laid_over ["one", "other"] (spD K F_laid_over)) {f_spread : Addr} {fd_spread : FuncData} (D_spread : Df K mg "spread" s_spread ["row", "things", "many"] f_spread fd_spread) (G_spread : FnOk P w K mg base CX0 6 f_spread fd_spread ["row", "things", "many"] (spD K F_spread)) : FnOk P w K mg base CX0 7 f fd ["_law_dice_here", "_law_row"] (spD K F__law_is_row_right) := by
  obtain ⟨_, hI_SHIFT⟩ := T.i_SHIFT
  obtain ⟨_, hI_LOW⟩ := T.i_LOW
  obtain ⟨_, hI_MAX_THINGS⟩ := T.i_MAX_THINGS
  refine def_ok D.F sc__law_is_row_right (fun Γ cs R g => ?len) (fun cdv A outer s H E hr Γ cs R g => ?_)
  case len => obtain ⟨p, x, rfl, _⟩ := g; rfl
  obtain ⟨p, x, rfl, hp, hx, rfl⟩ := g
  refine ⟨_, (pss_cons (ps_asg (pe_tup (pa_cons (pe_callB call_lenK (by rfl) T.z_len (by decide +kernel) (pa_cons (pv 1) pa_nil)) (pa_cons (pe_call G__law_drawn_things (hr.mono (by decide)) (by rfl) D__law_drawn_things.g D__law_drawn_things.kp D__law_drawn_things.b .nil pass0 (pa_cons (pv 0) (pa_cons (pe_callB call_lenK (by rfl) T.z_len (by decide +kernel) (pa_cons (pv 1) pa_nil)) pa_nil))) pa_nil))) (pg_tup rfl (pgs_cons (pg_name (i := 2) sc__law_is_row_right.nd rfl (by first | exact .inl rfl | exact .inr rfl)) (pgs_cons (pg_name (i := 3) sc__law_is_row_right.nd rfl (by first | exact .inl rfl | exact .inr rfl)) pgs_nil))) (by kernel_rfl) (by kernel_rfl))
      (pss_cons (ps_if (PW.pt (pw_or (pt_cmpR (op_neK hr.units) (pe_call G_things_of (hr.mono (by decide)) (by rfl) D_things_of.g D_things_of.kp D_things_of.b .nil pass0 (pa_cons (pv 1) pa_nil)) (pe_call G__law_held (hr.mono (by decide)) (by rfl) D__law_held.g D__law_held.kp D__law_held.b .nil pass0 (pa_cons (pv 1) pa_nil)) (nomark _)) (pw_or1 (pt_cmpR (op_neK hr.units) (pe_call G_zeros_of (hr.mono (by decide)) (by rfl) D_zeros_of.g D_zeros_of.kp D_zeros_of.b .nil pass0 (pa_cons (pv 1) pa_nil)) (pe_callTy call_tupK (by rfl) T.z_tuple (by decide +kernel) (pa_cons (pe_lc (own := [("_law_at", 7)]) (g := (gName 7)) (tt := _) rfl sc__law_is_row_right.nd (pi_range1 (by rfl) T.z_range (pa_cons (pv 2) pa_nil)) (blkOk_by (N := ["_law_dice_here", "_law_row", "_law_size", "_law_things", "_law_part", "_law_most", "_law_due", "_law_at", "_law_thing"]) (sc := defScope s__law_is_row_right) (by decide +kernel)) (fun _ _ _ _ _ => (pg_name (i := 7) sc__law_is_row_right.nd rfl (by first | exact .inl rfl | exact .inr rfl))) (fun _ _ _ _ _ => (pts_one (pt_cmpR op_eq (pe_ix ix_str (pv 1) (pv 7) (fun _ _ => rfl)) pe_str (nomark _)))) (fun _ _ _ _ _ => (pv 7))) pa_nil)) (nomark _))))) (pss_one (ps_ret pe_bl)) pss_nil)
      (pss_cons (ps_if (PW.pt (pw_or (pt_cmpR op_ne (pe_call G_turned (hr.mono (by decide)) (by rfl) D_turned.g D_turned.kp D_turned.b1 D_turned.v1 pass0 (pa_cons (pv 1) pa_nil)) (pe_call G__law_turn (hr.mono (by decide)) (by rfl) D__law_turn.g D__law_turn.kp D__law_turn.b .nil pass0 (pa_cons (pv 1) pa_nil)) (nomark _)) (pw_or (pt_cmpR op_ne (pe_call G_turned (hr.mono (by decide)) (by rfl) D_turned.g D_turned.kp D_turned.b .nil pass0 (pa_cons (pv 1) (pa_cons (pv 3) pa_nil))) (pe_call G__law_turn_at (hr.mono (by decide)) (by rfl) D__law_turn_at.g D__law_turn_at.kp D__law_turn_at.b .nil pass0 (pa_cons (pv 1) (pa_cons (pv 3) pa_nil))) (nomark _)) (pw_or1 (pt_cmpR op_ne (pe_call G_turned (hr.mono (by decide)) (by rfl) D_turned.g D_turned.kp D_turned.b .nil pass0 (pa_cons (pv 1) (pa_cons (pe_tup pa_nil) pa_nil))) (pv 1) (nomark _)))))) (pss_one (ps_ret pe_bl)) pss_nil)
      (pss_cons (ps_set (i := 4) sc__law_is_row_right.nd rfl (by first | exact .inl rfl | exact .inr rfl) (pe_call G_signs_at (hr.mono (by decide)) (by rfl) D_signs_at.g D_signs_at.kp D_signs_at.b .nil pass0 (pa_cons (pv 1) (pa_cons (pv 3) pa_nil))))
      (pss_cons (ps_if (PW.pt (pw_or (pt_cmpR op_ne (pv 4) (pe_joinK pe_str (pe_lc (own := [("_law_thing", 8)]) (g := (gName 8)) (tt := tYes) rfl sc__law_is_row_right.nd (pi_tupK (pv 3)) (blkOk_by (N := ["_law_dice_here", "_law_row", "_law_size", "_law_things", "_law_part", "_law_most", "_law_due", "_law_at", "_law_thing"]) (sc := defScope s__law_is_row_right) (by decide +kernel)) (fun _ _ _ _ _ => (pg_name (i := 8) sc__law_is_row_right.nd rfl (by first | exact .inl rfl | exact .inr rfl))) (fun _ _ _ _ _ => pts_nil) (fun _ _ _ _ _ => (pe_ix ix_str (pv 1) (pv 8) (fun _ _ => rfl))))) (nomark _)) (pw_or1 (pt_cmpR op_ne (pe_call G_laid_over (hr.mono (by decide)) (by rfl) D_laid_over.g D_laid_over.kp D_laid_over.b .nil pass0 (pa_cons (pv 1) (pa_cons (pv 1) pa_nil))) (pv 1) (nomark _))))) (pss_one (ps_ret pe_bl)) pss_nil)
      (pss_cons (ps_set (i := 5) sc__law_is_row_right.nd rfl (by first | exact .inl rfl | exact .inr rfl) (pe_op op_add (pv 2) (pe_call G__law_roll (hr.mono (by decide)) (by rfl) D__law_roll.g D__law_roll.kp D__law_roll.b .nil pass0 (pa_cons (pv 0) (pa_cons (pe_op op_sub pe_int (pv 2)) pa_nil)))))
      (pss_cons (ps_set (i := 6) sc__law_is_row_right.nd rfl (by first | exact .inl rfl | exact .inr rfl) (pe_op op_add_str (pe_joinK pe_str (pe_lc (own := [("_law_thing", 8)]) (g := (gName 8)) (tt := tYes) rfl sc__law_is_row_right.nd (pi_range1 (by rfl) T.z_range (pa_cons (pv 2) pa_nil)) (blkOk_by (N := ["_law_dice_here", "_law_row", "_law_size", "_law_things", "_law_part", "_law_most", "_law_due", "_law_at", "_law_thing"]) (sc := defScope s__law_is_row_right) (by decide +kernel)) (fun _ _ _ _ _ => (pg_name (i := 8) sc__law_is_row_right.nd rfl (by first | exact .inl rfl | exact .inr rfl))) (fun _ _ _ _ _ => pts_nil) (fun _ _ _ _ _ => (pe_ifExp (pt_cmpR op_inK (pv 8) (pv 3) (by rfl)) (pe_ix ix_str (pv 1) (pv 8) (fun _ _ => rfl)) pe_str)))) (pe_op op_mulS pe_str (pe_op op_sub (pv 5) (pv 2)))))
      (pss_one (ps_ret (pe_and (pe_cmpR op_eq (pe_call G_spread (hr.mono (by decide)) (by rfl) D_spread.g D_spread.kp D_spread.b .nil pass0 (pa_cons (pv 4) (pa_cons (pv 3) (pa_cons (pv 5) pa_nil)))) (pv 6) (nomark _)) (pe_one (pe_cmpR op_eq (pe_call G_turned (hr.mono (by decide)) (by rfl) D_turned.g D_turned.kp D_turned.b .nil pass0 (pa_cons (pe_call G_turned (hr.mono (by decide)) (by rfl) D_turned.g D_turned.kp D_turned.b .nil pass0 (pa_cons (pv 1) (pa_cons (pv 3) pa_nil))) (pa_cons (pv 3) pa_nil))) (pv 1) (nomark _))))))))))))), fun Δ0 D' hf hn => ?_⟩
  have h9 := hx.len
  have lx := len_le hx
  refine wp_tup2 (Q := fun cs => ∃ t : Tup Int, DT x.s.length t ∧ cs = [⟨(x.s.length : Int)⟩, ⟨t⟩]) (ea_cons (ev_cb (ev_var (i := 1)) (o1_lenS lx)) (ea_cons (Ps := Is []) (P := fun cs => ∃ t : Tup Int, DT x.s.length t ∧ cs = [⟨t⟩]) (ev_call1 (ea_1 (ev_var (i := 0)) (ea_1 (ev_cb (ev_var (i := 1)) (o1_lenS lx)) ea_nil)) ⟨p, _, rfl, hp, h9, rfl⟩) ea_nil fun a cs ha hc => ⟨a, ha, by rw [show cs = [] from hc]⟩) fun a cs ha hc => by obtain ⟨t, ht, rfl⟩ := hc; exact ⟨t, ht, by rw [show a = _ from ha]⟩) (ltr rfl) (ltr rfl) fun cs hc => ?_
  obtain ⟨t, ⟨ha, hl⟩, rfl⟩ := hc
  refine ⟨_, _, rfl, ?_⟩
  refine wp_no ?_ (et_or (et_test (ev_op1 (ev_call1 (ea_1 (ev_var (i := 1)) ea_nil) ⟨x, rfl, hx, rfl⟩) (ev_call1 (ea_1 (ev_var (i := 1)) ea_nil) ⟨x, rfl, hx, rfl⟩) o2_neT)) fun _ => et_test (ev_op1 (ev_call1 (ea_1 (ev_var (i := 1)) ea_nil) ⟨x, rfl, hx, rfl⟩) (ev_cb (ev_ix (p := fun i => decide (sg x i = 48)) h9 (src_rng1 (n := x.s.length) (ea_1 (ev_var (i := 2)) ea_nil) lx (ltr rfl)) (by decide) fun i hi => ⟨et_is (et_test (ev_op1 (row1 hx hi (ev_var (i := 1)) (ev_var (i := 7))) (ev_strc [48]) o2_eqS)) (decide_eq_decide.mpr tx1), ev_var (i := 7)⟩) o1_tuple) o2_neT)) ?_
  · show (!decide (hasI x = hasI x) || !decide (zerI x = zerI x)) = false
    simp
  refine wp_no ?_ (et_or (et_test (ev_op1 (ev_call1D (ea_1 (ev_var (i := 1)) ea_nil) (Ft1 hx)) (ev_call1 (ea_1 (ev_var (i := 1)) ea_nil) ⟨x, rfl, hx, rfl⟩) o2_neS)) fun _ => et_or (et_test (ev_op1 (ev_call1 (ea_1 (ev_var (i := 1)) (ea_1 (ev_var (i := 3) (a := t)) ea_nil)) (Ft2 hx ha)) (ev_call1 (ea_1 (ev_var (i := 1)) (ea_1 (ev_var (i := 3) (a := t)) ea_nil)) ⟨x, t, rfl, hx, rfl⟩) o2_neS)) fun _ => et_test (ev_op1 (ev_call1 (ea_1 (ev_var (i := 1)) (ea_1 (ev_tupN (xs := ([] : List Int)) ea_nil (by decide)) ea_nil)) (Ft2 (t := ⟨[]⟩) hx rfl)) (ev_var (i := 1) (a := x)) o2_neS)) ?_
  · rw [decide_eq_true rfl, decide_eq_true rfl, tnAt_nil, decide_eq_true rfl]
    rfl
  refine wp_asg1 (ev_call1 (ea_1 (ev_var (i := 1)) (ea_1 (ev_var (i := 3) (a := t)) ea_nil)) ⟨x, t, rfl, hx, ha, by omega, rfl⟩) (ltr rfl) ?_
  refine wp_no ?_ (et_or (et_test (ev_op1 (ev_var (i := 4) (a := sigsT x t.l)) (ev_mk (f := fun k => sg x (thAt t.l k)) (by omega) (src_tup (x0 := fun k => ((thAt t.l k : Nat) : Int)) (ev_var (i := 3) (a := t)) (fun k hk => (thAt_ok ha hk).1) (ltr rfl)) (by decide) fun i hi => by
      have hb := (thAt_ok ha hi).2
      exact row1 hx (by omega) (ev_var (i := 1)) (ev_var (i := 8))) o2_neS)) fun _ => et_test (ev_op1 (ev_call1 (ea_1 (ev_var (i := 1)) (ea_1 (ev_var (i := 1)) ea_nil)) ⟨x, x, rfl, ⟨hx, hx, rfl⟩, rfl⟩) (ev_var (i := 1) (a := x)) o2_neS)) ?_
  · rw [laid_self]
    show (!decide (sigsT x t.l = sigsT x t.l) || !decide (x = x)) = false
    simp
  refine wp_asg (P := fun m : Int => (x.s.length : Int) ≤ m ∧ m ≤ 9) (ev_opP (ev_var (i := 2)) (ev_call1 (ea_1 (ev_var (i := 0)) (ea_1 (ev_op1 ev_int (ev_var (i := 2)) (o2_I0 (g := fun i j => i - j))) ea_nil)) ⟨p, _, rfl, hp, by omega, by omega, rfl⟩) fun a r ha hr => ⟨a + r, o2_I0 (g := fun i j => i + j), by rw [show a = _ from ha]; omega⟩) (ltr rfl) fun m hm => ?_
  obtain ⟨m, rfl⟩ : ∃ k : Nat, m = k := ⟨m.toNat, by omega⟩
  refine wp_asg1 (a := dueT x t.l m) (ev_op1 (ev_mk (f := fun i => if (i : Int) ∈ t.l then sg x i else 48) h9 (src_rng1 (n := x.s.length) (ea_1 (ev_var (i := 2)) ea_nil) lx (ltr rfl)) (by decide) fun i hi => ?_) (ev_op1 (ev_strc [48]) (ev_is (b := ((m - x.s.length : Nat) : Int)) (ev_op1 (ev_var (i := 5)) (ev_var (i := 2)) (o2_I0 (g := fun i j => i - j))) (by omega)) (o2_mulS rfl (by omega))) (o2_addS (by rw [mk_len, List.length_replicate]; omega))) (ltr rfl) ?_
  · refine ev_if (et_test (ev_op1 (ev_var (i := 8)) (ev_var (i := 3) (a := t)) o2_inT)) (fun h => ?_) (fun h => ?_)
    · rw [if_pos (of_decide_eq_true h)]
      exact row1 hx hi (ev_var (i := 1)) (ev_var (i := 8))
    · rw [if_neg (of_decide_eq_false h)]
      exact ev_strc [48]
  refine wp_ret hf (ev_is (ev_andV (ev_op1 (ev_call1 (ea_1 (ev_var (i := 4)) (ea_1 (ev_var (i := 3)) (ea_1 (ev_var (i := 5)) ea_nil))) ⟨sigsT x t.l, t, m, rfl, sigs_row hx ha (by omega), by rw [sigsT, mk_len], ascF_le (by omega) ha, ascF_le (by omega) ha, by omega, rfl⟩) (ev_var (i := 6) (a := dueT x t.l m)) o2_eqS) fun _ => ev_op1 (ev_call1 (ea_1 (ev_call1 (ea_1 (ev_var (i := 1)) (ea_1 (ev_var (i := 3)) ea_nil)) (Ft2 hx ha)) (ea_1 (ev_var (i := 3)) ea_nil)) (Ft2 (tnAt_row hx) (by rw [tnAt, mk_len]; exact ha))) (ev_var (i := 1) (a := x)) o2_eqS) ?_)
  rw [spr_due ha (by omega), tnAt_twice, decide_eq_true rfl, decide_eq_true rfl]
  rfl
end
end K00

set_option Elab.async false
set_option linter.all false
set_option maxRecDepth 100000
set_option maxHeartbeats 1000000
namespace K00
open PySem PySem.Spec PyProof.Rows L2 Z
theorem mk_inj {n : Nat} {f g : Nat → Nat} : mk n f = mk n g ↔ ∀ i, i < n → f i = g i := by
  constructor
  · intro h i hi
    have := congrArg (fun t => sg t i) h
    simpa [mk_sg hi] using this
  · exact mk_congr
theorem sw_48 (c : Nat) : decide (sw c = 48) = decide (c = 48) := by
  rw [decide_eq_decide]
  unfold sw
  split <;> (try split) <;> omega
theorem sw_inj (c d : Nat) : decide (sw c = sw d) = decide (c = d) := by
  rw [decide_eq_decide]
  constructor
  · intro h
    rw [← sw_sw c, ← sw_sw d, h]
  · intro h
    rw [h]
theorem ag_sw (c d : Nat) : ag (sw c) (sw d) = ag c d := by
  unfold ag
  rw [sw_48, sw_48, sw_inj]
theorem ap_sw (c d : Nat) : ap (sw c) (sw d) = ap c d := by
  unfold ap
  rw [sw_48, sw_48, sw_inj]
theorem ag_sym (c d : Nat) : ag c d = ag d c := by
  unfold ag
  rw [decide_eq_decide.mpr (⟨Eq.symm, Eq.symm⟩ : c = d ↔ d = c)]
  cases decide (c = 48) <;> cases decide (d = 48) <;> cases decide (d = c) <;> rfl
theorem ap_sym (c d : Nat) : ap c d = ap d c := by
  unfold ap
  rw [decide_eq_decide.mpr (⟨Eq.symm, Eq.symm⟩ : c = d ↔ d = c)]
  cases decide (c = 48) <;> cases decide (d = 48) <;> cases decide (d = c) <;> rfl
theorem upr_congr {x y x' y' : Tx} (h : Row2 x y) (h' : Row2 x' y') (hl : x'.s.length = x.s.length) (h1 : ∀ i, i < x.s.length → ag (sg x' i) (sg y' i) = ag (sg x i) (sg y i)) (h2 : ∀ i, i < x.s.length → ap (sg x' i) (sg y' i) = ap (sg x i) (sg y i)) : upr x' y' = upr x y := by
  have e1 : (codeT x' &&& codeT y' = 0) ↔ (codeT x &&& codeT y = 0) := by
    rw [up_ag h, up_ag h', hl]
    exact forall_congr' fun i => ⟨fun q hi => by rw [← h1 i hi]; exact q hi, fun q hi => by rw [h1 i hi]; exact q hi⟩
  have e2 : (codeT x' &&& tcode (codeT y') = 0) ↔ (codeT x &&& tcode (codeT y) = 0) := by
    rw [up_ap h, up_ap h', hl]
    exact forall_congr' fun i => ⟨fun q hi => by rw [← h2 i hi]; exact q hi, fun q hi => by rw [h2 i hi]; exact q hi⟩
  unfold upr
  rw [decide_eq_decide.mpr e1, decide_eq_decide.mpr e2]
theorem Row2.sym {x y : Tx} (h : Row2 x y) : Row2 y x := ⟨h.y, h.x, h.l.symm⟩
theorem Row2.tn {x y : Tx} {ts us : List Int} (h : Row2 x y) : Row2 (tnAt x ts) (tnAt y us) := ⟨tnAt_row h.x, tnAt_row h.y, by rw [tnAt, tnAt, mk_len, mk_len, h.l]⟩
theorem upr_sym {x y : Tx} (h : Row2 x y) : upr y x = upr x y := upr_congr h h.sym h.l (fun i _ => ag_sym _ _) (fun i _ => ap_sym _ _)
theorem ag_tn {x y : Tx} {ts : List Int} (h : Row2 x y) {i : Nat} (hi : i < x.s.length) : ag (sg (tnAt x ts) i) (sg (tnAt y ts) i) = ag (sg x i) (sg y i) := by
  rw [tnAt, tnAt, mk_sg hi, mk_sg (by rw [h.l]; exact hi)]
  split
  · exact ag_sw _ _
  · rfl
theorem ap_tn {x y : Tx} {ts : List Int} (h : Row2 x y) {i : Nat} (hi : i < x.s.length) : ap (sg (tnAt x ts) i) (sg (tnAt y ts) i) = ap (sg x i) (sg y i) := by
  rw [tnAt, tnAt, mk_sg hi, mk_sg (by rw [h.l]; exact hi)]
  split
  · exact ap_sw _ _
  · rfl
theorem upr_tn {x y : Tx} {ts : List Int} (h : Row2 x y) : upr (tnAt x ts) (tnAt y ts) = upr x y := upr_congr h h.tn (by rw [tnAt, mk_len]) (fun i hi => ag_tn h hi) (fun i hi => ap_tn h hi)
theorem apI_tn {x y : Tx} {ts : List Int} (h : Row2 x y) : apI (tnAt x ts) (tnAt y ts) = apI x y := by
  have e : (tnAt x ts).s.length = x.s.length := by rw [tnAt, mk_len]
  unfold apI
  rw [e]
  exact ix_congr fun i hi => ap_tn h hi
theorem laid_comm {x y : Tx} (h : Row2 x y) : laidT x y = laidT y x ↔ apI x y = [] := by
  unfold laidT apI
  rw [h.l, mk_inj, ix_nil]
  refine forall_congr' fun i => forall_congr' fun hi => ?_
  unfold ap
  by_cases a : sg x i = 48
  · rw [if_pos a, decide_eq_true a]
    by_cases b : sg y i = 48
    · rw [if_pos b]
      simp [a, b]
    · rw [if_neg b]
      simp
  · rw [if_neg a, decide_eq_false a]
    by_cases b : sg y i = 48
    · rw [if_pos b]
      simp [b]
    · rw [if_neg b, decide_eq_false b]
      simp
section
variable {P : Program} {w : World} {K : PySem.W.Frag} {mg : Str → Option Value} {base : Heap}
def F__law_are_two_right : Pm Bool := fun Γ cs R => ∃ (p : Addr) (x y : Tx), cs = [⟨(⟨p⟩ : Z.Loc)⟩, ⟨x⟩, ⟨y⟩] ∧ (p, DiceI) ∈ Γ ∧ Row2 x y ∧ R = Is true
theorem sc__law_are_two_right : FnScope ["_law_dice_here", "_law_one", "_law_other", "_law_things", "_law_first", "_law_second"] ["_law_dice_here", "_law_one", "_law_other"] (defScope s__law_are_two_right) := ⟨rfl, rfl, rfl, by decide +kernel, rfl, by decide +kernel, by decide +kernel⟩
theorem ok__law_are_two_right (T : Txt K mg) {f : Addr} {fd : FuncData} (D : Df K mg "_law_are_two_right" s__law_are_two_right ["_law_dice_here", "_law_one", "_law_other"] f fd) {f__law_drawn_things : Addr} {fd__law_drawn_things : FuncData} (D__law_drawn_things : Df K mg "_law_drawn_things" s__law_drawn_things ["_law_dice_here", "_law_size"] f__law_drawn_things fd__law_drawn_things) (G__law_drawn_things : FnOk P w K mg base CX0 3 f__law_drawn_things fd__law_drawn_things ["_law_dice_here", "_law_size"] (spD K F__law_drawn_things)) {f_turned : Addr} {fd_turned : FuncData} (D_turned : DfD K mg "turned" s_turned ["row", "things"] f_turned fd_turned) (G_turned : FnOk P w K mg base CX0 6 f_turned fd_turned ["row", "things"] (spD K F_turned)) {f_apart : Addr} {fd_apart : FuncData} (D_apart : Df K mg "apart" s_apart ["one", "other"] f_apart fd_apart) (G_apart : FnOk P w K mg base CX0 6 f_apart fd_apart ["one", "other"] (spD K F_apart)) {f_laid_over : Addr} {fd_laid_over : FuncData} (D_laid_over : Df K mg "laid_over" s_laid_over ["one", "other"] f_laid_over fd_laid_over) (G_laid_over : FnOk P w K mg base CX0 6 f_laid_over fd_laid_over ["one", "other"] (spD K F_laid_over)) {f__law_laid : Addr} {fd__law_laid : FuncData} (D__law_laid : Df K mg "_law_laid" s__law_laid ["_law_one", "_law_other"] f__law_laid fd__law_laid) (G__law_laid : FnOk P w K mg base CX0 2 f__law_laid fd__law_laid ["_law_one", "_law_other"] (spD K F__law_laid)) {f_is_upright : Addr} {fd_is_upright : FuncData} (D_is_upright : Df K mg "is_upright" s_is_upright ["one", "other"] f_is_upright fd_is_upright) (G_is_upright : FnOk P w K mg base CX0 6 f_is_upright fd_is_upright ["one", "other"] (spD K F_is_upright)) {f__law_apart : Addr} {fd__law_apart : FuncData} (D__law_apart : Df K mg "_law_apart" s__law_apart ["_law_one", "_law_other"] f__law_apart fd__law_apart) (G__law_apart : FnOk P w K mg base CX0 3 f__law_apart fd__law_apart ["_law_one", "_law_other"] (spD K F__law_apart)) {f__law_upright : Addr} {fd__law_upright : FuncData} (D__law_upright : Df K mg "_law_upright" s__law_upright ["_law_one", "_law_other"] f__law_upright fd__law_upright) (G__law_upright : FnOk P w K mg base CX0 4 f__law_upright fd__law_upright ["_law_one", "_law_other"] (spD K F__law_upright)) : FnOk P w K mg base CX0 7 f fd ["_law_dice_here", "_law_one", "_law_other"] (spD K F__law_are_two_right) := by
  obtain ⟨_, hI_SHIFT⟩ := T.i_SHIFT
  obtain ⟨_, hI_LOW⟩ := T.i_LOW
  obtain ⟨_, hI_MAX_THINGS⟩ := T.i_MAX_THINGS
  refine def_ok D.F sc__law_are_two_right (fun Γ cs R g => ?len) (fun cdv A outer s H E hr Γ cs R g => ?_)
  case len => obtain ⟨p, x, y, rfl, _⟩ := g; rfl
  obtain ⟨p, x, y, rfl, hp, hx, rfl⟩ := g
  refine ⟨_, (pss_cons (ps_set (i := 3) sc__law_are_two_right.nd rfl (by first | exact .inl rfl | exact .inr rfl) (pe_call G__law_drawn_things (hr.mono (by decide)) (by rfl) D__law_drawn_things.g D__law_drawn_things.kp D__law_drawn_things.b .nil pass0 (pa_cons (pv 0) (pa_cons (pe_callB call_lenK (by rfl) T.z_len (by decide +kernel) (pa_cons (pv 1) pa_nil)) pa_nil))))
      (pss_cons (ps_if (PW.pt (pw_or (pt_cmpR (op_neK hr.units) (pe_call G_apart (hr.mono (by decide)) (by rfl) D_apart.g D_apart.kp D_apart.b .nil pass0 (pa_cons (pv 1) (pa_cons (pv 2) pa_nil))) (pe_callTy call_tupK (by rfl) T.z_tuple (by decide +kernel) (pa_cons (pe_call G__law_apart (hr.mono (by decide)) (by rfl) D__law_apart.g D__law_apart.kp D__law_apart.b .nil pass0 (pa_cons (pv 1) (pa_cons (pv 2) pa_nil))) pa_nil)) (nomark _)) (pw_or1 (pt_cmpR op_ne (pe_call G_laid_over (hr.mono (by decide)) (by rfl) D_laid_over.g D_laid_over.kp D_laid_over.b .nil pass0 (pa_cons (pv 1) (pa_cons (pv 2) pa_nil))) (pe_call G__law_laid (hr.mono (by decide)) (by rfl) D__law_laid.g D__law_laid.kp D__law_laid.b .nil pass0 (pa_cons (pv 1) (pa_cons (pv 2) pa_nil))) (nomark _))))) (pss_one (ps_ret pe_bl)) pss_nil)
      (pss_cons (ps_if (PW.pt (pw_or (pt_cmpR op_ne (pe_callB call_reprB (by rfl) T.z_repr (by decide +kernel) (pa_cons (pe_call G_is_upright (hr.mono (by decide)) (by rfl) D_is_upright.g D_is_upright.kp D_is_upright.b .nil pass0 (pa_cons (pv 1) (pa_cons (pv 2) pa_nil))) pa_nil)) (pe_callB call_reprB (by rfl) T.z_repr (by decide +kernel) (pa_cons (pe_call G__law_upright (hr.mono (by decide)) (by rfl) D__law_upright.g D__law_upright.kp D__law_upright.b .nil pass0 (pa_cons (pv 1) (pa_cons (pv 2) pa_nil))) pa_nil)) (nomark _)) (pw_or1 (pt_cmpR op_ne (pe_call G_is_upright (hr.mono (by decide)) (by rfl) D_is_upright.g D_is_upright.kp D_is_upright.b .nil pass0 (pa_cons (pv 1) (pa_cons (pv 2) pa_nil))) (pe_call G_is_upright (hr.mono (by decide)) (by rfl) D_is_upright.g D_is_upright.kp D_is_upright.b .nil pass0 (pa_cons (pv 2) (pa_cons (pv 1) pa_nil))) (nomark _))))) (pss_one (ps_ret pe_bl)) pss_nil)
      (pss_cons (ps_if (pt_cmpR op_ne (pe_cmpR op_eq (pe_call G_laid_over (hr.mono (by decide)) (by rfl) D_laid_over.g D_laid_over.kp D_laid_over.b .nil pass0 (pa_cons (pv 1) (pa_cons (pv 2) pa_nil))) (pe_call G_laid_over (hr.mono (by decide)) (by rfl) D_laid_over.g D_laid_over.kp D_laid_over.b .nil pass0 (pa_cons (pv 2) (pa_cons (pv 1) pa_nil))) (nomark _)) (pe_cmpR (op_eqK hr.units) (pe_call G_apart (hr.mono (by decide)) (by rfl) D_apart.g D_apart.kp D_apart.b .nil pass0 (pa_cons (pv 1) (pa_cons (pv 2) pa_nil))) (pe_tup pa_nil) (nomark _)) (nomark _)) (pss_one (ps_ret pe_bl)) pss_nil)
      (pss_cons (ps_par (i := 4) (j := 5) (by rfl) sc__law_are_two_right.nd rfl rfl (by decide) rfl rfl (pa_cons (pe_call G_turned (hr.mono (by decide)) (by rfl) D_turned.g D_turned.kp D_turned.b .nil pass0 (pa_cons (pv 1) (pa_cons (pv 3) pa_nil))) (pa_cons (pe_call G_turned (hr.mono (by decide)) (by rfl) D_turned.g D_turned.kp D_turned.b .nil pass0 (pa_cons (pv 2) (pa_cons (pv 3) pa_nil))) pa_nil)) (by kernel_rfl))
      (pss_one (ps_ret (pe_and (pe_cmpR op_eq (pe_call G_is_upright (hr.mono (by decide)) (by rfl) D_is_upright.g D_is_upright.kp D_is_upright.b .nil pass0 (pa_cons (pv 4) (pa_cons (pv 5) pa_nil))) (pe_call G_is_upright (hr.mono (by decide)) (by rfl) D_is_upright.g D_is_upright.kp D_is_upright.b .nil pass0 (pa_cons (pv 1) (pa_cons (pv 2) pa_nil))) (nomark _)) (pe_one (pe_cmpR (op_eqK hr.units) (pe_call G_apart (hr.mono (by decide)) (by rfl) D_apart.g D_apart.kp D_apart.b .nil pass0 (pa_cons (pv 4) (pa_cons (pv 5) pa_nil))) (pe_call G_apart (hr.mono (by decide)) (by rfl) D_apart.g D_apart.kp D_apart.b .nil pass0 (pa_cons (pv 1) (pa_cons (pv 2) pa_nil))) (nomark _))))))))))), fun Δ0 D' hf hn => ?_⟩
  have h9 := hx.x.len
  have hxs := hx.sym
  refine wp_asg (P := DT x.s.length) (ev_call1 (ea_1 (ev_var (i := 0)) (ea_1 (ev_cb (ev_var (i := 1)) (o1_lenS (len_le hx.x))) ea_nil)) ⟨p, _, rfl, hp, h9, rfl⟩) (ltr rfl) fun t ht => ?_
  obtain ⟨ha, hl⟩ := ht
  have hay : ascF y.s.length 0 t.l = true := by rw [hx.l]; exact ha
  have ax : EvA K Γ (tCons (tVar 1) (tCons (tVar 2) tNil)) ([some ⟨(⟨p⟩ : Z.Loc)⟩, some ⟨x⟩, some ⟨y⟩, some ⟨t⟩, none, none] : Z.Env) (Is [⟨x⟩, ⟨y⟩]) := ea_1 (ev_var (i := 1)) (ea_1 (ev_var (i := 2)) ea_nil)
  have ay : EvA K Γ (tCons (tVar 2) (tCons (tVar 1) tNil)) ([some ⟨(⟨p⟩ : Z.Loc)⟩, some ⟨x⟩, some ⟨y⟩, some ⟨t⟩, none, none] : Z.Env) (Is [⟨y⟩, ⟨x⟩]) := ea_1 (ev_var (i := 2)) (ea_1 (ev_var (i := 1)) ea_nil)
  refine wp_no ?_ (et_or (et_test (ev_op1 (ev_call1 ax ⟨x, y, rfl, hx, rfl⟩) (ev_cb (ev_call1 ax ⟨x, y, rfl, hx, rfl⟩) o1_tuple) o2_neT)) fun _ => et_test (ev_op1 (ev_call1 ax ⟨x, y, rfl, hx, rfl⟩) (ev_call1 ax ⟨x, y, rfl, hx, rfl⟩) o2_neS)) ?_
  · show (!decide (apI x y = apI x y) || !decide (laidT x y = laidT x y)) = false
    simp
  refine wp_no ?_ (et_or (et_test (ev_op1 (ev_cb (ev_call1 ax ⟨x, y, rfl, hx, rfl⟩) o1_reprB) (ev_cb (ev_call1 ax ⟨x, y, rfl, hx, rfl⟩) o1_reprB) o2_neS)) fun _ => et_test (ev_op1 (ev_call1 ax ⟨x, y, rfl, hx, rfl⟩) (ev_call1 ay ⟨y, x, rfl, hxs, rfl⟩) o2_neB)) ?_
  · rw [upr_sym hx]
    simp
  refine wp_no ?_ (et_test (ev_op1 (ev_op1 (ev_call1 ax ⟨x, y, rfl, hx, rfl⟩) (ev_call1 ay ⟨y, x, rfl, hxs, rfl⟩) o2_eqS) (ev_op1 (ev_call1 ax ⟨x, y, rfl, hx, rfl⟩) (ev_tupN (xs := ([] : List Int)) ea_nil (by decide)) o2_eqT) o2_neB)) ?_
  · show (!decide (decide (laidT x y = laidT y x) = decide (apI x y = []))) = false
    have q : decide (laidT x y = laidT y x) = decide (apI x y = []) := decide_eq_decide.mpr (laid_comm hx)
    rw [q]
    simp
  refine wp_par (Q := Is [⟨tnAt x t.l⟩, ⟨tnAt y t.l⟩]) (ea_1 (ev_call1 (ea_1 (ev_var (i := 1)) (ea_1 (ev_var (i := 3)) ea_nil)) (Ft2 hx.x ha)) (ea_1 (ev_call1 (ea_1 (ev_var (i := 2)) (ea_1 (ev_var (i := 3)) ea_nil)) (Ft2 hx.y hay)) ea_nil)) (ltr rfl) (ltr rfl) fun cs hc => ⟨⟨tnAt x t.l⟩, ⟨tnAt y t.l⟩, hc, ?_⟩
  have az : EvA K Γ (tCons (tVar 4) (tCons (tVar 5) tNil)) ([some ⟨(⟨p⟩ : Z.Loc)⟩, some ⟨x⟩, some ⟨y⟩, some ⟨t⟩, some ⟨tnAt x t.l⟩, some ⟨tnAt y t.l⟩] : Z.Env) (Is [⟨tnAt x t.l⟩, ⟨tnAt y t.l⟩]) := ea_1 (ev_var (i := 4)) (ea_1 (ev_var (i := 5)) ea_nil)
  have aw : EvA K Γ (tCons (tVar 1) (tCons (tVar 2) tNil)) ([some ⟨(⟨p⟩ : Z.Loc)⟩, some ⟨x⟩, some ⟨y⟩, some ⟨t⟩, some ⟨tnAt x t.l⟩, some ⟨tnAt y t.l⟩] : Z.Env) (Is [⟨x⟩, ⟨y⟩]) := ea_1 (ev_var (i := 1)) (ea_1 (ev_var (i := 2)) ea_nil)
  refine wp_ret hf (ev_is (ev_andV (ev_op1 (ev_call1 az ⟨_, _, rfl, hx.tn, rfl⟩) (ev_call1 aw ⟨x, y, rfl, hx, rfl⟩) o2_eqB) fun _ => ev_op1 (ev_call1 az ⟨_, _, rfl, hx.tn, rfl⟩) (ev_call1 aw ⟨x, y, rfl, hx, rfl⟩) o2_eqT) ?_)
  show (decide (upr (tnAt x t.l) (tnAt y t.l) = upr x y) && decide (apI (tnAt x t.l) (tnAt y t.l) = apI x y)) = true
  rw [upr_tn hx, apI_tn hx]
  simp
end
end K00

set_option Elab.async false
set_option linter.all false
set_option maxRecDepth 100000
set_option maxHeartbeats 1000000
namespace K00
open PySem PySem.Spec PyProof.Rows L2 Z
theorem laid_len (x y : Tx) : (laidT x y).s.length = x.s.length := by rw [laidT, mk_len]
theorem laid_assoc {x y z : Tx} (h : Row2 x y) : laidT (laidT x y) z = laidT x (laidT y z) := by
  show mk (laidT x y).s.length _ = mk x.s.length _
  rw [laid_len]
  refine mk_congr fun i hi => ?_
  have e1 : sg (laidT x y) i = if sg x i = 48 then sg y i else sg x i := by rw [laidT, mk_sg hi]
  have e2 : sg (laidT y z) i = if sg y i = 48 then sg z i else sg y i := by rw [laidT, mk_sg (by rw [h.l]; exact hi)]
  rw [e1, e2]
  by_cases a : sg x i = 48
  · rw [if_pos a, if_pos a]
  · rw [if_neg a, if_neg a, if_neg a]
theorem zero_row {n : Nat} (h : n ≤ 9) : Row (⟨List.replicate n 48⟩ : Tx) := ⟨List.all_eq_true.mpr fun c hc => by rw [(List.mem_replicate.mp hc).2]; rfl, by rw [List.length_replicate]; exact h⟩
section
variable {P : Program} {w : World} {K : PySem.W.Frag} {mg : Str → Option Value} {base : Heap}
def F__law_right : Pm Bool := fun Γ cs R => ∃ (p : Addr), cs = [⟨(⟨p⟩ : Z.Loc)⟩] ∧ (p, DiceI) ∈ Γ ∧ R = Is true
theorem getD_of {α : Type} {xs : List α} {d : α} {i : Nat} (h : i < xs.length) : xs[i]? = some (xs.getD i d) := by
  rw [List.getD_eq_getElem?_getD, List.getElem?_eq_getElem h]
  rfl
theorem sc__law_right : FnScope ["_law_dice_here", "_law_size", "_law_one", "_law_other", "_law_third", "_law_like", "_law_pairs", "_law_at", "_law_row", "_law_pair"] ["_law_dice_here"] (defScope s__law_right) := ⟨rfl, rfl, rfl, by decide +kernel, rfl, by decide +kernel, by decide +kernel⟩
theorem ok__law_right (T : Txt K mg) {f : Addr} {fd : FuncData} (D : Df K mg "_law_right" s__law_right ["_law_dice_here"] f fd) {f__law_roll : Addr} {fd__law_roll : FuncData} (D__law_roll : Df K mg "_law_roll" s__law_roll ["_law_dice_here", "_law_total"] f__law_roll fd__law_roll) (G__law_roll : FnOk P w K mg base CX0 2 f__law_roll fd__law_roll ["_law_dice_here", "_law_total"] (spD K F__law_roll)) {f__law_turn_at : Addr} {fd__law_turn_at : FuncData} (D__law_turn_at : Df K mg "_law_turn_at" s__law_turn_at ["_law_row", "_law_things"] f__law_turn_at fd__law_turn_at) (G__law_turn_at : FnOk P w K mg base CX0 3 f__law_turn_at fd__law_turn_at ["_law_row", "_law_things"] (spD K F__law_turn_at)) {f__law_drawn_row : Addr} {fd__law_drawn_row : FuncData} (D__law_drawn_row : Df K mg "_law_drawn_row" s__law_drawn_row ["_law_dice_here", "_law_size"] f__law_drawn_row fd__law_drawn_row) (G__law_drawn_row : FnOk P w K mg base CX0 4 f__law_drawn_row fd__law_drawn_row ["_law_dice_here", "_law_size"] (spD K F__law_drawn_row)) {f__law_drawn_things : Addr} {fd__law_drawn_things : FuncData} (D__law_drawn_things : Df K mg "_law_drawn_things" s__law_drawn_things ["_law_dice_here", "_law_size"] f__law_drawn_things fd__law_drawn_things) (G__law_drawn_things : FnOk P w K mg base CX0 3 f__law_drawn_things fd__law_drawn_things ["_law_dice_here", "_law_size"] (spD K F__law_drawn_things)) {f_laid_over : Addr} {fd_laid_over : FuncData} (D_laid_over : Df K mg "laid_over" s_laid_over ["one", "other"] f_laid_over fd_laid_over) (G_laid_over : FnOk P w K mg base CX0 6 f_laid_over fd_laid_over ["one", "other"] (spD K F_laid_over)) {f__law_turn : Addr} {fd__law_turn : FuncData} (D__law_turn : Df K mg "_law_turn" s__law_turn ["_law_row"] f__law_turn fd__law_turn) (G__law_turn : FnOk P w K mg base CX0 3 f__law_turn fd__law_turn ["_law_row"] (spD K F__law_turn)) {f__law_are_two_right : Addr} {fd__law_are_two_right : FuncData} (D__law_are_two_right : Df K mg "_law_are_two_right" s__law_are_two_right ["_law_dice_here", "_law_one", "_law_other"] f__law_are_two_right fd__law_are_two_right) (G__law_are_two_right : FnOk P w K mg base CX0 7 f__law_are_two_right fd__law_are_two_right ["_law_dice_here", "_law_one", "_law_other"] (spD K F__law_are_two_right)) {f__law_is_row_right : Addr} {fd__law_is_row_right : FuncData} (D__law_is_row_right : Df K mg "_law_is_row_right" s__law_is_row_right ["_law_dice_here", "_law_row"] f__law_is_row_right fd__law_is_row_right) (G__law_is_row_right : FnOk P w K mg base CX0 7 f__law_is_row_right fd__law_is_row_right ["_law_dice_here", "_law_row"] (spD K F__law_is_row_right)) : FnOk P w K mg base CX0 8 f fd ["_law_dice_here"] (spD K F__law_right) := by
  obtain ⟨_, hI_SHIFT⟩ := T.i_SHIFT
  obtain ⟨_, hI_LOW⟩ := T.i_LOW
  obtain ⟨_, hI_MAX_THINGS⟩ := T.i_MAX_THINGS
  refine def_ok D.F sc__law_right (fun Γ cs R g => ?len) (fun cdv A outer s H E hr Γ cs R g => ?_)
  case len => obtain ⟨p, rfl, _⟩ := g; rfl
  obtain ⟨p, rfl, hp, rfl⟩ := g
  refine ⟨_, (pss_cons (ps_set (i := 1) sc__law_right.nd rfl (by first | exact .inl rfl | exact .inr rfl) (pe_call G__law_roll (hr.mono (by decide)) (by rfl) D__law_roll.g D__law_roll.kp D__law_roll.b .nil pass0 (pa_cons (pv 0) (pa_cons pe_int pa_nil))))
      (pss_cons (ps_asg (pe_lc (own := [("_law_at", 7)]) (g := (gName 7)) (tt := tYes) rfl sc__law_right.nd (pi_range1 (by rfl) T.z_range (pa_cons pe_int pa_nil)) (blkOk_by (N := ["_law_dice_here", "_law_size", "_law_one", "_law_other", "_law_third", "_law_like", "_law_pairs", "_law_at", "_law_row", "_law_pair"]) (sc := defScope s__law_right) (by decide +kernel)) (fun _ _ _ _ _ => (pg_name (i := 7) sc__law_right.nd rfl (by first | exact .inl rfl | exact .inr rfl))) (fun _ _ _ _ _ => pts_nil) (fun _ _ _ _ _ => (pe_call G__law_drawn_row (hr.mono (by decide)) (by rfl) D__law_drawn_row.g D__law_drawn_row.kp D__law_drawn_row.b .nil pass0 (pa_cons (pv 0) (pa_cons (pv 1) pa_nil))))) (pg_unl rfl (pgs_cons (pg_name (i := 2) sc__law_right.nd rfl (by first | exact .inl rfl | exact .inr rfl)) (pgs_cons (pg_name (i := 3) sc__law_right.nd rfl (by first | exact .inl rfl | exact .inr rfl)) (pgs_cons (pg_name (i := 4) sc__law_right.nd rfl (by first | exact .inl rfl | exact .inr rfl)) pgs_nil)))))
      (pss_cons (ps_set (i := 5) sc__law_right.nd rfl (by first | exact .inl rfl | exact .inr rfl) (pe_call G__law_turn_at (hr.mono (by decide)) (by rfl) D__law_turn_at.g D__law_turn_at.kp D__law_turn_at.b .nil pass0 (pa_cons (pv 2) (pa_cons (pe_call G__law_drawn_things (hr.mono (by decide)) (by rfl) D__law_drawn_things.g D__law_drawn_things.kp D__law_drawn_things.b .nil pass0 (pa_cons (pv 0) (pa_cons (pv 1) pa_nil))) pa_nil))))
      (pss_cons (ps_if (pt_not (pt_val (pe_callB (cr_allK rfl) (by rfl) T.z_all (by decide +kernel) (pa_cons (pe_lc (own := [("_law_row", 8)]) (g := (gName 8)) (tt := tYes) rfl sc__law_right.nd (pi_tupK (pe_tup (pa_cons (pv 2) (pa_cons (pv 3) (pa_cons (pv 5) pa_nil))))) (blkOk_by (N := ["_law_dice_here", "_law_size", "_law_one", "_law_other", "_law_third", "_law_like", "_law_pairs", "_law_at", "_law_row", "_law_pair"]) (sc := defScope s__law_right) (by decide +kernel)) (fun _ _ _ _ _ => (pg_name (i := 8) sc__law_right.nd rfl (by first | exact .inl rfl | exact .inr rfl))) (fun _ _ _ _ _ => pts_nil) (fun _ _ _ _ _ => (pe_call G__law_is_row_right (hr.mono (by decide)) (by rfl) D__law_is_row_right.g D__law_is_row_right.kp D__law_is_row_right.b .nil pass0 (pa_cons (pv 0) (pa_cons (pv 8) pa_nil))))) pa_nil)))) (pss_one (ps_ret pe_bl)) pss_nil)
      (pss_cons (ps_if (pt_cmpR op_ne (pe_call G_laid_over (hr.mono (by decide)) (by rfl) D_laid_over.g D_laid_over.kp D_laid_over.b .nil pass0 (pa_cons (pe_call G_laid_over (hr.mono (by decide)) (by rfl) D_laid_over.g D_laid_over.kp D_laid_over.b .nil pass0 (pa_cons (pv 2) (pa_cons (pv 3) pa_nil))) (pa_cons (pv 4) pa_nil))) (pe_call G_laid_over (hr.mono (by decide)) (by rfl) D_laid_over.g D_laid_over.kp D_laid_over.b .nil pass0 (pa_cons (pv 2) (pa_cons (pe_call G_laid_over (hr.mono (by decide)) (by rfl) D_laid_over.g D_laid_over.kp D_laid_over.b .nil pass0 (pa_cons (pv 3) (pa_cons (pv 4) pa_nil))) pa_nil))) (nomark _)) (pss_one (ps_ret pe_bl)) pss_nil)
      (pss_cons (ps_set (i := 6) sc__law_right.nd rfl (by first | exact .inl rfl | exact .inr rfl) (pe_lst (pa_cons (pe_tup (pa_cons (pv 2) (pa_cons (pv 3) pa_nil))) (pa_cons (pe_tup (pa_cons (pv 3) (pa_cons (pv 4) pa_nil))) (pa_cons (pe_tup (pa_cons (pv 2) (pa_cons (pv 5) pa_nil))) (pa_cons (pe_tup (pa_cons (pv 2) (pa_cons (pe_call G__law_turn (hr.mono (by decide)) (by rfl) D__law_turn.g D__law_turn.kp D__law_turn.b .nil pass0 (pa_cons (pv 2) pa_nil)) pa_nil))) (pa_cons (pe_tup (pa_cons (pv 2) (pa_cons (pv 2) pa_nil))) (pa_cons (pe_tup (pa_cons (pv 2) (pa_cons (pe_op op_mulS pe_str (pv 1)) pa_nil))) pa_nil))))))))
      (pss_one (ps_ret (pe_callB (cr_allK rfl) (by rfl) T.z_all (by decide +kernel) (pa_cons (pe_lc (own := [("_law_pair", 9)]) (g := (gName 9)) (tt := tYes) rfl sc__law_right.nd (pi_listK (pv 6)) (blkOk_by (N := ["_law_dice_here", "_law_size", "_law_one", "_law_other", "_law_third", "_law_like", "_law_pairs", "_law_at", "_law_row", "_law_pair"]) (sc := defScope s__law_right) (by decide +kernel)) (fun _ _ _ _ _ => (pg_name (i := 9) sc__law_right.nd rfl (by first | exact .inl rfl | exact .inr rfl))) (fun _ _ _ _ _ => pts_nil) (fun _ _ _ _ _ => (pe_call G__law_are_two_right (hr.mono (by decide)) (by rfl) D__law_are_two_right.g D__law_are_two_right.kp D__law_are_two_right.b .nil pass0 (pa_cons (pv 0) (pa_cons (pe_ix ix_tupK (pv 9) pe_int (fun _ _ => rfl)) (pa_cons (pe_ix ix_tupK (pv 9) pe_int (fun _ _ => rfl)) pa_nil)))))) pa_nil)))))))))), fun Δ0 D' hf hn => ?_⟩
  refine wp_asg (ev_call1 (ea_1 (ev_var (i := 0)) (ea_1 ev_int ea_nil)) ⟨p, 10, rfl, hp, by decide, by decide, rfl⟩) (ltr rfl) fun n hn10 => ?_
  obtain ⟨n, rfl⟩ : ∃ k : Nat, n = k := ⟨n.toNat, by omega⟩
  have h9 : n ≤ 9 := by omega
  refine wp_unl3 (P := fun xs : List Tx => xs.length = 3 ∧ ∀ y ∈ xs, DR n y) (ev_lc (fun i (acc : List Tx) => acc.length = i ∧ ∀ y ∈ acc, DR n y) (src_rng1 (n := 3) (ea_1 ev_int ea_nil) (by decide) (ltr rfl)) (by decide) (by decide) ⟨rfl, fun y hy => by cases hy⟩ fun i acc hi ⟨h1, h2⟩ => ⟨_, et_yes, fun h => (by cases h), fun _ => ⟨_, ev_call1 (ea_1 (ev_var (i := 0)) (ea_1 (ev_var (i := 1)) ea_nil)) ⟨p, n, rfl, hp, h9, rfl⟩, fun b hb => ⟨by rw [List.length_append, h1]; rfl, fun y hy => ?_⟩⟩⟩) (ltr rfl) (ltr rfl) (ltr rfl) fun xs hxs => ?_
  · rcases List.mem_append.mp hy with hy | hy
    · exact h2 y hy
    · rw [List.mem_singleton.mp hy]
      exact hb
  obtain ⟨hl, hxs⟩ := hxs
  obtain ⟨x, y, z, rfl⟩ : ∃ x y z, xs = [x, y, z] := by
    match xs, hl with
    | [x, y, z], _ => exact ⟨x, y, z, rfl⟩
  have hx : DR n x := hxs x (by simp)
  have hy : DR n y := hxs y (by simp)
  have hz : DR n z := hxs z (by simp)
  refine ⟨x, y, z, rfl, ?_⟩
  refine wp_asg (P := DR n) (ev_callW (Pcs := fun cs => ∃ t : Tup Int, cs = [⟨x⟩, ⟨t⟩]) (ea_cons (Pa := Is x) (Ps := fun cs => ∃ t : Tup Int, cs = [⟨t⟩]) (ev_var (i := 2)) (ea_cons (Ps := Is []) (ev_call1 (ea_1 (ev_var (i := 0)) (ea_1 (ev_var (i := 1)) ea_nil)) ⟨p, n, rfl, hp, h9, rfl⟩) ea_nil fun a cs _ hc => ⟨a, by rw [show cs = [] from hc]⟩) fun a cs ha hc => by obtain ⟨t, rfl⟩ := hc; exact ⟨t, by rw [show a = x from ha]⟩) fun cs hc => ?_) (ltr rfl) fun u hu => ?_
  · obtain ⟨t, rfl⟩ := hc
    exact ⟨_, ⟨x, t, rfl, hx.1, rfl⟩, fun b hb => by rw [show b = _ from hb]; exact ⟨tnAt_row hx.1, by rw [tnAt, mk_len]; exact hx.2⟩⟩
  refine wp_no (b := false) rfl (et_not (et_B (ev_is (ev_cb (ev_lcD (xs := [x, y, u]) (fun _ => true) (fun _ => true) (src_tup (xs := (⟨[x, y, u]⟩ : Tup Tx)) (x0 := fun i => [x, y, u].getD i x) (ev_tupN (xs := [x, y, u]) (ea_1 (ev_var (i := 2)) (ea_1 (ev_var (i := 3)) (ea_1 (ev_var (i := 5)) ea_nil))) (by simp)) (fun i hi => getD_of hi) (ltr rfl)) (by simp) (by decide) fun i r hr => ⟨et_yes, fun _ => ?_⟩) o1_all) (b := true) rfl))) ?_
  · have e : [x, y, u].getD i x = r := by
      rw [List.getD_eq_getElem?_getD, hr]
      rfl
    have hm : r ∈ [x, y, u] := List.mem_of_getElem? hr
    have hr' : Row r := by
      simp only [List.mem_cons, List.not_mem_nil, or_false] at hm
      rcases hm with rfl | rfl | rfl
      · exact hx.1
      · exact hy.1
      · exact hu.1
    subst e
    exact ev_call1 (ea_1 (ev_var (i := 0)) (ea_1 (ev_var (i := 8)) ea_nil)) ⟨p, _, rfl, hp, hr', rfl⟩
  have hxy : Row2 x y := ⟨hx.1, hy.1, by rw [hx.2, hy.2]⟩
  have hyz : Row2 y z := ⟨hy.1, hz.1, by rw [hy.2, hz.2]⟩
  have hxyz : Row2 (laidT x y) z := ⟨laid_row hxy.x hxy.y hxy.l, hz.1, by rw [laid_len, hx.2, hz.2]⟩
  have hxyz2 : Row2 x (laidT y z) := ⟨hx.1, laid_row hyz.x hyz.y hyz.l, by rw [laid_len, hx.2, hy.2]⟩
  refine wp_no ?_ (et_test (ev_op1 (ev_call1 (ea_1 (ev_call1 (ea_1 (ev_var (i := 2)) (ea_1 (ev_var (i := 3)) ea_nil)) ⟨x, y, rfl, hxy, rfl⟩) (ea_1 (ev_var (i := 4)) ea_nil)) ⟨_, z, rfl, hxyz, rfl⟩) (ev_call1 (ea_1 (ev_var (i := 2)) (ea_1 (ev_call1 (ea_1 (ev_var (i := 3)) (ea_1 (ev_var (i := 4)) ea_nil)) ⟨y, z, rfl, hyz, rfl⟩) ea_nil)) ⟨x, _, rfl, hxyz2, rfl⟩) o2_neS)) ?_
  · rw [laid_assoc hxy]
    simp
  have hps : ∀ q ∈ [(x, y), (y, z), (x, u), (x, tn x), (x, x), (x, (⟨List.replicate n 48⟩ : Tx))], Row2 q.1 q.2 := by
    intro q hq
    simp only [List.mem_cons, List.not_mem_nil, or_false] at hq
    rcases hq with rfl | rfl | rfl | rfl | rfl | rfl
    · exact hxy
    · exact hyz
    · exact ⟨hx.1, hu.1, by rw [hx.2, hu.2]⟩
    · exact ⟨hx.1, tn_row hx.1, by rw [tn, mk_len]⟩
    · exact ⟨hx.1, hx.1, rfl⟩
    · exact ⟨hx.1, zero_row h9, by rw [hx.2, List.length_replicate]⟩
  revert hps
  generalize hP : [(x, y), (y, z), (x, u), (x, tn x), (x, x), (x, (⟨List.replicate n 48⟩ : Tx))] = ps
  intro hps
  refine wp_asg1 (a := ps) ?_ (ltr rfl) ?_
  · rw [← hP]
    exact ev_lst (ea_1 (ev_tup2 (ea_1 (ev_var (i := 2)) (ea_1 (ev_var (i := 3)) ea_nil))) (ea_1 (ev_tup2 (ea_1 (ev_var (i := 3)) (ea_1 (ev_var (i := 4)) ea_nil))) (ea_1 (ev_tup2 (ea_1 (ev_var (i := 2)) (ea_1 (ev_var (i := 5)) ea_nil))) (ea_1 (ev_tup2 (ea_1 (ev_var (i := 2)) (ea_1 (ev_call1 (ea_1 (ev_var (i := 2)) ea_nil) ⟨x, rfl, hx.1, rfl⟩) ea_nil))) (ea_1 (ev_tup2 (ea_1 (ev_var (i := 2)) (ea_1 (ev_var (i := 2)) ea_nil))) (ea_1 (ev_tup2 (ea_1 (ev_var (i := 2)) (ea_1 (ev_op1 (ev_strc [48]) (ev_var (i := 1)) (o2_mulS rfl (by omega))) ea_nil))) ea_nil)))))) (by simp)
  have hlen : ps.length = 6 := by rw [← hP]; rfl
  refine wp_ret hf (ev_is (ev_cb (ev_lcD (xs := ps) (fun _ => true) (fun _ => true) (src_list (xs := ps) (x0 := fun i => ps.getD i (x, y)) (ev_var (i := 6)) (fun i hi => getD_of hi) (ltr rfl)) (by rw [hlen]; decide) (by decide) fun i r hr => ⟨et_yes, fun _ => ?_⟩) o1_all) (by simp))
  have e : ps.getD i (x, y) = r := by
    rw [List.getD_eq_getElem?_getD, hr]
    rfl
  have hr' : Row2 r.1 r.2 := hps r (List.mem_of_getElem? hr)
  subst e
  exact ev_call1 (ea_1 (ev_var (i := 0)) (ea_1 (ev_op1 (ev_var (i := 9)) ev_int o2_ixP0) (ea_1 (ev_op1 (ev_var (i := 9)) ev_int o2_ixP1) ea_nil))) ⟨p, _, _, rfl, hp, hr', rfl⟩
end
end K00

set_option Elab.async false
set_option linter.all false
set_option maxRecDepth 100000
set_option maxHeartbeats 1000000
namespace K00
open PySem PySem.Spec PyProof.Rows L2 Z
theorem isgn_tx : ∀ x ∈ [(⟨[43, 48]⟩ : Tx)], Row x := by
  intro x hx
  rw [List.mem_singleton.mp hx]
  exact ⟨rfl, by decide⟩
section
variable {P : Program} {w : World} {K : PySem.W.Frag} {mg : Str → Option Value} {base : Heap}
def F__law_dice : Own → List Cell → Prop := fun _ cs => ∃ (xs : List Int) (n : Nat), cs = [⟨xs⟩, ⟨(n : Int)⟩]
theorem abs_nn (c : Int) : 0 ≤ (if c < 0 then -c else c) := by split <;> omega
theorem sc__law_dice : FnScope ["_law_script", "_law_spot", "_law_cell", "_law_left"] ["_law_script", "_law_spot"] (defScope s__law_dice) := ⟨rfl, rfl, rfl, by decide +kernel, rfl, by decide +kernel, by decide +kernel⟩
theorem ok__law_dice (T : Txt K mg) {f : Addr} {fd : FuncData} (D : Df K mg "_law_dice" s__law_dice ["_law_script", "_law_spot"] f fd) : FnOk P w K mg base CX0 2 f fd ["_law_script", "_law_spot"] (spF K F__law_dice DiceI) := by
  obtain ⟨_, hI_SHIFT⟩ := T.i_SHIFT
  obtain ⟨_, hI_LOW⟩ := T.i_LOW
  obtain ⟨_, hI_MAX_THINGS⟩ := T.i_MAX_THINGS
  refine def_okF D.F sc__law_dice (fun Γ cs g => ?len) (fun cdv A outer s H E hr Γ cs g => ?_)
  case len => obtain ⟨xs, n, rfl⟩ := g; rfl
  obtain ⟨xs, n, rfl⟩ := g
  refine ⟨_, (pss_cons (ps_set (i := 2) sc__law_dice.nd rfl (by first | exact .inl rfl | exact .inr rfl) (pe_ifExp (pt_cmpR op_lt (pv 1) (pe_callB call_lenK (by rfl) T.z_len (by decide +kernel) (pa_cons (pv 0) pa_nil)) (nomark _)) (pe_callTy call_int1 (by rfl) T.z_int (by decide +kernel) (pa_cons (pe_ix ix_listK (pv 0) (pv 1) (fun _ _ => rfl)) pa_nil)) (pe_op op_add (pe_op op_mul pe_int (pv 1)) pe_int)))
      (pss_cons (ps_set (i := 3) sc__law_dice.nd rfl (by first | exact .inl rfl | exact .inr rfl) (pe_op op_modN (pe_callB (call_max2 rfl) (by rfl) T.z_max (by decide +kernel) (pa_cons pe_int (pa_cons (pe_op op_sub (pe_callB call_abs (by rfl) T.z_abs (by decide +kernel) (pa_cons (pv 2) pa_nil)) (pe_op op_pow pe_int pe_int)) pa_nil))) (pe_op op_mulW (pe_op op_pow pe_int pe_int) (pe_op op_pow pe_int pe_int))))
      (pss_one (ps_ret (pe_lst (pa_cons (pv 3) (pa_cons (pe_op op_add (pe_op op_add (pe_op op_add (pe_op op_mul (pe_op op_modN (pe_callB call_abs (by rfl) T.z_abs (by decide +kernel) (pa_cons (pv 2) pa_nil)) pe_int) pe_int) (pe_op op_mul pe_int (pv 1))) (pe_op op_mul pe_int (pe_callTy call_int1 (by rfl) T.z_int (by decide +kernel) (pa_cons (pe_cmpR op_lt (pv 2) pe_int (nomark _)) pa_nil)))) pe_int) (pa_cons pe_int pa_nil)))))))), fun Δ0 D' hf => ?_⟩
  refine wp_asg (P := fun _ : Int => True) (ev_if (et_test (ev_op1 (ev_var (i := 1)) (ev_cb (ev_var (i := 0) (a := xs)) o1_lenL) (o2_B0 (g := fun i j => decide (i < j))))) (fun h => (ev_cb (ev_op1 (ev_var (i := 0) (a := xs)) (ev_var (i := 1)) (o2_ixL (List.getElem?_eq_getElem (by have := of_decide_eq_true h; omega)))) o1_int).imp fun _ _ => trivial) fun _ => (ev_op1 (ev_op1 ev_int (ev_var (i := 1)) (o2_I (C := CMul) (g := fun i j => i * j) (.inl (by decide)))) ev_int (o2_I0 (g := fun i j => i + j))).imp fun _ _ => trivial) (ltr rfl) fun c _ => ?_
  refine wp_asg (P := fun n : Int => 0 ≤ n) ((ev_op1 (ev_max2 ev_int (ev_op1 (ev_cb (ev_var (i := 2)) o1_abs) (ev_op1 ev_int ev_int (o2_I (C := CPow) (g := fun i j => i ^ j.toNat) ⟨by decide, by decide, by decide⟩)) (o2_I0 (g := fun i j => i - j)))) (ev_op1 (ev_op1 ev_int ev_int (o2_I (C := CPow) (g := fun i j => i ^ j.toNat) ⟨by decide, by decide, by decide⟩)) (ev_op1 ev_int ev_int (o2_I (C := CPow) (g := fun i j => i ^ j.toNat) ⟨by decide, by decide, by decide⟩)) (o2_I (C := CMulW) (g := fun i j => i * j) (wide_mul (a := 200) (b := 200) (by decide +kernel) (by decide +kernel) (by decide) (by decide) (by decide)))) (o2_I (C := fun _ j => j ≠ 0) (g := Int.fmod) (by decide +kernel))).imp fun r hr => ?_) (ltr rfl) fun l hl => ?_
  · rw [show r = _ from hr]
    refine (fmod_nn ?_ (by decide +kernel)).1
    split <;> omega
  refine wp_ret3 hf (ea_cons (Pa := fun n : Int => 0 ≤ n) ((ev_var (i := 3) (a := l)).imp fun r hr => by rw [show r = l from hr]; exact hl) (ea_cons (Pa := fun n : Int => 0 ≤ n) (P := fun cs => ∃ b c : Int, cs = [⟨b⟩, ⟨c⟩] ∧ 0 ≤ b ∧ 0 ≤ c) ((ev_op1 (ev_op1 (ev_op1 (ev_op1 (ev_op1 (ev_cb (ev_var (i := 2) (a := c)) o1_abs) ev_int (o2_I (C := fun _ j => j ≠ 0) (g := Int.fmod) (by decide))) ev_int (o2_I (C := CMul) (g := fun i j => i * j) (.inr (by decide)))) (ev_op1 ev_int (ev_var (i := 1)) (o2_I (C := CMul) (g := fun i j => i * j) (.inl (by decide)))) (o2_I0 (g := fun i j => i + j))) (ev_op1 ev_int (ev_cb (ev_op1 (ev_var (i := 2) (a := c)) ev_int (o2_B0 (g := fun i j => decide (i < j)))) o1_intB) (o2_I (C := CMul) (g := fun i j => i * j) (.inl (by decide)))) (o2_I0 (g := fun i j => i + j))) ev_int (o2_I0 (g := fun i j => i + j))).imp fun r hr => ?_) (ea_cons (Pa := fun n : Int => 0 ≤ n) (Ps := Is []) (P := fun cs => ∃ c : Int, cs = [⟨c⟩] ∧ 0 ≤ c) (ev_int.imp fun r hr => by rw [show r = 0 from hr]; decide) ea_nil fun a cs ha hc => ⟨a, by rw [show cs = [] from hc], ha⟩) fun a cs ha hc => by obtain ⟨c, rfl, h⟩ := hc; exact ⟨a, c, rfl, ha, h⟩) fun a cs ha hc => by obtain ⟨b, c, rfl, h1, h2⟩ := hc; exact ⟨a, b, c, rfl, ha, h1, h2⟩)
  rw [show r = _ from hr]
  have h1 := (fmod_nn (t := 1152921504606846397) (abs_nn c) (by decide)).1
  have h2 : (0 : Int) ≤ if decide (c < 0) = true then 1 else 0 := by split <;> decide
  show (0 : Int) ≤ Int.fmod (if c < 0 then -c else c) 1152921504606846397 * 73 + 811 * (n : Int) + 43 * (if decide (c < 0) = true then 1 else 0) + 19
  omega
end
end K00

set_option Elab.async false
set_option linter.all false
set_option maxRecDepth 100000
set_option maxHeartbeats 1000000
namespace K00
open PySem PySem.Spec PyProof.Rows L2 Z
section
variable {P : Program} {w : World} {K : PySem.W.Frag} {mg : Str → Option Value} {base : Heap}
def F_law : Pm Bool := fun _ cs R => ∃ (xs : List Int), cs = [⟨xs⟩] ∧ R = Is true
abbrev IvL (Γ : Own) (xs : List Int) : Nat → Own → Z.Env → Prop := fun i Γ' ρ' => Γ' = Γ ∧ ∃ a, ρ' = [some ⟨xs⟩, a, none, none, none, none]
theorem rowc {l : List Nat} (h : (l.all isSign && decide (l.length ≤ 9)) = true) : Row (⟨l⟩ : Tx) := by
  rw [Bool.and_eq_true, decide_eq_true_eq] at h
  exact ⟨h.1, h.2⟩
theorem row2c {l m : List Nat} (h : ((l.all isSign && decide (l.length ≤ 9)) && ((m.all isSign && decide (m.length ≤ 9)) && decide (m.length = l.length))) = true) : Row2 (⟨l⟩ : Tx) ⟨m⟩ := by
  rw [Bool.and_eq_true, Bool.and_eq_true (m.all isSign && decide (m.length ≤ 9)), decide_eq_true_eq] at h
  exact ⟨rowc h.1, rowc h.2.1, h.2.2⟩
def lawPairs : List (Tx × Tx) := [(⟨[43, 48]⟩, ⟨[48, 43]⟩), (⟨[43, 43, 48]⟩, ⟨[43, 45, 43]⟩), (⟨[43, 43]⟩, ⟨[43, 43]⟩), (⟨[43, 48]⟩, ⟨[45, 43]⟩), (⟨[48, 48]⟩, ⟨[43, 45]⟩), (⟨[]⟩, ⟨[]⟩)]
theorem lawPairs_ok : ∀ q ∈ lawPairs, Row2 q.1 q.2 := by
  intro q hq
  simp only [lawPairs, List.mem_cons, List.not_mem_nil, or_false] at hq
  rcases hq with rfl | rfl | rfl | rfl | rfl | rfl <;> exact row2c (by decide +kernel)
theorem sc_law : FnScope ["_law_script", "_law_spot", "_law_told", "_law_pairs", "_law_one", "_law_other"] ["_law_script"] (defScope s_law) := ⟨rfl, rfl, rfl, by decide +kernel, rfl, by decide +kernel, by decide +kernel⟩
theorem ok_law (T : Txt K mg) {f : Addr} {fd : FuncData} (D : Df K mg "law" s_law ["_law_script"] f fd) {f_turned : Addr} {fd_turned : FuncData} (D_turned : DfD K mg "turned" s_turned ["row", "things"] f_turned fd_turned) (G_turned : FnOk P w K mg base CX0 6 f_turned fd_turned ["row", "things"] (spD K F_turned)) {f_laid_over : Addr} {fd_laid_over : FuncData} (D_laid_over : Df K mg "laid_over" s_laid_over ["one", "other"] f_laid_over fd_laid_over) (G_laid_over : FnOk P w K mg base CX0 6 f_laid_over fd_laid_over ["one", "other"] (spD K F_laid_over)) {f_apart : Addr} {fd_apart : FuncData} (D_apart : Df K mg "apart" s_apart ["one", "other"] f_apart fd_apart) (G_apart : FnOk P w K mg base CX0 6 f_apart fd_apart ["one", "other"] (spD K F_apart)) {f__law_right : Addr} {fd__law_right : FuncData} (D__law_right : Df K mg "_law_right" s__law_right ["_law_dice_here"] f__law_right fd__law_right) (G__law_right : FnOk P w K mg base CX0 8 f__law_right fd__law_right ["_law_dice_here"] (spD K F__law_right)) {f_is_upright : Addr} {fd_is_upright : FuncData} (D_is_upright : Df K mg "is_upright" s_is_upright ["one", "other"] f_is_upright fd_is_upright) (G_is_upright : FnOk P w K mg base CX0 6 f_is_upright fd_is_upright ["one", "other"] (spD K F_is_upright)) {f__law_dice : Addr} {fd__law_dice : FuncData} (D__law_dice : Df K mg "_law_dice" s__law_dice ["_law_script", "_law_spot"] f__law_dice fd__law_dice) (G__law_dice : FnOk P w K mg base CX0 2 f__law_dice fd__law_dice ["_law_script", "_law_spot"] (spF K F__law_dice DiceI)) : FnOk P w K mg base CX0 9 f fd ["_law_script"] (spD K F_law) := by
  obtain ⟨_, hI_SHIFT⟩ := T.i_SHIFT
  obtain ⟨_, hI_LOW⟩ := T.i_LOW
  obtain ⟨_, hI_MAX_THINGS⟩ := T.i_MAX_THINGS
  refine def_ok D.F sc_law (fun Γ cs R g => ?len) (fun cdv A outer s H E hr Γ cs R g => ?_)
  case len => obtain ⟨xs, rfl, _⟩ := g; rfl
  obtain ⟨xs, rfl, rfl⟩ := g
  refine ⟨_, (pss_cons (ps_for PassesOwn.never rfl (pi_range1 (by rfl) T.z_range (pa_cons (pe_callB (call_max2 rfl) (by rfl) T.z_max (by decide +kernel) (pa_cons pe_int (pa_cons (pe_callB (call_min2 rfl) (by rfl) T.z_min (by decide +kernel) (pa_cons pe_int (pa_cons (pe_callB call_lenK (by rfl) T.z_len (by decide +kernel) (pa_cons (pv 0) pa_nil)) pa_nil))) pa_nil))) pa_nil)) (pg_name (i := 1) sc_law.nd rfl (by first | exact .inl rfl | exact .inr rfl))
        (pss_one (ps_if (pt_not (pt_val (pe_call G__law_right (hr.mono (by decide)) (by rfl) D__law_right.g D__law_right.kp D__law_right.b .nil pass0 (pa_cons (pe_call G__law_dice (hr.mono (by decide)) (by rfl) D__law_dice.g D__law_dice.kp D__law_dice.b .nil pass0 (pa_cons (pv 0) (pa_cons (pv 1) pa_nil))) pa_nil)))) (pss_one (ps_ret pe_bl)) pss_nil)))
      (pss_cons (ps_set (i := 2) sc_law.nd rfl (by first | exact .inl rfl | exact .inr rfl) (pe_lst (pa_cons (pe_call G_turned (hr.mono (by decide)) (by rfl) D_turned.g D_turned.kp D_turned.b1 D_turned.v1 pass0 (pa_cons pe_str pa_nil)) (pa_cons (pe_call G_turned (hr.mono (by decide)) (by rfl) D_turned.g D_turned.kp D_turned.b .nil pass0 (pa_cons pe_str (pa_cons (pe_tup (pa_cons pe_int (pa_cons pe_int pa_nil))) pa_nil))) (pa_cons (pe_call G_laid_over (hr.mono (by decide)) (by rfl) D_laid_over.g D_laid_over.kp D_laid_over.b .nil pass0 (pa_cons pe_str (pa_cons pe_str pa_nil))) (pa_cons (pe_call G_laid_over (hr.mono (by decide)) (by rfl) D_laid_over.g D_laid_over.kp D_laid_over.b .nil pass0 (pa_cons pe_str (pa_cons pe_str pa_nil))) (pa_cons (pe_call G_apart (hr.mono (by decide)) (by rfl) D_apart.g D_apart.kp D_apart.b .nil pass0 (pa_cons pe_str (pa_cons pe_str pa_nil))) pa_nil)))))))
      (pss_cons (ps_if (pt_cmpR (op_neK hr.units) (pv 2) (pe_lst (pa_cons pe_str (pa_cons pe_str (pa_cons pe_str (pa_cons pe_str (pa_cons (pe_tup (pa_cons pe_int (pa_cons pe_int pa_nil))) pa_nil)))))) (nomark _)) (pss_one (ps_ret pe_bl)) pss_nil)
      (pss_cons (ps_set (i := 3) sc_law.nd rfl (by first | exact .inl rfl | exact .inr rfl) (pe_tup (pa_cons (pe_tup (pa_cons pe_str (pa_cons pe_str pa_nil))) (pa_cons (pe_tup (pa_cons pe_str (pa_cons pe_str pa_nil))) (pa_cons (pe_tup (pa_cons pe_str (pa_cons pe_str pa_nil))) (pa_cons (pe_tup (pa_cons pe_str (pa_cons pe_str pa_nil))) (pa_cons (pe_tup (pa_cons pe_str (pa_cons pe_str pa_nil))) (pa_cons (pe_tup (pa_cons pe_str (pa_cons pe_str pa_nil))) pa_nil))))))))
      (pss_one (ps_ret (pe_cmpR (op_eqK hr.units) (pe_lc (own := [("_law_one", 4), ("_law_other", 5)]) (g := (gTup K 2 (gCons (gName 4) (gCons (gName 5) gNil)))) (tt := tYes) rfl sc_law.nd (pi_tupK (pv 3)) (blkOk_by (N := ["_law_script", "_law_spot", "_law_told", "_law_pairs", "_law_one", "_law_other"]) (sc := defScope s_law) (by decide +kernel)) (fun _ _ _ _ _ => (pg_tup rfl (pgs_cons (pg_name (i := 4) sc_law.nd rfl (by first | exact .inl rfl | exact .inr rfl)) (pgs_cons (pg_name (i := 5) sc_law.nd rfl (by first | exact .inl rfl | exact .inr rfl)) pgs_nil)))) (fun _ _ _ _ _ => pts_nil) (fun _ _ _ _ _ => (pe_call G_is_upright (hr.mono (by decide)) (by rfl) D_is_upright.g D_is_upright.kp D_is_upright.b .nil pass0 (pa_cons (pv 4) (pa_cons (pv 5) pa_nil))))) (pe_lst (pa_cons pe_bl (pa_cons pe_bl (pa_cons pe_bl (pa_cons pe_bl (pa_cons pe_bl (pa_cons pe_bl pa_nil))))))) (nomark _)))))))), fun Δ0 D' hf hn => ?_⟩
  obtain ⟨n, hn5, en⟩ : ∃ n : Nat, n ≤ 5 ∧ (if (if (xs.length : Int) < 5 then (xs.length : Int) else 5) > 1 then (if (xs.length : Int) < 5 then (xs.length : Int) else 5) else 1) = (n : Int) := by
    refine ⟨(if (if (xs.length : Int) < 5 then (xs.length : Int) else 5) > 1 then (if (xs.length : Int) < 5 then (xs.length : Int) else 5) else 1).toNat, ?_, ?_⟩
    · split <;> (try split) <;> omega
    · rw [Int.toNat_of_nonneg]
      split <;> (try split) <;> omega
  refine wp_for (IvL Γ xs) (src_rng1 (n := n) (ea_1 (ev_is (ev_max2 ev_int (ev_min2 ev_int (ev_cb (ev_var (i := 0) (a := xs)) o1_lenL))) en) ea_nil) (by omega) (ltr rfl)) ⟨rfl, none, rfl⟩ (fun i Γ' ρ' h => by obtain ⟨_, a, rfl⟩ := h; rfl) ?_ ?_
  · rintro i Γ' ρ' F' hi ⟨rfl, a, rfl⟩
    exact wp_noL (b := false) rfl (et_not (a := true) (et_B (ev_callF (ea_1 (ev_var (i := 0) (a := xs)) (ea_1 (ev_var (i := 1)) ea_nil)) ⟨xs, i, rfl⟩ fun p => ⟨p, rfl, List.mem_cons_self, rfl⟩))) (wp_turn (Iv := IvL Γ' xs) ⟨rfl, some ⟨(i : Int)⟩, rfl⟩ rfl)
  · rintro Γ' ρ' F' ⟨rfl, a, rfl⟩
    refine wp_asg1 (a := ([.inl (tn ⟨[43, 45, 48]⟩), .inl (tnAt ⟨[43, 45, 48]⟩ [1, 2]), .inl (laidT ⟨[43, 48, 45, 48]⟩ ⟨[45, 45, 43, 48]⟩), .inl (laidT ⟨[]⟩ ⟨[]⟩), .inr ⟨apI ⟨[43, 48, 45, 48]⟩ ⟨[45, 45, 43, 48]⟩⟩] : List (Tx ⊕ Tup Int))) (ev_lst (ea_1 (ev_inl (ev_call1D (ea_1 (ev_strc [43, 45, 48]) ea_nil) (Ft1 (rowc (by decide +kernel))))) (ea_1 (ev_inl (ev_call1 (ea_1 (ev_strc [43, 45, 48]) (ea_1 (ev_tupN (xs := [(1 : Int), 2]) (ea_1 ev_int (ea_1 ev_int ea_nil)) (by decide)) ea_nil)) (Ft2 (t := ⟨[1, 2]⟩) (rowc (by decide +kernel)) (by decide +kernel)))) (ea_1 (ev_inl (ev_call1 (ea_1 (ev_strc [43, 48, 45, 48]) (ea_1 (ev_strc [45, 45, 43, 48]) ea_nil)) ⟨_, _, rfl, row2c (by decide +kernel), rfl⟩)) (ea_1 (ev_inl (ev_call1 (ea_1 (ev_strc []) (ea_1 (ev_strc []) ea_nil)) ⟨_, _, rfl, row2c (by decide +kernel), rfl⟩)) (ea_1 (ev_inr (ev_call1 (ea_1 (ev_strc [43, 48, 45, 48]) (ea_1 (ev_strc [45, 45, 43, 48]) ea_nil)) ⟨_, _, rfl, row2c (by decide +kernel), rfl⟩)) ea_nil))))) (by decide)) (ltr rfl) ?_
    refine wp_no ?_ (et_test (ev_op1 (ev_var (i := 2)) (ev_lst (xs := ([.inl ⟨[45, 43, 48]⟩, .inl ⟨[43, 43, 48]⟩, .inl ⟨[43, 45, 45, 48]⟩, .inl ⟨[]⟩, .inr ⟨[0, 2]⟩] : List (Tx ⊕ Tup Int))) (ea_1 (ev_inl (ev_strc [45, 43, 48])) (ea_1 (ev_inl (ev_strc [43, 43, 48])) (ea_1 (ev_inl (ev_strc [43, 45, 45, 48])) (ea_1 (ev_inl (ev_strc [])) (ea_1 (ev_inr (ev_tupN (xs := [(0 : Int), 2]) (ea_1 ev_int (ea_1 ev_int ea_nil)) (by decide))) ea_nil))))) (by decide)) (o2_neD ?_ ?_))) ?_
    · decide +kernel
    · decide +kernel
    · decide +kernel
    refine wp_asg1 (a := (⟨lawPairs⟩ : Tup (Tx × Tx))) (ev_tupN (ea_1 (ev_tup2 (ea_1 (ev_strc [43, 48]) (ea_1 (ev_strc [48, 43]) ea_nil))) (ea_1 (ev_tup2 (ea_1 (ev_strc [43, 43, 48]) (ea_1 (ev_strc [43, 45, 43]) ea_nil))) (ea_1 (ev_tup2 (ea_1 (ev_strc [43, 43]) (ea_1 (ev_strc [43, 43]) ea_nil))) (ea_1 (ev_tup2 (ea_1 (ev_strc [43, 48]) (ea_1 (ev_strc [45, 43]) ea_nil))) (ea_1 (ev_tup2 (ea_1 (ev_strc [48, 48]) (ea_1 (ev_strc [43, 45]) ea_nil))) (ea_1 (ev_tup2 (ea_1 (ev_strc []) (ea_1 (ev_strc []) ea_nil))) ea_nil)))))) (by decide +kernel)) (ltr rfl) ?_
    refine wp_ret hf (ev_is (ev_op1 (ev_lcD (xs := lawPairs) (fun _ => true) (fun q : Tx × Tx => upr q.1 q.2) (src_tupP (xs := (⟨lawPairs⟩ : Tup (Tx × Tx))) (x0 := fun i => lawPairs.getD i (⟨[]⟩, ⟨[]⟩)) (ev_var (i := 3)) (fun i hi => getD_of hi) (ltr rfl) (ltr rfl)) (by decide +kernel) (by decide) fun i r hr => ⟨et_yes, fun _ => ?_⟩) (ev_lst (xs := [true, true, false, false, true, true]) (ea_1 ev_bl (ea_1 ev_bl (ea_1 ev_bl (ea_1 ev_bl (ea_1 ev_bl (ea_1 ev_bl ea_nil)))))) (by decide)) o2_eqLB) (by decide +kernel))
    have e : lawPairs.getD i (⟨[]⟩, ⟨[]⟩) = r := by
      rw [List.getD_eq_getElem?_getD, hr]
      rfl
    have hr' : Row2 r.1 r.2 := lawPairs_ok r (List.mem_of_getElem? hr)
    subst e
    exact ev_call1 (ea_1 (ev_var (i := 4)) (ea_1 (ev_var (i := 5)) ea_nil)) ⟨_, _, rfl, hr', rfl⟩
end
end K00

set_option Elab.async false
set_option linter.all false
set_option maxRecDepth 100000
set_option maxHeartbeats 0
namespace Hd
open PySem PySem.Spec PyProof.Rows L2
def top (i : Nat) : Stmt := PySem.Challenge.pw_sidesigns_k00_rows_sign_by_sign.main.body.getD i (.Pass ⟨0, 0, 0, 0⟩)
abbrev s_InvalidNumber_init : Stmt := inClass (top 4) 0
def d_InvalidNumber_init : He.DefD := ⟨("InvalidNumber", some "__init__"), "__init__", "InvalidNumber.__init__", defArgs s_InvalidNumber_init, defBody s_InvalidNumber_init, defScope s_InvalidNumber_init, [], []⟩
abbrev s_is_integer : Stmt := top 6
def d_is_integer : He.DefD := ⟨("is_integer", none), "is_integer", "is_integer", defArgs s_is_integer, defBody s_is_integer, defScope s_is_integer, [], []⟩
abbrev s_is_between : Stmt := top 7
def d_is_between : He.DefD := ⟨("is_between", none), "is_between", "is_between", defArgs s_is_between, defBody s_is_between, defScope s_is_between, [], []⟩
abbrev s_code_of : Stmt := top 11
def d_code_of : He.DefD := ⟨("code_of", none), "code_of", "code_of", defArgs s_code_of, defBody s_code_of, defScope s_code_of, [], []⟩
abbrev s_turned_code : Stmt := top 12
def d_turned_code : He.DefD := ⟨("turned_code", none), "turned_code", "turned_code", defArgs s_turned_code, defBody s_turned_code, defScope s_turned_code, [], []⟩
abbrev s_turned_signs : Stmt := top 14
def d_turned_signs : He.DefD := ⟨("turned_signs", none), "turned_signs", "turned_signs", defArgs s_turned_signs, defBody s_turned_signs, defScope s_turned_signs, [], []⟩
abbrev s_is_ascending : Stmt := top 16
def d_is_ascending : He.DefD := ⟨("is_ascending", none), "is_ascending", "is_ascending", defArgs s_is_ascending, defBody s_is_ascending, defScope s_is_ascending, [], []⟩
abbrev s_is_row : Stmt := top 19
def d_is_row : He.DefD := ⟨("is_row", none), "is_row", "is_row", defArgs s_is_row, defBody s_is_row, defScope s_is_row, [], []⟩
abbrev s_check_row : Stmt := top 20
def d_check_row : He.DefD := ⟨("check_row", none), "check_row", "check_row", defArgs s_check_row, defBody s_check_row, defScope s_check_row, [], []⟩
abbrev s_check_things : Stmt := top 21
def d_check_things : He.DefD := ⟨("check_things", none), "check_things", "check_things", defArgs s_check_things, defBody s_check_things, defScope s_check_things, [], []⟩
abbrev s_check_any_row : Stmt := top 22
def d_check_any_row : He.DefD := ⟨("check_any_row", none), "check_any_row", "check_any_row", defArgs s_check_any_row, defBody s_check_any_row, defScope s_check_any_row, [], []⟩
abbrev s_check_rows : Stmt := top 23
def d_check_rows : He.DefD := ⟨("_check_rows", none), "_check_rows", "_check_rows", defArgs s_check_rows, defBody s_check_rows, defScope s_check_rows, [], []⟩
abbrev s_turned : Stmt := top 24
def d_turned : He.DefD := ⟨("turned", none), "turned", "turned", defArgs s_turned, defBody s_turned, defScope s_turned, [.non], []⟩
abbrev s_laid_over : Stmt := top 25
def d_laid_over : He.DefD := ⟨("laid_over", none), "laid_over", "laid_over", defArgs s_laid_over, defBody s_laid_over, defScope s_laid_over, [], []⟩
abbrev s_are_apart_at : Stmt := top 26
def d_are_apart_at : He.DefD := ⟨("are_apart_at", none), "are_apart_at", "are_apart_at", defArgs s_are_apart_at, defBody s_are_apart_at, defScope s_are_apart_at, [], []⟩
abbrev s_apart : Stmt := top 27
def d_apart : He.DefD := ⟨("apart", none), "apart", "apart", defArgs s_apart, defBody s_apart, defScope s_apart, [], []⟩
abbrev s_is_upright : Stmt := top 28
def d_is_upright : He.DefD := ⟨("is_upright", none), "is_upright", "is_upright", defArgs s_is_upright, defBody s_is_upright, defScope s_is_upright, [], []⟩
abbrev s_is_code_upright : Stmt := top 29
def d_is_code_upright : He.DefD := ⟨("_is_code_upright", none), "_is_code_upright", "_is_code_upright", defArgs s_is_code_upright, defBody s_is_code_upright, defScope s_is_code_upright, [], []⟩
abbrev s_things_of : Stmt := top 30
def d_things_of : He.DefD := ⟨("things_of", none), "things_of", "things_of", defArgs s_things_of, defBody s_things_of, defScope s_things_of, [], []⟩
abbrev s_zeros_of : Stmt := top 31
def d_zeros_of : He.DefD := ⟨("zeros_of", none), "zeros_of", "zeros_of", defArgs s_zeros_of, defBody s_zeros_of, defScope s_zeros_of, [], []⟩
abbrev s_signs_at : Stmt := top 32
def d_signs_at : He.DefD := ⟨("signs_at", none), "signs_at", "signs_at", defArgs s_signs_at, defBody s_signs_at, defScope s_signs_at, [], []⟩
abbrev s_spread : Stmt := top 33
def d_spread : He.DefD := ⟨("spread", none), "spread", "spread", defArgs s_spread, defBody s_spread, defScope s_spread, [], []⟩
abbrev s_law_dice : Stmt := top 35
def d_law_dice : He.DefD := ⟨("_law_dice", none), "_law_dice", "_law_dice", defArgs s_law_dice, defBody s_law_dice, defScope s_law_dice, [], []⟩
abbrev s_law_roll : Stmt := top 36
def d_law_roll : He.DefD := ⟨("_law_roll", none), "_law_roll", "_law_roll", defArgs s_law_roll, defBody s_law_roll, defScope s_law_roll, [], []⟩
abbrev s_law_pick : Stmt := top 37
def d_law_pick : He.DefD := ⟨("_law_pick", none), "_law_pick", "_law_pick", defArgs s_law_pick, defBody s_law_pick, defScope s_law_pick, [], []⟩
abbrev s_law_flip : Stmt := top 38
def d_law_flip : He.DefD := ⟨("_law_flip", none), "_law_flip", "_law_flip", defArgs s_law_flip, defBody s_law_flip, defScope s_law_flip, [], []⟩
abbrev s_law_turn : Stmt := top 39
def d_law_turn : He.DefD := ⟨("_law_turn", none), "_law_turn", "_law_turn", defArgs s_law_turn, defBody s_law_turn, defScope s_law_turn, [], []⟩
abbrev s_law_turn_at : Stmt := top 40
def d_law_turn_at : He.DefD := ⟨("_law_turn_at", none), "_law_turn_at", "_law_turn_at", defArgs s_law_turn_at, defBody s_law_turn_at, defScope s_law_turn_at, [], []⟩
abbrev s_law_laid : Stmt := top 41
def d_law_laid : He.DefD := ⟨("_law_laid", none), "_law_laid", "_law_laid", defArgs s_law_laid, defBody s_law_laid, defScope s_law_laid, [], []⟩
abbrev s_law_apart : Stmt := top 42
def d_law_apart : He.DefD := ⟨("_law_apart", none), "_law_apart", "_law_apart", defArgs s_law_apart, defBody s_law_apart, defScope s_law_apart, [], []⟩
abbrev s_law_upright : Stmt := top 43
def d_law_upright : He.DefD := ⟨("_law_upright", none), "_law_upright", "_law_upright", defArgs s_law_upright, defBody s_law_upright, defScope s_law_upright, [], []⟩
abbrev s_law_held : Stmt := top 44
def d_law_held : He.DefD := ⟨("_law_held", none), "_law_held", "_law_held", defArgs s_law_held, defBody s_law_held, defScope s_law_held, [], []⟩
abbrev s_law_drawn_row : Stmt := top 45
def d_law_drawn_row : He.DefD := ⟨("_law_drawn_row", none), "_law_drawn_row", "_law_drawn_row", defArgs s_law_drawn_row, defBody s_law_drawn_row, defScope s_law_drawn_row, [], []⟩
abbrev s_law_drawn_things : Stmt := top 46
def d_law_drawn_things : He.DefD := ⟨("_law_drawn_things", none), "_law_drawn_things", "_law_drawn_things", defArgs s_law_drawn_things, defBody s_law_drawn_things, defScope s_law_drawn_things, [], []⟩
abbrev s_law_is_row_right : Stmt := top 47
def d_law_is_row_right : He.DefD := ⟨("_law_is_row_right", none), "_law_is_row_right", "_law_is_row_right", defArgs s_law_is_row_right, defBody s_law_is_row_right, defScope s_law_is_row_right, [], []⟩
abbrev s_law_are_two_right : Stmt := top 48
def d_law_are_two_right : He.DefD := ⟨("_law_are_two_right", none), "_law_are_two_right", "_law_are_two_right", defArgs s_law_are_two_right, defBody s_law_are_two_right, defScope s_law_are_two_right, [], []⟩
abbrev s_law_right : Stmt := top 49
def d_law_right : He.DefD := ⟨("_law_right", none), "_law_right", "_law_right", defArgs s_law_right, defBody s_law_right, defScope s_law_right, [], []⟩
abbrev s_law : Stmt := top 50
def d_law : He.DefD := ⟨("law", none), "law", "law", defArgs s_law, defBody s_law, defScope s_law, [], []⟩
def fn : List He.DefD := [d_InvalidNumber_init, d_is_integer, d_is_between, d_code_of, d_turned_code, d_turned_signs, d_is_ascending, d_is_row, d_check_row, d_check_things, d_check_any_row, d_check_rows, d_turned, d_laid_over, d_are_apart_at, d_apart, d_is_upright, d_is_code_upright, d_things_of, d_zeros_of, d_signs_at, d_spread, d_law_dice, d_law_roll, d_law_pick, d_law_flip, d_law_turn, d_law_turn_at, d_law_laid, d_law_apart, d_law_upright, d_law_held, d_law_drawn_row, d_law_drawn_things, d_law_is_row_right, d_law_are_two_right, d_law_right, d_law]
def fa : List He.Fa := [.glo "is_integer", .glo "is_between", .glo "code_of", .glo "turned_code", .glo "turned_signs", .glo "is_ascending", .glo "is_row", .glo "check_row", .glo "check_things", .glo "check_any_row", .glo "_check_rows", .glo "turned", .glo "laid_over", .glo "are_apart_at", .glo "apart", .glo "is_upright", .glo "_is_code_upright", .glo "things_of", .glo "zeros_of", .glo "signs_at", .glo "spread", .glo "_law_dice", .glo "_law_roll", .glo "_law_pick", .glo "_law_flip", .glo "_law_turn", .glo "_law_turn_at", .glo "_law_laid", .glo "_law_apart", .glo "_law_upright", .glo "_law_held", .glo "_law_drawn_row", .glo "_law_drawn_things", .glo "_law_is_row_right", .glo "_law_are_two_right", .glo "_law_right", .glo "law", .int "SHIFT" 9, .int "LOW" 511, .int "MAX_THINGS" 9, .free "IndexError", .free "ValueError", .free "abs", .free "all", .free "bool", .free "enumerate", .free "int", .free "isinstance", .free "len", .free "max", .free "min", .free "range", .free "repr", .free "str", .free "tuple", .free "zip", .glo "SignsError", .glo "InvalidRow", .glo "InvalidOperation", .glo "InvalidNumber"]
def names : List PySem.Str := (["SignsError", "InvalidRow", "InvalidOperation", "InvalidNumber", "is_integer", "is_between", "SHIFT", "LOW", "code_of", "turned_code", "turned_signs", "is_ascending", "MAX_THINGS", "is_row", "check_row", "check_things", "check_any_row", "_check_rows", "turned", "laid_over", "are_apart_at", "apart", "is_upright", "_is_code_upright", "things_of", "zeros_of", "signs_at", "spread", "_law_dice", "_law_roll"] : List PySem.Str) ++ (["_law_pick", "_law_flip", "_law_turn", "_law_turn_at", "_law_laid", "_law_apart", "_law_upright", "_law_held", "_law_drawn_row", "_law_drawn_things", "_law_is_row_right", "_law_are_two_right", "_law_right"] : List PySem.Str)
abbrev R : PySem.W.OpenRow := PySem.W.OpenLaw.row PySem.Challenge.rw_sidesigns_k00_rows_sign_by_sign
abbrev hk : PySem.W.Hook := He.hookD 4 fa fn
def ob (s : PySem.W.SharedT) : He.AlD := He.obsDG 4 fa fn (HandSHeadRun.getT s)
theorem ob_eq (s : PySem.W.SharedT) : ob s = hk.obs s.abs := He.obsDG_eq (HandSHeadRun.getT_eq s)
theorem run (w : World) : HandSHeadRun.RunEq R (PySem.W.view R.prog [50]) hk ob 6000 names w := by
  intro os
  kernel_rfl
end Hd

set_option Elab.async false
set_option linter.all false
set_option maxRecDepth 100000
set_option maxHeartbeats 0
namespace K00
open PySem PySem.Spec PyProof.Rows L2 Z
theorem all2_ints {K : PySem.W.Frag} {Δ : Gh} {H : Hp} : ∀ ns : List Int, All2 (fun (u : V) (a : Int) => Rp.rp K Δ H u a) (ns.map V.int) ns
  | [] => trivial
  | _ :: ns => ⟨rfl, all2_ints ns⟩
theorem start_law {K : PySem.W.Frag} {H : Hp} {a : Addr} {ns : List Int} (hS : SqL K H a (ns.map V.int)) : spD K F_law [.ref a] H (fun v _ => v = .bl true) fun _ _ _ => False := by
  refine ⟨[], fun _ => none, [⟨ns⟩], Is true, ⟨ns, rfl, rfl⟩, fun p hp => (nomatch hp), fun a I h => (nomatch h), ⟨⟨a, ns.map V.int, rfl, ?_, hS, ?_⟩, trivial⟩, fun v H' b hb _ r => ?_⟩
  · rcases hS with h | h
    · exact .inl ⟨rfl, h⟩
    · exact .inr h
  · exact all2_ints ns
  · rw [show v = .bl b from r, show b = true from hb]
theorem facts {P : Program} {w : World} {K : PySem.W.Frag} {h : Heap} {mg : Str → Option Value} {f : Addr} (X : K.In h) (G : h.Ns mainGlobals mg) (hfa : mg ("law" : Str) = some (.ref f)) (c : He.SaysD Hd.fa Hd.fn K) :
    ∃ fd : FuncData, (∀ (s : Shared) (v : Value), BindsTo s fd ⟨[v], []⟩ [("_law_script", v)]) ∧ ∀ base : Heap, K.In base → base.Ns mainGlobals mg → FnOk P w K mg base CX0 9 f fd ["_law_script"] (spD K F_law) := by
  have T : Txt K mg := ⟨He.free_ok X G (c.fact 42 (f := .free "abs") rfl), He.free_ok X G (c.fact 43 (f := .free "all") rfl), He.free_ok X G (c.fact 44 (f := .free "bool") rfl), He.free_ok X G (c.fact 45 (f := .free "enumerate") rfl), He.free_ok X G (c.fact 46 (f := .free "int") rfl), He.free_ok X G (c.fact 47 (f := .free "isinstance") rfl), He.free_ok X G (c.fact 48 (f := .free "len") rfl), He.free_ok X G (c.fact 49 (f := .free "max") rfl), He.free_ok X G (c.fact 50 (f := .free "min") rfl), He.free_ok X G (c.fact 51 (f := .free "range") rfl), He.free_ok X G (c.fact 52 (f := .free "repr") rfl), He.free_ok X G (c.fact 53 (f := .free "str") rfl), He.free_ok X G (c.fact 54 (f := .free "tuple") rfl), He.free_ok X G (c.fact 55 (f := .free "zip") rfl), He.int_ok X G (c.fact 37 (f := .int "SHIFT" 9) rfl), He.int_ok X G (c.fact 38 (f := .int "LOW" 511) rfl), He.int_ok X G (c.fact 39 (f := .int "MAX_THINGS" 9) rfl)⟩
  obtain ⟨fd_is_integer, F_is_integer'⟩ := c.def_ 1 (d := Hd.d_is_integer) rfl
  have D_is_integer : Df K mg "is_integer" s_is_integer ["value"] _ fd_is_integer := ⟨F_is_integer', He.glo_ok X G (c.fact 0 (f := .glo "is_integer") rfl), F_is_integer'.bindsN fun _ _ _ _ _ _ us hl => match us, hl with | [_], _ => rfl⟩
  obtain ⟨fd_code_of, F_code_of'⟩ := c.def_ 3 (d := Hd.d_code_of) rfl
  have D_code_of : Df K mg "code_of" s_code_of ["row"] _ fd_code_of := ⟨F_code_of', He.glo_ok X G (c.fact 2 (f := .glo "code_of") rfl), F_code_of'.bindsN fun _ _ _ _ _ _ us hl => match us, hl with | [_], _ => rfl⟩
  obtain ⟨fd_turned_code, F_turned_code'⟩ := c.def_ 4 (d := Hd.d_turned_code) rfl
  have D_turned_code : Df K mg "turned_code" s_turned_code ["code"] _ fd_turned_code := ⟨F_turned_code', He.glo_ok X G (c.fact 3 (f := .glo "turned_code") rfl), F_turned_code'.bindsN fun _ _ _ _ _ _ us hl => match us, hl with | [_], _ => rfl⟩
  obtain ⟨fd_turned_signs, F_turned_signs'⟩ := c.def_ 5 (d := Hd.d_turned_signs) rfl
  have D_turned_signs : Df K mg "turned_signs" s_turned_signs ["signs"] _ fd_turned_signs := ⟨F_turned_signs', He.glo_ok X G (c.fact 4 (f := .glo "turned_signs") rfl), F_turned_signs'.bindsN fun _ _ _ _ _ _ us hl => match us, hl with | [_], _ => rfl⟩
  obtain ⟨fd_is_row, F_is_row'⟩ := c.def_ 7 (d := Hd.d_is_row) rfl
  have D_is_row : Df K mg "is_row" s_is_row ["value", "many"] _ fd_is_row := ⟨F_is_row', He.glo_ok X G (c.fact 6 (f := .glo "is_row") rfl), F_is_row'.bindsN fun _ _ _ _ _ _ us hl => match us, hl with | [_,_], _ => rfl⟩
  obtain ⟨fd_are_apart_at, F_are_apart_at'⟩ := c.def_ 14 (d := Hd.d_are_apart_at) rfl
  have D_are_apart_at : Df K mg "are_apart_at" s_are_apart_at ["one", "other", "thing"] _ fd_are_apart_at := ⟨F_are_apart_at', He.glo_ok X G (c.fact 13 (f := .glo "are_apart_at") rfl), F_are_apart_at'.bindsN fun _ _ _ _ _ _ us hl => match us, hl with | [_,_,_], _ => rfl⟩
  obtain ⟨fd__law_dice, F__law_dice'⟩ := c.def_ 22 (d := Hd.d_law_dice) rfl
  have D__law_dice : Df K mg "_law_dice" s__law_dice ["_law_script", "_law_spot"] _ fd__law_dice := ⟨F__law_dice', He.glo_ok X G (c.fact 21 (f := .glo "_law_dice") rfl), F__law_dice'.bindsN fun _ _ _ _ _ _ us hl => match us, hl with | [_,_], _ => rfl⟩
  obtain ⟨fd__law_roll, F__law_roll'⟩ := c.def_ 23 (d := Hd.d_law_roll) rfl
  have D__law_roll : Df K mg "_law_roll" s__law_roll ["_law_dice_here", "_law_total"] _ fd__law_roll := ⟨F__law_roll', He.glo_ok X G (c.fact 22 (f := .glo "_law_roll") rfl), F__law_roll'.bindsN fun _ _ _ _ _ _ us hl => match us, hl with | [_,_], _ => rfl⟩
  obtain ⟨fd__law_flip, F__law_flip'⟩ := c.def_ 25 (d := Hd.d_law_flip) rfl
  have D__law_flip : Df K mg "_law_flip" s__law_flip ["_law_sign"] _ fd__law_flip := ⟨F__law_flip', He.glo_ok X G (c.fact 24 (f := .glo "_law_flip") rfl), F__law_flip'.bindsN fun _ _ _ _ _ _ us hl => match us, hl with | [_], _ => rfl⟩
  obtain ⟨fd__law_laid, F__law_laid'⟩ := c.def_ 28 (d := Hd.d_law_laid) rfl
  have D__law_laid : Df K mg "_law_laid" s__law_laid ["_law_one", "_law_other"] _ fd__law_laid := ⟨F__law_laid', He.glo_ok X G (c.fact 27 (f := .glo "_law_laid") rfl), F__law_laid'.bindsN fun _ _ _ _ _ _ us hl => match us, hl with | [_,_], _ => rfl⟩
  obtain ⟨fd__law_held, F__law_held'⟩ := c.def_ 31 (d := Hd.d_law_held) rfl
  have D__law_held : Df K mg "_law_held" s__law_held ["_law_row"] _ fd__law_held := ⟨F__law_held', He.glo_ok X G (c.fact 30 (f := .glo "_law_held") rfl), F__law_held'.bindsN fun _ _ _ _ _ _ us hl => match us, hl with | [_], _ => rfl⟩
  obtain ⟨fd_is_between, F_is_between'⟩ := c.def_ 2 (d := Hd.d_is_between) rfl
  have D_is_between : Df K mg "is_between" s_is_between ["value", "least", "most"] _ fd_is_between := ⟨F_is_between', He.glo_ok X G (c.fact 1 (f := .glo "is_between") rfl), F_is_between'.bindsN fun _ _ _ _ _ _ us hl => match us, hl with | [_,_,_], _ => rfl⟩
  obtain ⟨fd_check_row, F_check_row'⟩ := c.def_ 8 (d := Hd.d_check_row) rfl
  have D_check_row : Df K mg "check_row" s_check_row ["row", "many"] _ fd_check_row := ⟨F_check_row', He.glo_ok X G (c.fact 7 (f := .glo "check_row") rfl), F_check_row'.bindsN fun _ _ _ _ _ _ us hl => match us, hl with | [_,_], _ => rfl⟩
  obtain ⟨fd__is_code_upright, F__is_code_upright'⟩ := c.def_ 17 (d := Hd.d_is_code_upright) rfl
  have D__is_code_upright : Df K mg "_is_code_upright" s__is_code_upright ["one", "other"] _ fd__is_code_upright := ⟨F__is_code_upright', He.glo_ok X G (c.fact 16 (f := .glo "_is_code_upright") rfl), F__is_code_upright'.bindsN fun _ _ _ _ _ _ us hl => match us, hl with | [_,_], _ => rfl⟩
  obtain ⟨fd__law_pick, F__law_pick'⟩ := c.def_ 24 (d := Hd.d_law_pick) rfl
  have D__law_pick : Df K mg "_law_pick" s__law_pick ["_law_dice_here", "_law_items"] _ fd__law_pick := ⟨F__law_pick', He.glo_ok X G (c.fact 23 (f := .glo "_law_pick") rfl), F__law_pick'.bindsN fun _ _ _ _ _ _ us hl => match us, hl with | [_,_], _ => rfl⟩
  obtain ⟨fd__law_turn, F__law_turn'⟩ := c.def_ 26 (d := Hd.d_law_turn) rfl
  have D__law_turn : Df K mg "_law_turn" s__law_turn ["_law_row"] _ fd__law_turn := ⟨F__law_turn', He.glo_ok X G (c.fact 25 (f := .glo "_law_turn") rfl), F__law_turn'.bindsN fun _ _ _ _ _ _ us hl => match us, hl with | [_], _ => rfl⟩
  obtain ⟨fd__law_turn_at, F__law_turn_at'⟩ := c.def_ 27 (d := Hd.d_law_turn_at) rfl
  have D__law_turn_at : Df K mg "_law_turn_at" s__law_turn_at ["_law_row", "_law_things"] _ fd__law_turn_at := ⟨F__law_turn_at', He.glo_ok X G (c.fact 26 (f := .glo "_law_turn_at") rfl), F__law_turn_at'.bindsN fun _ _ _ _ _ _ us hl => match us, hl with | [_,_], _ => rfl⟩
  obtain ⟨fd__law_apart, F__law_apart'⟩ := c.def_ 29 (d := Hd.d_law_apart) rfl
  have D__law_apart : Df K mg "_law_apart" s__law_apart ["_law_one", "_law_other"] _ fd__law_apart := ⟨F__law_apart', He.glo_ok X G (c.fact 28 (f := .glo "_law_apart") rfl), F__law_apart'.bindsN fun _ _ _ _ _ _ us hl => match us, hl with | [_,_], _ => rfl⟩
  obtain ⟨fd__law_drawn_things, F__law_drawn_things'⟩ := c.def_ 33 (d := Hd.d_law_drawn_things) rfl
  have D__law_drawn_things : Df K mg "_law_drawn_things" s__law_drawn_things ["_law_dice_here", "_law_size"] _ fd__law_drawn_things := ⟨F__law_drawn_things', He.glo_ok X G (c.fact 32 (f := .glo "_law_drawn_things") rfl), F__law_drawn_things'.bindsN fun _ _ _ _ _ _ us hl => match us, hl with | [_,_], _ => rfl⟩
  obtain ⟨fd_is_ascending, F_is_ascending'⟩ := c.def_ 6 (d := Hd.d_is_ascending) rfl
  have D_is_ascending : Df K mg "is_ascending" s_is_ascending ["value", "many"] _ fd_is_ascending := ⟨F_is_ascending', He.glo_ok X G (c.fact 5 (f := .glo "is_ascending") rfl), F_is_ascending'.bindsN fun _ _ _ _ _ _ us hl => match us, hl with | [_,_], _ => rfl⟩
  obtain ⟨fd_check_any_row, F_check_any_row'⟩ := c.def_ 10 (d := Hd.d_check_any_row) rfl
  have D_check_any_row : Df K mg "check_any_row" s_check_any_row ["row"] _ fd_check_any_row := ⟨F_check_any_row', He.glo_ok X G (c.fact 9 (f := .glo "check_any_row") rfl), F_check_any_row'.bindsN fun _ _ _ _ _ _ us hl => match us, hl with | [_], _ => rfl⟩
  obtain ⟨fd__law_upright, F__law_upright'⟩ := c.def_ 30 (d := Hd.d_law_upright) rfl
  have D__law_upright : Df K mg "_law_upright" s__law_upright ["_law_one", "_law_other"] _ fd__law_upright := ⟨F__law_upright', He.glo_ok X G (c.fact 29 (f := .glo "_law_upright") rfl), F__law_upright'.bindsN fun _ _ _ _ _ _ us hl => match us, hl with | [_,_], _ => rfl⟩
  obtain ⟨fd__law_drawn_row, F__law_drawn_row'⟩ := c.def_ 32 (d := Hd.d_law_drawn_row) rfl
  have D__law_drawn_row : Df K mg "_law_drawn_row" s__law_drawn_row ["_law_dice_here", "_law_size"] _ fd__law_drawn_row := ⟨F__law_drawn_row', He.glo_ok X G (c.fact 31 (f := .glo "_law_drawn_row") rfl), F__law_drawn_row'.bindsN fun _ _ _ _ _ _ us hl => match us, hl with | [_,_], _ => rfl⟩
  obtain ⟨fd_check_things, F_check_things'⟩ := c.def_ 9 (d := Hd.d_check_things) rfl
  have D_check_things : Df K mg "check_things" s_check_things ["things", "many"] _ fd_check_things := ⟨F_check_things', He.glo_ok X G (c.fact 8 (f := .glo "check_things") rfl), F_check_things'.bindsN fun _ _ _ _ _ _ us hl => match us, hl with | [_,_], _ => rfl⟩
  obtain ⟨fd__check_rows, F__check_rows'⟩ := c.def_ 11 (d := Hd.d_check_rows) rfl
  have D__check_rows : Df K mg "_check_rows" s__check_rows ["one", "other"] _ fd__check_rows := ⟨F__check_rows', He.glo_ok X G (c.fact 10 (f := .glo "_check_rows") rfl), F__check_rows'.bindsN fun _ _ _ _ _ _ us hl => match us, hl with | [_,_], _ => rfl⟩
  obtain ⟨fd_things_of, F_things_of'⟩ := c.def_ 18 (d := Hd.d_things_of) rfl
  have D_things_of : Df K mg "things_of" s_things_of ["row"] _ fd_things_of := ⟨F_things_of', He.glo_ok X G (c.fact 17 (f := .glo "things_of") rfl), F_things_of'.bindsN fun _ _ _ _ _ _ us hl => match us, hl with | [_], _ => rfl⟩
  obtain ⟨fd_zeros_of, F_zeros_of'⟩ := c.def_ 19 (d := Hd.d_zeros_of) rfl
  have D_zeros_of : Df K mg "zeros_of" s_zeros_of ["row"] _ fd_zeros_of := ⟨F_zeros_of', He.glo_ok X G (c.fact 18 (f := .glo "zeros_of") rfl), F_zeros_of'.bindsN fun _ _ _ _ _ _ us hl => match us, hl with | [_], _ => rfl⟩
  obtain ⟨fd_turned, F_turned'⟩ := c.def_ 12 (d := Hd.d_turned) rfl
  have bT0 : Binds K fd_turned ["row", "things"] [] := by
    obtain ⟨ds, v, h⟩ := FunD.binds1 (ps := ["row", "things"]) F_turned' 2 1 (fun z => by cases z) rfl fun T kV doc pm an cdv ct us its hl hi => match us, hl, its, hi with
      | [_, _], _, [_], _ => ⟨_, rfl, rfl⟩
    cases v
    exact h
  have bT1 : Binds K fd_turned ["row", "things"] [Value.none] := by
    obtain ⟨ds, v, h⟩ := FunD.binds1 (ps := ["row", "things"]) F_turned' 1 0 (fun z => by cases z) rfl fun T kV doc pm an cdv ct us its hl hi => match us, hl, its, hi with
      | [_], _, [_], _ => ⟨_, rfl, rfl⟩
    cases v with
    | cons r t =>
      cases t
      cases r
      exact h
  have D_turned : DfD K mg "turned" s_turned ["row", "things"] _ fd_turned := ⟨F_turned', He.glo_ok X G (c.fact 11 (f := .glo "turned") rfl), bT0, bT1⟩
  obtain ⟨fd_laid_over, F_laid_over'⟩ := c.def_ 13 (d := Hd.d_laid_over) rfl
  have D_laid_over : Df K mg "laid_over" s_laid_over ["one", "other"] _ fd_laid_over := ⟨F_laid_over', He.glo_ok X G (c.fact 12 (f := .glo "laid_over") rfl), F_laid_over'.bindsN fun _ _ _ _ _ _ us hl => match us, hl with | [_,_], _ => rfl⟩
  obtain ⟨fd_apart, F_apart'⟩ := c.def_ 15 (d := Hd.d_apart) rfl
  have D_apart : Df K mg "apart" s_apart ["one", "other"] _ fd_apart := ⟨F_apart', He.glo_ok X G (c.fact 14 (f := .glo "apart") rfl), F_apart'.bindsN fun _ _ _ _ _ _ us hl => match us, hl with | [_,_], _ => rfl⟩
  obtain ⟨fd_is_upright, F_is_upright'⟩ := c.def_ 16 (d := Hd.d_is_upright) rfl
  have D_is_upright : Df K mg "is_upright" s_is_upright ["one", "other"] _ fd_is_upright := ⟨F_is_upright', He.glo_ok X G (c.fact 15 (f := .glo "is_upright") rfl), F_is_upright'.bindsN fun _ _ _ _ _ _ us hl => match us, hl with | [_,_], _ => rfl⟩
  obtain ⟨fd_signs_at, F_signs_at'⟩ := c.def_ 20 (d := Hd.d_signs_at) rfl
  have D_signs_at : Df K mg "signs_at" s_signs_at ["row", "things"] _ fd_signs_at := ⟨F_signs_at', He.glo_ok X G (c.fact 19 (f := .glo "signs_at") rfl), F_signs_at'.bindsN fun _ _ _ _ _ _ us hl => match us, hl with | [_,_], _ => rfl⟩
  obtain ⟨fd_spread, F_spread'⟩ := c.def_ 21 (d := Hd.d_spread) rfl
  have D_spread : Df K mg "spread" s_spread ["row", "things", "many"] _ fd_spread := ⟨F_spread', He.glo_ok X G (c.fact 20 (f := .glo "spread") rfl), F_spread'.bindsN fun _ _ _ _ _ _ us hl => match us, hl with | [_,_,_], _ => rfl⟩
  obtain ⟨fd__law_is_row_right, F__law_is_row_right'⟩ := c.def_ 34 (d := Hd.d_law_is_row_right) rfl
  have D__law_is_row_right : Df K mg "_law_is_row_right" s__law_is_row_right ["_law_dice_here", "_law_row"] _ fd__law_is_row_right := ⟨F__law_is_row_right', He.glo_ok X G (c.fact 33 (f := .glo "_law_is_row_right") rfl), F__law_is_row_right'.bindsN fun _ _ _ _ _ _ us hl => match us, hl with | [_,_], _ => rfl⟩
  obtain ⟨fd__law_are_two_right, F__law_are_two_right'⟩ := c.def_ 35 (d := Hd.d_law_are_two_right) rfl
  have D__law_are_two_right : Df K mg "_law_are_two_right" s__law_are_two_right ["_law_dice_here", "_law_one", "_law_other"] _ fd__law_are_two_right := ⟨F__law_are_two_right', He.glo_ok X G (c.fact 34 (f := .glo "_law_are_two_right") rfl), F__law_are_two_right'.bindsN fun _ _ _ _ _ _ us hl => match us, hl with | [_,_,_], _ => rfl⟩
  obtain ⟨fd__law_right, F__law_right'⟩ := c.def_ 36 (d := Hd.d_law_right) rfl
  have D__law_right : Df K mg "_law_right" s__law_right ["_law_dice_here"] _ fd__law_right := ⟨F__law_right', He.glo_ok X G (c.fact 35 (f := .glo "_law_right") rfl), F__law_right'.bindsN fun _ _ _ _ _ _ us hl => match us, hl with | [_], _ => rfl⟩
  obtain ⟨fd_law, F_law'⟩ := c.def_ 37 (d := Hd.d_law) rfl
  have e := hfa.symm.trans (He.glo_ok X G (c.fact 36 (f := .glo "law") rfl))
  cases e
  have b := FunD.bindsA (ps := ["_law_script"]) F_law' fun _ _ _ _ _ _ us hl => match us, hl with | [_], _ => rfl
  have D_law : Df K mg "law" s_law ["_law_script"] _ fd_law := ⟨F_law', hfa, F_law'.bindsN fun _ _ _ _ _ _ us hl => match us, hl with | [_], _ => rfl⟩
  refine ⟨fd_law, fun s v => b s [v] rfl, fun base _ _ => ?_⟩
  have G_is_integer := ok_is_integer (P := P) (w := w) (base := base) T D_is_integer
  have G_code_of := ok_code_of (P := P) (w := w) (base := base) T D_code_of
  have G_turned_code := ok_turned_code (P := P) (w := w) (base := base) T D_turned_code
  have G_turned_signs := ok_turned_signs (P := P) (w := w) (base := base) T D_turned_signs
  have G_is_row := ok_is_row (P := P) (w := w) (base := base) T D_is_row
  have G_are_apart_at := ok_are_apart_at (P := P) (w := w) (base := base) T D_are_apart_at
  have G__law_dice := ok__law_dice (P := P) (w := w) (base := base) T D__law_dice
  have G__law_roll := ok__law_roll (P := P) (w := w) (base := base) T D__law_roll
  have G__law_flip := ok__law_flip (P := P) (w := w) (base := base) T D__law_flip
  have G__law_laid := ok__law_laid (P := P) (w := w) (base := base) T D__law_laid
  have G__law_held := ok__law_held (P := P) (w := w) (base := base) T D__law_held
  have G_is_between := ok_is_between (P := P) (w := w) (base := base) T D_is_between D_is_integer G_is_integer
  have G_check_row := ok_check_row (P := P) (w := w) (base := base) T D_check_row D_is_row G_is_row
  have G__is_code_upright := ok__is_code_upright (P := P) (w := w) (base := base) T D__is_code_upright D_turned_code G_turned_code
  have G__law_pick := ok__law_pick (P := P) (w := w) (base := base) T D__law_pick D__law_roll G__law_roll
  have G__law_turn := ok__law_turn (P := P) (w := w) (base := base) T D__law_turn D__law_flip G__law_flip
  have G__law_turn_at := ok__law_turn_at (P := P) (w := w) (base := base) T D__law_turn_at D__law_flip G__law_flip
  have G__law_apart := ok__law_apart (P := P) (w := w) (base := base) T D__law_apart D__law_flip G__law_flip
  have G__law_drawn_things := ok__law_drawn_things (P := P) (w := w) (base := base) T D__law_drawn_things D__law_roll G__law_roll
  have G_is_ascending := ok_is_ascending (P := P) (w := w) (base := base) T D_is_ascending D_is_between G_is_between
  have G_check_any_row := ok_check_any_row (P := P) (w := w) (base := base) T D_check_any_row D_check_row G_check_row
  have G__law_upright := ok__law_upright (P := P) (w := w) (base := base) T D__law_upright D__law_apart G__law_apart
  have G__law_drawn_row := ok__law_drawn_row (P := P) (w := w) (base := base) T D__law_drawn_row D__law_pick G__law_pick
  have G_check_things := ok_check_things (P := P) (w := w) (base := base) T D_check_things D_is_ascending G_is_ascending
  have G__check_rows := ok__check_rows (P := P) (w := w) (base := base) T D__check_rows D_check_any_row G_check_any_row D_check_row G_check_row
  have G_things_of := ok_things_of (P := P) (w := w) (base := base) T D_things_of D_check_any_row G_check_any_row
  have G_zeros_of := ok_zeros_of (P := P) (w := w) (base := base) T D_zeros_of D_check_any_row G_check_any_row
  have G_turned := ok_turned (P := P) (w := w) (base := base) T D_turned D_check_any_row G_check_any_row D_turned_signs G_turned_signs D_check_things G_check_things
  have G_laid_over := ok_laid_over (P := P) (w := w) (base := base) T D_laid_over D__check_rows G__check_rows
  have G_apart := ok_apart (P := P) (w := w) (base := base) T D_apart D__check_rows G__check_rows D_are_apart_at G_are_apart_at
  have G_is_upright := ok_is_upright (P := P) (w := w) (base := base) T D_is_upright D__check_rows G__check_rows D__is_code_upright G__is_code_upright D_code_of G_code_of
  have G_signs_at := ok_signs_at (P := P) (w := w) (base := base) T D_signs_at D_check_any_row G_check_any_row D_check_things G_check_things
  have G_spread := ok_spread (P := P) (w := w) (base := base) T D_spread D_check_any_row G_check_any_row D_check_things G_check_things D_is_between G_is_between D_is_ascending G_is_ascending
  have G__law_is_row_right := ok__law_is_row_right (P := P) (w := w) (base := base) T D__law_is_row_right D_signs_at G_signs_at D__law_drawn_things G__law_drawn_things D__law_roll G__law_roll D_things_of G_things_of D__law_held G__law_held D_zeros_of G_zeros_of D_turned G_turned D__law_turn G__law_turn D__law_turn_at G__law_turn_at D_laid_over G_laid_over D_spread G_spread
  have G__law_are_two_right := ok__law_are_two_right (P := P) (w := w) (base := base) T D__law_are_two_right D__law_drawn_things G__law_drawn_things D_turned G_turned D_apart G_apart D_laid_over G_laid_over D__law_laid G__law_laid D_is_upright G_is_upright D__law_apart G__law_apart D__law_upright G__law_upright
  have G__law_right := ok__law_right (P := P) (w := w) (base := base) T D__law_right D__law_roll G__law_roll D__law_turn_at G__law_turn_at D__law_drawn_row G__law_drawn_row D__law_drawn_things G__law_drawn_things D_laid_over G_laid_over D__law_turn G__law_turn D__law_are_two_right G__law_are_two_right D__law_is_row_right G__law_is_row_right
  exact ok_law T D_law D_turned G_turned D_laid_over G_laid_over D_apart G_apart D__law_right G__law_right D_is_upright G_is_upright D__law_dice G__law_dice
end K00
open PySem PySem.W PySem.Calls PyProof.Rows
theorem PySem.Challenge.cw_sidesigns_k00_rows_sign_by_sign_holds : PySem.Challenge.rw_sidesigns_k00_rows_sign_by_sign.Holds := by
  w_on; o_law
  refine HandSHeadRun.head_any (r := OpenLaw.row PySem.Challenge.rw_sidesigns_k00_rows_sign_by_sign) (q := view (OpenLaw.row PySem.Challenge.rw_sidesigns_k00_rows_sign_by_sign).prog [50]) (H := Hd.hk) (ob := Hd.ob) (M := 6000) (loose := Hd.names) (d := HandSHeadRun.topDef (OpenLaw.row PySem.Challenge.rw_sidesigns_k00_rows_sign_by_sign).prog 50) (kwd := []) Hd.ob_eq
    (by kernel_rfl) (fun s => by kernel_rfl) Hd.run (by kernel_rfl) (by kernel_rfl) (by kernel_rfl) (by rfl) (by first | assumption | decide +kernel) (by decide +kernel) ⟨rfl, rfl, rfl, rfl, rfl, by decide +kernel⟩ ?hw ?hc
  case hw => w_witness2
  case hc =>
    refine L2.walk_ofE (l := PySem.Challenge.rw_sidesigns_k00_rows_sign_by_sign) (n := 63) (k := 9) (x := "_law_script") (CX := L2.CX0) rfl (by decide) (by kernel_rfl) ⟨rfl, by decide, by decide⟩ ?F (fun _ _ _ _ z => z)
    intro w mg fa h Y G hmg0
    obtain ⟨K, KX, c⟩ := Y
    have hmg : mg ("law" : PySem.Str) = some (.ref fa) := by
      have e : (HandSHeadRun.topDef (OpenLaw.row PySem.Challenge.rw_sidesigns_k00_rows_sign_by_sign).prog 50).name = ("law" : PySem.Str) := by kernel_rfl
      rw [← e]
      exact hmg0
    obtain ⟨fd, hb, hF⟩ := K00.facts (P := (PySem.Challenge.rw_sidesigns_k00_rows_sign_by_sign).prog) (w := w) KX G hmg c
    refine ⟨K, fd, Z.spD K K00.F_law, KX, hb, fun H a ns hl _ hS => ?_, hF⟩
    exact K00.start_law hS


