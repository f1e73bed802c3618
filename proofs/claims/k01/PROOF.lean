import PyProof.Rows.All
import Wide.All
import OpenK.AllK
import Wide.FinOn
import KE.GoesEnum
import KE.GoesZip
import HandS.ForMost
import HandS.Defaults
import HandS.ExpandTabs
import HandS.Translate
import HandS.Wide
import HandS.IsInst
import HandS.NoneIn
import HandS.StrMore
import HandS.Evl
import HandS.SortInts
import HandS.DictComp
import HandS.Conv
import HandS.Property
import HandS.HeadHook1
import HandS.OwnEq
import PyProof.InstNe
import HandS.SlotsOwn
import HandS.HeadHook2
import HandS.GenYield
import HandS.GenList
import HandS.GenCall
import HandS.Style
import KE.KStateDown
import Lean
import HandS.Head0
import HandS.Head1
import HandS.Head2
import HandS.HeadEnd
import PySem.Challenge.RW_sidesigns_k01_whole_all_rows_of_a_size
set_option Elab.async false
set_option linter.all false
set_option maxRecDepth 100000
set_option maxHeartbeats 4000000
/-! walks over enumerate(text), enumerate(tuple), zip(text, text) -/
namespace Z
open PySem PySem.Spec PyProof.Rows L2
/-- the signs of a text, as values -/
def signs (x : Str) : List V := x.cps.toList.map fun c => V.str ⟨#[c]⟩
theorem signs_len (x : Str) : (signs x).length = x.cps.size := by unfold signs; simp
/-- enumerate(text): a new pair each -/
def ItEs (x : Str) : It :=
  ⟨fun i _ => i < x.cps.size, fun i H v H' => ∃ T c, v = .ref T ∧ H T = none ∧ H' = upd H T (.tup [.int (i : Nat), .str ⟨#[c]⟩]) ∧ x.cps[i]? = some c, fun i _ => x.cps.size ≤ i⟩
theorem turn_enumS {P : Program} {w : World} {K : PySem.W.Frag} {elts : List Expr} {kk : Nat} {tpos : Pos} (x : Str) (t : Tok) (e it : Addr) :
    Turn P w K (.Tuple elts kk tpos) (ItEs x) [e, it] e (fun i h => i ≤ x.cps.size ∧ (∃ old, IsEnum h e it ((i : Nat) : Int) old) ∧ h.IsStrIter it (strIterType x) x t i ∧ e ≠ it) where
  mem := by simp
  obj := fun i h st b hb => by
    obtain ⟨_, ⟨old, he⟩, ⟨o, ho, hc, hd⟩, _⟩ := st
    have e' : b = e ∨ b = it := by simpa using hb
    rcases e' with z | z
    · rw [z]; exact ⟨_, he, fun v q => nomatch q⟩
    · rw [z]; exact ⟨o, ho, fun v q => by rw [hd] at q; cases q⟩
  keep := fun i h h' st k => by
    obtain ⟨hn, ⟨old, he⟩, ⟨o, ho, r⟩, hne⟩ := st
    exact ⟨hn, ⟨old, k e (by simp) _ he⟩, ⟨o, k it (by simp) o ho, r⟩, hne⟩
  item := by
    intro X hP hw hK hc i pins s σ H E I hf st hg
    subst hP hw hK
    obtain ⟨hn, ⟨old, he⟩, hit, hne⟩ := st
    have hg : i < x.cps.size := hg
    have hel : e < s.heap.objs.size := Heap.lt_size he
    have hil : it < s.heap.objs.size := by obtain ⟨_, q, _⟩ := hit; exact Heap.lt_size q
    have D := Draws.text (prog := X.prog) (w := X.w) (A := X.A.in1) (I.ok.hd hc) it x t
    refine wpAny_pyNext_enum_itemD D he hit hg hne (by simpa using hne) fun u h' tk hu ho hit' hT hsz hk => ?_
    obtain ⟨c, u', hcx, rfl⟩ := hu
    refine ⟨_, rfl, wpAny_letOwnedTupleGo_enum (s := { s with heap := h', toks := tk + 1 }) ho fun h'' he' sb => ?_⟩
    have hT2 : h''.get? s.heap.objs.size = some { cls := .type "tuple", data := .seq #[.int i tk, .str ⟨#[c]⟩ u'] } := (sb.2 _ (Nat.ne_of_gt hel)).trans hT
    have new : ObjOk X.prog X.w (upd H s.heap.objs.size (.tup [.int (i : Nat), .str ⟨#[c]⟩])) h'' s.heap.objs.size (.tup [.int (i : Nat), .str ⟨#[c]⟩]) :=
      ⟨by show 2 ≤ sizeLine; decide, [.int i tk, .str ⟨#[c]⟩ u'], .cons ⟨_, rfl⟩ (.cons ⟨_, rfl⟩ .nil), ⟨_, hT2, rfl, _, rfl⟩⟩
    have I1 : Inv X pins σ (upd H s.heap.objs.size (.tup [.int (i : Nat), .str ⟨#[c]⟩])) { s with heap := h'', toks := tk + 1 } :=
      I.turnedNew (ch := [e, it]) (fun b ob hb q => (sb.2 b (fun z => hb (by simp [z]))).trans (hk b ob (fun z => hb (by simp [z])) (fun z => hb (by simp [z])) q)) hf (Nat.le_refl _) new
    refine ⟨.ref s.heap.objs.size, _, I1, rfl, ⟨_, c, rfl, I.hok.fresh (Nat.le_refl _), rfl, hcx⟩, ⟨hg, ⟨.str ⟨#[c]⟩ u', ?_⟩, ?_, hne⟩, fun b hb => ?_⟩
    · have e1 : ((i + 1 : Nat) : Int) = (i : Int) + 1 := by omega
      rw [e1]; exact he'
    · obtain ⟨o, ho', r⟩ := hit'
      exact ⟨o, (sb.2 it (Ne.symm hne)).trans ho', r⟩
    · have hb' : b < s.heap.objs.size := by
        have e' : b = e ∨ b = it := by simpa using hb
        rcases e' with z | z
        · rw [z]; exact hel
        · rw [z]; exact hil
      rw [upd_ne (Nat.ne_of_lt hb')]
      exact (hf b hb).1
  done := by
    intro X hP hw hK hc i pins s σ H E I hf st hg
    subst hP hw hK
    obtain ⟨hn, ⟨old, he⟩, hit, hne⟩ := st
    have hg : x.cps.size ≤ i := hg
    have ei : i = x.cps.size := by omega
    subst ei
    obtain ⟨f0, f1, f2, f3, f4, f5⟩ := hf it (by simp)
    have D := Draws.text (prog := X.prog) (w := X.w) (A := X.A.in1) (I.ok.hd hc) it x t
    exact wpAny_pyNext_enum_endD D he hit fun h' eb => ⟨rfl, I.turned (t' := s.toks) (fun b o hb q => eb b o hb q) f0 f1 f3 f4 f5⟩
  self := fun A i s Q E st h => let ⟨_, ⟨_, he⟩, _⟩ := st; wpAny_pyIter_enum he h
def iEnumS (ta : TA) : TI := fun σ H R => ta σ H fun vs H1 => ∃ x, vs = [.str x] ∧ R (ItEs x) H1
theorem pi_enumS {X : Cx} {e : Expr} {ta : TA} {p pos tpos : Pos} {elts : List Expr} {kk : Nat} (hg : Gl X "enumerate") (hm : X.mg "enumerate" = none) (ha : PA X [e] ta) (hs : starEach [e] X.env = [(false, eval e X.env)] := by rfl) :
    PI X (.Tuple elts kk tpos) (.Call (.Name "enumerate" p) [e] [] pos) (iEnumS ta) := by
  refine ⟨fun pins s σ H R I h => ?_⟩
  refine Call_ (ld_blt I hg hm boot_enumerate (PyProof.Rows.callWith_type1 (thn (ha.run pos pins s σ H _ I h) fun us s1 ⟨vs, H1, I1, r1, q1⟩ => ?_) hs rfl))
  obtain ⟨x, ex, q⟩ := q1
  subst ex
  cases r1 with
  | cons r rr =>
    cases rr
    obtain ⟨t, rfl⟩ := r
    refine call_enumerate_str fun h' he hit hsz hk => wpAny_pyIter_enum he ?_
    have I2 : Inv X pins σ H1 { s1 with heap := h' } := I1.kept (t' := s1.toks) hk
    refine ⟨s1.heap.objs.size + 1, [s1.heap.objs.size + 1, s1.heap.objs.size], _, _, H1, rfl, I2, turn_enumS x t (s1.heap.objs.size + 1) s1.heap.objs.size, ⟨Nat.zero_le _, ⟨.none, he⟩, hit, Nat.succ_ne_self _⟩, fun b hb => ?_, q⟩
    have e' : b = s1.heap.objs.size + 1 ∨ b = s1.heap.objs.size := by simpa using hb
    have hle : s1.heap.objs.size ≤ b := by
      rcases e' with z | z
      · rw [z]; exact Nat.le_add_right _ _
      · rw [z]; exact Nat.le_refl _
    exact I1.fpOk hle (I1.hok.fresh hle)
/-- enumerate(tuple): a new pair each -/
def ItEt (K : PySem.W.Frag) (a : Addr) : It :=
  ⟨fun i H => ∃ xs x, SqT K H a xs ∧ xs[i]? = some x, fun i H v H' => ∃ T x, v = .ref T ∧ H T = none ∧ H' = upd H T (.tup [.int (i : Nat), x]) ∧ ∀ xs, SqT K H a xs → xs[i]? = some x, fun i H => ∃ xs, SqT K H a xs ∧ xs.length = i⟩
theorem ne_tuple {h : Heap} {e it a : Addr} {i : Int} {old : Value} {its : Array Value} (he : IsEnum h e it i old) (ht : h.IsTuple a its) : e ≠ a := by
  intro z
  subst z
  obtain ⟨o, ho, hc, _⟩ := ht
  rw [he] at ho
  cases ho
  exact absurd hc (by intro h; injection h with h; exact absurd h (by decide))
theorem turn_enumT {P : Program} {w : World} {K : PySem.W.Frag} {elts : List Expr} {kk : Nat} {tpos : Pos} (a e it : Addr) :
    Turn P w K (.Tuple elts kk tpos) (ItEt K a) [e, it] e (fun i h => (∃ old, IsEnum h e it ((i : Nat) : Int) old) ∧ h.IsTupleIter it a i ∧ e ≠ it ∧ a ≠ it) where
  mem := by simp
  obj := fun i h st b hb => by
    obtain ⟨⟨old, he⟩, ⟨o, ho, hc, hd⟩, _⟩ := st
    have e' : b = e ∨ b = it := by simpa using hb
    rcases e' with z | z
    · rw [z]; exact ⟨_, he, fun v q => nomatch q⟩
    · rw [z]; exact ⟨o, ho, fun v q => by rw [hd] at q; cases q⟩
  keep := fun i h h' st k => by
    obtain ⟨⟨old, he⟩, hi, hne⟩ := st
    exact ⟨⟨old, k e (by simp) _ he⟩, hi.at fun o q => k it (by simp) o q, hne⟩
  item := by
    intro X hP hw hK hc i pins s σ H E I hf st hg
    subst hP hw hK
    obtain ⟨⟨old, he⟩, hit, hne, hna⟩ := st
    obtain ⟨xs, x, hq, hx⟩ := hg
    obtain ⟨its, rv, p, hz⟩ := I.tuple hq
    obtain ⟨u, hu, ru⟩ := rv.get hx
    have hlt : i < its.toArray.size := by
      have q := (List.getElem?_eq_some_iff.mp hu).1
      simpa using q
    have hel : e < s.heap.objs.size := Heap.lt_size he
    have hil : it < s.heap.objs.size := by obtain ⟨_, q, _⟩ := hit; exact Heap.lt_size q
    have hea : e ≠ a := ne_tuple he p
    have D := Draws.tuple (prog := X.prog) (w := X.w) (A := X.A.in1) (I.ok.hd hc) it a hna its.toArray
    refine wpAny_pyNext_enum_itemD D he ⟨hit, p⟩ hlt hne (by simp [hne, hea]) fun u1 h' tk hu1 ho hit' hT hsz hk => ?_
    have hu2 : its[i]? = some u1 := by simpa using hu1
    rw [hu] at hu2
    cases hu2
    refine ⟨_, rfl, wpAny_letOwnedTupleGo_enum (s := { s with heap := h', toks := tk + 1 }) ho fun h'' he' sb => ?_⟩
    have hT2 : h''.get? s.heap.objs.size = some { cls := .type "tuple", data := .seq #[.int i tk, u] } := (sb.2 _ (Nat.ne_of_gt hel)).trans hT
    have new : ObjOk X.prog X.w (upd H s.heap.objs.size (.tup [.int (i : Nat), x])) h'' s.heap.objs.size (.tup [.int (i : Nat), x]) :=
      ⟨by show 2 ≤ sizeLine; decide, [.int i tk, u], .cons ⟨_, rfl⟩ (.cons ru .nil), ⟨_, hT2, rfl, _, rfl⟩⟩
    have I1 : Inv X pins σ (upd H s.heap.objs.size (.tup [.int (i : Nat), x])) { s with heap := h'', toks := tk + 1 } :=
      I.turnedNew (ch := [e, it]) (fun b ob hb q => (sb.2 b (fun z => hb (by simp [z]))).trans (hk b ob (fun z => hb (by simp [z])) (fun z => hb (by simp [z])) q)) hf (Nat.le_refl _) new
    refine ⟨.ref s.heap.objs.size, _, I1, rfl, ⟨_, x, rfl, I.hok.fresh (Nat.le_refl _), rfl, fun ys hy => by rw [I.tuple_inj hy hq]; exact hx⟩, ⟨⟨u, ?_⟩, hit'.1.at fun o q => (sb.2 it (Ne.symm hne)).trans q, hne, hna⟩, fun b hb => ?_⟩
    · have e1 : ((i + 1 : Nat) : Int) = (i : Int) + 1 := by omega
      rw [e1]; exact he'
    · have hb' : b < s.heap.objs.size := by
        have e' : b = e ∨ b = it := by simpa using hb
        rcases e' with z | z
        · rw [z]; exact hel
        · rw [z]; exact hil
      rw [upd_ne (Nat.ne_of_lt hb')]
      exact (hf b hb).1
  done := by
    intro X hP hw hK hc i pins s σ H E I hf st hg
    subst hP hw hK
    obtain ⟨⟨old, he⟩, hit, hne, hna⟩ := st
    obtain ⟨xs, hq, hx⟩ := hg
    obtain ⟨its, rv, p, hz⟩ := I.tuple hq
    obtain ⟨f0, f1, f2, f3, f4, f5⟩ := hf it (by simp)
    have hl := rv.length
    have D := Draws.tuple (prog := X.prog) (w := X.w) (A := X.A.in1) (I.ok.hd hc) it a hna its.toArray
    have hi : i = its.toArray.size := by simp; omega
    rw [hi] at hit
    exact wpAny_pyNext_enum_endD D he ⟨hit, p⟩ fun h' eb => ⟨rfl, I.turned (t' := s.toks) (fun b o hb q => eb b o hb q) f0 f1 f3 f4 f5⟩
  self := fun A i s Q E st h => let ⟨⟨_, he⟩, _⟩ := st; wpAny_pyIter_enum he h
set_option maxHeartbeats 1000000 in
theorem meets_enumerate_newB0 {v : Value} {o : Obj} {H : Heap → Prop} (B : Begins v o H) :
    Meets (Builtin.«enumerate.__new__» ⟨[.type "enumerate", v], []⟩) (fun _ R s => H s.heap ∧
      R (.ok (.ret (.ref (s.heap.push o).objs.size))) { s with heap := (s.heap.push o).push { cls := .type "enumerate", data := .fields #[.none, .bool false, .ref s.heap.objs.size, rawInt 0, .none, .none] } }) :=
  .of_wp fun prog w A R s h => by
    obtain ⟨hp, g, d, tk, os⟩ := s; obtain ⟨h1, h⟩ := h
    have hsub := sub_enumerate
    have q1 : ∀ {A' : Around} {E : Value → Shared → Prop} {Q : Value → Shared → Prop}, Q (.ref hp.objs.size) ⟨hp.push o, g, d, tk, os⟩ → wpAny (model prog w) A' (pyIter v) Q E ⟨hp, g, d, tk, os⟩ :=
      fun q => B.iter prog w _ _ ⟨hp, g, d, tk, os⟩ _ h1 q
    wp_walk using q1
    refine wpAny_stack_any fun st => wpAny_pure ?_
    split
    · rename_i c _ _ _ _ _
      cases (c == Value.type "enumerate")
      · wp_walk using q1
        exact ⟨_, rfl, h⟩
      · wp_walk using q1
        exact ⟨_, rfl, h⟩
    · wp_walk using q1
      exact ⟨_, rfl, h⟩
theorem enum_begins0 {prog : Program} {w : World} {A : Around} {E : Value → Shared → Prop} {s : Shared} {v : Value} {o : Obj} {H : Heap → Prop} {Q : Value → Shared → Prop} (B : Begins v o H) (h1 : H s.heap)
    (h : ∀ h', IsEnum h' (s.heap.objs.size + 1) s.heap.objs.size 0 .none → h'.get? s.heap.objs.size = some o → h'.objs.size = s.heap.objs.size + 2 →
      (∀ b o, s.heap.get? b = some o → h'.get? b = some o) → Q (.ref (s.heap.objs.size + 1)) { s with heap := h' }) :
    wpAny (model prog w) A (call (.type "enumerate") [v]) Q E s := by
  refine callType_new F.called_enumerate (by decide) (F.typeCall_enumerate_1 _) (F.newCall_enumerate_1 _) (fun obj => F.args_object_init_2 obj _) F.entry_enumerate_new
    (meets_enumerate_newB0 B) ⟨h1, ?_⟩
  have hz : (s.heap.push o).objs.size = s.heap.objs.size + 1 := Heap.size_push ..
  show _ ∧ _
  rw [hz]
  have he : IsEnum ((s.heap.push o).push { cls := .type "enumerate", data := .fields #[.none, .bool false, .ref s.heap.objs.size, rawInt 0, .none, .none] }) (s.heap.objs.size + 1) s.heap.objs.size 0 .none := by
    have := Heap.get?_push_size (s.heap.push o) (o := { cls := .type "enumerate", data := .fields #[.none, .bool false, .ref s.heap.objs.size, rawInt 0, .none, .none] }) rfl
    rw [hz] at this; exact this
  refine ⟨⟨_, he, rfl⟩, h _ he (Heap.get?_push_of_some _ (Heap.get?_push_size _ B.free)) (by rw [Heap.size_push, hz]) fun b o x => Heap.get?_push_of_some _ (Heap.get?_push_of_some _ x)⟩
def iEnumT (K : PySem.W.Frag) (ta : TA) : TI := fun σ H R => ta σ H fun vs H1 => ∃ a xs, vs = [.ref a] ∧ SqT K H1 a xs ∧ R (ItEt K a) H1
theorem pi_enumT {X : Cx} {e : Expr} {ta : TA} {p pos tpos : Pos} {elts : List Expr} {kk : Nat} (hg : Gl X "enumerate") (hm : X.mg "enumerate" = none) (ha : PA X [e] ta) (hs : starEach [e] X.env = [(false, eval e X.env)] := by rfl) :
    PI X (.Tuple elts kk tpos) (.Call (.Name "enumerate" p) [e] [] pos) (iEnumT X.K ta) := by
  refine ⟨fun pins s σ H R I h => ?_⟩
  refine Call_ (ld_blt I hg hm boot_enumerate (PyProof.Rows.callWith_type1 (thn (ha.run pos pins s σ H _ I h) fun us s1 ⟨vs, H1, I1, r1, q1⟩ => ?_) hs rfl))
  obtain ⟨a, xs, ex, hq, q⟩ := q1
  subst ex
  cases r1 with
  | cons r rr =>
    cases rr
    cases r
    obtain ⟨its, rv, p', hz⟩ := I1.tuple hq
    have hlt : a < s1.heap.objs.size := by obtain ⟨_, q, _⟩ := p'; exact Heap.lt_size q
    refine enum_begins0 (begins_tuple a its.toArray) p' fun h' he hit hsz hk => wpAny_pyIter_enum he ?_
    have I2 : Inv X pins σ H1 { s1 with heap := h' } := I1.kept (t' := s1.toks) hk
    refine ⟨s1.heap.objs.size + 1, [s1.heap.objs.size + 1, s1.heap.objs.size], _, _, H1, rfl, I2, turn_enumT a (s1.heap.objs.size + 1) s1.heap.objs.size, ⟨⟨.none, he⟩, ⟨_, hit, rfl, rfl⟩, Nat.succ_ne_self _, Nat.ne_of_lt hlt⟩, fun b hb => ?_, q⟩
    have e' : b = s1.heap.objs.size + 1 ∨ b = s1.heap.objs.size := by simpa using hb
    have hle : s1.heap.objs.size ≤ b := by
      rcases e' with z | z
      · rw [z]; exact Nat.le_add_right _ _
      · rw [z]; exact Nat.le_refl _
    exact I1.fpOk hle (I1.hok.fresh hle)
/-- zip(text, text): a new pair each -/
def ItZs (x y : Str) : It :=
  ⟨fun i _ => i < min x.cps.size y.cps.size, fun i H v H' => ∃ T c d, v = .ref T ∧ H T = none ∧ H' = upd H T (.tup [.str ⟨#[c]⟩, .str ⟨#[d]⟩]) ∧ x.cps[i]? = some c ∧ y.cps[i]? = some d, fun i _ => min x.cps.size y.cps.size ≤ i⟩
theorem turn_zipS {P : Program} {w : World} {K : PySem.W.Frag} {elts : List Expr} {kk : Nat} {tpos : Pos} {x y : Str} {t1 t2 : Tok} {z TI TO i1 i2 : Addr} (S : ZipSep2 z TI TO i1 i2 [i1] [i2]) :
    Turn P w K (.Tuple elts kk tpos) (ItZs x y) [z, TI, TO, i1, i2] z (fun i h => i ≤ min x.cps.size y.cps.size ∧ IsZip h z TI TO .none ∧ IsTupOf2 h TI (.ref i1) (.ref i2) ∧ (∃ a b, IsTupOf2 h TO a b) ∧ h.IsStrIter i1 (strIterType x) x t1 i ∧ h.IsStrIter i2 (strIterType y) y t2 i) where
  mem := by simp
  obj := fun i h st c hc => by
    obtain ⟨_, hz, hTI, ⟨x, y, hTO⟩, ⟨o1, e1, _, d1⟩, ⟨o2, e2, _, d2⟩⟩ := st
    have e' : c = z ∨ c = TI ∨ c = TO ∨ c = i1 ∨ c = i2 := by simpa using hc
    rcases e' with q | q | q | q | q
    · rw [q]; exact ⟨_, hz, fun v q => nomatch q⟩
    · rw [q]; exact ⟨_, hTI, fun v q => nomatch q⟩
    · rw [q]; exact ⟨_, hTO, fun v q => nomatch q⟩
    · rw [q]; exact ⟨o1, e1, fun v q => by rw [d1] at q; cases q⟩
    · rw [q]; exact ⟨o2, e2, fun v q => by rw [d2] at q; cases q⟩
  keep := fun i h h' st k => by
    obtain ⟨hn, hz, hTI, ⟨x, y, hTO⟩, ⟨o1, e1, r1⟩, ⟨o2, e2, r2⟩⟩ := st
    exact ⟨hn, k z (by simp) _ hz, k TI (by simp) _ hTI, ⟨x, y, k TO (by simp) _ hTO⟩, ⟨o1, k i1 (by simp) _ e1, r1⟩, ⟨o2, k i2 (by simp) _ e2, r2⟩⟩
  item := by
    intro X hP hw hK hc i pins s σ H E I hf st hg
    subst hP hw hK
    obtain ⟨hn, hz, hTI, ⟨x0, y0, hTO⟩, h1, h2⟩ := st
    have hg : i < min x.cps.size y.cps.size := hg
    have D1 := Draws.text (prog := X.prog) (w := X.w) (A := X.A.in1) (I.ok.hd hc) i1 x t1
    have D2 := Draws.text (prog := X.prog) (w := X.w) (A := X.A.in1) (I.ok.hd hc) i2 y t2
    have hzl : z < s.heap.objs.size := Heap.lt_size hz
    refine wpAny_pyNext_zipD2_item S D1 D2 hz hTI hTO h1 h2 (Nat.lt_of_lt_of_le hg (Nat.min_le_left _ _)) (Nat.lt_of_lt_of_le hg (Nat.min_le_right _ _)) fun u1 u2 h' tk p1 p2 z' TO' h1' h2' hT hsz hk => ?_
    obtain ⟨c, q1, hcx, rfl⟩ := p1
    obtain ⟨d, q2, hdx, rfl⟩ := p2
    refine ⟨_, rfl, wpAny_letOwnedTupleGo_zip (s := { s with heap := h', toks := tk }) z' fun h'' z'' sb => ?_⟩
    have hT2 : h''.get? s.heap.objs.size = some { cls := .type "tuple", data := .seq #[.str ⟨#[c]⟩ q1, .str ⟨#[d]⟩ q2] } := (sb.2 _ (Nat.ne_of_gt hzl)).trans hT
    have new : ObjOk X.prog X.w (upd H s.heap.objs.size (.tup [.str ⟨#[c]⟩, .str ⟨#[d]⟩])) h'' s.heap.objs.size (.tup [.str ⟨#[c]⟩, .str ⟨#[d]⟩]) :=
      ⟨by show 2 ≤ sizeLine; decide, [.str ⟨#[c]⟩ q1, .str ⟨#[d]⟩ q2], .cons ⟨_, rfl⟩ (.cons ⟨_, rfl⟩ .nil), ⟨_, hT2, rfl, _, rfl⟩⟩
    have I1 : Inv X pins σ (upd H s.heap.objs.size (.tup [.str ⟨#[c]⟩, .str ⟨#[d]⟩])) { s with heap := h'', toks := tk } :=
      I.turnedNew (ch := [z, TI, TO, i1, i2]) (fun c o hb q => (sb.2 c (fun q' => hb (by simp [q']))).trans (hk c o (fun q' => hb (by simp [q'])) (fun q' => hb (by simp [q'])) (fun q' => hb (by simp [q'])) (fun q' => hb (by simp [q'])) q)) hf (Nat.le_refl _) new
    refine ⟨.ref s.heap.objs.size, _, I1, rfl, ⟨_, c, d, rfl, I.hok.fresh (Nat.le_refl _), rfl, hcx, hdx⟩, ⟨hg, z'', ?_, ⟨.str ⟨#[c]⟩ q1, .str ⟨#[d]⟩ q2, ?_⟩, ?_, ?_⟩, fun c hcm => ?_⟩
    · exact (sb.2 _ S.TIz).trans (hk _ _ S.TIz S.TITO S.TIi1 S.TIi2 hTI)
    · exact (sb.2 _ S.TOz).trans TO'
    · obtain ⟨o, ho, r⟩ := h1'
      exact ⟨o, (sb.2 _ (Ne.symm S.zi1)).trans ho, r⟩
    · obtain ⟨o, ho, r⟩ := h2'
      exact ⟨o, (sb.2 _ (Ne.symm S.zi2)).trans ho, r⟩
    · have hlt : c < s.heap.objs.size := by
        have e' : c = z ∨ c = TI ∨ c = TO ∨ c = i1 ∨ c = i2 := by simpa using hcm
        rcases e' with q | q | q | q | q
        · rw [q]; exact hzl
        · rw [q]; exact Heap.lt_size hTI
        · rw [q]; exact Heap.lt_size hTO
        · rw [q]; obtain ⟨_, e1, _⟩ := h1; exact Heap.lt_size e1
        · rw [q]; obtain ⟨_, e2, _⟩ := h2; exact Heap.lt_size e2
      rw [upd_ne (Nat.ne_of_lt hlt)]
      exact (hf c hcm).1
  done := by
    intro X hP hw hK hc i pins s σ H E I hf st hg
    subst hP hw hK
    obtain ⟨hn, hz, hTI, ⟨x0, y0, hTO⟩, h1, h2⟩ := st
    have hg : min x.cps.size y.cps.size ≤ i := hg
    have D1 := Draws.text (prog := X.prog) (w := X.w) (A := X.A.in1) (I.ok.hd hc) i1 x t1
    have D2 := Draws.text (prog := X.prog) (w := X.w) (A := X.A.in1) (I.ok.hd hc) i2 y t2
    exact wpAny_pyNext_zipD2_end S D1 D2 hz hTI hTO h1 h2 (by omega) (by omega) (by omega) fun h' tk hk => ⟨rfl, I.turnedL (t' := tk) (ch := [z, TI, TO, i1, i2]) (fun c o hb q =>
      hk c o (fun q' => hb (by simp [q'])) (fun q' => hb (by simp [q'])) (fun q' => hb (by simp [q'])) (fun q' => hb (by simp [q'])) q) hf⟩
  self := fun A i s Q E st h => wpAny_pyIter_zip st.2.1 h
def iZipS (ta : TA) : TI := fun σ H R => ta σ H fun vs H1 => ∃ x y, vs = [.str x, .str y] ∧ R (ItZs x y) H1
theorem pi_zipS {X : Cx} {e e2 : Expr} {ta : TA} {p pos tpos : Pos} {elts : List Expr} {kk : Nat} (hg : Gl X "zip") (hm : X.mg "zip" = none) (ha : PA X [e, e2] ta)
    (hs : starEach [e, e2] X.env = (false, eval e X.env) :: starEach [e2] X.env := by rfl) (hpl : (backTo pos (starEach [e2] X.env)).any (·.1) = false := by rfl) :
    PI X (.Tuple elts kk tpos) (.Call (.Name "zip" p) [e, e2] [] pos) (iZipS ta) := by
  refine ⟨fun pins s σ H R I h => ?_⟩
  refine Call_ (ld_blt I hg hm PyProof.Rows.boot_zip (PyProof.Rows.callWith_type1 (thn (ha.run pos pins s σ H _ I h) fun us s1 ⟨vs, H1, I1, r1, q1⟩ => ?_) hs hpl))
  obtain ⟨x, y, ex, q⟩ := q1
  subst ex
  cases r1 with
  | cons r rr =>
    cases rr with
    | cons r' rr =>
      cases rr
      obtain ⟨t1, rfl⟩ := r
      obtain ⟨t2, rfl⟩ := r'
      refine zip_begins2 (begins_text x t1) (begins_text y t2) trivial trivial fun h' hz hTI hTO h1 h2 hsz hk => wpAny_pyIter_zip hz ?_
      have I2 : Inv X pins σ H1 { s1 with heap := h' } := I1.kept (t' := s1.toks) hk
      have S : ZipSep2 (s1.heap.objs.size + 4) (s1.heap.objs.size + 2) (s1.heap.objs.size + 3) s1.heap.objs.size (s1.heap.objs.size + 1) [s1.heap.objs.size] [s1.heap.objs.size + 1] := zip_sep2 (by simp) (by simp)
      refine ⟨s1.heap.objs.size + 4, [s1.heap.objs.size + 4, s1.heap.objs.size + 2, s1.heap.objs.size + 3, s1.heap.objs.size, s1.heap.objs.size + 1], _, _, H1, rfl, I2, turn_zipS (t1 := t1) (t2 := t2) S, ⟨Nat.zero_le _, hz, hTI, ⟨_, _, hTO⟩, ⟨_, h1, rfl, rfl⟩, ⟨_, h2, rfl, rfl⟩⟩, fun c hcm => ?_, q⟩
      have e' : c = s1.heap.objs.size + 4 ∨ c = s1.heap.objs.size + 2 ∨ c = s1.heap.objs.size + 3 ∨ c = s1.heap.objs.size ∨ c = s1.heap.objs.size + 1 := by simpa using hcm
      have hle : s1.heap.objs.size ≤ c := by
        rcases e' with z | z | z | z | z
        · rw [z]; exact Nat.le_add_right _ _
        · rw [z]; exact Nat.le_add_right _ _
        · rw [z]; exact Nat.le_add_right _ _
        · rw [z]; exact Nat.le_refl _
        · rw [z]; exact Nat.le_add_right _ _
      exact I1.fpOk hle (I1.hok.fresh hle)
end Z

set_option Elab.async false
set_option linter.all false
set_option maxRecDepth 100000
set_option maxHeartbeats 4000000
/-! s.translate(str.maketrans("+-", "-+")) -/
namespace Z
open PySem PySem.Spec PyProof.Rows L2
theorem cls_mk (K : PySem.W.Frag) : PySem.W.findCls K (.type "str") (.type "type") (Str.ofString "maketrans") = some (.val (.builtin "str.maketrans")) := by
  first
    | kernel_rfl
    | rfl
section
variable {prog : Program} {w : World} {A : Around} {E : Value → Shared → Prop} {s : Shared}
theorem getm_mk {K : PySem.W.Frag} {pl : Sem Bool} {Q : Value × List Value → Shared → Prop} (X : K.In s.heap) (h : Q (.builtin "str.maketrans", []) { s with toks := s.toks + 1 }) :
    wpAny (model prog w) A (getMethod (.type "str") (Str.ofString "maketrans") pl) Q E s := by
  have hstub : opaqueClassAbove (.type "str") = pure none := by unfold opaqueClassAbove; dsimp only; rw [show Manifest.isStub "str" = false by decide +kernel]; all_goals rfl
  have ht : typeOf (.type "str") = pure (.type "type") := by first | rfl | kernel_rfl
  have L0 : PySem.W.Looks (model prog w) s.heap (typeOf (.type "str")) (.type "type") := PySem.W.Looks.of_pure ht
  have hg : PySem.W.findIn K (.type "type") "__getattribute__" = some (some (.builtin "type.__getattribute__")) := PySem.W.type_tga
  unfold getMethod specialOf
  refine wpAny_bind (wpAny_bind (L0.here ((PySem.W.looks_findIn X hg).here ?_)))
  dsimp only
  rw [if_pos PySem.W.canon_tga]
  refine wpAny_bind (wpAny_mono (Q := fun v => Q (v, [])) (E := E) ?_ (fun _ _ z => wpAny_pure z) fun _ _ z => z)
  have LO : PySem.W.Looks (model prog w) s.heap (opaqueClassAbove (.type "str")) none := PySem.W.Looks.of_pure hstub
  refine PySem.W.cls_open X LO L0 hg (PySem.W.looks_hook X (r := none) (by rfl)) (by show PySem.W.subIn K _ _ = _; rfl) (cls_mk K) ?_
  show wpAny _ _ (ret _) _ _ _
  exact wpAny_pure (wpAny_pure h)
theorem entry_mk : entryFor table "str.maketrans" = some Builtin.«str.maketrans» := entryFor_of_tree (by kernel_rfl)
/-- the swap of 43 and 45 -/
def swp : List (Key × Value) → Prop := fun kvs => ∃ a b : Tok, kvs = [(.inl 43, .int 45 a), (.inl 45, .int 43 b)]
theorem run_mk (t1 t2 : Tok) : MeetsIn prog w (Builtin.«str.maketrans» ⟨[.str "+-" t1, .str "-+" t2], []⟩) (fun A R s =>
    ∀ h' tk kvs, swp kvs → h'.DictOf (mixKind prog w) s.heap.objs.size kvs → (∀ b o, s.heap.get? b = some o → h'.get? b = some o) → R (.ok (.ret (.ref s.heap.objs.size))) { s with heap := h', toks := tk }) := by
  refine .of_wp fun A R s h => ?_
  obtain ⟨hp, g, d, tk, os⟩ := s
  unfold Builtin.«str.maketrans»
  refine wpAny_bind (wpAny_of_eq (a := ()) (by first | rfl | kernel_rfl) ?_)
  refine wpAny_bind (wpAny_of_eq (a := ()) (by first | rfl | kernel_rfl) ?_)
  dsimp only
  refine wpAny_bind (wpAny_of_eq (a := some (Str.ofString "-+")) (by first | rfl | kernel_rfl) ?_)
  refine wpAny_bind (wpAny_of_eq (a := none) (by first | rfl | kernel_rfl) ?_)
  unfold newDict
  refine wpAny_bind (wpAny_newObj_type ?_)
  dsimp only
  have hD0 : (hp.push { cls := .type "dict", data := .dict #[] }).DictOf (mixKind prog w) hp.objs.size [] := Heap.DictOf.new hp
  refine wpAny_bind (wpAny_holding ?_)
  refine wpAny_bind (wpAny_of_eq (a := some (Str.ofString "+-")) (by first | rfl | kernel_rfl) ?_)
  dsimp only
  refine PySem.W.KFB.if_not (by decide +kernel) ?_
  rw [show (Str.ofString "+-").cps.toList.zip (Str.ofString "-+").cps.toList = [(43, 45), (45, 43)] by decide +kernel]
  simp only [List.forIn_cons, List.forIn_nil, bind_assoc, pure_bind]
  refine wpAny_bind (wpAny_mkInt ?_)
  refine wpAny_bind (wpAny_mkInt ?_)
  refine wpAny_bind (wpAny_dictSet_pairs (knd := mixKind prog w) (k := .inl 43) (kV_is (k := .inl 43) ⟨_, rfl⟩) hD0 (fun h1 hd1 sb1 => ?_) (by decide))
  dsimp only at hd1 sb1 ⊢
  refine wpAny_bind (wpAny_mkInt ?_)
  refine wpAny_bind (wpAny_mkInt ?_)
  have e1 : stored ([] : List (Key × Value)) (.inl 43) (.int (45 : Nat) (tk + 1)) = [(.inl 43, .int (45 : Nat) (tk + 1))] := rfl
  rw [e1] at hd1
  refine wpAny_bind (wpAny_dictSet_pairs (knd := mixKind prog w) (k := .inl 45) (kV_is (k := .inl 45) ⟨_, rfl⟩) hd1 (fun h2 hd2 sb2 => ?_) (by show 1 ≤ sizeLine; decide))
  dsimp only at hd2 sb2 ⊢
  refine wpAny_bind (wpAny_of_eq (a := PUnit.unit) (by first | rfl | kernel_rfl) ?_)
  refine wpAny_pure (wpAny_pure ⟨_, rfl, h h2 _ _ ⟨_, _, rfl⟩ hd2 fun b o z => ?_⟩)
  have hb : b ≠ hp.objs.size := Nat.ne_of_lt (Heap.lt_size z)
  exact (sb2.2 b hb).trans ((sb1.2 b hb).trans (Heap.get?_push_of_some _ z))
theorem plain_mk : plainId "str.maketrans" = true := by decide +kernel
theorem check_mk (t1 t2 : Tok) : checkBuiltinCall "str.maketrans" ⟨[.str "+-" t1, .str "-+" t2], []⟩ = pure () := by first | kernel_rfl | rfl
theorem call_mk {t1 t2 : Tok} {Q : Value → Shared → Prop}
    (h : ∀ h' tk kvs, swp kvs → h'.DictOf (mixKind prog w) s.heap.objs.size kvs → (∀ b o, s.heap.get? b = some o → h'.get? b = some o) → Q (.ref s.heap.objs.size) { s with heap := h', toks := tk }) :
    wpAny (model prog w) A (call (.builtin "str.maketrans") [.str "+-" t1, .str "-+" t2]) Q E s :=
  wpAny_call (codeAny_call_builtin plain_mk entry_mk (wpAny_of_eq (a := ()) (check_mk t1 t2) (run_mk t1 t2 A (wants Q E) s h)))
end
/-- the table of the swap -/
def swpV : List (Key × V) := [(.inl 43, .int 45), (.inl 45, .int 43)]
def tMk : TE := fun _ H Q => ∀ p, H p = none → Q (.ref p) (upd H p (.dK swpV))
section
variable {X : Cx}
theorem pe_mk {pl : Sem Bool} {e1 e2 : Expr} {p apos pos j1 p1 j2 p2} (hg : Gl X "str") (hm : X.mg "str" = none)
    (h1 : e1 = .Constant (.str "+-") j1 p1 := by rfl) (h2 : e2 = .Constant (.str "-+") j2 p2 := by rfl)
    (he : eval (.Call (.Attribute (.Name "str" p) "maketrans" apos) [e1, e2] [] pos) X.env = (do
      let ov ← eval (.Name "str" p) X.env
      standAt apos.atName
      let (f, first) ← holding [ov] (getMethod ov "maketrans" pl)
      callWith pos f first (backTo pos (starEach [e1, e2] X.env)) (backToKw pos (keywordEach [] X.env))) := by rfl)
    (hs : starEach [e1, e2] X.env = (false, eval e1 X.env) :: starEach [e2] X.env := by rfl) (hs2 : starEach [e2] X.env = (false, eval e2 X.env) :: starEach [] X.env := by rfl)
    (hpl : (backTo pos (starEach [e2] X.env)).any (·.1) = false := by rfl) : PE X (.Call (.Attribute (.Name "str" p) "maketrans" apos) [e1, e2] [] pos) tMk := by
  subst h1 h2
  refine ⟨fun pins s σ H Q I h => ?_⟩
  refine PySem.W.methodCall_KW (ld_blt I hg hm PyProof.Rows.boot_str ?_ (by decide) (by decide)) he
  refine getm_mk I.kIn ?_
  have I1 : Inv X pins σ H { s with toks := s.toks + 1 } := I.tok _
  have ha : PA X [.Constant (.str "+-") j1 p1, .Constant (.str "-+") j2 p2] (tCons (tC (.str "+-")) (tCons (tC (.str "-+")) tNil)) := pa_cons pe_str (pa_cons pe_str pa_nil)
  show wpAny _ _ (callWith pos (.builtin "str.maketrans") [] (backTo pos (starEach [.Constant (.str "+-") j1 p1, .Constant (.str "-+") j2 p2] X.env)) []) _ _ _
  refine PyProof.Rows.callWith_builtin1 (thn (ha.run pos pins _ σ H (fun vs H1 => H1 = H ∧ vs = [.str "+-", .str "-+"]) I1 ⟨rfl, rfl⟩) fun us s1 ⟨vs, H1, I2, r, e1, e2⟩ => ?_) hs hpl
  subst e1 e2
  obtain ⟨u, w', rfl, ⟨t, rfl⟩, ⟨t', rfl⟩⟩ := vals2 r
  refine call_mk fun h' tk kvs ⟨a, b, ek⟩ hD hk => ?_
  subst ek
  have hsys : (s1.heap.objs.size == sysModules) = false := beq_eq_false_iff_ne.mpr (Ne.symm (Nat.ne_of_lt I2.big))
  have rel : KV swpV [(.inl 43, .int 45 a), (.inl 45, .int 43 b)] := .cons ⟨rfl, _, rfl⟩ (.cons ⟨rfl, _, rfl⟩ .nil)
  exact ⟨.ref s1.heap.objs.size, _, I2.laid (t' := tk) (o := .dK swpV) hk (Nat.le_refl _) (dk_new (by show 2 ≤ sizeLine; decide) hsys rel hD), rfl, h _ (I2.hok.fresh (Nat.le_refl _))⟩
end
/-- a sign, swapped -/
def sw (c : Nat) : Nat := if c = 43 then 45 else if c = 45 then 43 else c
end Z

set_option Elab.async false
set_option linter.all false
set_option maxRecDepth 100000
set_option maxHeartbeats 4000000
namespace Z
open PySem PySem.Spec PyProof.Rows L2
open PySem.Builtin PySem.Builtin.Str
theorem sw_43 : sw 43 = 45 := rfl
theorem sw_45 : sw 45 = 43 := rfl
theorem sw_no {c : Nat} (h1 : c ≠ 43) (h2 : c ≠ 45) : sw c = c := by unfold sw; rw [if_neg h1, if_neg h2]
theorem mapOfK {prog : Program} {w : World} {h h' : Heap} {a : Addr} {f : Key → Option Value} (m : h.MapOf (mixKind prog w) a f) (k : ∀ b o, h.get? b = some o → h'.get? b = some o) : h'.MapOf (mixKind prog w) a f := by
  obtain ⟨o, es, ep, ho, r⟩ := m
  exact ⟨o, es, ep, k _ _ ho, r⟩
def TellsS (f : Key → Option Value) : Prop := (∃ t, f (.inl 43) = some (.int 45 t)) ∧ (∃ t, f (.inl 45) = some (.int 43 t)) ∧ ∀ c : Nat, c ≠ 43 → c ≠ 45 → f (.inl (c : Int)) = none
section
variable {prog : Program} {w : World} {A : Around} {E : Value → Shared → Prop} {s : Shared} {d : Addr} {c : Nat}
theorem wpAny_tlS {f : Key → Option Value} {Q : Mapped → Shared → Prop} (hh : A.handled = none) (hd : (d == sysModules) = false) (hm : s.heap.MapOf (mixKind prog w) d f) (hk : TellsS f)
    (h1 : c = 43 → ∀ h' k, (∀ b o, s.heap.get? b = some o → h'.get? b = some o) → Q (.char 45) { s with heap := h', toks := k })
    (h3 : c = 45 → ∀ h' k, (∀ b o, s.heap.get? b = some o → h'.get? b = some o) → Q (.char 43) { s with heap := h', toks := k })
    (h2 : c ≠ 43 → c ≠ 45 → ∀ h' k, (∀ b o, s.heap.get? b = some o → h'.get? b = some o) → Q .keep { s with heap := h', toks := k }) : wpAny (model prog w) A (tableLookup (.ref d) c) Q E s := by
  unfold tableLookup
  refine wpAny_bind (wpAny_attempt (wpAny_bind (wpAny_mkInt ?_)))
  obtain ⟨⟨t, k1⟩, ⟨t', k2⟩, k3⟩ := hk
  by_cases c1 : c = 43
  · subst c1
    refine wpAny_getItem_of (knd := mixKind prog w) (k := .inl 43) (kV_is (k := .inl 43) ⟨_, rfl⟩) hm k1 ?_
    show wpAny _ _ (do let o ← asInt? (Value.int 45 t); _) _ _ _
    refine wpAny_bind (wpAny_of_eq (a := some 45) rfl ?_)
    show wpAny _ _ (if (decide ((45 : Int) < 0) || decide ((45 : Int) > 0x10FFFF)) = true then _ else pure (Mapped.char (45 : Int).toNat)) _ _ _
    rw [if_neg (by decide)]
    exact wpAny_pure (h1 rfl s.heap _ fun _ _ e => e)
  · by_cases c2 : c = 45
    · subst c2
      refine wpAny_getItem_of (knd := mixKind prog w) (k := .inl 45) (kV_is (k := .inl 45) ⟨_, rfl⟩) hm k2 ?_
      show wpAny _ _ (do let o ← asInt? (Value.int 43 t'); _) _ _ _
      refine wpAny_bind (wpAny_of_eq (a := some 43) rfl ?_)
      show wpAny _ _ (if (decide ((43 : Int) < 0) || decide ((43 : Int) > 0x10FFFF)) = true then _ else pure (Mapped.char (43 : Int).toNat)) _ _ _
      rw [if_neg (by decide)]
      exact wpAny_pure (h3 rfl s.heap _ fun _ _ e => e)
    · refine wpAny_getItem_missing_of (knd := mixKind prog w) (k := .inl (c : Int)) (kV_is (k := .inl (c : Int)) ⟨_, rfl⟩) hd hh hm (k3 c c1 c2) fun h' e hx => ?_
      show wpAny _ _ (do let b ← isInstance (.ref e) (.type "LookupError"); _) _ _ _
      obtain ⟨ob, t, ho, hc, _⟩ := hx.there
      refine wpAny_bind (wpAny_isInstance (T := "KeyError") (b := true) ⟨ob, ho, hc⟩ key_is_lookup ?_)
      show wpAny _ _ (if true = true then (do rule "str.translate.not-in-table"; pure Mapped.keep) else _) _ _ _
      rw [if_pos rfl]
      exact wpAny_bind (wpAny_rule (wpAny_pure (h2 c1 c2 h' _ hx.keeps)))
end
theorem pieces_sw : ∀ (l : List Nat) (acc : Array Nat), List.foldl (fun acc (p : Str) => acc ++ p.cps) acc (l.map fun c => (⟨#[sw c]⟩ : Str)) = acc ++ (l.map sw).toArray
  | [], acc => by
    show acc = acc ++ #[]
    rw [Array.append_empty]
  | c :: l, acc => by
    rw [List.map_cons, List.foldl_cons, pieces_sw l]
    apply Array.toList_inj.mp
    simp
def TrS (x : List Nat) (fast0 : Bool) (s : Shared) (rest : List Nat) (st : List Str × Nat × Bool × List (Nat × Option Nat) × Bool) (s' : Shared) : Prop :=
  ∃ (past : List Nat) (pieces : List Str) (known : List (Nat × Option Nat)) (h' : Heap) (k : Nat), x = past ++ rest ∧ st = (pieces, past.length, fast0, known, false) ∧ pieces.reverse = past.map (fun c => (⟨#[sw c]⟩ : Str)) ∧
    (∀ c a, List.lookup c known = some a → a = some (sw c)) ∧ s' = { s with heap := h', toks := k } ∧ ∀ b o, s.heap.get? b = some o → h'.get? b = some o
theorem TrS.next {x : List Nat} {fast0 : Bool} {s : Shared} {rest past : List Nat} {c : Nat} {pieces : List Str} {known : List (Nat × Option Nat)} {h' : Heap} {k : Nat} (h1 : x = past ++ c :: rest)
    (h3 : pieces.reverse = past.map (fun c => (⟨#[sw c]⟩ : Str))) (h4 : ∀ c a, List.lookup c known = some a → a = some (sw c)) (h6 : ∀ b o, s.heap.get? b = some o → h'.get? b = some o) :
    TrS x fast0 s rest (⟨#[sw c]⟩ :: pieces, past.length + 1, fast0, known, false) { s with heap := h', toks := k } := by
  refine ⟨past ++ [c], ⟨#[sw c]⟩ :: pieces, known, h', k, ?_, ?_, ?_, h4, rfl, h6⟩
  · rw [h1, List.append_assoc] <;> rfl
  · rw [List.length_append] <;> rfl
  · rw [List.reverse_cons, h3, List.map_append] <;> rfl
theorem meets_tr {prog : Program} {w : World} (x : List Nat) (t : Tok) (d : Addr) (hd : (d == sysModules) = false) (hz : x.length ≤ 16000000) : MeetsIn prog w («str.translate» ⟨[.str (SX.S x) t, .ref d], []⟩) (fun A R s =>
    A.handled = none ∧ (∃ f, s.heap.MapOf (mixKind prog w) d f ∧ TellsS f) ∧ ∀ (v : Value) (h' : Heap) (k : Nat), (∀ b o, s.heap.get? b = some o → h'.get? b = some o) → (∃ t', v = .str (SX.S (x.map sw)) t') → R (.ok (.ret v)) { s with heap := h', toks := k }) := by
  refine .of_wp fun A R s h => ?_
  obtain ⟨hh, ⟨f, hm, hk⟩, h⟩ := h
  have hh1 : A.in1.handled = none := hh
  show wpAny _ _ (if ((SX.S x).length == 0) = true then (do rule "str.translate.empty"; ret (.str (SX.S x) t)) else (do
    let st ← forIn (SX.S x).cps (([], 0, (SX.S x).cps.all fun y => decide (y < 128), [], false) : List Str × Nat × Bool × List (Nat × Option Nat) × Bool) _
    _)) _ _ s
  by_cases h0 : ((SX.S x).length == 0) = true
  · rw [if_pos h0]
    have hx : x = [] := by
      rw [beq_iff_eq, SX.S_len] at h0
      exact List.eq_nil_of_length_eq_zero h0
    subst hx
    exact wpAny_bind (wpAny_rule (wpAny_pure ⟨_, rfl, h _ s.heap s.toks (fun _ _ e => e) ⟨t, rfl⟩⟩))
  · rw [if_neg h0]
    generalize ((SX.S x).cps.all fun y => decide (y < 128)) = fast0
    refine wpAny_bind (MeetsSeq2.wpAny_forIn_array _ (TrS x fast0 s) _ (fun c rest st s' hI => ?turn) (fun st s' hI => ?fin) (SX.S x).cps ([], 0, fast0, [], false) ?h0)
    case h0 =>
      refine ⟨[], [], [], s.heap, s.toks, ?_, rfl, rfl, fun c a z => ?_, rfl, fun _ _ e => e⟩
      · show x = [] ++ x.toArray.toList
        rw [List.toList_toArray, List.nil_append]
      · rw [List.lookup_nil] at z
        cases z
    case turn =>
      obtain ⟨past, pieces, known, h', k, e1, e2, e3, e4, e5, e6⟩ := hI
      subst e2
      subst e5
      have hpl : past.length ≤ 16000000 := by
        have q := congrArg List.length e1
        rw [List.length_append] at q
        omega
      have hm' : ({ s with heap := h', toks := k } : Shared).heap.MapOf (mixKind prog w) d f := mapOfK hm e6
      show wpAny _ _ (if tooLong past.length = true then _ else (if fast0 = true then _ else _)) _ _ _
      rw [show tooLong past.length = false from PyProof.Rows.short24 (by omega), if_neg Bool.false_ne_true]
      cases fast0 with
      | true =>
        rw [if_pos rfl]
        cases hl : List.lookup c known with
        | some a =>
          have ha := e4 c a hl
          subst ha
          refine wpAny_bind (wpAny_pure ?_)
          exact wpAny_pure (TrS.next e1 e3 e4 e6)
        | none =>
          have new : ∀ b, b = some (sw c) → ∀ c' a, List.lookup c' ((c, b) :: known) = some a → a = some (sw c') := fun b hb c' a z => by
            rcases lookup_new z with ⟨q1, q2⟩ | q
            · rw [q2, hb, q1]
            · exact e4 c' a q
          refine wpAny_bind (wpAny_tlS hh1 hd hm' hk (fun hw h2 k2 k3 => ?_) (fun hw h2 k2 k3 => ?_) (fun hw hw2 h2 k2 k3 => ?_))
          · subst hw
            refine wpAny_bind (wpAny_pure ?_)
            refine wpAny_pure ?_
            exact TrS.next (c := 43) (fast0 := true) (k := k2) (known := (43, some 45) :: known) e1 e3 (new (some 45) rfl) (fun b o z => k3 b o (e6 b o z))
          · subst hw
            refine wpAny_bind (wpAny_pure ?_)
            refine wpAny_pure ?_
            exact TrS.next (c := 45) (fast0 := true) (k := k2) (known := (45, some 43) :: known) e1 e3 (new (some 43) rfl) (fun b o z => k3 b o (e6 b o z))
          · have e : sw c = c := sw_no hw hw2
            refine wpAny_bind (wpAny_pure ?_)
            refine wpAny_pure ?_
            have q := TrS.next (fast0 := true) (k := k2) (known := (c, some c) :: known) e1 e3 (new (some c) (by rw [e])) (fun b o z => k3 b o (e6 b o z))
            rw [e] at q
            exact q
      | false =>
        rw [if_neg Bool.false_ne_true]
        show wpAny _ _ (if false = true then _ else _) _ _ _
        rw [if_neg Bool.false_ne_true]
        refine wpAny_bind (wpAny_tlS hh1 hd hm' hk (fun hw h2 k2 k3 => ?_) (fun hw h2 k2 k3 => ?_) (fun hw hw2 h2 k2 k3 => ?_))
        · subst hw
          refine wpAny_pure ?_
          exact TrS.next (c := 43) (fast0 := false) (k := k2) e1 e3 e4 (fun b o z => k3 b o (e6 b o z))
        · subst hw
          refine wpAny_pure ?_
          exact TrS.next (c := 45) (fast0 := false) (k := k2) e1 e3 e4 (fun b o z => k3 b o (e6 b o z))
        · have e : sw c = c := sw_no hw hw2
          refine wpAny_pure ?_
          have q := TrS.next (fast0 := false) (k := k2) e1 e3 e4 (fun b o z => k3 b o (e6 b o z))
          rw [e] at q
          exact q
    case fin =>
      obtain ⟨past, pieces, known, h', k, e1, e2, e3, e4, e5, e6⟩ := hI
      subst e2
      subst e5
      have ex : x = past := by rw [e1, List.append_nil]
      show wpAny _ _ (if tooLong past.length = true then _ else retStr { cps := List.foldl (fun acc (p : Str) => acc ++ p.cps) #[] pieces.reverse }) _ _ _
      rw [show tooLong past.length = false from PyProof.Rows.short24 (by rw [← ex]; omega), if_neg Bool.false_ne_true, e3, pieces_sw, ← ex]
      have ev : (⟨#[] ++ (x.map sw).toArray⟩ : Str) = SX.S (x.map sw) := by
        rw [Array.empty_append] <;> rfl
      rw [ev]
      exact wpAny_bind (wpAny_mkStr (wpAny_pure ⟨_, rfl, h _ h' _ e6 ⟨_, rfl⟩⟩) (by rw [SX.S_len, List.length_map, sizeLine_eq]; omega))
section
variable {X : Cx}
theorem swp_of {vs : List (Key × Value)} (r : KV swpV vs) : ∃ a b : Tok, vs = [(.inl 43, .int 45 a), (.inl 45, .int 43 b)] := by
  cases r with
  | cons r1 r2 =>
    cases r2 with
    | cons r3 r4 =>
      cases r4
      rename_i p q
      obtain ⟨p1, p2⟩ := p
      obtain ⟨q1, q2⟩ := q
      obtain ⟨e1, t1, e2⟩ := r1
      obtain ⟨e3, t2, e4⟩ := r3
      cases e1; cases e2; cases e3; cases e4
      exact ⟨t1, t2, rfl⟩
/-- x.translate(the swap) -/
theorem mt_trS (hc : X.calm = true) : MtR X "str.translate" (fun x xs H Q => ∃ (t : List Nat) (d : Addr), x = .str (SX.S t) ∧ xs = [.ref d] ∧ H d = some (.dK swpV) ∧ t.length ≤ 16000000 ∧ Q (.str (SX.S (t.map sw))) H) := by
  intro pins s σ H x xs v us Q I rx rs h
  obtain ⟨a, d, rfl, rfl, hd, h3, h⟩ := h
  obtain ⟨t, rfl⟩ := rx
  cases rs with
  | cons r1 rs =>
    cases rs
    cases r1
    obtain ⟨_, hsys, vs, rel, dd⟩ := dk_of I.hok hd
    obtain ⟨ta, tb, rfl⟩ := swp_of rel
    refine call_meetsIn F.slot_str_translate (typeIs_str _ _ _) F.entry_str_translate (F.args_str_translate_2 _ _) (meets_tr a t d hsys h3) ⟨I.ok.hd hc, ⟨_, dd.mapOf, ⟨ta, rfl⟩, ⟨tb, rfl⟩, fun c c1 c2 => ?_⟩, ?_⟩
    · have z1 : decide ((Sum.inl 43 : Key) = Sum.inl (c : Int)) = false := decide_eq_false (fun z => c1 (by have := Sum.inl.inj z; omega))
      have z2 : decide ((Sum.inl 45 : Key) = Sum.inl (c : Int)) = false := decide_eq_false (fun z => c2 (by have := Sum.inl.inj z; omega))
      unfold valueAt
      rw [List.find?_cons, z1, List.find?_cons, z2] <;> rfl
    · intro v h' k hk ⟨t', e⟩
      subst e
      exact ⟨.str _, H, I.kept (t' := k) hk, ⟨t', rfl⟩, h⟩
end
end Z

set_option Elab.async false
set_option linter.all false
set_option maxRecDepth 100000
set_option maxHeartbeats 1000000
/-! Readings told by data: what a name holds is told by a datum of plain Lean, whatever stands where in memory. -/
namespace Z
open PySem PySem.Spec PyProof.Rows L2

/-! ### cells that may change: each with what stays true of it -/
abbrev Gh := Addr → Option (HO → Prop)
def Hold (Δ : Gh) (H : Hp) : Prop := ∀ a I, Δ a = some I → ∃ o, H a = some o ∧ I o
def Keep (Δ : Gh) (H H' : Hp) : Prop := ∀ a o, Δ a = none → H a = some o → H' a = some o
def Ext (Δ : Gh) (H H' : Hp) : Prop := Keep Δ H H' ∧ Hold Δ H'
abbrev Own := List (Addr × (HO → Prop))
def Sat (Γ : Own) (Δ : Gh) : Prop := ∀ p ∈ Γ, Δ p.1 = some p.2
theorem Keep.refl (Δ : Gh) (H : Hp) : Keep Δ H H := fun _ _ _ h => h
theorem Keep.trans {Δ : Gh} {H H1 H2 : Hp} (a : Keep Δ H H1) (b : Keep Δ H1 H2) : Keep Δ H H2 := fun x o n h => b x o n (a x o n h)
theorem Ext.refl {Δ : Gh} {H : Hp} (h : Hold Δ H) : Ext Δ H H := ⟨Keep.refl Δ H, h⟩
theorem Ext.trans {Δ : Gh} {H H1 H2 : Hp} (a : Ext Δ H H1) (b : Ext Δ H1 H2) : Ext Δ H H2 := ⟨a.1.trans b.1, b.2⟩
/-- a fresh cell is none of the changing ones -/
theorem Hold.fresh {Δ : Gh} {H : Hp} (h : Hold Δ H) {p : Addr} (hp : H p = none) : Δ p = none := by
  cases e : Δ p with
  | none => rfl
  | some I =>
    obtain ⟨o, ho, _⟩ := h p I e
    rw [hp] at ho
    cases ho
theorem Hold.new {Δ : Gh} {H : Hp} (h : Hold Δ H) {p : Addr} (hp : H p = none) (o : HO) : Hold Δ (upd H p o) := fun a I e => by
  obtain ⟨u, hu, iu⟩ := h a I e
  exact ⟨u, by rw [upd_ne (ne_of_none hu hp)]; exact hu, iu⟩
theorem Ext.new {Δ : Gh} {H : Hp} (h : Hold Δ H) {p : Addr} (hp : H p = none) (o : HO) : Ext Δ H (upd H p o) :=
  ⟨fun a u _ e => by rw [upd_ne (ne_of_none e hp)]; exact e, h.new hp o⟩
/-- what is fresh later was fresh before -/
theorem Ext.back {Δ : Gh} {H H' : Hp} (h : Hold Δ H) (e : Ext Δ H H') {p : Addr} (hp : H' p = none) : H p = none := by
  cases q : H p with
  | none => rfl
  | some o =>
    have hn := e.2.fresh hp
    rw [e.1 p o hn q] at hp
    cases hp
theorem Ext.same {Δ : Gh} {H H' : Hp} (h : Hold Δ H) (s : Same H H') : Ext Δ H H' := ⟨fun a o _ q => s a o q, fun a I e => by
  obtain ⟨o, ho, io⟩ := h a I e
  exact ⟨o, s a o ho, io⟩⟩

/-! ### data -/
/-- which value of the heap bears a datum -/
class Rp (α : Type) where
  rp : PySem.W.Frag → Gh → Hp → V → α → Prop
  mono : ∀ {K : PySem.W.Frag} {Δ : Gh} {H H' : Hp} {v : V} {a : α}, Keep Δ H H' → rp K Δ H v a → rp K Δ H' v a
  weak : ∀ {K : PySem.W.Frag} {Δ Δ' : Gh} {H : Hp} {v : V} {a : α}, (∀ x o, H x = some o → Δ x = none → Δ' x = none) → rp K Δ H v a → rp K Δ' H v a
/-- a text, by its codes -/
structure Tx where
  s : List Nat
  deriving DecidableEq
/-- a tuple of any length -/
structure Tup (α : Type) where
  l : List α
/-- an object at a told place -/
structure Loc where
  p : Addr
instance : Rp Int := ⟨fun _ _ _ v a => v = .int a, fun _ h => h, fun _ h => h⟩
instance : Rp Bool := ⟨fun _ _ _ v a => v = .bl a, fun _ h => h, fun _ h => h⟩
instance : Rp Unit := ⟨fun _ _ _ v _ => v = .non, fun _ h => h, fun _ h => h⟩
instance : Rp Tx := ⟨fun _ _ _ v a => v = .str ⟨a.s.toArray⟩, fun _ h => h, fun _ h => h⟩
instance : Rp Loc := ⟨fun _ _ _ v a => v = .ref a.p, fun _ h => h, fun _ h => h⟩
universe u1 u2 u3
/-- members, one by one -/
def All2 {α : Type u1} {β : Type u2} (R : α → β → Prop) : List α → List β → Prop
  | [], [] => True
  | x :: xs, y :: ys => R x y ∧ All2 R xs ys
  | _, _ => False
theorem All2.imp {α : Type u1} {β : Type u2} {R S : α → β → Prop} (h : ∀ x y, R x y → S x y) : ∀ {xs : List α} {ys : List β}, All2 R xs ys → All2 S xs ys
  | [], [], _ => trivial
  | [], _ :: _, q => q.elim
  | _ :: _, [], q => q.elim
  | _ :: _, _ :: _, q => ⟨h _ _ q.1, All2.imp h q.2⟩
theorem All2.len {α : Type u1} {β : Type u2} {R : α → β → Prop} : ∀ {xs : List α} {ys : List β}, All2 R xs ys → xs.length = ys.length
  | [], [], _ => rfl
  | [], _ :: _, q => q.elim
  | _ :: _, [], q => q.elim
  | _ :: xs, _ :: ys, q => by rw [List.length_cons, List.length_cons, All2.len q.2]
theorem All2.get {α : Type u1} {β : Type u2} {R : α → β → Prop} : ∀ {xs : List α} {ys : List β} {i : Nat} {y : β}, All2 R xs ys → ys[i]? = some y → ∃ x, xs[i]? = some x ∧ R x y
  | [], [], _, _, _, e => by simp at e
  | [], _ :: _, _, _, q, _ => q.elim
  | _ :: _, [], _, _, q, _ => q.elim
  | x :: _, y :: _, 0, _, q, e => by
    have e' : y = _ := Option.some.inj e
    subst e'
    exact ⟨x, rfl, q.1⟩
  | _ :: xs, _ :: ys, i + 1, y, q, e => All2.get (xs := xs) (ys := ys) (i := i) q.2 e
theorem All2.getL {α : Type u1} {β : Type u2} {R : α → β → Prop} : ∀ {xs : List α} {ys : List β} {i : Nat} {x : α}, All2 R xs ys → xs[i]? = some x → ∃ y, ys[i]? = some y ∧ R x y
  | [], [], _, _, _, e => by simp at e
  | [], _ :: _, _, _, q, _ => q.elim
  | _ :: _, [], _, _, q, _ => q.elim
  | x :: _, y :: _, 0, _, q, e => by
    have e' : x = _ := Option.some.inj e
    subst e'
    exact ⟨y, rfl, q.1⟩
  | _ :: xs, _ :: ys, i + 1, x, q, e => All2.getL (xs := xs) (ys := ys) (i := i) q.2 e
theorem All2.snoc {α : Type u1} {β : Type u2} {R : α → β → Prop} {x : α} {y : β} (r : R x y) : ∀ {xs : List α} {ys : List β}, All2 R xs ys → All2 R (xs ++ [x]) (ys ++ [y])
  | [], [], _ => ⟨r, trivial⟩
  | [], _ :: _, q => q.elim
  | _ :: _, [], q => q.elim
  | _ :: _, _ :: _, q => ⟨q.1, All2.snoc r q.2⟩
theorem All2.map {α : Type u1} {β : Type u2} {γ : Type u3} {R : α → β → Prop} {f : γ → α} {g : γ → β} : ∀ {xs : List γ}, (∀ x ∈ xs, R (f x) (g x)) → All2 R (xs.map f) (xs.map g)
  | [], _ => trivial
  | _ :: xs, h => ⟨h _ List.mem_cons_self, All2.map fun x hx => h x (List.mem_cons_of_mem _ hx)⟩
/-- a list, a tuple of the written part -/
def KL (K : PySem.W.Frag) (p : Addr) (xs : List V) : Prop := ∃ (o : Obj) (its : Array Value) (n : Nat), K.lookup p = some o ∧ o.cls = .type "list" ∧ o.dict = none ∧ o.data = .seq its n ∧ its.size ≤ sizeLine ∧ Vals xs its.toList
def KT (K : PySem.W.Frag) (p : Addr) (xs : List V) : Prop := ∃ (o : Obj) (its : Array Value) (n : Nat), K.lookup p = some o ∧ o.cls = .type "tuple" ∧ o.data = .seq its n ∧ its.size ≤ sizeLine ∧ Vals xs its.toList
/-- a list, a tuple that stays as it is -/
def StL (K : PySem.W.Frag) (Δ : Gh) (H : Hp) (p : Addr) (xs : List V) : Prop := (Δ p = none ∧ Rd H p (.lst xs)) ∨ KL K p xs
def StT (K : PySem.W.Frag) (Δ : Gh) (H : Hp) (p : Addr) (xs : List V) : Prop := (Δ p = none ∧ Rd H p (.tup xs)) ∨ KT K p xs
section
variable {K : PySem.W.Frag} {Δ Δ' : Gh} {H H' : Hp} {p : Addr} {xs : List V}
theorem StL.seq (h : StL K Δ H p xs) : SqL K H p xs := h.elim (fun h => .inl h.2) .inr
theorem StT.seq (h : StT K Δ H p xs) : SqT K H p xs := h.elim (fun h => .inl h.2) .inr
theorem rd_mono {o : HO} (k : Keep Δ H H') (n : Δ p = none) (h : Rd H p o) : Rd H' p o := h.elim (fun h => .inl (k _ _ n h)) fun ⟨u, h⟩ => .inr ⟨u, k _ _ n h⟩
theorem rd_some {o : HO} (h : Rd H p o) : ∃ u, H p = some u := h.elim (fun h => ⟨_, h⟩) fun ⟨u, h⟩ => ⟨_, h⟩
theorem StL.mono (k : Keep Δ H H') (h : StL K Δ H p xs) : StL K Δ H' p xs := h.elim (fun h => .inl ⟨h.1, rd_mono k h.1 h.2⟩) .inr
theorem StT.mono (k : Keep Δ H H') (h : StT K Δ H p xs) : StT K Δ H' p xs := h.elim (fun h => .inl ⟨h.1, rd_mono k h.1 h.2⟩) .inr
theorem StL.weak (w : ∀ x o, H x = some o → Δ x = none → Δ' x = none) (h : StL K Δ H p xs) : StL K Δ' H p xs := h.elim (fun h => .inl ⟨let ⟨u, hu⟩ := rd_some h.2; w p u hu h.1, h.2⟩) .inr
theorem StT.weak (w : ∀ x o, H x = some o → Δ x = none → Δ' x = none) (h : StT K Δ H p xs) : StT K Δ' H p xs := h.elim (fun h => .inl ⟨let ⟨u, hu⟩ := rd_some h.2; w p u hu h.1, h.2⟩) .inr
end
section
variable {α β : Type} [Rp α] [Rp β]
instance : Rp (List α) where
  rp K Δ H v xs := ∃ p vs, v = .ref p ∧ StL K Δ H p vs ∧ SqL K H p vs ∧ All2 (fun u a => Rp.rp K Δ H u a) vs xs
  mono k h := by
    obtain ⟨p, vs, e, n, s, q⟩ := h
    exact ⟨p, vs, e, n.mono k, (n.mono k).seq, q.imp fun _ _ => Rp.mono k⟩
  weak w h := by
    obtain ⟨p, vs, e, n, s, q⟩ := h
    exact ⟨p, vs, e, n.weak w, s, q.imp fun _ _ => Rp.weak w⟩
instance : Rp (Tup α) where
  rp K Δ H v xs := ∃ p vs, v = .ref p ∧ StT K Δ H p vs ∧ SqT K H p vs ∧ All2 (fun u a => Rp.rp K Δ H u a) vs xs.l
  mono k h := by
    obtain ⟨p, vs, e, n, s, q⟩ := h
    exact ⟨p, vs, e, n.mono k, (n.mono k).seq, q.imp fun _ _ => Rp.mono k⟩
  weak w h := by
    obtain ⟨p, vs, e, n, s, q⟩ := h
    exact ⟨p, vs, e, n.weak w, s, q.imp fun _ _ => Rp.weak w⟩
instance : Rp (α × β) where
  rp K Δ H v x := ∃ p a b, v = .ref p ∧ StT K Δ H p [a, b] ∧ SqT K H p [a, b] ∧ Rp.rp K Δ H a x.1 ∧ Rp.rp K Δ H b x.2
  mono k h := by
    obtain ⟨p, a, b, e, n, s, q, r⟩ := h
    exact ⟨p, a, b, e, n.mono k, (n.mono k).seq, Rp.mono k q, Rp.mono k r⟩
  weak w h := by
    obtain ⟨p, a, b, e, n, s, q, r⟩ := h
    exact ⟨p, a, b, e, n.weak w, s, Rp.weak w q, Rp.weak w r⟩
end

/-! ### names -/
structure Cell where
  {α : Type}
  [r : Rp α]
  val : α
def Cell.rp (c : Cell) (K : PySem.W.Frag) (Δ : Gh) (H : Hp) (v : V) : Prop := c.r.rp K Δ H v c.val
abbrev Env := List (Option Cell)
def EnvOk (K : PySem.W.Frag) (Δ : Gh) (σ : L2.St) (H : Hp) (ρ : Env) : Prop := σ.length = ρ.length ∧ ∀ (i : Nat) (c : Cell), ρ[i]? = some (some c) → ∃ v, σ[i]? = some (some v) ∧ c.rp K Δ H v
section
variable {K : PySem.W.Frag} {Δ Δ' : Gh} {σ : L2.St} {H H' : Hp} {ρ : Env}
theorem EnvOk.mono (k : Keep Δ H H') (h : EnvOk K Δ σ H ρ) : EnvOk K Δ σ H' ρ := ⟨h.1, fun i c e => by
  obtain ⟨v, e1, e2⟩ := h.2 i c e
  exact ⟨v, e1, c.r.mono k e2⟩⟩
theorem EnvOk.weak (w : ∀ x o, H x = some o → Δ x = none → Δ' x = none) (h : EnvOk K Δ σ H ρ) : EnvOk K Δ' σ H ρ := ⟨h.1, fun i c e => by
  obtain ⟨v, e1, e2⟩ := h.2 i c e
  exact ⟨v, e1, c.r.weak w e2⟩⟩
theorem EnvOk.set {i : Nat} {c : Cell} {v : V} (h : EnvOk K Δ σ H ρ) (hi : i < ρ.length) (hv : c.rp K Δ H v) : EnvOk K Δ (σ.set i (some v)) H (ρ.set i (some c)) := by
  refine ⟨by rw [List.length_set, List.length_set]; exact h.1, fun j d e => ?_⟩
  by_cases hj : i = j
  · subst hj
    rw [List.getElem?_set_self hi] at e
    cases e
    exact ⟨v, List.getElem?_set_self (by rw [h.1]; exact hi), hv⟩
  · rw [List.getElem?_set_ne hj] at e ⊢
    exact h.2 j d e
theorem EnvOk.drop {i : Nat} (h : EnvOk K Δ σ H ρ) : EnvOk K Δ (σ.set i none) H (ρ.set i none) := by
  refine ⟨by rw [List.length_set, List.length_set]; exact h.1, fun j d e => ?_⟩
  by_cases hj : i = j
  · subst hj
    by_cases hi : i < ρ.length
    · rw [List.getElem?_set_self hi] at e
      cases e
    · rw [List.getElem?_eq_none (by rw [List.length_set]; omega)] at e
      cases e
  · rw [List.getElem?_set_ne hj] at e ⊢
    exact h.2 j d e
def wipeE (ρ : Env) : List Nat → Env
  | [] => ρ
  | v :: vs => (wipeE ρ vs).set v none
theorem EnvOk.wipe (h : EnvOk K Δ σ H ρ) : ∀ vs : List Nat, EnvOk K Δ (L2.wipe σ vs) H (wipeE ρ vs)
  | [] => h
  | v :: vs => (EnvOk.wipe h vs).drop
end

/-! ### expressions -/
/-- the datum is just this -/
def Is {α : Type u1} (a : α) : α → Prop := fun x => x = a
def Ev (K : PySem.W.Frag) (Γ : Own) (te : TE) (ρ : Env) {α : Type} [Rp α] (P : α → Prop) : Prop :=
  ∀ (Δ : Gh) (σ : L2.St) (H : Hp) (Q : VK), Sat Γ Δ → Hold Δ H → EnvOk K Δ σ H ρ → (∀ v H' a, P a → Ext Δ H H' → Rp.rp K Δ H' v a → Q v H') → te σ H Q
def EvT (K : PySem.W.Frag) (Γ : Own) (t : TT) (ρ : Env) (P : Bool → Prop) : Prop :=
  ∀ (Δ : Gh) (σ : L2.St) (H : Hp) (Q : Bool → Hp → Prop), Sat Γ Δ → Hold Δ H → EnvOk K Δ σ H ρ → (∀ b H', P b → Ext Δ H H' → Q b H') → t σ H Q
def ArgsOk (K : PySem.W.Frag) (Δ : Gh) (H : Hp) : List V → List Cell → Prop := All2 fun (v : V) (c : Cell) => c.rp K Δ H v
def EvA (K : PySem.W.Frag) (Γ : Own) (t : TA) (ρ : Env) (P : List Cell → Prop) : Prop :=
  ∀ (Δ : Gh) (σ : L2.St) (H : Hp) (Q : List V → Hp → Prop), Sat Γ Δ → Hold Δ H → EnvOk K Δ σ H ρ → (∀ vs H' cs, P cs → Ext Δ H H' → ArgsOk K Δ H' vs cs → Q vs H') → t σ H Q
section
variable {K : PySem.W.Frag} {Γ : Own} {ρ : Env} {ta tb tc te : TE} {t u : TT} {α β γ : Type} [Rp α] [Rp β] [Rp γ] {Pa : α → Prop} {Pb : β → Prop} {Pc : γ → Prop}
theorem Ev.imp {P P' : α → Prop} (h : Ev K Γ te ρ P) (q : ∀ a, P a → P' a) : Ev K Γ te ρ P' := fun Δ σ H Q s hh e k => h Δ σ H Q s hh e fun v H' a p => k v H' a (q a p)
theorem EvT.imp {P P' : Bool → Prop} (h : EvT K Γ t ρ P) (q : ∀ a, P a → P' a) : EvT K Γ t ρ P' := fun Δ σ H Q s hh e k => h Δ σ H Q s hh e fun b H' p => k b H' (q b p)
theorem ev_is {a b : α} (h : Ev K Γ te ρ (Is a)) (e : a = b) : Ev K Γ te ρ (Is b) := e ▸ h
theorem et_is {a b : Bool} (h : EvT K Γ t ρ (Is a)) (e : a = b) : EvT K Γ t ρ (Is b) := e ▸ h
theorem ev_var {i : Nat} {a : α} (h : ρ[i]? = some (some ⟨a⟩) := by rfl) : Ev K Γ (tVar i) ρ (Is a) := fun Δ σ H Q s hh e k => by
  obtain ⟨v, h1, h2⟩ := e.2 i _ h
  exact ⟨v, h1, k v H a rfl (Ext.refl hh) h2⟩
theorem ev_int {i : Int} : Ev K Γ (tC (.int i)) ρ (Is i) := fun Δ σ H Q s hh e k => k _ H i rfl (Ext.refl hh) rfl
theorem ev_bl {b : Bool} : Ev K Γ (tC (.bl b)) ρ (Is b) := fun Δ σ H Q s hh e k => k _ H b rfl (Ext.refl hh) rfl
theorem ev_non : Ev K Γ (tC .non) ρ (Is ()) := fun Δ σ H Q s hh e k => k _ H () rfl (Ext.refl hh) rfl
theorem ev_str {x : Str} : Ev K Γ (tC (.str x)) ρ (Is (⟨x.cps.toList⟩ : Tx)) := fun Δ σ H Q s hh e k => k _ H _ rfl (Ext.refl hh) rfl
/-- a two-place operation on data -/
def Op2 (K : PySem.W.Frag) (r : R2) (x : α) (y : β) (P : γ → Prop) : Prop :=
  ∀ (Δ : Gh) (H : Hp) (v w : V) (Q : VK), Hold Δ H → Rp.rp K Δ H v x → Rp.rp K Δ H w y → (∀ u H' c, P c → Ext Δ H H' → Rp.rp K Δ H' u c → Q u H') → r v w H Q
theorem ev_op {r : R2} (ha : Ev K Γ ta ρ Pa) (hb : Ev K Γ tb ρ Pb) (hr : ∀ x y, Pa x → Pb y → Op2 K r x y Pc) : Ev K Γ (tOp r ta tb) ρ Pc := fun Δ σ H Q s hh e k =>
  ha Δ σ H _ s hh e fun v H1 x px e1 r1 => hb Δ σ H1 _ s e1.2 (e.mono e1.1) fun w H2 y py e2 r2 =>
    hr x y px py Δ H2 v w Q e2.2 (Rp.mono e2.1 r1) r2 fun z H3 c pc e3 r3 => k z H3 c pc (e1.trans (e2.trans e3)) r3
theorem ev_op1 {r : R2} {x : α} {y : β} (ha : Ev K Γ ta ρ (Is x)) (hb : Ev K Γ tb ρ (Is y)) (hr : Op2 K r x y Pc) : Ev K Γ (tOp r ta tb) ρ Pc :=
  ev_op ha hb fun x' y' e1 e2 => by rw [show x' = x from e1, show y' = y from e2]; exact hr
theorem o2_I0 {g : Int → Int → Int} {x y : Int} : Op2 K (rI0 fun i j => .int (g i j)) x y (Is (g x y)) := fun Δ H v w Q hh r1 r2 k => ⟨x, y, r1, r2, k _ H _ rfl (Ext.refl hh) rfl⟩
theorem o2_B0 {g : Int → Int → Bool} {x y : Int} : Op2 K (rI0 fun i j => .bl (g i j)) x y (Is (g x y)) := fun Δ H v w Q hh r1 r2 k => ⟨x, y, r1, r2, k _ H _ rfl (Ext.refl hh) rfl⟩
theorem o2_I {C : Int → Int → Prop} {g : Int → Int → Int} {x y : Int} (c : C x y) : Op2 K (rI C fun i j => .int (g i j)) x y (Is (g x y)) := fun Δ H v w Q hh r1 r2 k => ⟨x, y, r1, r2, c, k _ H _ rfl (Ext.refl hh) rfl⟩
theorem dec_tx {x y : Tx} : decide (V.str ⟨x.s.toArray⟩ = V.str ⟨y.s.toArray⟩) = decide (x = y) := by
  rw [decide_eq_decide]
  constructor
  · intro h
    injection h with h
    injection h with h
    have h2 := congrArg Array.toList h
    cases x
    cases y
    simpa using h2
  · intro h
    rw [h]
theorem o2_eqS {x y : Tx} : Op2 K rEq x y (Is (decide (x = y))) := fun Δ H v w Q hh r1 r2 k => by
  have e1 : v = .str ⟨x.s.toArray⟩ := r1
  have e2 : w = .str ⟨y.s.toArray⟩ := r2
  subst e1 e2
  exact ⟨rfl, k _ H _ rfl (Ext.refl hh) (congrArg V.bl dec_tx)⟩
theorem o2_neS {x y : Tx} : Op2 K rNe x y (Is (!decide (x = y))) := fun Δ H v w Q hh r1 r2 k => by
  have e1 : v = .str ⟨x.s.toArray⟩ := r1
  have e2 : w = .str ⟨y.s.toArray⟩ := r2
  subst e1 e2
  exact ⟨rfl, k _ H _ rfl (Ext.refl hh) (congrArg (fun b => V.bl (!b)) dec_tx)⟩
theorem o2_eqI {x y : Int} : Op2 K rEq x y (Is (decide (x = y))) := fun Δ H v w Q hh r1 r2 k => by
  have e1 : v = .int x := r1
  have e2 : w = .int y := r2
  subst e1 e2
  refine ⟨rfl, k _ H _ rfl (Ext.refl hh) (congrArg V.bl ?_)⟩
  rw [decide_eq_decide]
  exact ⟨fun h => V.int.inj h, fun h => by rw [h]⟩
theorem o2_neI {x y : Int} : Op2 K rNe x y (Is (!decide (x = y))) := fun Δ H v w Q hh r1 r2 k => by
  have e1 : v = .int x := r1
  have e2 : w = .int y := r2
  subst e1 e2
  refine ⟨rfl, k _ H _ rfl (Ext.refl hh) (congrArg (fun b => V.bl (!b)) ?_)⟩
  rw [decide_eq_decide]
  exact ⟨fun h => V.int.inj h, fun h => by rw [h]⟩
theorem o2_eqB {x y : Bool} : Op2 K rEq x y (Is (decide (x = y))) := fun Δ H v w Q hh r1 r2 k => by
  have e1 : v = .bl x := r1
  have e2 : w = .bl y := r2
  subst e1 e2
  refine ⟨rfl, k _ H _ rfl (Ext.refl hh) (congrArg V.bl ?_)⟩
  rw [decide_eq_decide]
  exact ⟨fun h => V.bl.inj h, fun h => by rw [h]⟩
theorem o2_neB {x y : Bool} : Op2 K rNe x y (Is (!decide (x = y))) := fun Δ H v w Q hh r1 r2 k => by
  have e1 : v = .bl x := r1
  have e2 : w = .bl y := r2
  subst e1 e2
  refine ⟨rfl, k _ H _ rfl (Ext.refl hh) (congrArg (fun b => V.bl (!b)) ?_)⟩
  rw [decide_eq_decide]
  exact ⟨fun h => V.bl.inj h, fun h => by rw [h]⟩
theorem cp_at {x : Tx} {i : Nat} {c : Nat} (h : x.s[i]? = some c) : atI (⟨x.s.toArray⟩ : Str).cps.toList (i : Int) = some c := atI_nat (by simpa using h)
/-- row[i] -/
theorem o2_ixS {x : Tx} {i : Nat} {c : Nat} (hz : x.s.length ≤ 100000) (h : x.s[i]? = some c) : Op2 K rIxS x (i : Int) (Is (⟨[c]⟩ : Tx)) := fun Δ H v w Q hh r1 r2 k => by
  have e1 : v = .str ⟨x.s.toArray⟩ := r1
  have e2 : w = .int i := r2
  subst e1 e2
  refine ⟨_, _, c, rfl, rfl, ?_, cp_at h, k _ H _ rfl (Ext.refl hh) rfl⟩
  show x.s.toArray.size ≤ sizeLine
  rw [List.size_toArray]
  exact Nat.le_trans hz (by decide)
theorem o2_ixL {xs : List α} {i : Nat} {a : α} (h : xs[i]? = some a) : Op2 K (rIxL K) xs (i : Int) (Is a) := fun Δ H v w Q hh r1 r2 k => by
  obtain ⟨p, vs, rfl, n, s, q⟩ := r1
  have e2 : w = .int i := r2
  subst e2
  obtain ⟨u, hu, ru⟩ := q.get h
  exact ⟨p, vs, i, u, rfl, rfl, s, atI_nat hu, k u H a rfl (Ext.refl hh) ru⟩
theorem o2_ixT {xs : Tup α} {i : Nat} {a : α} (h : xs.l[i]? = some a) : Op2 K (rIxT K) xs (i : Int) (Is a) := fun Δ H v w Q hh r1 r2 k => by
  obtain ⟨p, vs, rfl, n, s, q⟩ := r1
  have e2 : w = .int i := r2
  subst e2
  obtain ⟨u, hu, ru⟩ := q.get h
  exact ⟨p, vs, i, u, rfl, rfl, s, atI_nat hu, k u H a rfl (Ext.refl hh) ru⟩
theorem o2_ixP0 {x : α × β} : Op2 K (rIxT K) x (0 : Int) (Is x.1) := fun Δ H v w Q hh r1 r2 k => by
  obtain ⟨p, a, b, rfl, n, s, q, q2⟩ := r1
  have e2 : w = .int 0 := r2
  subst e2
  exact ⟨p, _, _, a, rfl, rfl, s, atI_nat (j := 0) rfl, k a H _ rfl (Ext.refl hh) q⟩
theorem o2_ixP1 {x : α × β} : Op2 K (rIxT K) x (1 : Int) (Is x.2) := fun Δ H v w Q hh r1 r2 k => by
  obtain ⟨p, a, b, rfl, n, s, q, q2⟩ := r1
  have e2 : w = .int 1 := r2
  subst e2
  exact ⟨p, _, _, b, rfl, rfl, s, atI_nat (j := 1) rfl, k b H _ rfl (Ext.refl hh) q2⟩
theorem all2_int {Δ : Gh} {H : Hp} : ∀ {vs : List V} {xs : List Int}, All2 (fun u a => Rp.rp K Δ H u a) vs xs → vs = xs.map V.int
  | [], [], _ => rfl
  | [], _ :: _, q => q.elim
  | _ :: _, [], q => q.elim
  | v :: vs, x :: xs, q => by
    have e : v = .int x := q.1
    rw [List.map_cons, e, all2_int q.2]
theorem all2_bl {Δ : Gh} {H : Hp} : ∀ {vs : List V} {xs : List Bool}, All2 (fun u a => Rp.rp K Δ H u a) vs xs → vs = xs.map V.bl
  | [], [], _ => rfl
  | [], _ :: _, q => q.elim
  | _ :: _, [], q => q.elim
  | v :: vs, x :: xs, q => by
    have e : v = .bl x := q.1
    rw [List.map_cons, e, all2_bl q.2]
theorem all2_tx {Δ : Gh} {H : Hp} : ∀ {vs : List V} {xs : List Tx}, All2 (fun u a => Rp.rp K Δ H u a) vs xs → vs = (xs.map fun x => (⟨x.s.toArray⟩ : Str)).map V.str
  | [], [], _ => rfl
  | [], _ :: _, q => q.elim
  | _ :: _, [], q => q.elim
  | v :: vs, x :: xs, q => by
    have e : v = .str ⟨x.s.toArray⟩ := q.1
    rw [List.map_cons, List.map_cons, e, all2_tx q.2]
theorem inV_int {i : Int} : ∀ {xs : List Int}, inV (.int i) (xs.map V.int) = decide (i ∈ xs)
  | [] => rfl
  | x :: xs => by
    have ih := inV_int (i := i) (xs := xs)
    unfold inV at ih ⊢
    rw [List.map_cons, List.any_cons, ih]
    by_cases h : i = x
    · subst h
      simp [eqV]
    · have h' : ¬ x = i := fun z => h z.symm
      simp [eqV, h, h']
theorem flat_int : ∀ {xs : List Int}, (xs.map V.int).all flatV = true
  | [] => rfl
  | _ :: xs => by
    rw [List.map_cons, List.all_cons, flat_int]
    rfl
/-- i in t -/
theorem o2_inT {i : Int} {xs : Tup Int} : Op2 K (rIn K false) i xs (Is (decide (i ∈ xs.l))) := fun Δ H v w Q hh r1 r2 k => by
  have e1 : v = .int i := r1
  obtain ⟨p, vs, rfl, n, s, q⟩ := r2
  subst e1
  have ev := all2_int q
  subst ev
  exact ⟨p, _, rfl, .inr s, rfl, flat_int, k _ H _ rfl (Ext.refl hh) (by show V.bl _ = V.bl _; rw [if_neg Bool.false_ne_true, inV_int])⟩
/-! tests -/
theorem et_test {Pb : Bool → Prop} (h : Ev K Γ te ρ Pb) : EvT K Γ (tTest te) ρ Pb := fun Δ σ H Q s hh e k => h Δ σ H _ s hh e fun v H' b pb e1 r1 => ⟨b, r1, k b H' pb e1⟩
theorem et_B {Pb : Bool → Prop} (h : Ev K Γ te ρ Pb) : EvT K Γ (tB te) ρ Pb := fun Δ σ H Q s hh e k => h Δ σ H _ s hh e fun v H' b pb e1 r1 => ⟨b, r1, k b H' pb e1⟩
theorem et_not {a : Bool} (h : EvT K Γ t ρ (Is a)) : EvT K Γ (tNot t) ρ (Is (!a)) := fun Δ σ H Q s hh e k => h Δ σ H _ s hh e fun b H' pb e1 => k _ H' (by rw [show b = a from pb]; rfl) e1
theorem et_and {a b : Bool} (h1 : EvT K Γ t ρ (Is a)) (h2 : a = true → EvT K Γ u ρ (Is b)) : EvT K Γ (tAnd t u) ρ (Is (a && b)) := fun Δ σ H Q s hh e k => h1 Δ σ H _ s hh e fun c H' pc e1 => by
  have ec : c = a := pc
  subst ec
  cases c with
  | true => exact iteT (h2 rfl Δ σ H' Q s e1.2 (e.mono e1.1) fun d H2 pd e2 => k d H2 pd (e1.trans e2))
  | false => exact iteF (k false H' rfl e1)
theorem et_or {a b : Bool} (h1 : EvT K Γ t ρ (Is a)) (h2 : a = false → EvT K Γ u ρ (Is b)) : EvT K Γ (tOr t u) ρ (Is (a || b)) := fun Δ σ H Q s hh e k => h1 Δ σ H _ s hh e fun c H' pc e1 => by
  have ec : c = a := pc
  subst ec
  cases c with
  | true => exact iteT (k true H' rfl e1)
  | false => exact iteF (h2 rfl Δ σ H' Q s e1.2 (e.mono e1.1) fun d H2 pd e2 => k d H2 pd (e1.trans e2))
theorem ev_andV {a b : Bool} (h1 : Ev K Γ ta ρ (Is a)) (h2 : a = true → Ev K Γ tb ρ (Is b)) : Ev K Γ (tAndV ta tb) ρ (Is (a && b)) := fun Δ σ H Q s hh e k => h1 Δ σ H _ s hh e fun v H' c pc e1 r1 => by
  have ec : c = a := pc
  subst ec
  refine ⟨c, r1, ?_⟩
  cases c with
  | true => exact iteT (h2 rfl Δ σ H' Q s e1.2 (e.mono e1.1) fun d H2 x pd e2 r2 => k d H2 x pd (e1.trans e2) r2)
  | false => exact iteF (k _ H' false rfl e1 rfl)
theorem ev_orV {a b : Bool} (h1 : Ev K Γ ta ρ (Is a)) (h2 : a = false → Ev K Γ tb ρ (Is b)) : Ev K Γ (tOrV ta tb) ρ (Is (a || b)) := fun Δ σ H Q s hh e k => h1 Δ σ H _ s hh e fun v H' c pc e1 r1 => by
  have ec : c = a := pc
  subst ec
  refine ⟨c, r1, ?_⟩
  cases c with
  | true => exact iteT (k _ H' true rfl e1 rfl)
  | false => exact iteF (h2 rfl Δ σ H' Q s e1.2 (e.mono e1.1) fun d H2 x pd e2 r2 => k d H2 x pd (e1.trans e2) r2)
theorem ev_notV {a : Bool} (h1 : Ev K Γ ta ρ (Is a)) : Ev K Γ (tNotV ta) ρ (Is (!a)) := fun Δ σ H Q s hh e k => h1 Δ σ H _ s hh e fun v H' c pc e1 r1 => ⟨c, r1, k _ H' (!c) (by rw [show c = a from pc]; rfl) e1 rfl⟩
theorem ev_if {b : Bool} (h : EvT K Γ t ρ (Is b)) (h1 : b = true → Ev K Γ ta ρ Pa) (h2 : b = false → Ev K Γ tb ρ Pa) : Ev K Γ (tIf t ta tb) ρ Pa := fun Δ σ H Q s hh e k => h Δ σ H _ s hh e fun c H' pc e1 => by
  have ec : c = b := pc
  subst ec
  cases c with
  | true => exact iteT (h1 rfl Δ σ H' Q s e1.2 (e.mono e1.1) fun d H2 x pd e2 r2 => k d H2 x pd (e1.trans e2) r2)
  | false => exact iteF (h2 rfl Δ σ H' Q s e1.2 (e.mono e1.1) fun d H2 x pd e2 r2 => k d H2 x pd (e1.trans e2) r2)
/-- a < b < c -/
theorem ev_chain {r r' : R2} {a b : Bool} {x : α} {y : β} {z : γ} (ha : Ev K Γ ta ρ (Is x)) (hb : Ev K Γ tb ρ (Is y)) (hc : Ev K Γ tc ρ (Is z)) (h1 : Op2 K r x y (Is a)) (h2 : Op2 K r' y z (Is b)) : Ev K Γ (tChain r r' ta tb tc) ρ (Is (a && b)) := fun Δ σ H Q s hh e k =>
  ha Δ σ H _ s hh e fun v H1 x' px e1 r1 => hb Δ σ H1 _ s e1.2 (e.mono e1.1) fun w H2 y' py e2 r2 => by
    have ex : x' = x := px
    have ey : y' = y := py
    subst ex ey
    refine h1 Δ H2 v w _ e2.2 (Rp.mono e2.1 r1) r2 fun u H3 c pc e3 r3 => ?_
    have ec : c = a := pc
    subst ec
    refine ⟨c, r3, ?_⟩
    cases c with
    | true =>
      refine iteT (hc Δ σ H3 _ s e3.2 (e.mono (e1.trans (e2.trans e3)).1) fun q H4 z' pz e4 r4 => ?_)
      have ez : z' = z := pz
      subst ez
      exact h2 Δ H4 w q Q e4.2 (Rp.mono (e3.trans e4).1 r2) r4 fun d H5 x5 p5 e5 r5 => k d H5 x5 p5 (e1.trans (e2.trans (e3.trans (e4.trans e5)))) r5
    | false => exact iteF (k _ H3 false rfl (e1.trans (e2.trans e3)) rfl)
/-! arguments, displays -/
theorem ea_nil : EvA K Γ tNil ρ (Is ([] : List Cell)) := fun Δ σ H Q s hh e k => k [] H [] rfl (Ext.refl hh) trivial
theorem ea_cons {tr : TA} {Ps : List Cell → Prop} {P : List Cell → Prop} (h : Ev K Γ ta ρ Pa) (hr : EvA K Γ tr ρ Ps) (hp : ∀ a cs, Pa a → Ps cs → P (⟨a⟩ :: cs)) : EvA K Γ (tCons ta tr) ρ P := fun Δ σ H Q s hh e k =>
  h Δ σ H _ s hh e fun v H1 a pa e1 r1 => hr Δ σ H1 _ s e1.2 (e.mono e1.1) fun vs H2 cs pcs e2 r2 => k (v :: vs) H2 (⟨a⟩ :: cs) (hp a cs pa pcs) (e1.trans e2) ⟨Rp.mono e2.1 r1, r2⟩
theorem ea_1 {tr : TA} {a : α} {cs : List Cell} (h : Ev K Γ ta ρ (Is a)) (hr : EvA K Γ tr ρ (Is cs)) : EvA K Γ (tCons ta tr) ρ (Is (⟨a⟩ :: cs)) := ea_cons h hr fun a' cs' e1 e2 => by
  show _ = _
  rw [show a' = a from e1, show cs' = cs from e2]
end
end Z

set_option Elab.async false
set_option linter.all false
set_option maxRecDepth 100000
set_option maxHeartbeats 1000000
namespace Z
open PySem PySem.Spec PyProof.Rows L2
universe v1 v2
section
variable {K : PySem.W.Frag} {Γ : Own} {ρ : Env} {ta tb tc te : TE} {t u : TT} {α β γ : Type} [Rp α] [Rp β] [Rp γ] {Pa : α → Prop} {Pb : β → Prop} {Pc : γ → Prop}
/-! ### displays, calls -/
theorem All2.of_map {α : Type v1} {β : Type v2} {γ : Type} {R : α → β → Prop} {f : γ → β} : ∀ {xs : List α} {ys : List γ}, All2 R xs (ys.map f) → All2 (fun x y => R x (f y)) xs ys
  | [], [], _ => trivial
  | [], _ :: _, q => q.elim
  | _ :: _, [], q => q.elim
  | _ :: xs, _ :: ys, q => ⟨q.1, All2.of_map (xs := xs) (ys := ys) q.2⟩
theorem new_lst {Δ : Gh} {H : Hp} {p : Addr} {vs : List V} {xs : List α} (hh : Hold Δ H) (hp : H p = none) (q : All2 (fun u a => Rp.rp K Δ H u a) vs xs) : Rp.rp K Δ (upd H p (.lst vs)) (.ref p) xs :=
  ⟨p, vs, rfl, .inl ⟨hh.fresh hp, .inl upd_same⟩, .inl (.inl upd_same), q.imp fun _ _ => Rp.mono (Ext.new hh hp _).1⟩
theorem new_tup {Δ : Gh} {H : Hp} {p : Addr} {vs : List V} {xs : List α} (hh : Hold Δ H) (hp : H p = none) (q : All2 (fun u a => Rp.rp K Δ H u a) vs xs) : Rp.rp K Δ (upd H p (.tup vs)) (.ref p) (⟨xs⟩ : Tup α) :=
  ⟨p, vs, rfl, .inl ⟨hh.fresh hp, .inl upd_same⟩, .inl (.inl upd_same), q.imp fun _ _ => Rp.mono (Ext.new hh hp _).1⟩
theorem ev_lst {ta : TA} {xs : List α} (h : EvA K Γ ta ρ (Is (xs.map fun a => ⟨a⟩))) (hz : xs.length ≤ 100000) : Ev K Γ (tLst ta) ρ (Is xs) := fun Δ σ H Q s hh e k => h Δ σ H _ s hh e fun vs H' cs pcs e1 r => by
  have ec : cs = xs.map fun a => ⟨a⟩ := pcs
  subst ec
  have r' := All2.of_map r
  exact ⟨Nat.le_trans (Nat.le_of_eq r'.len) (Nat.le_trans hz (by decide)), fun p hp => k _ _ xs rfl (e1.trans (Ext.new e1.2 hp _)) (new_lst e1.2 hp r')⟩
theorem ev_tupN {ta : TA} {xs : List α} (h : EvA K Γ ta ρ (Is (xs.map fun a => ⟨a⟩))) (hz : xs.length ≤ 100000) : Ev K Γ (tTup ta) ρ (Is (⟨xs⟩ : Tup α)) := fun Δ σ H Q s hh e k => h Δ σ H _ s hh e fun vs H' cs pcs e1 r => by
  have ec : cs = xs.map fun a => ⟨a⟩ := pcs
  subst ec
  have r' := All2.of_map r
  exact ⟨Nat.le_trans (Nat.le_of_eq r'.len) (Nat.le_trans hz (by decide)), fun p hp => k _ _ ⟨xs⟩ rfl (e1.trans (Ext.new e1.2 hp _)) (new_tup e1.2 hp r')⟩
theorem ev_tup2 {ta : TA} {x : α} {y : β} (h : EvA K Γ ta ρ (Is [⟨x⟩, ⟨y⟩])) : Ev K Γ (tTup ta) ρ (Is (x, y)) := fun Δ σ H Q s hh e k => h Δ σ H _ s hh e fun vs H' cs pcs e1 r => by
  have ec : cs = [⟨x⟩, ⟨y⟩] := pcs
  subst ec
  match vs, r with
  | [v, w], r => exact ⟨by show 2 ≤ sizeLine; decide, fun p hp => k _ _ (x, y) rfl (e1.trans (Ext.new e1.2 hp _)) ⟨p, v, w, rfl, .inl ⟨e1.2.fresh hp, .inl upd_same⟩, .inl (.inl upd_same), Rp.mono (Ext.new e1.2 hp _).1 r.1, Rp.mono (Ext.new e1.2 hp _).1 r.2.1⟩⟩
/-- what a def promises: of the owned cells and the arguments' data, some datum with P -/
def spD (K : PySem.W.Frag) {β : Type} [Rp β] (F : Own → List Cell → (β → Prop) → Prop) : Sp := fun vs H Q _ => ∃ (Γ : Own) (Δ : Gh) (cs : List Cell) (P : β → Prop), F Γ cs P ∧ Sat Γ Δ ∧ Hold Δ H ∧ ArgsOk K Δ H vs cs ∧
  ∀ (v : V) (H' : Hp) (b : β), P b → Ext Δ H H' → Rp.rp K Δ H' v b → Q v H'
theorem All2.app {α : Type v1} {β : Type v2} {R : α → β → Prop} : ∀ {xs : List α} {ys : List β} {xs' : List α} {ys' : List β}, All2 R xs ys → All2 R xs' ys' → All2 R (xs ++ xs') (ys ++ ys')
  | [], [], _, _, _, h => h
  | [], _ :: _, _, _, q, _ => q.elim
  | _ :: _, [], _, _, q, _ => q.elim
  | _ :: _, _ :: _, _, _, q, h => ⟨q.1, All2.app q.2 h⟩
theorem ev_call {F : Own → List Cell → (β → Prop) → Prop} {E : XK} {ta : TA} {Pcs : List Cell → Prop} (ha : EvA K Γ ta ρ Pcs) (hf : ∀ cs, Pcs cs → F Γ cs Pb) : Ev K Γ (tCall (spD K F) [] E ta) ρ Pb := fun Δ σ H Q s hh e k =>
  ha Δ σ H _ s hh e fun vs H' cs pcs e1 r => ⟨Γ, Δ, cs, Pb, hf cs pcs, s, e1.2, by rw [List.append_nil]; exact r, fun v H2 b pb e2 r2 => k v H2 b pb (e1.trans e2) r2⟩
theorem ev_callD {F : Own → List Cell → (β → Prop) → Prop} {E : XK} {ta : TA} {Pcs : List Cell → Prop} {dvs : List V} {dcs : List Cell} (hd : ∀ Δ H, ArgsOk K Δ H dvs dcs) (ha : EvA K Γ ta ρ Pcs) (hf : ∀ cs, Pcs cs → F Γ (cs ++ dcs) Pb) : Ev K Γ (tCall (spD K F) dvs E ta) ρ Pb := fun Δ σ H Q s hh e k =>
  ha Δ σ H _ s hh e fun vs H' cs pcs e1 r => ⟨Γ, Δ, cs ++ dcs, Pb, hf cs pcs, s, e1.2, All2.app r (hd Δ H'), fun v H2 b pb e2 r2 => k v H2 b pb (e1.trans e2) r2⟩
theorem ev_call1 {F : Own → List Cell → (β → Prop) → Prop} {E : XK} {ta : TA} {cs : List Cell} (ha : EvA K Γ ta ρ (Is cs)) (hf : F Γ cs Pb) : Ev K Γ (tCall (spD K F) [] E ta) ρ Pb := ev_call ha fun cs' e => by rw [show cs' = cs from e]; exact hf
/-- a built-in's call, by its data -/
def Op1 (K : PySem.W.Frag) (r : List V → Hp → VK → Prop) (x : α) (P : γ → Prop) : Prop :=
  ∀ (Δ : Gh) (H : Hp) (v : V) (Q : VK), Hold Δ H → Rp.rp K Δ H v x → (∀ u H' c, P c → Ext Δ H H' → Rp.rp K Δ H' u c → Q u H') → r [v] H Q
theorem ev_cb1 {r : List V → Hp → VK → Prop} (ha : Ev K Γ ta ρ Pa) (hr : ∀ x, Pa x → Op1 K r x Pc) : Ev K Γ (tCB r (tCons ta tNil)) ρ Pc := fun Δ σ H Q s hh e k =>
  ha Δ σ H _ s hh e fun v H1 x px e1 r1 => hr x px Δ H1 v Q e1.2 r1 fun u H2 c pc e2 r2 => k u H2 c pc (e1.trans e2) r2
theorem ev_cb {r : List V → Hp → VK → Prop} {x : α} (ha : Ev K Γ ta ρ (Is x)) (hr : Op1 K r x Pc) : Ev K Γ (tCB r (tCons ta tNil)) ρ Pc := ev_cb1 ha fun x' e => by rw [show x' = x from e]; exact hr
theorem o1_lenS {x : Tx} (hz : x.s.length ≤ 100000) : Op1 K (fun xs H Q => ∃ x n, xs = [x] ∧ LenV K x H n ∧ Q (.int n) H) x (Is (x.s.length : Int)) := fun Δ H v Q hh r k => by
  have e : v = .str ⟨x.s.toArray⟩ := r
  subst e
  refine ⟨_, x.s.length, rfl, ⟨?_, ?_⟩, k _ H _ rfl (Ext.refl hh) rfl⟩
  · show x.s.toArray.size ≤ sizeLine
    rw [List.size_toArray]
    exact Nat.le_trans hz (by decide)
  · show x.s.length = x.s.toArray.size
    rw [List.size_toArray]
theorem o1_lenL {xs : List α} : Op1 K (fun xs H Q => ∃ x n, xs = [x] ∧ LenV K x H n ∧ Q (.int n) H) xs (Is (xs.length : Int)) := fun Δ H v Q hh r k => by
  obtain ⟨p, vs, rfl, n, s, q⟩ := r
  exact ⟨_, xs.length, rfl, .inl ⟨vs, s, q.len.symm⟩, k _ H _ rfl (Ext.refl hh) rfl⟩
theorem o1_lenT {xs : Tup α} : Op1 K (fun xs H Q => ∃ x n, xs = [x] ∧ LenV K x H n ∧ Q (.int n) H) xs (Is (xs.l.length : Int)) := fun Δ H v Q hh r k => by
  obtain ⟨p, vs, rfl, n, s, q⟩ := r
  exact ⟨_, xs.l.length, rfl, .inr ⟨vs, s, q.len.symm⟩, k _ H _ rfl (Ext.refl hh) rfl⟩
theorem o1_all {bs : List Bool} : Op1 K (rAll K) bs (Is (bs.all id)) := fun Δ H v Q hh r k => by
  obtain ⟨p, vs, rfl, n, s, q⟩ := r
  have e := all2_bl q
  subst e
  exact ⟨p, bs, rfl, s, k _ H _ rfl (Ext.refl hh) rfl⟩

/-! ### what is walked -/
/-- wi, walked with the target g, has n turns; turn i makes st i of the names (the slots js alone) -/
def Src (K : PySem.W.Frag) (Γ : Own) (wi : TI) (g : TG) (ρ : Env) (js : List Nat) (n : Nat) (st : Nat → Env → Env) : Prop :=
  ∀ (Δ : Gh) (σ : L2.St) (H : Hp) (R : It → Hp → Prop), Sat Γ Δ → Hold Δ H → EnvOk K Δ σ H ρ →
    (∀ (J : It) (H1 : Hp) (pv : V) (pc : Cell), Ext Δ H H1 → pc.rp K Δ H1 pv →
      (∀ Δ' H2, pc.rp K Δ' H2 pv → (∀ i, i < n → J.go i H2) ∧ J.stop n H2) →
      (∀ Δ' i H2 x H3, i < n → Hold Δ' H2 → pc.rp K Δ' H2 pv → J.yld i H2 x H3 → Ext Δ' H2 H3 ∧ ∀ (σ' : L2.St) (ρ' : Env) (Qs : L2.St → Hp → Prop), ρ'.length = ρ.length → EnvOk K Δ' σ' H3 ρ' →
        (∀ σ2 : L2.St, EnvOk K Δ' σ2 H3 (st i ρ') → σ2.length = σ'.length → (∀ k, k ∉ js → σ2[k]? = σ'[k]?) → Qs σ2 H3) → g x σ' H3 Qs) → R J H1) → wi σ H R
theorem set_off {σ : L2.St} {j : Nat} {v : Option V} {js : List Nat} (h : j ∈ js) : (σ.set j v).length = σ.length ∧ ∀ k, k ∉ js → (σ.set j v)[k]? = σ[k]? :=
  ⟨List.length_set, fun k hk => List.getElem?_set_ne fun e => hk (by rw [← e]; exact h)⟩
theorem src_rng1 {ta : TA} {j : Nat} {n : Nat} (h : EvA K Γ ta ρ (Is [⟨(n : Int)⟩])) (hn : n ≤ 100000) (hj : j < ρ.length) : Src K Γ (iRng1 ta) (gName j) ρ [j] n (fun i ρ => ρ.set j (some ⟨(i : Int)⟩)) := fun Δ σ H R s hh e k =>
  h Δ σ H _ s hh e fun vs H' cs pcs e1 r => by
    have ec : cs = [⟨(n : Int)⟩] := pcs
    subst ec
    match vs, r with
    | [v], r =>
      have ev : v = .int n := r.1
      subst ev
      refine ⟨n, rfl, by omega, by omega, k _ H' .non ⟨()⟩ e1 rfl (fun Δ' H2 _ => ⟨fun i hi => by show i < (n : Int).toNat; omega, by show (n : Int).toNat ≤ n; omega⟩) fun Δ' i H2 x H3 hi h2 _ y => ?_⟩
      obtain ⟨rfl, rfl⟩ := (show H3 = H2 ∧ x = V.int (0 + (i : Int)) from y)
      refine ⟨Ext.refl h2, fun σ' ρ' Qs hl e' q => ?_⟩
      rw [Int.zero_add]
      exact q _ (e'.set (c := ⟨(i : Int)⟩) (by rw [hl]; exact hj) rfl) (set_off (js := [j]) (List.mem_singleton_self j)).1 (set_off (js := [j]) (List.mem_singleton_self j)).2
theorem src_list {tl : TE} {j : Nat} {xs : List α} {x0 : Nat → α} (h : Ev K Γ tl ρ (Is xs)) (hx : ∀ i, i < xs.length → xs[i]? = some (x0 i)) (hj : j < ρ.length) : Src K Γ (iList K tl) (gName j) ρ [j] xs.length (fun i ρ => ρ.set j (some ⟨x0 i⟩)) := fun Δ σ H R s hh e k =>
  h Δ σ H _ s hh e fun v H' a pa e1 r => by
    have ea : a = xs := pa
    subst ea
    obtain ⟨p, vs, rfl, n, sq, q⟩ := id r
    refine ⟨p, rfl, ⟨vs, sq⟩, k _ H' (.ref p) ⟨a⟩ e1 r (fun Δ' H2 r2 => ?_) fun Δ' i H2 x H3 hi h2 r2 y => ?_⟩
    · obtain ⟨p', ws, e', n', sq', q'⟩ := (show Rp.rp K Δ' H2 (.ref p) a from r2)
      cases e'
      have hl := q'.len
      refine ⟨fun i hi => ⟨ws, ws[i], sq', List.getElem?_eq_getElem (by omega)⟩, ws, sq', by omega⟩
    · obtain ⟨p', ws, e', n', sq', q'⟩ := (show Rp.rp K Δ' H2 (.ref p) a from r2)
      cases e'
      obtain ⟨rfl, hy⟩ := (show H3 = H2 ∧ ∀ zs, SqL K H2 p zs → zs[i]? = some x from y)
      obtain ⟨w, hw, rw'⟩ := q'.get (hx i hi)
      have ew : x = w := Option.some.inj ((hy _ sq').symm.trans hw)
      subst ew
      exact ⟨Ext.refl h2, fun σ' ρ' Qs hl e' qq => qq _ (e'.set (c := ⟨x0 i⟩) (by rw [hl]; exact hj) rw') (set_off (js := [j]) (List.mem_singleton_self j)).1 (set_off (js := [j]) (List.mem_singleton_self j)).2⟩
theorem src_tup {tl : TE} {j : Nat} {xs : Tup α} {x0 : Nat → α} (h : Ev K Γ tl ρ (Is xs)) (hx : ∀ i, i < xs.l.length → xs.l[i]? = some (x0 i)) (hj : j < ρ.length) : Src K Γ (iTup K tl) (gName j) ρ [j] xs.l.length (fun i ρ => ρ.set j (some ⟨x0 i⟩)) := fun Δ σ H R s hh e k =>
  h Δ σ H _ s hh e fun v H' a pa e1 r => by
    have ea : a = xs := pa
    subst ea
    obtain ⟨p, vs, rfl, n, sq, q⟩ := id r
    refine ⟨p, rfl, ⟨vs, sq⟩, k _ H' (.ref p) ⟨a⟩ e1 r (fun Δ' H2 r2 => ?_) fun Δ' i H2 x H3 hi h2 r2 y => ?_⟩
    · obtain ⟨p', ws, e', n', sq', q'⟩ := (show Rp.rp K Δ' H2 (.ref p) a from r2)
      cases e'
      have hl := q'.len
      refine ⟨fun i hi => ⟨ws, ws[i], sq', List.getElem?_eq_getElem (by omega)⟩, ws, sq', by omega⟩
    · obtain ⟨p', ws, e', n', sq', q'⟩ := (show Rp.rp K Δ' H2 (.ref p) a from r2)
      cases e'
      obtain ⟨rfl, hy⟩ := (show H3 = H2 ∧ ∀ zs, SqT K H2 p zs → zs[i]? = some x from y)
      obtain ⟨w, hw, rw'⟩ := q'.get (hx i hi)
      have ew : x = w := Option.some.inj ((hy _ sq').symm.trans hw)
      subst ew
      exact ⟨Ext.refl h2, fun σ' ρ' Qs hl e' qq => qq _ (e'.set (c := ⟨x0 i⟩) (by rw [hl]; exact hj) rw') (set_off (js := [j]) (List.mem_singleton_self j)).1 (set_off (js := [j]) (List.mem_singleton_self j)).2⟩
theorem args1 {Δ : Gh} {H : Hp} {vs : List V} {c : Cell} (r : ArgsOk K Δ H vs [c]) : ∃ v, vs = [v] ∧ c.rp K Δ H v := by
  unfold ArgsOk at r
  cases vs with
  | nil => exact r.elim
  | cons v vs =>
    cases vs with
    | nil => exact ⟨v, rfl, r.1⟩
    | cons w ws => exact r.2.elim
/-- two names of a pair that was just made -/
theorem pair_put {Δ' : Gh} {H2 H3 : Hp} {T : Addr} {a b : V} {ca cb : Cell} {ja jb : Nat} {σ' : L2.St} {ρ' : Env} {Qs : L2.St → Hp → Prop} (e3 : H3 = upd H2 T (.tup [a, b])) (ha : ca.rp K Δ' H3 a) (hb : cb.rp K Δ' H3 b) (hja : ja < ρ'.length) (hjb : jb < ρ'.length)
    (e' : EnvOk K Δ' σ' H3 ρ') (q : ∀ σ2 : L2.St, EnvOk K Δ' σ2 H3 ((ρ'.set ja (some ca)).set jb (some cb)) → σ2.length = σ'.length → (∀ k, k ∉ [ja, jb] → σ2[k]? = σ'[k]?) → Qs σ2 H3) :
    gTup K 2 (gCons (gName ja) (gCons (gName jb) gNil)) (.ref T) σ' H3 Qs := by
  refine ⟨T, [a, b], rfl, .inl (.inl (by rw [e3]; exact upd_same)), rfl, a, [b], rfl, b, [], rfl, rfl, ?_⟩
  refine q _ ((e'.set hja ha).set (by rw [List.length_set]; exact hjb) hb) (by rw [List.length_set, List.length_set]) fun k hk => ?_
  have h1 : ja ≠ k := fun z => hk (by simp [z])
  have h2 : jb ≠ k := fun z => hk (by simp [z])
  rw [List.getElem?_set_ne h2, List.getElem?_set_ne h1]
theorem src_enumS {ta : TA} {ja jb : Nat} {x : Tx} {c0 : Nat → Nat} (h : EvA K Γ ta ρ (Is [⟨x⟩])) (hx : ∀ i, i < x.s.length → x.s[i]? = some (c0 i)) (hja : ja < ρ.length) (hjb : jb < ρ.length) :
    Src K Γ (iEnumS ta) (gTup K 2 (gCons (gName ja) (gCons (gName jb) gNil))) ρ [ja, jb] x.s.length (fun i ρ => (ρ.set ja (some ⟨(i : Int)⟩)).set jb (some ⟨(⟨[c0 i]⟩ : Tx)⟩)) := fun Δ σ H R s hh e k =>
  h Δ σ H _ s hh e fun vs H' cs pcs e1 r => by
    have ec : cs = [⟨x⟩] := pcs
    subst ec
    match vs, r with
    | [v], r =>
      have ev : v = .str ⟨x.s.toArray⟩ := r.1
      subst ev
      refine ⟨_, rfl, k _ H' .non ⟨()⟩ e1 rfl (fun Δ' H2 _ => ⟨fun i hi => by show i < x.s.toArray.size; simpa using hi, by show x.s.toArray.size ≤ x.s.length; simp⟩) fun Δ' i H2 y H3 hi h2 _ yy => ?_⟩
      obtain ⟨T, c, rfl, hT, e3, hc⟩ := (show ∃ T c, y = .ref T ∧ H2 T = none ∧ H3 = upd H2 T (.tup [.int (i : Nat), .str ⟨#[c]⟩]) ∧ x.s.toArray[i]? = some c from yy)
      have ec2 : c = c0 i := by
        have q1 : x.s[i]? = some c := by simpa using hc
        exact Option.some.inj (q1.symm.trans (hx i hi))
      subst ec2
      refine ⟨by rw [e3]; exact Ext.new h2 hT _, fun σ' ρ' Qs hl e' q => ?_⟩
      exact pair_put (ca := ⟨(i : Int)⟩) (cb := ⟨(⟨[c0 i]⟩ : Tx)⟩) e3 rfl rfl (by rw [hl]; exact hja) (by rw [hl]; exact hjb) e' q
theorem src_zipS {ta : TA} {ja jb : Nat} {x y : Tx} {c0 d0 : Nat → Nat} (h : EvA K Γ ta ρ (Is [⟨x⟩, ⟨y⟩])) (hl : x.s.length = y.s.length) (hx : ∀ i, i < x.s.length → x.s[i]? = some (c0 i) ∧ y.s[i]? = some (d0 i)) (hja : ja < ρ.length) (hjb : jb < ρ.length) :
    Src K Γ (iZipS ta) (gTup K 2 (gCons (gName ja) (gCons (gName jb) gNil))) ρ [ja, jb] x.s.length (fun i ρ => (ρ.set ja (some ⟨(⟨[c0 i]⟩ : Tx)⟩)).set jb (some ⟨(⟨[d0 i]⟩ : Tx)⟩)) := fun Δ σ H R s hh e k =>
  h Δ σ H _ s hh e fun vs H' cs pcs e1 r => by
    have ec : cs = [⟨x⟩, ⟨y⟩] := pcs
    subst ec
    match vs, r with
    | [v, w], r =>
      have ev : v = .str ⟨x.s.toArray⟩ := r.1
      have ew : w = .str ⟨y.s.toArray⟩ := r.2.1
      subst ev ew
      refine ⟨_, _, rfl, k _ H' .non ⟨()⟩ e1 rfl (fun Δ' H2 _ => ⟨fun i hi => ?_, ?_⟩) fun Δ' i H2 z H3 hi h2 _ yy => ?_⟩
      · show i < min x.s.toArray.size y.s.toArray.size
        rw [List.size_toArray, List.size_toArray]
        omega
      · show min x.s.toArray.size y.s.toArray.size ≤ x.s.length
        rw [List.size_toArray, List.size_toArray]
        omega
      obtain ⟨T, c, d, rfl, hT, e3, hc, hd⟩ := (show ∃ T c d, z = .ref T ∧ H2 T = none ∧ H3 = upd H2 T (.tup [.str ⟨#[c]⟩, .str ⟨#[d]⟩]) ∧ x.s.toArray[i]? = some c ∧ y.s.toArray[i]? = some d from yy)
      have ec2 : c = c0 i := by
        have q1 : x.s[i]? = some c := by simpa using hc
        exact Option.some.inj (q1.symm.trans (hx i hi).1)
      have ed2 : d = d0 i := by
        have q1 : y.s[i]? = some d := by simpa using hd
        exact Option.some.inj (q1.symm.trans (hx i hi).2)
      subst ec2 ed2
      refine ⟨by rw [e3]; exact Ext.new h2 hT _, fun σ' ρ' Qs hl e' q => ?_⟩
      exact pair_put (ca := ⟨(⟨[c0 i]⟩ : Tx)⟩) (cb := ⟨(⟨[d0 i]⟩ : Tx)⟩) e3 rfl rfl (by rw [hl]; exact hja) (by rw [hl]; exact hjb) e' q
theorem src_enumT {ta : TA} {ja jb : Nat} {xs : Tup α} {x0 : Nat → α} (h : EvA K Γ ta ρ (Is [⟨xs⟩])) (hx : ∀ i, i < xs.l.length → xs.l[i]? = some (x0 i)) (hja : ja < ρ.length) (hjb : jb < ρ.length) :
    Src K Γ (iEnumT K ta) (gTup K 2 (gCons (gName ja) (gCons (gName jb) gNil))) ρ [ja, jb] xs.l.length (fun i ρ => (ρ.set ja (some ⟨(i : Int)⟩)).set jb (some ⟨x0 i⟩)) := fun Δ σ H R s hh e k =>
  h Δ σ H _ s hh e fun vs H' cs pcs e1 r => by
    have ec : cs = [⟨xs⟩] := pcs
    subst ec
    obtain ⟨v, rfl, r0⟩ := args1 r
    · have r0 : Rp.rp K Δ H' v xs := r0
      obtain ⟨p, ws, rfl, n, sq, q⟩ := id r0
      refine ⟨p, ws, rfl, sq, k _ H' (.ref p) ⟨xs⟩ e1 r0 (fun Δ' H2 r2 => ?_) fun Δ' i H2 y H3 hi h2 r2 yy => ?_⟩
      · obtain ⟨p', ws, e', n', sq', q'⟩ := (show Rp.rp K Δ' H2 (.ref p) xs from r2)
        cases e'
        have hl := q'.len
        refine ⟨fun i hi => ⟨ws, ws[i], sq', List.getElem?_eq_getElem (by omega)⟩, ws, sq', by omega⟩
      · obtain ⟨p', ws, e', n', sq', q'⟩ := (show Rp.rp K Δ' H2 (.ref p) xs from r2)
        cases e'
        obtain ⟨T, x, rfl, hT, e3, hy⟩ := (show ∃ T x, y = .ref T ∧ H2 T = none ∧ H3 = upd H2 T (.tup [.int (i : Nat), x]) ∧ ∀ zs, SqT K H2 p zs → zs[i]? = some x from yy)
        obtain ⟨w, hw, rw'⟩ := q'.get (hx i hi)
        have ew : x = w := Option.some.inj ((hy _ sq').symm.trans hw)
        subst ew
        refine ⟨by rw [e3]; exact Ext.new h2 hT _, fun σ' ρ' Qs hl e' q => ?_⟩
        have hb : Rp.rp K Δ' H3 x (x0 i) := by
          subst e3
          exact Rp.mono (Ext.new h2 hT _).1 rw'
        exact pair_put (ca := ⟨(i : Int)⟩) (cb := ⟨x0 i⟩) (a := .int (i : Nat)) (b := x) e3 (show V.int (i : Nat) = V.int (i : Int) from rfl) hb (by rw [hl]; exact hja) (by rw [hl]; exact hjb) e' q
end
end Z

set_option Elab.async false
set_option linter.all false
set_option maxRecDepth 100000
set_option maxHeartbeats 1000000
namespace Z
open PySem PySem.Spec PyProof.Rows L2
section
variable {K : PySem.W.Frag} {Γ : Own} {ρ : Env} {ta tb tc te : TE} {t u : TT} {α β γ : Type} [Rp α] [Rp β] [Rp γ] {Pa : α → Prop} {Pb : β → Prop} {Pc : γ → Prop}
/-! ### comprehensions -/
theorem wipe_get (σ : L2.St) (k : Nat) : ∀ vs : List Nat, (wipe σ vs)[k]? = if k ∈ vs then (if k < σ.length then some none else none) else σ[k]?
  | [] => by simp [wipe]
  | v :: vs => by
    have ih := wipe_get σ k vs
    show ((wipe σ vs).set v none)[k]? = _
    by_cases h : v = k
    · subst h
      rw [List.getElem?_set]
      simp [wipe_length]
    · rw [List.getElem?_set_ne h, ih]
      have h' : ¬ k = v := fun z => h z.symm
      simp [h']
theorem wipe_off {σ σ2 : L2.St} {vs js : List Nat} (hl : σ2.length = σ.length) (hjs : ∀ j ∈ js, j ∈ vs) (h : ∀ k, k ∉ js → σ2[k]? = (wipe σ vs)[k]?) : wipe σ2 vs = wipe σ vs := by
  apply List.ext_getElem?
  intro k
  rw [wipe_get, wipe_get]
  by_cases hk : k ∈ vs
  · rw [if_pos hk, if_pos hk, hl]
  · rw [if_neg hk, if_neg hk, h k (fun z => hk (hjs k z)), wipe_get, if_neg hk]
def ghD (Δ : Gh) (D : Addr) (vs : List V) : Gh := fun a => if a = D then some (fun o => o = .lst vs) else Δ a
theorem ghD_sat {Δ : Gh} {D : Addr} {vs : List V} (s : Sat Γ Δ) (n : Δ D = none) : Sat Γ (ghD Δ D vs) := fun p hp => by
  have e := s p hp
  have hne : p.1 ≠ D := fun z => by
    rw [z, n] at e
    cases e
  show (if p.1 = D then _ else Δ p.1) = _
  rw [if_neg hne]
  exact e
theorem ghD_weak {Δ : Gh} {D : Addr} {vs : List V} {H : Hp} : ∀ x o, H x = some o → ghD Δ D vs x = none → Δ x = none := fun x o _ e => by
  have e' : (if x = D then some (fun o => o = HO.lst vs) else Δ x) = none := e
  by_cases h : x = D
  · rw [if_pos h] at e'
    cases e'
  · rw [if_neg h] at e'
    exact e'
/-- a fresh cell taken as one that changes -/
theorem ghD_new {Δ : Gh} {D : Addr} {vs : List V} {H : Hp} (hD : H D = none) : ∀ x o, H x = some o → Δ x = none → ghD Δ D vs x = none := fun x o hx e => by
  have hne : x ≠ D := ne_of_none hx hD
  show (if x = D then some (fun o => o = HO.lst vs) else Δ x) = none
  rw [if_neg hne]
  exact e
theorem gh_swap {Δ : Gh} {D : Addr} {vs ws : List V} {H : Hp} : ∀ x o, H x = some o → ghD Δ D vs x = none → ghD Δ D ws x = none := fun x o _ e => by
  have e' : (if x = D then some (fun o => o = HO.lst vs) else Δ x) = none := e
  show (if x = D then some (fun o => o = HO.lst ws) else Δ x) = none
  by_cases h : x = D
  · rw [if_pos h] at e'
    cases e'
  · rw [if_neg h] at e' ⊢
    exact e'
/-- the new list grows: all else stays -/
theorem gh_put {Δ : Gh} {H : Hp} {D : Addr} {vs ws : List V} (hh : Hold (ghD Δ D vs) H) : Hold (ghD Δ D ws) (upd H D (.lst ws)) ∧ Keep (ghD Δ D vs) H (upd H D (.lst ws)) := by
  constructor
  · intro a I e
    have e' : (if a = D then some (fun o => o = HO.lst ws) else Δ a) = some I := e
    by_cases h : a = D
    · rw [if_pos h] at e'
      cases e'
      exact ⟨_, by rw [h]; exact upd_same, rfl⟩
    · rw [if_neg h] at e'
      have e2 : ghD Δ D vs a = some I := by
        show (if a = D then _ else Δ a) = _
        rw [if_neg h]
        exact e'
      obtain ⟨o, ho, io⟩ := hh a I e2
      exact ⟨o, by rw [upd_ne h]; exact ho, io⟩
  · intro a o n e
    have hne : a ≠ D := fun z => by
      have n' : (if a = D then some (fun o => o = HO.lst vs) else Δ a) = none := n
      rw [if_pos z] at n'
      cases n'
    rw [upd_ne hne]
    exact e
theorem gh_first {Δ : Gh} {H : Hp} {D : Addr} {ws : List V} (hh : Hold Δ H) (hD : H D = none) : Hold (ghD Δ D ws) (upd H D (.lst ws)) ∧ Keep Δ H (upd H D (.lst ws)) := by
  refine ⟨fun a I e => ?_, (Ext.new hh hD _).1⟩
  have e' : (if a = D then some (fun o => o = HO.lst ws) else Δ a) = some I := e
  by_cases h : a = D
  · rw [if_pos h] at e'
    cases e'
    exact ⟨_, by rw [h]; exact upd_same, rfl⟩
  · rw [if_neg h] at e'
    obtain ⟨o, ho, io⟩ := hh a I e'
    exact ⟨o, by rw [upd_ne h]; exact ho, io⟩
theorem gh_last {Δ : Gh} {H : Hp} {D : Addr} {ws : List V} (n : Δ D = none) (hh : Hold (ghD Δ D ws) H) : Hold Δ H := fun a I e => by
  have hne : a ≠ D := fun z => by
    rw [z, n] at e
    cases e
  refine hh a I ?_
  show (if a = D then _ else Δ a) = _
  rw [if_neg hne]
  exact e
/-- how things stand ahead of turn i of a comprehension: the list made so far at D bears acc -/
structure CW (K : PySem.W.Frag) (Δ : Gh) (H1 : Hp) (D : Addr) (pv : V) (pc : Cell) (σw : L2.St) (ρw : Env) (vs : List V) (acc : List β) (H : Hp) : Prop where
  at_ : H D = some (.lst vs)
  hold : Hold (ghD Δ D vs) H
  keep : ∀ a o, a ≠ D → Δ a = none → H1 a = some o → H a = some o
  src : pc.rp K (ghD Δ D vs) H pv
  env : EnvOk K (ghD Δ D vs) σw H ρw
  els : All2 (fun u a => Rp.rp K (ghD Δ D vs) H u a) vs acc
theorem CW.next {Δ : Gh} {H1 H H' : Hp} {D : Addr} {pv : V} {pc : Cell} {σw : L2.St} {ρw : Env} {vs : List V} {acc : List β} (c : CW K Δ H1 D pv pc σw ρw vs acc H) (e : Ext (ghD Δ D vs) H H') (hD : H' D = some (.lst vs)) : CW K Δ H1 D pv pc σw ρw vs acc H' where
  at_ := hD
  hold := e.2
  keep a o ha n h := e.1 a o (by show (if a = D then _ else Δ a) = none; rw [if_neg ha]; exact n) (c.keep a o ha n h)
  src := pc.r.mono e.1 c.src
  env := c.env.mono e.1
  els := c.els.imp fun _ _ => Rp.mono e.1
theorem CW.put {Δ : Gh} {H1 H : Hp} {D : Addr} {pv : V} {pc : Cell} {σw : L2.St} {ρw : Env} {vs : List V} {acc : List β} {v : V} {b : β} (c : CW K Δ H1 D pv pc σw ρw vs acc H) (r : Rp.rp K (ghD Δ D vs) H v b) : CW K Δ H1 D pv pc σw ρw (vs ++ [v]) (acc ++ [b]) (upd H D (.lst (vs ++ [v]))) := by
  have g := gh_put (ws := vs ++ [v]) c.hold
  refine ⟨upd_same, g.1, fun a o ha n h => by rw [upd_ne ha]; exact c.keep a o ha n h, ?_, ?_, ?_⟩
  · exact pc.r.weak gh_swap (pc.r.mono g.2 c.src)
  · exact (c.env.mono g.2).weak gh_swap
  · exact All2.snoc (Rp.weak gh_swap (Rp.mono g.2 r)) (c.els.imp fun _ _ q => Rp.weak gh_swap (Rp.mono g.2 q))
theorem exact_at {Δ : Gh} {H : Hp} {D : Addr} {vs : List V} (hh : Hold (ghD Δ D vs) H) : H D = some (.lst vs) := by
  obtain ⟨o, ho, io⟩ := hh D (fun o => o = .lst vs) (by show (if D = D then _ else Δ D) = _; rw [if_pos rfl])
  rw [ho, show o = HO.lst vs from io]
/-- a list that stands in the heap, open to change -/
structure FL (α : Type) where
  l : List α
instance {α : Type} [Rp α] : Rp (FL α) where
  rp K Δ H v xs := ∃ p vs, v = .ref p ∧ Δ p = none ∧ H p = some (.lst vs) ∧ All2 (fun u a => Rp.rp K Δ H u a) vs xs.l
  mono k h := by
    obtain ⟨p, vs, e, n, r, q⟩ := h
    exact ⟨p, vs, e, n, k _ _ n r, q.imp fun _ _ => Rp.mono k⟩
  weak w h := by
    obtain ⟨p, vs, e, n, r, q⟩ := h
    exact ⟨p, vs, e, w _ _ r n, r, q.imp fun _ _ => Rp.weak w⟩
theorem ev_ofFL {te : TE} {P : List β → Prop} (h : Ev K Γ te ρ (fun y : FL β => P y.l)) : Ev K Γ te ρ P := fun Δ σ H Q s hh e k => h Δ σ H Q s hh e fun v H' a pa e1 r => by
  obtain ⟨p, vs, rfl, n, hr, q⟩ := r
  exact k _ H' a.l pa e1 ⟨p, vs, rfl, .inl ⟨n, .inl hr⟩, .inl (.inl hr), q⟩
theorem ev_lcF {wi : TI} {g : TG} {js vs : List Nat} {n : Nat} {st : Nat → Env → Env} (Iv : Nat → List β → Prop) (S : Src K Γ wi g ρ js n st) (hn : n ≤ 50000) (hjs : ∀ j ∈ js, j ∈ vs) (h0 : Iv 0 [])
    (hs : ∀ i acc, i < n → Iv i acc → ∃ PB : Bool → Prop, EvT K Γ t (st i (wipeE ρ vs)) PB ∧ (PB false → Iv (i + 1) acc) ∧ (PB true → ∃ PV : β → Prop, Ev K Γ te (st i (wipeE ρ vs)) PV ∧ ∀ b, PV b → Iv (i + 1) (acc ++ [b]))) :
    Ev K Γ (tLc wi g t te vs) ρ (fun y : FL β => Iv n y.l) := fun Δ σ H Q s hh e k => S Δ σ H _ s hh e fun J H1 pv pc e1 rp0 hgo hyld => fun D hD => by
  have nD : Δ D = none := e1.2.fresh hD
  have eW : EnvOk K Δ (wipe σ vs) H1 (wipeE ρ vs) := (e.mono e1.1).wipe vs
  have g0 := gh_first (ws := []) e1.2 hD
  have kp : Keep (ghD Δ D []) H1 (upd H1 D (.lst [])) := fun a o _ q => by rw [upd_ne (ne_of_none q hD)]; exact q
  have W0 : CW (β := β) K Δ H1 D pv pc (wipe σ vs) (wipeE ρ vs) [] [] (upd H1 D (.lst [])) :=
    ⟨upd_same, g0.1, fun a o ha n h => by rw [upd_ne ha]; exact h, pc.r.mono kp (pc.r.weak (ghD_new hD) rp0), (eW.weak (ghD_new hD)).mono kp, trivial⟩
  have wl : (wipeE ρ vs).length = ρ.length := by
    rw [← eW.1, wipe_length]
    exact e.1
  refine ⟨fun i m H2 => m = n - i ∧ i ≤ n ∧ ∃ vs' acc, CW K Δ H1 D pv pc (wipe σ vs) (wipeE ρ vs) vs' acc H2 ∧ acc.length ≤ i ∧ Iv i acc, ⟨n, by simp, Nat.zero_le _, [], [], W0, Nat.le_refl _, h0⟩, ?_⟩
  rintro i m H2 ⟨rfl, hi, vs', acc, c, hl, iv⟩
  have hg := hgo _ H2 c.src
  by_cases hlt : i < n
  · refine .inr ⟨hg.1 i hlt, fun H3 => ∃ vs' acc, CW K Δ H1 D pv pc (wipe σ vs) (wipeE ρ vs) vs' acc H3 ∧ acc.length ≤ i + 1 ∧ Iv (i + 1) acc, fun H' ⟨v', a', c', l', iv'⟩ => ⟨n - (i + 1), by omega, rfl, hlt, v', a', c', l', iv'⟩, fun x H3 hy => ?_⟩
    obtain ⟨e3, hput⟩ := hyld _ i H2 x H3 hlt c.hold c.src hy
    have c3 := c.next e3 (exact_at e3.2)
    refine hput (wipe σ vs) (wipeE ρ vs) _ wl c3.env fun σ2 env2 hl2 hoff => ⟨wipe_off (by rw [hl2, wipe_length]) hjs hoff, ?_⟩
    obtain ⟨PB, hT, hF, hV⟩ := hs i acc hlt iv
    refine hT (ghD Δ D vs') σ2 H3 _ (ghD_sat s nD) e3.2 env2 fun b H4 pb e4 => ?_
    have c4 := c3.next e4 (exact_at e4.2)
    cases b with
    | false => exact iteF ⟨vs', acc, c4, by omega, hF pb⟩
    | true =>
      obtain ⟨PV, hE, hb⟩ := hV pb
      refine iteT (hE (ghD Δ D vs') σ2 H4 _ (ghD_sat s nD) e4.2 (env2.mono e4.1) fun y H5 b pb' e5 r5 => ?_)
      have c5 := c4.next e5 (exact_at e5.2)
      have hlen : vs'.length < sizeLine := Nat.lt_of_le_of_lt (m := 50000) (by rw [c5.els.len]; omega) (by decide)
      exact ⟨vs', c5.at_, hlen, vs' ++ [y], acc ++ [b], c5.put r5, by rw [List.length_append]; show acc.length + 1 ≤ i + 1; omega, hb b pb'⟩
  · have ei : i = n := by omega
    subst ei
    refine .inl ⟨hg.2, k (.ref D) H2 ⟨acc⟩ iv ⟨fun a o na h => ?_, gh_last nD c.hold⟩ ⟨D, vs', rfl, nD, c.at_, c.els.imp fun _ _ => Rp.weak ghD_weak⟩⟩
    have h1 := e1.1 a o na h
    exact c.keep a o (ne_of_none h1 hD) na h1
theorem ev_lc {wi : TI} {g : TG} {js vs : List Nat} {n : Nat} {st : Nat → Env → Env} (Iv : Nat → List β → Prop) (S : Src K Γ wi g ρ js n st) (hn : n ≤ 50000) (hjs : ∀ j ∈ js, j ∈ vs) (h0 : Iv 0 [])
    (hs : ∀ i acc, i < n → Iv i acc → ∃ PB : Bool → Prop, EvT K Γ t (st i (wipeE ρ vs)) PB ∧ (PB false → Iv (i + 1) acc) ∧ (PB true → ∃ PV : β → Prop, Ev K Γ te (st i (wipeE ρ vs)) PV ∧ ∀ b, PV b → Iv (i + 1) (acc ++ [b]))) :
    Ev K Γ (tLc wi g t te vs) ρ (Iv n) := ev_ofFL (ev_lcF Iv S hn hjs h0 hs)
/-- the comprehension of told data: the items by f, chosen by p -/
theorem ev_lcD {wi : TI} {g : TG} {js vs : List Nat} {τ : Type} {xs : List τ} {st : Nat → Env → Env} (p : τ → Bool) (f : τ → β) (S : Src K Γ wi g ρ js xs.length st) (hn : xs.length ≤ 50000) (hjs : ∀ j ∈ js, j ∈ vs)
    (hs : ∀ i x, xs[i]? = some x → EvT K Γ t (st i (wipeE ρ vs)) (Is (p x)) ∧ (p x = true → Ev K Γ te (st i (wipeE ρ vs)) (Is (f x)))) :
    Ev K Γ (tLc wi g t te vs) ρ (Is ((xs.filter p).map f)) := by
  refine (ev_lc (fun i acc => acc = ((xs.take i).filter p).map f) S hn hjs rfl fun i acc hi e => ?_).imp fun a h => by
    show a = _
    rw [h, List.take_length]
  have hx : xs[i]? = some xs[i] := List.getElem?_eq_getElem hi
  have et : xs.take (i + 1) = xs.take i ++ [xs[i]] := by rw [List.take_add_one, hx]; rfl
  obtain ⟨h1, h2⟩ := hs i _ hx
  refine ⟨_, h1, fun q => ?_, fun q => ⟨_, h2 (show true = _ from q).symm, fun b hb => ?_⟩⟩
  · have q' : p xs[i] = false := (show false = _ from q).symm
    rw [et, List.filter_append, List.filter_cons, q', e]
    simp
  · have q' : p xs[i] = true := (show true = _ from q).symm
    rw [et, List.filter_append, List.filter_cons, q', e, show b = f xs[i] from hb]
    simp
theorem et_yes : EvT K Γ tYes ρ (Is true) := fun Δ σ H Q s hh e k => k true H rfl (Ext.refl hh)
end
end Z

set_option Elab.async false
set_option linter.all false
set_option maxRecDepth 100000
set_option maxHeartbeats 1000000
namespace Z
open PySem PySem.Spec PyProof.Rows L2
/-! ### statements -/
/-- how things stand within a def: Δ0, H0 at its entry; Γ what it owns; F data that stay; ρ its names -/
def Stt (K : PySem.W.Frag) (Δ0 : Gh) (H0 : Hp) (Γ : Own) (F : List (V × Cell)) (ρ : Env) (σ : L2.St) (H : Hp) : Prop :=
  ∃ Δ : Gh, Sat Γ Δ ∧ Hold Δ H ∧ EnvOk K Δ σ H ρ ∧ (∀ f ∈ F, f.2.rp K Δ H f.1) ∧ Ext Δ0 H0 H ∧ (∀ x I, Δ0 x = some I → Δ x = some I) ∧ (∀ x, Δ0 x = none → Δ x ≠ none → H0 x = none)
def Wp (K : PySem.W.Frag) (Δ0 : Gh) (H0 : Hp) (Γ : Own) (F : List (V × Cell)) (ρ : Env) (t : TS) (D : Ends) : Prop := ∀ σ H, Stt K Δ0 H0 Γ F ρ σ H → t D σ H
/-- what is wanted of what is handed back -/
def Fin (K : PySem.W.Frag) (Δ0 : Gh) (H0 : Hp) {β : Type} [Rp β] (R : β → Prop) (D : Ends) : Prop := ∀ v H' b, R b → Ext Δ0 H0 H' → Rp.rp K Δ0 H' v b → D.rt v H'
section
variable {K : PySem.W.Frag} {Δ0 : Gh} {H0 : Hp} {Γ : Own} {F : List (V × Cell)} {ρ : Env} {ta tb tc te : TE} {c : TT} {t u tz : TS} {D : Ends} {α β γ : Type} [Rp α] [Rp β] [Rp γ] {P : α → Prop} {R : β → Prop}
theorem ext0 {Δ : Gh} {H H' : Hp} (e0 : Ext Δ0 H0 H) (s1 : ∀ x I, Δ0 x = some I → Δ x = some I) (s2 : ∀ x, Δ0 x = none → Δ x ≠ none → H0 x = none) (e : Ext Δ H H') : Ext Δ0 H0 H' := by
  refine ⟨fun a o n h => ?_, fun a I q => e.2 a I (s1 a I q)⟩
  have n' : Δ a = none := by
    cases q : Δ a with
    | none => rfl
    | some I =>
      rw [s2 a n (by rw [q]; exact fun z => by cases z)] at h
      cases h
  exact e.1 a o n' (e0.1 a o n h)
theorem none0 {Δ : Gh} (s1 : ∀ x I, Δ0 x = some I → Δ x = some I) {x : Addr} (n : Δ x = none) : Δ0 x = none := by
  cases q : Δ0 x with
  | none => rfl
  | some I =>
    rw [s1 x I q] at n
    cases n
theorem wp_asg {i : Nat} (h : Ev K Γ te ρ P) (hi : i < ρ.length) (k : ∀ a, P a → Wp K Δ0 H0 Γ F (ρ.set i (some ⟨a⟩)) tz D) : Wp K Δ0 H0 Γ F ρ (tSeq (tAsg te (gName i)) tz) D := fun σ H ⟨Δ, s, hh, e, f, e0, s1, s2⟩ =>
  h Δ σ H _ s hh e fun v H' a pa e1 r1 => k a pa _ H' ⟨Δ, s, e1.2, (e.mono e1.1).set (c := ⟨a⟩) hi r1, fun q hq => q.2.r.mono e1.1 (f q hq), ext0 e0 s1 s2 e1, s1, s2⟩
theorem wp_asg1 {i : Nat} {a : α} (h : Ev K Γ te ρ (Is a)) (hi : i < ρ.length) (k : Wp K Δ0 H0 Γ F (ρ.set i (some ⟨a⟩)) tz D) : Wp K Δ0 H0 Γ F ρ (tSeq (tAsg te (gName i)) tz) D :=
  wp_asg h hi fun b e => by rw [show b = a from e]; exact k
/-- the same as the last of a block -/
theorem wp_asgL {i : Nat} (h : Ev K Γ te ρ P) (hi : i < ρ.length) (k : ∀ a, P a → Wp K Δ0 H0 Γ F (ρ.set i (some ⟨a⟩)) tNext D) : Wp K Δ0 H0 Γ F ρ (tAsg te (gName i)) D := fun σ H ⟨Δ, s, hh, e, f, e0, s1, s2⟩ =>
  h Δ σ H _ s hh e fun v H' a pa e1 r1 => k a pa _ H' ⟨Δ, s, e1.2, (e.mono e1.1).set (c := ⟨a⟩) hi r1, fun q hq => q.2.r.mono e1.1 (f q hq), ext0 e0 s1 s2 e1, s1, s2⟩
theorem wp_ret (hf : Fin K Δ0 H0 R D) (h : Ev K Γ te ρ R) : Wp K Δ0 H0 Γ F ρ (tRet te) D := fun σ H ⟨Δ, s, hh, e, f, e0, s1, s2⟩ =>
  h Δ σ H _ s hh e fun v H' a pa e1 r1 => hf v H' a pa (ext0 e0 s1 s2 e1) (Rp.weak (fun x o _ n => none0 s1 n) r1)
theorem wp_drop (h : Ev K Γ te ρ P) (k : Wp K Δ0 H0 Γ F ρ tz D) : Wp K Δ0 H0 Γ F ρ (tSeq (tDrop te) tz) D := fun σ H ⟨Δ, s, hh, e, f, e0, s1, s2⟩ =>
  h Δ σ H _ s hh e fun v H' a pa e1 r1 => k _ H' ⟨Δ, s, e1.2, e.mono e1.1, fun q hq => q.2.r.mono e1.1 (f q hq), ext0 e0 s1 s2 e1, s1, s2⟩
theorem wp_dropL (h : Ev K Γ te ρ P) (k : Wp K Δ0 H0 Γ F ρ tNext D) : Wp K Δ0 H0 Γ F ρ (tDrop te) D := fun σ H ⟨Δ, s, hh, e, f, e0, s1, s2⟩ =>
  h Δ σ H _ s hh e fun v H' a pa e1 r1 => k _ H' ⟨Δ, s, e1.2, e.mono e1.1, fun q hq => q.2.r.mono e1.1 (f q hq), ext0 e0 s1 s2 e1, s1, s2⟩
theorem wp_ifP {PB : Bool → Prop} (h : EvT K Γ c ρ PB) (h1 : PB true → Wp K Δ0 H0 Γ F ρ t D) (h2 : PB false → Wp K Δ0 H0 Γ F ρ u D) : Wp K Δ0 H0 Γ F ρ (tIfS c t u) D := fun σ H ⟨Δ, s, hh, e, f, e0, s1, s2⟩ =>
  h Δ σ H _ s hh e fun b H' pb e1 => by
    have st : Stt K Δ0 H0 Γ F ρ σ H' := ⟨Δ, s, e1.2, e.mono e1.1, fun q hq => q.2.r.mono e1.1 (f q hq), ext0 e0 s1 s2 e1, s1, s2⟩
    cases b with
    | true => exact iteT (h1 pb σ H' st)
    | false => exact iteF (h2 pb σ H' st)
theorem wp_if {b : Bool} (h : EvT K Γ c ρ (Is b)) (h1 : b = true → Wp K Δ0 H0 Γ F ρ t D) (h2 : b = false → Wp K Δ0 H0 Γ F ρ u D) : Wp K Δ0 H0 Γ F ρ (tIfS c t u) D := wp_ifP h (fun e => h1 (show true = b from e).symm) fun e => h2 (show false = b from e).symm
/-- if c: t, then the rest -/
theorem wp_when {b : Bool} (h : EvT K Γ c ρ (Is b)) (h1 : b = true → Wp K Δ0 H0 Γ F ρ t { D with nx := tz D }) (h2 : b = false → Wp K Δ0 H0 Γ F ρ tz D) : Wp K Δ0 H0 Γ F ρ (tSeq (tIfS c t tNext) tz) D := wp_if (D := { D with nx := tz D }) h h1 h2
theorem wp_ifs {b : Bool} (h : EvT K Γ c ρ (Is b)) (h1 : b = true → Wp K Δ0 H0 Γ F ρ t { D with nx := tz D }) (h2 : b = false → Wp K Δ0 H0 Γ F ρ u { D with nx := tz D }) : Wp K Δ0 H0 Γ F ρ (tSeq (tIfS c t u) tz) D := wp_if (D := { D with nx := tz D }) h h1 h2
/-- the raise of a way that is not gone -/
theorem wp_no {b : Bool} (hb : b = false) (h : EvT K Γ c ρ (Is b)) (h2 : Wp K Δ0 H0 Γ F ρ tz D) : Wp K Δ0 H0 Γ F ρ (tSeq (tIfS c t tNext) tz) D := wp_when h (fun e => by rw [hb] at e; cases e) fun _ => h2
theorem wp_noL {b : Bool} (hb : b = false) (h : EvT K Γ c ρ (Is b)) (h2 : Wp K Δ0 H0 Γ F ρ tNext D) : Wp K Δ0 H0 Γ F ρ (tIfS c t tNext) D := wp_if h (fun e => by rw [hb] at e; cases e) fun _ => h2
/-- a, b = e1, e2 -/
theorem wp_par {i j : Nat} {ta : TA} {Q : List Cell → Prop} (h : EvA K Γ ta ρ Q) (hi : i < ρ.length) (hj : j < ρ.length) (k : ∀ cs, Q cs → ∃ c d : Cell, cs = [c, d] ∧ Wp K Δ0 H0 Γ F ((ρ.set i (some c)).set j (some d)) tz D) : Wp K Δ0 H0 Γ F ρ (tSeq (tPar i j ta) tz) D := fun σ H ⟨Δ, s, hh, e, f, e0, s1, s2⟩ =>
  h Δ σ H _ s hh e fun vs H' cs pcs e1 r => by
    obtain ⟨c, d, rfl, kk⟩ := k cs pcs
    match vs, r with
    | [v, w], r => exact ⟨v, w, rfl, kk _ H' ⟨Δ, s, e1.2, ((e.mono e1.1).set hi r.1).set (by rw [List.length_set]; exact hj) r.2.1, fun q hq => q.2.r.mono e1.1 (f q hq), ext0 e0 s1 s2 e1, s1, s2⟩⟩
/-- a loop: Iv tells what may stand ahead of turn i -/
def At (K : PySem.W.Frag) (Δ0 : Gh) (H0 : Hp) (F : List (V × Cell)) (Iv : Nat → Own → Env → Prop) (i : Nat) : L2.St → Hp → Prop := fun σ H => ∃ Γ ρ, Iv i Γ ρ ∧ Stt K Δ0 H0 Γ F ρ σ H
theorem wp_for {wi : TI} {g : TG} {js : List Nat} {n : Nat} {st : Nat → Env → Env} (Iv : Nat → Own → Env → Prop) (S : Src K Γ wi g ρ js n st) (h0 : Iv 0 Γ ρ) (hl : ∀ i Γ' ρ', Iv i Γ' ρ' → ρ'.length = ρ.length)
    (hs : ∀ i Γ' ρ' F', i < n → Iv i Γ' ρ' → Wp K Δ0 H0 Γ' F' (st i ρ') t { D with nx := At K Δ0 H0 F' Iv (i + 1), ct := At K Δ0 H0 F' Iv (i + 1), bk := tz D })
    (hd : ∀ Γ' ρ' F', Iv n Γ' ρ' → Wp K Δ0 H0 Γ' F' ρ' tz D) : Wp K Δ0 H0 Γ F ρ (tSeq (tFor wi g t) tz) D := fun σ H ⟨Δ, s, hh, e, f, e0, s1, s2⟩ =>
  S Δ σ H _ s hh e fun J H1 pv pc e1 rp0 hgo hyld => by
    refine ⟨fun i m σ2 H2 => m = n - i ∧ i ≤ n ∧ At K Δ0 H0 ((pv, pc) :: F) Iv i σ2 H2, ⟨n, by simp, Nat.zero_le _, Γ, ρ, h0, Δ, s, e1.2, e.mono e1.1, ?_, ext0 e0 s1 s2 e1, s1, s2⟩, ?_⟩
    · intro q hq
      rcases List.mem_cons.mp hq with z | z
      · rw [z]; exact rp0
      · exact q.2.r.mono e1.1 (f q z)
    · rintro i m σ2 H2 ⟨rfl, hi, Γ', ρ', iv, st2⟩
      obtain ⟨Δ', s', hh', e', f', e0', s1', s2'⟩ := id st2
      have rp2 : pc.rp K Δ' H2 pv := f' (pv, pc) List.mem_cons_self
      have hg := hgo Δ' H2 rp2
      by_cases hlt : i < n
      · refine .inr ⟨hg.1 i hlt, At K Δ0 H0 ((pv, pc) :: F) Iv (i + 1), fun σ3 H3 a => ⟨n - (i + 1), by omega, rfl, hlt, a⟩, fun x H3 hy => ?_⟩
        obtain ⟨e3, hput⟩ := hyld Δ' i H2 x H3 hlt hh' rp2 hy
        refine hput σ2 ρ' _ (hl i Γ' ρ' iv) (e'.mono e3.1) fun σ3 env3 _ _ => ?_
        exact hs i Γ' ρ' _ hlt iv σ3 H3 ⟨Δ', s', e3.2, env3, fun q hq => q.2.r.mono e3.1 (f' q hq), ext0 e0' s1' s2' e3, s1', s2'⟩
      · have ei : i = n := by omega
        subst ei
        exact .inl ⟨hg.2, hd Γ' ρ' _ iv σ2 H2 st2⟩
/-- behind the last turn's body -/
theorem wp_turn {Iv : Nat → Own → Env → Prop} {i : Nat} (hiv : Iv i Γ ρ) (e : D.nx = At K Δ0 H0 F Iv i) : Wp K Δ0 H0 Γ F ρ tNext D := fun σ H st => by
  show D.nx σ H
  rw [e]
  exact ⟨Γ, ρ, hiv, st⟩
/-- x = a list of one's own: from here on its cell is owned, its members told -/
def LstIs (vs : List V) : HO → Prop := fun o => o = .lst vs
theorem wp_end {D : Ends} (h : ∀ H', Ext Δ0 H0 H' → D.nx = D.nx → ∀ σ, D.nx σ H') : Wp K Δ0 H0 Γ F ρ tNext D := fun σ H ⟨Δ, s, hh, e, f, e0, s1, s2⟩ => h H e0 rfl σ
end
/-! ### a def -/
section
variable {P : Program} {w : World} {K : PySem.W.Frag} {mg : Str → Option Value} {base : Heap} {β : Type} [Rp β]
def env0 (N : List Str) (cs : List Cell) : Env := cs.map some ++ List.replicate (N.length - cs.length) none
theorem start_ok {Δ : Gh} {H : Hp} {N : List Str} {vs : List V} {cs : List Cell} (h : ArgsOk K Δ H vs cs) : EnvOk K Δ (L2.start N vs) H (env0 N cs) := by
  have hl := All2.len h
  refine ⟨by unfold L2.start env0; rw [List.length_append, List.length_append, List.length_map, List.length_map, List.length_replicate, List.length_replicate, hl], fun i c e => ?_⟩
  unfold env0 at e
  unfold L2.start
  by_cases hi : i < cs.length
  · rw [List.getElem?_append_left (by rw [List.length_map]; exact hi), List.getElem?_map] at e
    cases q : cs[i]? with
    | none => rw [q] at e; cases e
    | some d =>
      rw [q] at e
      have ed : d = c := Option.some.inj (Option.some.inj e)
      subst ed
      obtain ⟨v, hv, rv⟩ := All2.get h q
      exact ⟨v, by rw [List.getElem?_append_left (by rw [List.length_map, hl]; exact hi), List.getElem?_map, hv]; rfl, rv⟩
  · rw [List.getElem?_append_right (by rw [List.length_map]; omega)] at e
    obtain ⟨_, e2⟩ := List.getElem?_eq_some_iff.mp e
    rw [List.getElem_replicate] at e2
    cases e2
/-- a def's promise from its body's term and the body's walk -/
theorem def_ok {x qual : Str} {args : Arguments} {body : List Stmt} {scope : Scope} {dvs : List V} {kws : List (Str × V)} {f : Addr} {fd : FuncData} {N ps : List Str} {k : Nat} {G : Own → List Cell → (β → Prop) → Prop}
    (Fn : FunD K x qual args body scope dvs kws f fd) (S : FnScope N ps scope) (len : ∀ Γ cs R, G Γ cs R → cs.length = ps.length)
    (hb : ∀ (cdv : Value) (A : Around) (outer : List PySem.Env) (s : Shared) (H : Hp) (E : XK), Room k (A.deeper (envOfC qual scope s.heap.objs.size f cdv)) →
      ∀ (Γ : Own) (cs : List Cell) (R : β → Prop), G Γ cs R → ∃ t, PSs (cxOf CX0 P w K mg base N qual scope f cdv A outer s H E).nox body t ∧
        ∀ (Δ0 : Gh) (D : Ends), Fin K Δ0 H R D → (∀ b : β, R b → (∀ H', Rp.rp K Δ0 H' .non b) → ∀ σ H', Ext Δ0 H H' → D.nx σ H') → Wp K Δ0 H Γ [] (env0 N cs) t D) :
    FnOk P w K mg base CX0 (k + 1) f fd ps (spD K G) := by
  refine Fn.ok S (fun vs H Q E h => ?_) (fun cdv A outer s H vs Q E hr h => ?_)
  · obtain ⟨Γ, Δ, cs, R, g, _, _, a, _⟩ := h
    rw [All2.len a]
    exact len Γ cs R g
  · obtain ⟨Γ, Δ, cs, R, g, sa, hh, a, q⟩ := h
    obtain ⟨t, ht, hw⟩ := hb cdv A outer s H E hr Γ cs R g
    refine ⟨t, ?_, hw Δ _ (fun v H' b pb e r => q v H' b pb e r) (fun b rb hb' σ H' e => q .non H' b rb e (hb' H')) _ H ⟨Δ, sa, hh, start_ok a, fun z hz => (nomatch hz), Ext.refl hh, fun _ _ z => z, fun x n m => absurd n m⟩⟩
    first
      | exact ht
      | exact PSs.nox ht
end
end Z

set_option Elab.async false
set_option linter.all false
set_option maxRecDepth 100000
set_option maxHeartbeats 1000000
namespace Z
open PySem PySem.Spec PyProof.Rows L2
/-! ### further rules -/
section
variable {X : Cx}
theorem call_reprB : CallR X (.builtin "repr") (fun xs H Q => ∃ b, xs = [.bl b] ∧ Q (.str (if b then "True" else "False")) H) := by
  intro pins s σ H xs us Q I r h
  obtain ⟨b, rfl, q⟩ := h
  obtain ⟨u, rfl, r1⟩ := vals1 r
  cases r1
  exact PySem.P.repr_of_bool ⟨.str _, H, I.tok _, ⟨_, rfl⟩, q⟩
def rMulS : R2 := fun x y H Q => ∃ z i, x = .str z ∧ y = .int i ∧ MulOk z i ∧ Q (.str (PySem.Txt.mul z i)) H
theorem op_mulS : OpR X (binaryOp .Mult) rMulS := by
  intro pins s σ H x y v u Q I rx ry h
  obtain ⟨z, i, rfl, rfl, hm, q⟩ := h
  obtain ⟨t, rfl⟩ := rx
  obtain ⟨t', rfl⟩ := ry
  exact PySem.SB.mul hm fun t2 k => ⟨.str _, H, I.tok k, ⟨t2, rfl⟩, q⟩
theorem pe_trS {o : Expr} {to te : TE} {e : Expr} {apos pos : Pos} (hc : X.calm = true) (ho : PE X o to) (he : PE X e te) (hs : starEach [e] X.env = [(false, eval e X.env)] := by rfl) (hbase : attributeBase o "translate" X.env (eval o X.env) = eval o X.env := by rfl) (hline : (apos.endLine == pos.line) = true := by rfl) :
    PE X (.Call (.Attribute o "translate" apos) [e] [] pos) (tM1 (fun x xs H Q => ∃ (t : List Nat) (d : Addr), x = .str (SX.S t) ∧ xs = [.ref d] ∧ H d = some (.dK swpV) ∧ t.length ≤ 16000000 ∧ Q (.str (SX.S (t.map sw))) H) to te) :=
  pe_m1 F.slot_str_translate F.type_str_translate (mt_trS hc) ho he hs hbase hline
theorem pe_stripC {o : Expr} {to te : TE} {e : Expr} {apos pos : Pos} (ho : PE X o to) (he : PE X e te) (hs : starEach [e] X.env = [(false, eval e X.env)] := by rfl) (hbase : attributeBase o "strip" X.env (eval o X.env) = eval o X.env := by rfl) (hline : (apos.endLine == pos.line) = true := by rfl) :
    PE X (.Call (.Attribute o "strip" apos) [e] [] pos) (tM1 (fun x xs H Q => ∃ a b, x = .str a ∧ xs = [.str b] ∧ a.length ≤ sizeLine ∧ Q (.str (PySem.Txt.stripChars a b)) H) to te) :=
  pe_m1 F.slot_str_strip F.type_str_strip mt_stripChars ho he hs hbase hline
end
end Z

set_option Elab.async false
set_option linter.all false
set_option maxRecDepth 100000
set_option maxHeartbeats 1000000
namespace Z
open PySem PySem.Spec PyProof.Rows L2
section
variable {K : PySem.W.Frag} {Γ : Own} {ρ : Env} {ta tb tc te : TE} {t u : TT} {α β γ : Type} [Rp α] [Rp β] [Rp γ] {Pa : α → Prop} {Pb : β → Prop} {Pc : γ → Prop}
/-! ### texts -/
theorem joinL_flat : ∀ ps : List (List Nat), TL.joinL [] ps = ps.flatten
  | [] => rfl
  | [p] => by simp [TL.joinL]
  | p :: q :: r => by
    show p ++ ([] ++ TL.joinL [] (q :: r)) = _
    rw [joinL_flat (q :: r), List.nil_append, List.flatten_cons, List.flatten_cons, List.flatten_cons]
theorem join_tx (xs : List Tx) : PySem.Txt.join Str.empty (xs.map fun x => (⟨x.s.toArray⟩ : Str)) = ⟨((xs.map (·.s)).flatten).toArray⟩ := by
  rw [TL.join_eq]
  have h := TL.tl_join Str.empty (xs.map fun x => (⟨x.s.toArray⟩ : Str))
  rw [show TL.tl Str.empty = [] from rfl, joinL_flat, List.map_map] at h
  have e : (xs.map (TL.tl ∘ fun x => (⟨x.s.toArray⟩ : Str))) = xs.map (·.s) := List.map_congr_left fun x _ => by show x.s.toArray.toList = x.s; simp
  rw [e] at h
  generalize PySem.Str.join Str.empty _ = z at h
  cases z
  have h' := congrArg List.toArray h
  simpa using h'
def rJoin (K : PySem.W.Frag) : V → List V → Hp → VK → Prop := fun x xs H Q => ∃ a p, ∃ ys : List Str, x = .str a ∧ xs = [.ref p] ∧ (SqL K H p (ys.map V.str) ∨ SqT K H p (ys.map V.str)) ∧
  (ys.map (·.length)).sum + ys.length * a.length ≤ 16777216 ∧ Q (.str (PySem.Txt.join a ys)) H
theorem sum_len (xs : List Tx) : ((xs.map fun x => (⟨x.s.toArray⟩ : Str)).map (·.length)).sum = ((xs.map (·.s)).flatten).length := by
  induction xs with
  | nil => rfl
  | cons x xs ih =>
    rw [List.map_cons, List.map_cons, List.sum_cons, ih, List.map_cons, List.flatten_cons, List.length_append]
    have e : (⟨x.s.toArray⟩ : Str).length = x.s.length := by show x.s.toArray.size = _; simp
    rw [e]
/-- "".join(texts) -/
theorem ev_join1 {xs : List Tx} (h : Ev K Γ te ρ (Is xs)) (hz : ((xs.map (·.s)).flatten).length ≤ 100000) : Ev K Γ (tM1 (rJoin K) (tC (.str "")) te) ρ (Is (⟨(xs.map (·.s)).flatten⟩ : Tx)) := fun Δ σ H Q s hh e k =>
  ⟨⟨_, rfl⟩, h Δ σ H _ s hh e fun v H' a pa e1 r => by
    have ea : a = xs := pa
    subst ea
    obtain ⟨p, vs, rfl, n, sq, q⟩ := r
    have ev := all2_tx q
    subst ev
    refine ⟨Str.empty, p, _, rfl, rfl, .inl sq, ?_, k _ H' _ rfl e1 (by show V.str _ = V.str _; rw [join_tx])⟩
    rw [sum_len]
    have e0 : Str.empty.length = 0 := rfl
    rw [e0]
    omega⟩
theorem ev_join {xs : List Tx} {z : Str} (hz0 : z = "" := by rfl) (h : Ev K Γ te ρ (Is xs)) (hz : ((xs.map (·.s)).flatten).length ≤ 100000) : Ev K Γ (tM1 (rJoin K) (tC (.str z)) te) ρ (Is (⟨(xs.map (·.s)).flatten⟩ : Tx)) := by
  subst hz0
  exact ev_join1 h hz
/-- the same of a drawn list -/
theorem ev_joinP {P : List Tx → Prop} {z : Str} (hz0 : z = "" := by rfl) (h : Ev K Γ te ρ P) (hz : ∀ xs, P xs → ((xs.map (·.s)).flatten).length ≤ 100000) : Ev K Γ (tM1 (rJoin K) (tC (.str z)) te) ρ (fun x : Tx => ∃ xs, P xs ∧ x = ⟨(xs.map (·.s)).flatten⟩) := by
  subst hz0
  exact fun Δ σ H Q s hh e k =>
    ⟨⟨_, rfl⟩, h Δ σ H _ s hh e fun v H' a pa e1 r => by
      obtain ⟨p, vs, rfl, n, sq, q⟩ := r
      have ev := all2_tx q
      subst ev
      refine ⟨Str.empty, p, _, rfl, rfl, .inl sq, ?_, k _ H' _ ⟨a, pa, rfl⟩ e1 (by show V.str _ = V.str _; rw [join_tx])⟩
      rw [sum_len]
      have e0 : Str.empty.length = 0 := rfl
      rw [e0]
      have := hz a pa
      omega⟩
def isSign (c : Nat) : Bool := c == 43 || c == 45 || c == 48
theorem contains_sign (c : Nat) : (Str.ofString "+-0").cps.contains c = isSign c := by
  have e : (Str.ofString "+-0").cps = #[43, 45, 48] := by decide +kernel
  rw [e]
  unfold isSign
  simp [Array.contains, Bool.or_assoc, eq_comm, BEq.comm]
theorem takeWhile_all {p : Nat → Bool} : ∀ {l : List Nat}, (l.takeWhile p).length = l.length → l.all p = true
  | [], _ => rfl
  | x :: l, h => by
    rw [List.takeWhile_cons] at h
    cases hp : p x with
    | true =>
      rw [hp] at h
      simp at h
      rw [List.all_cons, hp, takeWhile_all (by simpa using h)]
      try rfl
    | false =>
      rw [hp] at h
      simp at h
theorem all_takeWhile {p : Nat → Bool} : ∀ {l : List Nat}, l.all p = true → l.takeWhile p = l
  | [], _ => rfl
  | x :: l, h => by
    rw [List.all_cons, Bool.and_eq_true] at h
    rw [List.takeWhile_cons, h.1, if_pos rfl, all_takeWhile h.2]
theorem drop_take {p : Nat → Bool} : ∀ l : List Nat, l = l.takeWhile p ++ l.drop (l.takeWhile p).length
  | [] => rfl
  | x :: l => by
    rw [List.takeWhile_cons]
    split
    · rw [List.cons_append, List.length_cons, List.drop_succ_cons, ← drop_take l]
    · rfl
theorem take_goes {p : Nat → Bool} : ∀ l : List Nat, (l.takeWhile p).all p = true
  | [] => rfl
  | x :: l => by
    rw [List.takeWhile_cons]
    split
    · rename_i h
      rw [List.all_cons, h, take_goes l]
      rfl
    · rfl
theorem takeWhile_le {p : Nat → Bool} : ∀ (l : List Nat), (l.takeWhile p).length ≤ l.length
  | [] => Nat.le_refl _
  | x :: l => by
    rw [List.takeWhile_cons]
    split
    · have := takeWhile_le (p := p) l
      simp only [List.length_cons]
      omega
    · simp
/-- nothing is left of a row alone -/
theorem strip_nil (l : List Nat) : (PySem.Txt.stripChars ⟨l.toArray⟩ "+-0" = Str.empty) ↔ l.all isSign = true := by
  have hc : (fun c => (Str.ofString "+-0").cps.contains c) = isSign := funext contains_sign
  have hg : (Str.ofString "+-0").cps.contains = isSign := hc
  unfold PySem.Txt.stripChars PySem.Txt.stripBy
  rw [hg]
  have hlen : (⟨l.toArray⟩ : Str).length = l.length := by show l.toArray.size = _; simp
  have lo : PySem.stripLo isSign true ⟨l.toArray⟩ = (l.takeWhile isSign).length := by unfold PySem.stripLo; simp
  constructor
  · intro h
    split at h
    · rename_i hs
      unfold PySem.stripSame at hs
      rw [lo, Bool.and_eq_true] at hs
      have hl : l = [] := by
        have h2 : l.toArray = #[] := congrArg Str.cps h
        simpa using h2
      subst hl
      rfl
    · have hcps := congrArg Str.cps h
      unfold PySem.stripped at hcps
      have h2 : ((⟨l.toArray⟩ : Str).cps.extract (PySem.stripLo isSign true ⟨l.toArray⟩) (PySem.stripHi isSign true ⟨l.toArray⟩ (PySem.stripLo isSign true ⟨l.toArray⟩))).size = 0 := by
        have : (PySem.Builtin.Str.strSub (⟨l.toArray⟩ : Str) (PySem.stripLo isSign true ⟨l.toArray⟩) (PySem.stripHi isSign true ⟨l.toArray⟩ (PySem.stripLo isSign true ⟨l.toArray⟩))).cps = #[] := hcps
        exact congrArg Array.size this
      rw [Array.size_extract, lo] at h2
      have hi : PySem.stripHi isSign true ⟨l.toArray⟩ (l.takeWhile isSign).length = l.length - ((l.drop (l.takeWhile isSign).length).reverse.takeWhile isSign).length := by
        unfold PySem.stripHi
        rw [if_pos rfl, hlen]
      rw [hi] at h2
      have hsz : (⟨l.toArray⟩ : Str).cps.size = l.length := by simp
      rw [hsz] at h2
      have t1 := takeWhile_le (p := isSign) l
      have t2 := takeWhile_le (p := isSign) ((l.drop (l.takeWhile isSign).length).reverse)
      rw [List.length_reverse, List.length_drop] at t2
      -- the tail's own signs end at the first bad one
      have key : (l.takeWhile isSign).length = l.length ∨ ((l.drop (l.takeWhile isSign).length).reverse.takeWhile isSign).length < l.length - (l.takeWhile isSign).length := by
        by_cases hq : (l.takeWhile isSign).length = l.length
        · exact .inl hq
        · right
          have hne : ((l.drop (l.takeWhile isSign).length).reverse.takeWhile isSign).length ≠ (l.drop (l.takeWhile isSign).length).reverse.length := by
            intro hh
            have ha := takeWhile_all hh
            rw [List.all_reverse] at ha
            have hcat := drop_take (p := isSign) l
            have hall : l.all isSign = true := by
              rw [hcat, List.all_append, ha]
              rw [take_goes l]
              try rfl
            have := all_takeWhile hall
            exact hq (by rw [this])
          rw [List.length_reverse, List.length_drop] at hne
          omega
      rcases key with q | q
      · exact takeWhile_all q
      · omega
  · intro h
    have ht := all_takeWhile h
    split
    · rename_i hs
      unfold PySem.stripSame at hs
      rw [lo, Bool.and_eq_true, ht] at hs
      have h0 : l.length = 0 := by simpa using hs.1
      have hl := List.eq_nil_of_length_eq_zero h0
      subst hl
      rfl
    · unfold PySem.stripped
      show (⟨l.toArray.extract _ _⟩ : Str) = _
      rw [lo, ht]
      have : l.toArray.extract l.length (PySem.stripHi isSign true ⟨l.toArray⟩ l.length) = #[] := by
        apply Array.eq_empty_of_size_eq_zero
        rw [Array.size_extract]
        unfold PySem.stripHi
        rw [if_pos rfl, hlen]
        simp
      rw [this]
      rfl

def rStrip : V → List V → Hp → VK → Prop := fun x xs H Q => ∃ a b, x = .str a ∧ xs = [.str b] ∧ a.length ≤ sizeLine ∧ Q (.str (PySem.Txt.stripChars a b)) H
/-- x.strip("+-0"), told by what is left -/
theorem ev_strip {x : Tx} {z : Str} (hz0 : z = "+-0" := by rfl) (h : Ev K Γ ta ρ (Is x)) (hz : x.s.length ≤ 100000) :
    Ev K Γ (tM1 (fun x xs H Q => ∃ a b, x = .str a ∧ xs = [.str b] ∧ a.length ≤ sizeLine ∧ Q (.str (PySem.Txt.stripChars a b)) H) ta (tC (.str z))) ρ (fun y : Tx => y.s = [] ↔ x.s.all isSign = true) := by
  subst hz0
  exact fun Δ σ H Q s hh e k => h Δ σ H _ s hh e fun v H' a pa e1 r => by
    have ea : a = x := pa
    subst ea
    have ev : v = .str ⟨a.s.toArray⟩ := r
    subst ev
    refine ⟨⟨_, rfl⟩, _, _, rfl, rfl, ?_, k _ H' ⟨(PySem.Txt.stripChars ⟨a.s.toArray⟩ "+-0").cps.toList⟩ ?_ e1 rfl⟩
    · show a.s.toArray.size ≤ sizeLine
      rw [List.size_toArray]
      exact Nat.le_trans hz (by decide)
    · rw [← strip_nil]
      constructor
      · intro q
        generalize PySem.Txt.stripChars ⟨a.s.toArray⟩ "+-0" = y at q
        cases y with
        | mk c =>
          have q' : c.toList = [] := q
          have : c = #[] := by simpa using q'
          rw [this]
          rfl
      · intro q
        rw [q]
        rfl
/-- x.translate(the swap) -/
theorem ev_tr {x : Tx} (h : Ev K Γ ta ρ (Is x)) (hz : x.s.length ≤ 100000) :
    Ev K Γ (tM1 (fun x xs H Q => ∃ (t : List Nat) (d : Addr), x = .str (SX.S t) ∧ xs = [.ref d] ∧ H d = some (.dK swpV) ∧ t.length ≤ 16000000 ∧ Q (.str (SX.S (t.map sw))) H) ta tMk) ρ (Is (⟨x.s.map sw⟩ : Tx)) := fun Δ σ H Q s hh e k =>
  h Δ σ H _ s hh e fun v H' a pa e1 r => by
    have ea : a = x := pa
    subst ea
    have ev : v = .str ⟨a.s.toArray⟩ := r
    subst ev
    refine ⟨⟨_, rfl⟩, fun p hp => ⟨a.s, p, rfl, rfl, upd_same, by omega, k _ _ ⟨a.s.map sw⟩ rfl (e1.trans (Ext.new e1.2 hp _)) rfl⟩⟩
/-! ### built-in calls -/
theorem o1_abs {i : Int} : Op1 K (fun xs H Q => ∃ i, xs = [.int i] ∧ Q (.int (if i < 0 then -i else i)) H) i (Is (if i < 0 then -i else i)) := fun Δ H v Q hh r k => by
  have e : v = .int i := r
  subst e
  exact ⟨i, rfl, k _ H _ rfl (Ext.refl hh) rfl⟩
theorem o1_int {i : Int} : Op1 K (fun xs H Q => (∃ i, xs = [.int i] ∧ Q (.int i) H) ∨ ∃ k, xs = [.bl k] ∧ Q (.int (if k then 1 else 0)) H) i (Is i) := fun Δ H v Q hh r k => by
  have e : v = .int i := r
  subst e
  exact .inl ⟨i, rfl, k _ H _ rfl (Ext.refl hh) rfl⟩
theorem o1_intB {b : Bool} : Op1 K (fun xs H Q => (∃ i, xs = [.int i] ∧ Q (.int i) H) ∨ ∃ k, xs = [.bl k] ∧ Q (.int (if k then 1 else 0)) H) b (Is (if b then (1 : Int) else 0)) := fun Δ H v Q hh r k => by
  have e : v = .bl b := r
  subst e
  exact .inr ⟨b, rfl, k _ H _ rfl (Ext.refl hh) rfl⟩
def rB (b : Bool) : Tx := ⟨(Str.ofString (if b then "True" else "False")).cps.toList⟩
theorem o1_reprB {b : Bool} : Op1 K (fun xs H Q => ∃ b, xs = [.bl b] ∧ Q (.str (if b then "True" else "False")) H) b (Is (rB b)) := fun Δ H v Q hh r k => by
  have e : v = .bl b := r
  subst e
  refine ⟨b, rfl, k _ H _ rfl (Ext.refl hh) ?_⟩
  cases b <;> rfl
theorem o1_tuple {xs : List α} : Op1 K (fun xs H Q => ∃ p ys, xs = [.ref p] ∧ ((SqL K H p ys ∧ ∀ l, H l = none → Q (.ref l) (upd H l (.tup ys))) ∨ (SqT K H p ys ∧ Q (.ref p) H))) xs (Is (⟨xs⟩ : Tup α)) := fun Δ H v Q hh r k => by
  obtain ⟨p, vs, rfl, n, s, q⟩ := r
  exact ⟨p, vs, rfl, .inl ⟨s, fun l hl => k _ _ ⟨xs⟩ rfl (Ext.new hh hl _) (new_tup hh hl q)⟩⟩
/-- tuple(a drawn list) -/
theorem ev_tupleP {P : List α → Prop} (h : Ev K Γ te ρ P) : Ev K Γ (tCB (fun xs H Q => ∃ p ys, xs = [.ref p] ∧ ((SqL K H p ys ∧ ∀ l, H l = none → Q (.ref l) (upd H l (.tup ys))) ∨ (SqT K H p ys ∧ Q (.ref p) H))) (tCons te tNil)) ρ (fun t : Tup α => P t.l) :=
  ev_cb1 h fun x px => fun Δ H v Q hh r k => o1_tuple Δ H v Q hh r fun u H' c pc => k u H' c (by rw [show c = ⟨x⟩ from pc]; exact px)
/-- isinstance(x, T) -/
theorem ev_isi {c : String} {tn : String} {x : α} {b : Bool} (h : Ev K Γ te ρ (Is x)) (ty : ∀ Δ H v, Rp.rp K Δ H v x → TyX K H v (.type tn)) (hb : PySem.W.kitOne K (.type tn) (.type c) = some b) :
    Ev K Γ (tCB (rIsi K) (tCons te (tCons (tC (.ty c)) tNil))) ρ (Is b) := fun Δ σ H Q s hh e k =>
  h Δ σ H _ s hh e fun v H' a pa e1 r => by
    have ea : a = x := pa
    subst ea
    exact ⟨v, .ty c, _, _, b, rfl, .ty c, ty Δ H' v r, hb, k _ H' _ rfl e1 rfl⟩
theorem ty_tx {x : Tx} : ∀ Δ H v, Rp.rp K Δ H v x → TyX K H v (.type "str") := fun Δ H v r => by
  have e : v = .str ⟨x.s.toArray⟩ := r
  subst e
  exact .base (.str _)
theorem ty_int {x : Int} : ∀ Δ H v, Rp.rp K Δ H v x → TyX K H v (.type "int") := fun Δ H v r => by
  have e : v = .int x := r
  subst e
  exact .base (.int _)
theorem ty_bl {x : Bool} : ∀ Δ H v, Rp.rp K Δ H v x → TyX K H v (.type "bool") := fun Δ H v r => by
  have e : v = .bl x := r
  subst e
  exact .base (.bl _)
theorem ty_tup {x : Tup α} : ∀ Δ H v, Rp.rp K Δ H v x → TyX K H v (.type "tuple") := fun Δ H v r => by
  obtain ⟨p, vs, rfl, n, s, q⟩ := r
  rcases n with ⟨_, n | ⟨o, n⟩⟩ | ⟨o, its, m, e, c, _⟩
  · exact .base (.tup n)
  · exact .fTuple n
  · exact .kTuple e c
theorem ty_list {x : List α} : ∀ Δ H v, Rp.rp K Δ H v x → TyX K H v (.type "list") := fun Δ H v r => by
  obtain ⟨p, vs, rfl, n, s, q⟩ := r
  rcases n with ⟨_, n | ⟨o, n⟩⟩ | ⟨o, its, m, e, c, _⟩
  · exact .base (.lst n)
  · exact .base (.frz n)
  · exact .kList e c
theorem ty_non {x : Unit} : ∀ Δ H v, Rp.rp K Δ H v x → TyX K H v (.type "NoneType") := fun Δ H v r => by
  have e : v = .non := r
  subst e
  exact .base .non
/-- x is None, for a datum that is or is not -/
theorem ev_isN {x : α} {b : Bool} (h : Ev K Γ te ρ (Is x)) (hb : ∀ Δ H v, Rp.rp K Δ H v x → decide (v = .non) = b) : Ev K Γ (tOp (fun x y H Q => y = .non ∧ Q (.bl (decide (x = .non))) H) te (tC .non)) ρ (Is b) := fun Δ σ H Q s hh e k =>
  h Δ σ H _ s hh e fun v H' a pa e1 r => ⟨rfl, k _ H' b rfl e1 (by
    have ea : a = x := pa
    subst ea
    show V.bl _ = V.bl _
    rw [hb Δ H' v r])⟩
/-- '0' * n -/
theorem mul_tx (c : Nat) (n : Nat) : PySem.Txt.mul ⟨#[c]⟩ (n : Int) = ⟨(List.replicate n c).toArray⟩ := by
  unfold PySem.Txt.mul
  split
  · rename_i h
    have : n = 0 := by omega
    subst this
    rfl
  · split
    · rename_i h1 h2
      have h3 : n = 1 := by
        simp [Str.length] at h2
        omega
      subst h3
      rfl
    · show (⟨_⟩ : Str) = _
      have key : ∀ (m : Nat) (acc : Array Nat), (List.replicate m (#[c] : Array Nat)).foldl (· ++ ·) acc = acc ++ (List.replicate m c).toArray := by
        intro m
        induction m with
        | zero => intro acc; simp
        | succ m ih =>
          intro acc
          rw [List.replicate_succ, List.foldl_cons, ih, List.replicate_succ]
          apply Array.toList_inj.mp
          simp
      rw [show ((n : Int)).toNat = n from Int.toNat_natCast n, key n #[], Array.empty_append]
theorem o2_mulS {c : Nat} {x : Tx} {n : Nat} (hx : x = ⟨[c]⟩) (hn : n ≤ 10000) : Op2 K rMulS x (n : Int) (Is (⟨List.replicate n c⟩ : Tx)) := fun Δ H v w Q hh r1 r2 k => by
  subst hx
  have e1 : v = .str ⟨#[c]⟩ := r1
  have e2 : w = .int n := r2
  subst e1 e2
  refine ⟨_, _, rfl, rfl, ⟨?_, ?_, ?_⟩, k _ H _ rfl (Ext.refl hh) ?_⟩
  · have h1 : ¬ ((n : Int) < -(2 ^ 63 : Int)) := by omega
    have h2 : ¬ ((n : Int) ≥ 2 ^ 63) := by omega
    rw [decide_eq_false h1, decide_eq_false h2]
    rfl
  · intro h1 _
    have hl : (⟨#[c]⟩ : Str).length = 1 := rfl
    rw [hl]
    have : (1 : Int) ≤ (2 ^ 63 - 1) / (n : Int) := by
      rw [Int.le_ediv_iff_mul_le (by omega)]
      omega
    omega
  · intro h1 _
    have hl : (⟨#[c]⟩ : Str).length = 1 := rfl
    rw [hl]
    exact PyProof.Rows.short24 (by omega)
  · show V.str _ = V.str _
    rw [mul_tx]
theorem o2_addS {x y : Tx} (hz : x.s.length + y.s.length ≤ 100000) : Op2 K (fun x y H Q => ∃ i j, x = .str i ∧ y = .str j ∧ i.length + j.length ≤ sizeLine ∧ Q (.str (i ++ j)) H) x y (Is (⟨x.s ++ y.s⟩ : Tx)) := fun Δ H v w Q hh r1 r2 k => by
  have e1 : v = .str ⟨x.s.toArray⟩ := r1
  have e2 : w = .str ⟨y.s.toArray⟩ := r2
  subst e1 e2
  refine ⟨_, _, rfl, rfl, ?_, k _ H _ rfl (Ext.refl hh) ?_⟩
  · show x.s.toArray.size + y.s.toArray.size ≤ sizeLine
    rw [List.size_toArray, List.size_toArray]
    exact Nat.le_trans hz (by decide)
  · show V.str ⟨x.s.toArray ++ y.s.toArray⟩ = V.str ⟨(x.s ++ y.s).toArray⟩
    simp
end
end Z

set_option Elab.async false
set_option linter.all false
set_option maxRecDepth 100000
set_option maxHeartbeats 1000000
namespace Z
open PySem PySem.Spec PyProof.Rows L2
section
variable {K : PySem.W.Frag} {Γ : Own} {ρ : Env} {ta tb tc te : TE} {t u : TT} {α β γ : Type} [Rp α] [Rp β] [Rp γ] {Pa : α → Prop} {Pb : β → Prop} {Pc : γ → Prop}
theorem src_str {tl : TE} {j : Nat} {x : Tx} {c0 : Nat → Nat} (h : Ev K Γ tl ρ (Is x)) (hx : ∀ i, i < x.s.length → x.s[i]? = some (c0 i)) (hj : j < ρ.length) : Src K Γ (iStr tl) (gName j) ρ [j] x.s.length (fun i ρ => ρ.set j (some ⟨(⟨[c0 i]⟩ : Tx)⟩)) := fun Δ σ H R s hh e k =>
  h Δ σ H _ s hh e fun v H' a pa e1 r => by
    have ea : a = x := pa
    subst ea
    have ev : v = .str ⟨a.s.toArray⟩ := r
    subst ev
    refine ⟨_, rfl, k _ H' .non ⟨()⟩ e1 rfl (fun Δ' H2 _ => ⟨fun i hi => ?_, ?_⟩) fun Δ' i H2 y H3 hi h2 _ yy => ?_⟩
    · show i < a.s.toArray.size
      simpa using hi
    · show a.s.toArray.size ≤ a.s.length
      simp
    · obtain ⟨rfl, c, hc, rfl⟩ := (show H3 = H2 ∧ ∃ c, a.s.toArray[i]? = some c ∧ y = .str ⟨#[c]⟩ from yy)
      have ec2 : c = c0 i := by
        have q1 : a.s[i]? = some c := by simpa using hc
        exact Option.some.inj (q1.symm.trans (hx i hi))
      subst ec2
      exact ⟨Ext.refl h2, fun σ' ρ' Qs hl e' q => q _ (e'.set (c := ⟨(⟨[c0 i]⟩ : Tx)⟩) (by rw [hl]; exact hj) rfl) (set_off (js := [j]) (List.mem_singleton_self j)).1 (set_off (js := [j]) (List.mem_singleton_self j)).2⟩
/-- {'+': '-', '-': '+', '0': '0'}[c] -/
theorem ev_flip {c : Nat} (hc : isSign c = true) (h : Ev K Γ te ρ (Is (⟨[c]⟩ : Tx))) :
    Ev K Γ (tDGet (tDisp [(tC (.str "+"), tC (.str "-")), (tC (.str "-"), tC (.str "+")), (tC (.str "0"), tC (.str "0"))]) te) ρ (Is (⟨[sw c]⟩ : Tx)) := fun Δ σ H Q s hh e k => by
  intro p hp
  have hh1 : Hold Δ (upd H p (.dK [])) := hh.new hp _
  have n : Δ p = none := hh.fresh hp
  refine ⟨upd_same, [(.inr "+", .str "-"), (.inr "-", .str "+"), (.inr "0", .str "0")], rfl, by decide, ?_⟩
  have e2 : Ext Δ H (upd (upd H p (.dK [])) p (.dK (mergeK [] [(.inr "+", .str "-"), (.inr "-", .str "+"), (.inr "0", .str "0")]))) := by
    rw [upd_upd]
    exact Ext.new hh hp _
  refine h Δ σ _ _ s e2.2 (e.mono e2.1) fun v H' a pa e3 r => ?_
  have ea : a = ⟨[c]⟩ := pa
  subst ea
  have ev : v = .str ⟨#[c]⟩ := r
  subst ev
  have hd : H' p = some (.dK (mergeK [] [(.inr "+", .str "-"), (.inr "-", .str "+"), (.inr "0", .str "0")])) := e3.1 p _ n upd_same
  unfold isSign at hc
  simp only [Bool.or_eq_true, beq_iff_eq] at hc
  have hm : mergeK [] ([(.inr "+", .str "-"), (.inr "-", .str "+"), (.inr "0", .str "0")] : List (Key × V)) = [(.inr "+", .str "-"), (.inr "-", .str "+"), (.inr "0", .str "0")] := by decide +kernel
  rw [hm] at hd
  rcases hc with (rfl | rfl) | rfl
  · exact ⟨p, .str "-", rfl, .inl ⟨_, .inr "+", .inl hd, rfl, by decide +kernel⟩, k _ H' _ rfl (e2.trans e3) rfl⟩
  · exact ⟨p, .str "+", rfl, .inl ⟨_, .inr "-", .inl hd, rfl, by decide +kernel⟩, k _ H' _ rfl (e2.trans e3) rfl⟩
  · exact ⟨p, .str "0", rfl, .inl ⟨_, .inr "0", .inl hd, rfl, by decide +kernel⟩, k _ H' _ rfl (e2.trans e3) rfl⟩
/-! ### the dice: three ints, none below 0 -/
def DiceI : HO → Prop := fun o => ∃ x y z : Int, o = .lst [.int x, .int y, .int z] ∧ 0 ≤ x ∧ 0 ≤ y ∧ 0 ≤ z
/-- an item of the dice -/
theorem ev_dice {p : Addr} {i : Nat} (hp : (p, DiceI) ∈ Γ) (hi : i < 3) (h : Ev K Γ ta ρ (Is (⟨p⟩ : Loc))) : Ev K Γ (tOp (rIxL K) ta (tC (.int (i : Int)))) ρ (fun n : Int => 0 ≤ n) := fun Δ σ H Q s hh e k =>
  h Δ σ H _ s hh e fun v H' a pa e1 r => by
    have ea : a = ⟨p⟩ := pa
    subst ea
    have ev : v = .ref p := r
    subst ev
    obtain ⟨o, ho, x, y, z, rfl, h1, h2, h3⟩ := e1.2 p DiceI (s _ hp)
    match i, hi with
    | 0, _ => exact ⟨p, _, 0, .int x, rfl, rfl, .inl (.inl ho), atI_nat (j := 0) rfl, k _ H' x h1 e1 rfl⟩
    | 1, _ => exact ⟨p, _, 1, .int y, rfl, rfl, .inl (.inl ho), atI_nat (j := 1) rfl, k _ H' y h2 e1 rfl⟩
    | 2, _ => exact ⟨p, _, 2, .int z, rfl, rfl, .inl (.inl ho), atI_nat (j := 2) rfl, k _ H' z h3 e1 rfl⟩
end
section
variable {K : PySem.W.Frag} {Δ0 : Gh} {H0 : Hp} {Γ : Own} {F : List (V × Cell)} {ρ : Env} {ta tb te : TE} {tz : TS} {D : Ends} {α : Type} [Rp α]
/-- dice[i] = n -/
theorem wp_dice {p : Addr} {i : Nat} (hp : (p, DiceI) ∈ Γ) (hi : i < 3) (h : Ev K Γ te ρ (fun n : Int => 0 ≤ n)) (ho : Ev K Γ ta ρ (Is (⟨p⟩ : Loc))) (k : Wp K Δ0 H0 Γ F ρ tz D) : Wp K Δ0 H0 Γ F ρ (tSeq (tAsg te (gSub ta (tC (.int (i : Int))) rSetL)) tz) D := fun σ H ⟨Δ, s, hh, e, f, e0, s1, s2⟩ =>
  h Δ σ H _ s hh e fun v H1 n hn e1 r1 => ho Δ σ H1 _ s e1.2 (e.mono e1.1) fun w H2 a pa e2 r2 => by
    have ea : a = ⟨p⟩ := pa
    subst ea
    have ew : w = .ref p := r2
    subst ew
    have ev : v = .int n := r1
    subst ev
    have hΔ : Δ p = some DiceI := s _ hp
    obtain ⟨o, ho, x, y, z, rfl, h1, h2, h3⟩ := e2.2 p DiceI hΔ
    have fin : ∀ x' y' z' : Int, 0 ≤ x' → 0 ≤ y' → 0 ≤ z' → tz D σ (upd H2 p (.lst [.int x', .int y', .int z'])) := fun x' y' z' g1 g2 g3 => by
      have e3 : Ext Δ H2 (upd H2 p (.lst [.int x', .int y', .int z'])) := ⟨fun a o n q => by
          have hne : a ≠ p := fun z => by
            rw [z, hΔ] at n
            cases n
          rw [upd_ne hne]
          exact q, fun a I q => by
          by_cases ha : a = p
          · rw [ha, hΔ] at q
            cases q
            exact ⟨_, by rw [ha]; exact upd_same, x', y', z', rfl, g1, g2, g3⟩
          · obtain ⟨u, hu, iu⟩ := e2.2 a I q
            exact ⟨u, by rw [upd_ne ha]; exact hu, iu⟩⟩
      have e4 := e1.trans (e2.trans e3)
      exact k σ _ ⟨Δ, s, e4.2, e.mono e4.1, fun q hq => q.2.r.mono e4.1 (f q hq), ext0 e0 s1 s2 e4, s1, s2⟩
    match i, hi with
    | 0, _ => exact ⟨p, _, 0, 0, rfl, rfl, ho, rfl, fin n y z hn h2 h3⟩
    | 1, _ => exact ⟨p, _, 1, 1, rfl, rfl, ho, rfl, fin x n z h1 hn h3⟩
    | 2, _ => exact ⟨p, _, 2, 2, rfl, rfl, ho, rfl, fin x y n h1 h2 hn⟩
end
end Z
namespace Z
open PySem PySem.Spec PyProof.Rows L2
theorem ltr {a b : Nat} (h : Nat.blt a b = true) : a < b := Nat.le_of_ble_eq_true h
theorem tx1 {a b : Nat} : ((⟨[a]⟩ : Tx) = ⟨[b]⟩) ↔ a = b := by simp
section
variable {K : PySem.W.Frag} {Γ : Own} {ρ : Env}
theorem ev_strc {x : Str} (l : List Nat) (h : x.cps.toList = l := by decide +kernel) : Ev K Γ (tC (.str x)) ρ (Is (⟨l⟩ : Tx)) := by
  subst h
  exact ev_str
end
end Z
namespace Z
open PySem PySem.Spec PyProof.Rows L2
section
variable {K : PySem.W.Frag} {Δ0 : Gh} {H0 : Hp} {Γ : Own} {F : List (V × Cell)} {ρ : Z.Env} {ta tb te : TE} {D : Ends}
/-- the end of a def that hands back nothing -/
theorem wp_none {P : Unit → Prop} (hp : P ()) (hn : ∀ b : Unit, P b → (∀ H', Rp.rp K Δ0 H' .non b) → ∀ σ H', Ext Δ0 H0 H' → D.nx σ H') : Wp K Δ0 H0 Γ F ρ tNext D := fun σ H ⟨Δ, s, hh, e, f, e0, s1, s2⟩ => hn () hp (fun _ => rfl) σ H e0
theorem ev_stripEq {x : Tx} {z : Str} (hz0 : z = "+-0" := by rfl) {y : Str} (hy : y.cps.toList = [] := by decide +kernel) (h : Ev K Γ ta ρ (Is x)) (hz : x.s.length ≤ 100000) :
    Ev K Γ (tOp rEq (tM1 (fun x xs H Q => ∃ a b, x = .str a ∧ xs = [.str b] ∧ a.length ≤ sizeLine ∧ Q (.str (PySem.Txt.stripChars a b)) H) ta (tC (.str z))) (tC (.str y))) ρ (Is (x.s.all isSign)) :=
  ev_op (ev_strip hz0 h hz) (ev_strc [] hy) fun a b pa pb => by
    rw [show b = _ from pb]
    have e : decide (a = (⟨[]⟩ : Tx)) = x.s.all isSign := by
      have q : (a = (⟨[]⟩ : Tx)) ↔ x.s.all isSign = true := by
        rw [← pa]
        constructor
        · intro q; rw [q]
        · intro q; cases a; exact congrArg Tx.mk q
      by_cases hq : x.s.all isSign = true
      · rw [hq, decide_eq_true (q.mpr hq)]
      · rw [decide_eq_false (fun z => hq (q.mp z))]
        simpa using hq
    rw [← e]
    exact o2_eqS
/-- a def's answer by its default arguments -/
theorem dv_non : ∀ Δ H, ArgsOk K Δ H [V.non] [⟨()⟩] := fun _ _ => ⟨rfl, trivial⟩
end
end Z

set_option Elab.async false
set_option linter.all false
set_option maxRecDepth 100000
set_option maxHeartbeats 1000000
/-! the same rules with the written part as a letter, for blocks -/
namespace Z
open PySem PySem.Spec PyProof.Rows L2
section
variable {X : Cx} {K : PySem.W.Frag}
theorem op_inK (h : X.K = K := by rfl) : OpR X (compareOp .In) (rIn K false) := by subst h; exact op_in_seq
theorem op_notInK (h : X.K = K := by rfl) : OpR X (compareOp .NotIn) (rIn K true) := by subst h; exact op_notIn_seq
theorem ix_listK (h : X.K = K := by rfl) : IxR X (rIxL K) := by subst h; exact ix_list
theorem ix_tupK (h : X.K = K := by rfl) : IxR X (rIxT K) := by subst h; exact ix_tup
theorem call_lenK (h : X.K = K := by rfl) : CallR X (.builtin "len") (fun xs H Q => ∃ x n, xs = [x] ∧ LenV K x H n ∧ Q (.int n) H) := by subst h; exact call_len
theorem call_isK (h : X.K = K := by rfl) : CallR X (.builtin "isinstance") (rIsi K) := by subst h; exact call_isi
theorem call_tupK (h : X.K = K := by rfl) : CallR X (.type "tuple") (fun xs H Q => ∃ p ys, xs = [.ref p] ∧ ((SqL K H p ys ∧ ∀ l, H l = none → Q (.ref l) (upd H l (.tup ys))) ∨ (SqT K H p ys ∧ Q (.ref p) H))) := by subst h; exact call_tuple_of
theorem call_lstK (h : X.K = K := by rfl) : CallR X (.type "list") (fun xs H Q => ∃ p ys, xs = [.ref p] ∧ (SqL K H p ys ∨ SqT K H p ys) ∧ ∀ l, H l = none → Q (.ref l) (upd H l (.lst ys))) := by subst h; exact call_list_of
theorem cr_allK (hc : X.calm = true) (h : X.K = K := by rfl) : CallR X (.builtin "all") (rAll K) := by subst h; exact cr_all hc
theorem op_eqK (hu : X.A.units + 64 < cLine) (h : X.K = K := by rfl) : OpR X (compareOp .Eq) (rEqD K) := by subst h; exact op_eqD hu
theorem op_neK (hu : X.A.units + 64 < cLine) (h : X.K = K := by rfl) : OpR X (compareOp .NotEq) (rNeD K) := by subst h; exact op_neD hu
variable {o e : Expr} {to te : TE} {tg : Expr}
theorem pe_joinK {apos pos : Pos} (ho : PE X o to) (he : PE X e te) (h : X.K = K := by rfl) (hs : starEach [e] X.env = [(false, eval e X.env)] := by rfl) (hbase : attributeBase o "join" X.env (eval o X.env) = eval o X.env := by rfl) (hline : (apos.endLine == pos.line) = true := by rfl) :
    PE X (.Call (.Attribute o "join" apos) [e] [] pos) (tM1 (rJoin K) to te) := by subst h; exact pe_join ho he hs hbase hline
theorem pi_listK {l : Expr} {tl : TE} (hl : PE X l tl) (h : X.K = K := by rfl) : PI X tg l (iList K tl) := by subst h; exact pi_list hl
theorem pi_tupK {l : Expr} {tl : TE} (hl : PE X l tl) (h : X.K = K := by rfl) : PI X tg l (iTup K tl) := by subst h; exact pi_tup hl
end
end Z

set_option Elab.async false
set_option linter.all false
set_option maxRecDepth 100000
set_option maxHeartbeats 1000000
/-! lists of a def's own that it changes -/
namespace Z
open PySem PySem.Spec PyProof.Rows L2
section
variable {K : PySem.W.Frag} {Δ0 : Gh} {H0 : Hp} {Γ : Own} {F : List (V × Cell)} {ρ : Z.Env} {ta tb te : TE} {tz : TS} {D : Ends}
structure OwnP (Δ0 : Gh) (Γ : Own) (p : Addr) : Prop where
  n0 : Δ0 p = none
  ne : ∀ q ∈ Γ, q.1 ≠ p
theorem ghD_self {Δ : Gh} {D : Addr} {vs : List V} : ghD Δ D vs D = some (LstIs vs) := by
  show (if D = D then _ else _) = _
  rw [if_pos rfl]
  rfl
theorem ghD_other {Δ : Gh} {D x : Addr} {vs : List V} (h : x ≠ D) : ghD Δ D vs x = Δ x := by
  show (if x = D then _ else _) = _
  rw [if_neg h]
theorem own_new {Δ : Gh} {σ : L2.St} {H : Hp} {p : Addr} {vs : List V} (s : Sat Γ Δ) (hh : Hold Δ H) (e : EnvOk K Δ σ H ρ) (f : ∀ f ∈ F, f.2.rp K Δ H f.1) (e0 : Ext Δ0 H0 H) (s1 : ∀ x I, Δ0 x = some I → Δ x = some I) (s2 : ∀ x, Δ0 x = none → Δ x ≠ none → H0 x = none) (hp : H p = none) :
    OwnP Δ0 Γ p ∧ Stt K Δ0 H0 ((p, LstIs vs) :: Γ) F ρ σ (upd H p (.lst vs)) := by
  have nD : Δ p = none := hh.fresh hp
  have n0 : Δ0 p = none := none0 s1 nD
  have ne : ∀ q ∈ Γ, q.1 ≠ p := fun q hq z => by
    have h := s q hq
    rw [z, nD] at h
    cases h
  have kp : Keep (ghD Δ p vs) H (upd H p (.lst vs)) := fun a o _ q => by rw [upd_ne (ne_of_none q hp)]; exact q
  refine ⟨⟨n0, ne⟩, ghD Δ p vs, fun q hq => ?_, (gh_first hh hp).1, (e.weak (ghD_new hp)).mono kp, fun q hq => q.2.r.mono kp (q.2.r.weak (ghD_new hp) (f q hq)), ext0 e0 s1 s2 (Ext.new hh hp _), fun x I q => ?_, fun x n m => ?_⟩
  · rcases List.mem_cons.mp hq with z | z
    · rw [z]; exact ghD_self
    · rw [ghD_other (ne q z)]; exact s q z
  · have hne : x ≠ p := fun z => by
      rw [z, n0] at q
      cases q
    rw [ghD_other hne]
    exact s1 x I q
  · by_cases hx : x = p
    · subst hx
      cases q : H0 x with
      | none => rfl
      | some o =>
        have := e0.1 x o n0 q
        rw [hp] at this
        cases this
    · rw [ghD_other hx] at m
      exact s2 x n m
theorem own_put {σ : L2.St} {H : Hp} {p : Addr} {vs ws : List V} (o : OwnP Δ0 Γ p) (st : Stt K Δ0 H0 ((p, LstIs vs) :: Γ) F ρ σ H) : H p = some (.lst vs) ∧ Stt K Δ0 H0 ((p, LstIs ws) :: Γ) F ρ σ (upd H p (.lst ws)) := by
  obtain ⟨Δ, s, hh, e, f, e0, s1, s2⟩ := st
  have hΔ : Δ p = some (LstIs vs) := s (p, LstIs vs) List.mem_cons_self
  obtain ⟨u, hu, iu⟩ := hh p _ hΔ
  have iu' : u = HO.lst vs := iu
  subst iu'
  have kp : Keep Δ H (upd H p (.lst ws)) := fun a o n q => by
    have hne : a ≠ p := fun z => by
      rw [z, hΔ] at n
      cases n
    rw [upd_ne hne]
    exact q
  have wk : ∀ {H : Hp} x o, H x = some o → Δ x = none → ghD Δ p ws x = none := fun x o _ n => by
    have hne : x ≠ p := fun z => by
      rw [z, hΔ] at n
      cases n
    rw [ghD_other hne]
    exact n
  refine ⟨hu, ghD Δ p ws, fun q hq => ?_, fun a I q => ?_, (e.mono kp).weak wk, fun q hq => q.2.r.weak wk (q.2.r.mono kp (f q hq)), ⟨fun a o' n q => ?_, fun a I q => ?_⟩, fun x I q => ?_, fun x n m => ?_⟩
  · rcases List.mem_cons.mp hq with z | z
    · rw [z]; exact ghD_self
    · rw [ghD_other (o.ne q z)]; exact s q (List.mem_cons_of_mem _ z)
  · by_cases ha : a = p
    · subst ha
      rw [ghD_self] at q
      cases q
      exact ⟨_, upd_same, rfl⟩
    · rw [ghD_other ha] at q
      obtain ⟨u, hu, iu⟩ := hh a I q
      exact ⟨u, by rw [upd_ne ha]; exact hu, iu⟩
  · have h1 := e0.1 a o' n q
    have hne : a ≠ p := fun z => by
      subst z
      have := s2 a n (by rw [hΔ]; exact fun z => by cases z)
      rw [q] at this
      cases this
    rw [upd_ne hne]
    exact h1
  · have hne : a ≠ p := fun z => by
      rw [z, o.n0] at q
      cases q
    obtain ⟨u, hu, iu⟩ := e0.2 a I q
    exact ⟨u, by rw [upd_ne hne]; exact hu, iu⟩
  · have hne : x ≠ p := fun z => by
      rw [z, o.n0] at q
      cases q
    rw [ghD_other hne]
    exact s1 x I q
  · by_cases hx : x = p
    · subst hx
      exact s2 x n (by rw [hΔ]; exact fun z => by cases z)
    · rw [ghD_other hx] at m
      exact s2 x n m
theorem rep_flat {α : Type} {x : α} : ∀ m : Nat, (List.replicate m [x]).flatten = List.replicate m x
  | 0 => rfl
  | m + 1 => by
    rw [List.replicate_succ, List.flatten_cons, List.replicate_succ, rep_flat m]
    rfl
/-- name = [one text] * n -/
theorem wp_rep {i : Nat} {z : Str} {m : Nat} (hb : Ev K Γ tb ρ (Is (m : Int))) (hm : m ≤ 10000) (hi : i < ρ.length) (k : ∀ p, OwnP Δ0 Γ p → Wp K Δ0 H0 ((p, LstIs (List.replicate m (V.str z))) :: Γ) F (ρ.set i (some ⟨(⟨p⟩ : Loc)⟩)) tz D) :
    Wp K Δ0 H0 Γ F ρ (tSeq (tAsg (tOp rRep (tLst (tCons (tC (.str z)) tNil)) tb) (gName i)) tz) D := fun σ H ⟨Δ, s, hh, e, f, e0, s1, s2⟩ => by
  refine ⟨by show 1 ≤ sizeLine; decide, fun q hq => ?_⟩
  have e1 : Ext Δ H (upd H q (.lst [.str z])) := Ext.new hh hq _
  refine hb Δ σ _ _ s e1.2 (e.mono e1.1) fun v H2 a pa e2 r => ?_
  have ea : a = (m : Int) := pa
  subst ea
  have ev : v = .int m := r
  subst ev
  have hq2 : H2 q = some (.lst [.str z]) := e2.1 q _ (hh.fresh hq) upd_same
  refine ⟨q, m, _, rfl, rfl, hq2, by omega, by omega, ?_, fun p hp => ?_⟩
  · have h1 : ([V.str z] : List V).length * ((m : Int)).toNat = m := by rw [Int.toNat_natCast]; show 1 * m = m; omega
    rw [h1]
    exact Nat.le_trans hm (by decide)
  · have hf : (List.replicate ((m : Int)).toNat [V.str z]).flatten = List.replicate m (V.str z) := by rw [Int.toNat_natCast, rep_flat]
    rw [hf]
    have e3 := e1.trans e2
    obtain ⟨o, st⟩ := own_new (vs := List.replicate m (V.str z)) s e3.2 (e.mono e3.1) (fun q hq => q.2.r.mono e3.1 (f q hq)) (ext0 e0 s1 s2 e3) s1 s2 hp
    obtain ⟨Δ', s', hh', e', f', e0', s1', s2'⟩ := st
    exact k p o _ _ ⟨Δ', s', hh', e'.set (c := ⟨(⟨p⟩ : Loc)⟩) hi rfl, f', e0', s1', s2'⟩
/-- name[j] = e, the list one's own -/
theorem wp_put {p : Addr} {vs : List V} {j : Nat} {x : Tx} (o : OwnP Δ0 Γ p) (h : Ev K ((p, LstIs vs) :: Γ) te ρ (Is x)) (ha : Ev K ((p, LstIs vs) :: Γ) ta ρ (Is (⟨p⟩ : Loc))) (hb : Ev K ((p, LstIs vs) :: Γ) tb ρ (Is (j : Int))) (hj : j < vs.length)
    (k : Wp K Δ0 H0 ((p, LstIs (vs.set j (.str ⟨x.s.toArray⟩))) :: Γ) F ρ tNext D) : Wp K Δ0 H0 ((p, LstIs vs) :: Γ) F ρ (tAsg te (gSub ta tb rSetL)) D := fun σ H ⟨Δ, s, hh, e, f, e0, s1, s2⟩ =>
  h Δ σ H _ s hh e fun v H1 a pa e1 r1 => ha Δ σ H1 _ s e1.2 (e.mono e1.1) fun w H2 b pb e2 r2 => hb Δ σ H2 _ s e2.2 (e.mono (e1.trans e2).1) fun u H3 c pc e3 r3 => by
    have ea : a = x := pa
    have eb : b = ⟨p⟩ := pb
    have ec : c = (j : Int) := pc
    subst ea eb ec
    have ev : v = .str ⟨a.s.toArray⟩ := r1
    have ew : w = .ref p := r2
    have eu : u = .int j := r3
    subst ev ew eu
    have e4 := e1.trans (e2.trans e3)
    have st : Stt K Δ0 H0 ((p, LstIs vs) :: Γ) F ρ σ H3 := ⟨Δ, s, e4.2, e.mono e4.1, fun q hq => q.2.r.mono e4.1 (f q hq), ext0 e0 s1 s2 e4, s1, s2⟩
    obtain ⟨hp, st'⟩ := own_put (ws := vs.set j (.str ⟨a.s.toArray⟩)) o st
    exact ⟨p, vs, j, j, rfl, rfl, hp, Evl.ixN_nat hj, k σ _ st'⟩
/-- "".join of one's own list -/
theorem ev_joinO {p : Addr} {xs : List Tx} {z : Str} (ha : Ev K ((p, LstIs ((xs.map fun x => (⟨x.s.toArray⟩ : Str)).map V.str)) :: Γ) ta ρ (Is (⟨p⟩ : Loc))) (hz : ((xs.map (·.s)).flatten).length ≤ 100000) (hz0 : z = "" := by rfl) :
    Ev K ((p, LstIs ((xs.map fun x => (⟨x.s.toArray⟩ : Str)).map V.str)) :: Γ) (tM1 (rJoin K) (tC (.str z)) ta) ρ (Is (⟨(xs.map (·.s)).flatten⟩ : Tx)) := by
  subst hz0
  exact fun Δ σ H Q s hh e k => ⟨⟨_, rfl⟩, ha Δ σ H _ s hh e fun v H' a pa e1 r => by
    have ea : a = ⟨p⟩ := pa
    subst ea
    have ev : v = .ref p := r
    subst ev
    obtain ⟨u, hu, iu⟩ := e1.2 p _ (s _ List.mem_cons_self)
    have iu' : u = HO.lst _ := iu
    subst iu'
    refine ⟨Str.empty, p, _, rfl, rfl, .inl (.inl (.inl hu)), ?_, k _ H' _ rfl e1 (by show V.str _ = V.str _; rw [join_tx])⟩
    rw [sum_len]
    have e0 : Str.empty.length = 0 := rfl
    rw [e0]
    omega⟩
end
end Z

set_option Elab.async false
set_option linter.all false
set_option maxRecDepth 100000
set_option maxHeartbeats 1000000
/-! == of data, further statements -/
namespace Z
open PySem PySem.Spec PyProof.Rows L2
section
variable {α β : Type} [Rp α] [Rp β]
instance : Rp (α ⊕ β) where
  rp K Δ H v x := match x with
    | .inl a => Rp.rp K Δ H v a
    | .inr b => Rp.rp K Δ H v b
  mono {K Δ H H' v x} k h := match x, h with
    | .inl a, h => Rp.mono (a := a) k h
    | .inr b, h => Rp.mono (a := b) k h
  weak {K Δ Δ' H v x} w h := match x, h with
    | .inl a, h => Rp.weak (a := a) w h
    | .inr b, h => Rp.weak (a := b) w h
/-- a datum as the library tells it -/
class Dt (α : Type) [Rp α] where
  d : α → PyData
  ok : ∀ {K : PySem.W.Frag} {Δ : Gh} {H : Hp} {v : V} {a : α}, Rp.rp K Δ H v a → Dp K H v (d a)
instance : Dt Int := ⟨fun i => .int i, fun {K Δ H v a} h => by rw [show v = .int a from h]; exact .int a⟩
instance : Dt Bool := ⟨fun i => .bool i, fun {K Δ H v a} h => by rw [show v = .bl a from h]; exact .bl a⟩
instance : Dt Tx := ⟨fun x => .str ⟨x.s.toArray⟩, fun {K Δ H v a} h => by rw [show v = .str ⟨a.s.toArray⟩ from h]; exact .str _⟩
instance : Dt Unit := ⟨fun _ => .none, fun {K Δ H v a} h => by rw [show v = .non from h]; exact .non⟩
theorem dall {K : PySem.W.Frag} {Δ : Gh} {H : Hp} [Dt α] : ∀ {vs : List V} {xs : List α}, All2 (fun u a => Rp.rp K Δ H u a) vs xs → DpAll K H vs (xs.map Dt.d)
  | [], [], _ => .nil
  | [], _ :: _, q => q.elim
  | _ :: _, [], q => q.elim
  | v :: vs, x :: xs, q => .cons (Dt.ok q.1) (dall q.2)
instance [Dt α] : Dt (List α) := ⟨fun xs => .list (xs.map Dt.d), fun {K Δ H v a} h => by
  obtain ⟨p, vs, rfl, n, s, q⟩ := h
  exact .lst s (dall q)⟩
instance [Dt α] : Dt (Tup α) := ⟨fun xs => .tuple (xs.l.map Dt.d), fun {K Δ H v a} h => by
  obtain ⟨p, vs, rfl, n, s, q⟩ := h
  exact .tup s (dall q)⟩
instance [Dt α] [Dt β] : Dt (α × β) := ⟨fun x => .tuple [Dt.d x.1, Dt.d x.2], fun {K Δ H v a} h => by
  obtain ⟨p, a, b, rfl, n, s, q, r⟩ := h
  exact .tup s (.cons (Dt.ok q) (.cons (Dt.ok r) .nil))⟩
instance [Dt α] [Dt β] : Dt (α ⊕ β) := ⟨fun x => match x with
  | .inl a => Dt.d a
  | .inr b => Dt.d b, fun {K Δ H v x} h => match x, h with
  | .inl a, h => Dt.ok (a := a) h
  | .inr b, h => Dt.ok (a := b) h⟩
variable {K : PySem.W.Frag} {Γ : Own} {ρ : Z.Env} {ta tb te : TE}
theorem o2_eqD [Dt α] [Dt β] {x : α} {y : β} (hx : SeqAt.shaped (Dt.d x) = true) (hy : SeqAt.shaped (Dt.d y) = true) : Op2 K (rEqD K) x y (Is (PyData.eqv (Dt.d x) (Dt.d y))) := fun Δ H v w Q hh r1 r2 k =>
  ⟨_, _, Dt.ok r1, Dt.ok r2, hx, hy, k _ H _ rfl (Ext.refl hh) rfl⟩
theorem o2_neD [Dt α] [Dt β] {x : α} {y : β} (hx : SeqAt.shaped (Dt.d x) = true) (hy : SeqAt.shaped (Dt.d y) = true) : Op2 K (rNeD K) x y (Is (!PyData.eqv (Dt.d x) (Dt.d y))) := fun Δ H v w Q hh r1 r2 k =>
  ⟨_, _, Dt.ok r1, Dt.ok r2, hx, hy, k _ H _ rfl (Ext.refl hh) rfl⟩
theorem eqv_ints : ∀ xs ys : List Int, PyData.eqvAll (xs.map Dt.d) (ys.map Dt.d) = decide (xs = ys)
  | [], [] => by simp [PyData.eqvAll]
  | [], _ :: _ => by simp [PyData.eqvAll]
  | _ :: _, [] => by simp [PyData.eqvAll]
  | x :: xs, y :: ys => by
    have ih := eqv_ints xs ys
    rw [List.map_cons, List.map_cons, PyData.eqvAll, ih]
    show ((x == y) && _) = _
    by_cases h : x = y <;> simp [h]
theorem eqv_bls : ∀ xs ys : List Bool, PyData.eqvAll (xs.map Dt.d) (ys.map Dt.d) = decide (xs = ys)
  | [], [] => by simp [PyData.eqvAll]
  | [], _ :: _ => by simp [PyData.eqvAll]
  | _ :: _, [] => by simp [PyData.eqvAll]
  | x :: xs, y :: ys => by
    have ih := eqv_bls xs ys
    rw [List.map_cons, List.map_cons, PyData.eqvAll, ih]
    show ((x == y) && _) = _
    by_cases h : x = y <;> simp [h]
theorem lay_ints : ∀ xs : List Int, PyData.canLayAll0 (xs.map Dt.d) = true ∧ PyData.depthAll (xs.map Dt.d) = 0
  | [] => by simp [PyData.canLayAll0, PyData.depthAll]
  | x :: xs => by
    have ih := lay_ints xs
    rw [List.map_cons, PyData.canLayAll0, PyData.depthAll, ih.1, ih.2]
    exact ⟨rfl, rfl⟩
theorem lay_bls : ∀ xs : List Bool, PyData.canLayAll0 (xs.map Dt.d) = true ∧ PyData.depthAll (xs.map Dt.d) = 0
  | [] => by simp [PyData.canLayAll0, PyData.depthAll]
  | x :: xs => by
    have ih := lay_bls xs
    rw [List.map_cons, PyData.canLayAll0, PyData.depthAll, ih.1, ih.2]
    exact ⟨rfl, rfl⟩
theorem shaped_tI {xs : Tup Int} : SeqAt.shaped (Dt.d xs) = true := by
  unfold SeqAt.shaped
  show (PyData.canLay0 (.tuple _) && decide (PyData.depth (.tuple _) ≤ 64)) = true
  rw [PyData.canLay0, PyData.depth, (lay_ints xs.l).1, (lay_ints xs.l).2]
  rfl
theorem shaped_lI {xs : List Int} : SeqAt.shaped (Dt.d xs) = true := by
  unfold SeqAt.shaped
  show (PyData.canLay0 (.list _) && decide (PyData.depth (.list _) ≤ 64)) = true
  rw [PyData.canLay0, PyData.depth, (lay_ints xs).1, (lay_ints xs).2]
  rfl
theorem shaped_lB {xs : List Bool} : SeqAt.shaped (Dt.d xs) = true := by
  unfold SeqAt.shaped
  show (PyData.canLay0 (.list _) && decide (PyData.depth (.list _) ≤ 64)) = true
  rw [PyData.canLay0, PyData.depth, (lay_bls xs).1, (lay_bls xs).2]
  rfl
theorem o2_eqT {x y : Tup Int} : Op2 K (rEqD K) x y (Is (decide (x.l = y.l))) := by
  rw [← eqv_ints x.l y.l]
  exact o2_eqD shaped_tI shaped_tI
theorem o2_neT {x y : Tup Int} : Op2 K (rNeD K) x y (Is (!decide (x.l = y.l))) := by
  rw [← eqv_ints x.l y.l]
  exact o2_neD shaped_tI shaped_tI
theorem o2_eqLI {x y : List Int} : Op2 K (rEqD K) x y (Is (decide (x = y))) := by
  rw [← eqv_ints x y]
  exact o2_eqD shaped_lI shaped_lI
theorem o2_eqLB {x y : List Bool} : Op2 K (rEqD K) x y (Is (decide (x = y))) := by
  rw [← eqv_bls x y]
  exact o2_eqD shaped_lB shaped_lB
theorem ev_inl {x : α} (h : Ev K Γ te ρ (Is x)) : Ev K Γ te ρ (Is (.inl x : α ⊕ β)) := fun Δ σ H Q s hh e k => h Δ σ H Q s hh e fun v H' a pa e1 r => k v H' (.inl a) (by rw [show a = x from pa]; rfl) e1 r
theorem ev_inr {x : β} (h : Ev K Γ te ρ (Is x)) : Ev K Γ te ρ (Is (.inr x : α ⊕ β)) := fun Δ σ H Q s hh e k => h Δ σ H Q s hh e fun v H' a pa e1 r => k v H' (.inr a) (by rw [show a = x from pa]; rfl) e1 r
/-- an operation on drawn data -/
theorem ev_opP {γ : Type} [Rp γ] {r : R2} {Pa : α → Prop} {Pb : β → Prop} {Pc : γ → Prop} (ha : Ev K Γ ta ρ Pa) (hb : Ev K Γ tb ρ Pb) (h : ∀ x y, Pa x → Pb y → ∃ z, Op2 K r x y (Is z) ∧ Pc z) : Ev K Γ (tOp r ta tb) ρ Pc :=
  ev_op ha hb fun x y px py => by
    obtain ⟨z, hz, pz⟩ := h x y px py
    exact fun Δ H v w Q hh r1 r2 k => hz Δ H v w Q hh r1 r2 fun u H' c pc e1 rr => k u H' c (by rw [show c = z from pc]; exact pz) e1 rr
theorem ev_cbP {γ : Type} [Rp γ] {r : List V → Hp → VK → Prop} {Pa : α → Prop} {Pc : γ → Prop} (ha : Ev K Γ ta ρ Pa) (h : ∀ x, Pa x → ∃ z, Op1 K r x (Is z) ∧ Pc z) : Ev K Γ (tCB r (tCons ta tNil)) ρ Pc :=
  ev_cb1 ha fun x px => by
    obtain ⟨z, hz, pz⟩ := h x px
    exact fun Δ H v Q hh r1 k => hz Δ H v Q hh r1 fun u H' c pc e1 rr => k u H' c (by rw [show c = z from pc]; exact pz) e1 rr
theorem et_eqP {Pa : Int → Prop} {n : Int} {tb : TE} (ha : Ev K Γ ta ρ Pa) (hb : Ev K Γ tb ρ (Is n)) : EvT K Γ (tTest (tOp rEq ta tb)) ρ (fun _ => True) := et_test (ev_opP ha hb fun x y _ _ => ⟨decide (x = y), o2_eqI, trivial⟩)
/-- max(0, x) -/
theorem ev_max2 {i j : Int} (ha : Ev K Γ ta ρ (Is i)) (hb : Ev K Γ tb ρ (Is j)) : Ev K Γ (tCB (fun xs H Q => ∃ i j, xs = [.int i, .int j] ∧ Q (.int (if j > i then j else i)) H) (tCons ta (tCons tb tNil))) ρ (Is (if j > i then j else i)) := fun Δ σ H Q s hh e k =>
  ha Δ σ H _ s hh e fun v H1 a pa e1 r1 => hb Δ σ H1 _ s e1.2 (e.mono e1.1) fun w H2 b pb e2 r2 => by
    have ea : a = i := pa
    have eb : b = j := pb
    subst ea eb
    have ev : v = .int a := r1
    have ew : w = .int b := r2
    subst ev ew
    exact ⟨a, b, rfl, k _ H2 _ rfl (e1.trans e2) rfl⟩
theorem ev_min2 {i j : Int} (ha : Ev K Γ ta ρ (Is i)) (hb : Ev K Γ tb ρ (Is j)) : Ev K Γ (tCB (fun xs H Q => ∃ i j, xs = [.int i, .int j] ∧ Q (.int (if j < i then j else i)) H) (tCons ta (tCons tb tNil))) ρ (Is (if j < i then j else i)) := fun Δ σ H Q s hh e k =>
  ha Δ σ H _ s hh e fun v H1 a pa e1 r1 => hb Δ σ H1 _ s e1.2 (e.mono e1.1) fun w H2 b pb e2 r2 => by
    have ea : a = i := pa
    have eb : b = j := pb
    subst ea eb
    have ev : v = .int a := r1
    have ew : w = .int b := r2
    subst ev ew
    exact ⟨a, b, rfl, k _ H2 _ rfl (e1.trans e2) rfl⟩
end
section
variable {K : PySem.W.Frag} {Δ0 : Gh} {H0 : Hp} {Γ : Own} {F : List (V × Cell)} {ρ : Z.Env} {ta tb te : TE} {tz : TS} {D : Ends} {α : Type} [Rp α]
/-- a, b, c = a list of three -/
theorem wp_unl3 {i j l : Nat} {P : List α → Prop} (h : Ev K Γ te ρ P) (hi : i < ρ.length) (hj : j < ρ.length) (hl : l < ρ.length) (k : ∀ xs, P xs → ∃ a b c, xs = [a, b, c] ∧ Wp K Δ0 H0 Γ F (((ρ.set i (some ⟨a⟩)).set j (some ⟨b⟩)).set l (some ⟨c⟩)) tz D) :
    Wp K Δ0 H0 Γ F ρ (tSeq (tAsg te (gUnl K 3 (gCons (gName i) (gCons (gName j) (gCons (gName l) gNil))))) tz) D := fun σ H ⟨Δ, s, hh, e, f, e0, s1, s2⟩ =>
  h Δ σ H _ s hh e fun v H' xs pxs e1 r => by
    obtain ⟨a, b, c, rfl, kk⟩ := k xs pxs
    obtain ⟨p, vs, rfl, n, sq, q⟩ := r
    match vs, q with
    | [va, vb, vc], q =>
      exact ⟨p, _, rfl, sq, rfl, va, [vb, vc], rfl, vb, [vc], rfl, vc, [], rfl, rfl, kk _ H' ⟨Δ, s, e1.2, (((e.mono e1.1).set (c := ⟨a⟩) hi q.1).set (c := ⟨b⟩) (by rw [List.length_set]; exact hj) q.2.1).set (c := ⟨c⟩) (by rw [List.length_set, List.length_set]; exact hl) q.2.2.1, fun q hq => q.2.r.mono e1.1 (f q hq), ext0 e0 s1 s2 e1, s1, s2⟩⟩
end
end Z

set_option Elab.async false
set_option linter.all false
set_option maxRecDepth 100000
set_option maxHeartbeats 1000000
namespace Z
open PySem PySem.Spec PyProof.Rows L2
section
variable {K : PySem.W.Frag} {Δ0 : Gh} {H0 : Hp} {Γ : Own} {F : List (V × Cell)} {ρ : Z.Env} {ta tb te : TE} {tz : TS} {D : Ends}
/-- i, j = a, b with the pair made -/
theorem wp_tup2 {i j : Nat} {ta : TA} {Q : List Cell → Prop} (h : EvA K Γ ta ρ Q) (hi : i < ρ.length) (hj : j < ρ.length) (k : ∀ cs, Q cs → ∃ c d : Cell, cs = [c, d] ∧ Wp K Δ0 H0 Γ F ((ρ.set i (some c)).set j (some d)) tz D) : Wp K Δ0 H0 Γ F ρ (tSeq (tAsg (tTup ta) (gTup K 2 (gCons (gName i) (gCons (gName j) gNil)))) tz) D := fun σ H ⟨Δ, s, hh, e, f, e0, s1, s2⟩ =>
  h Δ σ H _ s hh e fun vs H' cs pcs e1 r => by
    obtain ⟨c, d, rfl, kk⟩ := k cs pcs
    match vs, r with
    | [v, w], r =>
      refine ⟨by show 2 ≤ sizeLine; decide, fun p hp => ?_⟩
      have e2 := Ext.new e1.2 hp (.tup [v, w])
      have e3 := e1.trans e2
      exact ⟨p, [v, w], rfl, .inl (.inl upd_same), rfl, v, [w], rfl, w, [], rfl, rfl, kk _ _ ⟨Δ, s, e3.2, ((e.mono e3.1).set hi (c.r.mono e2.1 r.1)).set (by rw [List.length_set]; exact hj) (d.r.mono e2.1 r.2.1), fun q hq => q.2.r.mono e3.1 (f q hq), ext0 e0 s1 s2 e3, s1, s2⟩⟩
theorem ev_callW {β : Type} [Rp β] {Pb : β → Prop} {F : Own → List Cell → (β → Prop) → Prop} {E : XK} {ta : TA} {Pcs : List Cell → Prop} (ha : EvA K Γ ta ρ Pcs) (hf : ∀ cs, Pcs cs → ∃ R, F Γ cs R ∧ ∀ b, R b → Pb b) : Ev K Γ (tCall (spD K F) [] E ta) ρ Pb := fun Δ σ H Q s hh e k =>
  ha Δ σ H _ s hh e fun vs H' cs pcs e1 r => by
    obtain ⟨R, h1, h2⟩ := hf cs pcs
    exact ⟨Γ, Δ, cs, R, h1, s, e1.2, by rw [List.append_nil]; exact r, fun v H2 b pb e2 r2 => k v H2 b (h2 b pb) (e1.trans e2) r2⟩
end
end Z

set_option Elab.async false
set_option linter.all false
set_option maxRecDepth 100000
set_option maxHeartbeats 1000000
namespace Z
open PySem PySem.Spec PyProof.Rows L2
/-! ### a def that hands back a new object, which its caller then owns -/
/-- what such a def promises -/
def spF (K : PySem.W.Frag) (G : Own → List Cell → Prop) (I : HO → Prop) : Sp := fun vs H Q _ => ∃ (Γ : Own) (Δ : Gh) (cs : List Cell), G Γ cs ∧ Sat Γ Δ ∧ Hold Δ H ∧ ArgsOk K Δ H vs cs ∧
  ∀ (p : Addr) (H' : Hp) (o : HO), I o → H p = none → Δ p = none → Ext Δ H H' → H' p = some o → Q (.ref p) H'
def ghI (Δ : Gh) (D : Addr) (I : HO → Prop) : Gh := fun a => if a = D then some I else Δ a
section
variable {K : PySem.W.Frag} {Γ : Own} {ρ : Z.Env} {ta : TA} {β : Type} [Rp β]
theorem ghI_self {Δ : Gh} {D : Addr} {I : HO → Prop} : ghI Δ D I D = some I := by
  unfold ghI
  exact if_pos rfl
theorem ghI_other {Δ : Gh} {D x : Addr} {I : HO → Prop} (h : x ≠ D) : ghI Δ D I x = Δ x := by
  unfold ghI
  exact if_neg h
/-- f(g(..)) where g hands back a new object -/
theorem ev_callF {Pb : β → Prop} {G : Own → List Cell → Prop} {I : HO → Prop} {F : Own → List Cell → (β → Prop) → Prop} {E E' : XK} {cs : List Cell} (ha : EvA K Γ ta ρ (Is cs)) (hg : G Γ cs) (hf : ∀ p, F ((p, I) :: Γ) [⟨(⟨p⟩ : Loc)⟩] Pb) :
    Ev K Γ (tCall (spD K F) [] E (tCons (tCall (spF K G I) [] E' ta) tNil)) ρ Pb := fun Δ σ H Q s hh e k =>
  ha Δ σ H _ s hh e fun vs H1 cs' pcs e1 r => by
    have ec : cs' = cs := pcs
    subst ec
    refine ⟨Γ, Δ, cs', hg, s, e1.2, by rw [List.append_nil]; exact r, fun p H2 o io hp1 hΔ e2 ho => ?_⟩
    have hs : Sat ((p, I) :: Γ) (ghI Δ p I) := fun q hq => by
      rcases List.mem_cons.mp hq with rfl | hq
      · exact ghI_self
      · have h := s q hq
        have hne : q.1 ≠ p := fun z => by
          rw [z, hΔ] at h
          cases h
        rw [ghI_other hne]
        exact h
    have hH : Hold (ghI Δ p I) H2 := fun a J h => by
      by_cases ea : a = p
      · rw [ea, ghI_self] at h
        have ej : I = J := Option.some.inj h
        subst ej
        exact ⟨o, by rw [ea]; exact ho, io⟩
      · rw [ghI_other ea] at h
        exact e2.2 a J h
    refine ⟨(p, I) :: Γ, ghI Δ p I, [⟨(⟨p⟩ : Loc)⟩], Pb, hf p, hs, hH, ⟨rfl, trivial⟩, fun v H3 b pb e3 r3 => k v H3 b pb ⟨fun a u na hu => ?_, fun a J h => ?_⟩ (Rp.weak (fun x u _ hn => ?_) r3)⟩
    · have h1 := e1.1 a u na hu
      have hne : a ≠ p := fun z => by
        rw [z, hp1] at h1
        cases h1
      exact e3.1 a u (by rw [ghI_other hne]; exact na) (e2.1 a u na h1)
    · have hne : a ≠ p := fun z => by
        rw [z, hΔ] at h
        cases h
      exact e3.2 a J (by rw [ghI_other hne]; exact h)
    · by_cases ex : x = p
      · rw [ex]
        exact hΔ
      · rw [ghI_other ex] at hn
        exact hn
end
section
variable {P : Program} {w : World} {K : PySem.W.Frag} {mg : Str → Option Value} {base : Heap} {β : Type} [Rp β]
def FinF (Δ0 : Gh) (H0 : Hp) (I : HO → Prop) (D : Ends) : Prop := ∀ (p : Addr) (H' : Hp) (o : HO), I o → H0 p = none → Δ0 p = none → Ext Δ0 H0 H' → H' p = some o → D.rt (.ref p) H'
theorem def_okF {x qual : Str} {args : Arguments} {body : List Stmt} {scope : Scope} {dvs : List V} {kws : List (Str × V)} {f : Addr} {fd : FuncData} {N ps : List Str} {k : Nat} {G : Own → List Cell → Prop} {I : HO → Prop}
    (Fn : FunD K x qual args body scope dvs kws f fd) (S : FnScope N ps scope) (len : ∀ Γ cs, G Γ cs → cs.length = ps.length)
    (hb : ∀ (cdv : Value) (A : Around) (outer : List PySem.Env) (s : Shared) (H : Hp) (E : XK), Room k (A.deeper (envOfC qual scope s.heap.objs.size f cdv)) →
      ∀ (Γ : Own) (cs : List Cell), G Γ cs → ∃ t, PSs (cxOf CX0 P w K mg base N qual scope f cdv A outer s H E).nox body t ∧
        ∀ (Δ0 : Gh) (D : Ends), FinF Δ0 H I D → Wp K Δ0 H Γ [] (env0 N cs) t D) :
    FnOk P w K mg base CX0 (k + 1) f fd ps (spF K G I) := by
  refine Fn.ok S (fun vs H Q E h => ?_) (fun cdv A outer s H vs Q E hr h => ?_)
  · obtain ⟨Γ, Δ, cs, g, _, _, a, _⟩ := h
    rw [All2.len a]
    exact len Γ cs g
  · obtain ⟨Γ, Δ, cs, g, sa, hh, a, q⟩ := h
    obtain ⟨t, ht, hw⟩ := hb cdv A outer s H E hr Γ cs g
    refine ⟨t, ?_, hw Δ _ (fun p H' o io h1 h2 e ho => q p H' o io h1 h2 e ho) _ H ⟨Δ, sa, hh, start_ok a, fun z hz => (nomatch hz), Ext.refl hh, fun _ _ z => z, fun x n m => absurd n m⟩⟩
    first
      | exact ht
      | exact PSs.nox ht
end
section
variable {K : PySem.W.Frag} {Δ0 : Gh} {H0 : Hp} {Γ : Own} {F : List (V × Cell)} {ρ : Z.Env} {ta : TA} {D : Ends}
/-- return [a, b, c] of a new list of ints -/
theorem wp_ret3 (hf : FinF Δ0 H0 DiceI D) (h : EvA K Γ ta ρ (fun cs => ∃ a b c : Int, cs = [⟨a⟩, ⟨b⟩, ⟨c⟩] ∧ 0 ≤ a ∧ 0 ≤ b ∧ 0 ≤ c)) : Wp K Δ0 H0 Γ F ρ (tRet (tLst ta)) D := fun σ H ⟨Δ, s, hh, e, f, e0, s1, s2⟩ =>
  h Δ σ H _ s hh e fun vs H' cs pcs e1 r => by
    obtain ⟨a, b, c, rfl, ha, hb, hc⟩ := pcs
    match vs, r with
    | [v1, v2, v3], r =>
      have z1 : v1 = .int a := r.1
      have z2 : v2 = .int b := r.2.1
      have z3 : v3 = .int c := r.2.2.1
      subst z1 z2 z3
      refine ⟨by show 3 ≤ sizeLine; decide, fun p hp => ?_⟩
      have e2 := e1.trans (Ext.new e1.2 hp (.lst [.int a, .int b, .int c]))
      have e3 := ext0 e0 s1 s2 e1
      have hn := none0 s1 (e1.2.fresh hp)
      refine hf p _ _ ⟨a, b, c, rfl, ha, hb, hc⟩ ?_ hn (ext0 e0 s1 s2 e2) upd_same
      cases q : H0 p with
      | none => rfl
      | some o =>
        have := e3.1 p o hn q
        rw [hp] at this
        cases this
end
section
variable {K : PySem.W.Frag} {Γ : Own} {ρ : Z.Env} {α β : Type} [Rp α] [Rp β]
/-- the pairs of a tuple, each to two names -/
theorem src_tupP {tl : TE} {ja jb : Nat} {xs : Tup (α × β)} {x0 : Nat → α × β} (h : Ev K Γ tl ρ (Is xs)) (hx : ∀ i, i < xs.l.length → xs.l[i]? = some (x0 i)) (hja : ja < ρ.length) (hjb : jb < ρ.length) :
    Src K Γ (iTup K tl) (gTup K 2 (gCons (gName ja) (gCons (gName jb) gNil))) ρ [ja, jb] xs.l.length (fun i ρ => (ρ.set ja (some ⟨(x0 i).1⟩)).set jb (some ⟨(x0 i).2⟩)) := fun Δ σ H R s hh e k =>
  h Δ σ H _ s hh e fun v H' a pa e1 r => by
    have ea : a = xs := pa
    subst ea
    obtain ⟨p, vs, rfl, n, sq, q⟩ := id r
    refine ⟨p, rfl, ⟨vs, sq⟩, k _ H' (.ref p) ⟨a⟩ e1 r (fun Δ' H2 r2 => ?_) fun Δ' i H2 x H3 hi h2 r2 y => ?_⟩
    · obtain ⟨p', ws, e', n', sq', q'⟩ := (show Rp.rp K Δ' H2 (.ref p) a from r2)
      cases e'
      have hl := q'.len
      refine ⟨fun i hi => ⟨ws, ws[i], sq', List.getElem?_eq_getElem (by omega)⟩, ws, sq', by omega⟩
    · obtain ⟨p', ws, e', n', sq', q'⟩ := (show Rp.rp K Δ' H2 (.ref p) a from r2)
      cases e'
      obtain ⟨rfl, hy⟩ := (show H3 = H2 ∧ ∀ zs, SqT K H2 p zs → zs[i]? = some x from y)
      obtain ⟨w, hw, rw'⟩ := q'.get (hx i hi)
      have ew : x = w := Option.some.inj ((hy _ sq').symm.trans hw)
      subst ew
      obtain ⟨T, va, vb, rfl, nT, sT, ra, rb⟩ := rw'
      refine ⟨Ext.refl h2, fun σ' ρ' Qs hl e' qq => ⟨T, [va, vb], rfl, sT, rfl, va, [vb], rfl, vb, [], rfl, rfl, ?_⟩⟩
      refine qq _ ((e'.set (c := ⟨(x0 i).1⟩) (by rw [hl]; exact hja) ra).set (c := ⟨(x0 i).2⟩) (by rw [List.length_set, hl]; exact hjb) rb) (by rw [List.length_set, List.length_set]) fun k hk => ?_
      have h1 : ja ≠ k := fun z => hk (by simp [z])
      have h2 : jb ≠ k := fun z => hk (by simp [z])
      rw [List.getElem?_set_ne h2, List.getElem?_set_ne h1]
end
end Z

set_option Elab.async false
set_option linter.all false
set_option maxRecDepth 100000
set_option maxHeartbeats 4000000
/-! sorted of a list of texts, of any length -/
namespace Zs
open PySem PyProof.Rows Srt SrtO
section
variable {prog : Program} {w : World} {A : Around} {E : Value → Shared → Prop} {s : Shared}
def tv : Value → Str
  | .str x _ => x
  | _ => Str.empty
def ltT (v u : Value) : Bool := decide ((tv v).cps.toList < (tv u).cps.toList)
theorem lists_tr {a b c : List Nat} (h1 : ¬ b < a) (h2 : ¬ c < b) : ¬ c < a := fun h => by
  have x : a ≤ b := h1
  have y : b ≤ c := h2
  have z : a ≤ c := List.le_trans x y
  exact z h
theorem swo_txt : Swo ltT := by
  refine ⟨fun x y h => ?_, fun x y z h1 h2 => ?_⟩
  · have a := of_decide_eq_true (p := (tv x).cps.toList < (tv y).cps.toList) h
    exact decide_eq_false (p := (tv y).cps.toList < (tv x).cps.toList) fun b => List.lt_asymm a b
  · have a := of_decide_eq_false (p := (tv y).cps.toList < (tv x).cps.toList) h1
    have b := of_decide_eq_false (p := (tv z).cps.toList < (tv y).cps.toList) h2
    exact decide_eq_false (p := (tv z).cps.toList < (tv x).cps.toList) (lists_tr a b)
theorem txt_mem : ∀ {vs : List Value} {ns : List Str}, StrsAre vs ns → ∀ v ∈ vs, ∃ i t, v = Value.str i t
  | _, _, .nil, v, h => absurd h (by simp)
  | _, _, .cons n t r, v, h => by
    rcases List.mem_cons.mp h with e | h
    · exact ⟨n, t, e⟩
    · exact txt_mem r v h
theorem txt_tv : ∀ {vs : List Value}, (∀ v ∈ vs, ∃ i t, v = Value.str i t) → StrsAre vs (vs.map tv)
  | [], _ => .nil
  | v :: vs, h => by
    obtain ⟨i, t, e⟩ := h v List.mem_cons_self
    subst e
    exact .cons i t (txt_tv fun u hu => h u (List.mem_cons_of_mem _ hu))
theorem tv_txt : ∀ {vs : List Value} {ns : List Str}, StrsAre vs ns → vs.map tv = ns
  | _, _, .nil => rfl
  | _, _, .cons n t r => congrArg (n :: ·) (tv_txt r)
theorem txt_cmp {vs : List Value} {ns : List Str} (hI : StrsAre vs ns) : Cmp prog w A s oneType' (fun p => p.1 ∈ vs) (lt2 ltT) := by
  intro p q hm hm'
  obtain ⟨a, t, e⟩ := txt_mem hI _ hm
  obtain ⟨b, u, e'⟩ := txt_mem hI _ hm'
  show wpAny (model prog w) A (keyLt' oneType' p.1 q.1) (fun r s' => s' = s ∧ r = ltT p.1 q.1) (fun _ _ => False) s
  rw [e, e', keyLt'_oneType]
  exact oneLt_str ⟨rfl, rfl⟩
theorem txt_sortable {a : Addr} {vs : List Value} {ns : List Str} (hI : StrsAre vs ns) (h2 : 2 ≤ vs.length) : SortableO prog w A s a vs ltT := by
  intro h' _
  refine ⟨oneType', fun Q E hq => ?_, txt_cmp hI⟩
  match vs, hI, h2 with
  | v1 :: v2 :: rest, hI, _ =>
    rw [keyKind_strs hI]
    exact wpAny_pure hq
  | [], _, h => exact absurd h (by decide)
  | [v], _, h => exact absurd h (by simp)
/-- rising texts, by their codes -/
def Rise (l : List Str) : Prop := l.Pairwise fun x y => ¬ y.cps.toList < x.cps.toList
theorem txt_out {vs out : List Value} {ns : List Str} (hI : StrsAre vs ns) (hs : Srtd ltT out) (hb : Stb ltT out vs) : StrsAre out (out.map tv) ∧ (out.map tv).Perm ns ∧ Rise (out.map tv) := by
  refine ⟨txt_tv fun v hv => txt_mem hI v (hb.perm.mem_iff.mp hv), ?_, ?_⟩
  · have q := hb.perm.map tv
    rw [tv_txt hI] at q
    exact q
  · exact List.pairwise_map.mpr (hs.imp fun {x y} h => of_decide_eq_false (p := (tv y).cps.toList < (tv x).cps.toList) h)
end
end Zs
namespace L2
open PySem PySem.Spec PyProof.Rows
/-- sorted(xs), texts, any number of them -/
def rSortedT (K : PySem.W.Frag) : List V → Hp → VK → Prop := fun vs H Q => ∃ (a : Addr) (ns : List Str), vs = [V.ref a] ∧ SqL K H a (ns.map V.str) ∧
  ∀ (ns' : List Str) (p : Addr), ns'.Perm ns → Zs.Rise ns' → H p = none → Q (.ref p) (upd H p (.lst (ns'.map V.str)))
section
variable {X : Cx}
theorem cr_sortedT : CallR X (.builtin "sorted") (rSortedT X.K) := by
  intro pins s σ H vs us Q I r h
  obtain ⟨a, ns, rfl, hs, q⟩ := h
  obtain ⟨its, rv, hl, hz⟩ := I.list hs
  rw [Vals.ref1 r]
  have hi := rv.strs
  refine SrtO.sorted_ord Zs.swo_txt hl.isList (by rw [← rv.length]; exact hz) (fun h2 h₁ a' _ _ => Zs.txt_sortable hi h2) fun out h1 h2 => ?_
  obtain ⟨k1, k2, k3⟩ := Zs.txt_out hi h1 h2
  obtain ⟨ep, he'⟩ := PyProof.Rows.sortedAll_at s.heap its out.toArray
  have hlen : ((out.map Zs.tv).map V.str).length ≤ sizeLine := by
    rw [List.length_map, k2.length_eq]
    rw [List.length_map] at hz
    exact hz
  exact ⟨.ref _, upd H (s.heap.objs.size + 1) (.lst ((out.map Zs.tv).map V.str)), I.laid (t' := s.toks) (fun _ _ => PyProof.Rows.sortedAll_old) (Nat.le_succ _) ⟨hlen, out, ep, vals_of_strs k1, he'⟩, rfl, q _ _ k2 k3 (I.hok.fresh (Nat.le_succ _))⟩
end
end L2

set_option Elab.async false
set_option linter.all false
set_option maxRecDepth 100000
set_option maxHeartbeats 1000000
namespace Z
open PySem PySem.Spec PyProof.Rows L2
/-! ### one's own objects of any kind, by their exact content -/
def ObIs (o : HO) : HO → Prop := fun u => u = o
section
variable {K : PySem.W.Frag} {Δ0 : Gh} {H0 : Hp} {Γ : Own} {F : List (V × Cell)} {ρ : Z.Env} {ta tb te : TE} {tz : TS} {D : Ends}
theorem ghI_sat {Δ : Gh} {p : Addr} {I : HO → Prop} (s : Sat Γ Δ) (n : Δ p = none) : Sat ((p, I) :: Γ) (ghI Δ p I) := fun q hq => by
  rcases List.mem_cons.mp hq with rfl | hq
  · exact ghI_self
  · have h := s q hq
    have hne : q.1 ≠ p := fun z => by
      rw [z, n] at h
      cases h
    rw [ghI_other hne]
    exact h
theorem ghI_hold {Δ : Gh} {H : Hp} {p : Addr} {I : HO → Prop} {o : HO} (hh : ∀ a J, a ≠ p → Δ a = some J → ∃ u, H a = some u ∧ J u) (io : I o) : Hold (ghI Δ p I) (upd H p o) := fun a J h => by
  by_cases ea : a = p
  · rw [ea, ghI_self] at h
    have ej : I = J := Option.some.inj h
    subst ej
    exact ⟨o, by rw [ea]; exact upd_same, io⟩
  · rw [ghI_other ea] at h
    obtain ⟨u, hu, iu⟩ := hh a J ea h
    exact ⟨u, by rw [upd_ne ea]; exact hu, iu⟩
theorem ghI_new {Δ : Gh} {D : Addr} {I : HO → Prop} {H : Hp} (hD : H D = none) : ∀ x o, H x = some o → Δ x = none → ghI Δ D I x = none := fun x o hx n => by
  have hne : x ≠ D := fun z => by
    rw [z, hD] at hx
    cases hx
  rw [ghI_other hne]
  exact n
theorem own_newO {Δ : Gh} {σ : L2.St} {H : Hp} {p : Addr} {o : HO} (s : Sat Γ Δ) (hh : Hold Δ H) (e : EnvOk K Δ σ H ρ) (f : ∀ f ∈ F, f.2.rp K Δ H f.1) (e0 : Ext Δ0 H0 H) (s1 : ∀ x I, Δ0 x = some I → Δ x = some I) (s2 : ∀ x, Δ0 x = none → Δ x ≠ none → H0 x = none) (hp : H p = none) :
    OwnP Δ0 Γ p ∧ Stt K Δ0 H0 ((p, ObIs o) :: Γ) F ρ σ (upd H p o) := by
  have nD : Δ p = none := hh.fresh hp
  have n0 : Δ0 p = none := none0 s1 nD
  have kp : Keep (ghI Δ p (ObIs o)) H (upd H p o) := fun a u _ q => by rw [upd_ne (ne_of_none q hp)]; exact q
  refine ⟨⟨n0, fun q hq z => ?_⟩, ghI Δ p (ObIs o), ghI_sat s nD, ghI_hold (fun a J _ h => hh a J h) rfl, (e.weak (ghI_new hp)).mono kp, fun q hq => q.2.r.mono kp (q.2.r.weak (ghI_new hp) (f q hq)), ext0 e0 s1 s2 (Ext.new hh hp _), fun x I q => ?_, fun x n m => ?_⟩
  · have h := s q hq
    rw [z, nD] at h
    cases h
  · have hne : x ≠ p := fun z => by
      rw [z, n0] at q
      cases q
    rw [ghI_other hne]
    exact s1 x I q
  · by_cases hx : x = p
    · subst hx
      cases q : H0 x with
      | none => rfl
      | some u =>
        have := e0.1 x u n0 q
        rw [hp] at this
        cases this
    · rw [ghI_other hx] at m
      exact s2 x n m
theorem own_putO {σ : L2.St} {H : Hp} {p : Addr} {o o2 : HO} (ow : OwnP Δ0 Γ p) (st : Stt K Δ0 H0 ((p, ObIs o) :: Γ) F ρ σ H) : H p = some o ∧ Stt K Δ0 H0 ((p, ObIs o2) :: Γ) F ρ σ (upd H p o2) := by
  obtain ⟨Δ, s, hh, e, f, e0, s1, s2⟩ := st
  have hΔ : Δ p = some (ObIs o) := s (p, ObIs o) List.mem_cons_self
  obtain ⟨u, hu, iu⟩ := hh p _ hΔ
  have iu' : u = o := iu
  subst iu'
  have off : ∀ {a : Addr}, Δ a = none → a ≠ p := fun n z => by
    rw [z, hΔ] at n
    cases n
  have off0 : ∀ {a : Addr} {I}, Δ0 a = some I → a ≠ p := fun q z => by
    rw [z, ow.n0] at q
    cases q
  have kp : Keep Δ H (upd H p o2) := fun a o n q => by
    rw [upd_ne (off n)]
    exact q
  have wk : ∀ {H : Hp} x o, H x = some o → Δ x = none → ghI Δ p (ObIs o2) x = none := fun x o _ n => by
    rw [ghI_other (off n)]
    exact n
  refine ⟨hu, ghI Δ p (ObIs o2), fun q hq => ?_, ghI_hold (fun a J _ h => hh a J h) rfl, (e.mono kp).weak wk, fun q hq => q.2.r.weak wk (q.2.r.mono kp (f q hq)), ⟨fun a o' n q => ?_, fun a I q => ?_⟩, fun x I q => ?_, fun x n m => ?_⟩
  · rcases List.mem_cons.mp hq with z | z
    · rw [z]; exact ghI_self
    · rw [ghI_other (ow.ne q z)]; exact s q (List.mem_cons_of_mem _ z)
  · have hne : a ≠ p := fun z => by
      subst z
      have := s2 a n (by rw [hΔ]; exact fun z => by cases z)
      rw [q] at this
      cases this
    rw [upd_ne hne]
    exact e0.1 a o' n q
  · obtain ⟨u, hu, iu⟩ := e0.2 a I q
    exact ⟨u, by rw [upd_ne (off0 q)]; exact hu, iu⟩
  · rw [ghI_other (off0 q)]
    exact s1 x I q
  · by_cases hx : x = p
    · subst hx
      exact s2 x n (by rw [hΔ]; exact fun z => by cases z)
    · rw [ghI_other hx] at m
      exact s2 x n m
end
/-! ### instances: made by a call, their fields -/
/-- what __init__ promises: of a new instance at x the datum b -/
def spI (K : PySem.W.Frag) (C : Addr) {β : Type} [Rp β] (F : Own → List Cell → (β → Prop) → Prop) : Sp := fun vs H Q _ => ∃ (Γ : Own) (Δ : Gh) (cs : List Cell) (P : β → Prop) (x dx : Addr) (us : List V) (H0 : Hp), vs = .ref x :: us ∧ F Γ cs P ∧ Sat Γ Δ ∧ Hold Δ H0 ∧ ArgsOk K Δ H0 us cs ∧
  H0 x = none ∧ H0 dx = none ∧ dx ≠ x ∧ H = upd (upd H0 dx (.own x)) x (.ins C dx []) ∧ ∀ (H' : Hp) (b : β), P b → Ext Δ H0 H' → Rp.rp K Δ H' (.ref x) b → Q .non H'
section
variable {K : PySem.W.Frag} {Γ : Own} {ρ : Z.Env} {ta : TA} {β : Type} [Rp β] {Pb : β → Prop}
/-- C(e, ..) -/
theorem ev_make {C : Addr} {F : Own → List Cell → (β → Prop) → Prop} {E : XK} {cs dcs : List Cell} {dvs : List V} (hd : ∀ Δ H, ArgsOk K Δ H dvs dcs) (ha : EvA K Γ ta ρ (Is cs)) (hf : F Γ (cs ++ dcs) Pb) : Ev K Γ (tMake C (spI K C F) dvs E ta) ρ Pb := fun Δ σ H Q s hh e k =>
  ha Δ σ H _ s hh e fun vs H1 cs' pcs e1 r x dx hx hdx ne => by
    have ec : cs' = cs := pcs
    subst ec
    exact ⟨Γ, Δ, cs' ++ dcs, Pb, x, dx, vs ++ dvs, H1, rfl, hf, s, e1.2, All2.app r (hd Δ H1), hx, hdx, ne, rfl, fun H' b pb e2 r2 => ⟨rfl, k _ H' b pb (e1.trans e2) r2⟩⟩
end
section
variable {P : Program} {w : World} {K : PySem.W.Frag} {mg : Str → Option Value} {base : Heap} {β : Type} [Rp β]
def FinI (K : PySem.W.Frag) (Δ0 : Gh) (H0 : Hp) (x : Addr) (R : β → Prop) (D : Ends) : Prop := ∀ σ H' b, R b → Ext Δ0 H0 H' → Rp.rp K Δ0 H' (.ref x) b → D.nx σ H'
theorem def_okI {x qual : Str} {args : Arguments} {body : List Stmt} {scope : Scope} {dvs : List V} {kws : List (Str × V)} {f C : Addr} {fd : FuncData} {N ps : List Str} {k : Nat} {G : Own → List Cell → (β → Prop) → Prop}
    (Fn : FunD K x qual args body scope dvs kws f fd) (S : FnScope N ps scope) (len : ∀ Γ cs R, G Γ cs R → cs.length + 1 = ps.length)
    (hb : ∀ (cdv : Value) (A : Around) (outer : List PySem.Env) (s : Shared) (H : Hp) (E : XK), Room k (A.deeper (envOfC qual scope s.heap.objs.size f cdv)) →
      ∀ (Γ : Own) (cs : List Cell) (R : β → Prop), G Γ cs R → ∃ t, PSs (cxOf CX0 P w K mg base N qual scope f cdv A outer s H E).nox body t ∧
        ∀ (Δ0 : Gh) (H0 : Hp) (p dx : Addr) (D : Ends), FinI K Δ0 H0 p R D → OwnP Δ0 Γ p → Wp K Δ0 H0 ((p, ObIs (.ins C dx [])) :: Γ) [] (env0 N (⟨(⟨p⟩ : Loc)⟩ :: cs)) t D) :
    FnOk P w K mg base CX0 (k + 1) f fd ps (spI K C G) := by
  refine Fn.ok S (fun vs H Q E h => ?_) (fun cdv A outer s H vs Q E hr h => ?_)
  · obtain ⟨Γ, Δ, cs, R, p, dx, us, H0, rfl, g, _, _, a, _⟩ := h
    rw [List.length_cons, All2.len a]
    exact len Γ cs R g
  · obtain ⟨Γ, Δ, cs, R, p, dx, us, H0, rfl, g, sa, hh, a, hp, hdx, ne, rfl, q⟩ := h
    obtain ⟨t, ht, hw⟩ := hb cdv A outer s _ E hr Γ cs R g
    have e1 : Ext Δ H0 (upd H0 dx (.own p)) := Ext.new hh hdx _
    have hp1 : upd H0 dx (.own p) p = none := by rw [upd_ne (fun z => ne z.symm)]; exact hp
    have hargs : ArgsOk K Δ (upd H0 dx (.own p)) us cs := All2.imp (fun v c r => c.r.mono e1.1 r) a
    have henv : EnvOk K Δ (L2.start N (.ref p :: us)) (upd H0 dx (.own p)) (env0 N (⟨(⟨p⟩ : Loc)⟩ :: cs)) := start_ok (cs := ⟨(⟨p⟩ : Loc)⟩ :: cs) ⟨rfl, hargs⟩
    obtain ⟨ow, st⟩ := own_newO (K := K) (Δ0 := Δ) (H0 := H0) (F := []) (o := .ins C dx []) sa e1.2 henv (fun z hz => (nomatch hz)) e1 (fun _ _ z => z) (fun x n m => absurd n m) hp1
    refine ⟨t, ?_, hw Δ H0 p dx _ (fun σ H' b pb e r => q H' b pb e r) ow _ _ st⟩
    first
      | exact ht
      | exact PSs.nox ht
end
end Z

set_option Elab.async false
set_option linter.all false
set_option maxRecDepth 100000
set_option maxHeartbeats 1000000
namespace Z
open PySem PySem.Spec PyProof.Rows L2
/-! ### a new object that an expression makes and its taker owns -/
def EvN (K : PySem.W.Frag) (Γ : Own) (te : TE) (ρ : Z.Env) (I : HO → Prop) : Prop :=
  ∀ (Δ : Gh) (σ : L2.St) (H : Hp) (Q : VK), Sat Γ Δ → Hold Δ H → EnvOk K Δ σ H ρ → (∀ d H' o, I o → H d = none → Δ d = none → Ext Δ H H' → H' d = some o → Q (.ref d) H') → te σ H Q
/-! ### a dict whose keys are texts -/
abbrev tS (x : Tx) : Str := ⟨x.s.toArray⟩
def kvT (ks : List Tx) : List (Key × V) := ks.map fun x => (.inr (tS x), .bl true)
theorem tS_inj {x y : Tx} : tS x = tS y ↔ x = y := by
  constructor
  · intro h
    cases x
    cases y
    simpa [tS] using h
  · intro h
    rw [h]
/-- each text once, at its first place -/
def onceT : List Tx → List Tx → List Tx
  | ks, [] => ks
  | ks, x :: xs => onceT (if x ∈ ks then ks else ks ++ [x]) xs
theorem onceT_snoc : ∀ (xs : List Tx) (ks : List Tx) (x : Tx), onceT ks (xs ++ [x]) = if x ∈ onceT ks xs then onceT ks xs else onceT ks xs ++ [x]
  | [], ks, x => rfl
  | y :: xs, ks, x => onceT_snoc xs _ x
theorem onceT_mem : ∀ (xs ks : List Tx) (y : Tx), y ∈ onceT ks xs ↔ y ∈ ks ∨ y ∈ xs
  | [], ks, y => by simp [onceT]
  | x :: xs, ks, y => by
    rw [onceT, onceT_mem xs]
    by_cases h : x ∈ ks
    · rw [if_pos h, List.mem_cons]
      constructor
      · rintro (q | q)
        · exact .inl q
        · exact .inr (.inr q)
      · rintro (q | rfl | q)
        · exact .inl q
        · exact .inl h
        · exact .inr q
    · rw [if_neg h, List.mem_append, List.mem_singleton, List.mem_cons, or_assoc]
theorem onceT_nodup : ∀ (xs ks : List Tx), ks.Nodup → (onceT ks xs).Nodup
  | [], _, h => h
  | x :: xs, ks, h => by
    rw [onceT]
    by_cases q : x ∈ ks
    · rw [if_pos q]
      exact onceT_nodup xs ks h
    · rw [if_neg q]
      exact onceT_nodup xs _ (List.nodup_append.mpr ⟨h, by simp, fun a ha b hb => by
        rw [List.mem_singleton.mp hb]
        exact fun z => q (z ▸ ha)⟩)
theorem onceT_len : ∀ (xs ks : List Tx), (onceT ks xs).length ≤ ks.length + xs.length
  | [], ks => Nat.le_refl _
  | x :: xs, ks => by
    have := onceT_len xs (if x ∈ ks then ks else ks ++ [x])
    rw [onceT, List.length_cons]
    by_cases h : x ∈ ks
    · rw [if_pos h] at this ⊢
      omega
    · rw [if_neg h] at this ⊢
      rw [List.length_append, List.length_singleton] at this
      omega
theorem any_kvT {ks : List Tx} {x : Tx} : ((kvT ks).any fun kv => decide (kv.1 = (.inr (tS x) : Key))) = decide (x ∈ ks) := by
  rw [Bool.eq_iff_iff, List.any_eq_true, decide_eq_true_eq]
  unfold kvT
  constructor
  · rintro ⟨kv, hk, e⟩
    obtain ⟨y, hy, rfl⟩ := List.mem_map.mp hk
    have e' := of_decide_eq_true e
    have e2 : tS y = tS x := Sum.inr.inj e'
    rw [← tS_inj.mp e2]
    exact hy
  · intro h
    exact ⟨_, List.mem_map.mpr ⟨x, h, rfl⟩, decide_eq_true rfl⟩
theorem putK_kvT {ks : List Tx} {x : Tx} : putK (kvT ks) (.inr (tS x)) (.bl true) = kvT (if x ∈ ks then ks else ks ++ [x]) := by
  unfold putK
  rw [any_kvT]
  by_cases h : x ∈ ks
  · rw [if_pos (decide_eq_true h), if_pos h]
    unfold kvT
    rw [List.map_map]
    refine List.map_congr_left fun y _ => ?_
    show (if (Sum.inr (tS y) : Key) = Sum.inr (tS x) then _ else _) = _
    split
    · rfl
    · rfl
  · rw [if_neg (by rw [decide_eq_true_eq]; exact h), if_neg h]
    unfold kvT
    rw [List.map_append]
    rfl
section
variable {K : PySem.W.Frag} {Γ : Own} {ρ : Z.Env} {tk tv : TE}
theorem ghI_swap {Δ : Gh} {D : Addr} {I J : HO → Prop} {H : Hp} : ∀ x o, H x = some o → ghI Δ D I x = none → ghI Δ D J x = none := fun x o _ n => by
  by_cases e : x = D
  · rw [e, ghI_self] at n
    cases n
  · rw [ghI_other e] at n ⊢
    exact n
theorem ghI_exact {Δ : Gh} {D : Addr} {o : HO} {H : Hp} (h : Hold (ghI Δ D (ObIs o)) H) : H D = some o := by
  obtain ⟨u, hu, iu⟩ := h D _ ghI_self
  rw [hu, show u = o from iu]
/-- how things stand ahead of a turn -/
structure DW (K : PySem.W.Frag) (Δ : Gh) (H1 : Hp) (D : Addr) (pv : V) (pc : Cell) (σw : L2.St) (ρw : Z.Env) (o : HO) (H : Hp) : Prop where
  hold : Hold (ghI Δ D (ObIs o)) H
  keep : ∀ a u, a ≠ D → Δ a = none → H1 a = some u → H a = some u
  src : pc.rp K (ghI Δ D (ObIs o)) H pv
  env : EnvOk K (ghI Δ D (ObIs o)) σw H ρw
theorem DW.next {Δ : Gh} {H1 H H' : Hp} {D : Addr} {pv : V} {pc : Cell} {σw : L2.St} {ρw : Z.Env} {o : HO} (c : DW K Δ H1 D pv pc σw ρw o H) (e : Ext (ghI Δ D (ObIs o)) H H') : DW K Δ H1 D pv pc σw ρw o H' :=
  ⟨e.2, fun a u ha n h => e.1 a u (by rw [ghI_other ha]; exact n) (c.keep a u ha n h), pc.r.mono e.1 c.src, c.env.mono e.1⟩
theorem DW.put {Δ : Gh} {H1 H : Hp} {D : Addr} {pv : V} {pc : Cell} {σw : L2.St} {ρw : Z.Env} {o o2 : HO} (c : DW K Δ H1 D pv pc σw ρw o H) : DW K Δ H1 D pv pc σw ρw o2 (upd H D o2) := by
  have kp : Keep (ghI Δ D (ObIs o)) H (upd H D o2) := fun a u n q => by
    have hne : a ≠ D := fun z => by
      rw [z, ghI_self] at n
      cases n
    rw [upd_ne hne]
    exact q
  exact ⟨ghI_hold (fun a J ha h => c.hold a J (by rw [ghI_other ha]; exact h)) rfl, fun a u ha n h => by rw [upd_ne ha]; exact c.keep a u ha n h, pc.r.weak ghI_swap (pc.r.mono kp c.src), (c.env.mono kp).weak ghI_swap⟩
/-- {x: True for x in ..} -/
theorem en_dc {wi : TI} {g : TG} {js vs : List Nat} {xs : List Tx} {st : Nat → Z.Env → Z.Env} (S : Src K Γ wi g ρ js xs.length st) (hn : xs.length ≤ 50000) (hjs : ∀ j ∈ js, j ∈ vs)
    (hk : ∀ i x, xs[i]? = some x → Ev K Γ tk (st i (wipeE ρ vs)) (Is x)) (hv : ∀ i, i < xs.length → Ev K Γ tv (st i (wipeE ρ vs)) (Is true)) :
    EvN K Γ (tDc wi g tYes tk tv vs) ρ (ObIs (.dK (kvT (onceT [] xs)))) := fun Δ σ H Q s hh e k => S Δ σ H _ s hh e fun J H1 pv pc e1 rp0 hgo hyld => fun D hD => by
  have nD : Δ D = none := e1.2.fresh hD
  have eW : EnvOk K Δ (wipe σ vs) H1 (wipeE ρ vs) := (e.mono e1.1).wipe vs
  have kp : Keep (ghI Δ D (ObIs (.dK []))) H1 (upd H1 D (.dK [])) := fun a o _ q => by rw [upd_ne (ne_of_none q hD)]; exact q
  have W0 : DW K Δ H1 D pv pc (wipe σ vs) (wipeE ρ vs) (.dK (kvT (onceT [] (xs.take 0)))) (upd H1 D (.dK [])) :=
    ⟨ghI_hold (fun a J _ h => e1.2 a J h) rfl, fun a o ha n h => by rw [upd_ne ha]; exact h, pc.r.mono kp (pc.r.weak (ghI_new hD) rp0), (eW.weak (ghI_new hD)).mono kp⟩
  have wl : (wipeE ρ vs).length = ρ.length := by
    rw [← eW.1, wipe_length]
    exact e.1
  have hDH : H D = none := Ext.back hh e1 hD
  refine ⟨fun i m H2 => m = xs.length - i ∧ i ≤ xs.length ∧ DW K Δ H1 D pv pc (wipe σ vs) (wipeE ρ vs) (.dK (kvT (onceT [] (xs.take i)))) H2, ⟨xs.length, by simp, Nat.zero_le _, W0⟩, ?_⟩
  rintro i m H2 ⟨rfl, hi, c⟩
  have hg := hgo _ H2 c.src
  by_cases hlt : i < xs.length
  · refine .inr ⟨hg.1 i hlt, fun H3 => DW K Δ H1 D pv pc (wipe σ vs) (wipeE ρ vs) (.dK (kvT (onceT [] (xs.take (i + 1))))) H3, fun H' c' => ⟨xs.length - (i + 1), by omega, rfl, hlt, c'⟩, fun x H3 hy => ?_⟩
    obtain ⟨e3, hput⟩ := hyld _ i H2 x H3 hlt c.hold c.src hy
    have c3 := c.next e3
    refine hput (wipe σ vs) (wipeE ρ vs) _ wl c3.env fun σ2 env2 hl2 hoff => ⟨wipe_off (by rw [hl2, wipe_length]) hjs hoff, ?_⟩
    have hx : xs[i]? = some xs[i] := List.getElem?_eq_getElem hlt
    have sD : Sat Γ (ghI Δ D (ObIs (.dK (kvT (onceT [] (xs.take i)))))) := fun q hq => ghI_sat s nD q (List.mem_cons_of_mem _ hq)
    change tk σ2 H3 _
    refine hk i _ hx _ σ2 H3 _ sD e3.2 env2 fun y H4 a pa e4 r4 => ?_
    have c4 := c3.next e4
    refine hv i hlt _ σ2 H4 _ sD e4.2 (env2.mono e4.1) fun z H5 b pb e5 r5 => ?_
    have c5 := c4.next e5
    have ea : a = xs[i] := pa
    have eb : b = true := pb
    subst ea eb
    have ey : y = .str (tS xs[i]) := r4
    have ez : z = .bl true := r5
    subst ey ez
    have et : onceT [] (xs.take (i + 1)) = if xs[i] ∈ onceT [] (xs.take i) then onceT [] (xs.take i) else onceT [] (xs.take i) ++ [xs[i]] := by
      rw [List.take_add_one, hx]
      exact onceT_snoc _ _ _
    refine ⟨kvT (onceT [] (xs.take i)), .inr (tS xs[i]), rfl, ghI_exact c5.hold, ?_, ?_⟩
    · have h1 := onceT_len (xs.take i) []
      have h2 : (xs.take i).length ≤ i := List.length_take_le i xs
      have h3 : (kvT (onceT [] (xs.take i))).length = (onceT [] (xs.take i)).length := by unfold kvT; rw [List.length_map]
      refine Nat.lt_of_le_of_lt (m := 50000) ?_ (by decide)
      rw [h3]
      simp only [List.length_nil] at h1
      omega
    · rw [putK_kvT, ← et]
      exact c5.put
  · have ei : i = xs.length := by omega
    subst ei
    rw [List.take_length] at c
    refine .inl ⟨hg.2, k D H2 _ rfl hDH nD ⟨fun a o na h => ?_, fun a J h => ?_⟩ (ghI_exact c.hold)⟩
    · have h1 := e1.1 a o na h
      exact c.keep a o (ne_of_none h1 hD) na h1
    · have hne : a ≠ D := fun z => by
        rw [z, nD] at h
        cases h
      exact c.hold a J (by rw [ghI_other hne]; exact h)
end
end Z

set_option Elab.async false
set_option linter.all false
set_option maxRecDepth 100000
set_option maxHeartbeats 1000000
namespace Z
open PySem PySem.Spec PyProof.Rows L2
section
variable {K : PySem.W.Frag} {Δ0 : Gh} {H0 : Hp} {Γ : Own} {F : List (V × Cell)} {ρ : Z.Env} {ta tb te : TE} {tz : TS} {D : Ends} {α : Type} [Rp α] {P : α → Prop} {p C dx : Addr} {fs : List (Str × V)} {f : Str}
/-- self.f = e: the instance one's own; what e gave is kept in mind -/
theorem wp_fld (cl : Cls K C) (na : NoAttr K C f) (hl : fs.length < 1000) (ow : OwnP Δ0 Γ p) (h : Ev K ((p, ObIs (.ins C dx fs)) :: Γ) te ρ P) (ho : Ev K ((p, ObIs (.ins C dx fs)) :: Γ) ta ρ (Is (⟨p⟩ : Loc)))
    (k : ∀ v a, P a → Wp K Δ0 H0 ((p, ObIs (.ins C dx (putF f v fs))) :: Γ) ((v, ⟨a⟩) :: F) ρ tz D) : Wp K Δ0 H0 ((p, ObIs (.ins C dx fs)) :: Γ) F ρ (tSeq (sFld K ta te f) tz) D := fun σ H ⟨Δ, s, hh, e, ff, e0, s1, s2⟩ =>
  h Δ σ H _ s hh e fun v H1 a pa e1 r1 => ho Δ σ H1 _ s e1.2 (e.mono e1.1) fun w H2 b pb e2 r2 => by
    have eb : b = ⟨p⟩ := pb
    subst eb
    have ew : w = .ref p := r2
    subst ew
    have e3 := e1.trans e2
    have st : Stt K Δ0 H0 ((p, ObIs (.ins C dx fs)) :: Γ) ((v, ⟨a⟩) :: F) ρ σ H2 := ⟨Δ, s, e3.2, e.mono e3.1, fun q hq => by
      rcases List.mem_cons.mp hq with rfl | hq
      · exact Rp.mono e2.1 r1
      · exact q.2.r.mono e3.1 (ff q hq), ext0 e0 s1 s2 e3, s1, s2⟩
    obtain ⟨hp, st'⟩ := own_putO (o2 := .ins C dx (putF f v fs)) ow st
    exact ⟨p, C, dx, fs, rfl, hp, cl, na, hl, k v a pa σ _ st'⟩
theorem wp_fldL (cl : Cls K C) (na : NoAttr K C f) (hl : fs.length < 1000) (ow : OwnP Δ0 Γ p) (h : Ev K ((p, ObIs (.ins C dx fs)) :: Γ) te ρ P) (ho : Ev K ((p, ObIs (.ins C dx fs)) :: Γ) ta ρ (Is (⟨p⟩ : Loc)))
    (k : ∀ v a, P a → Wp K Δ0 H0 ((p, ObIs (.ins C dx (putF f v fs))) :: Γ) ((v, ⟨a⟩) :: F) ρ tNext D) : Wp K Δ0 H0 ((p, ObIs (.ins C dx fs)) :: Γ) F ρ (sFld K ta te f) D := wp_fld (tz := tNext) cl na hl ow h ho k
/-- a new object that comes becomes one's own -/
theorem own_come {Δ : Gh} {σ : L2.St} {H H' : Hp} {d : Addr} {o : HO} (s : Sat Γ Δ) (hh : Hold Δ H) (e : EnvOk K Δ σ H ρ) (ff : ∀ f ∈ F, f.2.rp K Δ H f.1) (e0 : Ext Δ0 H0 H) (s1 : ∀ x I, Δ0 x = some I → Δ x = some I) (s2 : ∀ x, Δ0 x = none → Δ x ≠ none → H0 x = none) (hd : H d = none) (e1 : Ext Δ H H') (ho : H' d = some o) :
    OwnP Δ0 Γ d ∧ Stt K Δ0 H0 ((d, ObIs o) :: Γ) F ρ σ H' := by
  have nD : Δ d = none := hh.fresh hd
  have n0 : Δ0 d = none := none0 s1 nD
  have wk : ∀ x u, H x = some u → Δ x = none → ghI Δ d (ObIs o) x = none := ghI_new hd
  have kp : Keep (ghI Δ d (ObIs o)) H H' := fun a u n q => by
    have hne : a ≠ d := ne_of_none q hd
    exact e1.1 a u (by rw [ghI_other hne] at n; exact n) q
  refine ⟨⟨n0, fun q hq z => ?_⟩, ghI Δ d (ObIs o), ghI_sat s nD, fun a J h => ?_, (e.weak wk).mono kp, fun q hq => q.2.r.mono kp (q.2.r.weak wk (ff q hq)), ext0 e0 s1 s2 e1, fun x I q => ?_, fun x n m => ?_⟩
  · have h := s q hq
    rw [z, nD] at h
    cases h
  · by_cases ea : a = d
    · rw [ea, ghI_self] at h
      have ej : ObIs o = J := Option.some.inj h
      subst ej
      exact ⟨o, by rw [ea]; exact ho, rfl⟩
    · rw [ghI_other ea] at h
      exact e1.2 a J h
  · have hne : x ≠ d := fun z => by
      rw [z, n0] at q
      cases q
    rw [ghI_other hne]
    exact s1 x I q
  · by_cases hx : x = d
    · subst hx
      cases q : H0 x with
      | none => rfl
      | some u =>
        have := e0.1 x u n0 q
        rw [hd] at this
        cases this
    · rw [ghI_other hx] at m
      exact s2 x n m
/-- the order of what one owns is of no matter -/
theorem Stt.swap {σ : L2.St} {H : Hp} {a b : Addr × (HO → Prop)} (st : Stt K Δ0 H0 (a :: b :: Γ) F ρ σ H) : Stt K Δ0 H0 (b :: a :: Γ) F ρ σ H := by
  obtain ⟨Δ, s, r⟩ := st
  exact ⟨Δ, fun q hq => s q (by simp only [List.mem_cons] at hq ⊢; rcases hq with h | h | h; exact .inr (.inl h); exact .inl h; exact .inr (.inr h)), r⟩
/-- self.f = a new object -/
theorem wp_fldN {I : HO → Prop} (cl : Cls K C) (na : NoAttr K C f) (hl : fs.length < 1000) (ow : OwnP Δ0 Γ p) (h : EvN K ((p, ObIs (.ins C dx fs)) :: Γ) te ρ I) (ho : ∀ d o, I o → Ev K ((d, ObIs o) :: (p, ObIs (.ins C dx fs)) :: Γ) ta ρ (Is (⟨p⟩ : Loc)))
    (k : ∀ d o, I o → OwnP Δ0 ((d, ObIs o) :: Γ) p → OwnP Δ0 Γ d → Wp K Δ0 H0 ((p, ObIs (.ins C dx (putF f (.ref d) fs))) :: (d, ObIs o) :: Γ) F ρ tz D) : Wp K Δ0 H0 ((p, ObIs (.ins C dx fs)) :: Γ) F ρ (tSeq (sFld K ta te f) tz) D := fun σ H ⟨Δ, s, hh, e, ff, e0, s1, s2⟩ =>
  h Δ σ H _ s hh e fun d H1 o io hd nd e1 hdo => by
    obtain ⟨owd, st⟩ := own_come (K := K) (Δ0 := Δ0) (H0 := H0) (F := F) s hh e ff e0 s1 s2 hd e1 hdo
    have hne : p ≠ d := owd.ne (p, _) List.mem_cons_self
    obtain ⟨Δ', s', hh', e', ff', e0', s1', s2'⟩ := st
    refine ho d o io Δ' σ H1 _ s' hh' e' fun w H2 b pb e2 r2 => ?_
    have eb : b = ⟨p⟩ := pb
    subst eb
    have ew : w = .ref p := r2
    subst ew
    have st2 : Stt K Δ0 H0 ((d, ObIs o) :: (p, ObIs (.ins C dx fs)) :: Γ) F ρ σ H2 := ⟨Δ', s', e2.2, e'.mono e2.1, fun q hq => q.2.r.mono e2.1 (ff' q hq), ext0 e0' s1' s2' e2, s1', s2'⟩
    have ow' : OwnP Δ0 ((d, ObIs o) :: Γ) p := ⟨ow.n0, fun q hq z => by
      rcases List.mem_cons.mp hq with rfl | hq
      · exact hne z.symm
      · exact ow.ne q hq z⟩
    obtain ⟨hp, st'⟩ := own_putO (o2 := .ins C dx (putF f (.ref d) fs)) ow' st2.swap
    exact ⟨p, C, dx, fs, rfl, hp, cl, na, hl, k d o io ow' ⟨owd.n0, fun q hq => owd.ne q (List.mem_cons_of_mem _ hq)⟩ σ _ st'⟩
/-- the end of an __init__ -/
theorem wp_endI {β : Type} [Rp β] {R : β → Prop} {b : β} (hf : FinI K Δ0 H0 p R D) (hb : R b) (h : ∀ H : Hp, (∀ q ∈ (p, ObIs (.ins C dx fs)) :: Γ, ∃ o, H q.1 = some o ∧ q.2 o) → (∀ q ∈ F, q.2.rp K Δ0 H q.1) → Rp.rp K Δ0 H (.ref p) b) : Wp K Δ0 H0 ((p, ObIs (.ins C dx fs)) :: Γ) F ρ tNext D := fun σ H ⟨Δ, s, hh, e, ff, e0, s1, s2⟩ =>
  hf σ H b hb e0 (h H (fun q hq => hh q.1 q.2 (s q hq)) fun q hq => q.2.r.weak (fun x o _ n => none0 s1 n) (ff q hq))
end
section
variable {K : PySem.W.Frag} {Γ : Own} {ρ : Z.Env} {ta tb te : TE}
/-- o.f of one's own instance, another object that is one's own too -/
theorem ev_fldO {p C dx d : Addr} {fs : List (Str × V)} {f : Str} (cl : Cls K C) (na : NoAttr K C f) (hm : (p, ObIs (.ins C dx fs)) ∈ Γ) (hl : fs.lookup f = some (.ref d)) (h : Ev K Γ te ρ (Is (⟨p⟩ : Loc))) : Ev K Γ (tFld K te f) ρ (Is (⟨d⟩ : Loc)) := fun Δ σ H Q s hh e k =>
  h Δ σ H _ s hh e fun v H1 a pa e1 r => by
    have ea : a = ⟨p⟩ := pa
    subst ea
    have ev : v = .ref p := r
    subst ev
    obtain ⟨u, hu, iu⟩ := e1.2 p _ (s _ hm)
    have iu' : u = HO.ins C dx fs := iu
    subst iu'
    exact ⟨p, C, dx, fs, .ref d, rfl, hu, cl, na, hl, k _ H1 ⟨d⟩ rfl e1 rfl⟩
/-- list(d), the dict one's own -/
theorem ev_listO {d : Addr} {ks : List Tx} (hm : (d, ObIs (.dK (kvT ks))) ∈ Γ) (h : Ev K Γ te ρ (Is (⟨d⟩ : Loc))) : Ev K Γ (tCB rListD (tCons te tNil)) ρ (Is ks) := fun Δ σ H Q s hh e k =>
  h Δ σ H _ s hh e fun v H1 a pa e1 r => by
    have ea : a = ⟨d⟩ := pa
    subst ea
    have ev : v = .ref d := r
    subst ev
    obtain ⟨u, hu, iu⟩ := e1.2 d _ (s _ hm)
    have iu' : u = HO.dK (kvT ks) := iu
    subst iu'
    refine ⟨d, kvT ks, rfl, hu, fun q hq => k _ _ ks rfl (e1.trans (Ext.new e1.2 hq _)) (new_lst e1.2 hq ?_)⟩
    have e2 : (kvT ks).map (fun kv => kV kv.1) = ks.map fun x => V.str (tS x) := by
      unfold kvT
      rw [List.map_map]
      rfl
    rw [e2]
    have em : ks = ks.map id := (List.map_id ks).symm
    conv => rhs; rw [em]
    exact All2.map fun x _ => Rp.mono (K := K) (Δ := Δ) (Keep.refl Δ _) rfl
/-- texts in their order -/
def SortedT (a b : List Tx) : Prop := b.Perm a ∧ b.Pairwise fun x y => ¬ y.s < x.s
theorem o1_sortedT {xs : List Tx} : Op1 K (rSortedT K) xs (SortedT xs) := fun Δ H v Q hh r k => by
  obtain ⟨p, vs, rfl, n, s, q⟩ := r
  have ev := all2_tx q
  subst ev
  refine ⟨p, _, rfl, s, fun ns' l hp hr hl => ?_⟩
  have e1 : ns' = (ns'.map fun z => (⟨z.cps.toList⟩ : Tx)).map fun x => (⟨x.s.toArray⟩ : Str) := by
    rw [List.map_map]
    conv => lhs; rw [← List.map_id ns']
    exact List.map_congr_left fun z _ => by cases z; rfl
  refine k _ _ (ns'.map fun z => (⟨z.cps.toList⟩ : Tx)) ⟨?_, ?_⟩ (Ext.new hh hl _) (new_lst hh hl ?_)
  · have h := hp.map fun z => (⟨z.cps.toList⟩ : Tx)
    rw [List.map_map] at h
    have e2 : (xs.map ((fun z => (⟨z.cps.toList⟩ : Tx)) ∘ fun x => (⟨x.s.toArray⟩ : Str))) = xs := by
      conv => rhs; rw [← List.map_id xs]
      exact List.map_congr_left fun z _ => by cases z; rfl
    rw [e2] at h
    exact h
  · exact List.pairwise_map.mpr hr
  · have e2 : ns'.map V.str = (ns'.map fun z => (⟨z.cps.toList⟩ : Tx)).map fun x => V.str ⟨x.s.toArray⟩ := by
      conv => lhs; rw [e1]
      rw [List.map_map]
      rfl
    rw [e2]
    have em : (ns'.map fun z => (⟨z.cps.toList⟩ : Tx)) = (ns'.map fun z => (⟨z.cps.toList⟩ : Tx)).map id := (List.map_id _).symm
    conv => rhs; rw [em]
    exact All2.map fun x _ => rfl
end
end Z
namespace Z
open PySem PySem.Spec PyProof.Rows L2
/-- o.f where K is a letter (within a comprehension) -/
theorem pe_fldK {X : Cx} {K : PySem.W.Frag} {o : Expr} {f : Str} {pos : Pos} {ta : TE} (he : PE X o ta) (hb : attributeBase o f X.env (eval o X.env) = eval o X.env) (h : X.K = K := by rfl) : PE X (.Attribute o f pos) (tFld K ta f) := by
  subst h
  exact pe_fld he hb
end Z

set_option Elab.async false
set_option linter.all false
set_option maxRecDepth 100000
set_option maxHeartbeats 1000000
/-! own operators of instances: x - y, x | y, x & y; x == y -/
namespace Zo
open PySem PyProof.Rows PySem.W
section
variable {prog : Program} {w : World} {K : Frag} {A : Around} {E : Value → Shared → Prop} {s : Shared} {x y C D f : Addr} {ox oy : Obj} {od oe : Option Obj} {nm : String}
/-- the first of the class's own line is the class -/
def lineOk (K : Frag) (C : Addr) : Bool := (clsIn K C).any fun cd => cd.mro.head? == some (.ref C)
theorem fills_own (X : K.In s.heap) (hl : lineOk K C = true) (hs : findIn K (.ref C) (dunder nm) = some (some (.ref f))) {Q : Bool → Shared → Prop} (h : Q true s) : wpAny (model prog w) A (fillsNumberSlot (.ref C) nm) Q E s := by
  unfold lineOk at hl
  cases hc : clsIn K C with
  | none => rw [hc] at hl; cases hl
  | some cd =>
    rw [hc] at hl
    have hm : cd.mro.head? = some (.ref C) := by simpa using hl
    cases hr : cd.mro with
    | nil => rw [hr] at hm; cases hm
    | cons z rest =>
      rw [hr] at hm
      have ez : z = .ref C := Option.some.inj hm
      subst ez
      unfold fillsNumberSlot
      refine wpAny_bind (m := mroOf _) (wpAny_bind ((looks_clsIn X hc).here (wpAny_pure ?_)))
      rw [hr]
      simp only [List.anyM]
      refine wpAny_bind (wpAny_bind ?_)
      refine wpAny_bind ((looks_findIn X hs).here ?_)
      exact wpAny_pure (wpAny_pure (wpAny_pure h))
/-- x op y of two instances of one class that has a def for op -/
theorem own_binop {op : Operator} {Q : Value → Shared → Prop} (X : K.In s.heap) (I : InstAt s.heap x ox C od) (J : InstAt s.heap y oy C oe) (hl : lineOk K C = true) (hs : findIn K (.ref C) (dunder op.info.2) = some (some (.ref f))) (hf : isFn K (.ref f) = true)
    (h : wpAny (model prog w) A (call (.ref f) [.ref x, .ref y]) (PySem.W.CmpBack Q) E s) : wpAny (model prog w) A (binaryOp op (.ref x) (.ref y)) Q E s := by
  rcases hi : op.info with ⟨sym, nm⟩
  rw [hi] at hs
  have one : wpAny (model prog w) A (tryMethod (.ref x) (dunder nm) (.ref y)) (fun r s' => ∃ v, r = some v ∧ Q v s') E s := by
    unfold tryMethod
    refine wpAny_bind (special_fn X I hs (beq_iff_eq.mp hf) (wpAny_mono h (fun v s' hv => ?_) fun _ _ e => e))
    cases v <;> first | exact hv.elim | exact wpAny_pure ⟨_, rfl, hv⟩
  simp only [binaryOp, hi]
  refine wpAny_holding (wpAny_bind ?_)
  simp only [binaryOp1]
  refine wpAny_bind (I.type.here (wpAny_bind (J.type.here (wpAny_bind (fills_own X hl hs ?_)))))
  simp only [beq_self_eq_true, if_true, pure_bind, Bool.and_false, Bool.false_and, Bool.false_eq_true, if_false]
  refine wpAny_bind (wpAny_mono one (fun r s' hr => ?_) fun _ _ e => e)
  obtain ⟨v, rfl, hq⟩ := hr
  exact wpAny_pure (wpAny_pure hq)
/-- x != y where the class has an == of its own and no != -/
theorem own_ne {Q : Value → Shared → Prop} (X : K.In s.heap) (I : InstAt s.heap x ox C od) (J : InstAt s.heap y oy C oe) (hu : A.units + 1 < cLine) (hne : findIn K (.ref C) "__ne__" = some (some (.builtin "object.__ne__"))) (he : findIn K (.ref C) "__eq__" = some (some (.ref f))) (hf : isFn K (.ref f) = true) (hm : mroIn K C (.type "object") = some true)
    (h : wpAny (model prog w) A.in1 (call (.ref f) [.ref x, .ref y]) (fun v s' => ∃ b, v = .bool b ∧ Q (.bool (!b)) s') E s) : wpAny (model prog w) A (richCompare .NotEq (.ref x) (.ref y)) Q E s := by
  have sub : Looks (model prog w) s.heap (isInstance (.ref x) (.type "object")) true := I.type.andThen (looks_mroIn X hm)
  have one : wpAny (model prog w) A (tryCompare (.ref x) "__ne__" (.ref y)) (fun r s' => ∃ v, r = some v ∧ Q v s') E s := by
    unfold tryCompare
    have cal : wpAny (model prog w) A (call (.builtin "object.__ne__") [.ref x, .ref y]) (fun v s' => ∃ b, v = .bool b ∧ Q (.bool b) s') E s := by
      refine wpAny_call (codeAny_call_builtin F.cmp_object.ne.plain F.cmpEntry_ne (check_slot F.cmpKind_ne F.cmpSplit_ne sub (F.cmpArgs_ne _ _) ?_))
      show wpAny _ _ (Builtin.«object.__ne__» ⟨[.ref x, .ref y], []⟩) _ _ _
      unfold Builtin.«object.__ne__»
      repeat (first
        | with_reducible refine wpAny_cRoomFor (A := A.in1) (by have := hu; simp only [Around.in1] at *; omega) ?_
        | (refine wpAny_bind (m := callSpecialIfBound? (.ref x) (Str.ofString "__eq__") [.ref y]) (ifBound_K X I he hf (wpAny_mono h (fun r s' hr => ?_) fun _ _ e => e)); obtain ⟨b, rfl, hq⟩ := hr)
        | wp_step)
      all_goals exact ⟨_, rfl, hq⟩
    refine wpAny_bind (m := callSpecialIfBound? (.ref x) (Str.ofString "__ne__") [.ref y]) ?_
    simp only [callSpecialIfBound?, bindSpecialIfBound?]
    refine wpAny_holding (wpAny_bind (wpAny_bind (wpAny_bind (I.type.here ((looks_findIn X hne).here ?_)))))
    refine wpAny_bind (wpAny_askSetting (wpAny_ite ?_))
    have fin : wpAny (model prog w) A (call (.builtin "object.__ne__") ([.ref x] ++ [.ref y]) >>= fun v => pure (some v)) (fun a s' => wpAny (model prog w) A (match a with
      | some .notImplemented | none => pure none
      | some v => pure (some v)) (fun r s' => ∃ v, r = some v ∧ Q v s') E s') E s := wpAny_bind (wpAny_mono cal (fun v s' hv => by obtain ⟨b, rfl, hq⟩ := hv; exact wpAny_pure (wpAny_pure ⟨_, rfl, hq⟩)) fun _ _ e => e)
    split
    · exact wpAny_bind (wpAny_of_eq (F.cmp_object.ne.bind _) (wpAny_pure fin))
    · exact wpAny_tryCatch (wpAny_bind (wpAny_of_eq (F.cmp_object.ne.bind _) (wpAny_pure fin)))
  unfold richCompare
  simp only [oneThing_ref]
  refine wpAny_holding (wpAny_bind (wpAny_cRoomFor (by omega) ?_))
  refine wpAny_bind (I.type.here (wpAny_bind (J.type.here ?_)))
  rw [show (Value.ref C != Value.ref C) = false from by simp]
  simp only [Bool.false_eq_true, if_false]
  refine wpAny_bind (wpAny_pure ?_)
  simp only [Bool.false_eq_true, if_false]
  refine wpAny_bind (wpAny_mono one (fun r s' hr => ?_) fun _ _ e => e)
  obtain ⟨v, rfl, hq⟩ := hr
  exact wpAny_pure hq
end
end Zo
namespace L2
open PySem PySem.Spec PyProof.Rows
/-- x op y, two instances of the class at C whose def for op promises sp -/
def rOwnI (C : Addr) (sp : Sp) (E : XK) : R2 := fun x y H Q => ∃ a dx fs b dy gs, x = .ref a ∧ y = .ref b ∧ H a = some (.ins C dx fs) ∧ H b = some (.ins C dy gs) ∧ sp [x, y] H Q E
section
variable {X : Cx} {CX : CXT} {k : Nat} {C g : Addr} {fd : FuncData} {ps : List Str} {sp : Sp} {E : XK}
theorem op_binI {op : Operator} (hl : Zo.lineOk X.K C = true) (hs : PySem.W.findIn X.K (.ref C) (dunder op.info.2) = some (some (.ref g))) (hf : PySem.W.isFn X.K (.ref g) = true) (F : FnOk X.prog X.w X.K X.mg X.base CX k g fd ps sp)
    (hr : Room k X.A) (hb : Binds X.K fd ps []) (hx : Passes CX X E) : OpR X (binaryOp op) (rOwnI C sp E) := by
  intro pins s σ H x y v u Q I rx ry h
  obtain ⟨a, dx, fs, b, dy, gs, rfl, rfl, ha, hb', q⟩ := h
  obtain rfl : v = Value.ref a := rx
  obtain rfl : u = Value.ref b := ry
  obtain ⟨_, J1, _⟩ := ins_get I.hok ha
  obtain ⟨_, J2, _⟩ := ins_get I.hok hb'
  obtain ⟨_, J1, _⟩ := J1.look
  obtain ⟨_, J2, _⟩ := J2.look
  refine Zo.own_binop I.kIn J1 J2 hl hs hf (wpAny_mono (run_fn (us := [.ref a, .ref b]) (vs := [.ref a, .ref b]) F hr hb .nil hx I (.cons rfl (.cons rfl .nil)) q) (fun w s' z => ?_) fun _ _ z => z)
  obtain ⟨z', H', I', rz, qz⟩ := z
  exact SlX.cmpback rz ⟨z', H', I', rz, qz⟩
theorem op_eqI (hs : PySem.W.findIn X.K (.ref C) "__eq__" = some (some (.ref g))) (hf : PySem.W.isFn X.K (.ref g) = true) (F : FnOk X.prog X.w X.K X.mg X.base CX k g fd ps sp)
    (hr : Room k X.A) (hb : Binds X.K fd ps []) (hx : Passes CX X E) : OpR X (compareOp .Eq) (rOwnI C sp E) := by
  intro pins s σ H x y v u Q I rx ry h
  obtain ⟨a, dx, fs, b, dy, gs, rfl, rfl, ha, hb', q⟩ := h
  obtain rfl : v = Value.ref a := rx
  obtain rfl : u = Value.ref b := ry
  obtain ⟨_, J1, _⟩ := ins_get I.hok ha
  obtain ⟨_, J2, _⟩ := ins_get I.hok hb'
  obtain ⟨_, J1, _⟩ := J1.look
  obtain ⟨_, J2, _⟩ := J2.look
  obtain ⟨m, hF⟩ := I.fr
  refine PySem.W.cmp_K (op := .Eq) (tb := .ref C) hr.units0 hF I.ok.mod.kin J1 J2.type (by simp [PySem.W.notFirst]) hs hf (wpAny_mono (run_fn (us := [.ref a, .ref b]) (vs := [.ref a, .ref b]) F hr hb .nil hx I (.cons rfl (.cons rfl .nil)) q) (fun w s' z => ?_) fun _ _ z => z)
  obtain ⟨z', H', I', rz, qz⟩ := z
  exact SlX.cmpback rz ⟨z', H', I', rz, qz⟩
/-- x != y -/
def rOwnNe (C : Addr) (sp : Sp) (E : XK) : R2 := fun x y H Q => ∃ a dx fs b dy gs, x = .ref a ∧ y = .ref b ∧ H a = some (.ins C dx fs) ∧ H b = some (.ins C dy gs) ∧ sp [x, y] H (fun z H' => ∃ r, z = .bl r ∧ Q (.bl (!r)) H') E
theorem op_neI (hne : PySem.W.findIn X.K (.ref C) "__ne__" = some (some (.builtin "object.__ne__"))) (hs : PySem.W.findIn X.K (.ref C) "__eq__" = some (some (.ref g))) (hf : PySem.W.isFn X.K (.ref g) = true) (hm : PySem.W.mroIn X.K C (.type "object") = some true)
    (F : FnOk X.prog X.w X.K X.mg X.base CX k g fd ps sp) (hr : Room (k + 1) X.A) (hb : Binds X.K fd ps []) (hx : Passes CX X E) : OpR X (compareOp .NotEq) (rOwnNe C sp E) := by
  intro pins s σ H x y v u Q I rx ry h
  obtain ⟨a, dx, fs, b, dy, gs, rfl, rfl, ha, hb', q⟩ := h
  obtain rfl : v = Value.ref a := rx
  obtain rfl : u = Value.ref b := ry
  obtain ⟨_, J1, _⟩ := ins_get I.hok ha
  obtain ⟨_, J2, _⟩ := ins_get I.hok hb'
  obtain ⟨_, J1, _⟩ := J1.look
  obtain ⟨_, J2, _⟩ := J2.look
  have hl := F.len _ _ _ _ q
  have r2 : Vals [V.ref a, V.ref b] [Value.ref a, Value.ref b] := .cons rfl (.cons rfl .nil)
  refine Zo.own_ne I.kIn J1 J2 ?hu hne hs hf hm (wpAny_call (codeAny_mono (F.run X.A.in1 X.stack s H ⟨[.ref a, .ref b], []⟩ [.ref a, .ref b] [.ref a, .ref b] _ E hr.in1 I.env0.in1 (by
    have := hb s [.ref a, .ref b] I.kIn (by simpa using hl)
    simpa using this) r2 q) fun r s' hq => ?_))
  case hu =>
    have h1 := hr.un
    omega
  cases r with
  | error e => exact hx pins σ H s e s' I hq
  | ok fl =>
    cases fl with
    | ret w =>
      obtain ⟨z, H', I', rz, r, rfl, qz⟩ := I.after hq
      obtain rfl : w = Value.bool r := rz
      exact ⟨r, rfl, .bl (!r), H', I', rfl, qz⟩
    | next => exact False.elim hq
    | brk => exact False.elim hq
    | cont => exact False.elim hq
/-- len(x) -/
def rLenI (C : Addr) (sp : Sp) (E : XK) : List V → Hp → VK → Prop := fun xs H Q => ∃ a dx fs, xs = [.ref a] ∧ H a = some (.ins C dx fs) ∧ sp [.ref a] H (fun z H' => ∃ n : Nat, n ≤ 100000000 ∧ z = .int n ∧ Q (.int n) H') E
theorem call_lenI (hs : PySem.W.findIn X.K (.ref C) "__len__" = some (some (.ref g))) (hf : PySem.W.isFn X.K (.ref g) = true) (F : FnOk X.prog X.w X.K X.mg X.base CX k g fd ps sp) (hr : Room (k + 1) X.A) (hb : Binds X.K fd ps []) (hx : Passes CX X E) : CallR X (.builtin "len") (rLenI C sp E) := by
  intro pins s σ H xs us Q I r h
  obtain ⟨a, dx, fs, rfl, ha, q⟩ := h
  rw [Vals.ref1 r]
  obtain ⟨_, J1, _⟩ := ins_get I.hok ha
  obtain ⟨_, J1, _⟩ := J1.look
  obtain ⟨m, hF⟩ := I.fr
  have hl := F.len _ _ _ _ q
  refine PySem.W.len_K hF I.ok.mod.kin J1 hs hf (wpAny_call (codeAny_mono (F.run X.A.in1 X.stack s H ⟨[.ref a], []⟩ [.ref a] [.ref a] _ E hr.in1 I.env0.in1 (by
    have := hb s [.ref a] I.kIn (by simpa using hl)
    simpa using this) (.cons rfl .nil) q) fun r s' hq => ?_))
  cases r with
  | error e => exact hx pins σ H s e s' I hq
  | ok fl =>
    cases fl with
    | ret w =>
      obtain ⟨z, H', I', rz, n, hn, rfl, qz⟩ := I.after hq
      obtain ⟨t, rfl⟩ := (show ∃ t, w = Value.int n t from rz)
      refine ⟨⟨by omega, by omega⟩, ?_⟩
      exact ⟨.int n, H', I'.kept (t' := s'.toks + 1) (fun _ _ e => e), ⟨_, rfl⟩, qz⟩
    | next => exact False.elim hq
    | brk => exact False.elim hq
    | cont => exact False.elim hq
end
end L2

set_option Elab.async false
set_option linter.all false
set_option maxRecDepth 100000
set_option maxHeartbeats 1000000
/-! v in x, x an instance with an own __contains__ -/
namespace Zo
open PySem PyProof.Rows PySem.W
section
variable {prog : Program} {w : World} {K : Frag} {A : Around} {E : Value → Shared → Prop} {s : Shared} {x C f : Addr} {ox : Obj} {od : Option Obj}
theorem own_in {Q : Bool → Shared → Prop} {v : Value} (X : K.In s.heap) (I : InstAt s.heap x ox C od) (hs : findIn K (.ref C) "__contains__" = some (some (.ref f))) (hf : isFn K (.ref f) = true)
    (h : wpAny (model prog w) A (call (.ref f) [.ref x, v]) (fun r s' => ∃ b, r = .bool b ∧ Q b s') E s) : wpAny (model prog w) A (contains (.ref x) v) Q E s := by
  unfold contains
  refine wpAny_holding ?_
  have e0 : stdlibNamesSay? (.ref x) v = none := by
    cases v <;> rfl
  simp only [e0]
  have sp : ∀ {α : Type} {k : Option Value → Sem α} {Q' : α → Shared → Prop}, wpAny (model prog w) A (k (some (.ref f))) Q' E s → wpAny (model prog w) A (specialOf (.ref x) "__contains__" >>= k) Q' E s := fun q => wpAny_bind (wpAny_bind (I.type.here ((looks_findIn X hs).here q)))
  refine sp ?_
  have e1 : ((some (Value.ref f) : Option Value) == some Value.none) = false := by rfl
  rw [e1]
  simp only [Bool.false_eq_true, if_false]
  unfold callSpecialUnlessNone?
  refine wpAny_bind (sp ?_)
  refine wpAny_holding (wpAny_bind ((bind_fn X _ (beq_iff_eq.mp hf)).here ?_))
  have e2 : (Value.ref f == Value.none) = false := by rfl
  simp only [e2, Bool.false_eq_true, if_false]
  refine wpAny_bind (wpAny_mono h (fun r s' hr => ?_) fun _ _ e => e)
  obtain ⟨b, rfl, hq⟩ := hr
  exact wpAny_pure (wpAny_truthy_bool hq)
end
end Zo

namespace L2
open PySem PySem.Spec PyProof.Rows
/-- v in x -/
def rOwnIn (C : Addr) (neg : Bool) (sp : Sp) (E : XK) : R2 := fun x y H Q => ∃ a dx fs, y = .ref a ∧ H a = some (.ins C dx fs) ∧ sp [y, x] H (fun z H' => ∃ r, z = .bl r ∧ Q (.bl (if neg then !r else r)) H') E
section
variable {X : Cx} {CX : CXT} {k : Nat} {C g : Addr} {fd : FuncData} {ps : List Str} {sp : Sp} {E : XK}
theorem run_in {pins : List (Addr × Obj)} {σ : St} {H : Hp} {s : Shared} {a dx : Addr} {fs : List (Str × V)} {x : V} {v : Value} {Q : V → Hp → Prop} {neg : Bool} {E1 : Value → Shared → Prop} (hE : E1 = X.xe)
    (hs : PySem.W.findIn X.K (.ref C) "__contains__" = some (some (.ref g))) (hf : PySem.W.isFn X.K (.ref g) = true) (F : FnOk X.prog X.w X.K X.mg X.base CX k g fd ps sp) (hr : Room k X.A) (hb : Binds X.K fd ps []) (hx : Passes CX X E)
    (I : Inv X pins σ H s) (rx : RelV x v) (ha : H a = some (.ins C dx fs)) (q : sp [.ref a, x] H (fun z H' => ∃ r, z = .bl r ∧ Q (.bl (if neg then !r else r)) H') E) :
    wpAny (model X.prog X.w) X.A (contains (.ref a) v) (fun b s' => EP X pins σ Q (.bool (if neg then !b else b)) s') E1 s := by
  subst hE
  obtain ⟨_, J1, _⟩ := ins_get I.hok ha
  obtain ⟨_, J1, _⟩ := J1.look
  refine Zo.own_in I.kIn J1 hs hf (wpAny_mono (run_fn (us := [.ref a, v]) (vs := [.ref a, x]) F hr hb .nil hx I (.cons rfl (.cons rx .nil)) q) (fun w s' z => ?_) fun _ _ z => z)
  obtain ⟨z', H', I', rz, r, rfl, qz⟩ := z
  obtain rfl : w = Value.bool r := rz
  exact ⟨r, rfl, .bl (if neg then !r else r), H', I', rfl, qz⟩
theorem op_inI (hs : PySem.W.findIn X.K (.ref C) "__contains__" = some (some (.ref g))) (hf : PySem.W.isFn X.K (.ref g) = true) (F : FnOk X.prog X.w X.K X.mg X.base CX k g fd ps sp)
    (hr : Room k X.A) (hb : Binds X.K fd ps []) (hx : Passes CX X E) : OpR X (compareOp .In) (rOwnIn C false sp E) := by
  intro pins s σ H x y v u Q I rx ry h
  obtain ⟨a, dx, fs, rfl, ha, q⟩ := h
  obtain rfl : u = Value.ref a := ry
  show wpAny (model X.prog X.w) X.A (contains (Value.ref a) v >>= fun b => (pure (Value.bool b) : Sem Value)) _ _ s
  exact wpAny_bind (wpAny_mono (run_in (neg := false) rfl hs hf F hr hb hx I rx ha q) (fun b s' z => wpAny_pure z) fun _ _ z => z)
theorem op_notInI (hs : PySem.W.findIn X.K (.ref C) "__contains__" = some (some (.ref g))) (hf : PySem.W.isFn X.K (.ref g) = true) (F : FnOk X.prog X.w X.K X.mg X.base CX k g fd ps sp)
    (hr : Room k X.A) (hb : Binds X.K fd ps []) (hx : Passes CX X E) : OpR X (compareOp .NotIn) (rOwnIn C true sp E) := by
  intro pins s σ H x y v u Q I rx ry h
  obtain ⟨a, dx, fs, rfl, ha, q⟩ := h
  obtain rfl : u = Value.ref a := ry
  show wpAny (model X.prog X.w) X.A (contains (Value.ref a) v >>= fun b => (pure (Value.bool (!b)) : Sem Value)) _ _ s
  exact wpAny_bind (wpAny_mono (run_in (neg := true) rfl hs hf F hr hb hx I rx ha q) (fun b s' z => wpAny_pure z) fun _ _ z => z)
end
end L2

set_option Elab.async false
set_option linter.all false
set_option maxRecDepth 100000
set_option maxHeartbeats 1000000
/-! own operators, on data -/
namespace Z
open PySem PySem.Spec PyProof.Rows L2
/-- a datum that is an instance of the class at C -/
def IsIns (K : PySem.W.Frag) (C : Addr) (β : Type) [Rp β] : Prop := ∀ (Δ : Gh) (H : Hp) (v : V) (b : β), Rp.rp K Δ H v b → ∃ a dx fs, v = .ref a ∧ H a = some (.ins C dx fs)
section
variable {K : PySem.W.Frag} {Γ : Own} {ρ : Z.Env} {ta tb te : TE} {α β γ : Type} [Rp α] [Rp β] [Rp γ] {C : Addr} {E : XK} {Pb : γ → Prop}
/-- a op b -/
theorem ev_binI {F : Own → List Cell → (γ → Prop) → Prop} {a b : β} (hI : IsIns K C β) (ha : Ev K Γ ta ρ (Is a)) (hb : Ev K Γ tb ρ (Is b)) (hF : F Γ [⟨a⟩, ⟨b⟩] Pb) : Ev K Γ (tOp (rOwnI C (spD K F) E) ta tb) ρ Pb := fun Δ σ H Q s hh e k =>
  ha Δ σ H _ s hh e fun v H1 a' pa e1 r1 => hb Δ σ H1 _ s e1.2 (e.mono e1.1) fun u H2 b' pb e2 r2 => by
    have ea : a' = a := pa
    have eb : b' = b := pb
    subst ea eb
    have r1' := Rp.mono e2.1 r1
    obtain ⟨p, dx, fs, rfl, hp⟩ := hI Δ H2 v _ r1'
    obtain ⟨q, dy, gs, rfl, hq⟩ := hI Δ H2 u _ r2
    exact ⟨p, dx, fs, q, dy, gs, rfl, rfl, hp, hq, Γ, Δ, [⟨a'⟩, ⟨b'⟩], Pb, hF, s, e2.2, ⟨r1', r2, trivial⟩, fun z H' c pc e3 r3 => k z H' c pc (e1.trans (e2.trans e3)) r3⟩
/-- a != b -/
theorem ev_neI {F : Own → List Cell → (Bool → Prop) → Prop} {a b : β} {r : Bool} (hI : IsIns K C β) (ha : Ev K Γ ta ρ (Is a)) (hb : Ev K Γ tb ρ (Is b)) (hF : F Γ [⟨a⟩, ⟨b⟩] (Is r)) : Ev K Γ (tOp (rOwnNe C (spD K F) E) ta tb) ρ (Is (!r)) := fun Δ σ H Q s hh e k =>
  ha Δ σ H _ s hh e fun v H1 a' pa e1 r1 => hb Δ σ H1 _ s e1.2 (e.mono e1.1) fun u H2 b' pb e2 r2 => by
    have ea : a' = a := pa
    have eb : b' = b := pb
    subst ea eb
    have r1' := Rp.mono e2.1 r1
    obtain ⟨p, dx, fs, rfl, hp⟩ := hI Δ H2 v _ r1'
    obtain ⟨q, dy, gs, rfl, hq⟩ := hI Δ H2 u _ r2
    exact ⟨p, dx, fs, q, dy, gs, rfl, rfl, hp, hq, Γ, Δ, [⟨a'⟩, ⟨b'⟩], Is r, hF, s, e2.2, ⟨r1', r2, trivial⟩, fun z H' c pc e3 r3 => ⟨c, r3, k _ H' (!c) (by rw [show c = r from pc]; rfl) (e1.trans (e2.trans e3)) rfl⟩⟩
/-- x in b, x not in b -/
theorem ev_inI {F : Own → List Cell → (Bool → Prop) → Prop} {x : α} {b : β} {r neg : Bool} (hI : IsIns K C β) (ha : Ev K Γ ta ρ (Is x)) (hb : Ev K Γ tb ρ (Is b)) (hF : F Γ [⟨b⟩, ⟨x⟩] (Is r)) : Ev K Γ (tOp (rOwnIn C neg (spD K F) E) ta tb) ρ (Is (if neg then !r else r)) := fun Δ σ H Q s hh e k =>
  ha Δ σ H _ s hh e fun v H1 a' pa e1 r1 => hb Δ σ H1 _ s e1.2 (e.mono e1.1) fun u H2 b' pb e2 r2 => by
    have ea : a' = x := pa
    have eb : b' = b := pb
    subst ea eb
    have r1' := Rp.mono e2.1 r1
    obtain ⟨q, dy, gs, rfl, hq⟩ := hI Δ H2 u _ r2
    exact ⟨q, dy, gs, rfl, hq, Γ, Δ, [⟨b'⟩, ⟨a'⟩], Is r, hF, s, e2.2, ⟨r2, r1', trivial⟩, fun z H' c pc e3 r3 => ⟨c, r3, k _ H' _ (by rw [show c = r from pc]; rfl) (e1.trans (e2.trans e3)) rfl⟩⟩
/-- len(b) -/
theorem ev_lenI {F : Own → List Cell → (Int → Prop) → Prop} {b : β} {n : Nat} (hI : IsIns K C β) (hb : Ev K Γ te ρ (Is b)) (hn : n ≤ 100000000) (hF : F Γ [⟨b⟩] (Is (n : Int))) : Ev K Γ (tCB (rLenI C (spD K F) E) (tCons te tNil)) ρ (Is (n : Int)) := fun Δ σ H Q s hh e k =>
  hb Δ σ H _ s hh e fun u H1 b' pb e1 r1 => by
    have eb : b' = b := pb
    subst eb
    obtain ⟨q, dy, gs, rfl, hq⟩ := hI Δ H1 u _ r1
    exact ⟨q, dy, gs, rfl, hq, Γ, Δ, [⟨b'⟩], Is (n : Int), hF, s, e1.2, ⟨r1, trivial⟩, fun z H' c pc e3 r3 => ⟨n, hn, by rw [show z = .int c from r3, show c = (n : Int) from pc], k _ H' (n : Int) rfl (e1.trans e3) rfl⟩⟩
end
end Z

set_option Elab.async false
set_option linter.all false
set_option maxRecDepth 100000
set_option maxHeartbeats 1000000
/-! == and != of lists and tuples of texts -/
namespace Z
open PySem PySem.Spec PyProof.Rows L2
theorem beq_tS (x y : Tx) : (tS x == tS y) = decide (x = y) := by
  by_cases h : x = y
  · subst h
    simp
  · rw [decide_eq_false h]
    exact beq_eq_false_iff_ne.mpr fun z => h (tS_inj.mp z)
theorem eqv_txs : ∀ xs ys : List Tx, PyData.eqvAll (xs.map Dt.d) (ys.map Dt.d) = decide (xs = ys)
  | [], [] => by simp [PyData.eqvAll]
  | [], y :: ys => by simp [PyData.eqvAll]
  | x :: xs, [] => by simp [PyData.eqvAll]
  | x :: xs, y :: ys => by
    have more := eqv_txs xs ys
    rw [List.map_cons, List.map_cons, PyData.eqvAll, more]
    show ((tS x == tS y) && _) = _
    rw [beq_tS]
    by_cases h : x = y <;> simp [h]
/-- texts that may be written -/
def TOk (xs : List Tx) : Prop := ∀ x ∈ xs, PyData.canLay0 (Dt.d x) = true
theorem lay_txs : ∀ {xs : List Tx}, TOk xs → PyData.canLayAll0 (xs.map Dt.d) = true ∧ PyData.depthAll (xs.map Dt.d) = 0
  | [], _ => by simp [PyData.canLayAll0, PyData.depthAll]
  | x :: xs, h => by
    have more := lay_txs (xs := xs) fun y hy => h y (List.mem_cons_of_mem _ hy)
    rw [List.map_cons, PyData.canLayAll0, PyData.depthAll, more.1, more.2]
    have h1 : PyData.canLay0 (Dt.d x) = true := h x List.mem_cons_self
    rw [h1]
    exact ⟨rfl, rfl⟩
theorem shaped_tS {xs : Tup Tx} (h : TOk xs.l) : SeqAt.shaped (Dt.d xs) = true := by
  unfold SeqAt.shaped
  show (PyData.canLay0 (.tuple _) && decide (PyData.depth (.tuple _) ≤ 64)) = true
  rw [PyData.canLay0, PyData.depth, (lay_txs h).1, (lay_txs h).2]
  rfl
theorem shaped_lS {xs : List Tx} (h : TOk xs) : SeqAt.shaped (Dt.d xs) = true := by
  unfold SeqAt.shaped
  show (PyData.canLay0 (.list _) && decide (PyData.depth (.list _) ≤ 64)) = true
  rw [PyData.canLay0, PyData.depth, (lay_txs h).1, (lay_txs h).2]
  rfl
section
variable {K : PySem.W.Frag}
theorem o2_eqTS {x y : Tup Tx} (hx : TOk x.l) (hy : TOk y.l) : Op2 K (rEqD K) x y (Is (decide (x.l = y.l))) := by
  rw [← eqv_txs x.l y.l]
  exact o2_eqD (shaped_tS hx) (shaped_tS hy)
theorem o2_neTS {x y : Tup Tx} (hx : TOk x.l) (hy : TOk y.l) : Op2 K (rNeD K) x y (Is (!decide (x.l = y.l))) := by
  rw [← eqv_txs x.l y.l]
  exact o2_neD (shaped_tS hx) (shaped_tS hy)
theorem o2_eqLS {x y : List Tx} (hx : TOk x) (hy : TOk y) : Op2 K (rEqD K) x y (Is (decide (x = y))) := by
  rw [← eqv_txs x y]
  exact o2_eqD (shaped_lS hx) (shaped_lS hy)
theorem o2_neLS {x y : List Tx} (hx : TOk x) (hy : TOk y) : Op2 K (rNeD K) x y (Is (!decide (x = y))) := by
  rw [← eqv_txs x y]
  exact o2_neD (shaped_lS hx) (shaped_lS hy)
end
end Z

set_option Elab.async false
set_option linter.all false
set_option maxRecDepth 100000
set_option maxHeartbeats 1000000
/-! properties and methods, on data -/
namespace Z
open PySem PySem.Spec PyProof.Rows L2
/-- a datum that is an instance of the class at C without an attribute m of its own -/
def IsInsM (K : PySem.W.Frag) (C : Addr) (m : Str) (β : Type) [Rp β] : Prop := ∀ (Δ : Gh) (H : Hp) (v : V) (b : β), Rp.rp K Δ H v b → ∃ a dx fs, v = .ref a ∧ H a = some (.ins C dx fs) ∧ fs.lookup m = none
section
variable {K : PySem.W.Frag} {Γ : Own} {ρ : Z.Env} {ta tb te : TE} {tl : TA} {α β γ : Type} [Rp α] [Rp β] [Rp γ] {C : Addr} {E : XK} {Pb : γ → Prop} {m : Str}
/-- b.m, a property -/
theorem ev_prop {F : Own → List Cell → (γ → Prop) → Prop} {b : β} (hI : IsIns K C β) (h : Ev K Γ te ρ (Is b)) (hF : F Γ [⟨b⟩] Pb) : Ev K Γ (tProp C (spD K F) [] E te) ρ Pb := fun Δ σ H Q s hh e k =>
  h Δ σ H _ s hh e fun v H1 b' pb e1 r1 => by
    have eb : b' = b := pb
    subst eb
    obtain ⟨p, dx, fs, rfl, hp⟩ := hI Δ H1 v _ r1
    exact ⟨p, dx, fs, rfl, hp, Γ, Δ, [⟨b'⟩], Pb, hF, s, e1.2, ⟨r1, trivial⟩, fun z H' c pc e3 r3 => k z H' c pc (e1.trans e3) r3⟩
/-- b.m(e, ..) -/
theorem ev_meth {F : Own → List Cell → (γ → Prop) → Prop} {b : β} {cs : List Cell} (hI : IsInsM K C m β) (h : Ev K Γ te ρ (Is b)) (ha : EvA K Γ tl ρ (Is cs)) (hF : F Γ (⟨b⟩ :: cs) Pb) : Ev K Γ (tMeth C m (spD K F) [] E te tl) ρ Pb := fun Δ σ H Q s hh e k =>
  h Δ σ H _ s hh e fun v H1 b' pb e1 r1 => by
    have eb : b' = b := pb
    subst eb
    obtain ⟨p, dx, fs, rfl, hp, hm⟩ := hI Δ H1 v _ r1
    refine ⟨p, dx, fs, rfl, hp, hm, ha Δ σ H1 _ s e1.2 (e.mono e1.1) fun vs H2 cs' pcs e2 r2 => ?_⟩
    have ec : cs' = cs := pcs
    subst ec
    exact ⟨Γ, Δ, ⟨b'⟩ :: cs', Pb, hF, s, e2.2, ⟨Rp.mono e2.1 r1, by rw [List.append_nil]; exact r2⟩, fun z H' c pc e3 r3 => k z H' c pc (e1.trans (e2.trans e3)) r3⟩
end
end Z

set_option Elab.async false
set_option linter.all false
set_option maxRecDepth 100000
set_option maxHeartbeats 1000000
/-! the head tells properties too -/
namespace Zh
open PySem PySem.Spec PyProof.Rows L2 He
/-- where the getter of x's property m stands -/
def pg (K : PySem.W.Frag) (x m : Str) : Addr := match PySem.W.recIn K (ma K (ga K x) m) "property" with
  | some (.ref g :: _) => g
  | _ => 0
/-- a function that stands at a -/
def lookW (K : PySem.W.Frag) (a : Addr) : FnW := match K.lookup a with
  | some ⟨_, _, .func fd, _⟩ => some (fd.name, fd.qualname, fd.params, fd.body, fd.scope, fd.globals, fd.closure, fd.builtins)
  | _ => none
structure GetD where
  cls : Str
  m : Str
  qual : Str
  params : Arguments
  body : List Stmt
  scope : Scope
def GetD.val (d : GetD) : FnW := some (d.m, d.qual, d.params, .stmts d.body, d.scope, mainGlobals, [], builtinsNs)
/-- keys of the property -/
def propB (K : PySem.W.Frag) (x m : Str) : Bool := decide (PySem.W.findIn K (.ref (ga K x)) m = some (some (.ref (ma K (ga K x) m)))) &&
  (decide (PySem.W.specialIn K (.ref (ma K (ga K x) m)) "__get__" = some (some (.builtin "property.__get__"))) && (decide (PySem.W.takesIn K (.ref (ma K (ga K x) m)) = some true) &&
  (match PySem.W.recIn K (ma K (ga K x) m) "property" with
    | some (.ref _ :: _) => true
    | _ => false)))
/-- the code and the defaults (none) of the function at a -/
def bareB (K : PySem.W.Frag) (a : Addr) (q : Str) : Bool := PySem.W.keepIn K (.ref a) && (match K.lookup a with
  | some ⟨_, _, .func fd, _⟩ => PySem.W.codeIn K fd.code q && (dflB K fd.defaults [] && kwdB K fd.kwdefaults [])
  | _ => false)
def GetD.ok (K : PySem.W.Frag) (d : GetD) : Bool := propB K d.cls d.m && bareB K (pg K d.cls d.m) d.qual
theorem both {a b : Bool} (h : (a && b) = true) : a = true ∧ b = true := by
  cases a <;> cases b <;> first | exact ⟨rfl, rfl⟩ | cases h
theorem prop_ok {K : PySem.W.Frag} {x m : Str} (h : propB K x m = true) : PropOf K (ga K x) m (ma K (ga K x) m) (pg K x m) := by
  obtain ⟨h1, h⟩ := both h
  obtain ⟨h2, h⟩ := both h
  obtain ⟨h3, h4⟩ := both h
  refine ⟨of_decide_eq_true h1, of_decide_eq_true h2, of_decide_eq_true h3, ?_⟩
  unfold pg
  split at h4
  · rename_i g r e
    rw [e]
    exact ⟨r, rfl⟩
  · cases h4
theorem GetD.funD {K : PySem.W.Frag} {d : GetD} (e : lookW K (pg K d.cls d.m) = d.val) (c : bareB K (pg K d.cls d.m) d.qual = true) : ∃ fd, FunD K d.m d.qual d.params d.body d.scope [] [] (pg K d.cls d.m) fd := by
  obtain ⟨kp, k⟩ := both c
  unfold lookW at e
  revert e k
  generalize hq : K.lookup (pg K d.cls d.m) = r
  intro e k
  match r, hq, e, k with
  | some ⟨oc, od, .func ⟨n1, n2, n3, n4, n5, n6, n7, n8, n9, n10, n11, n12, n13, n14, n15⟩, osl⟩, hq, e, k =>
    obtain ⟨k1, k2⟩ := both k
    obtain ⟨k3, k4⟩ := both k2
    unfold GetD.val at e
    simp only [Option.some.injEq, Prod.mk.injEq] at e
    obtain ⟨e1, e2, e3, e4, e5, e6, e7, e8⟩ := e
    subst e1 e2 e3 e4 e5 e6 e7 e8
    exact ⟨_, ⟨oc, od, n8, n9, n10, n11, n12, n13, n14, osl, rfl, hq, k1, dflB_ok k3, kwdB_ok k4⟩, kp⟩
abbrev AlP : Type := AlD × Bool × List FnW
def obsP (fa : List Fa) (fn : List DefD) (gs : List GetD) (ts : List (PySem.W.Frag → Bool)) (K : PySem.W.Frag) : AlP := (obsD fa fn K, ((gs.all fun d => d.ok K) && ts.all fun t => t K), gs.map fun d => lookW K (pg K d.cls d.m))
def valP (fn : List DefD) (gs : List GetD) : AlP := (valD fn, true, gs.map GetD.val)
def SaysP (fa : List Fa) (fn : List DefD) (gs : List GetD) (ts : List (PySem.W.Frag → Bool)) (K : PySem.W.Frag) : Prop := obsP fa fn gs ts K = valP fn gs
def obsPG (n : Nat) (fa : List Fa) (fn : List DefD) (gs : List GetD) (ts : List (PySem.W.Frag → Bool)) (g : Addr → Option Obj) : AlP := obsP fa fn gs ts (frG g (asD g n))
def hookP (n : Nat) (fa : List Fa) (fn : List DefD) (gs : List GetD) (ts : List (PySem.W.Frag → Bool)) : PySem.W.Hook where
  α := AlP
  obs := fun s => obsPG n fa fn gs ts s.heap.get?
  val := fun _ => valP fn gs
  says := fun _ h => ∃ K : PySem.W.Frag, K.In h ∧ SaysP fa fn gs ts K
  of := fun _ _ e => ⟨_, frG_in, e⟩
  keeps := fun _ _ _ ⟨K, hK, c⟩ k => ⟨K, PySem.W.Frag.In.keeps hK k, c⟩
theorem obsPG_eq {n : Nat} {fa : List Fa} {fn : List DefD} {gs : List GetD} {ts : List (PySem.W.Frag → Bool)} {g : Addr → Option Obj} {s : Shared} (h : ∀ a, g a = s.heap.get? a) : obsPG n fa fn gs ts g = (hookP n fa fn gs ts).obs s := by
  rw [show g = s.heap.get? from funext h]
  rfl
section
variable {fa : List Fa} {fn : List DefD} {gs : List GetD} {ts : List (PySem.W.Frag → Bool)} {K : PySem.W.Frag}
theorem SaysP.d (c : SaysP fa fn gs ts K) : SaysD fa fn K := congrArg (fun z : AlP => z.1) c
theorem SaysP.get (c : SaysP fa fn gs ts K) (i : Nat) {d : GetD} (h : gs[i]? = some d := by rfl) : PropOf K (ga K d.cls) d.m (ma K (ga K d.cls) d.m) (pg K d.cls d.m) ∧ ∃ fd, FunD K d.m d.qual d.params d.body d.scope [] [] (pg K d.cls d.m) fd := by
  have h1 : (gs.all fun d => d.ok K) = true := (both (show ((gs.all fun d => d.ok K) && ts.all fun t => t K) = true from congrArg (fun z : AlP => z.2.1) c)).1
  have h2 : gs.map (fun d => lookW K (pg K d.cls d.m)) = gs.map GetD.val := congrArg (fun z : AlP => z.2.2) c
  obtain ⟨h3, h4⟩ := both (List.all_eq_true.mp h1 d (List.mem_of_getElem? h))
  have h5 := congrArg (fun l => l[i]?) h2
  simp only [List.getElem?_map, h, Option.map_some, Option.some.injEq] at h5
  exact ⟨prop_ok h3, GetD.funD h5 h4⟩
theorem SaysP.test (c : SaysP fa fn gs ts K) (i : Nat) {t : PySem.W.Frag → Bool} (h : ts[i]? = some t := by rfl) : t K = true := by
  have h1 : (ts.all fun t => t K) = true := (both (show ((gs.all fun d => d.ok K) && ts.all fun t => t K) = true from congrArg (fun z : AlP => z.2.1) c)).2
  exact List.all_eq_true.mp h1 t (List.mem_of_getElem? h)
end
end Zh

set_option Elab.async false
set_option linter.all false
set_option maxRecDepth 100000
set_option maxHeartbeats 1000000
/-! lists of one's own whose items are plain (ints, bools, texts): made, appended to, read, handed back -/
namespace Z
open PySem PySem.Spec PyProof.Rows L2
/-- data that a value bears whatever the heap -/
class Flat (α : Type) [Rp α] where
  val : α → V
  iff : ∀ {K : PySem.W.Frag} {Δ : Gh} {H : Hp} {v : V} {a : α}, Rp.rp K Δ H v a ↔ v = val a
instance : Flat Int := ⟨V.int, Iff.rfl⟩
instance : Flat Bool := ⟨V.bl, Iff.rfl⟩
instance : Flat Tx := ⟨fun x => .str (tS x), Iff.rfl⟩
section
variable {K : PySem.W.Frag} {Δ0 : Gh} {H0 : Hp} {Γ : Own} {F : List (V × Cell)} {ρ : Z.Env} {ta tb te : TE} {tz : TS} {D : Ends} {α : Type} [Rp α] [Flat α]
abbrev OwnL (p : Addr) (xs : List α) : Addr × (HO → Prop) := (p, ObIs (.lst (xs.map Flat.val)))
theorem all2_flat {Δ : Gh} {H : Hp} : ∀ xs : List α, All2 (fun (u : V) (a : α) => Rp.rp K Δ H u a) (xs.map Flat.val) xs
  | [] => trivial
  | x :: xs => ⟨Flat.iff.mpr rfl, all2_flat xs⟩
/-- name = [] -/
theorem wp_newL {i : Nat} (hi : i < ρ.length) (k : ∀ p, OwnP Δ0 Γ p → Wp K Δ0 H0 (OwnL p ([] : List α) :: Γ) F (ρ.set i (some ⟨(⟨p⟩ : Loc)⟩)) tz D) : Wp K Δ0 H0 Γ F ρ (tSeq (tAsg (tLst tNil) (gName i)) tz) D := fun σ H ⟨Δ, s, hh, e, f, e0, s1, s2⟩ => by
  refine ⟨by show 0 ≤ sizeLine; decide, fun p hp => ?_⟩
  obtain ⟨o, Δ', s', hh', e', f', e0', s1', s2'⟩ := own_newO (K := K) (o := .lst []) s hh e f e0 s1 s2 hp
  exact k p o _ _ ⟨Δ', s', hh', e'.set (c := ⟨(⟨p⟩ : Loc)⟩) hi rfl, f', e0', s1', s2'⟩
/-- name.append(e) -/
theorem wp_app {p : Addr} {xs : List α} {P : α → Prop} (o : OwnP Δ0 Γ p) (hz : xs.length < 50000) (ho : Ev K (OwnL p xs :: Γ) ta ρ (Is (⟨p⟩ : Loc))) (h : Ev K (OwnL p xs :: Γ) te ρ P)
    (k : ∀ a, P a → Wp K Δ0 H0 (OwnL p (xs ++ [a]) :: Γ) F ρ tz D) : Wp K Δ0 H0 (OwnL p xs :: Γ) F ρ (tSeq (tDrop (tBM K "list" rAppend ta (tCons te tNil))) tz) D := fun σ H ⟨Δ, s, hh, e, f, e0, s1, s2⟩ =>
  ho Δ σ H _ s hh e fun w H1 b pb e1 r1 => by
    have eb : b = ⟨p⟩ := pb
    subst eb
    have ew : w = .ref p := r1
    subst ew
    obtain ⟨u, hu, iu⟩ := e1.2 p _ (s _ List.mem_cons_self)
    have iu' : u = HO.lst _ := iu
    subst iu'
    refine ⟨.inl ⟨rfl, _, SqL.of hu⟩, h Δ σ H1 _ s e1.2 (e.mono e1.1) fun v H2 a pa e2 r2 => ?_⟩
    have e3 := e1.trans e2
    have ev : v = Flat.val a := Flat.iff.mp r2
    subst ev
    have st : Stt K Δ0 H0 (OwnL p xs :: Γ) F ρ σ H2 := ⟨Δ, s, e3.2, e.mono e3.1, fun q hq => q.2.r.mono e3.1 (f q hq), ext0 e0 s1 s2 e3, s1, s2⟩
    obtain ⟨hp, st'⟩ := own_putO (o2 := .lst ((xs ++ [a]).map Flat.val)) o st
    refine ⟨p, _, _, rfl, rfl, hp, ?_, ?_⟩
    · rw [List.length_map]
      exact Nat.lt_trans hz (by decide)
    · have e5 : xs.map Flat.val ++ [Flat.val a] = (xs ++ [a]).map Flat.val := by rw [List.map_append]; rfl
      rw [e5]
      exact k a pa σ _ st'
/-- return name -/
theorem wp_retL {R : List α → Prop} {p : Addr} {xs : List α} (o : OwnP Δ0 Γ p) (hf : Fin K Δ0 H0 R D) (hr : R xs) (ho : Ev K (OwnL p xs :: Γ) ta ρ (Is (⟨p⟩ : Loc))) : Wp K Δ0 H0 (OwnL p xs :: Γ) F ρ (tRet ta) D := fun σ H ⟨Δ, s, hh, e, f, e0, s1, s2⟩ =>
  ho Δ σ H _ s hh e fun w H1 b pb e1 r1 => by
    have eb : b = ⟨p⟩ := pb
    subst eb
    have ew : w = .ref p := r1
    subst ew
    obtain ⟨u, hu, iu⟩ := e1.2 p _ (s _ List.mem_cons_self)
    have iu' : u = HO.lst _ := iu
    subst iu'
    exact hf _ H1 xs hr (ext0 e0 s1 s2 e1) ⟨p, _, rfl, .inl ⟨o.n0, .inl hu⟩, .inl (.inl hu), all2_flat xs⟩
/-- one's own list as a datum, to read -/
theorem ev_ownL {p : Addr} {xs : List α} (hm : OwnL p xs ∈ Γ) {r : List V → Hp → VK → Prop} {γ : Type} [Rp γ] {P : γ → Prop} (ho : Ev K Γ ta ρ (Is (⟨p⟩ : Loc))) (hr : ∀ (Δ : Gh) (H : Hp) (Q : VK), Hold Δ H → H p = some (.lst (xs.map Flat.val)) → (∀ u H' c, P c → Ext Δ H H' → Rp.rp K Δ H' u c → Q u H') → r [.ref p] H Q) : Ev K Γ (tCB r (tCons ta tNil)) ρ P := fun Δ σ H Q s hh e k =>
  ho Δ σ H _ s hh e fun w H1 b pb e1 r1 => by
    have eb : b = ⟨p⟩ := pb
    subst eb
    have ew : w = .ref p := r1
    subst ew
    obtain ⟨u, hu, iu⟩ := e1.2 p _ (s _ hm)
    have iu' : u = HO.lst _ := iu
    subst iu'
    exact hr Δ H1 Q e1.2 hu fun u H' c pc e2 r2 => k u H' c pc (e1.trans e2) r2
theorem ev_lenO {p : Addr} {xs : List α} (hm : OwnL p xs ∈ Γ) (ho : Ev K Γ ta ρ (Is (⟨p⟩ : Loc))) : Ev K Γ (tCB (fun xs H Q => ∃ x n, xs = [x] ∧ LenV K x H n ∧ Q (.int n) H) (tCons ta tNil)) ρ (Is (xs.length : Int)) :=
  ev_ownL hm ho fun Δ H Q hh hp k => by
    refine ⟨.ref p, xs.length, rfl, .inl ⟨xs.map Flat.val, ?_, by rw [List.length_map]⟩, k _ H _ rfl (Ext.refl hh) rfl⟩
    exact .inl (.inl hp)
end
end Z

set_option Elab.async false
set_option linter.all false
set_option maxRecDepth 100000
set_option maxHeartbeats 4000000
/-! yield from a list -/
namespace Zy
open PySem PySem.Spec PyProof.Rows L2
section
variable {prog : Program} {w : World} {A : Around} {E : Value → Shared → Prop} {s : Shared} {it l : Addr} {i : Nat} {items : Array Value}
/-- a turn that gives an item -/
theorem turn_item {x : Value} {Q : Option Value → Shared → Prop} (hit : s.heap.IsListIter it l i) (hl : s.heap.IsList l items) (hx : items[i]? = some x)
    (k : ∀ h', h'.IsListIter it l (i + 1) → Heap.SameBut it s.heap h' → Q (some x) { s with heap := h' }) : wpAny (model prog w) A (callSpecial? (.ref it) "__next__") Q E s := by
  have hT := hit.typeIs
  obtain ⟨io, hio, hic, hid⟩ := hit
  obtain ⟨lo, hlo, _, ln, hld⟩ := hl
  refine wpAny_callSpecial?_slot (name := Str.ofString "__next__") hT slot_listiter_next (wpAny_call_entry slot_listiter_next hT entry_listiter_next ?_ (args_listiter_next _))
  refine wpAny_bind (m := field (.ref it) 0) (wpAny_field hio hid (x := .ref l) rfl ?_)
  change wpAny _ _ (if (Value.ref l == Value.none) = true then _ else _) _ _ s
  rw [if_neg (fun z => by cases (show false = true from z))]
  refine wpAny_bind (m := field (.ref it) 1) (wpAny_field hio hid (x := .int i 0) rfl ?_)
  refine wpAny_bind (m := seqItems? (.ref l)) (wpAny_seqItems hlo hld ?_)
  simp only [Int.toNat_natCast, hx]
  refine wpAny_bind (wpAny_setField hio hid (by simp) (wpAny_pure ⟨x, rfl, k _ ⟨_, Heap.get?_update_self _ hio (Obj.isFreed_of_fields (Obj.data_mapFields hid _)), (Obj.cls_mapFields ..).trans hic, ?_⟩ (Heap.SameBut.update ..)⟩))
  rw [Obj.data_mapFields hid]
  simp [rawInt]
/-- the turn behind the last item -/
theorem turn_end {Q : Option Value → Shared → Prop} (hh : A.handled = none) (hit : s.heap.IsListIter it l i) (hl : s.heap.IsList l items) (hx : items[i]? = none)
    (k : ∀ e h', StopX e h' → Heap.ExtBut it s.heap h' → E e { s with heap := h' }) : wpAny (model prog w) A (callSpecial? (.ref it) "__next__") Q E s := by
  have hT := hit.typeIs
  obtain ⟨io, hio, hic, hid⟩ := hit
  obtain ⟨lo, hlo, _, ln, hld⟩ := hl
  refine wpAny_callSpecial?_slot (name := Str.ofString "__next__") hT slot_listiter_next (wpAny_call_entry slot_listiter_next hT entry_listiter_next ?_ (args_listiter_next _))
  refine wpAny_bind (m := field (.ref it) 0) (wpAny_field hio hid (x := .ref l) rfl ?_)
  change wpAny _ _ (if (Value.ref l == Value.none) = true then _ else _) _ _ s
  rw [if_neg (fun z => by cases (show false = true from z))]
  refine wpAny_bind (m := field (.ref it) 1) (wpAny_field hio hid (x := .int i 0) rfl ?_)
  refine wpAny_bind (m := seqItems? (.ref l)) (wpAny_seqItems hlo hld ?_)
  simp only [Int.toNat_natCast, hx]
  refine wpAny_bind (wpAny_rule (wpAny_bind (wpAny_setField hio hid (by simp) ?_)))
  refine wpAny_bind (m := newExc (.type "StopIteration") []) ?_
  simp only [newExc, newTuple]
  refine wpAny_bind (wpAny_newObj_type (wpAny_bind (m := firstArgMember _ _) (wpAny_of_eq (a := Value.none) (by first | rfl | (simp only [firstArgMember]; rfl)) (wpAny_newObj_type ?_ (by size_fits)))) (by size_fits))
  simp only [raiseNew]
  refine wpAny_bind (wpAny_handled ?_)
  rw [show A.in1.handled = none from hh]
  refine wpAny_bind (wpAny_pure (wpAny_throw (k _ _ ⟨_, _, _, rfl, Heap.get?_push_size _ rfl, rfl, rfl, ?_⟩ (((Heap.SameBut.update ..).extBut.push _).push _))))
  first
    | rfl
    | kernel_rfl
end
section
variable {X : Cx} {e : Expr} {te : TE}
/-- yield from e, e a list that stands in the heap -/
def tYfLst (te : TE) : TYf := fun σ H Q => te σ H fun x H1 => ∃ a xs, x = .ref a ∧ Rd H1 a (.lst xs) ∧ Q xs H1
theorem close_lst : typeLookup (.type "list_iterator") "close" = pure none := by rw [typeLookup_type, builtinLookup_eq_fast]; kernel_rfl
theorem yf_lst (he : PE X e te) : YfE X e (tYfLst te) := by
  refine ⟨fun pins s σ H Q I h => thn (he.run pins s σ H _ I h) fun v s1 ⟨x, H1, I1, r1, a, xs, ex, ha, hq⟩ => ?_⟩
  subst ex
  obtain rfl : v = Value.ref a := r1
  obtain ⟨its, rits, hl0, hlen⟩ := I1.list (.inl ha)
  have hl : s1.heap.IsList a its.toArray := hl0.isList
  obtain ⟨_, hob, _⟩ := id hl
  have hsome : H1 a ≠ none := fun z => by
    rcases ha with ha | ⟨u, ha⟩ <;> rw [z] at ha <;> cases ha
  refine ⟨"list", hl.typeIs, by decide, wpAny_pyIter_list hl ?_⟩
  let o : Obj := { cls := .type "list_iterator", data := .fields #[.ref a, .int 0 0] }
  have old : ∀ b u, s1.heap.get? b = some u → b ≠ s1.heap.objs.size := fun b u q => Nat.ne_of_lt (Heap.lt_size q)
  have kp : ∀ b u, s1.heap.get? b = some u → (s1.heap.push o).get? b = some u := fun b u q => Heap.get?_push_of_some _ q
  have hna : a ≠ s1.heap.objs.size := old a _ hob
  refine ⟨s1.heap.objs.size, H1, xs, fun j h => h.IsListIter s1.heap.objs.size a j ∧ h.IsList a its.toArray, rfl, I1.kept (t' := s1.toks) kp, .inr I1.sz, Nat.ne_of_gt I1.lt, fun y c hy => ?_, I1.hok.fresh (Nat.le_refl _), fun p hp => old p.1 _ (I1.pin p hp).1,
    ⟨⟨_, Heap.get?_push_size _ rfl, rfl, rfl⟩, hl.push _⟩, ⟨⟨"list_iterator", fun j h q => ?_, close_lst, by decide⟩, fun j h h' q hk => ?_, fun A' j x s2 Q' E' hA hx q hQ => ?_, fun A' s2 Q' E' hA q hE => ?_⟩, hq⟩
  · obtain ⟨v, u, hu, _⟩ := I1.cell y c hy
    exact old c u hu
  · obtain ⟨⟨u, hu, hc, _⟩, _⟩ := q
    exact ⟨u, hu, hc⟩
  · obtain ⟨⟨u, hu, r⟩, u2, hu2, r2⟩ := q
    exact ⟨⟨u, hk _ u (.inl rfl) hu, r⟩, u2, hk _ u2 (.inr hsome) hu2, r2⟩
  · obtain ⟨u, hu, ru⟩ := rits.get hx
    exact turn_item q.1 q.2 (x := u) (by simpa using hu) fun h' q1 hs => hQ u h' s2.toks ru ⟨q1, q.2.extBut hs.extBut hna⟩ fun b u hb eb => hs.extBut b u hb eb
  · have hnone : its.toArray[xs.length]? = none := by
      have q1 := rits.length
      have q2 : its[xs.length]? = none := List.getElem?_eq_none_iff.mpr (by omega)
      simpa using q2
    exact turn_end hA q.1 q.2 hnone fun e h' hS hk => hE e h' s2.toks hS fun b u hb eb => hk b u hb eb
end
end Zy

set_option Elab.async false
set_option linter.all false
set_option maxRecDepth 100000
set_option maxHeartbeats 1000000
/-! a comprehension with two for, its items plain -/
namespace Z
open PySem PySem.Spec PyProof.Rows L2
/-- a list that stands in the heap (no literal of the written part) -/
structure NL (α : Type) where
  l : List α
section
variable {α : Type} [Rp α]
instance : Rp (NL α) where
  rp K Δ H v xs := ∃ p vs, v = .ref p ∧ Δ p = none ∧ Rd H p (.lst vs) ∧ All2 (fun u a => Rp.rp K Δ H u a) vs xs.l
  mono k h := by
    obtain ⟨p, vs, e, n, r, q⟩ := h
    exact ⟨p, vs, e, n, rd_mono k n r, q.imp fun _ _ => Rp.mono k⟩
  weak w h := by
    obtain ⟨p, vs, e, n, r, q⟩ := h
    obtain ⟨u, hu⟩ := rd_some r
    exact ⟨p, vs, e, w _ _ hu n, r, q.imp fun _ _ => Rp.weak w⟩
variable {K : PySem.W.Frag} {Γ : Own} {ρ : Z.Env} {te : TE} {ta : TA}
/-- it is a list -/
theorem ev_ofNL {y : NL α} (h : Ev K Γ te ρ (Is y)) : Ev K Γ te ρ (Is y.l) := fun Δ σ H Q s hh e k => h Δ σ H Q s hh e fun v H' a pa e1 r => by
  have ea : a = y := pa
  subst ea
  obtain ⟨p, vs, rfl, n, hr, q⟩ := r
  exact k _ H' a.l rfl e1 ⟨p, vs, rfl, .inl ⟨n, hr⟩, .inl hr, q⟩
/-- [a, b, ..] -/
theorem ev_lstN {xs : List α} (h : EvA K Γ ta ρ (Is (xs.map fun a => ⟨a⟩))) (hz : xs.length ≤ 100000) : Ev K Γ (tLst ta) ρ (Is (⟨xs⟩ : NL α)) := fun Δ σ H Q s hh e k => h Δ σ H _ s hh e fun vs H' cs pcs e1 r => by
  have ec : cs = xs.map fun a => ⟨a⟩ := pcs
  subst ec
  have r' := All2.of_map r
  exact ⟨Nat.le_trans (Nat.le_of_eq r'.len) (Nat.le_trans hz (by decide)), fun p hp => k _ _ ⟨xs⟩ rfl (e1.trans (Ext.new e1.2 hp _)) ⟨p, vs, rfl, e1.2.fresh hp, .inl upd_same, r'.imp fun _ _ => Rp.mono (Ext.new e1.2 hp _).1⟩⟩
end
section
variable {K : PySem.W.Frag} {Γ : Own} {ρ : Z.Env} {te : TE} {β : Type} [Rp β] [Flat β]
theorem ev_lc2 {wi wi1 : TI} {g g1 : TG} {js js1 vs vs1 : List Nat} {n : Nat} {m : Nat → Nat} {st : Nat → Z.Env → Z.Env} {st1 : Nat → Nat → Z.Env → Z.Env} (Iv : Nat → Nat → List β → Prop) (S : Src K Γ wi g ρ js n st) (hjs : ∀ j ∈ js, j ∈ vs)
    (S1 : ∀ i, i < n → Src K Γ wi1 g1 (st i (wipeE ρ vs)) js1 (m i) (st1 i)) (hjs1 : ∀ j ∈ js1, j ∈ vs1) (h0 : Iv 0 0 []) (hz : ∀ i j acc, Iv i j acc → acc.length ≤ 50000)
    (hs : ∀ i j acc, i < n → j < m i → Iv i j acc → ∃ PV : β → Prop, Ev K Γ te (st1 i j (wipeE (st i (wipeE ρ vs)) vs1)) PV ∧ ∀ b, PV b → Iv i (j + 1) (acc ++ [b]))
    (hn : ∀ i acc, i < n → Iv i (m i) acc → Iv (i + 1) 0 acc) : Ev K Γ (tLc2 wi g tYes wi1 g1 tYes te vs vs1) ρ (fun y : NL β => Iv n 0 y.l) := fun Δ σ H Q s hh e k => S Δ σ H _ s hh e fun J H1 pv pc e1 rp0 hgo hyld => fun D hD => by
  have nD : Δ D = none := e1.2.fresh hD
  have eW : EnvOk K Δ (wipe σ vs) H1 (wipeE ρ vs) := (e.mono e1.1).wipe vs
  have kp : Keep (ghI Δ D (ObIs (.lst []))) H1 (upd H1 D (.lst [])) := fun a o _ q => by rw [upd_ne (ne_of_none q hD)]; exact q
  have W0 : DW K Δ H1 D pv pc (wipe σ vs) (wipeE ρ vs) (.lst (([] : List β).map Flat.val)) (upd H1 D (.lst [])) :=
    ⟨ghI_hold (fun a J _ h => e1.2 a J h) rfl, fun a o ha _ h => by rw [upd_ne ha]; exact h, pc.r.mono kp (pc.r.weak (ghI_new hD) rp0), (eW.weak (ghI_new hD)).mono kp⟩
  have wl : (wipeE ρ vs).length = ρ.length := by
    rw [← eW.1, wipe_length]
    exact e.1
  have sD : ∀ o, Sat Γ (ghI Δ D (ObIs o)) := fun o q hq => ghI_sat s nD q (List.mem_cons_of_mem _ hq)
  refine ⟨fun i t H2 => t = n - i ∧ i ≤ n ∧ ∃ acc : List β, DW K Δ H1 D pv pc (wipe σ vs) (wipeE ρ vs) (.lst (acc.map Flat.val)) H2 ∧ Iv i 0 acc, ⟨n, by simp, Nat.zero_le _, [], W0, h0⟩, ?_⟩
  rintro i t H2 ⟨rfl, hi, acc, c, iv⟩
  have hg := hgo _ H2 c.src
  by_cases hlt : i < n
  · refine .inr ⟨hg.1 i hlt, fun H3 => ∃ acc : List β, DW K Δ H1 D pv pc (wipe σ vs) (wipeE ρ vs) (.lst (acc.map Flat.val)) H3 ∧ Iv (i + 1) 0 acc, fun H' ⟨a', c', v'⟩ => ⟨n - (i + 1), by omega, rfl, hlt, a', c', v'⟩, fun x H3 hy => ?_⟩
    obtain ⟨e3, hput⟩ := hyld _ i H2 x H3 hlt c.hold c.src hy
    have c3 := c.next e3
    refine hput (wipe σ vs) (wipeE ρ vs) _ wl c3.env fun σ2 env2 hl2 hoff => ⟨wipe_off (by rw [hl2, wipe_length]) hjs hoff, ?_⟩
    change wi1 σ2 H3 _
    refine S1 i hlt _ σ2 H3 _ (sD _) e3.2 env2 fun J1 H4 pv1 pc1 e4 rp1 hgo1 hyld1 => ?_
    have c4 := c3.next e4
    have env4 := (env2.mono e4.1).wipe vs1
    have wl1 : (wipeE (st i (wipeE ρ vs)) vs1).length = (st i (wipeE ρ vs)).length := by
      rw [← env4.1, wipe_length]
      exact env2.1
    have d4 : DW K Δ H1 D pv1 pc1 (wipe σ2 vs1) (wipeE (st i (wipeE ρ vs)) vs1) (.lst (acc.map Flat.val)) H4 := ⟨c4.hold, c4.keep, rp1, env4⟩
    refine ⟨fun j t H5 => t = m i - j ∧ j ≤ m i ∧ ∃ acc : List β, DW K Δ H1 D pv pc (wipe σ vs) (wipeE ρ vs) (.lst (acc.map Flat.val)) H5 ∧ DW K Δ H1 D pv1 pc1 (wipe σ2 vs1) (wipeE (st i (wipeE ρ vs)) vs1) (.lst (acc.map Flat.val)) H5 ∧ Iv i j acc, ⟨m i, by simp, Nat.zero_le _, acc, c4, d4, iv⟩, ?_⟩
    rintro j t H5 ⟨rfl, hj, acc1, c5, d5, iv5⟩
    have hg1 := hgo1 _ H5 d5.src
    by_cases hlt1 : j < m i
    · refine .inr ⟨hg1.1 j hlt1, fun H6 => ∃ acc : List β, DW K Δ H1 D pv pc (wipe σ vs) (wipeE ρ vs) (.lst (acc.map Flat.val)) H6 ∧ DW K Δ H1 D pv1 pc1 (wipe σ2 vs1) (wipeE (st i (wipeE ρ vs)) vs1) (.lst (acc.map Flat.val)) H6 ∧ Iv i (j + 1) acc, fun H' ⟨a', c', d', v'⟩ => ⟨m i - (j + 1), by omega, rfl, hlt1, a', c', d', v'⟩, fun x1 H6 hy1 => ?_⟩
      obtain ⟨e6, hput1⟩ := hyld1 _ j H5 x1 H6 hlt1 d5.hold d5.src hy1
      have c6 := c5.next e6
      have d6 := d5.next e6
      refine hput1 (wipe σ2 vs1) (wipeE (st i (wipeE ρ vs)) vs1) _ wl1 d6.env fun σ3 env3 hl3 hoff3 => ⟨wipe_off (by rw [hl3, wipe_length]) hjs1 hoff3, ?_⟩
      obtain ⟨PV, hE, hb⟩ := hs i j acc1 hlt hlt1 iv5
      change te σ3 H6 _
      refine hE _ σ3 H6 _ (sD _) e6.2 env3 fun y H7 b pb e7 r7 => ?_
      have c7 := c6.next e7
      have d7 := d6.next e7
      have ey : y = Flat.val b := Flat.iff.mp r7
      subst ey
      have e8 : acc1.map Flat.val ++ [Flat.val b] = (acc1 ++ [b]).map Flat.val := by rw [List.map_append]; rfl
      refine ⟨acc1.map Flat.val, ghI_exact c7.hold, ?_, acc1 ++ [b], ?_, ?_, hb b pb⟩
      · rw [List.length_map]
        exact Nat.lt_of_le_of_lt (hz i j acc1 iv5) (by decide)
      · rw [← e8]
        exact c7.put
      · rw [← e8]
        exact d7.put
    · have ej : j = m i := by omega
      subst ej
      exact .inl ⟨hg1.2, acc1, c5, hn i acc1 hlt iv5⟩
  · have ei : i = n := by omega
    subst ei
    refine .inl ⟨hg.2, k (.ref D) H2 ⟨acc⟩ iv ⟨fun a o na h => ?_, fun a J h => ?_⟩ ⟨D, _, rfl, nD, .inl (ghI_exact c.hold), all2_flat acc⟩⟩
    · have h1 := e1.1 a o na h
      exact c.keep a o (ne_of_none h1 hD) na h1
    · have hne : a ≠ D := fun z => by
        rw [z, nD] at h
        cases h
      exact c.hold a J (by rw [ghI_other hne]; exact h)
end
end Z

set_option Elab.async false
set_option linter.all false
set_option maxRecDepth 100000
set_option maxHeartbeats 1000000
/-! generator defs, on data -/
namespace Z
open PySem PySem.Spec PyProof.Rows L2
/-- what a generator def promises: in the end it has handed out data with P -/
def spG (K : PySem.W.Frag) {β : Type} [Rp β] (G : Own → List Cell → (List β → Prop) → Prop) : SpG := fun vs H cont _ => ∃ (Γ : Own) (Δ : Gh) (cs : List Cell) (P : List β → Prop), G Γ cs P ∧ Sat Γ Δ ∧ Hold Δ H ∧ ArgsOk K Δ H vs cs ∧
  ∀ (out : List V) (H' : Hp) (ys : List β), P ys → Ext Δ H H' → All2 (fun u a => Rp.rp K Δ H' u a) out ys → cont out H'
section
variable {K : PySem.W.Frag} {Γ : Own} {ρ : Z.Env} {ta : TA} {β : Type} [Rp β] {Pb : List β → Prop}
/-- list(g(..)) -/
theorem ev_listG {G : Own → List Cell → (List β → Prop) → Prop} {E : XK} {cs : List Cell} (ha : EvA K Γ ta ρ (Is cs)) (hG : G Γ cs Pb) : Ev K Γ (tListG (tCallG (spG K G) [] E ta)) ρ Pb := fun Δ σ H Q s hh e k =>
  ha Δ σ H _ s hh e fun vs H1 cs' pcs e1 r => by
    have ec : cs' = cs := pcs
    subst ec
    refine ⟨Γ, Δ, cs', Pb, hG, s, e1.2, by rw [List.append_nil]; exact r, fun out H' ys py e2 q p hp => ?_⟩
    have e3 := e1.trans e2
    exact k _ _ ys py (e3.trans (Ext.new e3.2 hp _)) (new_lst e3.2 hp q)
end
section
variable {K : PySem.W.Frag} {Δ0 : Gh} {H0 : Hp} {Γ : Own} {F : List (V × Cell)} {ρ : Z.Env} {te : TE} {D : GEnds} {ys : List V} {β : Type} [Rp β]
def WpG (K : PySem.W.Frag) (Δ0 : Gh) (H0 : Hp) (Γ : Own) (F : List (V × Cell)) (ρ : Z.Env) (t : TGn) (D : GEnds) (ys : List V) : Prop := ∀ σ H, Stt K Δ0 H0 Γ F ρ σ H → t D ys σ H
/-- a plain statement of a generator's body: as elsewhere, then the rest -/
theorem wpg_plain {t : TS} {u : TGn} (h : Wp K Δ0 H0 Γ F ρ (tSeq t fun _ σ H => u D ys σ H) (D.at ys)) : WpG K Δ0 H0 Γ F ρ (tGThen (tPlain t) u) D ys := fun σ H st => h σ H st
theorem wpg_rest {u : TGn} (h : WpG K Δ0 H0 Γ F ρ u D ys) : Wp K Δ0 H0 Γ F ρ (fun _ σ H => u D ys σ H) (D.at ys) := fun σ H st => h σ H st
/-- yield from a list, at the end -/
theorem wpg_from {P : NL β → Prop} (hs : ys = []) (h : Ev K Γ te ρ P) (hz : ∀ xs, P xs → xs.l.length ≤ 50000)
    (hf : ∀ (out : List V) (σ : L2.St) (H' : Hp) (xs : NL β), P xs → Ext Δ0 H0 H' → All2 (fun u a => Rp.rp K Δ0 H' u a) out xs.l → D.nx out σ H') : WpG K Δ0 H0 Γ F ρ (tGThen (tGFrom (Zy.tYfLst te)) tG0) D ys := fun σ H ⟨Δ, s, hh, e, f, e0, s1, s2⟩ => by
  subst hs
  refine h Δ σ H _ s hh e fun v H1 xs px e1 r => ?_
  obtain ⟨p, vs, rfl, n, hr, q⟩ := r
  refine ⟨p, vs, rfl, hr, ?_, ?_⟩
  · have hl := hz xs px
    rw [q.len, List.length_nil]
    exact Nat.le_trans (by omega) (show 50000 ≤ sizeLine by decide)
  · exact hf _ σ H1 xs px (ext0 e0 s1 s2 e1) (q.imp fun _ _ => Rp.weak fun x o _ n => none0 s1 n)
end
section
variable {P : Program} {w : World} {K : PySem.W.Frag} {mg : Str → Option Value} {base : Heap} {β : Type} [Rp β]
theorem def_okG {x qual : Str} {args : Arguments} {body : List Stmt} {scope : Scope} {dvs : List V} {kws : List (Str × V)} {f : Addr} {fd : FuncData} {N ps : List Str} {k : Nat} {G : Own → List Cell → (List β → Prop) → Prop}
    (Fn : FunD K x qual args body scope dvs kws f fd) (S : GScope N ps scope) (len : ∀ Γ cs R, G Γ cs R → cs.length = ps.length)
    (hb : ∀ (cdv : Value) (A : Around) (outer : List PySem.Env) (s : Shared) (H : Hp) (E : XK) (pn : List (Addr × Obj)), Room k (A.deeper (envOfC qual scope s.heap.objs.size f cdv)) →
      ∀ (Γ : Own) (cs : List Cell) (R : List β → Prop), G Γ cs R → ∃ t, GSs (gcxOf P w K mg base N qual scope f cdv A outer s H E pn) body t ∧
        ∀ (Δ0 : Gh) (D : GEnds), (∀ (out : List V) (σ : L2.St) (H' : Hp) (xs : List β), R xs → Ext Δ0 H H' → All2 (fun u a => Rp.rp K Δ0 H' u a) out xs → D.nx out σ H') → WpG K Δ0 H Γ [] (env0 N cs) t D []) :
    GFn P w K mg base (k + 1) f fd ps (spG K G) := by
  obtain ⟨oc, od, dV, kV, doc, pm, an, cdv, ct, osl, rfl, lk, hcd, _, _⟩ := Fn.ex
  refine gfn_of lk hcd S (fun vs H Q E h => ?_) fun A outer s H vs Q E pn hr h => ?_
  · obtain ⟨Γ, Δ, cs, R, g, _, _, a, _⟩ := h
    rw [All2.len a]
    exact len Γ cs R g
  · obtain ⟨Γ, Δ, cs, R, g, sa, hh, a, q⟩ := h
    obtain ⟨t, ht, hw⟩ := hb cdv A outer s H E pn hr Γ cs R g
    exact ⟨t, ht, hw Δ _ (fun out σ H' xs rx e q2 => q out H' xs rx e q2) _ H ⟨Δ, sa, hh, start_ok a, fun z hz => (nomatch hz), Ext.refl hh, fun _ _ z => z, fun x n m => absurd n m⟩⟩
end
end Z

set_option Elab.async false
set_option linter.all false
set_option maxRecDepth 100000
set_option maxHeartbeats 1000000
/-! a generator that sleeps while its taker puts the item behind a list and changes some further objects of its own (B): so a comprehension may walk it -/
namespace Zw
open PySem PySem.Spec PyProof.Rows L2 GenW
/-- while the generator sleeps: v goes behind the list at S, what stands at B may change -/
structure Idle (S : Addr) (B : List Addr) (v : Value) (s s' : Shared) : Prop where
  same : s'.os = s.os
  plain : AllBare s'.gens
  rest : ∀ a u, a ≠ S → a ∉ B → s.heap.get? a = some u → s'.heap.get? a = some u
  put : ∀ xs k, s.heap.get? S = some (lstObj xs k) → ∃ k', s'.heap.get? S = some (lstObj (xs.push v) k')
  live : ∀ a ∈ B, ∀ u, s.heap.get? a = some u → ∃ u', s'.heap.get? a = some u' ∧ ∀ z, u'.data ≠ .cell z
/-- the taker's object is none of the generator's -/
structure Off (X : Cx) (a : Addr) : Prop where
  young : X.s_0.heap.objs.size ≤ a
  loc : a ≠ X.env.locals
  cell : ∀ x c, X.env.cells.lookup x = some c → c ≠ a
  pn : ∀ p ∈ X.pn, p.1 ≠ a
/-- amid a run: ys is out; what the taker holds stands as it stood when the generator was woken (z0) -/
def Gj (X : Cx) (S : Addr) (B : List Addr) (ys : List V) (σ : L2.St) (H : Hp) (z0 s : Shared) : Prop :=
  ∃ (xs : Array Value) (k : Nat), Vals ys xs.toList ∧ (∀ a ∈ B, ∃ u, z0.heap.get? a = some u) ∧ Inv X ((S, lstObj xs k) :: pinsAt B z0.heap) σ H s
section
variable {X : Cx} {S : Addr} {B : List Addr} {ys : List V} {σ : L2.St} {H : Hp} {z0 s s' : Shared}
theorem Gj.list (h : Gj X S B ys σ H z0 s) : H S = none ∧ ∃ (xs : Array Value) (k : Nat), Vals ys xs.toList ∧ s.heap.get? S = some (lstObj xs k) := by
  obtain ⟨xs, k, r, _, I⟩ := h
  obtain ⟨q1, q2, _⟩ := I.pin (S, lstObj xs k) (List.mem_append_right _ List.mem_cons_self)
  exact ⟨q2, xs, k, r, q1⟩
theorem Gj.held (h : Gj X S B ys σ H z0 s) {a : Addr} (ha : a ∈ B) {u : Obj} (hu : z0.heap.get? a = some u) : s.heap.get? a = some u ∧ H a = none ∧ a ≠ X.env.locals ∧ a ∉ X.fs := by
  obtain ⟨xs, k, _, _, I⟩ := h
  obtain ⟨q1, q2, q3, q4, _⟩ := I.pin (a, u) (List.mem_append_right _ (List.mem_cons_of_mem _ (mem_pinsAt ha hu)))
  exact ⟨q1, q2, q3, q4⟩
theorem Gj.wake {x : V} {v : Value} (oS : Off X S) (oB : ∀ a ∈ B, Off X a) (h : Gj X S B ys σ H z0 s) (rv : RelV x v) (z : Idle S B v s s') : Gj X S B (ys ++ [x]) σ H s' s' := by
  have hB : ∀ a ∈ B, ∃ u, s.heap.get? a = some u ∧ H a = none ∧ a ≠ X.env.locals ∧ a ∉ X.fs := fun a ha => by
    obtain ⟨u, hu⟩ := (let ⟨_, _, _, q, _⟩ := h; q a ha)
    exact ⟨u, h.held ha hu⟩
  obtain ⟨xs, k, r, _, I⟩ := h
  obtain ⟨eS, S0, SL, SF, _⟩ := I.pin (S, lstObj xs k) (List.mem_append_right _ List.mem_cons_self)
  have I0 : Inv X [] σ H s := I.pins_of fun p hp => nomatch hp
  obtain ⟨z1, z2, z3, z4, z5⟩ := z
  obtain ⟨k', eS'⟩ := z4 xs k eS
  have out : ∀ {a : Addr}, a ∉ S :: B → a ≠ S ∧ a ∉ B := fun {a} ha => ⟨fun e => ha (by rw [e]; exact List.mem_cons_self), fun e => ha (List.mem_cons_of_mem _ e)⟩
  have track : ∀ {a : Addr} {o : HO}, H a = some o → a ≠ S ∧ a ∉ B := by
    intro a o q
    constructor
    · intro e
      rw [e, S0] at q
      cases q
    · intro e
      obtain ⟨_, _, n, _⟩ := hB a e
      rw [n] at q
      cases q
  obtain ⟨hh, g, d, t, o⟩ := s'
  have eo : o = s.os := z1
  subst eo
  have J : Inv X [] σ H { s with heap := hh, gens := g, drawn := d, toks := t } := by
    refine I0.step (g' := g) (t' := t) (d' := d) (ch := S :: B) (fun a ha => ?_) (fun a u _ _ hc q _ => z3 a u (out hc).1 (out hc).2 q) (fun a u _ _ hc q _ => ⟨u.slots, z3 a u (out hc).1 (out hc).2 q⟩)
      (fun _ _ _ _ n => n) (fun a u hc q => ⟨u, z3 a u (out hc).1 (out hc).2 q⟩) (fun _ _ q => q) (fun _ _ _ q => q) (fun a ps q => ⟨#[], by rw [q]; simp⟩) (fun m hm => ?_) (fun a u q => ?_) z2
    · have oa : Off X a := by
        rcases List.mem_cons.mp ha with e | e
        · rw [e]; exact oS
        · exact oB a e
      exact ⟨.inr oa.young, oa.loc, oa.cell, fun p hp => oa.pn p (by simpa using hp)⟩
    · obtain ⟨u, es, ep, hu, q⟩ := hm
      refine ⟨u, es, ep, z3 _ u (Ne.symm SL) (fun e => ?_) hu, q⟩
      obtain ⟨_, _, _, n, _⟩ := hB _ e
      exact n rfl
    · refine (I0.hok a u q).stay (fun c v hc y => ?_) (fun _ y => y) fun _ _ y => y
      have tc : c ≠ S ∧ c ∉ B := by
        rcases hc with y | y
        · rw [y]; exact track q
        · exact track y
      exact z3 c v tc.1 tc.2 y
  have news : ∀ a ∈ B, ∃ u, hh.get? a = some u ∧ ∀ y, u.data ≠ .cell y := fun a ha => by
    obtain ⟨u, hu, _⟩ := hB a ha
    exact z5 a ha u hu
  refine ⟨xs.push v, k', ?_, fun a ha => (news a ha).imp fun u q => q.1, J.pins_of fun p hp => ?_⟩
  · rw [Array.toList_push]
    exact r.append (.cons rv .nil)
  · rcases List.mem_cons.mp hp with e | e
    · rw [e]
      exact ⟨eS', S0, SL, SF, fun y q => nomatch q⟩
    · obtain ⟨q1, q2⟩ := of_pinsAt e
      obtain ⟨u, hu, hc⟩ := news _ q1
      obtain ⟨_, _, n, l, f⟩ := hB _ q1
      have eu : p.2 = u := Option.some.inj (q2.symm.trans hu)
      exact ⟨q2, n, l, f, by rw [eu]; exact hc⟩
end
def Yj (X : Cx) (S : Addr) (B : List Addr) : Protocol := fun n z0 v s kap => ∃ ys x σ H, n + 1 + ys.length = sizeLine ∧ RelV x v ∧ Gj X S B ys σ H z0 s ∧ ∀ s', Idle S B v s s' → kap (.send .none) s'
def Rj (X : Cx) (S : Addr) (B : List Addr) (Q : List V → VK) : GenEnd := fun n z0 r s => match r with
  | .ok (.ret u) => ∃ ys v σ H, n + ys.length = sizeLine ∧ Gj X S B ys σ H z0 s ∧ RelV v u ∧ Q ys v H
  | _ => False
def Fj (X : Cx) (S : Addr) (B : List Addr) (D : GEnds) (ys : List V) (z0 : Shared) (f : Flow) (s : Shared) : Prop :=
  match f with
  | .next => ∃ σ H, Gj X S B ys σ H z0 s ∧ D.nx ys σ H
  | .brk => ∃ σ H, Gj X S B ys σ H z0 s ∧ D.bk ys σ H
  | .cont => ∃ σ H, Gj X S B ys σ H z0 s ∧ D.ct ys σ H
  | .ret u => ∃ v σ H, Gj X S B ys σ H z0 s ∧ RelV v u ∧ D.rt ys v H
/-- where its code stands, and the taker's objects -/
structure At (X : Cx) (S : Addr) (B : List Addr) (A : Around) (c : Code) (fs : List Frame) (gd : Bool → Bool) : Prop where
  oS : Off X S
  oB : ∀ a ∈ B, Off X a
  over : A.over c fs = X.A
  split : splitAtGen fs = none
  guard : fs.any Frame.guarded = false
  gd : gd false = false
structure Goal (X : Cx) (S : Addr) (B : List Addr) (A : Around) (R : GenEnd) (c : Code) (fs : List Frame) (K : Flow → Sem PySem.Fin) (J : Value → Sem PySem.Fin) (D : GEnds) : Prop where
  ok : ∀ (n : Nat) (ys : List V) (z0 s : Shared) (f : Flow), n + ys.length = sizeLine → Fj X S B D ys z0 f s → Seg (model X.prog X.w) A R (Yj X S B) n z0 c (K f) fs s
  exc : ∀ (n : Nat) (z0 : Shared) (e : Value) (s : Shared), X.xe e s → Seg (model X.prog X.w) A R (Yj X S B) n z0 c (J e) fs s
def Runs1 (X : Cx) (S : Addr) (B : List Addr) (body : (Flow → Sem PySem.Fin) → (Value → Sem PySem.Fin) → (Bool → Bool) → (List Value → List Value) → Sem PySem.Fin) (t : TGn) : Prop :=
  ∀ (A : Around) (R : GenEnd) (n : Nat) (ys : List V) (z0 : Shared) (c : Code) (fs : List Frame) (K : Flow → Sem PySem.Fin) (J : Value → Sem PySem.Fin) (gd : Bool → Bool) (lv : List Value → List Value) (s : Shared) (σ : L2.St) (H : Hp) (D : GEnds),
    At X S B A c fs gd → n + ys.length = sizeLine → Goal X S B A R c fs K J D → Gj X S B ys σ H z0 s → t D ys σ H → Seg (model X.prog X.w) A R (Yj X S B) n z0 c (body K J gd lv) fs s
def Sj (X : Cx) (st : Stmt) (t : TGn) : Prop := ∀ S B, Runs1 X S B (fun K J gd lv => (exec st X.env).wrap K J gd lv) t
def Bj (X : Cx) (body : List Stmt) (t : TGn) : Prop := ∀ S B, Runs1 X S B (fun K J gd lv => (execs body X.env).wrap K J gd lv) t
section
variable {X : Cx} {st : Stmt} {rest : List Stmt}
theorem bj_nil : Bj X [] tG0 := fun S B A R n ys z0 c fs K J gd lv s σ H D at' hn k h ht => seg_execs_nil (k.ok n ys z0 s .next hn ⟨σ, H, h, ht⟩)
theorem bj_cons {t u : TGn} (a : Sj X st t) (b : Bj X rest u) : Bj X (st :: rest) (tGThen t u) := fun S B A R n ys z0 c fs K J gd lv s σ H D at' hn k h ht =>
  seg_execs_cons (a S B A R n ys z0 c fs _ J gd lv s σ H { D with nx := fun ys' σ' H' => u D ys' σ' H' } at' hn ⟨fun n1 ys1 y0 s1 f hn1 hf => by
    match f, hf with
    | .next, ⟨σ1, H1, h1, q⟩ => exact b S B A R n1 ys1 y0 c fs K J gd lv s1 σ1 H1 D at' hn1 k h1 q
    | .brk, hf => exact k.ok n1 ys1 y0 s1 .brk hn1 hf
    | .cont, hf => exact k.ok n1 ys1 y0 s1 .cont hn1 hf
    | .ret u, hf => exact k.ok n1 ys1 y0 s1 (.ret u) hn1 hf, k.exc⟩ h ht)
/-- a statement that hands out nothing -/
theorem sj_plain {t : TS} (h : PS X st t) : Sj X st (tPlain t) := fun S B A R n ys z0 c fs K J gd lv s σ H D at' hn k hj ht => by
  obtain ⟨xs, j, r, b0, I⟩ := hj
  refine seg_wrap ?_
  rw [at'.over]
  refine wpAny_mono (h.run _ s σ H (D.at ys) I ht) (fun f s1 hs => k.ok n ys z0 s1 f hn ?_) fun x s1 hx => k.exc n z0 x s1 hx
  cases f with
  | next => obtain ⟨σ1, H1, I1, q⟩ := hs; exact ⟨σ1, H1, ⟨xs, j, r, b0, I1⟩, q⟩
  | brk => obtain ⟨σ1, H1, I1, q⟩ := hs; exact ⟨σ1, H1, ⟨xs, j, r, b0, I1⟩, q⟩
  | cont => obtain ⟨σ1, H1, I1, q⟩ := hs; exact ⟨σ1, H1, ⟨xs, j, r, b0, I1⟩, q⟩
  | ret u => obtain ⟨v, σ1, H1, I1, r1, q⟩ := hs; exact ⟨v, σ1, H1, ⟨xs, j, r, b0, I1⟩, r1, q⟩
/-- one turn of the delegate, and the ones behind it -/
theorem seg_from {S : Addr} {B : List Addr} {A : Around} {R : GenEnd} {fs : List Frame} {it : Addr} {xs ys : List V} {Sg : Nat → Heap → Prop} {σ : L2.St} {H : Hp} (oS : Off X S) (oB : ∀ a ∈ B, Off X a)
    (young : it ∈ X.ex ∨ X.s_0.heap.objs.size ≤ it) (hL : it ≠ X.env.locals) (hcell : ∀ x c, X.env.cells.lookup x = some c → c ≠ it) (hSi : it ≠ S) (hBi : it ∉ B) (hpn : ∀ p ∈ X.pn, p.1 ≠ it) (hH : H it = none) (q : QIt X H it xs Sg)
    (ho : (A.over (.builtin "proto.yield_from" ⟨[.ref it, .bool false, .none], []⟩) fs).handled = none) (hsp : splitAtGen fs = none) (hgd : fs.any Frame.guarded = false) (hle : ys.length + xs.length ≤ sizeLine)
    (fin : ∀ (n : Nat) (z0 s : Shared), n + (ys ++ xs).length = sizeLine → Gj X S B (ys ++ xs) σ H z0 s → Seg (model X.prog X.w) A R (Yj X S B) n z0 (.builtin "proto.yield_from" ⟨[.ref it, .bool false, .none], []⟩) (.pure (.done (.ret .none))) fs s) :
    ∀ (r j n : Nat) (z0 s : Shared), j + r = xs.length → n + (ys.length + j) = sizeLine → Gj X S B (ys ++ xs.take j) σ H z0 s → Sg j s.heap →
      Seg (model X.prog X.w) A R (Yj X S B) n z0 (.builtin "proto.yield_from" ⟨[.ref it, .bool false, .none], []⟩) ((model X.prog X.w).den (.builtin "proto.yield_from" ⟨[.ref it, .bool false, .none], []⟩)) fs s := by
  obtain ⟨T, hT, hcl, hng⟩ := q.ty
  have moved : ∀ {us : List V} {z0 s : Shared} {h1 : Heap} {tk : Nat}, Gj X S B us σ H z0 s → (∀ b o, b ≠ it → s.heap.get? b = some o → h1.get? b = some o) → Gj X S B us σ H z0 { s with heap := h1, toks := tk } := fun {us z0 s h1 tk} hj hk => by
    obtain ⟨ac, j, r, b0, I⟩ := hj
    refine ⟨ac, j, r, b0, I.turned (it := it) hk hH hL young hcell fun p hp => ?_⟩
    rcases List.mem_append.mp hp with hp | hp
    · exact hpn p hp
    · rcases List.mem_cons.mp hp with e | e
      · rw [e]; exact Ne.symm hSi
      · exact fun z => hBi (by rw [← z]; exact (of_pinsAt e).1)
  intro r
  induction r with
  | zero =>
    intro j n z0 s hj hn hI hst
    obtain rfl : j = xs.length := by omega
    rw [List.take_length] at hI
    rw [den_yf]
    unfold Builtin.«proto.yield_from»
    try dsimp only
    refine seg_bind (wpAny_pure ?_)
    skip
    refine seg_bind (wpAny_attempt (wpAny_holding ?_))
    rw [if_neg Bool.false_ne_true, if_pos (by rfl)]
    refine wpAny_bind (wpAny_rule (wpAny_bind (q.done _ s _ _ ho hst fun e h1 tk hS hk => ?_)))
    obtain ⟨a, o, vs, rfl, e1, e2, e3, e4⟩ := hS
    try dsimp only
    refine seg_bind (wpAny_endsTurn e1 e2 ?_)
    try dsimp only
    rw [if_pos rfl]
    first
      | exact seg_bind (wpAny_rule (seg_bind (wpAny_field e1 e3 e4 (fin n z0 _ (by rw [List.length_append]; exact hn) (moved hI hk)))))
      | (rw [if_neg Bool.false_ne_true]; exact seg_bind (wpAny_rule (seg_bind (wpAny_field e1 e3 e4 (fin n z0 _ (by rw [List.length_append]; exact hn) (moved hI hk))))))
      | (rw [if_neg Bool.false_ne_true]; exact seg_bind (wpAny_pure (seg_bind (wpAny_rule (seg_bind (wpAny_field e1 e3 e4 (fin n z0 _ (by rw [List.length_append]; exact hn) (moved hI hk))))))))
  | succ r ih =>
    intro j n z0 s hj hn hI hst
    have hx : xs[j]? = some (xs[j]'(by omega)) := List.getElem?_eq_getElem (by omega)
    generalize xs[j]'(by omega) = x at hx
    obtain ⟨n, rfl⟩ : ∃ m, n = m + 1 := ⟨n - 1, by omega⟩
    have tl : (xs.take j).length = j := by rw [List.length_take]; omega
    rw [den_yf]
    unfold Builtin.«proto.yield_from»
    try dsimp only
    refine seg_bind (wpAny_pure ?_)
    skip
    refine seg_bind (wpAny_attempt (wpAny_holding ?_))
    rw [if_neg Bool.false_ne_true, if_pos (by rfl)]
    refine wpAny_bind (wpAny_rule (wpAny_bind (q.item _ j x s _ _ ho hx hst fun v h1 tk rv hst1 hk => ?_)))
    have G1 := moved (tk := tk) hI hk
    obtain ⟨oi, ei, ec⟩ := hT (j + 1) h1 hst1
    refine wpAny_pure ?_
    try dsimp only
    refine seg_bind (wpAny_typeOf (T := T) ⟨oi, ei, ec⟩ ?_)
    try dsimp only
    first
      | (refine seg_bind (wpAny_of_eq hcl ?_); refine seg_bind (wpAny_pure ?_))
      | refine seg_bind (wpAny_bind (wpAny_of_eq hcl (wpAny_pure ?_)))
      | refine seg_bind (wpAny_of_eq hcl ?_)
    try dsimp only
    refine seg_bind (wpAny_sleptOver ei ec hng ?_)
    refine seg_yield hsp rfl hgd ⟨ys ++ xs.take j, x, σ, H, by rw [List.length_append, tl]; exact hn, rv, G1, fun s2 z => ?_⟩
    have G2 := G1.wake oS oB rv z
    have hst2 : Sg (j + 1) s2.heap := q.frame (j + 1) h1 s2.heap hst1 fun b o hb e => z.rest b o (fun hm => ?_) (fun hm => ?_) e
    · obtain ⟨oj, ej, ejc⟩ := hT (j + 1) s2.heap hst2
      have et : ys ++ xs.take j ++ [x] = ys ++ xs.take (j + 1) := by
        rw [List.append_assoc, List.take_add_one, hx]; rfl
      rw [et] at G2
      show Seg _ _ _ _ n s2 _ (Builtin.Generator.sleptOver (.ref it) false >>= fun _ => _) fs s2
      refine seg_bind (wpAny_sleptOver ej ejc hng ?_)
      try dsimp only
      refine seg_bind (wpAny_pure ?_)
      exact seg_again (plainId_quiet plain_yf _) (ih (j + 1) n s2 s2 (by omega) (by omega) G2 hst2)
    · rcases hb with y | y
      · exact hSi (y.symm.trans hm)
      · exact y (by rw [hm]; exact G1.list.1)
    · rcases hb with y | y
      · exact hBi (by rw [← y]; exact hm)
      · obtain ⟨u, hu⟩ := (let ⟨_, _, _, q0, _⟩ := G1; q0 b hm)
        exact y (G1.held hm hu).2.1
theorem sj_from {e : Expr} {yp pos : Pos} {t : TYf} (he : YfE X e t) (hc : X.A.handled = none) (hi : interactive X.env = false := by rfl) : Sj X (.Expr (.YieldFrom e yp) pos) (tGFrom t) := fun S B A R n ys z0 c fs K J gd lv s σ H D at' hn k hj ht => by
  rw [exec_Expr X.env _ pos hi rfl]
  show Seg _ _ _ _ n z0 c (.at pos fun _ => ((eval e X.env >>= fun v => (standAt yp >>= fun _ => yieldFrom X.env v)) >>= fun y => dropValue (.YieldFrom e yp) pos y).wrap K J gd lv) fs s
  refine seg_at ?_
  obtain ⟨ac, j, r, b0, I⟩ := hj
  refine segw_bind2 ?_
  rw [at'.over]
  refine wpAny_mono (he.run _ s σ H _ I ht) (fun v s1 hv => ?_) fun x s1 hx => k.exc n z0 x s1 hx
  obtain ⟨T, hT, hne, hit⟩ := hv
  refine seg_at ?_
  show Seg _ _ _ _ n z0 c ((yieldFrom X.env v).wrap (fun b => (dropValue (.YieldFrom e yp) pos b).wrap K J gd lv) J gd lv) fs s1
  unfold yieldFrom
  refine seg_bind_wrap (wpAny_typeOf hT ?_)
  rw [if_neg (by rw [hne]; exact Bool.false_ne_true)]
  refine seg_bind_wrap (wpAny_holding ?_)
  rw [at'.over]
  refine wpAny_mono hit (fun u s2 hu => ?_) fun x s1 hx => k.exc n z0 x s1 hx
  obtain ⟨it, H1, xs, Sg, rfl, I2, y1, y2, y3, y4, y5, y6, y7, hle, hq⟩ := hu
  refine seg_call fun p => ?_
  have hSi : it ≠ S := fun z => y5 (S, lstObj ac j) (List.mem_append_right _ List.mem_cons_self) z.symm
  have hBi : it ∉ B := fun z => by
    obtain ⟨u, hu⟩ := b0 it z
    exact y5 (it, u) (List.mem_append_right _ (List.mem_cons_of_mem _ (mem_pinsAt z hu))) rfl
  refine seg_from (xs := xs) (ys := ys) at'.oS at'.oB y1 y2 y3 hSi hBi (fun p hp => y5 p (List.mem_append_left _ hp)) y4 y7 ?_ ?_ ?_ hle (fun n1 y0 s1 hn1 hG => ?_) xs.length 0 n z0 s2 (Nat.zero_add _) hn ⟨ac, j, by rw [List.take_zero, List.append_nil]; exact r, b0, I2⟩ y6
  · show (A.over c fs).handled = none
    rw [at'.over]; exact hc
  · show (splitAtGen fs).map _ = none
    rw [at'.split]; rfl
  · show (gd false || fs.any Frame.guarded) = false
    rw [at'.gd, at'.guard]; rfl
  · exact seg_leaf (.ok (.ret .none)) (k.ok n1 (ys ++ xs) y0 s1 .next hn1 ⟨σ, H1, hG, hq⟩)
end
end Zw

set_option Elab.async false
set_option linter.all false
set_option maxRecDepth 100000
set_option maxHeartbeats 1000000
/-! the promise of a generator def whose generator may be walked by a comprehension; no exception leaves it -/
namespace Zw
open PySem PySem.Spec PyProof.Rows L2 GenW
abbrev noX : XK := fun _ _ _ => False
/-- the end of a run: the frame is left, all that was handed out stands in S, and what the taker holds stands -/
def EndJ (P : Program) (w : World) (outer : List Env) (H : Hp) (s : Shared) (S : Addr) (B : List Addr) (Q : List V → Hp → Prop) : GenEnd := fun _ z0 r s1 =>
  ((r = .ok (.ret .none) ∨ r = .ok .next) ∧ ∃ H1 ys xs k, s1.os = s.os ∧ AllBare s1.gens ∧ Un (frs outer) [] H H1 s.heap s1.heap ∧ HOk P w H1 s1.heap ∧ H1 S = none ∧ s1.heap.get? S = some (lstObj xs k) ∧ Vals ys xs.toList ∧ ys.length ≤ sizeLine ∧ Q ys H1 ∧
    ∀ a ∈ B, ∀ u, z0.heap.get? a = some u → s1.heap.get? a = some u ∧ H1 a = none) ∨ ∃ e, r = .error e ∧ False
def ItemJ (s : Shared) (S : Addr) (B : List Addr) (a : Addr) (g : Nat) : Protocol := fun n z0 v s1 kap =>
  s1.os = s.os ∧ AllBare s1.gens ∧ s1.heap.NoLimit ∧ s1.heap.IsGen a g ∧ (∃ (xs : Array Value) (k : Nat), s1.heap.get? S = some (lstObj xs k) ∧ n + 1 + xs.size = sizeLine) ∧ (∀ b ∈ B, ∀ u, z0.heap.get? b = some u → s1.heap.get? b = some u) ∧
    ∀ s', Idle S B v s1 s' → kap (.send .none) s'
/-- a generator that was just made -/
def MadeJ (P : Program) (w : World) (k : Nat) (outer : List Env) (H : Hp) (s : Shared) (Q : List V → Hp → Prop) (u : Value) (s' : Shared) : Prop :=
  ∃ (a : Addr) (g : Nat) (c : Code), u = .ref a ∧ s.heap.objs.size ≤ a ∧ a < s'.heap.objs.size ∧ s'.heap.IsGen a g ∧ s'.gens[g]? = some (.fresh c) ∧ s'.os = s.os ∧ AllBare s'.gens ∧ s'.heap.NoLimit ∧ (∀ b o, s.heap.get? b = some o → s'.heap.get? b = some o) ∧
    ∀ (A : Around) (S : Addr) (B : List Addr) (s2 : Shared), Room k A → A.frames = some outer → s'.heap.objs.size ≤ S → (∀ b ∈ B, s'.heap.objs.size ≤ b) → S ∉ B → (∀ b o, s'.heap.get? b = some o → s2.heap.get? b = some o) → (∃ c, s2.heap.get? S = some (lstObj #[] c)) →
      (∀ b ∈ B, ∃ o, s2.heap.get? b = some o ∧ ∀ z, o.data ≠ .cell z) → s2.os = s.os → AllBare s2.gens → Seg (model P w) A (EndJ P w outer H s S B Q) (ItemJ s S B a g) sizeLine s2 c ((model P w).den c) [] s2
structure GFnJ (P : Program) (w : World) (K : PySem.W.Frag) (mg : Str → Option Value) (base : Heap) (k : Nat) (f : Addr) (fd : FuncData) (ps : List Str) (sp : SpG) : Prop where
  len : ∀ vs H Q E, sp vs H Q E → vs.length = ps.length
  run : ∀ (A : Around) (outer : List Env) (s : Shared) (H : Hp) (args : Args) (us : List Value) (vs : List V) (Q : List V → Hp → Prop), Room k A → Env0 P w K mg base A outer s H → BindsTo s fd args (ps.zip us) → Vals vs us → sp vs H Q noX →
    codeAny (model P w) A (.call (.ref f) args) (fun r s' => match r with | .ok (.ret u) => MadeJ P w k outer H s Q u s' | _ => False) s
theorem gfnJ_of {P : Program} {w : World} {K : PySem.W.Frag} {mg : Str → Option Value} {base : Heap} {k : Nat} {f : Addr} {name qual : Str} {params : Arguments} {body : List Stmt} {scope : Scope} {dV kV doc pm cdv ct oc : Value} {an od : Option Addr}
    {osl : Array (Option Value)} {N ps : List Str} {sp : SpG} (lk : K.lookup f = some ⟨oc, od, .func (PySem.W.fnOf name qual params body scope dV kV doc pm an cdv ct), osl⟩) (hcd : PySem.W.codeIn K cdv qual = true) (Sc : GScope N ps scope)
    (len : ∀ vs H Q E, sp vs H Q E → vs.length = ps.length)
    (hbody : ∀ (A : Around) (outer : List Env) (s : Shared) (H : Hp) (vs : List V) (Q : List V → Hp → Prop) (pn : List (Addr × Obj)), Room k (A.deeper (envOfC qual scope s.heap.objs.size f cdv)) → sp vs H Q noX →
      ∃ t, Bj (gcxOf P w K mg base N qual scope f cdv A outer s H noX pn) body t ∧ t { nx := fun ys _ H' => Q ys H', rt := fun ys v H' => v = .non ∧ Q ys H' } [] (start N vs) H) :
    GFnJ P w K mg base (k + 1) f (PySem.W.fnOf name qual params body scope dV kV doc pm an cdv ct) ps sp := by
  refine ⟨len, fun A outer s H args us vs Q hr e0 hb r hsp => ?_⟩
  have hl := len _ _ _ _ hsp
  have inK : K.In s.heap := e0.mod.kin.keeps fun b o e => (e0.bs b o e).1
  have noL : s.heap.NoLimit := e0.mod.nolimit.keeps fun b o e => (e0.bs b o e).1
  have kinds : ∀ y ∈ ps.zip us, scope.names.lookup y.1 = some .local ∨ (scope.names.lookup y.1 = some .cell ∧ ((cellsFrom (s.heap.objs.size + 1) scope.names []).lookup y.1).isSome = true) := fun ⟨m, v⟩ hy =>
    (Sc.par m (List.of_mem_zip hy).1).imp id fun q => ⟨q, PySem.W.cellsFrom_some _ _ _ (.inl q)⟩
  refine codeAny_call_generator hr.depth (inK _ _ lk) rfl Sc.co Sc.gen rfl (PySem.W.codeRec_of inK hcd) (hb _ _ _ _ ?_)
  refine wpAny_newFunctionEnv_cells Sc.kind kinds fun env he s1 x => ?_
  subst he
  refine ⟨noL.keeps x.toInCall.keep, ?_⟩
  obtain ⟨h1, tk, es1, hk1⟩ := x.done
  have os1 : s1.os = s.os := by rw [es1]
  have gs1 : s1.gens = s.gens := by rw [es1]
  have up : s.heap.objs.size < s1.heap.objs.size := x.toInCall.ns.lt
  have kp : ∀ b o, s.heap.get? b = some o → s1.heap.get? b = some o := x.toInCall.keep
  have main : ∀ (go : Obj) (nm qn : Value) (tk2 : Nat), go.cls = .type "generator" → go.data = .fields #[.int s1.gens.size 0, nm, qn] → go.slots = #[] → (∀ h : Heap, (h.push go).get? h.objs.size = some go) →
      MadeJ P w (k + 1) outer H s Q (.ref s1.heap.objs.size) { s1 with gens := s1.gens.push (.fresh (.func body (envOfC qual scope s.heap.objs.size f cdv))), toks := tk2, heap := s1.heap.push go } := by
    intro go nm qn tk2 c1 c2 c3 gp
    have isG : ∀ h : Heap, h.get? s1.heap.objs.size = some go → h.IsGen s1.heap.objs.size s1.gens.size := fun h e => ⟨go, nm, qn, e, c1, c2, c3⟩
    have at1 : (s1.heap.push go).get? s1.heap.objs.size = some go := gp _
    refine ⟨s1.heap.objs.size, s1.gens.size, _, rfl, Nat.le_of_lt up, ?_, isG _ at1, Array.getElem?_push_size .., os1, ?_, (noL.keeps kp).keeps fun b o e => Heap.get?_push_of_some _ e, fun b o e => Heap.get?_push_of_some _ (kp b o e), ?_⟩
    · show _ < (s1.heap.push _).objs.size
      rw [Heap.size_push]; exact Nat.lt_succ_self _
    · exact AllBare.push (by rw [gs1]; exact e0.bare) rfl
    intro Aw Sx B s2 hrw hfr hSx hBx hSB hk2 hSo hBo hos hba
    obtain ⟨t, ht, hq⟩ := hbody Aw outer s H vs Q [(s1.heap.objs.size, go)] (hrw.deeper _) hsp
    have I1 : Inv (gcxOf P w K mg base N qual scope f cdv Aw outer s H noX []) [] (start N vs) H s1 := inv_startG Sc hrw.hd ⟨hfr, e0.mod, e0.bs, e0.bsz, e0.funs, e0.frf, e0.hok, e0.bare⟩ hl r x
    have kp2 : ∀ b o, s1.heap.get? b = some o → s2.heap.get? b = some o := fun b o e => hk2 b o (Heap.get?_push_of_some _ e)
    have I2 : Inv (gcxOf P w K mg base N qual scope f cdv Aw outer s H noX []) [] (start N vs) H s2 := I1.call' (ch := []) (hos.trans os1.symm) (Un.kept kp2) (I1.hok.kept kp2) hba fun b z => nomatch z
    have big : ∀ b, (s1.heap.push go).objs.size ≤ b → s1.heap.objs.size < b := fun b hb => by rw [Heap.size_push] at hb; exact hb
    have young : ∀ b, s1.heap.objs.size ≤ b → H b = none ∧ b ≠ s.heap.objs.size ∧ b ∉ frs outer ∧ s.heap.objs.size ≤ b ∧ ∀ y c, (cellsFrom (s.heap.objs.size + 1) scope.names []).lookup y = some c → c ≠ b := fun b hb =>
      ⟨I1.hok.fresh hb, Nat.ne_of_gt (Nat.lt_of_lt_of_le up hb), I1.nofs hb, Nat.le_trans (Nat.le_of_lt up) hb, fun y c e z => by
        obtain ⟨v, ob, ho, _⟩ := I1.cell y c e
        have lt := Heap.lt_size ho
        rw [z] at lt
        exact Nat.lt_irrefl _ (Nat.lt_of_lt_of_le lt hb)⟩
    have off : ∀ b, s1.heap.objs.size < b → Off (gcxOf P w K mg base N qual scope f cdv Aw outer s H noX [(s1.heap.objs.size, go)]) b := fun b hb => by
      obtain ⟨_, y2, _, y4, y5⟩ := young b (Nat.le_of_lt hb)
      exact ⟨y4, y2, y5, fun p hp => by rw [List.mem_singleton.mp hp]; exact Nat.ne_of_lt hb⟩
    obtain ⟨cS, eS⟩ := hSo
    have eg : s2.heap.get? s1.heap.objs.size = some go := hk2 s1.heap.objs.size go at1
    have G : Gj (gcxOf P w K mg base N qual scope f cdv Aw outer s H noX [(s1.heap.objs.size, go)]) Sx B [] (start N vs) H s2 s2 := by
      refine ⟨#[], cS, .nil, fun b hb => (hBo b hb).imp fun o q => q.1, I2.pinnedG fun p hp => ?_⟩
      rcases List.mem_append.mp hp with z | z
      · rw [List.mem_singleton.mp z]
        obtain ⟨y1, y2, y3, _, _⟩ := young s1.heap.objs.size (Nat.le_refl _)
        exact ⟨eg, y1, y2, y3, fun v q => by rw [c2] at q; cases q⟩
      · rcases List.mem_cons.mp z with z | z
        · rw [z]
          obtain ⟨y1, y2, y3, _, _⟩ := young Sx (Nat.le_of_lt (big _ hSx))
          exact ⟨eS, y1, y2, y3, fun v q => nomatch q⟩
        · obtain ⟨q1, q2⟩ := of_pinsAt z
          obtain ⟨y1, y2, y3, _, _⟩ := young p.1 (Nat.le_of_lt (big _ (hBx _ q1)))
          obtain ⟨o, ho, hc⟩ := hBo _ q1
          have eo : p.2 = o := Option.some.inj (q2.symm.trans ho)
          exact ⟨q2, y1, y2, y3, by rw [eo]; exact hc⟩
    have genAt : ∀ {ys : List V} {z0 s' : Shared} {σ' : L2.St} {H' : Hp}, Gj (gcxOf P w K mg base N qual scope f cdv Aw outer s H noX [(s1.heap.objs.size, go)]) Sx B ys σ' H' z0 s' → s'.heap.IsGen s1.heap.objs.size s1.gens.size := fun {ys z0 s' σ' H'} hj => by
      obtain ⟨_, _, _, _, J⟩ := hj
      exact isG _ (J.pin (s1.heap.objs.size, go) (List.mem_append_left _ (List.mem_singleton.mpr rfl))).1
    refine seg_func (seg_imp (R := Rj (gcxOf P w K mg base N qual scope f cdv Aw outer s H noX [(s1.heap.objs.size, go)]) Sx B (fun ys v H' => v = .non ∧ Q ys H')) (Y := Yj (gcxOf P w K mg base N qual scope f cdv Aw outer s H noX [(s1.heap.objs.size, go)]) Sx B) (fun n z0 r s' hR => ?_) (fun n z0 v s' kap kap' hkk hY => ?_) sizeLine ?_)
    · match r, hR with
      | .ok (.ret u), ⟨ys, v, σ1, H1, hn, hG, rv, ev, hQ⟩ =>
        subst ev
        obtain rfl : u = Value.none := rv
        obtain ⟨a1, xs, j, ra, ea⟩ := hG.list
        have hB2 : ∀ a ∈ B, ∀ u, z0.heap.get? a = some u → s'.heap.get? a = some u ∧ H1 a = none := fun a ha u hu => ⟨(hG.held ha hu).1, (hG.held ha hu).2.1⟩
        obtain ⟨_, _, _, _, J⟩ := hG
        exact .inl ⟨.inl rfl, H1, ys, xs, j, J.os, J.bare, J.base, J.hok, a1, ea, ra, by omega, hQ, hB2⟩
    · obtain ⟨ys, y, σ1, H1, hn, h2, hG, h3⟩ := hY
      obtain ⟨_, xs, j, ra, ea⟩ := hG.list
      have hg := genAt hG
      have hB2 : ∀ a ∈ B, ∀ u, z0.heap.get? a = some u → s'.heap.get? a = some u := fun a ha u hu => (hG.held ha hu).1
      obtain ⟨_, _, _, _, J⟩ := hG
      have hz : xs.size = ys.length := by
        have q1 := ra.length
        have q2 : xs.toList.length = xs.size := Array.length_toList
        omega
      exact ⟨J.os, J.bare, J.nolimit, hg, ⟨xs, j, ea, by rw [hz]; exact hn⟩, hB2, fun s3 z => hkk _ _ (h3 s3 z)⟩
    · refine ht Sx B Aw _ sizeLine [] s2 _ [] _ _ id id s2 (start N vs) H _ ⟨off _ (big _ hSx), fun b hb => off _ (big _ (hBx b hb)), over_func, rfl, rfl, rfl⟩ (Nat.add_zero _) ⟨fun n ys z0 s' fl hn hf => ?_, fun n z0 e s' hx => ?_⟩ G hq
      · match fl, hf with
        | .next, ⟨σ1, H1, hG, hQ⟩ => exact seg_end (.ok (.ret .none)) ⟨ys, .non, σ1, H1, hn, hG, rfl, rfl, hQ⟩
        | .brk, ⟨_, _, _, q⟩ => exact q.elim
        | .cont, ⟨_, _, _, q⟩ => exact q.elim
        | .ret u, ⟨v, σ1, H1, hG, rv, ev, hQ⟩ => exact seg_end (.ok (.ret u)) ⟨ys, v, σ1, H1, hn, hG, rv, ev, hQ⟩
      · refine seg_wrap ?_
        rw [over_func]
        refine wpAny_mono (show wpAny (model P w) (Aw.deeper (envOfC qual scope s.heap.objs.size f cdv)) (leaving (envOfC qual scope s.heap.objs.size f cdv) e) (fun _ s'' => CX P w outer H s noX e s'' ∧ ∀ p ∈ [(s1.heap.objs.size, go)], s''.heap.get? p.1 = some p.2) (fun _ _ => False) s' from hx) (fun _ s'' q => ?_) fun _ s'' q => q.elim
        obtain ⟨⟨_, _, _, _, _, _, _, _, _, _, _, _, hW⟩, _⟩ := q
        exact hW.elim
  exact main _ _ _ _ rfl rfl rfl fun h => Heap.get?_push_size _ rfl
end Zw

set_option Elab.async false
set_option linter.all false
set_option maxRecDepth 100000
set_option maxHeartbeats 1000000
/-! [x for x in g(..)] -/
namespace Zw
open PySem PySem.Spec PyProof.Rows L2 GenW
section
variable {X : Cx} {k : Nat} {f : Addr} {fd : FuncData} {ps : List Str} {sp : SpG} {dvs : List V} {ds : List Value} {x : Str} {p pos pos' : Pos} {ta : TE}
structure PGenJ (X : Cx) (k : Nat) (e : Expr) (tg : TGen) : Prop where
  run : ∀ (pins : List (Addr × Obj)) (s : Shared) (σ : L2.St) (H : Hp) (cont : List V → Hp → Prop), Inv X pins σ H s → tg σ H cont → wpAny (model X.prog X.w) X.A (eval e X.env)
    (fun u s' => ∃ H1 sc, Inv X pins σ H1 sc ∧ MadeJ X.prog X.w k X.stack H1 sc cont u s') X.xe s
theorem pgenJ_call {e : Expr} {es : List Expr} {t : TA} (F : GFnJ X.prog X.w X.K X.mg X.base k f fd ps sp) (hr : Room k X.A) (hg : Gl X x) (hm : X.mg x = some (.ref f)) (hk : PySem.W.keepIn X.K (.ref f) = true) (hb : Binds X.K fd ps ds) (hd : Vals dvs ds)
    (ha : PA X (e :: es) t) (hdb : (x == ("__debug__" : Str)) = false := by decide) (he : starEach (e :: es) X.env = (false, eval e X.env) :: starEach es X.env := by rfl) (hpl : (backTo pos' (starEach es X.env)).any (·.1) = false := by rfl) :
    PGenJ X k (.Call (.Name x p) (e :: es) [] pos') (tCallG sp dvs noX t) := by
  refine ⟨fun pins s σ H cont I h => wpAny_Call_Name_kw (ld_glob I hg hm ?_ hdb)⟩
  refine PySem.W.callWith_K (h₀ := X.base) I.ok.mod.kin hk (thn (ha.run pos' pins s σ H _ I h) fun us s1 ⟨vs, H1, I1, r, q⟩ => ⟨I1.kIn, ?_⟩) he hpl
  have r2 : Vals (vs ++ dvs) (us ++ ds) := r.append hd
  refine wpAny_call (codeAny_mono (F.run X.A X.stack s1 H1 ⟨us, []⟩ (us ++ ds) (vs ++ dvs) cont hr I1.env0 (hb s1 us I1.kIn (by rw [← r2.length]; exact F.len _ _ _ _ q)) r2 q) fun r s' hq => ?_)
  match r, hq with
  | .ok (.ret u), hq => exact ⟨H1, s1, I1, hq⟩
/-- what the loop has at the head of a turn -/
def Turns (P : Program) (w : World) (A : Around) (outer : List Env) (H : Hp) (sc : Shared) (S L a : Addr) (g : Nat) (Q : List V → Hp → Prop) (m : Nat) (s : Shared) : Prop :=
  s.heap.IsGen a g ∧ s.heap.NoLimit ∧ (∃ mp, s.heap.Ns L mp) ∧ ∃ gs, s.gens[g]? = some gs ∧ gs.Goes (model P w) A.in1 (EndJ P w outer H sc S [L] Q) (ItemJ sc S [L] a g) m (.send .none) (s.setGen g .running)
theorem push_none : ∀ (names : List (Str × NameKind)) (h : Heap), (∀ y ∈ names, y.2 = .local) → pushCells h names = h
  | [], _, _ => rfl
  | (n, k) :: r, h, q => by
    have e : k = .local := q (n, k) List.mem_cons_self
    subst e
    unfold pushCells
    rw [if_neg (by decide)]
    exact push_none r h fun y hy => q y (List.mem_cons_of_mem _ hy)
theorem pe_lcGen {e : Expr} {tg : TGen} {scope : Scope} {p1 p2 : Pos} (h : PGenJ X k e tg) (hr : Room (k + 3) X.A) (hkind : scope.kind = .function) (hlk : scope.names.lookup x = some .local) (hnm : ∀ y ∈ scope.names, y.2 = .local ∧ scope.names.lookup y.1 = some .local) (hs : ∀ y, foldedSetIterable e X.env y = pure y := by intro _; rfl) (hdb : (x == ("__debug__" : Str)) = false := by decide) :
    PE X (.ListComp (.Name x p1) [⟨.Name x p2, e, [], 0⟩] scope pos) (tListG tg) := by
  refine ⟨fun pins s σ H Q I hq => ?_⟩
  rw [eval_ListComp]
  refine wpAny_comprehension_free (use := none) rfl hs (closure_ok fun y hy e => ?_) hkind (fun y hy e => ?_) (thn (h.run pins s σ H _ I hq) fun u s1 ⟨H1, sc, I1, a, g, c, eu, ha1, ha2, hg, hgs, hos, hb, hl, hkp, wake⟩ => ?_)
  · rw [(hnm y hy).1] at e
    cases e
  · exact (hnm y hy).2
  subst eu
  refine wpAny_pyIter_gen hg ?_
  refine wpAny_newObj_type (newEnv_comp ?_) (by show 0 ≤ sizeLine; decide)
  generalize hS : s1.heap.objs.size = S
  generalize hs2 : ({ s1 with heap := s1.heap.push { cls := .type "list", data := .seq ([] : List Value).toArray } } : Shared) = s2
  have h2 : s2.heap = s1.heap.push { cls := .type "list", data := .seq ([] : List Value).toArray } := by rw [← hs2]
  have g2 : s2.gens = s1.gens := by rw [← hs2]
  have o2 : s2.os = s1.os := by rw [← hs2]
  have z2 : s2.heap.objs.size = S + 1 := by rw [h2, Heap.size_push, hS]
  have eS2 : s2.heap.get? S = some (lstObj #[] 0) := by rw [h2, ← hS]; exact Heap.get?_push_size _ rfl
  generalize hL : s2.heap.objs.size = L at *
  have hpc : pushCells (s2.heap.push { cls := .type "dict", data := .dict #[] }) scope.names = s2.heap.push { cls := .type "dict", data := .dict #[] } := push_none _ _ fun y hy => (hnm y hy).1
  have k12 : ∀ b o, s1.heap.get? b = some o → s2.heap.get? b = some o := fun b o q => by rw [h2]; exact Heap.get?_push_of_some _ q
  generalize hce : compEnvC scope (cellsFrom (L + 1) scope.names (cloFrom X.env.cells scope.names [])) L X.env = ce
  have ceL : ce.locals = L := by rw [← hce]; rfl
  have cek : ce.kindOf x = some .local := by
    rw [← hce]
    exact lookup_relabel_local hlk
  have cef : ce.scope.kind = .function := by rw [← hce]; exact hkind
  generalize hs3 : ({ s2 with heap := pushCells (s2.heap.push { cls := .type "dict", data := .dict #[] }) scope.names } : Shared) = s3
  have h3 : s3.heap = s2.heap.push { cls := .type "dict", data := .dict #[] } := by rw [← hs3]; exact hpc
  have g3 : s3.gens = s1.gens := by rw [← hs3]; exact g2
  have o3 : s3.os = s1.os := by rw [← hs3]; exact o2
  have k23 : ∀ b o, s2.heap.get? b = some o → s3.heap.get? b = some o := fun b o q => by rw [h3]; exact Heap.get?_push_of_some _ q
  have k13 : ∀ b o, s1.heap.get? b = some o → s3.heap.get? b = some o := fun b o q => k23 b o (k12 b o q)
  have eL3 : s3.heap.get? L = some { cls := .type "dict", data := .dict #[] } := by rw [h3, ← hL]; exact Heap.get?_push_size _ rfl
  have hSL : S ≠ L := by omega
  have haS : a ≠ S := Nat.ne_of_lt (Nat.lt_of_lt_of_eq ha2 hS)
  have haL : a ≠ L := Nat.ne_of_lt (Nat.lt_trans (Nat.lt_of_lt_of_eq ha2 hS) (by omega))
  have hcS : cStatics < s1.heap.objs.size := let ⟨_, hn, _⟩ := hl; hn.lt
  have start0 : Turns X.prog X.w X.A X.stack H1 sc S L a g (fun out H2 => ∀ p, H2 p = none → Q (.ref p) (upd H2 p (.lst out))) sizeLine s3 := by
    refine ⟨hg.keeps k13, hl.keeps k13, ⟨_, _, #[], _, eL3, rfl, ?_, fun _ => rfl⟩, .fresh c, by rw [g3]; exact hgs, rfl, ?_⟩
    · exact fun z hz => by simp at hz
    · refine wake X.A.in1 S [L] _ ⟨hr.hd, ?_, ?_⟩ I1.ok.frames (by omega) (fun b hb => by rw [List.mem_singleton.mp hb]; omega) (fun z => hSL (List.mem_singleton.mp z)) (fun b o q => k13 b o q) ⟨0, k23 _ _ eS2⟩ (fun b hb => by rw [List.mem_singleton.mp hb]; exact ⟨_, eL3, fun z q => nomatch q⟩) ?_ ?_
      · have := hr.dp
        show X.A.depth + 3 * k + 5 < _
        omega
      · have := hr.un
        show X.A.units + 1 + 16 * k + 200 < _
        omega
      · show s3.os = sc.os
        rw [o3]; exact hos
      · exact allBare_setGen (s := s3) (by rw [g3]; exact hb) rfl
  have loop : codeAny (model X.prog X.w) X.A (.compLoop (.ListComp (.Name x p1) [⟨.Name x p2, e, [], 0⟩] scope pos) 0 (.ref a) (.ref S) ce) (compPost (model X.prog X.w) X.A X.xe none (EP X pins σ Q) (.ref S) L) s3 := by
    refine compLoop_any (Turns X.prog X.w X.A X.stack H1 sc S L a g (fun out H2 => ∀ p, H2 p = none → Q (.ref p) (upd H2 p (.lst out)))) ?_ sizeLine start0
    rintro m s4 ⟨t1, t2, ⟨mp, t3⟩, gs, t4, t5⟩
    have t5' : gs.Goes (model X.prog X.w) X.A.in1 (fun n z0 r s1 => ((r = .ok (.ret .none) ∨ r = .ok .next) ∧ (∃ H2 ys xs j, s1.os = sc.os ∧ AllBare s1.gens ∧ Un (frs X.stack) [] H1 H2 sc.heap s1.heap ∧ HOk X.prog X.w H2 s1.heap ∧ H2 S = none ∧ s1.heap.get? S = some (lstObj xs j) ∧ Vals ys xs.toList ∧ ys.length ≤ sizeLine ∧ (∀ p, H2 p = none → Q (.ref p) (upd H2 p (.lst ys))) ∧
        ∀ b ∈ [L], ∀ u, z0.heap.get? b = some u → s1.heap.get? b = some u ∧ H2 b = none)) ∨ ∃ e, r = .error e ∧ False) (ItemJ sc S [L] a g) m (.send .none) (s4.setGen g .running) := by
      exact t5
    obtain ⟨uL, es, ep, eL4, dL, kL, fL⟩ := id t3
    have hgl : g < s4.gens.size := (Array.getElem?_eq_some_iff.mp t4).1
    refine wpAny_gsz (n := g + 1) hgl (next_genG (A := X.A) hr.hd t2 (by have := hr.dp; omega) t1 t4 t5' (fun v s5 gs' hbare hv => ?_) (fun s5 hp h' hk => ?_) fun e s5 he => he.elim)
    · intro hsz
      obtain ⟨v1, v2, v3, v4, ⟨xs, j, v5, v6⟩, v7, v8⟩ := hv
      have eL5 : s5.heap.get? L = some uL := v7 L (List.mem_singleton.mpr rfl) uL eL4
      have nL5 : s5.heap.Ns ce.locals mp := by rw [ceL]; exact ⟨uL, es, ep, eL5, dL, kL, fL⟩
      have lg : g < s5.gens.size := by
        have q : (s5.setGen g gs').gens.size = s5.gens.size := setGen_size _ _ _
        have hsz' : g + 1 ≤ (s5.setGen g gs').gens.size := hsz
        omega
      obtain ⟨go, nm, qn, eg5, c1, c2, c3⟩ := id v4
      refine go_of (o := go) (n := "generator") eg5 c1 c2 (by decide) ?_
      refine wpAny_assign_Name (wpAny_storeName_local cek (s := s5.setGen g gs') nL5 (fun h6 n6 sb6 => ?_) (by rw [cef]; rfl))
      refine wpAny_tests_nil ?_
      rw [if_pos rfl]
      have eS6 : h6.get? S = some (lstObj xs j) := (sb6.2 S (by rw [ceL]; exact hSL)).trans v5
      refine wpAny_Name (wpAny_loadName_local cef cek (m := fun y => if y = x then some v else mp y) n6 (if_pos rfl) ?_) hdb
      refine append_at (hsz := by omega) eS6 fun h7 sb7 e7 => ?_
      have keep7 : ∀ b o, b ≠ S → b ∉ [L] → s5.heap.get? b = some o → h7.get? b = some o := fun b o h1 h2 q =>
        (sb7.2 b h1).trans ((sb6.2 b (by rw [ceL]; exact fun z => h2 (List.mem_singleton.mpr z))).trans q)
      have n7 : h7.Ns L (fun y => if y = x then some v else mp y) := by
        rw [ceL] at n6
        exact n6.sameBut sb7 (Ne.symm hSL)
      have idle : Idle S [L] v s5 (({ s5.setGen g gs' with heap := h7, toks := s5.toks + 1 } : Shared).setGen g .running) := by
        refine ⟨rfl, allBare_setGen (s := s5.setGen g gs') (allBare_setGen (s := s5) v2 hbare) rfl, keep7, fun ys i q => ?_, fun b hb u hu => ?_⟩
        · rw [v5] at q
          cases q
          exact ⟨_, e7⟩
        · rw [List.mem_singleton.mp hb]
          obtain ⟨o6, _, _, q1, q2, _⟩ := n7
          exact ⟨o6, q1, fun z q => by rw [q2] at q; cases q⟩
      have go7 := v8 _ idle
      have kg : ∀ b o, b ≠ S → b ≠ L → s5.heap.get? b = some o → h7.get? b = some o := fun b o h1 h2 q => keep7 b o h1 (fun z => h2 (List.mem_singleton.mp z)) q
      have hcs : cStatics ≠ S := Nat.ne_of_lt (Nat.lt_of_lt_of_eq hcS hS)
      have hcl : cStatics ≠ L := Nat.ne_of_lt (Nat.lt_trans (Nat.lt_of_lt_of_eq hcS hS) (by omega))
      cases m with
      | zero => exact False.elim go7
      | succ m =>
        refine ⟨m, Nat.lt_succ_self m, ?_, ?_, ⟨_, n7⟩, gs', setGen_at lg, ?_⟩
        · exact ⟨go, nm, qn, kg a go haS haL eg5, c1, c2, c3⟩
        · obtain ⟨mc, hns, hnn⟩ := v3
          exact ⟨mc, hns.at' fun o q => kg _ o hcs hcl q, hnn⟩
        · exact go7
    · intro hsz
      obtain ⟨H2, ys, xs, j, e1, e2, e3, e4, e5, e6, e7, e8, e9, e10⟩ := hp
      obtain ⟨eL5, nL⟩ := e10 L (List.mem_singleton.mpr rfl) uL eL4
      have szL : sc.heap.objs.size ≤ L := Nat.le_trans ha1 (Nat.le_of_lt (Nat.lt_trans (Nat.lt_of_lt_of_eq ha2 hS) (by omega)))
      have szS : sc.heap.objs.size ≤ S := Nat.le_trans ha1 (Nat.le_of_lt (Nat.lt_of_lt_of_eq ha2 hS))
      have I5 : Inv X pins σ (upd H2 S (.lst ys)) { s5.setGen g .finished with heap := h' } := I1.drained szS e8 (hk _ _ e6) e7 .nil e1 (allBare_setGen e2 rfl) (e3.trans (Un.kept hk)) (e4.kept hk) e5
      refine ⟨mp, ⟨uL, es, ep, hk _ _ eL5, dL, kL, fL⟩, fun h'' sb => ?_⟩
      obtain ⟨f0, f1, f2, f3, f4, f5⟩ := I1.fpOk (H' := upd H2 S (.lst ys)) (b := L) szL (by rw [upd_ne (Ne.symm hSL)]; exact nL)
      exact ⟨.ref S, upd H2 S (.lst ys), I5.turned (t' := s5.toks) (fun b o hb e => (sb.2 b hb).trans e) f0 f1 f3 f4 f5, rfl, e9 S e5⟩
  subst hce
  show codeAny _ _ (.compStart (.ListComp (.Name x p1) [⟨.Name x p2, e, [], 0⟩] scope pos) 0 (.ref a) (.ref S) (compEnvC scope (cellsFrom (L + 1) scope.names (cloFrom X.env.cells scope.names [])) L X.env)) (compPost (model X.prog X.w) X.A X.xe none (EP X pins σ Q) (.ref S) L) s3
  exact codeAny_compStart_list loop (wpAny_pyIter_gen (hg.keeps k13) loop)
end
end Zw

set_option Elab.async false
set_option linter.all false
set_option maxRecDepth 100000
set_option maxHeartbeats 1000000
/-! generator defs that a comprehension may walk, on data -/
namespace Z
open PySem PySem.Spec PyProof.Rows L2
section
variable {P : Program} {w : World} {K : PySem.W.Frag} {mg : Str → Option Value} {base : Heap} {β : Type} [Rp β]
theorem def_okJ {x qual : Str} {args : Arguments} {body : List Stmt} {scope : Scope} {dvs : List V} {kws : List (Str × V)} {f : Addr} {fd : FuncData} {N ps : List Str} {k : Nat} {G : Own → List Cell → (List β → Prop) → Prop}
    (Fn : FunD K x qual args body scope dvs kws f fd) (Sc : GScope N ps scope) (len : ∀ Γ cs R, G Γ cs R → cs.length = ps.length)
    (hb : ∀ (cdv : Value) (A : Around) (outer : List PySem.Env) (s : Shared) (H : Hp) (pn : List (Addr × Obj)), Room k (A.deeper (envOfC qual scope s.heap.objs.size f cdv)) →
      ∀ (Γ : Own) (cs : List Cell) (R : List β → Prop), G Γ cs R → ∃ t, Zw.Bj (gcxOf P w K mg base N qual scope f cdv A outer s H Zw.noX pn) body t ∧
        ∀ (Δ0 : Gh) (D : GEnds), (∀ (out : List V) (σ : L2.St) (H' : Hp) (xs : List β), R xs → Ext Δ0 H H' → All2 (fun u a => Rp.rp K Δ0 H' u a) out xs → D.nx out σ H') → WpG K Δ0 H Γ [] (env0 N cs) t D []) :
    Zw.GFnJ P w K mg base (k + 1) f fd ps (spG K G) := by
  obtain ⟨oc, od, dV, kV, doc, pm, an, cdv, ct, osl, rfl, lk, hcd, _, _⟩ := Fn.ex
  refine Zw.gfnJ_of lk hcd Sc (fun vs H Q E h => ?_) fun A outer s H vs Q pn hr h => ?_
  · obtain ⟨Γ, Δ, cs, R, g, _, _, a, _⟩ := h
    rw [All2.len a]
    exact len Γ cs R g
  · obtain ⟨Γ, Δ, cs, R, g, sa, hh, a, q⟩ := h
    obtain ⟨t, ht, hw⟩ := hb cdv A outer s H pn hr Γ cs R g
    exact ⟨t, ht, hw Δ _ (fun out σ H' xs rx e q2 => q out H' xs rx e q2) _ H ⟨Δ, sa, hh, start_ok a, fun z hz => (nomatch hz), Ext.refl hh, fun _ _ z => z, fun x n m => absurd n m⟩⟩
end
end Z

set_option Elab.async false
set_option linter.all false
set_option maxRecDepth 100000
set_option maxHeartbeats 1000000
/-! own lists lengthened by lists, turned lists, bools in lists -/
namespace Z
open PySem PySem.Spec PyProof.Rows L2
section
variable {K : PySem.W.Frag} {Δ0 : Gh} {H0 : Hp} {Γ : Own} {F : List (V × Cell)} {ρ : Z.Env} {ta tb te : TE} {tz : TS} {D : Ends} {α : Type} [Rp α] [Flat α]
theorem flat_all2 {Δ : Gh} {H : Hp} : ∀ {vs : List V} {xs : List α}, All2 (fun u a => Rp.rp K Δ H u a) vs xs → vs = xs.map Flat.val
  | [], [], _ => rfl
  | [], _ :: _, q => q.elim
  | _ :: _, [], q => q.elim
  | _ :: _, _ :: _, q => by rw [List.map_cons, Flat.iff.mp q.1, flat_all2 q.2]
/-- name.extend(list), the last of a block -/
theorem wp_extL {p : Addr} {xs : List α} {P : FL α → Prop} (o : OwnP Δ0 Γ p) (hz : ∀ ys, P ys → xs.length + ys.l.length ≤ 50000) (ho : Ev K (OwnL p xs :: Γ) ta ρ (Is (⟨p⟩ : Loc))) (h : Ev K (OwnL p xs :: Γ) te ρ P)
    (k : ∀ ys, P ys → Wp K Δ0 H0 (OwnL p (xs ++ ys.l) :: Γ) F ρ tNext D) : Wp K Δ0 H0 (OwnL p xs :: Γ) F ρ (tDrop (tBM K "list" rExtend ta (tCons te tNil))) D := fun σ H ⟨Δ, s, hh, e, f, e0, s1, s2⟩ =>
  ho Δ σ H _ s hh e fun w H1 b pb e1 r1 => by
    have eb : b = ⟨p⟩ := pb
    subst eb
    have ew : w = .ref p := r1
    subst ew
    obtain ⟨u, hu, iu⟩ := e1.2 p _ (s _ List.mem_cons_self)
    have iu' : u = HO.lst _ := iu
    subst iu'
    refine ⟨.inl ⟨rfl, _, SqL.of hu⟩, h Δ σ H1 _ s e1.2 (e.mono e1.1) fun v H2 a pa e2 r2 => ?_⟩
    have e3 := e1.trans e2
    obtain ⟨b, vs, rfl, nb, hb, q⟩ := r2
    have ev := flat_all2 q
    subst ev
    have st : Stt K Δ0 H0 (OwnL p xs :: Γ) F ρ σ H2 := ⟨Δ, s, e3.2, e.mono e3.1, fun q hq => q.2.r.mono e3.1 (f q hq), ext0 e0 s1 s2 e3, s1, s2⟩
    obtain ⟨hp, st'⟩ := own_putO (o2 := .lst ((xs ++ a.l).map Flat.val)) o st
    refine ⟨p, b, _, _, rfl, rfl, hp, hb, ?_, ?_⟩
    · rw [List.length_map, List.length_map]
      exact Nat.le_trans (hz a pa) (by decide)
    · rw [← List.map_append]
      exact k a pa σ _ st'
/-- list(name), the list one's own -/
theorem ev_lstO {p : Addr} {xs : List α} (hm : OwnL p xs ∈ Γ) (ho : Ev K Γ ta ρ (Is (⟨p⟩ : Loc))) : Ev K Γ (tCB (fun xs H Q => ∃ p ys, xs = [.ref p] ∧ (SqL K H p ys ∨ SqT K H p ys) ∧ ∀ l, H l = none → Q (.ref l) (upd H l (.lst ys))) (tCons ta tNil)) ρ (Is (⟨xs⟩ : NL α)) :=
  ev_ownL hm ho fun Δ H Q hh hp k => ⟨p, _, rfl, .inl (.inl (.inl hp)), fun l hl => k _ _ _ rfl (Ext.new hh hl _) ⟨l, _, rfl, hh.fresh hl, .inl upd_same, all2_flat xs⟩⟩
end
section
variable {K : PySem.W.Frag} {Δ0 : Gh} {H0 : Hp} {Γ : Own} {F : List (V × Cell)} {ρ : Env} {t tz : TS} {D : Ends}
/-- a, b = e1, e2, the last of a block -/
theorem wp_parL {i j : Nat} {ta : TA} {Q : List Cell → Prop} (h : EvA K Γ ta ρ Q) (hi : i < ρ.length) (hj : j < ρ.length) (k : ∀ cs, Q cs → ∃ c d : Cell, cs = [c, d] ∧ Wp K Δ0 H0 Γ F ((ρ.set i (some c)).set j (some d)) tNext D) : Wp K Δ0 H0 Γ F ρ (tPar i j ta) D := fun σ H ⟨Δ, s, hh, e, f, e0, s1, s2⟩ =>
  h Δ σ H _ s hh e fun vs H' cs pcs e1 r => by
    obtain ⟨c, d, rfl, kk⟩ := k cs pcs
    match vs, r with
    | [v, w], r => exact ⟨v, w, rfl, kk _ H' ⟨Δ, s, e1.2, ((e.mono e1.1).set hi r.1).set (by rw [List.length_set]; exact hj) r.2.1, fun q hq => q.2.r.mono e1.1 (f q hq), ext0 e0 s1 s2 e1, s1, s2⟩⟩
/-- a loop within a loop: what stays, stays behind it too -/
theorem wp_forN {wi : TI} {g : TG} {js : List Nat} {n : Nat} {st : Nat → Env → Env} (Iv : Nat → Own → Env → Prop) (S : Src K Γ wi g ρ js n st) (h0 : Iv 0 Γ ρ) (hl : ∀ i Γ' ρ', Iv i Γ' ρ' → ρ'.length = ρ.length)
    (hs : ∀ i Γ' ρ' F', i < n → Iv i Γ' ρ' → Wp K Δ0 H0 Γ' F' (st i ρ') t { D with nx := At K Δ0 H0 F' Iv (i + 1), ct := At K Δ0 H0 F' Iv (i + 1), bk := tz D })
    (hd : ∀ Γ' ρ', Iv n Γ' ρ' → Wp K Δ0 H0 Γ' F ρ' tz D) : Wp K Δ0 H0 Γ F ρ (tSeq (tFor wi g t) tz) D := fun σ H ⟨Δ, s, hh, e, f, e0, s1, s2⟩ =>
  S Δ σ H _ s hh e fun J H1 pv pc e1 rp0 hgo hyld => by
    refine ⟨fun i m σ2 H2 => m = n - i ∧ i ≤ n ∧ At K Δ0 H0 ((pv, pc) :: F) Iv i σ2 H2, ⟨n, by simp, Nat.zero_le _, Γ, ρ, h0, Δ, s, e1.2, e.mono e1.1, ?_, ext0 e0 s1 s2 e1, s1, s2⟩, ?_⟩
    · intro q hq
      rcases List.mem_cons.mp hq with z | z
      · rw [z]; exact rp0
      · exact q.2.r.mono e1.1 (f q z)
    · rintro i m σ2 H2 ⟨rfl, hi, Γ', ρ', iv, st2⟩
      obtain ⟨Δ', s', hh', e', f', e0', s1', s2'⟩ := id st2
      have rp2 : pc.rp K Δ' H2 pv := f' (pv, pc) List.mem_cons_self
      have hg := hgo Δ' H2 rp2
      by_cases hlt : i < n
      · refine .inr ⟨hg.1 i hlt, At K Δ0 H0 ((pv, pc) :: F) Iv (i + 1), fun σ3 H3 a => ⟨n - (i + 1), by omega, rfl, hlt, a⟩, fun x H3 hy => ?_⟩
        obtain ⟨e3, hput⟩ := hyld Δ' i H2 x H3 hlt hh' rp2 hy
        refine hput σ2 ρ' _ (hl i Γ' ρ' iv) (e'.mono e3.1) fun σ3 env3 _ _ => ?_
        exact hs i Γ' ρ' _ hlt iv σ3 H3 ⟨Δ', s', e3.2, env3, fun q hq => q.2.r.mono e3.1 (f' q hq), ext0 e0' s1' s2' e3, s1', s2'⟩
      · have ei : i = n := by omega
        subst ei
        exact .inl ⟨hg.2, hd Γ' ρ' iv σ2 H2 ⟨Δ', s', hh', e', fun q hq => f' q (List.mem_cons_of_mem _ hq), e0', s1', s2'⟩⟩
end
section
variable {K : PySem.W.Frag} {Γ : Own} {ρ : Z.Env} {te : TE} {α : Type} [Rp α]
/-- xs[::-1] -/
theorem all2_rev {Δ : Gh} {H : Hp} : ∀ {vs : List V} {xs : List α}, All2 (fun u a => Rp.rp K Δ H u a) vs xs → All2 (fun u a => Rp.rp K Δ H u a) vs.reverse xs.reverse
  | [], [], _ => trivial
  | [], _ :: _, q => q.elim
  | _ :: _, [], q => q.elim
  | v :: vs, x :: xs, q => by
    rw [List.reverse_cons, List.reverse_cons]
    exact All2.snoc q.1 (all2_rev q.2)
theorem ev_rev {xs : List α} (h : Ev K Γ te ρ (Is xs)) : Ev K Γ (tRevL K te) ρ (Is xs.reverse) := fun Δ σ H Q s hh e k => h Δ σ H _ s hh e fun v H1 a pa e1 r => by
  have ea : a = xs := pa
  subst ea
  obtain ⟨p, vs, rfl, n, sq, q⟩ := r
  exact ⟨p, vs, rfl, sq, fun l hl => k _ _ _ rfl (e1.trans (Ext.new e1.2 hl _)) (new_lst e1.2 hl (all2_rev q))⟩
theorem inV_bl {b : Bool} : ∀ {xs : List Bool}, inV (.bl b) (xs.map V.bl) = decide (b ∈ xs)
  | [] => rfl
  | x :: xs => by
    have ih := inV_bl (b := b) (xs := xs)
    unfold inV at ih ⊢
    rw [List.map_cons, List.any_cons, ih]
    cases b <;> cases x <;> simp [eqV]
theorem flat_bl : ∀ {xs : List Bool}, (xs.map V.bl).all flatV = true
  | [] => rfl
  | _ :: xs => by
    rw [List.map_cons, List.all_cons, flat_bl]
    rfl
theorem o2_inLB {b : Bool} {xs : List Bool} : Op2 K (rIn K false) b xs (Is (decide (b ∈ xs))) := fun Δ H v w Q hh r1 r2 k => by
  have e1 : v = .bl b := r1
  obtain ⟨p, vs, rfl, n, s, q⟩ := r2
  subst e1
  have ev := all2_bl q
  subst ev
  exact ⟨p, _, rfl, .inl s, rfl, flat_bl, k _ H _ rfl (Ext.refl hh) (by show V.bl _ = V.bl _; rw [if_neg Bool.false_ne_true, inV_bl])⟩
theorem o2_notInLB {b : Bool} {xs : List Bool} : Op2 K (rIn K true) b xs (Is (!decide (b ∈ xs))) := fun Δ H v w Q hh r1 r2 k => by
  have e1 : v = .bl b := r1
  obtain ⟨p, vs, rfl, n, s, q⟩ := r2
  subst e1
  have ev := all2_bl q
  subst ev
  exact ⟨p, _, rfl, .inl s, rfl, flat_bl, k _ H _ rfl (Ext.refl hh) (by show V.bl _ = V.bl _; rw [if_pos rfl, inV_bl])⟩
end
section
variable {K : PySem.W.Frag} {Γ : Own} {ρ : Z.Env} {te : TE} {β γ : Type} [Rp β] [Rp γ] {C : Addr} {E : XK}
/-- o.name, o told by a predicate -/
theorem ev_propP {F : Own → List Cell → (γ → Prop) → Prop} {Q : β → Prop} {Pb : γ → Prop} (hI : IsIns K C β) (h : Ev K Γ te ρ Q) (hF : ∀ b, Q b → ∃ R, F Γ [⟨b⟩] R ∧ ∀ c, R c → Pb c) : Ev K Γ (tProp C (spD K F) [] E te) ρ Pb := fun Δ σ H Q' s hh e k =>
  h Δ σ H _ s hh e fun v H1 b pb e1 r1 => by
    obtain ⟨p, dx, fs, rfl, hp⟩ := hI Δ H1 v _ r1
    obtain ⟨R, hR, q⟩ := hF b pb
    exact ⟨p, dx, fs, rfl, hp, Γ, Δ, [⟨b⟩], R, hR, s, e1.2, ⟨r1, trivial⟩, fun z H' c pc e3 r3 => k z H' c (q c pc) (e1.trans e3) r3⟩
end
section
variable {X : Cx} {K : PySem.W.Frag}
theorem hx_noX : Passes (L2.CX X.prog X.w) X Zw.noX := fun _ _ _ _ _ _ _ h => by
  obtain ⟨_, _, _, _, _, _, _, _, _, _, _, _, hW⟩ := h
  exact hW.elim
theorem hns_noX : NoStop K Zw.noX := fun _ _ _ h => h.elim
theorem pe_revK {e : Expr} {te : TE} {k : Nat} {p1 p2 p3 pos : Pos} (he : PE X e te) (h : X.K = K := by rfl) : PE X (.Subscript e (.Slice none none (some (.UnaryOp .USub (.Constant (.int 1) k p1) p2)) p3) pos) (tRevL K te) := by
  subst h
  exact pe_revL he
end
end Z

set_option Elab.async false
set_option linter.all false
set_option maxRecDepth 100000
namespace K00
open PySem PySem.Spec PyProof.Rows L2 Z
/-! ### the mathematics -/
/-- sign i of a row -/
def sg (x : Tx) (i : Nat) : Nat := x.s.getD i 0
/-- the row of n signs -/
def mk (n : Nat) (f : Nat → Nat) : Tx := ⟨(List.range n).map f⟩
/-- the places below n with p -/
def ix (n : Nat) (p : Nat → Bool) : List Int := ((List.range n).filter p).map fun i => ((i : Nat) : Int)
theorem sg_at {x : Tx} {i : Nat} (h : i < x.s.length) : x.s[i]? = some (sg x i) := by
  rw [sg, List.getD_eq_getElem?_getD, List.getElem?_eq_getElem h]
  rfl
theorem mk_len {n : Nat} {f : Nat → Nat} : (mk n f).s.length = n := by simp [mk]
theorem mk_sg {n : Nat} {f : Nat → Nat} {i : Nat} (h : i < n) : sg (mk n f) i = f i := by
  simp [sg, mk, List.getD_eq_getElem?_getD, h]
theorem mk_self (x : Tx) : mk x.s.length (sg x) = x := by
  cases x with
  | mk s =>
    unfold mk
    congr 1
    apply List.ext_getElem?
    intro i
    by_cases h : i < s.length
    · simp [h, sg]
    · rw [List.getElem?_eq_none (by simp; omega), List.getElem?_eq_none (by omega)]
theorem mk_congr {n : Nat} {f g : Nat → Nat} (h : ∀ i, i < n → f i = g i) : mk n f = mk n g := by
  unfold mk
  congr 1
  exact List.map_congr_left fun i hi => h i (List.mem_range.mp hi)
theorem ix_congr {n : Nat} {p q : Nat → Bool} (h : ∀ i, i < n → p i = q i) : ix n p = ix n q := by
  unfold ix
  congr 1
  exact List.filter_congr fun i hi => h i (List.mem_range.mp hi)
theorem map_sw (x : Tx) : (⟨x.s.map sw⟩ : Tx) = mk x.s.length fun i => sw (sg x i) := by
  conv => lhs; rw [← mk_self x]
  unfold mk
  rw [List.map_map]
  rfl
theorem flat_mk {n : Nat} {f : Nat → Nat} : (⟨(((List.range n).map fun i => (⟨[f i]⟩ : Tx)).map (·.s)).flatten⟩ : Tx) = mk n f := by
  unfold mk
  congr 1
  induction n with
  | zero => rfl
  | succ n ih => rw [List.range_succ, List.map_append, List.map_append, List.flatten_append, ih, List.map_append]; rfl
theorem flat_len {n : Nat} {f : Nat → Nat} : (((List.range n).map fun i => (⟨[f i]⟩ : Tx)).map (·.s)).flatten.length = n := by
  have h := congrArg (fun t : Tx => t.s.length) (flat_mk (n := n) (f := f))
  simp only [mk_len] at h
  exact h
/-- a row of at most nine signs -/
structure Row (x : Tx) : Prop where
  all : x.s.all isSign = true
  len : x.s.length ≤ 9
theorem Row.sg {x : Tx} (h : Row x) {i : Nat} (hi : i < x.s.length) : isSign (sg x i) = true := List.all_eq_true.mp h.all _ (by
  rw [K00.sg, List.getD_eq_getElem?_getD, List.getElem?_eq_getElem hi]
  exact List.getElem_mem hi)
theorem row_mk {n : Nat} {f : Nat → Nat} (hn : n ≤ 9) (h : ∀ i, i < n → isSign (f i) = true) : Row (mk n f) := ⟨List.all_eq_true.mpr fun c hc => by
  unfold K00.mk at hc
  obtain ⟨i, hi, rfl⟩ := List.mem_map.mp hc
  exact h i (List.mem_range.mp hi), by rw [mk_len]; exact hn⟩
/-- ascending, from l on, below n -/
def ascF (n : Int) : Int → List Int → Bool
  | _, [] => true
  | l, t :: r => (decide (l ≤ t) && decide (t ≤ n - 1)) && ascF n (t + 1) r
theorem ascF_all {n : Int} : ∀ {l : Int} {ts : List Int}, ascF n l ts = true → ∀ t ∈ ts, l ≤ t ∧ t < n
  | _, [], _, t, ht => by cases ht
  | l, t0 :: r, h, t, ht => by
    simp only [ascF, Bool.and_eq_true, decide_eq_true_eq] at h
    rcases List.mem_cons.mp ht with rfl | ht
    · omega
    · have := ascF_all h.2 t ht
      omega
/-- what is asked of the next thing -/
def nextL (l : Int) : List Int → Int
  | [] => l
  | t :: r => nextL (t + 1) r
theorem nextL_snoc (l : Int) : ∀ (ts : List Int) (t : Int), nextL l (ts ++ [t]) = t + 1
  | [], t => rfl
  | a :: r, t => nextL_snoc (a + 1) r t
theorem ascF_snoc (n : Int) : ∀ (l : Int) (ts : List Int) (t : Int), ascF n l (ts ++ [t]) = (ascF n l ts && (decide (nextL l ts ≤ t) && decide (t ≤ n - 1)))
  | l, [], t => by
    show ((decide (l ≤ t) && decide (t ≤ n - 1)) && true) = (true && (decide (l ≤ t) && decide (t ≤ n - 1)))
    rw [Bool.and_true, Bool.true_and]
  | l, a :: r, t => by
    show (_ && ascF n (a + 1) (r ++ [t])) = _
    rw [ascF_snoc n (a + 1) r t, ← Bool.and_assoc]
    rfl
theorem ascF_app {n l : Int} {ts us : List Int} (h : ascF n l ts = false) : ascF n l (ts ++ us) = false := by
  induction ts generalizing l with
  | nil => cases h
  | cons a r ih =>
    show (_ && ascF n (a + 1) (r ++ us)) = false
    have h' : (_ && ascF n (a + 1) r) = false := h
    cases hx : (decide (l ≤ a) && decide (a ≤ n - 1)) with
    | false => rfl
    | true =>
      rw [hx] at h'
      rw [ih h']
      rfl
/-- the code of a row's first i signs -/
def bitAt (i c : Nat) : Nat := if c = 43 then 2 ^ i else if c = 45 then 2 ^ (i + 9) else 0
def codeUp (x : Tx) : Nat → Nat
  | 0 => 0
  | i + 1 => codeUp x i ||| bitAt i (sg x i)
def codeT (x : Tx) : Nat := codeUp x x.s.length
def tcode (c : Nat) : Nat := c / 2 ^ 9 ||| (c &&& 511) * 2 ^ 9
/-- apart at a sign, agreeing there -/
def ap (c d : Nat) : Bool := (!decide (c = 48)) && ((!decide (d = 48)) && !decide (c = d))
def upr (x y : Tx) : Bool := decide (decide (codeT x &&& codeT y = 0) = decide (codeT x &&& tcode (codeT y) = 0))

end K00

set_option Elab.async false
set_option linter.all false
set_option maxRecDepth 100000
set_option maxHeartbeats 1000000
namespace K01
open PySem PySem.Spec PyProof.Rows L2 Z
def top (i : Nat) : Stmt := PySem.Challenge.pw_sidesigns_k01_whole_all_rows_of_a_size.main.body.getD i (.Pass ⟨0, 0, 0, 0⟩)
structure Txt (K : PySem.W.Frag) (mg : Str → Option Value) : Prop where
  z_abs : mg "abs" = none
  z_all : mg "all" = none
  z_bool : mg "bool" = none
  z_enumerate : mg "enumerate" = none
  z_int : mg "int" = none
  z_isinstance : mg "isinstance" = none
  z_iter : mg "iter" = none
  z_len : mg "len" = none
  z_list : mg "list" = none
  z_max : mg "max" = none
  z_min : mg "min" = none
  z_property : mg "property" = none
  z_range : mg "range" = none
  z_sorted : mg "sorted" = none
  z_str : mg "str" = none
  z_tuple : mg "tuple" = none
  z_zip : mg "zip" = none
  i_SHIFT : ∃ t, mg "SHIFT" = some (.int 9 t)
  i_LOW : ∃ t, mg "LOW" = some (.int 511 t)
  i_MAX_THINGS : ∃ t, mg "MAX_THINGS" = some (.int 9 t)
/-- a def without defaults -/
structure Df (K : PySem.W.Frag) (mg : Str → Option Value) (x : Str) (st : Stmt) (ps : List Str) (f : Addr) (fd : FuncData) : Prop where
  F : FunD K x x (defArgs st) (defBody st) (defScope st) [] [] f fd
  g : mg x = some (.ref f)
  b : Binds K fd ps []
theorem Df.kp {K : PySem.W.Frag} {mg : Str → Option Value} {x : Str} {st : Stmt} {ps : List Str} {f : Addr} {fd : FuncData} (D : Df K mg x st ps f fd) : PySem.W.keepIn K (.ref f) = true := D.F.kp
/-- a def whose last parameter is None by default -/
structure DfD (K : PySem.W.Frag) (mg : Str → Option Value) (x : Str) (st : Stmt) (ps : List Str) (f : Addr) (fd : FuncData) : Prop where
  F : FunD K x x (defArgs st) (defBody st) (defScope st) [V.non] [] f fd
  g : mg x = some (.ref f)
  b : Binds K fd ps []
  b1 : Binds K fd ps [Value.none]
theorem DfD.kp {K : PySem.W.Frag} {mg : Str → Option Value} {x : Str} {st : Stmt} {ps : List Str} {f : Addr} {fd : FuncData} (D : DfD K mg x st ps f fd) : PySem.W.keepIn K (.ref f) = true := D.F.kp
theorem DfD.v1 {K : PySem.W.Frag} {mg : Str → Option Value} {x : Str} {st : Stmt} {ps : List Str} {f : Addr} {fd : FuncData} (D : DfD K mg x st ps f fd) : Vals [V.non] [Value.none] := .cons rfl .nil
/-- a method -/
structure DfM (K : PySem.W.Frag) (dvs : List V) (x q : Str) (st : Stmt) (ps : List Str) (f : Addr) (fd : FuncData) : Prop where
  F : FunD K x q (defArgs st) (defBody st) (defScope st) dvs [] f fd
  b : Binds K fd ps []
abbrev s__wall : Stmt := top 0
abbrev s_InvalidNumber___init__ : Stmt := inClass (top 5) 0
abbrev s_is_integer : Stmt := top 7
abbrev s_is_between : Stmt := top 8
abbrev s_code_of : Stmt := top 12
abbrev s_turned_code : Stmt := top 13
abbrev s_mask_of : Stmt := top 14
abbrev s_has_within : Stmt := top 15
abbrev s_least_masks : Stmt := top 16
abbrev s_size_of : Stmt := top 17
abbrev s_is_row : Stmt := top 20
abbrev s_check_many : Stmt := top 21
abbrev s_check_row : Stmt := top 22
abbrev s_check_any_row : Stmt := top 23
abbrev s__check_rows : Stmt := top 24
abbrev s_is_upright : Stmt := top 25
abbrev s__is_code_upright : Stmt := top 26
abbrev s_things_of : Stmt := top 27
abbrev s_all_rows : Stmt := top 28
abbrev s_Lot___init__ : Stmt := inClass (top 29) 0
abbrev s_Lot_many : Stmt := inClass (top 29) 1
abbrev s_Lot_rows : Stmt := inClass (top 29) 2
abbrev s_Lot_is_even : Stmt := inClass (top 29) 3
abbrev s_Lot___len__ : Stmt := inClass (top 29) 4
abbrev s_Lot___iter__ : Stmt := inClass (top 29) 5
abbrev s_Lot___contains__ : Stmt := inClass (top 29) 6
abbrev s_Lot___eq__ : Stmt := inClass (top 29) 7
abbrev s_Lot___str__ : Stmt := inClass (top 29) 8
abbrev s_Lot___or__ : Stmt := inClass (top 29) 9
abbrev s_Lot___and__ : Stmt := inClass (top 29) 10
abbrev s_Lot___sub__ : Stmt := inClass (top 29) 11
abbrev s_Lot_least : Stmt := inClass (top 29) 12
abbrev s_Lot_with_turned : Stmt := inClass (top 29) 13
abbrev s_Lot_turned_at : Stmt := inClass (top 29) 14
abbrev s_Lot_layings : Stmt := inClass (top 29) 15
abbrev s_Lot_uprights : Stmt := inClass (top 29) 16
abbrev s__check_alike : Stmt := top 30
abbrev s__law_dice : Stmt := top 32
abbrev s__law_roll : Stmt := top 33
abbrev s__law_pick : Stmt := top 34
abbrev s__law_drawn_row : Stmt := top 35
abbrev s__law_every_row : Stmt := top 36
abbrev s__law_balances : Stmt := top 37
abbrev s__law_are_pairs_right : Stmt := top 38
abbrev s__law_right : Stmt := top 39
abbrev s_law : Stmt := top 40
section
variable {P : Program} {w : World} {K : PySem.W.Frag} {mg : Str → Option Value} {base : Heap}
abbrev Pm (β : Type) := Own → List Cell → (β → Prop) → Prop
def F_is_integer : Pm Bool := fun _ cs R => ∃ i : Int, cs = [⟨i⟩] ∧ R = Is true
theorem sc_is_integer : FnScope ["value"] ["value"] (defScope s_is_integer) := ⟨rfl, rfl, rfl, by decide +kernel, rfl, by decide +kernel, by decide +kernel⟩
theorem ok_is_integer (T : Txt K mg) {f : Addr} {fd : FuncData} (D : Df K mg "is_integer" s_is_integer ["value"] f fd) : FnOk P w K mg base CX0 2 f fd ["value"] (spD K F_is_integer) := by
  obtain ⟨_, hI_SHIFT⟩ := T.i_SHIFT
  obtain ⟨_, hI_LOW⟩ := T.i_LOW
  obtain ⟨_, hI_MAX_THINGS⟩ := T.i_MAX_THINGS
  refine def_ok D.F sc_is_integer (fun Γ cs R g => ?len) (fun cdv A outer s H E hr Γ cs R g => ?_)
  case len => obtain ⟨i, rfl, _⟩ := g; rfl
  obtain ⟨i, rfl, rfl⟩ := g
  refine ⟨_, (pss_one (ps_ret (pe_and (pe_callB call_isK (by rfl) T.z_isinstance (by decide +kernel) (pa_cons (pv 0) (pa_cons (pe_bltn (v := .ty "int") (u := .type "int") (by rfl) T.z_int (by decide +kernel) rfl) pa_nil))) (pe_one (pe_not (pe_callB call_isK (by rfl) T.z_isinstance (by decide +kernel) (pa_cons (pv 0) (pa_cons (pe_bltn (v := .ty "bool") (u := .type "bool") (by rfl) T.z_bool (by decide +kernel) rfl) pa_nil)))))))), fun Δ0 D' hf hn => wp_ret hf ?_⟩
  exact ev_is (ev_andV (ev_isi ev_var ty_int (kit_ty (r := true) (by decide +kernel))) fun _ => ev_notV (ev_isi ev_var ty_int (kit_ty (r := false) (by decide +kernel)))) rfl
def F_is_between : Pm Bool := fun _ cs R => ∃ v l m : Int, cs = [⟨v⟩, ⟨l⟩, ⟨m⟩] ∧ R = Is (decide (l ≤ v) && decide (v ≤ m))
theorem sc_is_between : FnScope ["value", "least", "most"] ["value", "least", "most"] (defScope s_is_between) := ⟨rfl, rfl, rfl, by decide +kernel, rfl, by decide +kernel, by decide +kernel⟩
theorem ok_is_between (T : Txt K mg) {f : Addr} {fd : FuncData} (D : Df K mg "is_between" s_is_between ["value", "least", "most"] f fd) {f_is_integer : Addr} {fd_is_integer : FuncData} (D_is_integer : Df K mg "is_integer" s_is_integer ["value"] f_is_integer fd_is_integer) (G_is_integer : FnOk P w K mg base CX0 2 f_is_integer fd_is_integer ["value"] (spD K F_is_integer)) : FnOk P w K mg base CX0 3 f fd ["value", "least", "most"] (spD K F_is_between) := by
  obtain ⟨_, hI_SHIFT⟩ := T.i_SHIFT
  obtain ⟨_, hI_LOW⟩ := T.i_LOW
  obtain ⟨_, hI_MAX_THINGS⟩ := T.i_MAX_THINGS
  refine def_ok D.F sc_is_between (fun Γ cs R g => ?len) (fun cdv A outer s H E hr Γ cs R g => ?_)
  case len => obtain ⟨v, l, m, rfl, _⟩ := g; rfl
  obtain ⟨v, l, m, rfl, rfl⟩ := g
  refine ⟨_, (pss_one (ps_ret (pe_and (pe_call G_is_integer (hr.mono (by decide)) (by rfl) D_is_integer.g D_is_integer.kp D_is_integer.b .nil pass0 (pa_cons (pv 0) pa_nil)) (pe_one (pe_chain op_le op_le (pv 1) (pv 0) (pv 2)))))), fun Δ0 D' hf hn => wp_ret hf ?_⟩
  exact ev_is (ev_andV (ev_call1 (ea_1 ev_var ea_nil) ⟨v, rfl, rfl⟩) fun _ => ev_chain ev_var ev_var ev_var o2_B0 o2_B0) rfl
def F_is_row : Pm Bool := fun _ cs R => ∃ (x : Tx) (n : Int), cs = [⟨x⟩, ⟨n⟩] ∧ x.s.length ≤ 100000 ∧ R = Is (decide ((x.s.length : Int) = n) && x.s.all isSign)
theorem sc_is_row : FnScope ["value", "many"] ["value", "many"] (defScope s_is_row) := ⟨rfl, rfl, rfl, by decide +kernel, rfl, by decide +kernel, by decide +kernel⟩
theorem ok_is_row (T : Txt K mg) {f : Addr} {fd : FuncData} (D : Df K mg "is_row" s_is_row ["value", "many"] f fd) : FnOk P w K mg base CX0 2 f fd ["value", "many"] (spD K F_is_row) := by
  obtain ⟨_, hI_SHIFT⟩ := T.i_SHIFT
  obtain ⟨_, hI_LOW⟩ := T.i_LOW
  obtain ⟨_, hI_MAX_THINGS⟩ := T.i_MAX_THINGS
  refine def_ok D.F sc_is_row (fun Γ cs R g => ?len) (fun cdv A outer s H E hr Γ cs R g => ?_)
  case len => obtain ⟨x, n, rfl, _⟩ := g; rfl
  obtain ⟨x, n, rfl, hx, rfl⟩ := g
  refine ⟨_, (pss_one (ps_ret (pe_and (pe_callB call_isK (by rfl) T.z_isinstance (by decide +kernel) (pa_cons (pv 0) (pa_cons (pe_bltn (v := .ty "str") (u := .type "str") (by rfl) T.z_str (by decide +kernel) rfl) pa_nil))) (pe_and (pe_cmpR op_eq (pe_callB call_lenK (by rfl) T.z_len (by decide +kernel) (pa_cons (pv 0) pa_nil)) (pv 1) (nomark _)) (pe_one (pe_cmpR op_eq (pe_stripC (pv 0) pe_str) pe_str (nomark _))))))), fun Δ0 D' hf hn => wp_ret hf ?_⟩
  exact ev_is (ev_andV (ev_isi ev_var ty_tx (kit_ty (r := true) (by decide +kernel))) fun _ => ev_andV (ev_op1 (ev_cb ev_var (o1_lenS hx)) (ev_var (i := 1)) o2_eqI) fun _ => ev_stripEq (h := ev_var) (hz := hx)) rfl
def F_check_many : Pm Unit := fun _ cs R => ∃ n : Nat, cs = [⟨(n : Int)⟩] ∧ n ≤ 9 ∧ R = Is ()
theorem sc_check_many : FnScope ["many"] ["many"] (defScope s_check_many) := ⟨rfl, rfl, rfl, by decide +kernel, rfl, by decide +kernel, by decide +kernel⟩
theorem ok_check_many (T : Txt K mg) {f : Addr} {fd : FuncData} (D : Df K mg "check_many" s_check_many ["many"] f fd) {f_is_between : Addr} {fd_is_between : FuncData} (D_is_between : Df K mg "is_between" s_is_between ["value", "least", "most"] f_is_between fd_is_between) (G_is_between : FnOk P w K mg base CX0 3 f_is_between fd_is_between ["value", "least", "most"] (spD K F_is_between)) : FnOk P w K mg base CX0 4 f fd ["many"] (spD K F_check_many) := by
  obtain ⟨_, hI_SHIFT⟩ := T.i_SHIFT
  obtain ⟨_, hI_LOW⟩ := T.i_LOW
  obtain ⟨_, hI_MAX_THINGS⟩ := T.i_MAX_THINGS
  refine def_ok D.F sc_check_many (fun Γ cs R g => ?len) (fun cdv A outer s H E hr Γ cs R g => ?_)
  case len => obtain ⟨n, rfl, _⟩ := g; rfl
  obtain ⟨n, rfl, hn9, rfl⟩ := g
  refine ⟨_, (pss_one (ps_if (pt_not (pt_val (pe_call G_is_between (hr.mono (by decide)) (by rfl) D_is_between.g D_is_between.kp D_is_between.b .nil pass0 (pa_cons (pv 0) (pa_cons pe_int (pa_cons (pe_glob (v := .int 9) rfl hI_MAX_THINGS ⟨_, rfl⟩) pa_nil)))))) (pss_one ps_never) pss_nil)), fun Δ0 D' hf hn => ?_⟩
  refine wp_noL ?_ (et_not (et_B (ev_call1 (ea_1 ev_var (ea_1 ev_int (ea_1 ev_int ea_nil))) ⟨_, _, _, rfl, rfl⟩))) (wp_none rfl hn)
  rw [decide_eq_true (by omega), decide_eq_true (by omega)]
  rfl
end
end K01

set_option Elab.async false
set_option linter.all false
set_option maxRecDepth 100000
set_option maxHeartbeats 1000000
namespace K01
open PySem PySem.Spec PyProof.Rows L2 Z
/-- a row with one more sign -/
def ext (r : Tx) : List Tx := [⟨r.s ++ [43]⟩, ⟨r.s ++ [45]⟩, ⟨r.s ++ [48]⟩]
/-- all rows of n signs, in the order of "+-0" -/
def rowsOf : Nat → List Tx
  | 0 => [⟨[]⟩]
  | n + 1 => (rowsOf n).flatMap ext
theorem flat_len3 : ∀ xs : List Tx, (xs.flatMap ext).length = 3 * xs.length
  | [] => rfl
  | x :: xs => by
    rw [List.flatMap_cons, List.length_append, flat_len3 xs, List.length_cons]
    show 3 + _ = _
    omega
theorem rows_len : ∀ n, (rowsOf n).length = 3 ^ n
  | 0 => rfl
  | n + 1 => by
    rw [rowsOf, flat_len3, rows_len n, Nat.pow_succ]
    omega
theorem rows_sz : ∀ n, ∀ x ∈ rowsOf n, x.s.length = n
  | 0, x, h => by rw [List.mem_singleton.mp h]; rfl
  | n + 1, x, h => by
    obtain ⟨r, hr, hx⟩ := List.mem_flatMap.mp h
    have := rows_sz n r hr
    simp only [ext, List.mem_cons, List.not_mem_nil, or_false] at hx
    rcases hx with rfl | rfl | rfl <;> simp [this]
theorem getD_of {α : Type} {xs : List α} {d : α} {i : Nat} (h : i < xs.length) : xs[i]? = some (xs.getD i d) := by
  rw [List.getD_eq_getElem?_getD, List.getElem?_eq_getElem h]
  rfl
/-- what stands ahead of turn i, j -/
def part (xs : List Tx) (i j : Nat) : List Tx := (xs.take i).flatMap ext ++ (ext (xs.getD i ⟨[]⟩)).take j
theorem part_next {xs : List Tx} {i : Nat} (h : i < xs.length) : part xs i 3 = part xs (i + 1) 0 := by
  have e : xs.take (i + 1) = xs.take i ++ [xs.getD i ⟨[]⟩] := by
    rw [List.take_add_one, getD_of (d := (⟨[]⟩ : Tx)) h]
    rfl
  unfold part
  rw [e, List.flatMap_append]
  simp [ext]
theorem part_len {xs : List Tx} {i j : Nat} : (part xs i j).length ≤ 3 * xs.length + 3 := by
  unfold part
  rw [List.length_append, flat_len3]
  have h1 : (xs.take i).length ≤ xs.length := List.length_take_le' i xs
  have h2 : ((ext (xs.getD i ⟨[]⟩)).take j).length ≤ 3 := List.length_take_le' j _
  omega
def sg3 : Nat → Nat
  | 0 => 43
  | 1 => 45
  | _ => 48
theorem part_sign {xs : List Tx} {i j : Nat} (h : j < 3) : part xs i (j + 1) = part xs i j ++ [⟨(xs.getD i ⟨[]⟩).s ++ [sg3 j]⟩] := by
  unfold part
  match j, h with
  | 0, _ => simp [ext, sg3]
  | 1, _ => simp [ext, sg3]
  | 2, _ => simp [ext, sg3]
section
variable {P : Program} {w : World} {K : PySem.W.Frag} {mg : Str → Option Value} {base : Heap}
def F_all_rows : Own → List Cell → (List Tx → Prop) → Prop := fun _ cs R => ∃ n : Nat, cs = [⟨(n : Int)⟩] ∧ n ≤ 9 ∧ R = fun xs => xs = rowsOf n
theorem gsc_all_rows : GScope ["many", "rows", "_", "row", "sign"] ["many"] (defScope s_all_rows) := ⟨rfl, rfl, rfl, by decide +kernel, rfl, by decide +kernel, by decide +kernel⟩
abbrev IvR (Γ : Own) (n : Nat) : Nat → Own → Z.Env → Prop := fun i Γ' ρ' => Γ' = Γ ∧ ∃ a b c, ρ' = [some ⟨(n : Int)⟩, some ⟨(⟨rowsOf i⟩ : NL Tx)⟩, a, b, c]
theorem ok_all_rows (T : Txt K mg) {f : Addr} {fd : FuncData} (D : Df K mg "all_rows" s_all_rows ["many"] f fd) {f_check_many : Addr} {fd_check_many : FuncData} (D_check_many : Df K mg "check_many" s_check_many ["many"] f_check_many fd_check_many) (G_check_many : FnOk P w K mg base CX0 4 f_check_many fd_check_many ["many"] (spD K F_check_many)) :
    GFn P w K mg base 6 f fd ["many"] (spG K F_all_rows) := by
  refine def_okG D.F gsc_all_rows (fun Γ cs R g => ?len) (fun cdv A outer s H E pn hr Γ cs R g => ?_)
  case len => obtain ⟨n, rfl, _⟩ := g; rfl
  obtain ⟨n, rfl, hn9, rfl⟩ := g
  refine ⟨_, (gss_cons (gs_ps (ps_expr (pe_call G_check_many (hr.mono (by decide)) (by rfl) D_check_many.g D_check_many.kp D_check_many.b .nil pass0 (pa_cons (pv 0) pa_nil))))
    (gss_cons (gs_ps (ps_set (i := 1) gsc_all_rows.nd rfl (by first | exact .inl rfl | exact .inr rfl) (pe_lst (pa_cons pe_str pa_nil))))
    (gss_cons (gs_ps (ps_for owns_gcx rfl (pi_range1 (by rfl) T.z_range (pa_cons (pv 0) pa_nil)) (pg_name (i := 2) gsc_all_rows.nd rfl (by first | exact .inl rfl | exact .inr rfl))
      (pss_one (ps_setLc2 (i := 1) (own := [("row", 3), ("sign", 4)]) (vs1 := [4]) (g := (gName 3)) (tt := tYes) (g1 := (gName 4)) (tt1 := tYes) rfl gsc_all_rows.nd rfl rfl (by kernel_rfl) (pi_listK (pv 1)) (blkOk_by (N := ["many", "rows", "_", "row", "sign"]) (sc := defScope s_all_rows) (by decide +kernel)) (by decide)
        (fun _ _ _ _ _ => pg_name (i := 3) gsc_all_rows.nd rfl (by first | exact .inl rfl | exact .inr rfl)) (fun _ _ _ _ _ => pts_nil) (fun _ _ _ _ _ => pi_str pe_str) (fun _ _ _ _ _ => pg_name (i := 4) gsc_all_rows.nd rfl (by first | exact .inl rfl | exact .inr rfl)) (fun _ _ _ _ _ => pts_nil) (fun _ _ _ _ _ => pe_op op_add_str (pv 3) (pv 4))))))
    (gss_cons (gs_yieldFrom (Zy.yf_lst (pv 1)) hr.hd) gss_nil)))), fun Δ0 D' hf => ?_⟩
  refine wpg_plain (wp_drop (ev_call1 (ea_1 (ev_var (i := 0)) ea_nil) ⟨n, rfl, hn9, rfl⟩) (wpg_rest (wpg_plain (wp_asg1 (a := (⟨rowsOf 0⟩ : NL Tx)) (ev_lstN (xs := [(⟨[]⟩ : Tx)]) (ea_1 (ev_strc []) ea_nil) (by decide)) (ltr rfl) (wpg_rest (wpg_plain (wp_for (IvR Γ n) (src_rng1 (n := n) (ea_1 (ev_var (i := 0)) ea_nil) (by omega) (ltr rfl)) ⟨rfl, none, none, none, rfl⟩ (fun i Γ' ρ' h => by obtain ⟨_, a, b, c, rfl⟩ := h; rfl) ?_ ?_)))))))
  · rintro i Γ' ρ' F' hi ⟨rfl, a, b, c, rfl⟩
    have hlen : (rowsOf i).length ≤ 6561 := by
      rw [rows_len]
      exact Nat.pow_le_pow_right (n := 3) (by decide) (show i ≤ 8 by omega)
    refine wp_asgL (P := Is (⟨rowsOf (i + 1)⟩ : NL Tx)) ((ev_lc2 (β := Tx) (m := fun _ => 3) (fun i' j acc => acc = part (rowsOf i) i' j) (src_list (xs := rowsOf i) (x0 := fun k => (rowsOf i).getD k ⟨[]⟩) (ev_ofNL (y := ⟨rowsOf i⟩) (ev_var (i := 1))) (fun k hk => getD_of hk) (j := 3) (ltr rfl)) (by decide) (fun i' _ => src_str (x := ⟨[43, 45, 48]⟩) (c0 := sg3) (ev_strc [43, 45, 48]) (fun k hk => ?_) (j := 4) (ltr rfl)) (by decide) ?_ (fun i' j acc h => ?_) (fun i' j acc h1 h2 h => ⟨Is (⟨((rowsOf i).getD i' ⟨[]⟩).s ++ [sg3 j]⟩ : Tx), ?_, fun b' hb' => ?_⟩) (fun i' acc h1 h => ?_)).imp fun r hr => ?_) (ltr rfl) (fun r hr => wp_turn (Iv := IvR Γ' n) ⟨rfl, some ⟨(i : Int)⟩, b, c, ?_⟩ rfl)
    · match k, hk with
      | 0, _ => rfl
      | 1, _ => rfl
      | 2, _ => rfl
    · simp [part]
    · rw [h]
      exact Nat.le_trans part_len (by omega)
    · have hs := rows_sz i ((rowsOf i).getD i' ⟨[]⟩) (List.mem_of_getElem? (getD_of h1))
      exact ev_op1 (ev_var (i := 3)) (ev_var (i := 4)) (o2_addS (x := (rowsOf i).getD i' ⟨[]⟩) (y := ⟨[sg3 j]⟩) (by rw [hs]; simp; omega))
    · rw [show b' = _ from hb', part_sign h2, h]
    · rw [h, part_next h1]
    · show r = _
      have e : r.l = part (rowsOf i) (rowsOf i).length 0 := hr
      cases r
      congr 1
      refine Eq.trans e ?_
      simp [part, rowsOf]
    · rw [show r = _ from hr]
      rfl
  · rintro Γ' ρ' F' ⟨rfl, a, b, c, rfl⟩
    refine wpg_rest (wpg_from (P := Is (⟨rowsOf n⟩ : NL Tx)) rfl (ev_var (i := 1)) (fun xs h => ?_) (fun out σ H' xs h e q => hf out σ H' xs.l (by rw [show xs = _ from h]) e q))
    · rw [show xs = _ from h, rows_len]
      exact Nat.le_trans (Nat.pow_le_pow_right (n := 3) (by decide) hn9) (by decide)
end
end K01

set_option Elab.async false
set_option linter.all false
set_option maxRecDepth 100000
set_option maxHeartbeats 1000000
namespace K01
open PySem PySem.Spec PyProof.Rows L2 Z K00
section
variable {P : Program} {w : World} {K : PySem.W.Frag} {mg : Str → Option Value} {base : Heap}
theorem len_le {x : Tx} (h : Row x) : x.s.length ≤ 100000 := Nat.le_trans h.len (by decide)
theorem or_nn (m n : Nat) : Builtin.bitOr (m : Int) (n : Int) = ((m ||| n : Nat) : Int) := by rw [Bits.bitOr_pp (Int.natCast_nonneg m) (Int.natCast_nonneg n), Int.toNat_natCast, Int.toNat_natCast]
theorem and_nn (m n : Nat) : Builtin.bitAnd (m : Int) (n : Int) = ((m &&& n : Nat) : Int) := by
  rw [bitAnd_pp (Int.natCast_nonneg m) (Int.natCast_nonneg n), Int.toNat_natCast, Int.toNat_natCast]
abbrev IvC (Γ : Own) (x : Tx) : Nat → Own → Z.Env → Prop := fun i Γ' ρ' => Γ' = Γ ∧ ∃ a b, ρ' = [some ⟨x⟩, some ⟨((codeUp x i : Nat) : Int)⟩, a, b]
def F_code_of : Pm Int := fun _ cs R => ∃ x : Tx, cs = [⟨x⟩] ∧ x.s.length ≤ 9 ∧ R = Is ((codeT x : Nat) : Int)
theorem sc_code_of : FnScope ["row", "code", "thing", "sign"] ["row"] (defScope s_code_of) := ⟨rfl, rfl, rfl, by decide +kernel, rfl, by decide +kernel, by decide +kernel⟩
theorem ok_code_of (T : Txt K mg) {f : Addr} {fd : FuncData} (D : Df K mg "code_of" s_code_of ["row"] f fd) : FnOk P w K mg base CX0 2 f fd ["row"] (spD K F_code_of) := by
  obtain ⟨_, hI_SHIFT⟩ := T.i_SHIFT
  obtain ⟨_, hI_LOW⟩ := T.i_LOW
  obtain ⟨_, hI_MAX_THINGS⟩ := T.i_MAX_THINGS
  refine def_ok D.F sc_code_of (fun Γ cs R g => ?len) (fun cdv A outer s H E hr Γ cs R g => ?_)
  case len => obtain ⟨x, rfl, _⟩ := g; rfl
  obtain ⟨x, rfl, hx, rfl⟩ := g
  refine ⟨_, (pss_cons (ps_set (i := 1) sc_code_of.nd rfl (by first | exact .inl rfl | exact .inr rfl) pe_int)
      (pss_cons (ps_for PassesOwn.never rfl (pi_enumS (by rfl) T.z_enumerate (pa_cons (pv 0) pa_nil)) (pg_tup rfl (pgs_cons (pg_name (i := 2) sc_code_of.nd rfl (by first | exact .inl rfl | exact .inr rfl)) (pgs_cons (pg_name (i := 3) sc_code_of.nd rfl (by first | exact .inl rfl | exact .inr rfl)) pgs_nil)))
        (pss_one (ps_if (pt_cmpR op_eq (pv 3) pe_str (nomark _)) (pss_one (ps_set (i := 1) sc_code_of.nd rfl (by first | exact .inl rfl | exact .inr rfl) (pe_op op_or (pv 1) (pe_op op_shl pe_int (pv 2))))) (pss_one (ps_if (pt_cmpR op_eq (pv 3) pe_str (nomark _)) (pss_one (ps_set (i := 1) sc_code_of.nd rfl (by first | exact .inl rfl | exact .inr rfl) (pe_op op_or (pv 1) (pe_op op_shl pe_int (pe_op op_add (pv 2) (pe_glob (v := .int 9) rfl hI_SHIFT ⟨_, rfl⟩)))))) pss_nil)))))
      (pss_one (ps_ret (pv 1))))), fun Δ0 D' hf hn => ?_⟩
  refine wp_asg1 ev_int (ltr rfl) ?_
  refine wp_for (IvC Γ x) (src_enumS (ea_1 ev_var ea_nil) (fun i hi => sg_at hi) (ltr rfl) (ltr rfl)) ⟨rfl, none, none, rfl⟩ (fun i Γ' ρ' h => by obtain ⟨_, a, b, rfl⟩ := h; rfl) ?_ ?_
  · rintro i Γ' ρ' F' hi ⟨rfl, a, b, rfl⟩
    refine wp_if (et_test (ev_op1 (ev_var (i := 3)) (ev_strc [43]) o2_eqS)) (fun h1 => ?_) (fun h1 => ?_)
    · have hc : sg x i = 43 := tx1.mp (of_decide_eq_true h1)
      refine wp_asgL (ev_op1 (ev_var (i := 1)) (ev_op1 ev_int (ev_var (i := 2)) (o2_I (C := CPow) ⟨by omega, by omega, by decide⟩)) o2_I0) (ltr rfl) (fun r hr => wp_turn (Iv := IvC Γ' x) ⟨rfl, some ⟨(i : Int)⟩, some ⟨(⟨[sg x i]⟩ : Tx)⟩, ?_⟩ rfl)
      have er : r = ((codeUp x (i + 1) : Nat) : Int) := by
        rw [show r = _ from hr, codeUp, bitAt, if_pos hc, Int.toNat_natCast, Int.one_mul, ← or_nn, Int.natCast_pow]
        rfl
      rw [er]
      rfl
    · have hc : sg x i ≠ 43 := fun z => of_decide_eq_false h1 (tx1.mpr z)
      refine wp_if (et_test (ev_op1 (ev_var (i := 3)) (ev_strc [45]) o2_eqS)) (fun h2 => ?_) (fun h2 => ?_)
      · have hd : sg x i = 45 := tx1.mp (of_decide_eq_true h2)
        refine wp_asgL (ev_op1 (ev_var (i := 1)) (ev_op1 ev_int (ev_op1 (ev_var (i := 2)) ev_int o2_I0) (o2_I (C := CPow) ⟨by omega, by omega, by decide⟩)) o2_I0) (ltr rfl) (fun r hr => wp_turn (Iv := IvC Γ' x) ⟨rfl, some ⟨(i : Int)⟩, some ⟨(⟨[sg x i]⟩ : Tx)⟩, ?_⟩ rfl)
        have er : r = ((codeUp x (i + 1) : Nat) : Int) := by
          rw [show r = _ from hr, codeUp, bitAt, if_neg hc, if_pos hd, Int.one_mul, ← or_nn, Int.natCast_pow]
          congr 2
        rw [er]
        rfl
      · have hd : sg x i ≠ 45 := fun z => of_decide_eq_false h2 (tx1.mpr z)
        refine wp_turn (Iv := IvC Γ' x) ⟨rfl, some ⟨(i : Int)⟩, some ⟨(⟨[sg x i]⟩ : Tx)⟩, ?_⟩ rfl
        have er : codeUp x (i + 1) = codeUp x i := by rw [codeUp, bitAt, if_neg hc, if_neg hd, Nat.or_zero]
        rw [er]
        rfl
  · rintro Γ' ρ' F' ⟨rfl, a, b, rfl⟩
    exact wp_ret hf (ev_var (i := 1))
def F_turned_code : Pm Int := fun _ cs R => ∃ c : Nat, cs = [⟨(c : Int)⟩] ∧ R = Is ((tcode c : Nat) : Int)
theorem sc_turned_code : FnScope ["code"] ["code"] (defScope s_turned_code) := ⟨rfl, rfl, rfl, by decide +kernel, rfl, by decide +kernel, by decide +kernel⟩
theorem ok_turned_code (T : Txt K mg) {f : Addr} {fd : FuncData} (D : Df K mg "turned_code" s_turned_code ["code"] f fd) : FnOk P w K mg base CX0 2 f fd ["code"] (spD K F_turned_code) := by
  obtain ⟨_, hI_SHIFT⟩ := T.i_SHIFT
  obtain ⟨_, hI_LOW⟩ := T.i_LOW
  obtain ⟨_, hI_MAX_THINGS⟩ := T.i_MAX_THINGS
  refine def_ok D.F sc_turned_code (fun Γ cs R g => ?len) (fun cdv A outer s H E hr Γ cs R g => ?_)
  case len => obtain ⟨x, rfl, _⟩ := g; rfl
  obtain ⟨c, rfl, rfl⟩ := g
  refine ⟨_, (pss_one (ps_ret (pe_op op_or (pe_op op_shr (pv 0) (pe_glob (v := .int 9) rfl hI_SHIFT ⟨_, rfl⟩)) (pe_op op_shl (pe_op op_and (pv 0) (pe_glob (v := .int 511) rfl hI_LOW ⟨_, rfl⟩)) (pe_glob (v := .int 9) rfl hI_SHIFT ⟨_, rfl⟩))))), fun Δ0 D' hf hn => wp_ret hf ?_⟩
  refine ev_is (ev_op1 (ev_op1 ev_var ev_int (o2_I (g := fun i j => i / 2 ^ j.toNat) (by decide))) (ev_op1 (ev_op1 ev_var ev_int (o2_I0 (g := Builtin.bitAnd))) ev_int (o2_I (C := CPow) ⟨by decide, by decide, ?_⟩)) (o2_I0 (g := Builtin.bitOr))) ?_
  · rw [show (511 : Int) = ((511 : Nat) : Int) from rfl, and_nn, Int.natAbs_natCast]
    exact Nat.lt_of_le_of_lt Nat.and_le_right (by decide)
  · have e1 : (c : Int) / 2 ^ (9 : Int).toNat = ((c / 2 ^ 9 : Nat) : Int) := by norm_cast
    have e2 : Builtin.bitAnd (c : Int) 511 * 2 ^ (9 : Int).toNat = (((c &&& 511) * 2 ^ 9 : Nat) : Int) := by
      rw [show (511 : Int) = ((511 : Nat) : Int) from rfl, and_nn]
      norm_cast
    rw [e1, e2, or_nn]
    rfl
def F_check_row : Pm Unit := fun _ cs R => ∃ (x : Tx), cs = [⟨x⟩, ⟨(x.s.length : Int)⟩] ∧ Row x ∧ R = Is ()
theorem sc_check_row : FnScope ["row", "many"] ["row", "many"] (defScope s_check_row) := ⟨rfl, rfl, rfl, by decide +kernel, rfl, by decide +kernel, by decide +kernel⟩
theorem ok_check_row (T : Txt K mg) {f : Addr} {fd : FuncData} (D : Df K mg "check_row" s_check_row ["row", "many"] f fd) {f_is_row : Addr} {fd_is_row : FuncData} (D_is_row : Df K mg "is_row" s_is_row ["value", "many"] f_is_row fd_is_row) (G_is_row : FnOk P w K mg base CX0 2 f_is_row fd_is_row ["value", "many"] (spD K F_is_row)) : FnOk P w K mg base CX0 3 f fd ["row", "many"] (spD K F_check_row) := by
  obtain ⟨_, hI_SHIFT⟩ := T.i_SHIFT
  obtain ⟨_, hI_LOW⟩ := T.i_LOW
  obtain ⟨_, hI_MAX_THINGS⟩ := T.i_MAX_THINGS
  refine def_ok D.F sc_check_row (fun Γ cs R g => ?len) (fun cdv A outer s H E hr Γ cs R g => ?_)
  case len => obtain ⟨x, rfl, _⟩ := g; rfl
  obtain ⟨x, rfl, hx, rfl⟩ := g
  refine ⟨_, (pss_one (ps_if (pt_not (pt_val (pe_call G_is_row (hr.mono (by decide)) (by rfl) D_is_row.g D_is_row.kp D_is_row.b .nil pass0 (pa_cons (pv 0) (pa_cons (pv 1) pa_nil))))) (pss_one ps_never) pss_nil)), fun Δ0 D' hf hn => ?_⟩
  refine wp_noL ?_ (et_not (et_B (ev_call1 (ea_1 ev_var (ea_1 (ev_var (i := 1)) ea_nil)) ⟨x, _, rfl, len_le hx, rfl⟩))) (wp_none rfl hn)
  rw [hx.all, decide_eq_true rfl]
  rfl
def F_check_any_row : Pm Unit := fun _ cs R => ∃ (x : Tx), cs = [⟨x⟩] ∧ Row x ∧ R = Is ()
theorem sc_check_any_row : FnScope ["row"] ["row"] (defScope s_check_any_row) := ⟨rfl, rfl, rfl, by decide +kernel, rfl, by decide +kernel, by decide +kernel⟩
theorem ok_check_any_row (T : Txt K mg) {f : Addr} {fd : FuncData} (D : Df K mg "check_any_row" s_check_any_row ["row"] f fd) {f_check_row : Addr} {fd_check_row : FuncData} (D_check_row : Df K mg "check_row" s_check_row ["row", "many"] f_check_row fd_check_row) (G_check_row : FnOk P w K mg base CX0 3 f_check_row fd_check_row ["row", "many"] (spD K F_check_row)) : FnOk P w K mg base CX0 4 f fd ["row"] (spD K F_check_any_row) := by
  obtain ⟨_, hI_SHIFT⟩ := T.i_SHIFT
  obtain ⟨_, hI_LOW⟩ := T.i_LOW
  obtain ⟨_, hI_MAX_THINGS⟩ := T.i_MAX_THINGS
  refine def_ok D.F sc_check_any_row (fun Γ cs R g => ?len) (fun cdv A outer s H E hr Γ cs R g => ?_)
  case len => obtain ⟨x, rfl, _⟩ := g; rfl
  obtain ⟨x, rfl, hx, rfl⟩ := g
  refine ⟨_, (pss_cons (ps_if (PW.pt (pw_or (pt_not (pt_val (pe_callB call_isK (by rfl) T.z_isinstance (by decide +kernel) (pa_cons (pv 0) (pa_cons (pe_bltn (v := .ty "str") (u := .type "str") (by rfl) T.z_str (by decide +kernel) rfl) pa_nil))))) (pw_or1 (pt_cmpR op_gt (pe_callB call_lenK (by rfl) T.z_len (by decide +kernel) (pa_cons (pv 0) pa_nil)) (pe_glob (v := .int 9) rfl hI_MAX_THINGS ⟨_, rfl⟩) (nomark _))))) (pss_one ps_never) pss_nil)
      (pss_one (ps_expr (pe_call G_check_row (hr.mono (by decide)) (by rfl) D_check_row.g D_check_row.kp D_check_row.b .nil pass0 (pa_cons (pv 0) (pa_cons (pe_callB call_lenK (by rfl) T.z_len (by decide +kernel) (pa_cons (pv 0) pa_nil)) pa_nil)))))), fun Δ0 D' hf hn => ?_⟩
  refine wp_no ?_ (et_or (et_not (et_B (ev_isi ev_var ty_tx (kit_ty (r := true) (by decide +kernel))))) fun _ => et_test (ev_op1 (ev_cb ev_var (o1_lenS (len_le hx))) ev_int (o2_B0 (g := fun i j => decide (j < i))))) ?_
  · have := hx.len
    rw [decide_eq_false (by omega)]
    rfl
  · exact wp_dropL (ev_call1 (ea_1 ev_var (ea_1 (ev_cb ev_var (o1_lenS (len_le hx))) ea_nil)) ⟨x, rfl, hx, rfl⟩) (wp_none rfl hn)
def F__check_rows : Pm Unit := fun _ cs R => ∃ (x y : Tx), cs = [⟨x⟩, ⟨y⟩] ∧ Row x ∧ Row y ∧ y.s.length = x.s.length ∧ R = Is ()
theorem sc__check_rows : FnScope ["one", "other"] ["one", "other"] (defScope s__check_rows) := ⟨rfl, rfl, rfl, by decide +kernel, rfl, by decide +kernel, by decide +kernel⟩
theorem ok__check_rows (T : Txt K mg) {f : Addr} {fd : FuncData} (D : Df K mg "_check_rows" s__check_rows ["one", "other"] f fd) {f_check_any_row : Addr} {fd_check_any_row : FuncData} (D_check_any_row : Df K mg "check_any_row" s_check_any_row ["row"] f_check_any_row fd_check_any_row) (G_check_any_row : FnOk P w K mg base CX0 4 f_check_any_row fd_check_any_row ["row"] (spD K F_check_any_row)) {f_check_row : Addr} {fd_check_row : FuncData} (D_check_row : Df K mg "check_row" s_check_row ["row", "many"] f_check_row fd_check_row) (G_check_row : FnOk P w K mg base CX0 3 f_check_row fd_check_row ["row", "many"] (spD K F_check_row)) : FnOk P w K mg base CX0 5 f fd ["one", "other"] (spD K F__check_rows) := by
  obtain ⟨_, hI_SHIFT⟩ := T.i_SHIFT
  obtain ⟨_, hI_LOW⟩ := T.i_LOW
  obtain ⟨_, hI_MAX_THINGS⟩ := T.i_MAX_THINGS
  refine def_ok D.F sc__check_rows (fun Γ cs R g => ?len) (fun cdv A outer s H E hr Γ cs R g => ?_)
  case len => obtain ⟨x, y, rfl, _⟩ := g; rfl
  obtain ⟨x, y, rfl, hx, hy, hl, rfl⟩ := g
  refine ⟨_, (pss_cons (ps_expr (pe_call G_check_any_row (hr.mono (by decide)) (by rfl) D_check_any_row.g D_check_any_row.kp D_check_any_row.b .nil pass0 (pa_cons (pv 0) pa_nil)))
      (pss_one (ps_expr (pe_call G_check_row (hr.mono (by decide)) (by rfl) D_check_row.g D_check_row.kp D_check_row.b .nil pass0 (pa_cons (pv 1) (pa_cons (pe_callB call_lenK (by rfl) T.z_len (by decide +kernel) (pa_cons (pv 0) pa_nil)) pa_nil)))))), fun Δ0 D' hf hn => ?_⟩
  refine wp_drop (ev_call1 (ea_1 ev_var ea_nil) ⟨x, rfl, hx, rfl⟩) ?_
  exact wp_dropL (ev_call1 (ea_1 (ev_var (i := 1)) (ea_1 (ev_cb (ev_var (i := 0)) (o1_lenS (len_le hx))) ea_nil)) ⟨y, by rw [hl], hy, rfl⟩) (wp_none rfl hn)
/-- the row turned at some things -/
theorem range_at {n i x : Nat} (h : (List.range n)[i]? = some x) : x = i ∧ i < n := by
  obtain ⟨h1, h2⟩ := List.getElem?_eq_some_iff.mp h
  rw [List.getElem_range] at h2
  rw [List.length_range] at h1
  exact ⟨h2.symm, h1⟩
/-- the places with p, as a tuple -/
theorem ev_ix {Γ : Own} {ρ : Z.Env} {te : TE} {t : TT} {wi : TI} {g : TG} {js vs : List Nat} {st : Nat → Z.Env → Z.Env} {n : Nat} {p : Nat → Bool} (hn : n ≤ 9) (S : Src K Γ wi g ρ js n st) (hjs : ∀ j ∈ js, j ∈ vs)
    (hs : ∀ i, i < n → EvT K Γ t (st i (wipeE ρ vs)) (Is (p i)) ∧ Ev K Γ te (st i (wipeE ρ vs)) (Is (i : Int))) : Ev K Γ (tLc wi g t te vs) ρ (Is (ix n p)) := by
  have S' : Src K Γ wi g ρ js (List.range n).length st := by rw [List.length_range]; exact S
  exact ev_lcD (t := t) (te := te) (vs := vs) (xs := List.range n) p (fun i => ((i : Nat) : Int)) S' (by rw [List.length_range]; omega) hjs fun i x hx => by
    obtain ⟨rfl, hi⟩ := range_at hx
    exact ⟨(hs x hi).1, fun _ => (hs x hi).2⟩
/-- two rows of one size -/
structure Row2 (a b : Tx) : Prop where
  x : Row a
  y : Row b
  l : b.s.length = a.s.length
theorem tx_ne {a b : Nat} : (!decide ((⟨[a]⟩ : Tx) = ⟨[b]⟩)) = !decide (a = b) := by rw [decide_eq_decide.mpr tx1]
theorem dec_zero {n : Nat} : decide ((n : Int) = 0) = decide (n = 0) := by rw [decide_eq_decide]; omega
def F__is_code_upright : Pm Bool := fun _ cs R => ∃ (a b : Nat), cs = [⟨(a : Int)⟩, ⟨(b : Int)⟩] ∧ R = Is (decide (decide (a &&& b = 0) = decide (a &&& tcode b = 0)))
theorem sc__is_code_upright : FnScope ["one", "other"] ["one", "other"] (defScope s__is_code_upright) := ⟨rfl, rfl, rfl, by decide +kernel, rfl, by decide +kernel, by decide +kernel⟩
theorem ok__is_code_upright (T : Txt K mg) {f : Addr} {fd : FuncData} (D : Df K mg "_is_code_upright" s__is_code_upright ["one", "other"] f fd) {f_turned_code : Addr} {fd_turned_code : FuncData} (D_turned_code : Df K mg "turned_code" s_turned_code ["code"] f_turned_code fd_turned_code) (G_turned_code : FnOk P w K mg base CX0 2 f_turned_code fd_turned_code ["code"] (spD K F_turned_code)) : FnOk P w K mg base CX0 3 f fd ["one", "other"] (spD K F__is_code_upright) := by
  obtain ⟨_, hI_SHIFT⟩ := T.i_SHIFT
  obtain ⟨_, hI_LOW⟩ := T.i_LOW
  obtain ⟨_, hI_MAX_THINGS⟩ := T.i_MAX_THINGS
  refine def_ok D.F sc__is_code_upright (fun Γ cs R g => ?len) (fun cdv A outer s H E hr Γ cs R g => ?_)
  case len => obtain ⟨x, y, rfl, _⟩ := g; rfl
  obtain ⟨a, b, rfl, rfl⟩ := g
  refine ⟨_, (pss_one (ps_ret (pe_cmpR op_eq (pe_cmpR op_eq (pe_op op_and (pv 0) (pv 1)) pe_int (nomark _)) (pe_cmpR op_eq (pe_op op_and (pv 0) (pe_call G_turned_code (hr.mono (by decide)) (by rfl) D_turned_code.g D_turned_code.kp D_turned_code.b .nil pass0 (pa_cons (pv 1) pa_nil))) pe_int (nomark _)) (nomark _)))), fun Δ0 D' hf hn => wp_ret hf ?_⟩
  refine ev_is (ev_op1 (ev_op1 (ev_op1 (ev_var (i := 0)) (ev_var (i := 1)) (o2_I0 (g := Builtin.bitAnd))) ev_int o2_eqI) (ev_op1 (ev_op1 (ev_var (i := 0)) (ev_call1 (ea_1 (ev_var (i := 1)) ea_nil) ⟨b, rfl, rfl⟩) (o2_I0 (g := Builtin.bitAnd))) ev_int o2_eqI) o2_eqB) ?_
  rw [and_nn, and_nn, dec_zero, dec_zero]
def F_is_upright : Pm Bool := fun _ cs R => ∃ (x y : Tx), cs = [⟨x⟩, ⟨y⟩] ∧ Row2 x y ∧ R = Is (upr x y)
theorem sc_is_upright : FnScope ["one", "other"] ["one", "other"] (defScope s_is_upright) := ⟨rfl, rfl, rfl, by decide +kernel, rfl, by decide +kernel, by decide +kernel⟩
theorem ok_is_upright (T : Txt K mg) {f : Addr} {fd : FuncData} (D : Df K mg "is_upright" s_is_upright ["one", "other"] f fd) {f__check_rows : Addr} {fd__check_rows : FuncData} (D__check_rows : Df K mg "_check_rows" s__check_rows ["one", "other"] f__check_rows fd__check_rows) (G__check_rows : FnOk P w K mg base CX0 5 f__check_rows fd__check_rows ["one", "other"] (spD K F__check_rows)) {f__is_code_upright : Addr} {fd__is_code_upright : FuncData} (D__is_code_upright : Df K mg "_is_code_upright" s__is_code_upright ["one", "other"] f__is_code_upright fd__is_code_upright) (G__is_code_upright : FnOk P w K mg base CX0 3 f__is_code_upright fd__is_code_upright ["one", "other"] (spD K F__is_code_upright)) {f_code_of : Addr} {fd_code_of : FuncData} (D_code_of : Df K mg "code_of" s_code_of ["row"] f_code_of fd_code_of) (G_code_of : FnOk P w K mg base CX0 2 f_code_of fd_code_of ["row"] (spD K F_code_of)) : FnOk P w K mg base CX0 6 f fd ["one", "other"] (spD K F_is_upright) := by
  obtain ⟨_, hI_SHIFT⟩ := T.i_SHIFT
  obtain ⟨_, hI_LOW⟩ := T.i_LOW
  obtain ⟨_, hI_MAX_THINGS⟩ := T.i_MAX_THINGS
  refine def_ok D.F sc_is_upright (fun Γ cs R g => ?len) (fun cdv A outer s H E hr Γ cs R g => ?_)
  case len => obtain ⟨x, y, rfl, _⟩ := g; rfl
  obtain ⟨x, y, rfl, hx, rfl⟩ := g
  refine ⟨_, (pss_cons (ps_expr (pe_call G__check_rows (hr.mono (by decide)) (by rfl) D__check_rows.g D__check_rows.kp D__check_rows.b .nil pass0 (pa_cons (pv 0) (pa_cons (pv 1) pa_nil))))
      (pss_one (ps_ret (pe_call G__is_code_upright (hr.mono (by decide)) (by rfl) D__is_code_upright.g D__is_code_upright.kp D__is_code_upright.b .nil pass0 (pa_cons (pe_call G_code_of (hr.mono (by decide)) (by rfl) D_code_of.g D_code_of.kp D_code_of.b .nil pass0 (pa_cons (pv 0) pa_nil)) (pa_cons (pe_call G_code_of (hr.mono (by decide)) (by rfl) D_code_of.g D_code_of.kp D_code_of.b .nil pass0 (pa_cons (pv 1) pa_nil)) pa_nil)))))), fun Δ0 D' hf hn => ?_⟩
  refine wp_drop (ev_call1 (ea_1 (ev_var (i := 0)) (ea_1 (ev_var (i := 1)) ea_nil)) ⟨x, y, rfl, hx.x, hx.y, hx.l, rfl⟩) ?_
  exact wp_ret hf (ev_call1 (ea_1 (ev_call1 (ea_1 (ev_var (i := 0)) ea_nil) ⟨x, rfl, hx.x.len, rfl⟩) (ea_1 (ev_call1 (ea_1 (ev_var (i := 1)) ea_nil) ⟨y, rfl, hx.y.len, rfl⟩) ea_nil)) ⟨codeT x, codeT y, rfl, rfl⟩)
def hasI (x : Tx) : List Int := ix x.s.length fun i => !decide (sg x i = 48)
def F_things_of : Pm (Tup Int) := fun _ cs R => ∃ (x : Tx), cs = [⟨x⟩] ∧ Row x ∧ R = Is ⟨hasI x⟩
theorem sc_things_of : FnScope ["row", "thing", "sign"] ["row"] (defScope s_things_of) := ⟨rfl, rfl, rfl, by decide +kernel, rfl, by decide +kernel, by decide +kernel⟩
theorem ok_things_of (T : Txt K mg) {f : Addr} {fd : FuncData} (D : Df K mg "things_of" s_things_of ["row"] f fd) {f_check_any_row : Addr} {fd_check_any_row : FuncData} (D_check_any_row : Df K mg "check_any_row" s_check_any_row ["row"] f_check_any_row fd_check_any_row) (G_check_any_row : FnOk P w K mg base CX0 4 f_check_any_row fd_check_any_row ["row"] (spD K F_check_any_row)) : FnOk P w K mg base CX0 5 f fd ["row"] (spD K F_things_of) := by
  obtain ⟨_, hI_SHIFT⟩ := T.i_SHIFT
  obtain ⟨_, hI_LOW⟩ := T.i_LOW
  obtain ⟨_, hI_MAX_THINGS⟩ := T.i_MAX_THINGS
  refine def_ok D.F sc_things_of (fun Γ cs R g => ?len) (fun cdv A outer s H E hr Γ cs R g => ?_)
  case len => obtain ⟨x, rfl, _⟩ := g; rfl
  obtain ⟨x, rfl, hx, rfl⟩ := g
  refine ⟨_, (pss_cons (ps_expr (pe_call G_check_any_row (hr.mono (by decide)) (by rfl) D_check_any_row.g D_check_any_row.kp D_check_any_row.b .nil pass0 (pa_cons (pv 0) pa_nil)))
      (pss_one (ps_ret (pe_callTy call_tupK (by rfl) T.z_tuple (by decide +kernel) (pa_cons (pe_lc (own := [("thing", 1), ("sign", 2)]) (g := (gTup K 2 (gCons (gName 1) (gCons (gName 2) gNil)))) (tt := _) rfl sc_things_of.nd (pi_enumS (by rfl) T.z_enumerate (pa_cons (pv 0) pa_nil)) (blkOk_by (N := ["row", "thing", "sign"]) (sc := defScope s_things_of) (by decide +kernel)) (fun _ _ _ _ _ => (pg_tup rfl (pgs_cons (pg_name (i := 1) sc_things_of.nd rfl (by first | exact .inl rfl | exact .inr rfl)) (pgs_cons (pg_name (i := 2) sc_things_of.nd rfl (by first | exact .inl rfl | exact .inr rfl)) pgs_nil)))) (fun _ _ _ _ _ => (pts_one (pt_cmpR op_ne (pv 2) pe_str (nomark _)))) (fun _ _ _ _ _ => (pv 1))) pa_nil))))), fun Δ0 D' hf hn => ?_⟩
  refine wp_drop (ev_call1 (ea_1 (ev_var (i := 0)) ea_nil) ⟨x, rfl, hx, rfl⟩) ?_
  exact wp_ret hf (ev_cb (ev_ix hx.len (src_enumS (ea_1 (ev_var (i := 0)) ea_nil) (fun i hi => sg_at hi) (ltr rfl) (ltr rfl)) (by decide) fun i hi => ⟨et_is (et_test (ev_op1 (ev_var (i := 2)) (ev_strc [48]) o2_neS)) tx_ne, ev_var (i := 1)⟩) o1_tuple)
theorem fmod_nn {x t : Int} (hx : 0 ≤ x) (ht : 0 < t) : 0 ≤ x.fmod t ∧ x.fmod t < t := by
  rw [Int.fmod_eq_emod_of_nonneg x (Int.le_of_lt ht)]
  exact ⟨Int.emod_nonneg x (by omega), Int.emod_lt_of_pos x ht⟩
theorem fdiv_nn {x t : Int} (hx : 0 ≤ x) (ht : 0 < t) : 0 ≤ x.fdiv t := by
  rw [Int.fdiv_eq_ediv_of_nonneg x (Int.le_of_lt ht)]
  exact Int.ediv_nonneg hx (Int.le_of_lt ht)
def F__law_roll : Pm Int := fun Γ cs R => ∃ (p : Addr) (t : Int), cs = [⟨(⟨p⟩ : Z.Loc)⟩, ⟨t⟩] ∧ (p, DiceI) ∈ Γ ∧ 1 ≤ t ∧ t ≤ 1000000 ∧ R = fun r => 0 ≤ r ∧ r < t
theorem sc__law_roll : FnScope ["_law_dice_here", "_law_total", "_law_found", "_law_one", "_law_two"] ["_law_dice_here", "_law_total"] (defScope s__law_roll) := ⟨rfl, rfl, rfl, by decide +kernel, rfl, by decide +kernel, by decide +kernel⟩
theorem ok__law_roll (T : Txt K mg) {f : Addr} {fd : FuncData} (D : Df K mg "_law_roll" s__law_roll ["_law_dice_here", "_law_total"] f fd) : FnOk P w K mg base CX0 2 f fd ["_law_dice_here", "_law_total"] (spD K F__law_roll) := by
  obtain ⟨_, hI_SHIFT⟩ := T.i_SHIFT
  obtain ⟨_, hI_LOW⟩ := T.i_LOW
  obtain ⟨_, hI_MAX_THINGS⟩ := T.i_MAX_THINGS
  refine def_ok D.F sc__law_roll (fun Γ cs R g => ?len) (fun cdv A outer s H E hr Γ cs R g => ?_)
  case len => obtain ⟨x, n, rfl, _⟩ := g; rfl
  obtain ⟨p, t, rfl, hp, h1, h2, rfl⟩ := g
  refine ⟨_, (pss_cons (ps_if (pt_cmpR op_gt (pe_ix ix_listK (pv 0) pe_int (fun _ _ => rfl)) pe_int (nomark _)) (pss_cons (ps_set (i := 2) sc__law_roll.nd rfl (by first | exact .inl rfl | exact .inr rfl) (pe_op op_modN (pe_callTy call_int1 (by rfl) T.z_int (by decide +kernel) (pa_cons (pe_ix ix_listK (pv 0) pe_int (fun _ _ => rfl)) pa_nil)) (pv 1)))
        (pss_cons (ps_asg (pe_op op_fdivN (pe_ix ix_listK (pv 0) pe_int (fun _ _ => rfl)) (pv 1)) (pg_sub (pv 0) pe_int set_list))
        (pss_one (ps_ret (pv 2))))) pss_nil)
      (pss_cons (ps_asg (pe_op op_add (pe_ix ix_listK (pv 0) pe_int (fun _ _ => rfl)) pe_int) (pg_sub (pv 0) pe_int set_list))
      (pss_cons (ps_set (i := 3) sc__law_roll.nd rfl (by first | exact .inl rfl | exact .inr rfl) (pe_op op_modN (pe_callTy call_int1 (by rfl) T.z_int (by decide +kernel) (pa_cons (pe_op op_add (pe_ix ix_listK (pv 0) pe_int (fun _ _ => rfl)) (pe_op op_mul pe_int (pe_ix ix_listK (pv 0) pe_int (fun _ _ => rfl)))) pa_nil)) pe_int))
      (pss_cons (ps_set (i := 4) sc__law_roll.nd rfl (by first | exact .inl rfl | exact .inr rfl) (pe_op op_add (pe_op op_mul (pe_op op_modN (pe_callTy call_int1 (by rfl) T.z_int (by decide +kernel) (pa_cons (pe_op op_add (pe_op op_mul (pv 3) (pv 3)) (pe_op op_mul pe_int (pe_ix ix_listK (pv 0) pe_int (fun _ _ => rfl)))) pa_nil)) pe_int) pe_int) (pv 3)))
      (pss_one (ps_ret (pe_op op_modN (pe_callTy call_int1 (by rfl) T.z_int (by decide +kernel) (pa_cons (pe_op op_fdivN (pv 4) pe_int) pa_nil)) (pv 1)))))))), fun Δ0 D' hf hn => ?_⟩
  have d0 : ∀ {ρ : Z.Env}, ρ[0]? = some (some ⟨(⟨p⟩ : Z.Loc)⟩) → Ev K Γ (tOp (rIxL K) (tVar 0) (tC (.int 0))) ρ (fun n : Int => 0 ≤ n) := fun h => ev_dice (i := 0) hp (by decide) (ev_var h)
  have d1 : ∀ {ρ : Z.Env}, ρ[0]? = some (some ⟨(⟨p⟩ : Z.Loc)⟩) → Ev K Γ (tOp (rIxL K) (tVar 0) (tC (.int 1))) ρ (fun n : Int => 0 ≤ n) := fun h => ev_dice (i := 1) hp (by decide) (ev_var h)
  have d2 : ∀ {ρ : Z.Env}, ρ[0]? = some (some ⟨(⟨p⟩ : Z.Loc)⟩) → Ev K Γ (tOp (rIxL K) (tVar 0) (tC (.int 2))) ρ (fun n : Int => 0 ≤ n) := fun h => ev_dice (i := 2) hp (by decide) (ev_var h)
  have md : ∀ {ρ : Z.Env} {ta tb : TE} {m : Int}, 0 < m → Ev K Γ ta ρ (fun n : Int => 0 ≤ n) → Ev K Γ tb ρ (Is m) → Ev K Γ (tOp (rI (fun _ j => j ≠ 0) fun i j => .int (i.fmod j)) ta tb) ρ (fun n : Int => 0 ≤ n ∧ n < m) := fun hm ha hb =>
    ev_opP ha hb fun x y hx hy => ⟨x.fmod y, o2_I (g := Int.fmod) (by rw [show y = _ from hy]; omega), by rw [show y = _ from hy]; exact fmod_nn hx hm⟩
  have it : ∀ {ρ : Z.Env} {ta : TE}, Ev K Γ ta ρ (fun n : Int => 0 ≤ n) → Ev K Γ (tCB (fun xs H Q => (∃ i, xs = [.int i] ∧ Q (.int i) H) ∨ ∃ k, xs = [.bl k] ∧ Q (.int (if k then 1 else 0)) H) (tCons ta tNil)) ρ (fun n : Int => 0 ≤ n) := fun h => ev_cbP h fun x hx => ⟨x, o1_int, hx⟩
  refine wp_ifP (D := { D' with nx := _ }) (PB := fun _ => True) (et_test (ev_opP (d0 rfl) ev_int fun x y _ _ => ⟨decide (y < x), o2_B0 (g := fun i j => decide (j < i)), trivial⟩)) (fun _ => ?_) (fun _ => ?_)
  · refine wp_asg (md (m := t) (by omega) (it (d0 rfl)) (ev_var (i := 1))) (ltr rfl) fun a ha => ?_
    refine wp_dice (i := 0) hp (by decide) (ev_opP (d0 rfl) (ev_var (i := 1) (a := t)) fun x y hx hy => ⟨x.fdiv y, o2_I (C := CDivN) (g := Int.fdiv) (by rw [show y = t from hy]; exact ⟨by omega, by omega⟩), by rw [show y = t from hy]; exact fdiv_nn hx (by omega)⟩) (ev_var (i := 0)) ?_
    exact wp_ret hf ((ev_var (i := 2)).imp fun r hr => by rw [show r = a from hr]; exact ha)
  · refine wp_dice (i := 2) hp (by decide) (ev_opP (d2 rfl) ev_int fun x y hx hy => ⟨x + y, o2_I0 (g := fun i j => i + j), by rw [show y = _ from hy]; omega⟩) (ev_var (i := 0)) ?_
    refine wp_asg (md (m := 2305843009213693487) (by decide) (it (ev_opP (d1 rfl) (ev_opP (Pc := fun n : Int => 0 ≤ n) ev_int (d2 rfl) fun x y hx hy => ⟨x * y, o2_I (C := CMul) (g := fun i j => i * j) (.inl (by rw [show x = 104395303 from hx]; decide)), by rw [show x = 104395303 from hx]; exact Int.mul_nonneg (by decide) hy⟩) fun x y hx hy => ⟨x + y, o2_I0 (g := fun i j => i + j), Int.add_nonneg hx hy⟩)) ev_int) (ltr rfl) fun one h1' => ?_
    refine wp_asg (P := fun n : Int => 0 ≤ n) (ev_opP (ev_opP (Pc := fun n : Int => 0 ≤ n) (md (m := 2305843009213693223) (by decide) (it (ev_opP (Pc := fun n : Int => 0 ≤ n) (ev_opP (Pc := fun n : Int => 0 ≤ n) (ev_var (i := 3) (a := one)) (ev_var (i := 3) (a := one)) fun x y hx hy => ⟨x * y, o2_I (C := CMul) (g := fun i j => i * j) (.inl (by rw [show x = one from hx]; omega)), by rw [show x = one from hx, show y = one from hy]; exact Int.mul_nonneg h1'.1 h1'.1⟩) (ev_opP (Pc := fun n : Int => 0 ≤ n) ev_int (d2 rfl) fun x y hx hy => ⟨x * y, o2_I (C := CMul) (g := fun i j => i * j) (.inl (by rw [show x = 113 from hx]; decide)), by rw [show x = 113 from hx]; exact Int.mul_nonneg (by decide) hy⟩) fun x y hx hy => ⟨x + y, o2_I0 (g := fun i j => i + j), Int.add_nonneg hx hy⟩)) ev_int) ev_int fun x y hx hy => ⟨x * y, o2_I (C := CMul) (g := fun i j => i * j) (.inl (by omega)), by rw [show y = 3497861 from hy]; exact Int.mul_nonneg hx.1 (by decide)⟩) (ev_var (i := 3) (a := one)) fun x y hx hy => ⟨x + y, o2_I0 (g := fun i j => i + j), by rw [show y = one from hy]; exact Int.add_nonneg hx h1'.1⟩) (ltr rfl) fun two h2' => ?_
    exact wp_ret hf (md (m := t) (by omega) (it (ev_opP (ev_var (i := 4) (a := two)) ev_int fun x y hx hy => ⟨x.fdiv y, o2_I (C := CDivN) (g := Int.fdiv) (by rw [show y = 65536 from hy]; exact ⟨by decide, by decide⟩), by rw [show x = two from hx, show y = 65536 from hy]; exact fdiv_nn h2' (by decide)⟩)) (ev_var (i := 1)))
def F__law_pick : Pm Tx := fun Γ cs R => ∃ (p : Addr) (x : Tx), cs = [⟨(⟨p⟩ : Z.Loc)⟩, ⟨x⟩] ∧ (p, DiceI) ∈ Γ ∧ 1 ≤ x.s.length ∧ x.s.length ≤ 100000 ∧ R = fun y => ∃ i, i < x.s.length ∧ y = ⟨[sg x i]⟩
theorem sc__law_pick : FnScope ["_law_dice_here", "_law_items"] ["_law_dice_here", "_law_items"] (defScope s__law_pick) := ⟨rfl, rfl, rfl, by decide +kernel, rfl, by decide +kernel, by decide +kernel⟩
theorem ok__law_pick (T : Txt K mg) {f : Addr} {fd : FuncData} (D : Df K mg "_law_pick" s__law_pick ["_law_dice_here", "_law_items"] f fd) {f__law_roll : Addr} {fd__law_roll : FuncData} (D__law_roll : Df K mg "_law_roll" s__law_roll ["_law_dice_here", "_law_total"] f__law_roll fd__law_roll) (G__law_roll : FnOk P w K mg base CX0 2 f__law_roll fd__law_roll ["_law_dice_here", "_law_total"] (spD K F__law_roll)) : FnOk P w K mg base CX0 3 f fd ["_law_dice_here", "_law_items"] (spD K F__law_pick) := by
  obtain ⟨_, hI_SHIFT⟩ := T.i_SHIFT
  obtain ⟨_, hI_LOW⟩ := T.i_LOW
  obtain ⟨_, hI_MAX_THINGS⟩ := T.i_MAX_THINGS
  refine def_ok D.F sc__law_pick (fun Γ cs R g => ?len) (fun cdv A outer s H E hr Γ cs R g => ?_)
  case len => obtain ⟨p, x, rfl, _⟩ := g; rfl
  obtain ⟨p, x, rfl, hp, h1, h2, rfl⟩ := g
  refine ⟨_, (pss_one (ps_ret (pe_ix ix_str (pv 1) (pe_call G__law_roll (hr.mono (by decide)) (by rfl) D__law_roll.g D__law_roll.kp D__law_roll.b .nil pass0 (pa_cons (pv 0) (pa_cons (pe_callB call_lenK (by rfl) T.z_len (by decide +kernel) (pa_cons (pv 1) pa_nil)) pa_nil))) (fun _ _ => rfl)))), fun Δ0 D' hf hn => wp_ret hf ?_⟩
  refine ev_opP (ev_var (i := 1) (a := x)) (ev_call1 (ea_1 (ev_var (i := 0)) (ea_1 (ev_cb (ev_var (i := 1)) (o1_lenS h2)) ea_nil)) ⟨p, _, rfl, hp, by omega, by omega, rfl⟩) fun a r ha hr => ⟨⟨[sg x r.toNat]⟩, ?_, r.toNat, by omega, rfl⟩
  rw [show a = x from ha]
  have e : r = ((r.toNat : Nat) : Int) := (Int.toNat_of_nonneg hr.1).symm
  rw [e, Int.toNat_natCast]
  exact o2_ixS h2 (sg_at (by omega))
theorem flat_signs : ∀ {xs : List Tx}, (∀ y ∈ xs, ∃ c, isSign c = true ∧ y = (⟨[c]⟩ : Tx)) → ((xs.map (·.s)).flatten).length = xs.length ∧ ((xs.map (·.s)).flatten).all isSign = true
  | [], _ => ⟨rfl, rfl⟩
  | x :: xs, h => by
    obtain ⟨c, hc, rfl⟩ := h x List.mem_cons_self
    obtain ⟨h1, h2⟩ := flat_signs fun y hy => h y (List.mem_cons_of_mem _ hy)
    constructor
    · simp only [List.map_cons, List.flatten_cons, List.length_append, List.length_cons, List.length_nil, h1]
      omega
    · simp only [List.map_cons, List.flatten_cons, List.all_append, h2, List.all_cons, hc]
      rfl
abbrev DR (n : Nat) : Tx → Prop := fun x => Row x ∧ x.s.length = n
def F__law_drawn_row : Pm Tx := fun Γ cs R => ∃ (p : Addr) (n : Nat), cs = [⟨(⟨p⟩ : Z.Loc)⟩, ⟨(n : Int)⟩] ∧ (p, DiceI) ∈ Γ ∧ n ≤ 9 ∧ R = DR n
theorem sgi3 {i : Nat} (hi : i < 3) : isSign (sg (⟨[43, 45, 48]⟩ : Tx) i) = true := by
  match i, hi with
  | 0, _ => rfl
  | 1, _ => rfl
  | 2, _ => rfl
theorem sc__law_drawn_row : FnScope ["_law_dice_here", "_law_size", "_law_at"] ["_law_dice_here", "_law_size"] (defScope s__law_drawn_row) := ⟨rfl, rfl, rfl, by decide +kernel, rfl, by decide +kernel, by decide +kernel⟩
theorem ok__law_drawn_row (T : Txt K mg) {f : Addr} {fd : FuncData} (D : Df K mg "_law_drawn_row" s__law_drawn_row ["_law_dice_here", "_law_size"] f fd) {f__law_pick : Addr} {fd__law_pick : FuncData} (D__law_pick : Df K mg "_law_pick" s__law_pick ["_law_dice_here", "_law_items"] f__law_pick fd__law_pick) (G__law_pick : FnOk P w K mg base CX0 3 f__law_pick fd__law_pick ["_law_dice_here", "_law_items"] (spD K F__law_pick)) : FnOk P w K mg base CX0 4 f fd ["_law_dice_here", "_law_size"] (spD K F__law_drawn_row) := by
  obtain ⟨_, hI_SHIFT⟩ := T.i_SHIFT
  obtain ⟨_, hI_LOW⟩ := T.i_LOW
  obtain ⟨_, hI_MAX_THINGS⟩ := T.i_MAX_THINGS
  refine def_ok D.F sc__law_drawn_row (fun Γ cs R g => ?len) (fun cdv A outer s H E hr Γ cs R g => ?_)
  case len => obtain ⟨x, n, rfl, _⟩ := g; rfl
  obtain ⟨p, n, rfl, hp, hn9, rfl⟩ := g
  refine ⟨_, (pss_one (ps_ret (pe_joinK pe_str (pe_lc (own := [("_law_at", 2)]) (g := (gName 2)) (tt := tYes) rfl sc__law_drawn_row.nd (pi_range1 (by rfl) T.z_range (pa_cons (pv 1) pa_nil)) (blkOk_by (N := ["_law_dice_here", "_law_size", "_law_at"]) (sc := defScope s__law_drawn_row) (by decide +kernel)) (fun _ _ _ _ _ => (pg_name (i := 2) sc__law_drawn_row.nd rfl (by first | exact .inl rfl | exact .inr rfl))) (fun _ _ _ _ _ => pts_nil) (fun _ _ _ _ _ => (pe_call G__law_pick (hr.mono (by decide)) (by rfl) D__law_pick.g D__law_pick.kp D__law_pick.b .nil pass0 (pa_cons (pv 0) (pa_cons pe_str pa_nil)))))))), fun Δ0 D' hf hn => wp_ret hf ?_⟩
  refine (ev_joinP rfl (ev_lc (fun i (acc : List Tx) => acc.length = i ∧ ∀ y ∈ acc, ∃ c, isSign c = true ∧ y = (⟨[c]⟩ : Tx)) (src_rng1 (n := n) (ea_1 (ev_var (i := 1)) ea_nil) (by omega) (ltr rfl)) (by omega) (by decide) ⟨rfl, fun y hy => by cases hy⟩ fun i acc hi ⟨h1, h2⟩ => ⟨_, et_yes, fun h => (by cases h), fun _ => ⟨_, ev_call1 (ea_1 (ev_var (i := 0)) (ea_1 (ev_strc [43, 45, 48]) ea_nil)) ⟨p, ⟨[43, 45, 48]⟩, rfl, hp, by decide, by decide, rfl⟩, fun b hb => ?_⟩⟩) fun xs h => ?_).imp fun x h => ?_
  · obtain ⟨j, hj, rfl⟩ := hb
    refine ⟨by rw [List.length_append, h1]; rfl, fun y hy => ?_⟩
    rcases List.mem_append.mp hy with hy | hy
    · exact h2 y hy
    · rw [List.mem_singleton.mp hy]
      exact ⟨_, sgi3 hj, rfl⟩
  · rw [(flat_signs h.2).1]
    omega
  · obtain ⟨xs, ⟨h1, h2⟩, rfl⟩ := h
    obtain ⟨q1, q2⟩ := flat_signs h2
    exact ⟨⟨q2, by show _ ≤ 9; rw [q1]; omega⟩, by show _ = n; rw [q1]; exact h1⟩
end
end K01

set_option Elab.async false
set_option linter.all false
set_option maxRecDepth 100000
set_option maxHeartbeats 1000000
namespace K01
open PySem PySem.Spec PyProof.Rows L2 Z K00
/-- agreeing, common at a sign -/
def ag (c d : Nat) : Bool := (!decide (c = 48)) && ((!decide (d = 48)) && decide (c = d))
def cm (c d : Nat) : Bool := (!decide (c = 48)) && (!decide (d = 48))
theorem tb_code (x : Tx) : ∀ (n j : Nat), n ≤ 9 → (codeUp x n).testBit j = ((decide (j < n) && decide (sg x j = 43)) || (decide (9 ≤ j) && (decide (j - 9 < n) && decide (sg x (j - 9) = 45))))
  | 0, j, _ => by simp [codeUp]
  | n + 1, j, h => by
    rw [codeUp, Nat.testBit_or, tb_code x n j (by omega), bitAt]
    by_cases h1 : sg x n = 43
    · rw [if_pos h1, Nat.testBit_two_pow]
      by_cases e : n = j
      · subst e
        simp [h1]
      · have e1 : decide (j < n + 1) = decide (j < n) := decide_eq_decide.mpr ⟨fun _ => by omega, fun _ => by omega⟩
        rw [e1, decide_eq_false e, Bool.or_false]
        by_cases e2 : j - 9 = n
        · have e3 : ¬ (sg x (j - 9) = 45) := by rw [e2, h1]; decide
          rw [decide_eq_false e3]
          simp
        · have e3 : decide (j - 9 < n + 1) = decide (j - 9 < n) := decide_eq_decide.mpr ⟨fun _ => by omega, fun _ => by omega⟩
          rw [e3]
    · rw [if_neg h1]
      by_cases h2 : sg x n = 45
      · rw [if_pos h2, Nat.testBit_two_pow]
        have e0 : (decide (j < n + 1) && decide (sg x j = 43)) = (decide (j < n) && decide (sg x j = 43)) := by
          by_cases e : j = n
          · subst e
            simp [h1]
          · have e1 : decide (j < n + 1) = decide (j < n) := decide_eq_decide.mpr ⟨fun _ => by omega, fun _ => by omega⟩
            rw [e1]
        rw [e0]
        by_cases e : n + 9 = j
        · subst e
          simp [h2]
        · rw [decide_eq_false e, Bool.or_false]
          by_cases e9 : 9 ≤ j
          · have e1 : decide (j - 9 < n + 1) = decide (j - 9 < n) := decide_eq_decide.mpr ⟨fun _ => by omega, fun _ => by omega⟩
            rw [e1]
          · rw [decide_eq_false e9]
            simp
      · rw [if_neg h2, Nat.zero_testBit, Bool.or_false]
        have e0 : (decide (j < n + 1) && decide (sg x j = 43)) = (decide (j < n) && decide (sg x j = 43)) := by
          by_cases e : j = n
          · subst e
            simp [h1]
          · have e1 : decide (j < n + 1) = decide (j < n) := decide_eq_decide.mpr ⟨fun _ => by omega, fun _ => by omega⟩
            rw [e1]
        have e5 : (decide (j - 9 < n + 1) && decide (sg x (j - 9) = 45)) = (decide (j - 9 < n) && decide (sg x (j - 9) = 45)) := by
          by_cases e : j - 9 = n
          · rw [e]
            simp [h2]
          · have e1 : decide (j - 9 < n + 1) = decide (j - 9 < n) := decide_eq_decide.mpr ⟨fun _ => by omega, fun _ => by omega⟩
            rw [e1]
        rw [e0, e5]
theorem tb_t (c j : Nat) : (tcode c).testBit j = (c.testBit (j + 9) || (decide (9 ≤ j) && (decide (j - 9 < 9) && c.testBit (j - 9)))) := by
  have e511 : (511 : Nat) = 2 ^ 9 - 1 := rfl
  rw [tcode, Nat.testBit_or, Nat.testBit_div_two_pow, Nat.testBit_mul_two_pow, e511, Nat.testBit_and, Nat.testBit_two_pow_sub_one, Nat.add_comm, Bool.and_comm (c.testBit (j - 9))]
theorem and_zero (a b : Nat) : a &&& b = 0 ↔ ∀ j, ¬ (a.testBit j = true ∧ b.testBit j = true) := by
  constructor
  · intro h j ⟨h1, h2⟩
    have q := congrArg (fun t => Nat.testBit t j) h
    simp only [Nat.testBit_and, h1, h2, Nat.zero_testBit] at q
    cases q
  · intro h
    apply Nat.eq_of_testBit_eq
    intro j
    rw [Nat.testBit_and, Nat.zero_testBit]
    have := h j
    revert this
    cases a.testBit j <;> cases b.testBit j <;> simp
theorem up_ag {x y : Tx} (h : Row2 x y) : codeT x &&& codeT y = 0 ↔ ∀ i, i < x.s.length → ag (sg x i) (sg y i) = false := by
  have h9 := h.x.len
  rw [and_zero]
  unfold codeT
  rw [h.l]
  constructor
  · intro q i hi
    have sx := h.x.sg hi
    have sy := h.y.sg (i := i) (by rw [h.l]; exact hi)
    have q1 := q i
    have q2 := q (i + 9)
    rw [tb_code x _ _ h9, tb_code y _ _ h9] at q1 q2
    unfold isSign at sx sy
    simp only [Bool.or_eq_true, beq_iff_eq] at sx sy
    unfold ag
    rcases sx with (sx | sx) | sx <;> rcases sy with (sy | sy) | sy <;> rw [sx, sy] <;> first | rfl | skip
    · exact absurd ⟨by simp [sx, hi], by simp [sy, hi]⟩ q1
    · exact absurd ⟨by simp [sx, hi], by simp [sy, hi]⟩ q2
  · intro q j ⟨h1, h2⟩
    rw [tb_code x _ _ h9] at h1
    rw [tb_code y _ _ h9] at h2
    simp only [Bool.or_eq_true, Bool.and_eq_true, decide_eq_true_eq] at h1 h2
    rcases h1 with h1 | h1 <;> rcases h2 with h2 | h2
    · have := q j h1.1
      rw [h1.2, h2.2] at this
      cases this
    · omega
    · omega
    · have := q (j - 9) h1.2.1
      rw [h1.2.2, h2.2.2] at this
      cases this
theorem up_ap {x y : Tx} (h : Row2 x y) : codeT x &&& tcode (codeT y) = 0 ↔ ∀ i, i < x.s.length → ap (sg x i) (sg y i) = false := by
  have h9 := h.x.len
  rw [and_zero]
  unfold codeT
  rw [h.l]
  constructor
  · intro q i hi
    have sx := h.x.sg hi
    have sy := h.y.sg (i := i) (by rw [h.l]; exact hi)
    have q1 := q i
    have q2 := q (i + 9)
    rw [tb_t, tb_code x _ _ h9, tb_code y _ _ h9, tb_code y _ _ h9] at q1 q2
    unfold isSign at sx sy
    simp only [Bool.or_eq_true, beq_iff_eq] at sx sy
    unfold ap
    rcases sx with (sx | sx) | sx <;> rcases sy with (sy | sy) | sy <;> rw [sx, sy] <;> first | rfl | skip
    · exact absurd ⟨by simp [sx, hi], by simp [sy, hi]⟩ q1
    · exact absurd ⟨by simp [sx, hi], by simp [sy, hi]; omega⟩ q2
  · intro q j ⟨h1, h2⟩
    rw [tb_code x _ _ h9] at h1
    rw [tb_t, tb_code y _ _ h9, tb_code y _ _ h9] at h2
    simp only [Bool.or_eq_true, Bool.and_eq_true, decide_eq_true_eq, Nat.add_sub_cancel] at h1 h2
    rcases h1 with h1 | h1
    · have := q j h1.1
      rcases h2 with (h2 | h2) | h2
      · omega
      · rw [h1.2, h2.2.2] at this
        cases this
      · omega
    · have := q (j - 9) h1.2.1
      rcases h2 with (h2 | h2) | h2
      · omega
      · omega
      · rcases h2.2.2 with h3 | h3
        · rw [h1.2.2, h3.2] at this
          cases this
        · omega
end K01

set_option Elab.async false
set_option linter.all false
set_option maxRecDepth 100000
set_option maxHeartbeats 1000000
namespace K01
open PySem PySem.Spec PyProof.Rows L2 Z K00
section
variable {P : Program} {w : World} {K : PySem.W.Frag} {mg : Str → Option Value} {base : Heap}
theorem rows_le {n : Nat} (h : n ≤ 9) : (rowsOf n).length ≤ 19683 := by
  rw [rows_len]
  exact Nat.pow_le_pow_right (n := 3) (by decide) h
abbrev IvE (n : Nat) : Nat → Own → Z.Env → Prop := fun i Γ' ρ' => ∃ a b c d, ρ' = [some ⟨(n : Int)⟩, some ⟨(⟨rowsOf i⟩ : NL Tx)⟩, a, b, c, d]
abbrev IvE2 (Γ : Own) (p : Addr) (n i : Nat) (x : Option Cell) : Nat → Own → Z.Env → Prop := fun k Γ' ρ' => Γ' = OwnL p (((rowsOf i).take k).flatMap ext) :: Γ ∧ ∃ c d, ρ' = [some ⟨(n : Int)⟩, some ⟨(⟨rowsOf i⟩ : NL Tx)⟩, x, some ⟨(⟨p⟩ : Z.Loc)⟩, c, d]
def F__law_every_row : Own → List Cell → (NL Tx → Prop) → Prop := fun _ cs R => ∃ n : Nat, cs = [⟨(n : Int)⟩] ∧ n ≤ 9 ∧ R = Is ⟨rowsOf n⟩
theorem sc__law_every_row : FnScope ["_law_size", "_law_found", "_law_at", "_law_longer", "_law_row", "_law_sign"] ["_law_size"] (defScope s__law_every_row) := ⟨rfl, rfl, rfl, by decide +kernel, rfl, by decide +kernel, by decide +kernel⟩
theorem ok__law_every_row (T : Txt K mg) {f : Addr} {fd : FuncData} (D : Df K mg "_law_every_row" s__law_every_row ["_law_size"] f fd) : FnOk P w K mg base CX0 2 f fd ["_law_size"] (spD K F__law_every_row) := by
  obtain ⟨_, hI_SHIFT⟩ := T.i_SHIFT
  obtain ⟨_, hI_LOW⟩ := T.i_LOW
  obtain ⟨_, hI_MAX_THINGS⟩ := T.i_MAX_THINGS
  refine def_ok D.F sc__law_every_row (fun Γ cs R g => ?len) (fun cdv A outer s H E hr Γ cs R g => ?_)
  case len => obtain ⟨n, rfl, _⟩ := g; rfl
  obtain ⟨n, rfl, hn9, rfl⟩ := g
  refine ⟨_, (pss_cons (ps_set (i := 1) sc__law_every_row.nd rfl (by first | exact .inl rfl | exact .inr rfl) (pe_lst (pa_cons pe_str pa_nil)))
      (pss_cons (ps_for PassesOwn.never rfl (pi_range1 (by rfl) T.z_range (pa_cons (pv 0) pa_nil)) (pg_name (i := 2) sc__law_every_row.nd rfl (by first | exact .inl rfl | exact .inr rfl))
        (pss_cons (ps_set (i := 3) sc__law_every_row.nd rfl (by first | exact .inl rfl | exact .inr rfl) (pe_lst pa_nil))
        (pss_cons (ps_for PassesOwn.never rfl (pi_listK (pv 1)) (pg_name (i := 4) sc__law_every_row.nd rfl (by first | exact .inl rfl | exact .inr rfl))
          (pss_one (ps_expr (pe_bm PySem.F.plainAttrs_list PySem.F.slot_list_extend PySem.F.type_list_extend mt_extend (pv 3) (pa_cons (pe_lc (own := [("_law_sign", 5)]) (g := (gName 5)) (tt := tYes) rfl sc__law_every_row.nd (pi_str pe_str) (blkOk_by (N := ["_law_size", "_law_found", "_law_at", "_law_longer", "_law_row", "_law_sign"]) (sc := defScope s__law_every_row) (by decide +kernel)) (fun _ _ _ _ _ => (pg_name (i := 5) sc__law_every_row.nd rfl (by first | exact .inl rfl | exact .inr rfl))) (fun _ _ _ _ _ => pts_nil) (fun _ _ _ _ _ => (pe_op op_add_str (pv 4) (pv 5)))) pa_nil)))))
        (pss_one (ps_set (i := 1) sc__law_every_row.nd rfl (by first | exact .inl rfl | exact .inr rfl) (pe_callTy call_lstK (by rfl) T.z_list (by decide +kernel) (pa_cons (pv 3) pa_nil)))))))
      (pss_one (ps_ret (pv 1))))), fun Δ0 D' hf hn => ?_⟩
  refine wp_asg1 (a := (⟨rowsOf 0⟩ : NL Tx)) (ev_lstN (xs := [(⟨[]⟩ : Tx)]) (ea_1 (ev_strc []) ea_nil) (by decide)) (ltr rfl) ?_
  refine wp_for (IvE n) (src_rng1 (n := n) (ea_1 (ev_var (i := 0)) ea_nil) (by omega) (ltr rfl)) ⟨none, none, none, none, rfl⟩ (fun i Γ' ρ' h => by obtain ⟨a, b, c, d, rfl⟩ := h; rfl) ?_ ?_
  · rintro i Γ1 ρ' F' hi ⟨a, b, c, d, rfl⟩
    have hlen : (rowsOf i).length ≤ 6561 := by
      rw [rows_len]
      exact Nat.pow_le_pow_right (n := 3) (by decide) (show i ≤ 8 by omega)
    refine wp_newL (α := Tx) (ltr rfl) fun p ow => ?_
    refine wp_forN (IvE2 Γ1 p n i (some ⟨(i : Int)⟩)) (src_list (xs := rowsOf i) (x0 := fun k => (rowsOf i).getD k ⟨[]⟩) (ev_ofNL (y := ⟨rowsOf i⟩) (ev_var (i := 1))) (fun k hk => getD_of hk) (j := 4) (ltr rfl)) ⟨by simp, c, d, rfl⟩ (fun k Γ' ρ' h => by obtain ⟨_, x, y, rfl⟩ := h; rfl) ?_ ?_
    · rintro k Γ2 ρ' F2 hk ⟨rfl, x, y, rfl⟩
      have et : (rowsOf i).take (k + 1) = (rowsOf i).take k ++ [(rowsOf i).getD k ⟨[]⟩] := by
        rw [List.take_add_one, getD_of (d := (⟨[]⟩ : Tx)) hk]
        rfl
      have hs := rows_sz i ((rowsOf i).getD k ⟨[]⟩) (List.mem_of_getElem? (getD_of hk))
      refine wp_extL (P := fun ys : FL Tx => ys.l = ext ((rowsOf i).getD k ⟨[]⟩)) ow (fun ys hy => ?_) (ev_var (i := 3)) ((ev_lcF (β := Tx) (fun j acc => acc = (ext ((rowsOf i).getD k ⟨[]⟩)).take j) (src_str (x := ⟨[43, 45, 48]⟩) (c0 := sg3) (ev_strc [43, 45, 48]) (fun j hj => ?_) (j := 5) (ltr rfl)) (by decide) (by decide) rfl fun j acc hj h => ⟨_, et_yes, fun q => (by cases q), fun _ => ⟨_, ev_op1 (ev_var (i := 4)) (ev_var (i := 5)) (o2_addS (x := (rowsOf i).getD k ⟨[]⟩) (y := ⟨[sg3 j]⟩) (by rw [hs]; simp; omega)), fun b hb => ?_⟩⟩).imp fun ys hy => ?_) fun ys hy => ?_
      · rw [flat_len3, hy]
        have h1 : ((rowsOf i).take k).length ≤ (rowsOf i).length := List.length_take_le' k _
        show _ + 3 ≤ _
        omega
      · match j, hj with
        | 0, _ => rfl
        | 1, _ => rfl
        | 2, _ => rfl
      · rw [h, show b = _ from hb]
        match j, hj with
        | 0, _ => rfl
        | 1, _ => rfl
        | 2, _ => rfl
      · exact hy
      · refine wp_turn (Iv := IvE2 Γ1 p n i (some ⟨(i : Int)⟩)) ⟨?_, _, _, rfl⟩ rfl
        rw [et, List.flatMap_append, hy]
        simp
    · rintro Γ2 ρ' ⟨rfl, x, y, rfl⟩
      refine wp_asgL (P := Is (⟨rowsOf (i + 1)⟩ : NL Tx)) ((ev_lstO (xs := ((rowsOf i).take (rowsOf i).length).flatMap ext) List.mem_cons_self (ev_var (i := 3))).imp fun r hr => ?_) (ltr rfl) fun r hr => wp_turn (Iv := IvE n) ⟨some ⟨(i : Int)⟩, some ⟨(⟨p⟩ : Z.Loc)⟩, x, y, by rw [show r = _ from hr]; rfl⟩ rfl
      rw [show r = _ from hr, List.take_length]
      rfl
  · rintro Γ1 ρ' F' ⟨a, b, c, d, rfl⟩
    exact wp_ret hf (ev_var (i := 1))
/-- how factors above 0 can add up to 0: no agreeing and no apart, or both -/
def balT (x y : Tx) : Bool :=
  let bs := (((List.range x.s.length).filter fun i => (!decide (sg x i = 48)) && !decide (sg y i = 48)).map fun i => decide (sg x i = sg y i))
  (!decide (true ∈ bs) && !decide (false ∈ bs)) || (decide (true ∈ bs) && decide (false ∈ bs))
theorem balT_eq {x y : Tx} (h : Row2 x y) : balT x y = upr x y := by
  have e1 : (true ∈ ((List.range x.s.length).filter fun i => (!decide (sg x i = 48)) && !decide (sg y i = 48)).map fun i => decide (sg x i = sg y i)) ↔ ¬ (codeT x &&& codeT y = 0) := by
    rw [up_ag h]
    simp only [List.mem_map, List.mem_filter, List.mem_range]
    constructor
    · rintro ⟨i, ⟨hi, h1⟩, h2⟩ q
      have q1 := q i hi
      unfold ag at q1
      rw [h2, Bool.and_true, h1] at q1
      cases q1
    · intro q
      apply Classical.byContradiction
      intro z
      refine q fun i hi => ?_
      cases e : ag (sg x i) (sg y i) with
      | false => rfl
      | true =>
        unfold ag at e
        rw [Bool.and_eq_true, Bool.and_eq_true] at e
        exact absurd ⟨i, ⟨hi, by rw [e.1, e.2.1]; rfl⟩, e.2.2⟩ z
  have e2 : (false ∈ ((List.range x.s.length).filter fun i => (!decide (sg x i = 48)) && !decide (sg y i = 48)).map fun i => decide (sg x i = sg y i)) ↔ ¬ (codeT x &&& tcode (codeT y) = 0) := by
    rw [up_ap h]
    simp only [List.mem_map, List.mem_filter, List.mem_range]
    constructor
    · rintro ⟨i, ⟨hi, h1⟩, h2⟩ q
      have q1 := q i hi
      unfold ap at q1
      rw [Bool.and_eq_true] at h1
      rw [h2, h1.1, h1.2] at q1
      cases q1
    · intro q
      apply Classical.byContradiction
      intro z
      refine q fun i hi => ?_
      cases e : ap (sg x i) (sg y i) with
      | false => rfl
      | true =>
        unfold ap at e
        rw [Bool.and_eq_true, Bool.and_eq_true] at e
        refine absurd ⟨i, ⟨hi, by rw [e.1, e.2.1]; rfl⟩, ?_⟩ z
        have := e.2.2
        cases q : decide (sg x i = sg y i) with
        | false => rfl
        | true =>
          rw [q] at this
          cases this
  unfold balT upr
  simp only []
  generalize (((List.range x.s.length).filter fun i => (!decide (sg x i = 48)) && !decide (sg y i = 48)).map fun i => decide (sg x i = sg y i)) = bs at *
  by_cases h1 : codeT x &&& codeT y = 0 <;> by_cases h2 : codeT x &&& tcode (codeT y) = 0 <;> simp [h1, h2, e1, e2]
def F__law_balances : Pm Bool := fun _ cs R => ∃ x y : Tx, cs = [⟨x⟩, ⟨y⟩] ∧ Row2 x y ∧ R = Is (upr x y)
theorem sc__law_balances : FnScope ["_law_one", "_law_other", "_law_products", "_law_first", "_law_second"] ["_law_one", "_law_other"] (defScope s__law_balances) := ⟨rfl, rfl, rfl, by decide +kernel, rfl, by decide +kernel, by decide +kernel⟩
theorem ok__law_balances (T : Txt K mg) {f : Addr} {fd : FuncData} (D : Df K mg "_law_balances" s__law_balances ["_law_one", "_law_other"] f fd) : FnOk P w K mg base CX0 2 f fd ["_law_one", "_law_other"] (spD K F__law_balances) := by
  obtain ⟨_, hI_SHIFT⟩ := T.i_SHIFT
  obtain ⟨_, hI_LOW⟩ := T.i_LOW
  obtain ⟨_, hI_MAX_THINGS⟩ := T.i_MAX_THINGS
  refine def_ok D.F sc__law_balances (fun Γ cs R g => ?len) (fun cdv A outer s H E hr Γ cs R g => ?_)
  case len => obtain ⟨x, y, rfl, _⟩ := g; rfl
  obtain ⟨x, y, rfl, hx, rfl⟩ := g
  have h9 := hx.x.len
  refine ⟨_, (pss_cons (ps_setLc (i := 2) (own := [("_law_first", 3), ("_law_second", 4)]) (g := (gTup K 2 (gCons (gName 3) (gCons (gName 4) gNil)))) (tt := _) rfl sc__law_balances.nd rfl rfl (sw_true rfl rfl rfl (by decide +kernel)) (pi_zipS (by rfl) T.z_zip (pa_cons (pv 0) (pa_cons (pv 1) pa_nil))) (blkOk_by (N := ["_law_one", "_law_other", "_law_products", "_law_first", "_law_second"]) (sc := defScope s__law_balances) (by decide +kernel)) (fun _ _ _ _ _ => (pg_tup rfl (pgs_cons (pg_name (i := 3) sc__law_balances.nd rfl (by first | exact .inl rfl | exact .inr rfl)) (pgs_cons (pg_name (i := 4) sc__law_balances.nd rfl (by first | exact .inl rfl | exact .inr rfl)) pgs_nil)))) (fun _ _ _ _ _ => (pts_one (PW.pt (pw_and (pt_cmpR op_ne (pv 3) pe_str (nomark _)) (pw_and1 (pt_cmpR op_ne (pv 4) pe_str (nomark _))))))) (fun _ _ _ _ _ => (pe_cmpR op_eq (pv 3) (pv 4) (nomark _))))
      (pss_one (ps_ret (pe_or (pe_and (pe_cmpR op_notInK pe_bl (pv 2) (by rfl)) (pe_one (pe_cmpR op_notInK pe_bl (pv 2) (by rfl)))) (pe_one (pe_and (pe_cmpR op_inK pe_bl (pv 2) (by rfl)) (pe_one (pe_cmpR op_inK pe_bl (pv 2) (by rfl))))))))), fun Δ0 D' hf hn => ?_⟩
  refine wp_asg1 (ev_lcD (β := Bool) (xs := List.range x.s.length) (fun i => (!decide (sg x i = 48)) && !decide (sg y i = 48)) (fun i => decide (sg x i = sg y i)) (by
      rw [List.length_range]
      exact src_zipS (x := x) (y := y) (c0 := fun i => sg x i) (d0 := fun i => sg y i) (ea_1 (ev_var (i := 0)) (ea_1 (ev_var (i := 1)) ea_nil)) hx.l.symm (fun i hi => ⟨sg_at hi, sg_at (by rw [hx.l]; exact hi)⟩) (ltr rfl) (ltr rfl)) (by rw [List.length_range]; omega) (by decide) fun i j hj => ?_) (ltr rfl) ?_
  · obtain ⟨rfl, hi⟩ := range_at hj
    exact ⟨et_and (et_is (et_test (ev_op1 (ev_var (i := 3)) (ev_strc [48]) o2_neS)) tx_ne) fun _ => et_is (et_test (ev_op1 (ev_var (i := 4)) (ev_strc [48]) o2_neS)) tx_ne, fun _ => ev_is (ev_op1 (ev_var (i := 3)) (ev_var (i := 4)) o2_eqS) (decide_eq_decide.mpr tx1)⟩
  · refine wp_ret hf (ev_is (ev_orV (ev_andV (ev_op1 ev_bl (ev_var (i := 2)) o2_notInLB) fun _ => ev_op1 ev_bl (ev_var (i := 2)) o2_notInLB) fun _ => ev_andV (ev_op1 ev_bl (ev_var (i := 2)) o2_inLB) fun _ => ev_op1 ev_bl (ev_var (i := 2)) o2_inLB) ?_)
    exact balT_eq hx
end
end K01

set_option Elab.async false
set_option linter.all false
set_option maxRecDepth 100000
set_option maxHeartbeats 1000000
namespace K01
open PySem PySem.Spec PyProof.Rows L2 Z K00
/-! how many rows are upright to a row -/
def agU (x y : Tx) (n : Nat) : Bool := (List.range n).any fun i => ag (sg x i) (sg y i)
def apU (x y : Tx) (n : Nat) : Bool := (List.range n).any fun i => ap (sg x i) (sg y i)
theorem sg_lo {r : Tx} {s i : Nat} (h : i < r.s.length) : sg ⟨r.s ++ [s]⟩ i = sg r i := by
  unfold sg
  rw [List.getD_eq_getElem?_getD, List.getD_eq_getElem?_getD]
  show ((r.s ++ [s])[i]?).getD 0 = _
  rw [List.getElem?_append_left h]
theorem sg_hi {r : Tx} {s n : Nat} (h : r.s.length = n) : sg ⟨r.s ++ [s]⟩ n = s := by
  subst h
  unfold sg
  rw [List.getD_eq_getElem?_getD]
  show ((r.s ++ [s])[r.s.length]?).getD 0 = _
  rw [List.getElem?_append_right (Nat.le_refl _), Nat.sub_self]
  rfl
theorem any_congr {l : List Nat} {p q : Nat → Bool} (h : ∀ i ∈ l, p i = q i) : l.any p = l.any q := by
  induction l with
  | nil => rfl
  | cons a l ih => rw [List.any_cons, List.any_cons, h a List.mem_cons_self, ih fun i hi => h i (List.mem_cons_of_mem _ hi)]
theorem agU_snoc {x r : Tx} {s n : Nat} (h : r.s.length = n) : agU x ⟨r.s ++ [s]⟩ (n + 1) = (agU x r n || ag (sg x n) s) := by
  unfold agU
  rw [List.range_succ, List.any_append, List.any_cons, List.any_nil, Bool.or_false, sg_hi h]
  congr 1
  exact any_congr fun i hi => by rw [sg_lo (by rw [h]; exact List.mem_range.mp hi)]
theorem apU_snoc {x r : Tx} {s n : Nat} (h : r.s.length = n) : apU x ⟨r.s ++ [s]⟩ (n + 1) = (apU x r n || ap (sg x n) s) := by
  unfold apU
  rw [List.range_succ, List.any_append, List.any_cons, List.any_nil, Bool.or_false, sg_hi h]
  congr 1
  exact any_congr fun i hi => by rw [sg_lo (by rw [h]; exact List.mem_range.mp hi)]
/-- of the rows of n signs those with f of agreeing and apart somewhere -/
def nU (x : Tx) (n : Nat) (f : Bool → Bool → Bool) : Nat := ((rowsOf n).filter fun y => f (agU x y n) (apU x y n)).length
theorem flt3 {p : Tx → Bool} : ∀ xs : List Tx, ((xs.flatMap ext).filter p).length = (xs.filter fun r => p ⟨r.s ++ [43]⟩).length + (xs.filter fun r => p ⟨r.s ++ [45]⟩).length + (xs.filter fun r => p ⟨r.s ++ [48]⟩).length
  | [] => rfl
  | x :: xs => by
    rw [List.flatMap_cons, List.filter_append, List.length_append, flt3 xs]
    unfold ext
    simp only [List.filter_cons, List.filter_nil]
    cases p ⟨x.s ++ [43]⟩ <;> cases p ⟨x.s ++ [45]⟩ <;> cases p ⟨x.s ++ [48]⟩ <;> simp only [if_true, if_false, Bool.false_eq_true, List.length_cons, List.length_nil] <;> omega
theorem flt_congr {p q : Tx → Bool} {l : List Tx} (h : ∀ y ∈ l, p y = q y) : (l.filter p).length = (l.filter q).length := by
  induction l with
  | nil => rfl
  | cons a l ih =>
    rw [List.filter_cons, List.filter_cons, h a List.mem_cons_self]
    have more := ih fun y hy => h y (List.mem_cons_of_mem _ hy)
    cases q a <;> simp [more]
theorem nU_succ (x : Tx) (n : Nat) (f : Bool → Bool → Bool) : nU x (n + 1) f = nU x n (fun a b => f (a || ag (sg x n) 43) (b || ap (sg x n) 43)) + nU x n (fun a b => f (a || ag (sg x n) 45) (b || ap (sg x n) 45)) + nU x n (fun a b => f (a || ag (sg x n) 48) (b || ap (sg x n) 48)) := by
  unfold nU
  rw [rowsOf, flt3]
  congr 1
  · congr 1
    · exact flt_congr fun y hy => by rw [agU_snoc (rows_sz n y hy), apU_snoc (rows_sz n y hy)]
    · exact flt_congr fun y hy => by rw [agU_snoc (rows_sz n y hy), apU_snoc (rows_sz n y hy)]
  · exact flt_congr fun y hy => by rw [agU_snoc (rows_sz n y hy), apU_snoc (rows_sz n y hy)]
def aK : Nat → Nat
  | 0 => 0
  | k + 1 => 2 * aK k + 1
def bK : Nat → Nat
  | 0 => 0
  | k + 1 => 3 * bK k + 2 * aK k
def one (b : Bool) : Nat := if b = true then 1 else 0
/-- how many of the first n signs are not 0 -/
def kU (x : Tx) (n : Nat) : Nat := ((List.range n).filter fun i => !decide (sg x i = 48)).length
theorem kU_le (x : Tx) (n : Nat) : kU x n ≤ n := by
  unfold kU
  have := List.length_filter_le (fun i => !decide (sg x i = 48)) (List.range n)
  rw [List.length_range] at this
  exact this
theorem kU_succ (x : Tx) (n : Nat) : kU x (n + 1) = kU x n + (if sg x n = 48 then 0 else 1) := by
  unfold kU
  rw [List.range_succ, List.filter_append, List.length_append, List.filter_cons, List.filter_nil]
  by_cases h : sg x n = 48 <;> simp [h]
theorem nU_eq (x : Tx) : ∀ (n : Nat) (f : Bool → Bool → Bool), (∀ i, i < n → isSign (sg x i) = true) →
    nU x n f = 3 ^ (n - kU x n) * (one (f false false) + aK (kU x n) * one (f true false) + aK (kU x n) * one (f false true) + bK (kU x n) * one (f true true))
  | 0, f, _ => by
    show ((([⟨[]⟩] : List Tx).filter fun y => f (agU x y 0) (apU x y 0))).length = _
    have e1 : kU x 0 = 0 := rfl
    rw [e1, List.filter_cons, List.filter_nil]
    show (if f false false = true then [(⟨[]⟩ : Tx)] else []).length = _
    unfold one
    cases f false false <;> simp [aK, bK]
  | n + 1, f, hs => by
    have hs' : ∀ i, i < n → isSign (sg x i) = true := fun i hi => hs i (Nat.lt_succ_of_lt hi)
    have hle := kU_le x n
    rw [nU_succ, nU_eq x n _ hs', nU_eq x n _ hs', nU_eq x n _ hs', kU_succ]
    have hc := hs n (Nat.lt_succ_self n)
    revert hc
    generalize sg x n = c
    intro hc
    unfold isSign at hc
    simp only [Bool.or_eq_true, beq_iff_eq] at hc
    rcases hc with (rfl | rfl) | rfl
    · have e : n + 1 - (kU x n + 1) = n - kU x n := by omega
      rw [if_neg (by decide), e]
      generalize 3 ^ (n - kU x n) = z
      have q1 : ag 43 43 = true := rfl
      have q2 : ap 43 43 = false := rfl
      have q3 : ag 43 45 = false := rfl
      have q4 : ap 43 45 = true := rfl
      have q5 : ag 43 48 = false := rfl
      have q6 : ap 43 48 = false := rfl
      simp only [q1, q2, q3, q4, q5, q6, Bool.or_true, Bool.or_false, aK, bK]
      rw [← Nat.mul_add, ← Nat.mul_add]
      congr 1
      generalize one (f false false) = w1
      generalize one (f true false) = w2
      generalize one (f false true) = w3
      generalize one (f true true) = w4
      generalize aK (kU x n) = a
      generalize bK (kU x n) = b
      rw [Nat.add_mul, Nat.add_mul, Nat.add_mul, Nat.mul_assoc, Nat.mul_assoc, Nat.mul_assoc, Nat.mul_assoc]
      omega
    · have e : n + 1 - (kU x n + 1) = n - kU x n := by omega
      rw [if_neg (by decide), e]
      generalize 3 ^ (n - kU x n) = z
      have q1 : ag 45 43 = false := rfl
      have q2 : ap 45 43 = true := rfl
      have q3 : ag 45 45 = true := rfl
      have q4 : ap 45 45 = false := rfl
      have q5 : ag 45 48 = false := rfl
      have q6 : ap 45 48 = false := rfl
      simp only [q1, q2, q3, q4, q5, q6, Bool.or_true, Bool.or_false, aK, bK]
      rw [← Nat.mul_add, ← Nat.mul_add]
      congr 1
      generalize one (f false false) = w1
      generalize one (f true false) = w2
      generalize one (f false true) = w3
      generalize one (f true true) = w4
      generalize aK (kU x n) = a
      generalize bK (kU x n) = b
      rw [Nat.add_mul, Nat.add_mul, Nat.add_mul, Nat.mul_assoc, Nat.mul_assoc, Nat.mul_assoc, Nat.mul_assoc]
      omega
    · have e : n + 1 - (kU x n + 0) = (n - kU x n) + 1 := by omega
      rw [if_pos rfl, e, Nat.add_zero, Nat.pow_succ]
      have q1 : ag 48 43 = false := rfl
      have q2 : ap 48 43 = false := rfl
      have q3 : ag 48 45 = false := rfl
      have q4 : ap 48 45 = false := rfl
      have q5 : ag 48 48 = false := rfl
      have q6 : ap 48 48 = false := rfl
      simp only [q1, q2, q3, q4, q5, q6, Bool.or_false]
      generalize 3 ^ (n - kU x n) = z
      generalize one (f false false) + aK (kU x n) * one (f true false) + aK (kU x n) * one (f false true) + bK (kU x n) * one (f true true) = m
      rw [Nat.mul_assoc, Nat.mul_comm 3 m, ← Nat.mul_assoc]
      omega
theorem aK_eq : ∀ k, aK k + 1 = 2 ^ k
  | 0 => rfl
  | k + 1 => by
    have := aK_eq k
    rw [aK, Nat.pow_succ]
    omega
theorem bK_eq : ∀ k, bK k + 2 * 2 ^ k = 3 ^ k + 1
  | 0 => rfl
  | k + 1 => by
    have h1 := bK_eq k
    have h2 := aK_eq k
    rw [bK, Nat.pow_succ, Nat.pow_succ]
    omega
theorem upr_U {x y : Tx} (h : Row2 x y) : upr x y = (agU x y x.s.length == apU x y x.s.length) := by
  have e1 : (codeT x &&& codeT y = 0) ↔ agU x y x.s.length = false := by
    rw [up_ag h]
    unfold agU
    rw [List.any_eq_false]
    exact ⟨fun q i hi => by rw [q i (List.mem_range.mp hi)]; decide, fun q i hi => by
      have := q i (List.mem_range.mpr hi)
      revert this
      cases ag (sg x i) (sg y i) <;> simp⟩
  have e2 : (codeT x &&& tcode (codeT y) = 0) ↔ apU x y x.s.length = false := by
    rw [up_ap h]
    unfold apU
    rw [List.any_eq_false]
    exact ⟨fun q i hi => by rw [q i (List.mem_range.mp hi)]; decide, fun q i hi => by
      have := q i (List.mem_range.mpr hi)
      revert this
      cases ap (sg x i) (sg y i) <;> simp⟩
  unfold upr
  by_cases h1 : codeT x &&& codeT y = 0 <;> by_cases h2 : codeT x &&& tcode (codeT y) = 0
  all_goals (have g1 := h1; have g2 := h2; rw [e1] at g1; rw [e2] at g2; revert g1 g2; cases agU x y x.s.length <;> cases apU x y x.s.length <;> simp [h1, h2])
theorem rows_row {n : Nat} (hn : n ≤ 9) : ∀ y ∈ rowsOf n, Row y := by
  induction n with
  | zero => exact fun y hy => by rw [List.mem_singleton.mp hy]; exact ⟨rfl, by decide⟩
  | succ n ih =>
    intro y hy
    obtain ⟨r, hr, hx⟩ := List.mem_flatMap.mp hy
    have q := ih (by omega) r hr
    have l := rows_sz n r hr
    simp only [ext, List.mem_cons, List.not_mem_nil, or_false] at hx
    rcases hx with rfl | rfl | rfl
    all_goals exact ⟨by simp [q.all, isSign], by simp; omega⟩
theorem rows_row2 {n : Nat} (hn : n ≤ 9) {x y : Tx} (hx : Row x) (hl : x.s.length = n) (hy : y ∈ rowsOf n) : Row2 x y := ⟨hx, rows_row hn y hy, by rw [rows_sz n y hy, hl]⟩
/-- the rows of n signs that are upright to x -/
theorem count_up {n : Nat} (hn : n ≤ 9) {x : Tx} (hx : Row x) (hl : x.s.length = n) : (((rowsOf n).filter (upr x)).length : Int) = ((3 ^ (n - kU x n) : Nat) : Int) * ((((3 ^ kU x n : Nat) : Int) - 2 * ((2 ^ kU x n : Nat) : Int)) + 2) := by
  have e : ((rowsOf n).filter (upr x)).length = nU x n fun a b => a == b := by
    unfold nU
    exact flt_congr fun y hy => by rw [upr_U (rows_row2 hn hx hl hy), hl]
  rw [e, nU_eq x n _ (fun i hi => hx.sg (by rw [hl]; exact hi))]
  have h1 := bK_eq (kU x n)
  have e2 : one (false == false) + aK (kU x n) * one (true == false) + aK (kU x n) * one (false == true) + bK (kU x n) * one (true == true) = 1 + bK (kU x n) := by
    simp [one]
  rw [e2, Int.natCast_mul]
  congr 1
  omega
end K01

set_option Elab.async false
set_option linter.all false
set_option maxRecDepth 100000
set_option maxHeartbeats 1000000
namespace K01
open PySem PySem.Spec PyProof.Rows L2 Z K00
/-- a lot: its number of signs, its rows as they came (each once), its rows in order -/
structure LotD where
  many : Nat
  known : List Tx
  rows : List Tx
instance : Rp LotD where
  rp K Δ H v L := ∃ x dx d vt, v = .ref x ∧ Δ x = none ∧ H x = some (.ins (He.ga K "Lot") dx [("_many", .int L.many), ("_known", .ref d), ("_rows", vt)]) ∧ Δ d = none ∧ H d = some (.dK (kvT L.known)) ∧ Rp.rp K Δ H vt (⟨L.rows⟩ : Tup Tx)
  mono k h := by
    obtain ⟨x, dx, d, vt, e, n, hx, nd, hd, r⟩ := h
    exact ⟨x, dx, d, vt, e, n, k _ _ n hx, nd, k _ _ nd hd, Rp.mono k r⟩
  weak w h := by
    obtain ⟨x, dx, d, vt, e, n, hx, nd, hd, r⟩ := h
    exact ⟨x, dx, d, vt, e, w _ _ hx n, hx, w _ _ hd nd, hd, Rp.weak w r⟩
/-- the class's facts -/
structure LotT (K : PySem.W.Frag) : Prop where
  cl : Cls K (He.ga K "Lot")
  na_many : NoAttr K (He.ga K "Lot") "_many"
  na_known : NoAttr K (He.ga K "Lot") "_known"
  na_rows : NoAttr K (He.ga K "Lot") "_rows"
  ca : PySem.W.findIn K (.ref (He.ga K "Lot")) "__class__" = some (some (.builtin "object.__class__"))
  cn : PySem.W.specialIn K (.builtin "object.__class__") "__get__" = some (some (.builtin "getset_descriptor.__get__"))
  ct : PySem.W.takesIn K (.builtin "object.__class__") = some true
  cm : PySem.W.mroIn K (He.ga K "Lot") (.type "object") = some true
section
variable {P : Program} {w : World} {K : PySem.W.Frag} {mg : Str → Option Value} {base : Heap}
theorem all_true {α : Type} (xs : List α) : (((xs.filter fun _ => true).map fun _ => true).all id) = true := by
  rw [List.all_eq_true]
  intro b hb
  obtain ⟨_, _, rfl⟩ := List.mem_map.mp hb
  rfl
def F_Lot___init__ : Pm LotD := fun _ cs R => ∃ (n : Nat) (xs : Tup Tx), cs = [⟨(n : Int)⟩, ⟨xs⟩] ∧ n ≤ 9 ∧ (∀ x ∈ xs.l, x.s.length = n ∧ x.s.all isSign = true) ∧ xs.l.length ≤ 50000 ∧ R = fun L => L.many = n ∧ L.known = onceT [] xs.l ∧ SortedT (onceT [] xs.l) L.rows
theorem sc_Lot___init__ : FnScope ["self", "many", "rows", "row"] ["self", "many", "rows"] (defScope s_Lot___init__) := ⟨rfl, rfl, rfl, by decide +kernel, rfl, by decide +kernel, by decide +kernel⟩
theorem ok_Lot___init__ (T : Txt K mg) (CL : LotT K) {f : Addr} {fd : FuncData} {dvs : List V} (D : DfM K dvs "__init__" "Lot.__init__" s_Lot___init__ ["self", "many", "rows"] f fd) {f_check_many : Addr} {fd_check_many : FuncData} (D_check_many : Df K mg "check_many" s_check_many ["many"] f_check_many fd_check_many) (G_check_many : FnOk P w K mg base CX0 4 f_check_many fd_check_many ["many"] (spD K F_check_many)) {f_is_row : Addr} {fd_is_row : FuncData} (D_is_row : Df K mg "is_row" s_is_row ["value", "many"] f_is_row fd_is_row) (G_is_row : FnOk P w K mg base CX0 2 f_is_row fd_is_row ["value", "many"] (spD K F_is_row)) : FnOk P w K mg base CX0 5 f fd ["self", "many", "rows"] (spI K (He.ga K "Lot") F_Lot___init__) := by
  obtain ⟨_, hI_SHIFT⟩ := T.i_SHIFT
  obtain ⟨_, hI_LOW⟩ := T.i_LOW
  obtain ⟨_, hI_MAX_THINGS⟩ := T.i_MAX_THINGS
  refine def_okI D.F sc_Lot___init__ (fun Γ cs R g => ?len) (fun cdv A outer s H E hr Γ cs R g => ?_)
  case len => obtain ⟨n, xs, rfl, _⟩ := g; rfl
  obtain ⟨n, xs, rfl, hn9, hx, hl, rfl⟩ := g
  refine ⟨_, (pss_cons (ps_expr (pe_call G_check_many (hr.mono (by decide)) (by rfl) D_check_many.g D_check_many.kp D_check_many.b .nil pass0 (pa_cons (pv 1) pa_nil)))
      (pss_cons (ps_if (PW.pt (pw_or (pt_not (pt_val (pe_callB call_isK (by rfl) T.z_isinstance (by decide +kernel) (pa_cons (pv 2) (pa_cons (pe_bltn (v := .ty "tuple") (u := .type "tuple") (by rfl) T.z_tuple (by decide +kernel) rfl) pa_nil))))) (pw_or1 (pt_not (pt_val (pe_callB (cr_allK rfl) (by rfl) T.z_all (by decide +kernel) (pa_cons (pe_lc (own := [("row", 3)]) (g := (gName 3)) (tt := tYes) rfl sc_Lot___init__.nd (pi_tupK (pv 2)) (blkOk_by (N := ["self", "many", "rows", "row"]) (sc := defScope s_Lot___init__) (by decide +kernel)) (fun _ _ _ _ _ => (pg_name (i := 3) sc_Lot___init__.nd rfl (by first | exact .inl rfl | exact .inr rfl))) (fun _ _ _ _ _ => pts_nil) (fun _ _ _ _ _ => (pe_call G_is_row (hr.mono (by decide)) (by rfl) D_is_row.g D_is_row.kp D_is_row.b .nil pass0 (pa_cons (pv 3) (pa_cons (pv 1) pa_nil))))) pa_nil))))))) (pss_one ps_never) pss_nil)
      (pss_cons (ps_fld (pv 0) (pv 1) rfl)
      (pss_cons (ps_fld (pv 0) (pe_dc (own := [("row", 3)]) (g := (gName 3)) (tt := tYes) rfl sc_Lot___init__.nd (pi_tupK (pv 2)) (blkOk_by (N := ["self", "many", "rows", "row"]) (sc := defScope s_Lot___init__) (by decide +kernel)) (fun _ _ _ _ _ => (pg_name (i := 3) sc_Lot___init__.nd rfl (by first | exact .inl rfl | exact .inr rfl))) (fun _ _ _ _ _ => pts_nil) (fun _ _ _ _ _ => (pv 3)) (fun _ _ _ _ _ => pe_bl)) rfl)
      (pss_one (ps_fld (pv 0) (pe_callTy call_tupK (by rfl) T.z_tuple (by decide +kernel) (pa_cons (pe_callB cr_sortedT (by rfl) T.z_sorted (by decide +kernel) (pa_cons (pe_callTy (call_list_dK rfl) (by rfl) T.z_list (by decide +kernel) (pa_cons (pe_fldK (pv 0) (by rfl)) pa_nil)) pa_nil)) pa_nil)) rfl)))))), fun Δ0 H0 p dx D' hf ow => ?_⟩
  refine wp_drop (ev_call1 (ea_1 (ev_var (i := 1)) ea_nil) ⟨n, rfl, hn9, rfl⟩) ?_
  have sr : ∀ {Γ' : Own} {ρ : Z.Env} {j : Nat}, ρ[2]? = some (some ⟨xs⟩) → j < ρ.length → Src K Γ' (iTup K (tVar 2)) (gName j) ρ [j] xs.l.length (fun i ρ => ρ.set j (some ⟨xs.l.getD i ⟨[]⟩⟩)) := fun h hj => src_tup (x0 := fun i => xs.l.getD i ⟨[]⟩) (ev_var h) (fun i hi => getD_of hi) hj
  have gx : ∀ {i : Nat} {x : Tx}, xs.l[i]? = some x → xs.l.getD i ⟨[]⟩ = x := fun {i x} h => by
    rw [List.getD_eq_getElem?_getD, h]
    rfl
  refine wp_no (b := false) rfl (et_or (et_not (a := true) (et_B (ev_isi (ev_var (i := 2) (a := xs)) ty_tup (kit_ty (r := true) (by decide +kernel))))) fun _ => et_not (et_B (ev_is (ev_cb (ev_lcD (xs := xs.l) (fun _ => true) (fun _ => true) (sr rfl (ltr rfl)) hl (by decide) fun i x hi => ⟨et_yes, fun _ => ?_⟩) o1_all) (all_true xs.l)))) ?_
  · have e := gx hi
    have hm := hx x (List.mem_of_getElem? hi)
    subst e
    refine ev_is (ev_call1 (ea_1 (ev_var (i := 3)) (ea_1 (ev_var (i := 1)) ea_nil)) ⟨_, _, rfl, by omega, rfl⟩) ?_
    rw [hm.2, hm.1, decide_eq_true rfl]
    rfl
  refine wp_fld CL.cl CL.na_many (by decide) ow (ev_var (i := 1)) (ev_var (i := 0)) fun v a ha => ?_
  refine wp_fldN (I := ObIs (.dK (kvT (onceT [] xs.l)))) CL.cl CL.na_known (ltr rfl) ow (en_dc (xs := xs.l) (sr rfl (ltr rfl)) hl (by decide) (fun i x hi => by have e := gx hi; subst e; exact ev_var (i := 3)) fun i hi => ev_bl) (fun d o _ => ev_var (i := 0)) fun d o io ow2 owd => ?_
  have eo : o = HO.dK (kvT (onceT [] xs.l)) := io
  subst eo
  refine wp_fldL (P := fun t : Tup Tx => SortedT (onceT [] xs.l) t.l) CL.cl CL.na_rows (ltr rfl) ow2 (ev_tupleP (ev_cb (ev_listO (ks := onceT [] xs.l) (d := d) (by simp) (ev_fldO CL.cl CL.na_known List.mem_cons_self (by rfl) (ev_var (i := 0)))) o1_sortedT)) (ev_var (i := 0)) fun v2 t ht => ?_
  refine wp_endI (b := (⟨n, onceT [] xs.l, t.l⟩ : LotD)) hf ⟨rfl, rfl, ht⟩ fun H h1 h2 => ?_
  have ev : v = .int n := by
    have h := h2 (v, ⟨a⟩) (by simp)
    rw [show a = (n : Int) from ha] at h
    exact h
  subst ev
  obtain ⟨o1, ho1, io1⟩ := h1 (p, _) List.mem_cons_self
  obtain ⟨o2, ho2, io2⟩ := h1 (d, _) (List.mem_cons_of_mem _ List.mem_cons_self)
  exact ⟨p, dx, d, v2, rfl, ow.n0, by rw [ho1, show o1 = _ from io1]; rfl, owd.n0, by rw [ho2, show o2 = _ from io2], h2 (v2, ⟨t⟩) List.mem_cons_self⟩
theorem isIns_lot : IsIns K (He.ga K "Lot") LotD := fun Δ H v L r => by
  obtain ⟨x, dx, d, vt, e, n, hx, _⟩ := r
  exact ⟨x, dx, _, e, hx⟩
theorem ev_lotRows {Γ : Own} {ρ : Z.Env} {te : TE} {L : LotD} (CL : LotT K) (h : Ev K Γ te ρ (Is L)) : Ev K Γ (tFld K te "_rows") ρ (Is (⟨L.rows⟩ : Tup Tx)) := fun Δ σ H Q s hh e k =>
  h Δ σ H _ s hh e fun v H1 a pa e1 r1 => by
    have ea : a = L := pa
    subst ea
    obtain ⟨x, dx, d, vt, rfl, n, hx, nd, hd, r⟩ := r1
    exact ⟨x, _, dx, _, _, rfl, hx, CL.cl, CL.na_rows, rfl, k _ H1 _ rfl e1 r⟩
def F_Lot_rows : Pm (Tup Tx) := fun _ cs R => ∃ L : LotD, cs = [⟨L⟩] ∧ R = Is ⟨L.rows⟩
theorem sc_Lot_rows : FnScope ["self"] ["self"] (defScope s_Lot_rows) := ⟨rfl, rfl, rfl, by decide +kernel, rfl, by decide +kernel, by decide +kernel⟩
theorem ok_Lot_rows (T : Txt K mg) (CL : LotT K) {f : Addr} {fd : FuncData} {dvs : List V} (D : DfM K dvs "rows" "Lot.rows" s_Lot_rows ["self"] f fd) : FnOk P w K mg base CX0 2 f fd ["self"] (spD K F_Lot_rows) := by
  obtain ⟨_, hI_SHIFT⟩ := T.i_SHIFT
  obtain ⟨_, hI_LOW⟩ := T.i_LOW
  obtain ⟨_, hI_MAX_THINGS⟩ := T.i_MAX_THINGS
  refine def_ok D.F sc_Lot_rows (fun Γ cs R g => ?len) (fun cdv A outer s H E hr Γ cs R g => ?_)
  case len => obtain ⟨L, rfl, _⟩ := g; rfl
  obtain ⟨L, rfl, rfl⟩ := g
  refine ⟨_, (pss_one (ps_ret (pe_fldK (pv 0) (by rfl)))), fun Δ0 D' hf hn => wp_ret hf (ev_lotRows CL (ev_var (i := 0)))⟩
theorem tx_ok {x : Tx} (h : Row x) : PyData.canLay0 (Dt.d x) = true := by
  show (x.s.toArray.all fun c => decide (c < 0x110000)) = true
  rw [List.all_toArray, List.all_eq_true]
  intro c hc
  have q := List.all_eq_true.mp h.all c hc
  unfold isSign at q
  simp only [Bool.or_eq_true, beq_iff_eq] at q
  have : c < 0x110000 := by omega
  simpa using this
theorem rows_tok {n : Nat} (h : n ≤ 9) : TOk (rowsOf n) := fun x hx => tx_ok (rows_row h x hx)
theorem snoc_lt : ∀ {a b : List Nat}, a < b → a.length = b.length → ∀ s t : Nat, a ++ [s] < b ++ [t]
  | [], [], h, _, _, _ => absurd h (List.lt_irrefl _)
  | [], _ :: _, _, l, _, _ => by cases l
  | _ :: _, [], _, l, _, _ => by cases l
  | x :: a, y :: b, h, l, s, t => by
    rw [List.cons_append, List.cons_append, List.cons_lt_cons_iff]
    rcases List.cons_lt_cons_iff.mp h with q | ⟨q, r⟩
    · exact .inl q
    · exact .inr ⟨q, snoc_lt r (by simpa using l) s t⟩
theorem snoc_lt2 : ∀ (a : List Nat) {s t : Nat}, s < t → a ++ [s] < a ++ [t]
  | [], s, t, h => by
    show [s] < [t]
    rw [List.cons_lt_cons_iff]
    exact .inl h
  | x :: a, s, t, h => by
    rw [List.cons_append, List.cons_append, List.cons_lt_cons_iff]
    exact .inr ⟨rfl, snoc_lt2 a h⟩
theorem rows_asc : ∀ n, (rowsOf n).Pairwise fun x y => x.s < y.s
  | 0 => List.pairwise_singleton _ _
  | n + 1 => by
    rw [rowsOf, List.pairwise_flatMap]
    constructor
    · intro r _
      unfold ext
      simp only [List.pairwise_cons, List.mem_cons, List.not_mem_nil, or_false]
      refine ⟨?_, ?_, fun _ z => z.elim, List.Pairwise.nil⟩
      · rintro y (rfl | rfl)
        · exact snoc_lt2 _ (by decide)
        · exact snoc_lt2 _ (by decide)
      · rintro y rfl
        exact snoc_lt2 _ (by decide)
    · refine List.Pairwise.imp_of_mem (fun {a b} ha hb hab => ?_) (rows_asc n)
      have hl : a.s.length = b.s.length := by rw [rows_sz n a ha, rows_sz n b hb]
      intro x hx y hy
      simp only [ext, List.mem_cons, List.not_mem_nil, or_false] at hx hy
      rcases hx with rfl | rfl | rfl <;> rcases hy with rfl | rfl | rfl <;> exact snoc_lt hab hl _ _
theorem rows_nodup (n : Nat) : (rowsOf n).Nodup := (rows_asc n).imp fun h z => by
  rw [z] at h
  exact List.lt_irrefl _ h
theorem sorted_rows {n : Nat} {L : List Tx} (h : SortedT (onceT [] (rowsOf n).reverse) L) : L = rowsOf n := by
  obtain ⟨hp, hs⟩ := h
  have p2 : (onceT [] (rowsOf n).reverse).Perm (rowsOf n) := (List.perm_ext_iff_of_nodup (onceT_nodup _ _ List.nodup_nil) (rows_nodup n)).mpr fun y => by
    rw [onceT_mem]
    simp
  refine List.Perm.eq_of_pairwise (le := fun x y => ¬ y.s < x.s) (fun a b _ _ h1 h2 => ?_) hs ((rows_asc n).imp fun q z => ?_) (hp.trans p2)
  · have e : a.s = b.s := List.le_antisymm (α := Nat) h1 h2
    cases a
    cases b
    exact congrArg Tx.mk e
  · exact List.lt_irrefl _ (List.lt_trans q z)
end
end K01

set_option Elab.async false
set_option linter.all false
set_option maxRecDepth 100000
set_option maxHeartbeats 1000000
namespace K01
open PySem PySem.Spec PyProof.Rows L2 Z K00
section
variable {P : Program} {w : World} {K : PySem.W.Frag} {mg : Str → Option Value} {base : Heap}
def F__law_dice : Own → List Cell → Prop := fun _ cs => ∃ (xs : List Int) (n : Nat), cs = [⟨xs⟩, ⟨(n : Int)⟩]
theorem abs_nn (c : Int) : 0 ≤ (if c < 0 then -c else c) := by split <;> omega
theorem sc__law_dice : FnScope ["_law_script", "_law_spot", "_law_cell", "_law_left"] ["_law_script", "_law_spot"] (defScope s__law_dice) := ⟨rfl, rfl, rfl, by decide +kernel, rfl, by decide +kernel, by decide +kernel⟩
theorem ok__law_dice (T : Txt K mg) {f : Addr} {fd : FuncData} (D : Df K mg "_law_dice" s__law_dice ["_law_script", "_law_spot"] f fd) : FnOk P w K mg base CX0 2 f fd ["_law_script", "_law_spot"] (spF K F__law_dice DiceI) := by
  obtain ⟨_, hI_SHIFT⟩ := T.i_SHIFT
  obtain ⟨_, hI_LOW⟩ := T.i_LOW
  obtain ⟨_, hI_MAX_THINGS⟩ := T.i_MAX_THINGS
  refine def_okF D.F sc__law_dice (fun Γ cs g => ?len) (fun cdv A outer s H E hr Γ cs g => ?_)
  case len => obtain ⟨xs, n, rfl⟩ := g; rfl
  obtain ⟨xs, n, rfl⟩ := g
  refine ⟨_, (pss_cons (ps_set (i := 2) sc__law_dice.nd rfl (by first | exact .inl rfl | exact .inr rfl) (pe_ifExp (pt_cmpR op_lt (pv 1) (pe_callB call_lenK (by rfl) T.z_len (by decide +kernel) (pa_cons (pv 0) pa_nil)) (nomark _)) (pe_callTy call_int1 (by rfl) T.z_int (by decide +kernel) (pa_cons (pe_ix ix_listK (pv 0) (pv 1) (fun _ _ => rfl)) pa_nil)) (pe_op op_add (pe_op op_mul pe_int (pv 1)) pe_int)))
      (pss_cons (ps_set (i := 3) sc__law_dice.nd rfl (by first | exact .inl rfl | exact .inr rfl) (pe_op op_modN (pe_callB (call_max2 rfl) (by rfl) T.z_max (by decide +kernel) (pa_cons pe_int (pa_cons (pe_op op_sub (pe_callB call_abs (by rfl) T.z_abs (by decide +kernel) (pa_cons (pv 2) pa_nil)) (pe_op op_pow pe_int pe_int)) pa_nil))) (pe_op op_mulW (pe_op op_pow pe_int pe_int) (pe_op op_pow pe_int pe_int))))
      (pss_one (ps_ret (pe_lst (pa_cons (pv 3) (pa_cons (pe_op op_add (pe_op op_add (pe_op op_add (pe_op op_mul (pe_op op_modN (pe_callB call_abs (by rfl) T.z_abs (by decide +kernel) (pa_cons (pv 2) pa_nil)) pe_int) pe_int) (pe_op op_mul pe_int (pv 1))) (pe_op op_mul pe_int (pe_callTy call_int1 (by rfl) T.z_int (by decide +kernel) (pa_cons (pe_cmpR op_lt (pv 2) pe_int (nomark _)) pa_nil)))) pe_int) (pa_cons pe_int pa_nil)))))))), fun Δ0 D' hf => ?_⟩
  refine wp_asg (P := fun _ : Int => True) (ev_if (et_test (ev_op1 (ev_var (i := 1)) (ev_cb (ev_var (i := 0) (a := xs)) o1_lenL) (o2_B0 (g := fun i j => decide (i < j))))) (fun h => (ev_cb (ev_op1 (ev_var (i := 0) (a := xs)) (ev_var (i := 1)) (o2_ixL (List.getElem?_eq_getElem (by have := of_decide_eq_true h; omega)))) o1_int).imp fun _ _ => trivial) fun _ => (ev_op1 (ev_op1 ev_int (ev_var (i := 1)) (o2_I (C := CMul) (g := fun i j => i * j) (.inl (by decide)))) ev_int (o2_I0 (g := fun i j => i + j))).imp fun _ _ => trivial) (ltr rfl) fun c _ => ?_
  refine wp_asg (P := fun n : Int => 0 ≤ n) ((ev_op1 (ev_max2 ev_int (ev_op1 (ev_cb (ev_var (i := 2)) o1_abs) (ev_op1 ev_int ev_int (o2_I (C := CPow) (g := fun i j => i ^ j.toNat) ⟨by decide, by decide, by decide⟩)) (o2_I0 (g := fun i j => i - j)))) (ev_op1 (ev_op1 ev_int ev_int (o2_I (C := CPow) (g := fun i j => i ^ j.toNat) ⟨by decide, by decide, by decide⟩)) (ev_op1 ev_int ev_int (o2_I (C := CPow) (g := fun i j => i ^ j.toNat) ⟨by decide, by decide, by decide⟩)) (o2_I (C := CMulW) (g := fun i j => i * j) (wide_mul (a := 200) (b := 200) (by decide +kernel) (by decide +kernel) (by decide) (by decide) (by decide)))) (o2_I (C := fun _ j => j ≠ 0) (g := Int.fmod) (by decide +kernel))).imp fun r hr => ?_) (ltr rfl) fun l hl => ?_
  · rw [show r = _ from hr]
    refine (fmod_nn ?_ (by decide +kernel)).1
    split <;> omega
  refine wp_ret3 hf (ea_cons (Pa := fun n : Int => 0 ≤ n) ((ev_var (i := 3) (a := l)).imp fun r hr => by rw [show r = l from hr]; exact hl) (ea_cons (Pa := fun n : Int => 0 ≤ n) (P := fun cs => ∃ b c : Int, cs = [⟨b⟩, ⟨c⟩] ∧ 0 ≤ b ∧ 0 ≤ c) ((ev_op1 (ev_op1 (ev_op1 (ev_op1 (ev_op1 (ev_cb (ev_var (i := 2) (a := c)) o1_abs) ev_int (o2_I (C := fun _ j => j ≠ 0) (g := Int.fmod) (by decide))) ev_int (o2_I (C := CMul) (g := fun i j => i * j) (.inr (by decide)))) (ev_op1 ev_int (ev_var (i := 1)) (o2_I (C := CMul) (g := fun i j => i * j) (.inl (by decide)))) (o2_I0 (g := fun i j => i + j))) (ev_op1 ev_int (ev_cb (ev_op1 (ev_var (i := 2) (a := c)) ev_int (o2_B0 (g := fun i j => decide (i < j)))) o1_intB) (o2_I (C := CMul) (g := fun i j => i * j) (.inl (by decide)))) (o2_I0 (g := fun i j => i + j))) ev_int (o2_I0 (g := fun i j => i + j))).imp fun r hr => ?_) (ea_cons (Pa := fun n : Int => 0 ≤ n) (Ps := Is []) (P := fun cs => ∃ c : Int, cs = [⟨c⟩] ∧ 0 ≤ c) (ev_int.imp fun r hr => by rw [show r = 0 from hr]; decide) ea_nil fun a cs ha hc => ⟨a, by rw [show cs = [] from hc], ha⟩) fun a cs ha hc => by obtain ⟨c, rfl, h⟩ := hc; exact ⟨a, c, rfl, ha, h⟩) fun a cs ha hc => by obtain ⟨b, c, rfl, h1, h2⟩ := hc; exact ⟨a, b, c, rfl, ha, h1, h2⟩)
  rw [show r = _ from hr]
  have h1 := (fmod_nn (t := 1152921504606846397) (abs_nn c) (by decide)).1
  have h2 : (0 : Int) ≤ if decide (c < 0) = true then 1 else 0 := by split <;> decide
  show (0 : Int) ≤ Int.fmod (if c < 0 then -c else c) 1152921504606846397 * 73 + 811 * (n : Int) + 43 * (if decide (c < 0) = true then 1 else 0) + 19
  omega
def F__law_are_pairs_right : Pm Bool := fun _ cs R => ∃ n : Nat, cs = [⟨(n : Int)⟩] ∧ n ≤ 9 ∧ R = Is true
abbrev IvP (Γ : Own) (n : Nat) : Nat → Own → Z.Env → Prop := fun i Γ' ρ' => Γ' = Γ ∧ ∃ a, ρ' = [some ⟨(n : Int)⟩, some ⟨rowsOf n⟩, a, none]
theorem all_same {α : Type} (xs : List α) (f : α → Bool) (h : ∀ x ∈ xs, f x = true) : ((xs.map f).all id) = true := by
  rw [List.all_eq_true]
  intro b hb
  obtain ⟨x, hx, rfl⟩ := List.mem_map.mp hb
  exact h x hx
theorem sc__law_are_pairs_right : FnScope ["_law_size", "_law_rows", "_law_one", "_law_other"] ["_law_size"] (defScope s__law_are_pairs_right) := ⟨rfl, rfl, rfl, by decide +kernel, rfl, by decide +kernel, by decide +kernel⟩
theorem ok__law_are_pairs_right (T : Txt K mg) {f : Addr} {fd : FuncData} (D : Df K mg "_law_are_pairs_right" s__law_are_pairs_right ["_law_size"] f fd) {f_all_rows : Addr} {fd_all_rows : FuncData} (D_all_rows : Df K mg "all_rows" s_all_rows ["many"] f_all_rows fd_all_rows) (G_all_rows : GFn P w K mg base 6 f_all_rows fd_all_rows ["many"] (spG K F_all_rows)) (J_all_rows : Zw.GFnJ P w K mg base 6 f_all_rows fd_all_rows ["many"] (spG K F_all_rows)) {f_is_upright : Addr} {fd_is_upright : FuncData} (D_is_upright : Df K mg "is_upright" s_is_upright ["one", "other"] f_is_upright fd_is_upright) (G_is_upright : FnOk P w K mg base CX0 6 f_is_upright fd_is_upright ["one", "other"] (spD K F_is_upright)) {f__law_balances : Addr} {fd__law_balances : FuncData} (D__law_balances : Df K mg "_law_balances" s__law_balances ["_law_one", "_law_other"] f__law_balances fd__law_balances) (G__law_balances : FnOk P w K mg base CX0 2 f__law_balances fd__law_balances ["_law_one", "_law_other"] (spD K F__law_balances)) : FnOk P w K mg base CX0 10 f fd ["_law_size"] (spD K F__law_are_pairs_right) := by
  obtain ⟨_, hI_SHIFT⟩ := T.i_SHIFT
  obtain ⟨_, hI_LOW⟩ := T.i_LOW
  obtain ⟨_, hI_MAX_THINGS⟩ := T.i_MAX_THINGS
  refine def_ok D.F sc__law_are_pairs_right (fun Γ cs R g => ?len) (fun cdv A outer s H E hr Γ cs R g => ?_)
  case len => obtain ⟨n, rfl, _⟩ := g; rfl
  obtain ⟨n, rfl, hn9, rfl⟩ := g
  refine ⟨_, (pss_cons (ps_set (i := 1) sc__law_are_pairs_right.nd rfl (by first | exact .inl rfl | exact .inr rfl) (pe_listG (pgen_call G_all_rows (hr.mono (by decide)) (by rfl) D_all_rows.g D_all_rows.kp D_all_rows.b .nil (pa_cons (pv 0) pa_nil)) hx_noX hns_noX (hr.mono (by decide)) (by rfl) T.z_list (by decide +kernel)))
      (pss_cons (ps_for PassesOwn.never rfl (pi_listK (pv 1)) (pg_name (i := 2) sc__law_are_pairs_right.nd rfl (by first | exact .inl rfl | exact .inr rfl))
        (pss_one (ps_if (pt_not (pt_val (pe_callB (cr_allK rfl) (by rfl) T.z_all (by decide +kernel) (pa_cons (pe_lc (own := [("_law_other", 3)]) (g := (gName 3)) (tt := tYes) rfl sc__law_are_pairs_right.nd (pi_listK (pv 1)) (blkOk_by (N := ["_law_size", "_law_rows", "_law_one", "_law_other"]) (sc := defScope s__law_are_pairs_right) (by decide +kernel)) (fun _ _ _ _ _ => (pg_name (i := 3) sc__law_are_pairs_right.nd rfl (by first | exact .inl rfl | exact .inr rfl))) (fun _ _ _ _ _ => pts_nil) (fun _ _ _ _ _ => (pe_cmpR op_eq (pe_call G_is_upright (hr.mono (by decide)) (by rfl) D_is_upright.g D_is_upright.kp D_is_upright.b .nil pass0 (pa_cons (pv 2) (pa_cons (pv 3) pa_nil))) (pe_call G__law_balances (hr.mono (by decide)) (by rfl) D__law_balances.g D__law_balances.kp D__law_balances.b .nil pass0 (pa_cons (pv 2) (pa_cons (pv 3) pa_nil))) (nomark _)))) pa_nil)))) (pss_one (ps_ret pe_bl)) pss_nil)))
      (pss_one (ps_ret pe_bl)))), fun Δ0 D' hf hn => ?_⟩
  refine wp_asg1 (a := rowsOf n) (ev_listG (ea_1 (ev_var (i := 0)) ea_nil) ⟨n, rfl, hn9, rfl⟩) (ltr rfl) ?_
  have hlen := rows_le hn9
  have sr : ∀ {Γ' : Own} {ρ : Z.Env} {j : Nat}, ρ[1]? = some (some ⟨rowsOf n⟩) → j < ρ.length → Src K Γ' (iList K (tVar 1)) (gName j) ρ [j] (rowsOf n).length (fun i ρ => ρ.set j (some ⟨(rowsOf n).getD i ⟨[]⟩⟩)) := fun h hj => src_list (x0 := fun i => (rowsOf n).getD i ⟨[]⟩) (ev_var h) (fun i hi => getD_of hi) hj
  refine wp_for (IvP Γ n) (sr rfl (ltr rfl)) ⟨rfl, none, rfl⟩ (fun i Γ' ρ' h => by obtain ⟨_, a, rfl⟩ := h; rfl) ?_ ?_
  · rintro i Γ' ρ' F' hi ⟨rfl, a, rfl⟩
    have hm := List.mem_of_getElem? (getD_of (d := (⟨[]⟩ : Tx)) hi)
    have hx := rows_row hn9 _ hm
    have hl := rows_sz n _ hm
    refine wp_noL (b := false) rfl (et_not (a := true) (et_test (ev_is (ev_cb (ev_lcD (β := Bool) (xs := rowsOf n) (fun _ => true) (fun y => decide (upr ((rowsOf n).getD i ⟨[]⟩) y = upr ((rowsOf n).getD i ⟨[]⟩) y)) (sr rfl (ltr rfl)) (by omega) (by decide) fun j y hj => ⟨et_yes, fun _ => ?_⟩) o1_all) ?_))) (wp_turn (Iv := IvP Γ' n) ⟨rfl, _, rfl⟩ rfl)
    · have e : (rowsOf n).getD j ⟨[]⟩ = y := by
        rw [List.getD_eq_getElem?_getD, hj]
        rfl
      have h2 : Row2 ((rowsOf n).getD i ⟨[]⟩) y := rows_row2 hn9 hx hl (List.mem_of_getElem? hj)
      subst e
      exact ev_op1 (ev_call1 (ea_1 (ev_var (i := 2)) (ea_1 (ev_var (i := 3)) ea_nil)) ⟨_, _, rfl, h2, rfl⟩) (ev_call1 (ea_1 (ev_var (i := 2)) (ea_1 (ev_var (i := 3)) ea_nil)) ⟨_, _, rfl, h2, rfl⟩) o2_eqB
    · exact all_same _ _ fun y _ => decide_eq_true rfl
  · rintro Γ' ρ' F' ⟨rfl, a, rfl⟩
    exact wp_ret hf ev_bl
end
end K01

set_option Elab.async false
set_option linter.all false
set_option maxRecDepth 100000
set_option maxHeartbeats 1000000
namespace K01
open PySem PySem.Spec PyProof.Rows L2 Z K00
section
variable {P : Program} {w : World} {K : PySem.W.Frag} {mg : Str → Option Value} {base : Heap}
theorem has_k {x : Tx} : (hasI x).length = kU x x.s.length := by
  unfold hasI ix kU
  rw [List.length_map]
theorem rows_lot {n : Nat} (hn : n ≤ 9) : ∀ x ∈ (⟨(rowsOf n).reverse⟩ : Tup Tx).l, x.s.length = n ∧ x.s.all isSign = true := fun x hx => by
  have h := List.mem_reverse.mp hx
  exact ⟨rows_sz n x h, (rows_row hn x h).all⟩
abbrev IvF (Γ : Own) (p : Addr) (n c : Nat) (x : Tx) : Nat → Own → Z.Env → Prop := fun i Γ' ρ' => Γ' = Γ ∧ ∃ a, ρ' = [some ⟨(⟨p⟩ : Z.Loc)⟩, some ⟨(n : Int)⟩, some ⟨(⟨rowsOf n⟩ : NL Tx)⟩, some ⟨x⟩, some ⟨(c : Int)⟩, some ⟨((3 ^ (9 - i) : Nat) : Int)⟩, a, none, none, none, none, none]
abbrev IvG (Γ : Own) (p : Addr) (n c : Nat) (x : Tx) : Nat → Own → Z.Env → Prop := fun i Γ' ρ' => Γ' = Γ ∧ ∃ a, ρ' = [some ⟨(⟨p⟩ : Z.Loc)⟩, some ⟨(n : Int)⟩, some ⟨(⟨rowsOf n⟩ : NL Tx)⟩, some ⟨x⟩, some ⟨(c : Int)⟩, some ⟨((3 ^ (n - c) : Nat) : Int)⟩, a, some ⟨((2 ^ i : Nat) : Int)⟩, some ⟨((3 ^ i : Nat) : Int)⟩, none, none, none]
def F__law_right : Pm Bool := fun Γ cs R => ∃ (p : Addr), cs = [⟨(⟨p⟩ : Z.Loc)⟩] ∧ (p, DiceI) ∈ Γ ∧ R = Is true
theorem sc__law_right : FnScope ["_law_dice_here", "_law_size", "_law_rows", "_law_one", "_law_count", "_law_free", "_law_at", "_law_like", "_law_either", "_law_due", "_law_upright", "_law_row"] ["_law_dice_here"] (defScope s__law_right) := ⟨rfl, rfl, rfl, by decide +kernel, rfl, by decide +kernel, by decide +kernel⟩
theorem ok__law_right (T : Txt K mg) (CL : LotT K) (CG : mg "Lot" = some (.ref (He.ga K "Lot"))) {f : Addr} {fd : FuncData} (D : Df K mg "_law_right" s__law_right ["_law_dice_here"] f fd) {f__law_roll : Addr} {fd__law_roll : FuncData} (D__law_roll : Df K mg "_law_roll" s__law_roll ["_law_dice_here", "_law_total"] f__law_roll fd__law_roll) (G__law_roll : FnOk P w K mg base CX0 2 f__law_roll fd__law_roll ["_law_dice_here", "_law_total"] (spD K F__law_roll)) {f__law_are_pairs_right : Addr} {fd__law_are_pairs_right : FuncData} (D__law_are_pairs_right : Df K mg "_law_are_pairs_right" s__law_are_pairs_right ["_law_size"] f__law_are_pairs_right fd__law_are_pairs_right) (G__law_are_pairs_right : FnOk P w K mg base CX0 10 f__law_are_pairs_right fd__law_are_pairs_right ["_law_size"] (spD K F__law_are_pairs_right)) {f__law_every_row : Addr} {fd__law_every_row : FuncData} (D__law_every_row : Df K mg "_law_every_row" s__law_every_row ["_law_size"] f__law_every_row fd__law_every_row) (G__law_every_row : FnOk P w K mg base CX0 2 f__law_every_row fd__law_every_row ["_law_size"] (spD K F__law_every_row)) {f__law_drawn_row : Addr} {fd__law_drawn_row : FuncData} (D__law_drawn_row : Df K mg "_law_drawn_row" s__law_drawn_row ["_law_dice_here", "_law_size"] f__law_drawn_row fd__law_drawn_row) (G__law_drawn_row : FnOk P w K mg base CX0 4 f__law_drawn_row fd__law_drawn_row ["_law_dice_here", "_law_size"] (spD K F__law_drawn_row)) {f_things_of : Addr} {fd_things_of : FuncData} (D_things_of : Df K mg "things_of" s_things_of ["row"] f_things_of fd_things_of) (G_things_of : FnOk P w K mg base CX0 5 f_things_of fd_things_of ["row"] (spD K F_things_of)) {f_is_upright : Addr} {fd_is_upright : FuncData} (D_is_upright : Df K mg "is_upright" s_is_upright ["one", "other"] f_is_upright fd_is_upright) (G_is_upright : FnOk P w K mg base CX0 6 f_is_upright fd_is_upright ["one", "other"] (spD K F_is_upright)) {p_Lot_rows f_Lot_rows : Addr} {fd_Lot_rows : FuncData} (CP_Lot_rows : PropOf K (He.ga K "Lot") "rows" p_Lot_rows f_Lot_rows ∧ DfM K [] "rows" "Lot.rows" s_Lot_rows ["self"] f_Lot_rows fd_Lot_rows) (G_Lot_rows : FnOk P w K mg base CX0 2 f_Lot_rows fd_Lot_rows ["self"] (spD K F_Lot_rows)) {f_all_rows : Addr} {fd_all_rows : FuncData} (D_all_rows : Df K mg "all_rows" s_all_rows ["many"] f_all_rows fd_all_rows) (G_all_rows : GFn P w K mg base 6 f_all_rows fd_all_rows ["many"] (spG K F_all_rows)) (J_all_rows : Zw.GFnJ P w K mg base 6 f_all_rows fd_all_rows ["many"] (spG K F_all_rows)) {f_Lot___init__ : Addr} {fd_Lot___init__ : FuncData} {dv_Lot___init__ : List V} (CP_Lot : Mk K (He.ga K "Lot") f_Lot___init__ ∧ DfM K dv_Lot___init__ "__init__" "Lot.__init__" s_Lot___init__ ["self", "many", "rows"] f_Lot___init__ fd_Lot___init__) (G_Lot___init__ : FnOk P w K mg base CX0 5 f_Lot___init__ fd_Lot___init__ ["self", "many", "rows"] (spI K (He.ga K "Lot") F_Lot___init__)) : FnOk P w K mg base CX0 11 f fd ["_law_dice_here"] (spD K F__law_right) := by
  obtain ⟨_, hI_SHIFT⟩ := T.i_SHIFT
  obtain ⟨_, hI_LOW⟩ := T.i_LOW
  obtain ⟨_, hI_MAX_THINGS⟩ := T.i_MAX_THINGS
  refine def_ok D.F sc__law_right (fun Γ cs R g => ?len) (fun cdv A outer s H E hr Γ cs R g => ?_)
  case len => obtain ⟨p, rfl, _⟩ := g; rfl
  obtain ⟨p, rfl, hp, rfl⟩ := g
  refine ⟨_, (pss_cons (ps_set (i := 1) sc__law_right.nd rfl (by first | exact .inl rfl | exact .inr rfl) (pe_call G__law_roll (hr.mono (by decide)) (by rfl) D__law_roll.g D__law_roll.kp D__law_roll.b .nil pass0 (pa_cons (pv 0) (pa_cons pe_int pa_nil))))
      (pss_cons (ps_asg (pe_tup (pa_cons (pe_call G__law_every_row (hr.mono (by decide)) (by rfl) D__law_every_row.g D__law_every_row.kp D__law_every_row.b .nil pass0 (pa_cons (pv 1) pa_nil)) (pa_cons (pe_call G__law_drawn_row (hr.mono (by decide)) (by rfl) D__law_drawn_row.g D__law_drawn_row.kp D__law_drawn_row.b .nil pass0 (pa_cons (pv 0) (pa_cons (pv 1) pa_nil))) pa_nil))) (pg_tup rfl (pgs_cons (pg_name (i := 2) sc__law_right.nd rfl (by first | exact .inl rfl | exact .inr rfl)) (pgs_cons (pg_name (i := 3) sc__law_right.nd rfl (by first | exact .inl rfl | exact .inr rfl)) pgs_nil))) (by kernel_rfl) (by kernel_rfl))
      (pss_cons (ps_if (PW.pt (pw_or (pt_cmpR (op_neK hr.units) (pe_listG (pgen_call G_all_rows (hr.mono (by decide)) (by rfl) D_all_rows.g D_all_rows.kp D_all_rows.b .nil (pa_cons (pv 1) pa_nil)) hx_noX hns_noX (hr.mono (by decide)) (by rfl) T.z_list (by decide +kernel)) (pv 2) (nomark _)) (pw_or1 (pt_cmpR (op_neK hr.units) (Zw.pe_lcGen (Zw.pgenJ_call J_all_rows (hr.mono (by decide)) (by rfl) D_all_rows.g D_all_rows.kp D_all_rows.b .nil (pa_cons (pv 1) pa_nil)) (hr.mono (by decide)) rfl rfl (by decide +kernel)) (pv 2) (nomark _))))) (pss_one (ps_ret pe_bl)) pss_nil)
      (pss_cons (ps_par (i := 4) (j := 5) (by rfl) sc__law_right.nd rfl rfl (by decide) rfl rfl (pa_cons (pe_callB call_lenK (by rfl) T.z_len (by decide +kernel) (pa_cons (pe_call G_things_of (hr.mono (by decide)) (by rfl) D_things_of.g D_things_of.kp D_things_of.b .nil pass0 (pa_cons (pv 3) pa_nil)) pa_nil)) (pa_cons (pe_op op_pow pe_int pe_int) pa_nil)) (by kernel_rfl))
      (pss_cons (ps_for PassesOwn.never rfl (pi_range1 (by rfl) T.z_range (pa_cons (pe_op op_add (pe_op op_sub pe_int (pv 1)) (pv 4)) pa_nil)) (pg_name (i := 6) sc__law_right.nd rfl (by first | exact .inl rfl | exact .inr rfl))
        (pss_one (ps_set (i := 5) sc__law_right.nd rfl (by first | exact .inl rfl | exact .inr rfl) (pe_op op_fdivN (pv 5) pe_int))))
      (pss_cons (ps_asg (pe_tup (pa_cons pe_int (pa_cons pe_int pa_nil))) (pg_tup rfl (pgs_cons (pg_name (i := 7) sc__law_right.nd rfl (by first | exact .inl rfl | exact .inr rfl)) (pgs_cons (pg_name (i := 8) sc__law_right.nd rfl (by first | exact .inl rfl | exact .inr rfl)) pgs_nil))) (by kernel_rfl) (by kernel_rfl))
      (pss_cons (ps_for PassesOwn.never rfl (pi_range1 (by rfl) T.z_range (pa_cons (pv 4) pa_nil)) (pg_name (i := 6) sc__law_right.nd rfl (by first | exact .inl rfl | exact .inr rfl))
        (pss_one (ps_par (i := 7) (j := 8) (by rfl) sc__law_right.nd rfl rfl (by decide) rfl rfl (pa_cons (pe_op op_mul (pv 7) pe_int) (pa_cons (pe_op op_mul (pv 8) pe_int) pa_nil)) (by kernel_rfl))))
      (pss_cons (ps_set (i := 9) sc__law_right.nd rfl (by first | exact .inl rfl | exact .inr rfl) (pe_op op_mul (pv 5) (pe_op op_add (pe_op op_sub (pv 8) (pe_op op_mul pe_int (pv 7))) pe_int)))
      (pss_cons (ps_setLc (i := 10) (own := [("_law_row", 11)]) (g := (gName 11)) (tt := _) rfl sc__law_right.nd rfl rfl (sw_true rfl rfl rfl (by decide +kernel)) (pi_listK (pv 2)) (blkOk_by (N := ["_law_dice_here", "_law_size", "_law_rows", "_law_one", "_law_count", "_law_free", "_law_at", "_law_like", "_law_either", "_law_due", "_law_upright", "_law_row"]) (sc := defScope s__law_right) (by decide +kernel)) (fun _ _ _ _ _ => (pg_name (i := 11) sc__law_right.nd rfl (by first | exact .inl rfl | exact .inr rfl))) (fun _ _ _ _ _ => (pts_one (pt_val (pe_call G_is_upright (hr.mono (by decide)) (by rfl) D_is_upright.g D_is_upright.kp D_is_upright.b .nil pass0 (pa_cons (pv 3) (pa_cons (pv 11) pa_nil)))))) (fun _ _ _ _ _ => (pv 11)))
      (pss_cons (ps_if (PW.pt (pw_or (pt_cmpR op_ne (pe_callB call_lenK (by rfl) T.z_len (by decide +kernel) (pa_cons (pv 10) pa_nil)) (pv 9) (nomark _)) (pw_or1 (pt_cmpR (op_neK hr.units) (pe_prop (pe_make CP_Lot.1 G_Lot___init__ (hr.mono (by decide)) (by rfl) CG CP_Lot.2.b .nil pass0 (pa_cons (pv 1) (pa_cons (pe_callTy call_tupK (by rfl) T.z_tuple (by decide +kernel) (pa_cons (pe_revK (pv 2)) pa_nil)) pa_nil))) CL.cl CP_Lot_rows.1 G_Lot_rows (hr.mono (by decide)) CP_Lot_rows.2.b .nil pass0 rfl) (pe_callTy call_tupK (by rfl) T.z_tuple (by decide +kernel) (pa_cons (pv 2) pa_nil)) (nomark _))))) (pss_one (ps_ret pe_bl)) pss_nil)
      (pss_one (ps_ret (pe_call G__law_are_pairs_right (hr.mono (by decide)) (by rfl) D__law_are_pairs_right.g D__law_are_pairs_right.kp D__law_are_pairs_right.b .nil pass0 (pa_cons (pe_callB (call_min2 rfl) (by rfl) T.z_min (by decide +kernel) (pa_cons (pv 1) (pa_cons pe_int pa_nil))) pa_nil)))))))))))))), fun Δ0 D' hf hn => ?_⟩
  refine wp_asg (ev_call1 (ea_1 (ev_var (i := 0)) (ea_1 ev_int ea_nil)) ⟨p, 7, rfl, hp, by decide, by decide, rfl⟩) (ltr rfl) fun n hn7 => ?_
  obtain ⟨n, rfl⟩ : ∃ k : Nat, n = k := ⟨n.toNat, by omega⟩
  have h9 : n ≤ 9 := by omega
  have hlen := rows_le h9
  have hok := rows_tok h9
  refine wp_tup2 (Q := fun cs => ∃ x : Tx, cs = [⟨(⟨rowsOf n⟩ : NL Tx)⟩, ⟨x⟩] ∧ DR n x) (ea_cons (Pa := Is (⟨rowsOf n⟩ : NL Tx)) (Ps := fun cs => ∃ x : Tx, cs = [⟨x⟩] ∧ DR n x) (ev_call1 (ea_1 (ev_var (i := 1)) ea_nil) ⟨n, rfl, h9, rfl⟩) (ea_cons (Pa := DR n) (Ps := Is []) (ev_call1 (ea_1 (ev_var (i := 0)) (ea_1 (ev_var (i := 1)) ea_nil)) ⟨p, n, rfl, hp, h9, rfl⟩) ea_nil fun x cs hx hc => ⟨x, by rw [show cs = [] from hc], hx⟩) fun y cs hy hc => by obtain ⟨x, rfl, hx⟩ := hc; exact ⟨x, by rw [show y = _ from hy], hx⟩) (ltr rfl) (ltr rfl) fun cs hcs => ?_
  obtain ⟨x, rfl, hx⟩ := hcs
  refine ⟨_, _, rfl, ?_⟩
  obtain ⟨hx, hl⟩ := hx
  refine wp_no (b := false) rfl (et_or (a := false) (b := false) (et_is (et_test (ev_op1 (ev_listG (ea_1 (ev_var (i := 1)) ea_nil) ⟨n, rfl, h9, rfl⟩) (ev_ofNL (y := ⟨rowsOf n⟩) (ev_var (i := 2))) (o2_neLS hok hok))) (by simp)) fun _ => et_is (et_test (ev_op1 (ev_listG (ea_1 (ev_var (i := 1)) ea_nil) ⟨n, rfl, h9, rfl⟩) (ev_ofNL (y := ⟨rowsOf n⟩) (ev_var (i := 2))) (o2_neLS hok hok))) (by simp)) ?_
  have hk := kU_le x n
  have ek : (hasI x).length = kU x n := by rw [has_k, hl]
  refine wp_par (Q := Is [⟨((kU x n : Nat) : Int)⟩, ⟨((3 ^ 9 : Nat) : Int)⟩]) (ea_1 (ev_is (ev_cb (ev_call1 (ea_1 (ev_var (i := 3)) ea_nil) ⟨x, rfl, hx, rfl⟩) o1_lenT) (by rw [show (⟨hasI x⟩ : Tup Int).l.length = _ from ek])) (ea_1 (ev_is (ev_op1 ev_int ev_int (o2_I (C := CPow) (g := fun i j => i ^ j.toNat) ⟨by decide, by decide, by decide⟩)) (by decide)) ea_nil)) (ltr rfl) (ltr rfl) fun cs hcs => ⟨_, _, hcs, ?_⟩
  refine wp_for (IvF Γ p n (kU x n) x) (src_rng1 (n := 9 - n + kU x n) (ea_1 (ev_is (ev_op1 (ev_op1 ev_int (ev_var (i := 1)) (o2_I0 (g := fun i j => i - j))) (ev_var (i := 4)) (o2_I0 (g := fun i j => i + j))) (by show (9 : Int) - (n : Int) + ((kU x n : Nat) : Int) = _; omega)) ea_nil) (by omega) (ltr rfl)) ⟨rfl, none, rfl⟩ (fun i Γ' ρ' h => by obtain ⟨_, a, rfl⟩ := h; rfl) ?_ ?_
  · rintro i Γ' ρ' F' hi ⟨rfl, a, rfl⟩
    refine wp_asgL (P := Is ((3 ^ (9 - (i + 1)) : Nat) : Int)) (ev_is (ev_op1 (ev_var (i := 5)) ev_int (o2_I (C := CDivN) (g := Int.fdiv) (x := ((3 ^ (9 - i) : Nat) : Int)) (y := 3) ⟨by decide, by decide⟩)) ?_) (ltr rfl) fun r hr => wp_turn (Iv := IvF Γ' p n (kU x n) x) ⟨rfl, some ⟨(i : Int)⟩, by rw [show r = _ from hr]; rfl⟩ rfl
    have e : 9 - i = (9 - (i + 1)) + 1 := by omega
    rw [e, Nat.pow_succ]
    generalize 3 ^ (9 - (i + 1)) = m
    rw [Int.fdiv_eq_ediv_of_nonneg _ (by decide)]
    omega
  · rintro Γ' ρ' F' ⟨rfl, a, rfl⟩
    have e9 : 9 - (9 - n + kU x n) = n - kU x n := by omega
    rw [e9]
    refine wp_tup2 (Q := Is [⟨((2 ^ 0 : Nat) : Int)⟩, ⟨((3 ^ 0 : Nat) : Int)⟩]) (ea_1 ev_int (ea_1 ev_int ea_nil)) (ltr rfl) (ltr rfl) fun cs hcs => ⟨_, _, hcs, ?_⟩
    refine wp_for (IvG Γ' p n (kU x n) x) (src_rng1 (n := kU x n) (ea_1 (ev_var (i := 4)) ea_nil) (by omega) (ltr rfl)) ⟨rfl, a, rfl⟩ (fun i Γ' ρ' h => by obtain ⟨_, a, rfl⟩ := h; rfl) ?_ ?_
    · rintro i Γ1 ρ' F1 hi ⟨rfl, b, rfl⟩
      refine wp_parL (Q := Is [⟨((2 ^ (i + 1) : Nat) : Int)⟩, ⟨((3 ^ (i + 1) : Nat) : Int)⟩]) (ea_1 (ev_is (ev_op1 (ev_var (i := 7)) ev_int (o2_I (C := CMul) (g := fun i j => i * j) (.inr (by decide)))) ?_) (ea_1 (ev_is (ev_op1 (ev_var (i := 8)) ev_int (o2_I (C := CMul) (g := fun i j => i * j) (.inr (by decide)))) ?_) ea_nil)) (ltr rfl) (ltr rfl) fun cs hcs => ⟨_, _, hcs, wp_turn (Iv := IvG Γ1 p n (kU x n) x) ⟨rfl, some ⟨(i : Int)⟩, rfl⟩ rfl⟩
      · show ((2 ^ i : Nat) : Int) * 2 = _
        rw [Nat.pow_succ]
        omega
      · show ((3 ^ i : Nat) : Int) * 3 = _
        rw [Nat.pow_succ]
        omega
    · rintro Γ1 ρ' F1 ⟨rfl, b, rfl⟩
      refine wp_asg1 (a := ((((rowsOf n).filter (upr x)).length : Nat) : Int)) (ev_is (ev_op1 (ev_var (i := 5)) (ev_op1 (ev_op1 (ev_var (i := 8)) (ev_op1 ev_int (ev_var (i := 7)) (o2_I (C := CMul) (g := fun i j => i * j) (.inl (by decide)))) (o2_I0 (g := fun i j => i - j))) ev_int (o2_I0 (g := fun i j => i + j))) (o2_I (C := CMul) (g := fun i j => i * j) (.inl ?_))) (count_up h9 hx hl).symm) (ltr rfl) ?_
      · have h3 : 3 ^ (n - kU x n) ≤ 3 ^ 9 := Nat.pow_le_pow_right (by decide) (by omega)
        have h4 : (3 : Nat) ^ 9 = 19683 := by decide
        generalize 3 ^ (n - kU x n) = m at h3
        exact ⟨by omega, by omega⟩
      refine wp_asg1 (a := (rowsOf n).filter (upr x)) (ev_is (ev_lcD (β := Tx) (xs := rowsOf n) (upr x) id (src_list (x0 := fun i => (rowsOf n).getD i ⟨[]⟩) (ev_ofNL (y := ⟨rowsOf n⟩) (ev_var (i := 2))) (fun i hi => getD_of hi) (ltr rfl)) (by omega) (by decide) fun j y hj => ?_) (List.map_id _)) (ltr rfl) ?_
      · have e : (rowsOf n).getD j ⟨[]⟩ = y := by
          rw [List.getD_eq_getElem?_getD, hj]
          rfl
        have h2 : Row2 x y := rows_row2 h9 hx hl (List.mem_of_getElem? hj)
        subst e
        exact ⟨et_B (ev_call1 (ea_1 (ev_var (i := 3)) (ea_1 (ev_var (i := 11)) ea_nil)) ⟨_, _, rfl, h2, rfl⟩), fun _ => ev_var (i := 11)⟩
      refine wp_no (b := false) rfl (et_or (a := false) (b := false) (et_is (et_test (ev_op1 (ev_cb (ev_var (i := 10)) o1_lenL) (ev_var (i := 9)) o2_neI)) (by simp)) fun _ => et_is (et_test (ev_opP (Pa := fun t : Tup Tx => t.l = rowsOf n) (Pb := Is (⟨rowsOf n⟩ : Tup Tx)) (Pc := Is false) ?_ (ev_cb (ev_ofNL (y := ⟨rowsOf n⟩) (ev_var (i := 2))) o1_tuple) fun t u ht hu => ⟨false, ?_, rfl⟩)) rfl) ?_
      · refine ev_propP (Q := fun L : LotD => L.rows = rowsOf n) isIns_lot ((ev_make (dvs := []) (dcs := []) (fun _ _ => trivial) (ea_1 (ev_var (i := 1)) (ea_1 (ev_cb (ev_rev (ev_ofNL (y := ⟨rowsOf n⟩) (ev_var (i := 2)))) o1_tuple) ea_nil)) ⟨n, ⟨(rowsOf n).reverse⟩, rfl, h9, rows_lot h9, by rw [List.length_reverse]; omega, rfl⟩).imp fun L hL => sorted_rows hL.2.2) fun L hL => ⟨_, ⟨L, rfl, rfl⟩, fun c hc => by rw [show c = _ from hc]; exact hL⟩
      · rw [show u = _ from hu]
        have q := o2_neTS (K := K) (x := t) (y := ⟨rowsOf n⟩) (by rw [ht]; exact hok) hok
        rw [ht, decide_eq_true rfl] at q
        exact q
      refine wp_ret hf (ev_call1 (ea_1 (ev_is (ev_min2 (ev_var (i := 1)) ev_int) (show (if (3 : Int) < (n : Int) then (3 : Int) else (n : Int)) = ((min n 3 : Nat) : Int) by split <;> omega)) ea_nil) ⟨min n 3, rfl, by omega, rfl⟩)
end
end K01

set_option Elab.async false
set_option linter.all false
set_option maxRecDepth 100000
set_option maxHeartbeats 1000000
namespace K01
open PySem PySem.Spec PyProof.Rows L2 Z K00
section
variable {P : Program} {w : World} {K : PySem.W.Frag} {mg : Str → Option Value} {base : Heap}
def F_law : Pm Bool := fun _ cs R => ∃ (xs : List Int), cs = [⟨xs⟩] ∧ R = Is true
abbrev IvL (Γ : Own) (xs : List Int) : Nat → Own → Z.Env → Prop := fun i Γ' ρ' => Γ' = Γ ∧ ∃ a, ρ' = [some ⟨xs⟩, a]
theorem tok_rows {n : Nat} (h : n ≤ 9) {ys : List Tx} (e : ys = rowsOf n) : TOk ys := by
  rw [e]
  exact rows_tok h
theorem sc_law : FnScope ["_law_script", "_law_spot"] ["_law_script"] (defScope s_law) := ⟨rfl, rfl, rfl, by decide +kernel, rfl, by decide +kernel, by decide +kernel⟩
theorem ok_law (T : Txt K mg) {f : Addr} {fd : FuncData} (D : Df K mg "law" s_law ["_law_script"] f fd) {f__law_right : Addr} {fd__law_right : FuncData} (D__law_right : Df K mg "_law_right" s__law_right ["_law_dice_here"] f__law_right fd__law_right) (G__law_right : FnOk P w K mg base CX0 11 f__law_right fd__law_right ["_law_dice_here"] (spD K F__law_right)) {f__law_dice : Addr} {fd__law_dice : FuncData} (D__law_dice : Df K mg "_law_dice" s__law_dice ["_law_script", "_law_spot"] f__law_dice fd__law_dice) (G__law_dice : FnOk P w K mg base CX0 2 f__law_dice fd__law_dice ["_law_script", "_law_spot"] (spF K F__law_dice DiceI)) {f_all_rows : Addr} {fd_all_rows : FuncData} (D_all_rows : Df K mg "all_rows" s_all_rows ["many"] f_all_rows fd_all_rows) (G_all_rows : GFn P w K mg base 6 f_all_rows fd_all_rows ["many"] (spG K F_all_rows)) (J_all_rows : Zw.GFnJ P w K mg base 6 f_all_rows fd_all_rows ["many"] (spG K F_all_rows)) : FnOk P w K mg base CX0 12 f fd ["_law_script"] (spD K F_law) := by
  obtain ⟨_, hI_SHIFT⟩ := T.i_SHIFT
  obtain ⟨_, hI_LOW⟩ := T.i_LOW
  obtain ⟨_, hI_MAX_THINGS⟩ := T.i_MAX_THINGS
  refine def_ok D.F sc_law (fun Γ cs R g => ?len) (fun cdv A outer s H E hr Γ cs R g => ?_)
  case len => obtain ⟨xs, rfl, _⟩ := g; rfl
  obtain ⟨xs, rfl, rfl⟩ := g
  refine ⟨_, (pss_cons (ps_for PassesOwn.never rfl (pi_range1 (by rfl) T.z_range (pa_cons (pe_callB (call_max2 rfl) (by rfl) T.z_max (by decide +kernel) (pa_cons pe_int (pa_cons (pe_callB (call_min2 rfl) (by rfl) T.z_min (by decide +kernel) (pa_cons pe_int (pa_cons (pe_callB call_lenK (by rfl) T.z_len (by decide +kernel) (pa_cons (pv 0) pa_nil)) pa_nil))) pa_nil))) pa_nil)) (pg_name (i := 1) sc_law.nd rfl (by first | exact .inl rfl | exact .inr rfl))
        (pss_one (ps_if (pt_not (pt_val (pe_call G__law_right (hr.mono (by decide)) (by rfl) D__law_right.g D__law_right.kp D__law_right.b .nil pass0 (pa_cons (pe_call G__law_dice (hr.mono (by decide)) (by rfl) D__law_dice.g D__law_dice.kp D__law_dice.b .nil pass0 (pa_cons (pv 0) (pa_cons (pv 1) pa_nil))) pa_nil)))) (pss_one (ps_ret pe_bl)) pss_nil)))
      (pss_one (ps_ret (pe_and (pe_cmpR (op_eqK hr.units) (pe_listG (pgen_call G_all_rows (hr.mono (by decide)) (by rfl) D_all_rows.g D_all_rows.kp D_all_rows.b .nil (pa_cons pe_int pa_nil)) hx_noX hns_noX (hr.mono (by decide)) (by rfl) T.z_list (by decide +kernel)) (pe_lst (pa_cons pe_str pa_nil)) (nomark _)) (pe_and (pe_cmpR (op_eqK hr.units) (pe_listG (pgen_call G_all_rows (hr.mono (by decide)) (by rfl) D_all_rows.g D_all_rows.kp D_all_rows.b .nil (pa_cons pe_int pa_nil)) hx_noX hns_noX (hr.mono (by decide)) (by rfl) T.z_list (by decide +kernel)) (pe_lst (pa_cons pe_str (pa_cons pe_str (pa_cons pe_str pa_nil)))) (nomark _)) (pe_one (pe_cmpR op_eq (pe_callB call_lenK (by rfl) T.z_len (by decide +kernel) (pa_cons (pe_listG (pgen_call G_all_rows (hr.mono (by decide)) (by rfl) D_all_rows.g D_all_rows.kp D_all_rows.b .nil (pa_cons pe_int pa_nil)) hx_noX hns_noX (hr.mono (by decide)) (by rfl) T.z_list (by decide +kernel)) pa_nil)) pe_int (nomark _)))))))), fun Δ0 D' hf hn => ?_⟩
  obtain ⟨n, hn5, en⟩ : ∃ n : Nat, n ≤ 3 ∧ (if (if (xs.length : Int) < 3 then (xs.length : Int) else 3) > 1 then (if (xs.length : Int) < 3 then (xs.length : Int) else 3) else 1) = (n : Int) := by
    refine ⟨(if (if (xs.length : Int) < 3 then (xs.length : Int) else 3) > 1 then (if (xs.length : Int) < 3 then (xs.length : Int) else 3) else 1).toNat, ?_, ?_⟩
    · split <;> (try split) <;> omega
    · rw [Int.toNat_of_nonneg]
      split <;> (try split) <;> omega
  refine wp_for (IvL Γ xs) (src_rng1 (n := n) (ea_1 (ev_is (ev_max2 ev_int (ev_min2 ev_int (ev_cb (ev_var (i := 0) (a := xs)) o1_lenL))) en) ea_nil) (by omega) (ltr rfl)) ⟨rfl, none, rfl⟩ (fun i Γ' ρ' h => by obtain ⟨_, a, rfl⟩ := h; rfl) ?_ ?_
  · rintro i Γ' ρ' F' hi ⟨rfl, a, rfl⟩
    exact wp_noL (b := false) rfl (et_not (a := true) (et_B (ev_callF (ea_1 (ev_var (i := 0) (a := xs)) (ea_1 (ev_var (i := 1)) ea_nil)) ⟨xs, i, rfl⟩ fun p => ⟨p, rfl, List.mem_cons_self, rfl⟩))) (wp_turn (Iv := IvL Γ' xs) ⟨rfl, some ⟨(i : Int)⟩, rfl⟩ rfl)
  · rintro Γ' ρ' F' ⟨rfl, a, rfl⟩
    refine wp_ret hf (ev_is (ev_andV (a := true) (b := true) (ev_is (ev_op1 (ev_listG (ea_1 (ev_int (i := ((0 : Nat) : Int))) ea_nil) ⟨0, rfl, by decide, rfl⟩) (ev_lst (xs := [(⟨[]⟩ : Tx)]) (ea_1 (ev_strc []) ea_nil) (by decide)) (o2_eqLS (rows_tok (by decide)) (tok_rows (n := 0) (by decide) rfl))) (by decide +kernel)) fun _ => ev_is (ev_andV (a := true) (b := true) (ev_is (ev_op1 (ev_listG (ea_1 (ev_int (i := ((1 : Nat) : Int))) ea_nil) ⟨1, rfl, by decide, rfl⟩) (ev_lst (xs := [(⟨[43]⟩ : Tx), ⟨[45]⟩, ⟨[48]⟩]) (ea_1 (ev_strc [43]) (ea_1 (ev_strc [45]) (ea_1 (ev_strc [48]) ea_nil))) (by decide)) (o2_eqLS (rows_tok (by decide)) (tok_rows (n := 1) (by decide) rfl))) (by decide +kernel)) fun _ => ev_is (ev_op1 (ev_cb (ev_listG (ea_1 (ev_int (i := ((5 : Nat) : Int))) ea_nil) ⟨5, rfl, by decide, rfl⟩) o1_lenL) ev_int o2_eqI) (by rw [rows_len]; decide)) rfl) rfl)
end
end K01

set_option Elab.async false
set_option linter.all false
set_option maxRecDepth 100000
set_option maxHeartbeats 1000000
namespace K01
open PySem PySem.Spec PyProof.Rows L2 Z
section
variable {P : Program} {w : World} {K : PySem.W.Frag} {mg : Str → Option Value} {base : Heap}
theorem okJ_all_rows (T : Txt K mg) {f : Addr} {fd : FuncData} (D : Df K mg "all_rows" s_all_rows ["many"] f fd) {f_check_many : Addr} {fd_check_many : FuncData} (D_check_many : Df K mg "check_many" s_check_many ["many"] f_check_many fd_check_many) (G_check_many : FnOk P w K mg base CX0 4 f_check_many fd_check_many ["many"] (spD K F_check_many)) :
    Zw.GFnJ P w K mg base 6 f fd ["many"] (spG K F_all_rows) := by
  refine def_okJ D.F gsc_all_rows (fun Γ cs R g => ?len) (fun cdv A outer s H pn hr Γ cs R g => ?_)
  case len => obtain ⟨n, rfl, _⟩ := g; rfl
  obtain ⟨n, rfl, hn9, rfl⟩ := g
  refine ⟨_, (Zw.bj_cons (Zw.sj_plain (ps_expr (pe_call G_check_many (hr.mono (by decide)) (by rfl) D_check_many.g D_check_many.kp D_check_many.b .nil pass0 (pa_cons (pv 0) pa_nil))))
    (Zw.bj_cons (Zw.sj_plain (ps_set (i := 1) gsc_all_rows.nd rfl (by first | exact .inl rfl | exact .inr rfl) (pe_lst (pa_cons pe_str pa_nil))))
    (Zw.bj_cons (Zw.sj_plain (ps_for owns_gcx rfl (pi_range1 (by rfl) T.z_range (pa_cons (pv 0) pa_nil)) (pg_name (i := 2) gsc_all_rows.nd rfl (by first | exact .inl rfl | exact .inr rfl))
      (pss_one (ps_setLc2 (i := 1) (own := [("row", 3), ("sign", 4)]) (vs1 := [4]) (g := (gName 3)) (tt := tYes) (g1 := (gName 4)) (tt1 := tYes) rfl gsc_all_rows.nd rfl rfl (by kernel_rfl) (pi_listK (pv 1)) (blkOk_by (N := ["many", "rows", "_", "row", "sign"]) (sc := defScope s_all_rows) (by decide +kernel)) (by decide)
        (fun _ _ _ _ _ => pg_name (i := 3) gsc_all_rows.nd rfl (by first | exact .inl rfl | exact .inr rfl)) (fun _ _ _ _ _ => pts_nil) (fun _ _ _ _ _ => pi_str pe_str) (fun _ _ _ _ _ => pg_name (i := 4) gsc_all_rows.nd rfl (by first | exact .inl rfl | exact .inr rfl)) (fun _ _ _ _ _ => pts_nil) (fun _ _ _ _ _ => pe_op op_add_str (pv 3) (pv 4))))))
    (Zw.bj_cons (Zw.sj_from (Zy.yf_lst (pv 1)) hr.hd) Zw.bj_nil)))), fun Δ0 D' hf => ?_⟩
  refine wpg_plain (wp_drop (ev_call1 (ea_1 (ev_var (i := 0)) ea_nil) ⟨n, rfl, hn9, rfl⟩) (wpg_rest (wpg_plain (wp_asg1 (a := (⟨rowsOf 0⟩ : NL Tx)) (ev_lstN (xs := [(⟨[]⟩ : Tx)]) (ea_1 (ev_strc []) ea_nil) (by decide)) (ltr rfl) (wpg_rest (wpg_plain (wp_for (IvR Γ n) (src_rng1 (n := n) (ea_1 (ev_var (i := 0)) ea_nil) (by omega) (ltr rfl)) ⟨rfl, none, none, none, rfl⟩ (fun i Γ' ρ' h => by obtain ⟨_, a, b, c, rfl⟩ := h; rfl) ?_ ?_)))))))
  · rintro i Γ' ρ' F' hi ⟨rfl, a, b, c, rfl⟩
    have hlen : (rowsOf i).length ≤ 6561 := by
      rw [rows_len]
      exact Nat.pow_le_pow_right (n := 3) (by decide) (show i ≤ 8 by omega)
    refine wp_asgL (P := Is (⟨rowsOf (i + 1)⟩ : NL Tx)) ((ev_lc2 (β := Tx) (m := fun _ => 3) (fun i' j acc => acc = part (rowsOf i) i' j) (src_list (xs := rowsOf i) (x0 := fun k => (rowsOf i).getD k ⟨[]⟩) (ev_ofNL (y := ⟨rowsOf i⟩) (ev_var (i := 1))) (fun k hk => getD_of hk) (j := 3) (ltr rfl)) (by decide) (fun i' _ => src_str (x := ⟨[43, 45, 48]⟩) (c0 := sg3) (ev_strc [43, 45, 48]) (fun k hk => ?_) (j := 4) (ltr rfl)) (by decide) ?_ (fun i' j acc h => ?_) (fun i' j acc h1 h2 h => ⟨Is (⟨((rowsOf i).getD i' ⟨[]⟩).s ++ [sg3 j]⟩ : Tx), ?_, fun b' hb' => ?_⟩) (fun i' acc h1 h => ?_)).imp fun r hr => ?_) (ltr rfl) (fun r hr => wp_turn (Iv := IvR Γ' n) ⟨rfl, some ⟨(i : Int)⟩, b, c, ?_⟩ rfl)
    · match k, hk with
      | 0, _ => rfl
      | 1, _ => rfl
      | 2, _ => rfl
    · simp [part]
    · rw [h]
      exact Nat.le_trans part_len (by omega)
    · have hs := rows_sz i ((rowsOf i).getD i' ⟨[]⟩) (List.mem_of_getElem? (getD_of h1))
      exact ev_op1 (ev_var (i := 3)) (ev_var (i := 4)) (o2_addS (x := (rowsOf i).getD i' ⟨[]⟩) (y := ⟨[sg3 j]⟩) (by rw [hs]; simp; omega))
    · rw [show b' = _ from hb', part_sign h2, h]
    · rw [h, part_next h1]
    · show r = _
      have e : r.l = part (rowsOf i) (rowsOf i).length 0 := hr
      cases r
      congr 1
      refine Eq.trans e ?_
      simp [part, rowsOf]
    · rw [show r = _ from hr]
      rfl
  · rintro Γ' ρ' F' ⟨rfl, a, b, c, rfl⟩
    refine wpg_rest (wpg_from (P := Is (⟨rowsOf n⟩ : NL Tx)) rfl (ev_var (i := 1)) (fun xs h => ?_) (fun out σ H' xs h e q => hf out σ H' xs.l (by rw [show xs = _ from h]) e q))
    · rw [show xs = _ from h, rows_len]
      exact Nat.le_trans (Nat.pow_le_pow_right (n := 3) (by decide) hn9) (by decide)
end
end K01

set_option Elab.async false
set_option linter.all false
set_option maxRecDepth 100000
set_option maxHeartbeats 0
namespace Hd
open PySem PySem.Spec PyProof.Rows L2
def top (i : Nat) : Stmt := PySem.Challenge.pw_sidesigns_k01_whole_all_rows_of_a_size.main.body.getD i (.Pass ⟨0, 0, 0, 0⟩)
abbrev s_wall : Stmt := top 0
def d_wall : He.DefD := ⟨("_wall", none), "_wall", "_wall", defArgs s_wall, defBody s_wall, defScope s_wall, [], []⟩
abbrev s_InvalidNumber_init : Stmt := inClass (top 5) 0
def d_InvalidNumber_init : He.DefD := ⟨("InvalidNumber", some "__init__"), "__init__", "InvalidNumber.__init__", defArgs s_InvalidNumber_init, defBody s_InvalidNumber_init, defScope s_InvalidNumber_init, [], []⟩
abbrev s_is_integer : Stmt := top 7
def d_is_integer : He.DefD := ⟨("is_integer", none), "is_integer", "is_integer", defArgs s_is_integer, defBody s_is_integer, defScope s_is_integer, [], []⟩
abbrev s_is_between : Stmt := top 8
def d_is_between : He.DefD := ⟨("is_between", none), "is_between", "is_between", defArgs s_is_between, defBody s_is_between, defScope s_is_between, [], []⟩
abbrev s_code_of : Stmt := top 12
def d_code_of : He.DefD := ⟨("code_of", none), "code_of", "code_of", defArgs s_code_of, defBody s_code_of, defScope s_code_of, [], []⟩
abbrev s_turned_code : Stmt := top 13
def d_turned_code : He.DefD := ⟨("turned_code", none), "turned_code", "turned_code", defArgs s_turned_code, defBody s_turned_code, defScope s_turned_code, [], []⟩
abbrev s_mask_of : Stmt := top 14
def d_mask_of : He.DefD := ⟨("mask_of", none), "mask_of", "mask_of", defArgs s_mask_of, defBody s_mask_of, defScope s_mask_of, [], []⟩
abbrev s_has_within : Stmt := top 15
def d_has_within : He.DefD := ⟨("has_within", none), "has_within", "has_within", defArgs s_has_within, defBody s_has_within, defScope s_has_within, [], []⟩
abbrev s_least_masks : Stmt := top 16
def d_least_masks : He.DefD := ⟨("least_masks", none), "least_masks", "least_masks", defArgs s_least_masks, defBody s_least_masks, defScope s_least_masks, [], []⟩
abbrev s_size_of : Stmt := top 17
def d_size_of : He.DefD := ⟨("size_of", none), "size_of", "size_of", defArgs s_size_of, defBody s_size_of, defScope s_size_of, [], []⟩
abbrev s_is_row : Stmt := top 20
def d_is_row : He.DefD := ⟨("is_row", none), "is_row", "is_row", defArgs s_is_row, defBody s_is_row, defScope s_is_row, [], []⟩
abbrev s_check_many : Stmt := top 21
def d_check_many : He.DefD := ⟨("check_many", none), "check_many", "check_many", defArgs s_check_many, defBody s_check_many, defScope s_check_many, [], []⟩
abbrev s_check_row : Stmt := top 22
def d_check_row : He.DefD := ⟨("check_row", none), "check_row", "check_row", defArgs s_check_row, defBody s_check_row, defScope s_check_row, [], []⟩
abbrev s_check_any_row : Stmt := top 23
def d_check_any_row : He.DefD := ⟨("check_any_row", none), "check_any_row", "check_any_row", defArgs s_check_any_row, defBody s_check_any_row, defScope s_check_any_row, [], []⟩
abbrev s_check_rows : Stmt := top 24
def d_check_rows : He.DefD := ⟨("_check_rows", none), "_check_rows", "_check_rows", defArgs s_check_rows, defBody s_check_rows, defScope s_check_rows, [], []⟩
abbrev s_is_upright : Stmt := top 25
def d_is_upright : He.DefD := ⟨("is_upright", none), "is_upright", "is_upright", defArgs s_is_upright, defBody s_is_upright, defScope s_is_upright, [], []⟩
abbrev s_is_code_upright : Stmt := top 26
def d_is_code_upright : He.DefD := ⟨("_is_code_upright", none), "_is_code_upright", "_is_code_upright", defArgs s_is_code_upright, defBody s_is_code_upright, defScope s_is_code_upright, [], []⟩
abbrev s_things_of : Stmt := top 27
def d_things_of : He.DefD := ⟨("things_of", none), "things_of", "things_of", defArgs s_things_of, defBody s_things_of, defScope s_things_of, [], []⟩
abbrev s_all_rows : Stmt := top 28
def d_all_rows : He.DefD := ⟨("all_rows", none), "all_rows", "all_rows", defArgs s_all_rows, defBody s_all_rows, defScope s_all_rows, [], []⟩
abbrev s_Lot_init : Stmt := inClass (top 29) 0
def d_Lot_init : He.DefD := ⟨("Lot", some "__init__"), "__init__", "Lot.__init__", defArgs s_Lot_init, defBody s_Lot_init, defScope s_Lot_init, [.adr (He.dflAt ("Lot", some "__init__") 0)], []⟩
abbrev s_Lot_many : Stmt := inClass (top 29) 1
def d_Lot_many : Zh.GetD := ⟨"Lot", "many", "Lot.many", defArgs s_Lot_many, defBody s_Lot_many, defScope s_Lot_many⟩
abbrev s_Lot_rows : Stmt := inClass (top 29) 2
def d_Lot_rows : Zh.GetD := ⟨"Lot", "rows", "Lot.rows", defArgs s_Lot_rows, defBody s_Lot_rows, defScope s_Lot_rows⟩
abbrev s_Lot_is_even : Stmt := inClass (top 29) 3
def d_Lot_is_even : Zh.GetD := ⟨"Lot", "is_even", "Lot.is_even", defArgs s_Lot_is_even, defBody s_Lot_is_even, defScope s_Lot_is_even⟩
abbrev s_Lot_len : Stmt := inClass (top 29) 4
def d_Lot_len : He.DefD := ⟨("Lot", some "__len__"), "__len__", "Lot.__len__", defArgs s_Lot_len, defBody s_Lot_len, defScope s_Lot_len, [], []⟩
abbrev s_Lot_iter : Stmt := inClass (top 29) 5
def d_Lot_iter : He.DefD := ⟨("Lot", some "__iter__"), "__iter__", "Lot.__iter__", defArgs s_Lot_iter, defBody s_Lot_iter, defScope s_Lot_iter, [], []⟩
abbrev s_Lot_contains : Stmt := inClass (top 29) 6
def d_Lot_contains : He.DefD := ⟨("Lot", some "__contains__"), "__contains__", "Lot.__contains__", defArgs s_Lot_contains, defBody s_Lot_contains, defScope s_Lot_contains, [], []⟩
abbrev s_Lot_eq : Stmt := inClass (top 29) 7
def d_Lot_eq : He.DefD := ⟨("Lot", some "__eq__"), "__eq__", "Lot.__eq__", defArgs s_Lot_eq, defBody s_Lot_eq, defScope s_Lot_eq, [], []⟩
abbrev s_Lot_str : Stmt := inClass (top 29) 8
def d_Lot_str : He.DefD := ⟨("Lot", some "__str__"), "__str__", "Lot.__str__", defArgs s_Lot_str, defBody s_Lot_str, defScope s_Lot_str, [], []⟩
abbrev s_Lot_or : Stmt := inClass (top 29) 9
def d_Lot_or : He.DefD := ⟨("Lot", some "__or__"), "__or__", "Lot.__or__", defArgs s_Lot_or, defBody s_Lot_or, defScope s_Lot_or, [], []⟩
abbrev s_Lot_and : Stmt := inClass (top 29) 10
def d_Lot_and : He.DefD := ⟨("Lot", some "__and__"), "__and__", "Lot.__and__", defArgs s_Lot_and, defBody s_Lot_and, defScope s_Lot_and, [], []⟩
abbrev s_Lot_sub : Stmt := inClass (top 29) 11
def d_Lot_sub : He.DefD := ⟨("Lot", some "__sub__"), "__sub__", "Lot.__sub__", defArgs s_Lot_sub, defBody s_Lot_sub, defScope s_Lot_sub, [], []⟩
abbrev s_Lot_least : Stmt := inClass (top 29) 12
def d_Lot_least : He.DefD := ⟨("Lot", some "least"), "least", "Lot.least", defArgs s_Lot_least, defBody s_Lot_least, defScope s_Lot_least, [], []⟩
abbrev s_Lot_with_turned : Stmt := inClass (top 29) 13
def d_Lot_with_turned : He.DefD := ⟨("Lot", some "with_turned"), "with_turned", "Lot.with_turned", defArgs s_Lot_with_turned, defBody s_Lot_with_turned, defScope s_Lot_with_turned, [], []⟩
abbrev s_Lot_turned_at : Stmt := inClass (top 29) 14
def d_Lot_turned_at : He.DefD := ⟨("Lot", some "turned_at"), "turned_at", "Lot.turned_at", defArgs s_Lot_turned_at, defBody s_Lot_turned_at, defScope s_Lot_turned_at, [], []⟩
abbrev s_Lot_layings : Stmt := inClass (top 29) 15
def d_Lot_layings : He.DefD := ⟨("Lot", some "layings"), "layings", "Lot.layings", defArgs s_Lot_layings, defBody s_Lot_layings, defScope s_Lot_layings, [], []⟩
abbrev s_Lot_uprights : Stmt := inClass (top 29) 16
def d_Lot_uprights : He.DefD := ⟨("Lot", some "uprights"), "uprights", "Lot.uprights", defArgs s_Lot_uprights, defBody s_Lot_uprights, defScope s_Lot_uprights, [], []⟩
abbrev s_check_alike : Stmt := top 30
def d_check_alike : He.DefD := ⟨("_check_alike", none), "_check_alike", "_check_alike", defArgs s_check_alike, defBody s_check_alike, defScope s_check_alike, [], []⟩
abbrev s_law_dice : Stmt := top 32
def d_law_dice : He.DefD := ⟨("_law_dice", none), "_law_dice", "_law_dice", defArgs s_law_dice, defBody s_law_dice, defScope s_law_dice, [], []⟩
abbrev s_law_roll : Stmt := top 33
def d_law_roll : He.DefD := ⟨("_law_roll", none), "_law_roll", "_law_roll", defArgs s_law_roll, defBody s_law_roll, defScope s_law_roll, [], []⟩
abbrev s_law_pick : Stmt := top 34
def d_law_pick : He.DefD := ⟨("_law_pick", none), "_law_pick", "_law_pick", defArgs s_law_pick, defBody s_law_pick, defScope s_law_pick, [], []⟩
abbrev s_law_drawn_row : Stmt := top 35
def d_law_drawn_row : He.DefD := ⟨("_law_drawn_row", none), "_law_drawn_row", "_law_drawn_row", defArgs s_law_drawn_row, defBody s_law_drawn_row, defScope s_law_drawn_row, [], []⟩
abbrev s_law_every_row : Stmt := top 36
def d_law_every_row : He.DefD := ⟨("_law_every_row", none), "_law_every_row", "_law_every_row", defArgs s_law_every_row, defBody s_law_every_row, defScope s_law_every_row, [], []⟩
abbrev s_law_balances : Stmt := top 37
def d_law_balances : He.DefD := ⟨("_law_balances", none), "_law_balances", "_law_balances", defArgs s_law_balances, defBody s_law_balances, defScope s_law_balances, [], []⟩
abbrev s_law_are_pairs_right : Stmt := top 38
def d_law_are_pairs_right : He.DefD := ⟨("_law_are_pairs_right", none), "_law_are_pairs_right", "_law_are_pairs_right", defArgs s_law_are_pairs_right, defBody s_law_are_pairs_right, defScope s_law_are_pairs_right, [], []⟩
abbrev s_law_right : Stmt := top 39
def d_law_right : He.DefD := ⟨("_law_right", none), "_law_right", "_law_right", defArgs s_law_right, defBody s_law_right, defScope s_law_right, [], []⟩
abbrev s_law : Stmt := top 40
def d_law : He.DefD := ⟨("law", none), "law", "law", defArgs s_law, defBody s_law, defScope s_law, [], []⟩
def fn : List He.DefD := [d_wall, d_InvalidNumber_init, d_is_integer, d_is_between, d_code_of, d_turned_code, d_mask_of, d_has_within, d_least_masks, d_size_of, d_is_row, d_check_many, d_check_row, d_check_any_row, d_check_rows, d_is_upright, d_is_code_upright, d_things_of, d_all_rows, d_Lot_init, d_Lot_len, d_Lot_iter, d_Lot_contains, d_Lot_eq, d_Lot_str, d_Lot_or, d_Lot_and, d_Lot_sub, d_Lot_least, d_Lot_with_turned, d_Lot_turned_at, d_Lot_layings, d_Lot_uprights, d_check_alike, d_law_dice, d_law_roll, d_law_pick, d_law_drawn_row, d_law_every_row, d_law_balances, d_law_are_pairs_right, d_law_right, d_law]
def gs : List Zh.GetD := [d_Lot_many, d_Lot_rows, d_Lot_is_even]
def ts : List (PySem.W.Frag → Bool) := [fun K => Zo.lineOk K (He.ga K "Lot"), fun K => decide (PySem.W.findIn K (.ref (He.ga K "Lot")) "__ne__" = some (some (.builtin "object.__ne__"))), fun K => decide (PySem.W.mroIn K (He.ga K "Lot") (.type "object") = some true), fun K => decide (PySem.W.findIn K (.ref (He.ga K "Lot")) "__class__" = some (some (.builtin "object.__class__"))), fun K => decide (PySem.W.specialIn K (.builtin "object.__class__") "__get__" = some (some (.builtin "getset_descriptor.__get__"))), fun K => decide (PySem.W.takesIn K (.builtin "object.__class__") = some true)]
def fa : List He.Fa := [.glo "_wall", .glo "is_integer", .glo "is_between", .glo "code_of", .glo "turned_code", .glo "mask_of", .glo "has_within", .glo "least_masks", .glo "size_of", .glo "is_row", .glo "check_many", .glo "check_row", .glo "check_any_row", .glo "_check_rows", .glo "is_upright", .glo "_is_code_upright", .glo "things_of", .glo "all_rows", .glo "_check_alike", .glo "_law_dice", .glo "_law_roll", .glo "_law_pick", .glo "_law_drawn_row", .glo "_law_every_row", .glo "_law_balances", .glo "_law_are_pairs_right", .glo "_law_right", .glo "law", .int "SHIFT" 9, .int "LOW" 511, .int "MAX_THINGS" 9, .free "IndexError", .free "NotImplemented", .free "ValueError", .free "abs", .free "all", .free "bool", .free "enumerate", .free "int", .free "isinstance", .free "iter", .free "len", .free "list", .free "max", .free "min", .free "property", .free "range", .free "sorted", .free "str", .free "tuple", .free "zip", .glo "SignsError", .glo "InvalidRow", .glo "InvalidLot", .glo "InvalidNumber", .glo "Lot", .cls "Lot", .mkr "Lot", .noat "Lot" "_known", .noat "Lot" "_many", .noat "Lot" "_rows", .meth "Lot" "__init__", .meth "Lot" "__len__", .meth "Lot" "__iter__", .meth "Lot" "__contains__", .meth "Lot" "__eq__", .meth "Lot" "__str__", .meth "Lot" "__or__", .meth "Lot" "__and__", .meth "Lot" "__sub__", .meth "Lot" "least", .meth "Lot" "with_turned", .meth "Lot" "turned_at", .meth "Lot" "layings", .meth "Lot" "uprights"]
def names : List PySem.Str := (["_wall", "SignsError", "InvalidRow", "InvalidLot", "InvalidNumber", "is_integer", "is_between", "SHIFT", "LOW", "code_of", "turned_code", "mask_of", "has_within", "least_masks", "size_of", "MAX_THINGS", "is_row", "check_many", "check_row", "check_any_row", "_check_rows", "is_upright", "_is_code_upright", "things_of", "all_rows", "Lot", "_check_alike", "_law_dice", "_law_roll", "_law_pick"] : List PySem.Str) ++ (["_law_drawn_row", "_law_every_row", "_law_balances", "_law_are_pairs_right", "_law_right"] : List PySem.Str)
abbrev R : PySem.W.OpenRow := PySem.W.OpenLaw.row PySem.Challenge.rw_sidesigns_k01_whole_all_rows_of_a_size
abbrev hk : PySem.W.Hook := Zh.hookP 5 fa fn gs ts
def ob (s : PySem.W.SharedT) : Zh.AlP := Zh.obsPG 5 fa fn gs ts (HandSHeadRun.getT s)
theorem ob_eq (s : PySem.W.SharedT) : ob s = hk.obs s.abs := Zh.obsPG_eq (HandSHeadRun.getT_eq s)
theorem run (w : World) : HandSHeadRun.RunEq R (PySem.W.view R.prog [40]) hk ob 9000 names w := by
  intro os
  kernel_rfl
end Hd

set_option Elab.async false
set_option linter.all false
set_option maxRecDepth 100000
set_option maxHeartbeats 0
namespace K01
open PySem PySem.Spec PyProof.Rows L2 Z
theorem all2_ints {K : PySem.W.Frag} {Δ : Gh} {H : Hp} : ∀ ns : List Int, All2 (fun (u : V) (a : Int) => Rp.rp K Δ H u a) (ns.map V.int) ns
  | [] => trivial
  | _ :: ns => ⟨rfl, all2_ints ns⟩
theorem start_law {K : PySem.W.Frag} {H : Hp} {a : Addr} {ns : List Int} (hS : SqL K H a (ns.map V.int)) : spD K F_law [.ref a] H (fun v _ => v = .bl true) fun _ _ _ => False := by
  refine ⟨[], fun _ => none, [⟨ns⟩], Is true, ⟨ns, rfl, rfl⟩, fun p hp => (nomatch hp), fun a I h => (nomatch h), ⟨⟨a, ns.map V.int, rfl, ?_, hS, ?_⟩, trivial⟩, fun v H' b hb _ r => ?_⟩
  · rcases hS with h | h
    · exact .inl ⟨rfl, h⟩
    · exact .inr h
  · exact all2_ints ns
  · rw [show v = .bl b from r, show b = true from hb]
theorem facts {P : Program} {w : World} {K : PySem.W.Frag} {h : Heap} {mg : Str → Option Value} {f : Addr} (X : K.In h) (G : h.Ns mainGlobals mg) (hfa : mg ("law" : Str) = some (.ref f)) (c : Zh.SaysP Hd.fa Hd.fn Hd.gs Hd.ts K) :
    ∃ fd : FuncData, (∀ (s : Shared) (v : Value), BindsTo s fd ⟨[v], []⟩ [("_law_script", v)]) ∧ ∀ base : Heap, K.In base → base.Ns mainGlobals mg → FnOk P w K mg base CX0 12 f fd ["_law_script"] (spD K F_law) := by
  have T : Txt K mg := ⟨He.free_ok X G (c.d.fact 34 (f := .free "abs") rfl), He.free_ok X G (c.d.fact 35 (f := .free "all") rfl), He.free_ok X G (c.d.fact 36 (f := .free "bool") rfl), He.free_ok X G (c.d.fact 37 (f := .free "enumerate") rfl), He.free_ok X G (c.d.fact 38 (f := .free "int") rfl), He.free_ok X G (c.d.fact 39 (f := .free "isinstance") rfl), He.free_ok X G (c.d.fact 40 (f := .free "iter") rfl), He.free_ok X G (c.d.fact 41 (f := .free "len") rfl), He.free_ok X G (c.d.fact 42 (f := .free "list") rfl), He.free_ok X G (c.d.fact 43 (f := .free "max") rfl), He.free_ok X G (c.d.fact 44 (f := .free "min") rfl), He.free_ok X G (c.d.fact 45 (f := .free "property") rfl), He.free_ok X G (c.d.fact 46 (f := .free "range") rfl), He.free_ok X G (c.d.fact 47 (f := .free "sorted") rfl), He.free_ok X G (c.d.fact 48 (f := .free "str") rfl), He.free_ok X G (c.d.fact 49 (f := .free "tuple") rfl), He.free_ok X G (c.d.fact 50 (f := .free "zip") rfl), He.int_ok X G (c.d.fact 28 (f := .int "SHIFT" 9) rfl), He.int_ok X G (c.d.fact 29 (f := .int "LOW" 511) rfl), He.int_ok X G (c.d.fact 30 (f := .int "MAX_THINGS" 9) rfl)⟩
  have CL : LotT K := ⟨He.cls_ok (c.d.fact 56 (f := .cls "Lot") rfl), He.noat_ok (c.d.fact 59 (f := .noat "Lot" "_many") rfl), He.noat_ok (c.d.fact 58 (f := .noat "Lot" "_known") rfl), He.noat_ok (c.d.fact 60 (f := .noat "Lot" "_rows") rfl), of_decide_eq_true (c.test 3), of_decide_eq_true (c.test 4), of_decide_eq_true (c.test 5), of_decide_eq_true (c.test 2)⟩
  have CG : mg "Lot" = some (.ref (He.ga K "Lot")) := He.glo_ok X G (c.d.fact 55 (f := .glo "Lot") rfl)
  obtain ⟨fd__law_roll, F__law_roll'⟩ := c.d.def_ 35 (d := Hd.d_law_roll) rfl
  have D__law_roll : Df K mg "_law_roll" s__law_roll ["_law_dice_here", "_law_total"] _ fd__law_roll := ⟨F__law_roll', He.glo_ok X G (c.d.fact 20 (f := .glo "_law_roll") rfl), F__law_roll'.bindsN fun _ _ _ _ _ _ us hl => match us, hl with | [_,_], _ => rfl⟩
  obtain ⟨fd_is_integer, F_is_integer'⟩ := c.d.def_ 2 (d := Hd.d_is_integer) rfl
  have D_is_integer : Df K mg "is_integer" s_is_integer ["value"] _ fd_is_integer := ⟨F_is_integer', He.glo_ok X G (c.d.fact 1 (f := .glo "is_integer") rfl), F_is_integer'.bindsN fun _ _ _ _ _ _ us hl => match us, hl with | [_], _ => rfl⟩
  obtain ⟨fd_is_between, F_is_between'⟩ := c.d.def_ 3 (d := Hd.d_is_between) rfl
  have D_is_between : Df K mg "is_between" s_is_between ["value", "least", "most"] _ fd_is_between := ⟨F_is_between', He.glo_ok X G (c.d.fact 2 (f := .glo "is_between") rfl), F_is_between'.bindsN fun _ _ _ _ _ _ us hl => match us, hl with | [_,_,_], _ => rfl⟩
  obtain ⟨fd_check_many, F_check_many'⟩ := c.d.def_ 11 (d := Hd.d_check_many) rfl
  have D_check_many : Df K mg "check_many" s_check_many ["many"] _ fd_check_many := ⟨F_check_many', He.glo_ok X G (c.d.fact 10 (f := .glo "check_many") rfl), F_check_many'.bindsN fun _ _ _ _ _ _ us hl => match us, hl with | [_], _ => rfl⟩
  obtain ⟨fd_all_rows, F_all_rows'⟩ := c.d.def_ 18 (d := Hd.d_all_rows) rfl
  have D_all_rows : Df K mg "all_rows" s_all_rows ["many"] _ fd_all_rows := ⟨F_all_rows', He.glo_ok X G (c.d.fact 17 (f := .glo "all_rows") rfl), F_all_rows'.bindsN fun _ _ _ _ _ _ us hl => match us, hl with | [_], _ => rfl⟩
  obtain ⟨fd_is_row, F_is_row'⟩ := c.d.def_ 10 (d := Hd.d_is_row) rfl
  have D_is_row : Df K mg "is_row" s_is_row ["value", "many"] _ fd_is_row := ⟨F_is_row', He.glo_ok X G (c.d.fact 9 (f := .glo "is_row") rfl), F_is_row'.bindsN fun _ _ _ _ _ _ us hl => match us, hl with | [_,_], _ => rfl⟩
  obtain ⟨fd_check_row, F_check_row'⟩ := c.d.def_ 12 (d := Hd.d_check_row) rfl
  have D_check_row : Df K mg "check_row" s_check_row ["row", "many"] _ fd_check_row := ⟨F_check_row', He.glo_ok X G (c.d.fact 11 (f := .glo "check_row") rfl), F_check_row'.bindsN fun _ _ _ _ _ _ us hl => match us, hl with | [_,_], _ => rfl⟩
  obtain ⟨fd_check_any_row, F_check_any_row'⟩ := c.d.def_ 13 (d := Hd.d_check_any_row) rfl
  have D_check_any_row : Df K mg "check_any_row" s_check_any_row ["row"] _ fd_check_any_row := ⟨F_check_any_row', He.glo_ok X G (c.d.fact 12 (f := .glo "check_any_row") rfl), F_check_any_row'.bindsN fun _ _ _ _ _ _ us hl => match us, hl with | [_], _ => rfl⟩
  obtain ⟨fd__check_rows, F__check_rows'⟩ := c.d.def_ 14 (d := Hd.d_check_rows) rfl
  have D__check_rows : Df K mg "_check_rows" s__check_rows ["one", "other"] _ fd__check_rows := ⟨F__check_rows', He.glo_ok X G (c.d.fact 13 (f := .glo "_check_rows") rfl), F__check_rows'.bindsN fun _ _ _ _ _ _ us hl => match us, hl with | [_,_], _ => rfl⟩
  obtain ⟨fd_turned_code, F_turned_code'⟩ := c.d.def_ 5 (d := Hd.d_turned_code) rfl
  have D_turned_code : Df K mg "turned_code" s_turned_code ["code"] _ fd_turned_code := ⟨F_turned_code', He.glo_ok X G (c.d.fact 4 (f := .glo "turned_code") rfl), F_turned_code'.bindsN fun _ _ _ _ _ _ us hl => match us, hl with | [_], _ => rfl⟩
  obtain ⟨fd__is_code_upright, F__is_code_upright'⟩ := c.d.def_ 16 (d := Hd.d_is_code_upright) rfl
  have D__is_code_upright : Df K mg "_is_code_upright" s__is_code_upright ["one", "other"] _ fd__is_code_upright := ⟨F__is_code_upright', He.glo_ok X G (c.d.fact 15 (f := .glo "_is_code_upright") rfl), F__is_code_upright'.bindsN fun _ _ _ _ _ _ us hl => match us, hl with | [_,_], _ => rfl⟩
  obtain ⟨fd_code_of, F_code_of'⟩ := c.d.def_ 4 (d := Hd.d_code_of) rfl
  have D_code_of : Df K mg "code_of" s_code_of ["row"] _ fd_code_of := ⟨F_code_of', He.glo_ok X G (c.d.fact 3 (f := .glo "code_of") rfl), F_code_of'.bindsN fun _ _ _ _ _ _ us hl => match us, hl with | [_], _ => rfl⟩
  obtain ⟨fd_is_upright, F_is_upright'⟩ := c.d.def_ 15 (d := Hd.d_is_upright) rfl
  have D_is_upright : Df K mg "is_upright" s_is_upright ["one", "other"] _ fd_is_upright := ⟨F_is_upright', He.glo_ok X G (c.d.fact 14 (f := .glo "is_upright") rfl), F_is_upright'.bindsN fun _ _ _ _ _ _ us hl => match us, hl with | [_,_], _ => rfl⟩
  obtain ⟨fd__law_balances, F__law_balances'⟩ := c.d.def_ 39 (d := Hd.d_law_balances) rfl
  have D__law_balances : Df K mg "_law_balances" s__law_balances ["_law_one", "_law_other"] _ fd__law_balances := ⟨F__law_balances', He.glo_ok X G (c.d.fact 24 (f := .glo "_law_balances") rfl), F__law_balances'.bindsN fun _ _ _ _ _ _ us hl => match us, hl with | [_,_], _ => rfl⟩
  obtain ⟨fd__law_are_pairs_right, F__law_are_pairs_right'⟩ := c.d.def_ 40 (d := Hd.d_law_are_pairs_right) rfl
  have D__law_are_pairs_right : Df K mg "_law_are_pairs_right" s__law_are_pairs_right ["_law_size"] _ fd__law_are_pairs_right := ⟨F__law_are_pairs_right', He.glo_ok X G (c.d.fact 25 (f := .glo "_law_are_pairs_right") rfl), F__law_are_pairs_right'.bindsN fun _ _ _ _ _ _ us hl => match us, hl with | [_], _ => rfl⟩
  obtain ⟨fd__law_every_row, F__law_every_row'⟩ := c.d.def_ 38 (d := Hd.d_law_every_row) rfl
  have D__law_every_row : Df K mg "_law_every_row" s__law_every_row ["_law_size"] _ fd__law_every_row := ⟨F__law_every_row', He.glo_ok X G (c.d.fact 23 (f := .glo "_law_every_row") rfl), F__law_every_row'.bindsN fun _ _ _ _ _ _ us hl => match us, hl with | [_], _ => rfl⟩
  obtain ⟨fd__law_pick, F__law_pick'⟩ := c.d.def_ 36 (d := Hd.d_law_pick) rfl
  have D__law_pick : Df K mg "_law_pick" s__law_pick ["_law_dice_here", "_law_items"] _ fd__law_pick := ⟨F__law_pick', He.glo_ok X G (c.d.fact 21 (f := .glo "_law_pick") rfl), F__law_pick'.bindsN fun _ _ _ _ _ _ us hl => match us, hl with | [_,_], _ => rfl⟩
  obtain ⟨fd__law_drawn_row, F__law_drawn_row'⟩ := c.d.def_ 37 (d := Hd.d_law_drawn_row) rfl
  have D__law_drawn_row : Df K mg "_law_drawn_row" s__law_drawn_row ["_law_dice_here", "_law_size"] _ fd__law_drawn_row := ⟨F__law_drawn_row', He.glo_ok X G (c.d.fact 22 (f := .glo "_law_drawn_row") rfl), F__law_drawn_row'.bindsN fun _ _ _ _ _ _ us hl => match us, hl with | [_,_], _ => rfl⟩
  obtain ⟨fd_things_of, F_things_of'⟩ := c.d.def_ 17 (d := Hd.d_things_of) rfl
  have D_things_of : Df K mg "things_of" s_things_of ["row"] _ fd_things_of := ⟨F_things_of', He.glo_ok X G (c.d.fact 16 (f := .glo "things_of") rfl), F_things_of'.bindsN fun _ _ _ _ _ _ us hl => match us, hl with | [_], _ => rfl⟩
  obtain ⟨P_Lot_rows, fd_Lot_rows, F_Lot_rows'⟩ := c.get 1 (d := Hd.d_Lot_rows) rfl
  have D_Lot_rows : DfM K [] "rows" "Lot.rows" s_Lot_rows ["self"] _ fd_Lot_rows := ⟨F_Lot_rows', F_Lot_rows'.bindsN fun _ _ _ _ _ _ us hl => match us, hl with | [_], _ => rfl⟩
  obtain ⟨fd_Lot___init__, F_Lot___init__'⟩ := c.d.def_ 19 (d := Hd.d_Lot_init) rfl
  have B_Lot___init__ : Binds K fd_Lot___init__ ["self", "many", "rows"] [] := by
    obtain ⟨ds, v, h⟩ := FunD.binds1 (ps := ["self", "many", "rows"]) F_Lot___init__' 3 1 (fun z => by cases z) rfl fun T kV doc pm an cdv ct us its hl hi => match us, hl, its, hi with
      | [_,_,_], _, [_], _ => ⟨_, rfl, rfl⟩
    cases v
    exact h
  have D_Lot___init__ : DfM K _ "__init__" "Lot.__init__" s_Lot___init__ ["self", "many", "rows"] _ fd_Lot___init__ := ⟨F_Lot___init__', B_Lot___init__⟩
  obtain ⟨fd__law_right, F__law_right'⟩ := c.d.def_ 41 (d := Hd.d_law_right) rfl
  have D__law_right : Df K mg "_law_right" s__law_right ["_law_dice_here"] _ fd__law_right := ⟨F__law_right', He.glo_ok X G (c.d.fact 26 (f := .glo "_law_right") rfl), F__law_right'.bindsN fun _ _ _ _ _ _ us hl => match us, hl with | [_], _ => rfl⟩
  obtain ⟨fd__law_dice, F__law_dice'⟩ := c.d.def_ 34 (d := Hd.d_law_dice) rfl
  have D__law_dice : Df K mg "_law_dice" s__law_dice ["_law_script", "_law_spot"] _ fd__law_dice := ⟨F__law_dice', He.glo_ok X G (c.d.fact 19 (f := .glo "_law_dice") rfl), F__law_dice'.bindsN fun _ _ _ _ _ _ us hl => match us, hl with | [_,_], _ => rfl⟩
  obtain ⟨fd_law, F_law'⟩ := c.d.def_ 42 (d := Hd.d_law) rfl
  have e := hfa.symm.trans (He.glo_ok X G (c.d.fact 27 (f := .glo "law") rfl))
  cases e
  have b := FunD.bindsA (ps := ["_law_script"]) F_law' fun _ _ _ _ _ _ us hl => match us, hl with | [_], _ => rfl
  have D_law : Df K mg "law" s_law ["_law_script"] _ fd_law := ⟨F_law', hfa, F_law'.bindsN fun _ _ _ _ _ _ us hl => match us, hl with | [_], _ => rfl⟩
  refine ⟨fd_law, fun s v => b s [v] rfl, fun base _ _ => ?_⟩
  have G__law_roll := ok__law_roll (P := P) (w := w) (base := base) T D__law_roll
  have G_is_integer := ok_is_integer (P := P) (w := w) (base := base) T D_is_integer
  have G_is_between := ok_is_between (P := P) (w := w) (base := base) T D_is_between D_is_integer G_is_integer
  have G_check_many := ok_check_many (P := P) (w := w) (base := base) T D_check_many D_is_between G_is_between
  have G_all_rows := ok_all_rows (P := P) (w := w) (base := base) T D_all_rows D_check_many G_check_many
  have J_all_rows := okJ_all_rows (P := P) (w := w) (base := base) T D_all_rows D_check_many G_check_many
  have G_is_row := ok_is_row (P := P) (w := w) (base := base) T D_is_row
  have G_check_row := ok_check_row (P := P) (w := w) (base := base) T D_check_row D_is_row G_is_row
  have G_check_any_row := ok_check_any_row (P := P) (w := w) (base := base) T D_check_any_row D_check_row G_check_row
  have G__check_rows := ok__check_rows (P := P) (w := w) (base := base) T D__check_rows D_check_any_row G_check_any_row D_check_row G_check_row
  have G_turned_code := ok_turned_code (P := P) (w := w) (base := base) T D_turned_code
  have G__is_code_upright := ok__is_code_upright (P := P) (w := w) (base := base) T D__is_code_upright D_turned_code G_turned_code
  have G_code_of := ok_code_of (P := P) (w := w) (base := base) T D_code_of
  have G_is_upright := ok_is_upright (P := P) (w := w) (base := base) T D_is_upright D__check_rows G__check_rows D__is_code_upright G__is_code_upright D_code_of G_code_of
  have G__law_balances := ok__law_balances (P := P) (w := w) (base := base) T D__law_balances
  have G__law_are_pairs_right := ok__law_are_pairs_right (P := P) (w := w) (base := base) T D__law_are_pairs_right D_all_rows G_all_rows J_all_rows D_is_upright G_is_upright D__law_balances G__law_balances
  have G__law_every_row := ok__law_every_row (P := P) (w := w) (base := base) T D__law_every_row
  have G__law_pick := ok__law_pick (P := P) (w := w) (base := base) T D__law_pick D__law_roll G__law_roll
  have G__law_drawn_row := ok__law_drawn_row (P := P) (w := w) (base := base) T D__law_drawn_row D__law_pick G__law_pick
  have G_things_of := ok_things_of (P := P) (w := w) (base := base) T D_things_of D_check_any_row G_check_any_row
  have G_Lot_rows := ok_Lot_rows (P := P) (w := w) (base := base) T CL D_Lot_rows
  have G_Lot___init__ := ok_Lot___init__ (P := P) (w := w) (base := base) T CL D_Lot___init__ D_check_many G_check_many D_is_row G_is_row
  have G__law_right := ok__law_right (P := P) (w := w) (base := base) T CL CG D__law_right D__law_roll G__law_roll D__law_are_pairs_right G__law_are_pairs_right D__law_every_row G__law_every_row D__law_drawn_row G__law_drawn_row D_things_of G_things_of D_is_upright G_is_upright ⟨P_Lot_rows, D_Lot_rows⟩ G_Lot_rows D_all_rows G_all_rows J_all_rows ⟨He.mkr_ok (c.d.fact 57 (f := .mkr "Lot") rfl), D_Lot___init__⟩ G_Lot___init__
  have G__law_dice := ok__law_dice (P := P) (w := w) (base := base) T D__law_dice
  exact ok_law T D_law D__law_right G__law_right D__law_dice G__law_dice D_all_rows G_all_rows J_all_rows
end K01
open PySem PySem.W PySem.Calls PyProof.Rows
theorem PySem.Challenge.cw_sidesigns_k01_whole_all_rows_of_a_size_holds : PySem.Challenge.rw_sidesigns_k01_whole_all_rows_of_a_size.Holds := by
  w_on; o_law
  refine HandSHeadRun.head_any (r := OpenLaw.row PySem.Challenge.rw_sidesigns_k01_whole_all_rows_of_a_size) (q := view (OpenLaw.row PySem.Challenge.rw_sidesigns_k01_whole_all_rows_of_a_size).prog [40]) (H := Hd.hk) (ob := Hd.ob) (M := 9000) (loose := Hd.names) (d := HandSHeadRun.topDef (OpenLaw.row PySem.Challenge.rw_sidesigns_k01_whole_all_rows_of_a_size).prog 40) (kwd := []) Hd.ob_eq
    (by kernel_rfl) (fun s => by kernel_rfl) Hd.run (by kernel_rfl) (by kernel_rfl) (by kernel_rfl) (by rfl) (by first | assumption | decide +kernel) (by decide +kernel) ⟨rfl, rfl, rfl, rfl, rfl, by decide +kernel⟩ ?hw ?hc
  case hw => w_witness2
  case hc =>
    refine L2.walk_ofE (l := PySem.Challenge.rw_sidesigns_k01_whole_all_rows_of_a_size) (n := 63) (k := 12) (x := "_law_script") (CX := L2.CX0) rfl (by decide) (by kernel_rfl) ⟨rfl, by decide, by decide⟩ ?F (fun _ _ _ _ z => z)
    intro w mg fa h Y G hmg0
    obtain ⟨K, KX, c⟩ := Y
    have hmg : mg ("law" : PySem.Str) = some (.ref fa) := by
      have e : (HandSHeadRun.topDef (OpenLaw.row PySem.Challenge.rw_sidesigns_k01_whole_all_rows_of_a_size).prog 40).name = ("law" : PySem.Str) := by kernel_rfl
      rw [← e]
      exact hmg0
    obtain ⟨fd, hb, hF⟩ := K01.facts (P := (PySem.Challenge.rw_sidesigns_k01_whole_all_rows_of_a_size).prog) (w := w) KX G hmg c
    refine ⟨K, fd, Z.spD K K01.F_law, KX, hb, fun H a ns hl _ hS => ?_, hF⟩
    exact K01.start_law hS


