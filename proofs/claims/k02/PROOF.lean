import PyProof.Rows.All
import Wide.All
import OpenK.AllK
import Wide.FinOn
import KE.GoesEnum
import KE.GoesZip
import HandS.ForMost
import HandS.Defaults
import HandS.ExpandTabs
import HandS.Translate
import HandS.Wide
import HandS.IsInst
import HandS.NoneIn
import HandS.StrMore
import HandS.Evl
import HandS.SortInts
import HandS.DictComp
import HandS.Conv
import HandS.Property
import HandS.HeadHook1
import HandS.OwnEq
import PyProof.InstNe
import HandS.SlotsOwn
import HandS.HeadHook2
import HandS.GenYield
import HandS.GenList
import HandS.GenCall
import HandS.Style
import HandS.Set
import HandS.SetFor
import HandS.SetTxt0
import HandS.Strs
import HandS.TupAny
import HandS.OwnIter
import HandS.IterNext
import HandS.FStr
import KE.KCallOwn
import PyProof.FString3
import PyProof.Rows.StrIntSpec
import KE.SortKeyHeap
import HandS.Base
import HandS.Call
import HandS.List
import HandS.Text
import HandS.SortKw
import PyProof.Rows.RegReprOcc
import KE.KStateDown
import Lean
import HandS.Head0
import HandS.Head1
import HandS.Head2
import HandS.HeadEnd
import PySem.Challenge.RW_sidesigns_k02_lots_of_rows
set_option Elab.async false
set_option linter.all false
set_option maxRecDepth 100000
set_option maxHeartbeats 4000000
/-! walks over enumerate(text), enumerate(tuple), zip(text, text) -/
namespace Z
open PySem PySem.Spec PyProof.Rows L2
/-- the signs of a text, as values -/
def signs (x : Str) : List V := x.cps.toList.map fun c => V.str ⟨#[c]⟩
theorem signs_len (x : Str) : (signs x).length = x.cps.size := by unfold signs; simp
/-- enumerate(text): a new pair each -/
def ItEs (x : Str) : It :=
  ⟨fun i _ => i < x.cps.size, fun i H v H' => ∃ T c, v = .ref T ∧ H T = none ∧ H' = upd H T (.tup [.int (i : Nat), .str ⟨#[c]⟩]) ∧ x.cps[i]? = some c, fun i _ => x.cps.size ≤ i⟩
theorem turn_enumS {P : Program} {w : World} {K : PySem.W.Frag} {elts : List Expr} {kk : Nat} {tpos : Pos} (x : Str) (t : Tok) (e it : Addr) :
    Turn P w K (.Tuple elts kk tpos) (ItEs x) [e, it] e (fun i h => i ≤ x.cps.size ∧ (∃ old, IsEnum h e it ((i : Nat) : Int) old) ∧ h.IsStrIter it (strIterType x) x t i ∧ e ≠ it) where
  mem := by simp
  obj := fun i h st b hb => by
    obtain ⟨_, ⟨old, he⟩, ⟨o, ho, hc, hd⟩, _⟩ := st
    have e' : b = e ∨ b = it := by simpa using hb
    rcases e' with z | z
    · rw [z]; exact ⟨_, he, fun v q => nomatch q⟩
    · rw [z]; exact ⟨o, ho, fun v q => by rw [hd] at q; cases q⟩
  keep := fun i h h' st k => by
    obtain ⟨hn, ⟨old, he⟩, ⟨o, ho, r⟩, hne⟩ := st
    exact ⟨hn, ⟨old, k e (by simp) _ he⟩, ⟨o, k it (by simp) o ho, r⟩, hne⟩
  item := by
    intro X hP hw hK hc i pins s σ H E I hf st hg
    subst hP hw hK
    obtain ⟨hn, ⟨old, he⟩, hit, hne⟩ := st
    have hg : i < x.cps.size := hg
    have hel : e < s.heap.objs.size := Heap.lt_size he
    have hil : it < s.heap.objs.size := by obtain ⟨_, q, _⟩ := hit; exact Heap.lt_size q
    have D := Draws.text (prog := X.prog) (w := X.w) (A := X.A.in1) (I.ok.hd hc) it x t
    refine wpAny_pyNext_enum_itemD D he hit hg hne (by simpa using hne) fun u h' tk hu ho hit' hT hsz hk => ?_
    obtain ⟨c, u', hcx, rfl⟩ := hu
    refine ⟨_, rfl, wpAny_letOwnedTupleGo_enum (s := { s with heap := h', toks := tk + 1 }) ho fun h'' he' sb => ?_⟩
    have hT2 : h''.get? s.heap.objs.size = some { cls := .type "tuple", data := .seq #[.int i tk, .str ⟨#[c]⟩ u'] } := (sb.2 _ (Nat.ne_of_gt hel)).trans hT
    have new : ObjOk X.prog X.w (upd H s.heap.objs.size (.tup [.int (i : Nat), .str ⟨#[c]⟩])) h'' s.heap.objs.size (.tup [.int (i : Nat), .str ⟨#[c]⟩]) :=
      ⟨by show 2 ≤ sizeLine; decide, [.int i tk, .str ⟨#[c]⟩ u'], .cons ⟨_, rfl⟩ (.cons ⟨_, rfl⟩ .nil), ⟨_, hT2, rfl, _, rfl⟩⟩
    have I1 : Inv X pins σ (upd H s.heap.objs.size (.tup [.int (i : Nat), .str ⟨#[c]⟩])) { s with heap := h'', toks := tk + 1 } :=
      I.turnedNew (ch := [e, it]) (fun b ob hb q => (sb.2 b (fun z => hb (by simp [z]))).trans (hk b ob (fun z => hb (by simp [z])) (fun z => hb (by simp [z])) q)) hf (Nat.le_refl _) new
    refine ⟨.ref s.heap.objs.size, _, I1, rfl, ⟨_, c, rfl, I.hok.fresh (Nat.le_refl _), rfl, hcx⟩, ⟨hg, ⟨.str ⟨#[c]⟩ u', ?_⟩, ?_, hne⟩, fun b hb => ?_⟩
    · have e1 : ((i + 1 : Nat) : Int) = (i : Int) + 1 := by omega
      rw [e1]; exact he'
    · obtain ⟨o, ho', r⟩ := hit'
      exact ⟨o, (sb.2 it (Ne.symm hne)).trans ho', r⟩
    · have hb' : b < s.heap.objs.size := by
        have e' : b = e ∨ b = it := by simpa using hb
        rcases e' with z | z
        · rw [z]; exact hel
        · rw [z]; exact hil
      rw [upd_ne (Nat.ne_of_lt hb')]
      exact (hf b hb).1
  done := by
    intro X hP hw hK hc i pins s σ H E I hf st hg
    subst hP hw hK
    obtain ⟨hn, ⟨old, he⟩, hit, hne⟩ := st
    have hg : x.cps.size ≤ i := hg
    have ei : i = x.cps.size := by omega
    subst ei
    obtain ⟨f0, f1, f2, f3, f4, f5⟩ := hf it (by simp)
    have D := Draws.text (prog := X.prog) (w := X.w) (A := X.A.in1) (I.ok.hd hc) it x t
    exact wpAny_pyNext_enum_endD D he hit fun h' eb => ⟨rfl, I.turned (t' := s.toks) (fun b o hb q => eb b o hb q) f0 f1 f3 f4 f5⟩
  self := fun A i s Q E st h => let ⟨_, ⟨_, he⟩, _⟩ := st; wpAny_pyIter_enum he h
def iEnumS (ta : TA) : TI := fun σ H R => ta σ H fun vs H1 => ∃ x, vs = [.str x] ∧ R (ItEs x) H1
theorem pi_enumS {X : Cx} {e : Expr} {ta : TA} {p pos tpos : Pos} {elts : List Expr} {kk : Nat} (hg : Gl X "enumerate") (hm : X.mg "enumerate" = none) (ha : PA X [e] ta) (hs : starEach [e] X.env = [(false, eval e X.env)] := by rfl) :
    PI X (.Tuple elts kk tpos) (.Call (.Name "enumerate" p) [e] [] pos) (iEnumS ta) := by
  refine ⟨fun pins s σ H R I h => ?_⟩
  refine Call_ (ld_blt I hg hm boot_enumerate (PyProof.Rows.callWith_type1 (thn (ha.run pos pins s σ H _ I h) fun us s1 ⟨vs, H1, I1, r1, q1⟩ => ?_) hs rfl))
  obtain ⟨x, ex, q⟩ := q1
  subst ex
  cases r1 with
  | cons r rr =>
    cases rr
    obtain ⟨t, rfl⟩ := r
    refine call_enumerate_str fun h' he hit hsz hk => wpAny_pyIter_enum he ?_
    have I2 : Inv X pins σ H1 { s1 with heap := h' } := I1.kept (t' := s1.toks) hk
    refine ⟨s1.heap.objs.size + 1, [s1.heap.objs.size + 1, s1.heap.objs.size], _, _, H1, rfl, I2, turn_enumS x t (s1.heap.objs.size + 1) s1.heap.objs.size, ⟨Nat.zero_le _, ⟨.none, he⟩, hit, Nat.succ_ne_self _⟩, fun b hb => ?_, q⟩
    have e' : b = s1.heap.objs.size + 1 ∨ b = s1.heap.objs.size := by simpa using hb
    have hle : s1.heap.objs.size ≤ b := by
      rcases e' with z | z
      · rw [z]; exact Nat.le_add_right _ _
      · rw [z]; exact Nat.le_refl _
    exact I1.fpOk hle (I1.hok.fresh hle)
/-- enumerate(tuple): a new pair each -/
def ItEt (K : PySem.W.Frag) (a : Addr) : It :=
  ⟨fun i H => ∃ xs x, SqT K H a xs ∧ xs[i]? = some x, fun i H v H' => ∃ T x, v = .ref T ∧ H T = none ∧ H' = upd H T (.tup [.int (i : Nat), x]) ∧ ∀ xs, SqT K H a xs → xs[i]? = some x, fun i H => ∃ xs, SqT K H a xs ∧ xs.length = i⟩
theorem ne_tuple {h : Heap} {e it a : Addr} {i : Int} {old : Value} {its : Array Value} (he : IsEnum h e it i old) (ht : h.IsTuple a its) : e ≠ a := by
  intro z
  subst z
  obtain ⟨o, ho, hc, _⟩ := ht
  rw [he] at ho
  cases ho
  exact absurd hc (by intro h; injection h with h; exact absurd h (by decide))
theorem turn_enumT {P : Program} {w : World} {K : PySem.W.Frag} {elts : List Expr} {kk : Nat} {tpos : Pos} (a e it : Addr) :
    Turn P w K (.Tuple elts kk tpos) (ItEt K a) [e, it] e (fun i h => (∃ old, IsEnum h e it ((i : Nat) : Int) old) ∧ h.IsTupleIter it a i ∧ e ≠ it ∧ a ≠ it) where
  mem := by simp
  obj := fun i h st b hb => by
    obtain ⟨⟨old, he⟩, ⟨o, ho, hc, hd⟩, _⟩ := st
    have e' : b = e ∨ b = it := by simpa using hb
    rcases e' with z | z
    · rw [z]; exact ⟨_, he, fun v q => nomatch q⟩
    · rw [z]; exact ⟨o, ho, fun v q => by rw [hd] at q; cases q⟩
  keep := fun i h h' st k => by
    obtain ⟨⟨old, he⟩, hi, hne⟩ := st
    exact ⟨⟨old, k e (by simp) _ he⟩, hi.at fun o q => k it (by simp) o q, hne⟩
  item := by
    intro X hP hw hK hc i pins s σ H E I hf st hg
    subst hP hw hK
    obtain ⟨⟨old, he⟩, hit, hne, hna⟩ := st
    obtain ⟨xs, x, hq, hx⟩ := hg
    obtain ⟨its, rv, p, hz⟩ := I.tuple hq
    obtain ⟨u, hu, ru⟩ := rv.get hx
    have hlt : i < its.toArray.size := by
      have q := (List.getElem?_eq_some_iff.mp hu).1
      simpa using q
    have hel : e < s.heap.objs.size := Heap.lt_size he
    have hil : it < s.heap.objs.size := by obtain ⟨_, q, _⟩ := hit; exact Heap.lt_size q
    have hea : e ≠ a := ne_tuple he p
    have D := Draws.tuple (prog := X.prog) (w := X.w) (A := X.A.in1) (I.ok.hd hc) it a hna its.toArray
    refine wpAny_pyNext_enum_itemD D he ⟨hit, p⟩ hlt hne (by simp [hne, hea]) fun u1 h' tk hu1 ho hit' hT hsz hk => ?_
    have hu2 : its[i]? = some u1 := by simpa using hu1
    rw [hu] at hu2
    cases hu2
    refine ⟨_, rfl, wpAny_letOwnedTupleGo_enum (s := { s with heap := h', toks := tk + 1 }) ho fun h'' he' sb => ?_⟩
    have hT2 : h''.get? s.heap.objs.size = some { cls := .type "tuple", data := .seq #[.int i tk, u] } := (sb.2 _ (Nat.ne_of_gt hel)).trans hT
    have new : ObjOk X.prog X.w (upd H s.heap.objs.size (.tup [.int (i : Nat), x])) h'' s.heap.objs.size (.tup [.int (i : Nat), x]) :=
      ⟨by show 2 ≤ sizeLine; decide, [.int i tk, u], .cons ⟨_, rfl⟩ (.cons ru .nil), ⟨_, hT2, rfl, _, rfl⟩⟩
    have I1 : Inv X pins σ (upd H s.heap.objs.size (.tup [.int (i : Nat), x])) { s with heap := h'', toks := tk + 1 } :=
      I.turnedNew (ch := [e, it]) (fun b ob hb q => (sb.2 b (fun z => hb (by simp [z]))).trans (hk b ob (fun z => hb (by simp [z])) (fun z => hb (by simp [z])) q)) hf (Nat.le_refl _) new
    refine ⟨.ref s.heap.objs.size, _, I1, rfl, ⟨_, x, rfl, I.hok.fresh (Nat.le_refl _), rfl, fun ys hy => by rw [I.tuple_inj hy hq]; exact hx⟩, ⟨⟨u, ?_⟩, hit'.1.at fun o q => (sb.2 it (Ne.symm hne)).trans q, hne, hna⟩, fun b hb => ?_⟩
    · have e1 : ((i + 1 : Nat) : Int) = (i : Int) + 1 := by omega
      rw [e1]; exact he'
    · have hb' : b < s.heap.objs.size := by
        have e' : b = e ∨ b = it := by simpa using hb
        rcases e' with z | z
        · rw [z]; exact hel
        · rw [z]; exact hil
      rw [upd_ne (Nat.ne_of_lt hb')]
      exact (hf b hb).1
  done := by
    intro X hP hw hK hc i pins s σ H E I hf st hg
    subst hP hw hK
    obtain ⟨⟨old, he⟩, hit, hne, hna⟩ := st
    obtain ⟨xs, hq, hx⟩ := hg
    obtain ⟨its, rv, p, hz⟩ := I.tuple hq
    obtain ⟨f0, f1, f2, f3, f4, f5⟩ := hf it (by simp)
    have hl := rv.length
    have D := Draws.tuple (prog := X.prog) (w := X.w) (A := X.A.in1) (I.ok.hd hc) it a hna its.toArray
    have hi : i = its.toArray.size := by simp; omega
    rw [hi] at hit
    exact wpAny_pyNext_enum_endD D he ⟨hit, p⟩ fun h' eb => ⟨rfl, I.turned (t' := s.toks) (fun b o hb q => eb b o hb q) f0 f1 f3 f4 f5⟩
  self := fun A i s Q E st h => let ⟨⟨_, he⟩, _⟩ := st; wpAny_pyIter_enum he h
set_option maxHeartbeats 1000000 in
theorem meets_enumerate_newB0 {v : Value} {o : Obj} {H : Heap → Prop} (B : Begins v o H) :
    Meets (Builtin.«enumerate.__new__» ⟨[.type "enumerate", v], []⟩) (fun _ R s => H s.heap ∧
      R (.ok (.ret (.ref (s.heap.push o).objs.size))) { s with heap := (s.heap.push o).push { cls := .type "enumerate", data := .fields #[.none, .bool false, .ref s.heap.objs.size, rawInt 0, .none, .none] } }) :=
  .of_wp fun prog w A R s h => by
    obtain ⟨hp, g, d, tk, os⟩ := s; obtain ⟨h1, h⟩ := h
    have hsub := sub_enumerate
    have q1 : ∀ {A' : Around} {E : Value → Shared → Prop} {Q : Value → Shared → Prop}, Q (.ref hp.objs.size) ⟨hp.push o, g, d, tk, os⟩ → wpAny (model prog w) A' (pyIter v) Q E ⟨hp, g, d, tk, os⟩ :=
      fun q => B.iter prog w _ _ ⟨hp, g, d, tk, os⟩ _ h1 q
    wp_walk using q1
    refine wpAny_stack_any fun st => wpAny_pure ?_
    split
    · rename_i c _ _ _ _ _
      cases (c == Value.type "enumerate")
      · wp_walk using q1
        exact ⟨_, rfl, h⟩
      · wp_walk using q1
        exact ⟨_, rfl, h⟩
    · wp_walk using q1
      exact ⟨_, rfl, h⟩
theorem enum_begins0 {prog : Program} {w : World} {A : Around} {E : Value → Shared → Prop} {s : Shared} {v : Value} {o : Obj} {H : Heap → Prop} {Q : Value → Shared → Prop} (B : Begins v o H) (h1 : H s.heap)
    (h : ∀ h', IsEnum h' (s.heap.objs.size + 1) s.heap.objs.size 0 .none → h'.get? s.heap.objs.size = some o → h'.objs.size = s.heap.objs.size + 2 →
      (∀ b o, s.heap.get? b = some o → h'.get? b = some o) → Q (.ref (s.heap.objs.size + 1)) { s with heap := h' }) :
    wpAny (model prog w) A (call (.type "enumerate") [v]) Q E s := by
  refine callType_new F.called_enumerate (by decide) (F.typeCall_enumerate_1 _) (F.newCall_enumerate_1 _) (fun obj => F.args_object_init_2 obj _) F.entry_enumerate_new
    (meets_enumerate_newB0 B) ⟨h1, ?_⟩
  have hz : (s.heap.push o).objs.size = s.heap.objs.size + 1 := Heap.size_push ..
  show _ ∧ _
  rw [hz]
  have he : IsEnum ((s.heap.push o).push { cls := .type "enumerate", data := .fields #[.none, .bool false, .ref s.heap.objs.size, rawInt 0, .none, .none] }) (s.heap.objs.size + 1) s.heap.objs.size 0 .none := by
    have := Heap.get?_push_size (s.heap.push o) (o := { cls := .type "enumerate", data := .fields #[.none, .bool false, .ref s.heap.objs.size, rawInt 0, .none, .none] }) rfl
    rw [hz] at this; exact this
  refine ⟨⟨_, he, rfl⟩, h _ he (Heap.get?_push_of_some _ (Heap.get?_push_size _ B.free)) (by rw [Heap.size_push, hz]) fun b o x => Heap.get?_push_of_some _ (Heap.get?_push_of_some _ x)⟩
def iEnumT (K : PySem.W.Frag) (ta : TA) : TI := fun σ H R => ta σ H fun vs H1 => ∃ a xs, vs = [.ref a] ∧ SqT K H1 a xs ∧ R (ItEt K a) H1
theorem pi_enumT {X : Cx} {e : Expr} {ta : TA} {p pos tpos : Pos} {elts : List Expr} {kk : Nat} (hg : Gl X "enumerate") (hm : X.mg "enumerate" = none) (ha : PA X [e] ta) (hs : starEach [e] X.env = [(false, eval e X.env)] := by rfl) :
    PI X (.Tuple elts kk tpos) (.Call (.Name "enumerate" p) [e] [] pos) (iEnumT X.K ta) := by
  refine ⟨fun pins s σ H R I h => ?_⟩
  refine Call_ (ld_blt I hg hm boot_enumerate (PyProof.Rows.callWith_type1 (thn (ha.run pos pins s σ H _ I h) fun us s1 ⟨vs, H1, I1, r1, q1⟩ => ?_) hs rfl))
  obtain ⟨a, xs, ex, hq, q⟩ := q1
  subst ex
  cases r1 with
  | cons r rr =>
    cases rr
    cases r
    obtain ⟨its, rv, p', hz⟩ := I1.tuple hq
    have hlt : a < s1.heap.objs.size := by obtain ⟨_, q, _⟩ := p'; exact Heap.lt_size q
    refine enum_begins0 (begins_tuple a its.toArray) p' fun h' he hit hsz hk => wpAny_pyIter_enum he ?_
    have I2 : Inv X pins σ H1 { s1 with heap := h' } := I1.kept (t' := s1.toks) hk
    refine ⟨s1.heap.objs.size + 1, [s1.heap.objs.size + 1, s1.heap.objs.size], _, _, H1, rfl, I2, turn_enumT a (s1.heap.objs.size + 1) s1.heap.objs.size, ⟨⟨.none, he⟩, ⟨_, hit, rfl, rfl⟩, Nat.succ_ne_self _, Nat.ne_of_lt hlt⟩, fun b hb => ?_, q⟩
    have e' : b = s1.heap.objs.size + 1 ∨ b = s1.heap.objs.size := by simpa using hb
    have hle : s1.heap.objs.size ≤ b := by
      rcases e' with z | z
      · rw [z]; exact Nat.le_add_right _ _
      · rw [z]; exact Nat.le_refl _
    exact I1.fpOk hle (I1.hok.fresh hle)
/-- zip(text, text): a new pair each -/
def ItZs (x y : Str) : It :=
  ⟨fun i _ => i < min x.cps.size y.cps.size, fun i H v H' => ∃ T c d, v = .ref T ∧ H T = none ∧ H' = upd H T (.tup [.str ⟨#[c]⟩, .str ⟨#[d]⟩]) ∧ x.cps[i]? = some c ∧ y.cps[i]? = some d, fun i _ => min x.cps.size y.cps.size ≤ i⟩
theorem turn_zipS {P : Program} {w : World} {K : PySem.W.Frag} {elts : List Expr} {kk : Nat} {tpos : Pos} {x y : Str} {t1 t2 : Tok} {z TI TO i1 i2 : Addr} (S : ZipSep2 z TI TO i1 i2 [i1] [i2]) :
    Turn P w K (.Tuple elts kk tpos) (ItZs x y) [z, TI, TO, i1, i2] z (fun i h => i ≤ min x.cps.size y.cps.size ∧ IsZip h z TI TO .none ∧ IsTupOf2 h TI (.ref i1) (.ref i2) ∧ (∃ a b, IsTupOf2 h TO a b) ∧ h.IsStrIter i1 (strIterType x) x t1 i ∧ h.IsStrIter i2 (strIterType y) y t2 i) where
  mem := by simp
  obj := fun i h st c hc => by
    obtain ⟨_, hz, hTI, ⟨x, y, hTO⟩, ⟨o1, e1, _, d1⟩, ⟨o2, e2, _, d2⟩⟩ := st
    have e' : c = z ∨ c = TI ∨ c = TO ∨ c = i1 ∨ c = i2 := by simpa using hc
    rcases e' with q | q | q | q | q
    · rw [q]; exact ⟨_, hz, fun v q => nomatch q⟩
    · rw [q]; exact ⟨_, hTI, fun v q => nomatch q⟩
    · rw [q]; exact ⟨_, hTO, fun v q => nomatch q⟩
    · rw [q]; exact ⟨o1, e1, fun v q => by rw [d1] at q; cases q⟩
    · rw [q]; exact ⟨o2, e2, fun v q => by rw [d2] at q; cases q⟩
  keep := fun i h h' st k => by
    obtain ⟨hn, hz, hTI, ⟨x, y, hTO⟩, ⟨o1, e1, r1⟩, ⟨o2, e2, r2⟩⟩ := st
    exact ⟨hn, k z (by simp) _ hz, k TI (by simp) _ hTI, ⟨x, y, k TO (by simp) _ hTO⟩, ⟨o1, k i1 (by simp) _ e1, r1⟩, ⟨o2, k i2 (by simp) _ e2, r2⟩⟩
  item := by
    intro X hP hw hK hc i pins s σ H E I hf st hg
    subst hP hw hK
    obtain ⟨hn, hz, hTI, ⟨x0, y0, hTO⟩, h1, h2⟩ := st
    have hg : i < min x.cps.size y.cps.size := hg
    have D1 := Draws.text (prog := X.prog) (w := X.w) (A := X.A.in1) (I.ok.hd hc) i1 x t1
    have D2 := Draws.text (prog := X.prog) (w := X.w) (A := X.A.in1) (I.ok.hd hc) i2 y t2
    have hzl : z < s.heap.objs.size := Heap.lt_size hz
    refine wpAny_pyNext_zipD2_item S D1 D2 hz hTI hTO h1 h2 (Nat.lt_of_lt_of_le hg (Nat.min_le_left _ _)) (Nat.lt_of_lt_of_le hg (Nat.min_le_right _ _)) fun u1 u2 h' tk p1 p2 z' TO' h1' h2' hT hsz hk => ?_
    obtain ⟨c, q1, hcx, rfl⟩ := p1
    obtain ⟨d, q2, hdx, rfl⟩ := p2
    refine ⟨_, rfl, wpAny_letOwnedTupleGo_zip (s := { s with heap := h', toks := tk }) z' fun h'' z'' sb => ?_⟩
    have hT2 : h''.get? s.heap.objs.size = some { cls := .type "tuple", data := .seq #[.str ⟨#[c]⟩ q1, .str ⟨#[d]⟩ q2] } := (sb.2 _ (Nat.ne_of_gt hzl)).trans hT
    have new : ObjOk X.prog X.w (upd H s.heap.objs.size (.tup [.str ⟨#[c]⟩, .str ⟨#[d]⟩])) h'' s.heap.objs.size (.tup [.str ⟨#[c]⟩, .str ⟨#[d]⟩]) :=
      ⟨by show 2 ≤ sizeLine; decide, [.str ⟨#[c]⟩ q1, .str ⟨#[d]⟩ q2], .cons ⟨_, rfl⟩ (.cons ⟨_, rfl⟩ .nil), ⟨_, hT2, rfl, _, rfl⟩⟩
    have I1 : Inv X pins σ (upd H s.heap.objs.size (.tup [.str ⟨#[c]⟩, .str ⟨#[d]⟩])) { s with heap := h'', toks := tk } :=
      I.turnedNew (ch := [z, TI, TO, i1, i2]) (fun c o hb q => (sb.2 c (fun q' => hb (by simp [q']))).trans (hk c o (fun q' => hb (by simp [q'])) (fun q' => hb (by simp [q'])) (fun q' => hb (by simp [q'])) (fun q' => hb (by simp [q'])) q)) hf (Nat.le_refl _) new
    refine ⟨.ref s.heap.objs.size, _, I1, rfl, ⟨_, c, d, rfl, I.hok.fresh (Nat.le_refl _), rfl, hcx, hdx⟩, ⟨hg, z'', ?_, ⟨.str ⟨#[c]⟩ q1, .str ⟨#[d]⟩ q2, ?_⟩, ?_, ?_⟩, fun c hcm => ?_⟩
    · exact (sb.2 _ S.TIz).trans (hk _ _ S.TIz S.TITO S.TIi1 S.TIi2 hTI)
    · exact (sb.2 _ S.TOz).trans TO'
    · obtain ⟨o, ho, r⟩ := h1'
      exact ⟨o, (sb.2 _ (Ne.symm S.zi1)).trans ho, r⟩
    · obtain ⟨o, ho, r⟩ := h2'
      exact ⟨o, (sb.2 _ (Ne.symm S.zi2)).trans ho, r⟩
    · have hlt : c < s.heap.objs.size := by
        have e' : c = z ∨ c = TI ∨ c = TO ∨ c = i1 ∨ c = i2 := by simpa using hcm
        rcases e' with q | q | q | q | q
        · rw [q]; exact hzl
        · rw [q]; exact Heap.lt_size hTI
        · rw [q]; exact Heap.lt_size hTO
        · rw [q]; obtain ⟨_, e1, _⟩ := h1; exact Heap.lt_size e1
        · rw [q]; obtain ⟨_, e2, _⟩ := h2; exact Heap.lt_size e2
      rw [upd_ne (Nat.ne_of_lt hlt)]
      exact (hf c hcm).1
  done := by
    intro X hP hw hK hc i pins s σ H E I hf st hg
    subst hP hw hK
    obtain ⟨hn, hz, hTI, ⟨x0, y0, hTO⟩, h1, h2⟩ := st
    have hg : min x.cps.size y.cps.size ≤ i := hg
    have D1 := Draws.text (prog := X.prog) (w := X.w) (A := X.A.in1) (I.ok.hd hc) i1 x t1
    have D2 := Draws.text (prog := X.prog) (w := X.w) (A := X.A.in1) (I.ok.hd hc) i2 y t2
    exact wpAny_pyNext_zipD2_end S D1 D2 hz hTI hTO h1 h2 (by omega) (by omega) (by omega) fun h' tk hk => ⟨rfl, I.turnedL (t' := tk) (ch := [z, TI, TO, i1, i2]) (fun c o hb q =>
      hk c o (fun q' => hb (by simp [q'])) (fun q' => hb (by simp [q'])) (fun q' => hb (by simp [q'])) (fun q' => hb (by simp [q'])) q) hf⟩
  self := fun A i s Q E st h => wpAny_pyIter_zip st.2.1 h
def iZipS (ta : TA) : TI := fun σ H R => ta σ H fun vs H1 => ∃ x y, vs = [.str x, .str y] ∧ R (ItZs x y) H1
theorem pi_zipS {X : Cx} {e e2 : Expr} {ta : TA} {p pos tpos : Pos} {elts : List Expr} {kk : Nat} (hg : Gl X "zip") (hm : X.mg "zip" = none) (ha : PA X [e, e2] ta)
    (hs : starEach [e, e2] X.env = (false, eval e X.env) :: starEach [e2] X.env := by rfl) (hpl : (backTo pos (starEach [e2] X.env)).any (·.1) = false := by rfl) :
    PI X (.Tuple elts kk tpos) (.Call (.Name "zip" p) [e, e2] [] pos) (iZipS ta) := by
  refine ⟨fun pins s σ H R I h => ?_⟩
  refine Call_ (ld_blt I hg hm PyProof.Rows.boot_zip (PyProof.Rows.callWith_type1 (thn (ha.run pos pins s σ H _ I h) fun us s1 ⟨vs, H1, I1, r1, q1⟩ => ?_) hs hpl))
  obtain ⟨x, y, ex, q⟩ := q1
  subst ex
  cases r1 with
  | cons r rr =>
    cases rr with
    | cons r' rr =>
      cases rr
      obtain ⟨t1, rfl⟩ := r
      obtain ⟨t2, rfl⟩ := r'
      refine zip_begins2 (begins_text x t1) (begins_text y t2) trivial trivial fun h' hz hTI hTO h1 h2 hsz hk => wpAny_pyIter_zip hz ?_
      have I2 : Inv X pins σ H1 { s1 with heap := h' } := I1.kept (t' := s1.toks) hk
      have S : ZipSep2 (s1.heap.objs.size + 4) (s1.heap.objs.size + 2) (s1.heap.objs.size + 3) s1.heap.objs.size (s1.heap.objs.size + 1) [s1.heap.objs.size] [s1.heap.objs.size + 1] := zip_sep2 (by simp) (by simp)
      refine ⟨s1.heap.objs.size + 4, [s1.heap.objs.size + 4, s1.heap.objs.size + 2, s1.heap.objs.size + 3, s1.heap.objs.size, s1.heap.objs.size + 1], _, _, H1, rfl, I2, turn_zipS (t1 := t1) (t2 := t2) S, ⟨Nat.zero_le _, hz, hTI, ⟨_, _, hTO⟩, ⟨_, h1, rfl, rfl⟩, ⟨_, h2, rfl, rfl⟩⟩, fun c hcm => ?_, q⟩
      have e' : c = s1.heap.objs.size + 4 ∨ c = s1.heap.objs.size + 2 ∨ c = s1.heap.objs.size + 3 ∨ c = s1.heap.objs.size ∨ c = s1.heap.objs.size + 1 := by simpa using hcm
      have hle : s1.heap.objs.size ≤ c := by
        rcases e' with z | z | z | z | z
        · rw [z]; exact Nat.le_add_right _ _
        · rw [z]; exact Nat.le_add_right _ _
        · rw [z]; exact Nat.le_add_right _ _
        · rw [z]; exact Nat.le_refl _
        · rw [z]; exact Nat.le_add_right _ _
      exact I1.fpOk hle (I1.hok.fresh hle)
end Z

set_option Elab.async false
set_option linter.all false
set_option maxRecDepth 100000
set_option maxHeartbeats 4000000
/-! s.translate(str.maketrans("+-", "-+")) -/
namespace Z
open PySem PySem.Spec PyProof.Rows L2
theorem cls_mk (K : PySem.W.Frag) : PySem.W.findCls K (.type "str") (.type "type") (Str.ofString "maketrans") = some (.val (.builtin "str.maketrans")) := by
  first
    | kernel_rfl
    | rfl
section
variable {prog : Program} {w : World} {A : Around} {E : Value → Shared → Prop} {s : Shared}
theorem getm_mk {K : PySem.W.Frag} {pl : Sem Bool} {Q : Value × List Value → Shared → Prop} (X : K.In s.heap) (h : Q (.builtin "str.maketrans", []) { s with toks := s.toks + 1 }) :
    wpAny (model prog w) A (getMethod (.type "str") (Str.ofString "maketrans") pl) Q E s := by
  have hstub : opaqueClassAbove (.type "str") = pure none := by unfold opaqueClassAbove; dsimp only; rw [show Manifest.isStub "str" = false by decide +kernel]; all_goals rfl
  have ht : typeOf (.type "str") = pure (.type "type") := by first | rfl | kernel_rfl
  have L0 : PySem.W.Looks (model prog w) s.heap (typeOf (.type "str")) (.type "type") := PySem.W.Looks.of_pure ht
  have hg : PySem.W.findIn K (.type "type") "__getattribute__" = some (some (.builtin "type.__getattribute__")) := PySem.W.type_tga
  unfold getMethod specialOf
  refine wpAny_bind (wpAny_bind (L0.here ((PySem.W.looks_findIn X hg).here ?_)))
  dsimp only
  rw [if_pos PySem.W.canon_tga]
  refine wpAny_bind (wpAny_mono (Q := fun v => Q (v, [])) (E := E) ?_ (fun _ _ z => wpAny_pure z) fun _ _ z => z)
  have LO : PySem.W.Looks (model prog w) s.heap (opaqueClassAbove (.type "str")) none := PySem.W.Looks.of_pure hstub
  refine PySem.W.cls_open X LO L0 hg (PySem.W.looks_hook X (r := none) (by rfl)) (by show PySem.W.subIn K _ _ = _; rfl) (cls_mk K) ?_
  show wpAny _ _ (ret _) _ _ _
  exact wpAny_pure (wpAny_pure h)
theorem entry_mk : entryFor table "str.maketrans" = some Builtin.«str.maketrans» := entryFor_of_tree (by kernel_rfl)
/-- the swap of 43 and 45 -/
def swp : List (Key × Value) → Prop := fun kvs => ∃ a b : Tok, kvs = [(.inl 43, .int 45 a), (.inl 45, .int 43 b)]
theorem run_mk (t1 t2 : Tok) : MeetsIn prog w (Builtin.«str.maketrans» ⟨[.str "+-" t1, .str "-+" t2], []⟩) (fun A R s =>
    ∀ h' tk kvs, swp kvs → h'.DictOf (mixKind prog w) s.heap.objs.size kvs → (∀ b o, s.heap.get? b = some o → h'.get? b = some o) → R (.ok (.ret (.ref s.heap.objs.size))) { s with heap := h', toks := tk }) := by
  refine .of_wp fun A R s h => ?_
  obtain ⟨hp, g, d, tk, os⟩ := s
  unfold Builtin.«str.maketrans»
  refine wpAny_bind (wpAny_of_eq (a := ()) (by first | rfl | kernel_rfl) ?_)
  refine wpAny_bind (wpAny_of_eq (a := ()) (by first | rfl | kernel_rfl) ?_)
  dsimp only
  refine wpAny_bind (wpAny_of_eq (a := some (Str.ofString "-+")) (by first | rfl | kernel_rfl) ?_)
  refine wpAny_bind (wpAny_of_eq (a := none) (by first | rfl | kernel_rfl) ?_)
  unfold newDict
  refine wpAny_bind (wpAny_newObj_type ?_)
  dsimp only
  have hD0 : (hp.push { cls := .type "dict", data := .dict #[] }).DictOf (mixKind prog w) hp.objs.size [] := Heap.DictOf.new hp
  refine wpAny_bind (wpAny_holding ?_)
  refine wpAny_bind (wpAny_of_eq (a := some (Str.ofString "+-")) (by first | rfl | kernel_rfl) ?_)
  dsimp only
  refine PySem.W.KFB.if_not (by decide +kernel) ?_
  rw [show (Str.ofString "+-").cps.toList.zip (Str.ofString "-+").cps.toList = [(43, 45), (45, 43)] by decide +kernel]
  simp only [List.forIn_cons, List.forIn_nil, bind_assoc, pure_bind]
  refine wpAny_bind (wpAny_mkInt ?_)
  refine wpAny_bind (wpAny_mkInt ?_)
  refine wpAny_bind (wpAny_dictSet_pairs (knd := mixKind prog w) (k := .inl 43) (kV_is (k := .inl 43) ⟨_, rfl⟩) hD0 (fun h1 hd1 sb1 => ?_) (by decide))
  dsimp only at hd1 sb1 ⊢
  refine wpAny_bind (wpAny_mkInt ?_)
  refine wpAny_bind (wpAny_mkInt ?_)
  have e1 : stored ([] : List (Key × Value)) (.inl 43) (.int (45 : Nat) (tk + 1)) = [(.inl 43, .int (45 : Nat) (tk + 1))] := rfl
  rw [e1] at hd1
  refine wpAny_bind (wpAny_dictSet_pairs (knd := mixKind prog w) (k := .inl 45) (kV_is (k := .inl 45) ⟨_, rfl⟩) hd1 (fun h2 hd2 sb2 => ?_) (by show 1 ≤ sizeLine; decide))
  dsimp only at hd2 sb2 ⊢
  refine wpAny_bind (wpAny_of_eq (a := PUnit.unit) (by first | rfl | kernel_rfl) ?_)
  refine wpAny_pure (wpAny_pure ⟨_, rfl, h h2 _ _ ⟨_, _, rfl⟩ hd2 fun b o z => ?_⟩)
  have hb : b ≠ hp.objs.size := Nat.ne_of_lt (Heap.lt_size z)
  exact (sb2.2 b hb).trans ((sb1.2 b hb).trans (Heap.get?_push_of_some _ z))
theorem plain_mk : plainId "str.maketrans" = true := by decide +kernel
theorem check_mk (t1 t2 : Tok) : checkBuiltinCall "str.maketrans" ⟨[.str "+-" t1, .str "-+" t2], []⟩ = pure () := by first | kernel_rfl | rfl
theorem call_mk {t1 t2 : Tok} {Q : Value → Shared → Prop}
    (h : ∀ h' tk kvs, swp kvs → h'.DictOf (mixKind prog w) s.heap.objs.size kvs → (∀ b o, s.heap.get? b = some o → h'.get? b = some o) → Q (.ref s.heap.objs.size) { s with heap := h', toks := tk }) :
    wpAny (model prog w) A (call (.builtin "str.maketrans") [.str "+-" t1, .str "-+" t2]) Q E s :=
  wpAny_call (codeAny_call_builtin plain_mk entry_mk (wpAny_of_eq (a := ()) (check_mk t1 t2) (run_mk t1 t2 A (wants Q E) s h)))
end
/-- the table of the swap -/
def swpV : List (Key × V) := [(.inl 43, .int 45), (.inl 45, .int 43)]
def tMk : TE := fun _ H Q => ∀ p, H p = none → Q (.ref p) (upd H p (.dK swpV))
section
variable {X : Cx}
theorem pe_mk {pl : Sem Bool} {e1 e2 : Expr} {p apos pos j1 p1 j2 p2} (hg : Gl X "str") (hm : X.mg "str" = none)
    (h1 : e1 = .Constant (.str "+-") j1 p1 := by rfl) (h2 : e2 = .Constant (.str "-+") j2 p2 := by rfl)
    (he : eval (.Call (.Attribute (.Name "str" p) "maketrans" apos) [e1, e2] [] pos) X.env = (do
      let ov ← eval (.Name "str" p) X.env
      standAt apos.atName
      let (f, first) ← holding [ov] (getMethod ov "maketrans" pl)
      callWith pos f first (backTo pos (starEach [e1, e2] X.env)) (backToKw pos (keywordEach [] X.env))) := by rfl)
    (hs : starEach [e1, e2] X.env = (false, eval e1 X.env) :: starEach [e2] X.env := by rfl) (hs2 : starEach [e2] X.env = (false, eval e2 X.env) :: starEach [] X.env := by rfl)
    (hpl : (backTo pos (starEach [e2] X.env)).any (·.1) = false := by rfl) : PE X (.Call (.Attribute (.Name "str" p) "maketrans" apos) [e1, e2] [] pos) tMk := by
  subst h1 h2
  refine ⟨fun pins s σ H Q I h => ?_⟩
  refine PySem.W.methodCall_KW (ld_blt I hg hm PyProof.Rows.boot_str ?_ (by decide) (by decide)) he
  refine getm_mk I.kIn ?_
  have I1 : Inv X pins σ H { s with toks := s.toks + 1 } := I.tok _
  have ha : PA X [.Constant (.str "+-") j1 p1, .Constant (.str "-+") j2 p2] (tCons (tC (.str "+-")) (tCons (tC (.str "-+")) tNil)) := pa_cons pe_str (pa_cons pe_str pa_nil)
  show wpAny _ _ (callWith pos (.builtin "str.maketrans") [] (backTo pos (starEach [.Constant (.str "+-") j1 p1, .Constant (.str "-+") j2 p2] X.env)) []) _ _ _
  refine PyProof.Rows.callWith_builtin1 (thn (ha.run pos pins _ σ H (fun vs H1 => H1 = H ∧ vs = [.str "+-", .str "-+"]) I1 ⟨rfl, rfl⟩) fun us s1 ⟨vs, H1, I2, r, e1, e2⟩ => ?_) hs hpl
  subst e1 e2
  obtain ⟨u, w', rfl, ⟨t, rfl⟩, ⟨t', rfl⟩⟩ := vals2 r
  refine call_mk fun h' tk kvs ⟨a, b, ek⟩ hD hk => ?_
  subst ek
  have hsys : (s1.heap.objs.size == sysModules) = false := beq_eq_false_iff_ne.mpr (Ne.symm (Nat.ne_of_lt I2.big))
  have rel : KV swpV [(.inl 43, .int 45 a), (.inl 45, .int 43 b)] := .cons ⟨rfl, _, rfl⟩ (.cons ⟨rfl, _, rfl⟩ .nil)
  exact ⟨.ref s1.heap.objs.size, _, I2.laid (t' := tk) (o := .dK swpV) hk (Nat.le_refl _) (dk_new (by show 2 ≤ sizeLine; decide) hsys rel hD), rfl, h _ (I2.hok.fresh (Nat.le_refl _))⟩
end
/-- a sign, swapped -/
def sw (c : Nat) : Nat := if c = 43 then 45 else if c = 45 then 43 else c
end Z

set_option Elab.async false
set_option linter.all false
set_option maxRecDepth 100000
set_option maxHeartbeats 4000000
namespace Z
open PySem PySem.Spec PyProof.Rows L2
open PySem.Builtin PySem.Builtin.Str
theorem sw_43 : sw 43 = 45 := rfl
theorem sw_45 : sw 45 = 43 := rfl
theorem sw_no {c : Nat} (h1 : c ≠ 43) (h2 : c ≠ 45) : sw c = c := by unfold sw; rw [if_neg h1, if_neg h2]
theorem mapOfK {prog : Program} {w : World} {h h' : Heap} {a : Addr} {f : Key → Option Value} (m : h.MapOf (mixKind prog w) a f) (k : ∀ b o, h.get? b = some o → h'.get? b = some o) : h'.MapOf (mixKind prog w) a f := by
  obtain ⟨o, es, ep, ho, r⟩ := m
  exact ⟨o, es, ep, k _ _ ho, r⟩
def TellsS (f : Key → Option Value) : Prop := (∃ t, f (.inl 43) = some (.int 45 t)) ∧ (∃ t, f (.inl 45) = some (.int 43 t)) ∧ ∀ c : Nat, c ≠ 43 → c ≠ 45 → f (.inl (c : Int)) = none
section
variable {prog : Program} {w : World} {A : Around} {E : Value → Shared → Prop} {s : Shared} {d : Addr} {c : Nat}
theorem wpAny_tlS {f : Key → Option Value} {Q : Mapped → Shared → Prop} (hh : A.handled = none) (hd : (d == sysModules) = false) (hm : s.heap.MapOf (mixKind prog w) d f) (hk : TellsS f)
    (h1 : c = 43 → ∀ h' k, (∀ b o, s.heap.get? b = some o → h'.get? b = some o) → Q (.char 45) { s with heap := h', toks := k })
    (h3 : c = 45 → ∀ h' k, (∀ b o, s.heap.get? b = some o → h'.get? b = some o) → Q (.char 43) { s with heap := h', toks := k })
    (h2 : c ≠ 43 → c ≠ 45 → ∀ h' k, (∀ b o, s.heap.get? b = some o → h'.get? b = some o) → Q .keep { s with heap := h', toks := k }) : wpAny (model prog w) A (tableLookup (.ref d) c) Q E s := by
  unfold tableLookup
  refine wpAny_bind (wpAny_attempt (wpAny_bind (wpAny_mkInt ?_)))
  obtain ⟨⟨t, k1⟩, ⟨t', k2⟩, k3⟩ := hk
  by_cases c1 : c = 43
  · subst c1
    refine wpAny_getItem_of (knd := mixKind prog w) (k := .inl 43) (kV_is (k := .inl 43) ⟨_, rfl⟩) hm k1 ?_
    show wpAny _ _ (do let o ← asInt? (Value.int 45 t); _) _ _ _
    refine wpAny_bind (wpAny_of_eq (a := some 45) rfl ?_)
    show wpAny _ _ (if (decide ((45 : Int) < 0) || decide ((45 : Int) > 0x10FFFF)) = true then _ else pure (Mapped.char (45 : Int).toNat)) _ _ _
    rw [if_neg (by decide)]
    exact wpAny_pure (h1 rfl s.heap _ fun _ _ e => e)
  · by_cases c2 : c = 45
    · subst c2
      refine wpAny_getItem_of (knd := mixKind prog w) (k := .inl 45) (kV_is (k := .inl 45) ⟨_, rfl⟩) hm k2 ?_
      show wpAny _ _ (do let o ← asInt? (Value.int 43 t'); _) _ _ _
      refine wpAny_bind (wpAny_of_eq (a := some 43) rfl ?_)
      show wpAny _ _ (if (decide ((43 : Int) < 0) || decide ((43 : Int) > 0x10FFFF)) = true then _ else pure (Mapped.char (43 : Int).toNat)) _ _ _
      rw [if_neg (by decide)]
      exact wpAny_pure (h3 rfl s.heap _ fun _ _ e => e)
    · refine wpAny_getItem_missing_of (knd := mixKind prog w) (k := .inl (c : Int)) (kV_is (k := .inl (c : Int)) ⟨_, rfl⟩) hd hh hm (k3 c c1 c2) fun h' e hx => ?_
      show wpAny _ _ (do let b ← isInstance (.ref e) (.type "LookupError"); _) _ _ _
      obtain ⟨ob, t, ho, hc, _⟩ := hx.there
      refine wpAny_bind (wpAny_isInstance (T := "KeyError") (b := true) ⟨ob, ho, hc⟩ key_is_lookup ?_)
      show wpAny _ _ (if true = true then (do rule "str.translate.not-in-table"; pure Mapped.keep) else _) _ _ _
      rw [if_pos rfl]
      exact wpAny_bind (wpAny_rule (wpAny_pure (h2 c1 c2 h' _ hx.keeps)))
end
theorem pieces_sw : ∀ (l : List Nat) (acc : Array Nat), List.foldl (fun acc (p : Str) => acc ++ p.cps) acc (l.map fun c => (⟨#[sw c]⟩ : Str)) = acc ++ (l.map sw).toArray
  | [], acc => by
    show acc = acc ++ #[]
    rw [Array.append_empty]
  | c :: l, acc => by
    rw [List.map_cons, List.foldl_cons, pieces_sw l]
    apply Array.toList_inj.mp
    simp
def TrS (x : List Nat) (fast0 : Bool) (s : Shared) (rest : List Nat) (st : List Str × Nat × Bool × List (Nat × Option Nat) × Bool) (s' : Shared) : Prop :=
  ∃ (past : List Nat) (pieces : List Str) (known : List (Nat × Option Nat)) (h' : Heap) (k : Nat), x = past ++ rest ∧ st = (pieces, past.length, fast0, known, false) ∧ pieces.reverse = past.map (fun c => (⟨#[sw c]⟩ : Str)) ∧
    (∀ c a, List.lookup c known = some a → a = some (sw c)) ∧ s' = { s with heap := h', toks := k } ∧ ∀ b o, s.heap.get? b = some o → h'.get? b = some o
theorem TrS.next {x : List Nat} {fast0 : Bool} {s : Shared} {rest past : List Nat} {c : Nat} {pieces : List Str} {known : List (Nat × Option Nat)} {h' : Heap} {k : Nat} (h1 : x = past ++ c :: rest)
    (h3 : pieces.reverse = past.map (fun c => (⟨#[sw c]⟩ : Str))) (h4 : ∀ c a, List.lookup c known = some a → a = some (sw c)) (h6 : ∀ b o, s.heap.get? b = some o → h'.get? b = some o) :
    TrS x fast0 s rest (⟨#[sw c]⟩ :: pieces, past.length + 1, fast0, known, false) { s with heap := h', toks := k } := by
  refine ⟨past ++ [c], ⟨#[sw c]⟩ :: pieces, known, h', k, ?_, ?_, ?_, h4, rfl, h6⟩
  · rw [h1, List.append_assoc] <;> rfl
  · rw [List.length_append] <;> rfl
  · rw [List.reverse_cons, h3, List.map_append] <;> rfl
theorem meets_tr {prog : Program} {w : World} (x : List Nat) (t : Tok) (d : Addr) (hd : (d == sysModules) = false) (hz : x.length ≤ 16000000) : MeetsIn prog w («str.translate» ⟨[.str (SX.S x) t, .ref d], []⟩) (fun A R s =>
    A.handled = none ∧ (∃ f, s.heap.MapOf (mixKind prog w) d f ∧ TellsS f) ∧ ∀ (v : Value) (h' : Heap) (k : Nat), (∀ b o, s.heap.get? b = some o → h'.get? b = some o) → (∃ t', v = .str (SX.S (x.map sw)) t') → R (.ok (.ret v)) { s with heap := h', toks := k }) := by
  refine .of_wp fun A R s h => ?_
  obtain ⟨hh, ⟨f, hm, hk⟩, h⟩ := h
  have hh1 : A.in1.handled = none := hh
  show wpAny _ _ (if ((SX.S x).length == 0) = true then (do rule "str.translate.empty"; ret (.str (SX.S x) t)) else (do
    let st ← forIn (SX.S x).cps (([], 0, (SX.S x).cps.all fun y => decide (y < 128), [], false) : List Str × Nat × Bool × List (Nat × Option Nat) × Bool) _
    _)) _ _ s
  by_cases h0 : ((SX.S x).length == 0) = true
  · rw [if_pos h0]
    have hx : x = [] := by
      rw [beq_iff_eq, SX.S_len] at h0
      exact List.eq_nil_of_length_eq_zero h0
    subst hx
    exact wpAny_bind (wpAny_rule (wpAny_pure ⟨_, rfl, h _ s.heap s.toks (fun _ _ e => e) ⟨t, rfl⟩⟩))
  · rw [if_neg h0]
    generalize ((SX.S x).cps.all fun y => decide (y < 128)) = fast0
    refine wpAny_bind (MeetsSeq2.wpAny_forIn_array _ (TrS x fast0 s) _ (fun c rest st s' hI => ?turn) (fun st s' hI => ?fin) (SX.S x).cps ([], 0, fast0, [], false) ?h0)
    case h0 =>
      refine ⟨[], [], [], s.heap, s.toks, ?_, rfl, rfl, fun c a z => ?_, rfl, fun _ _ e => e⟩
      · show x = [] ++ x.toArray.toList
        rw [List.toList_toArray, List.nil_append]
      · rw [List.lookup_nil] at z
        cases z
    case turn =>
      obtain ⟨past, pieces, known, h', k, e1, e2, e3, e4, e5, e6⟩ := hI
      subst e2
      subst e5
      have hpl : past.length ≤ 16000000 := by
        have q := congrArg List.length e1
        rw [List.length_append] at q
        omega
      have hm' : ({ s with heap := h', toks := k } : Shared).heap.MapOf (mixKind prog w) d f := mapOfK hm e6
      show wpAny _ _ (if tooLong past.length = true then _ else (if fast0 = true then _ else _)) _ _ _
      rw [show tooLong past.length = false from PyProof.Rows.short24 (by omega), if_neg Bool.false_ne_true]
      cases fast0 with
      | true =>
        rw [if_pos rfl]
        cases hl : List.lookup c known with
        | some a =>
          have ha := e4 c a hl
          subst ha
          refine wpAny_bind (wpAny_pure ?_)
          exact wpAny_pure (TrS.next e1 e3 e4 e6)
        | none =>
          have new : ∀ b, b = some (sw c) → ∀ c' a, List.lookup c' ((c, b) :: known) = some a → a = some (sw c') := fun b hb c' a z => by
            rcases lookup_new z with ⟨q1, q2⟩ | q
            · rw [q2, hb, q1]
            · exact e4 c' a q
          refine wpAny_bind (wpAny_tlS hh1 hd hm' hk (fun hw h2 k2 k3 => ?_) (fun hw h2 k2 k3 => ?_) (fun hw hw2 h2 k2 k3 => ?_))
          · subst hw
            refine wpAny_bind (wpAny_pure ?_)
            refine wpAny_pure ?_
            exact TrS.next (c := 43) (fast0 := true) (k := k2) (known := (43, some 45) :: known) e1 e3 (new (some 45) rfl) (fun b o z => k3 b o (e6 b o z))
          · subst hw
            refine wpAny_bind (wpAny_pure ?_)
            refine wpAny_pure ?_
            exact TrS.next (c := 45) (fast0 := true) (k := k2) (known := (45, some 43) :: known) e1 e3 (new (some 43) rfl) (fun b o z => k3 b o (e6 b o z))
          · have e : sw c = c := sw_no hw hw2
            refine wpAny_bind (wpAny_pure ?_)
            refine wpAny_pure ?_
            have q := TrS.next (fast0 := true) (k := k2) (known := (c, some c) :: known) e1 e3 (new (some c) (by rw [e])) (fun b o z => k3 b o (e6 b o z))
            rw [e] at q
            exact q
      | false =>
        rw [if_neg Bool.false_ne_true]
        show wpAny _ _ (if false = true then _ else _) _ _ _
        rw [if_neg Bool.false_ne_true]
        refine wpAny_bind (wpAny_tlS hh1 hd hm' hk (fun hw h2 k2 k3 => ?_) (fun hw h2 k2 k3 => ?_) (fun hw hw2 h2 k2 k3 => ?_))
        · subst hw
          refine wpAny_pure ?_
          exact TrS.next (c := 43) (fast0 := false) (k := k2) e1 e3 e4 (fun b o z => k3 b o (e6 b o z))
        · subst hw
          refine wpAny_pure ?_
          exact TrS.next (c := 45) (fast0 := false) (k := k2) e1 e3 e4 (fun b o z => k3 b o (e6 b o z))
        · have e : sw c = c := sw_no hw hw2
          refine wpAny_pure ?_
          have q := TrS.next (fast0 := false) (k := k2) e1 e3 e4 (fun b o z => k3 b o (e6 b o z))
          rw [e] at q
          exact q
    case fin =>
      obtain ⟨past, pieces, known, h', k, e1, e2, e3, e4, e5, e6⟩ := hI
      subst e2
      subst e5
      have ex : x = past := by rw [e1, List.append_nil]
      show wpAny _ _ (if tooLong past.length = true then _ else retStr { cps := List.foldl (fun acc (p : Str) => acc ++ p.cps) #[] pieces.reverse }) _ _ _
      rw [show tooLong past.length = false from PyProof.Rows.short24 (by rw [← ex]; omega), if_neg Bool.false_ne_true, e3, pieces_sw, ← ex]
      have ev : (⟨#[] ++ (x.map sw).toArray⟩ : Str) = SX.S (x.map sw) := by
        rw [Array.empty_append] <;> rfl
      rw [ev]
      exact wpAny_bind (wpAny_mkStr (wpAny_pure ⟨_, rfl, h _ h' _ e6 ⟨_, rfl⟩⟩) (by rw [SX.S_len, List.length_map, sizeLine_eq]; omega))
section
variable {X : Cx}
theorem swp_of {vs : List (Key × Value)} (r : KV swpV vs) : ∃ a b : Tok, vs = [(.inl 43, .int 45 a), (.inl 45, .int 43 b)] := by
  cases r with
  | cons r1 r2 =>
    cases r2 with
    | cons r3 r4 =>
      cases r4
      rename_i p q
      obtain ⟨p1, p2⟩ := p
      obtain ⟨q1, q2⟩ := q
      obtain ⟨e1, t1, e2⟩ := r1
      obtain ⟨e3, t2, e4⟩ := r3
      cases e1; cases e2; cases e3; cases e4
      exact ⟨t1, t2, rfl⟩
/-- x.translate(the swap) -/
theorem mt_trS (hc : X.calm = true) : MtR X "str.translate" (fun x xs H Q => ∃ (t : List Nat) (d : Addr), x = .str (SX.S t) ∧ xs = [.ref d] ∧ H d = some (.dK swpV) ∧ t.length ≤ 16000000 ∧ Q (.str (SX.S (t.map sw))) H) := by
  intro pins s σ H x xs v us Q I rx rs h
  obtain ⟨a, d, rfl, rfl, hd, h3, h⟩ := h
  obtain ⟨t, rfl⟩ := rx
  cases rs with
  | cons r1 rs =>
    cases rs
    cases r1
    obtain ⟨_, hsys, vs, rel, dd⟩ := dk_of I.hok hd
    obtain ⟨ta, tb, rfl⟩ := swp_of rel
    refine call_meetsIn F.slot_str_translate (typeIs_str _ _ _) F.entry_str_translate (F.args_str_translate_2 _ _) (meets_tr a t d hsys h3) ⟨I.ok.hd hc, ⟨_, dd.mapOf, ⟨ta, rfl⟩, ⟨tb, rfl⟩, fun c c1 c2 => ?_⟩, ?_⟩
    · have z1 : decide ((Sum.inl 43 : Key) = Sum.inl (c : Int)) = false := decide_eq_false (fun z => c1 (by have := Sum.inl.inj z; omega))
      have z2 : decide ((Sum.inl 45 : Key) = Sum.inl (c : Int)) = false := decide_eq_false (fun z => c2 (by have := Sum.inl.inj z; omega))
      unfold valueAt
      rw [List.find?_cons, z1, List.find?_cons, z2] <;> rfl
    · intro v h' k hk ⟨t', e⟩
      subst e
      exact ⟨.str _, H, I.kept (t' := k) hk, ⟨t', rfl⟩, h⟩
end
end Z

set_option Elab.async false
set_option linter.all false
set_option maxRecDepth 100000
set_option maxHeartbeats 1000000
/-! Readings told by data: what a name holds is told by a datum of plain Lean, whatever stands where in memory. -/
namespace Z
open PySem PySem.Spec PyProof.Rows L2

/-! ### cells that may change: each with what stays true of it -/
abbrev Gh := Addr → Option (HO → Prop)
def Hold (Δ : Gh) (H : Hp) : Prop := ∀ a I, Δ a = some I → ∃ o, H a = some o ∧ I o
def Keep (Δ : Gh) (H H' : Hp) : Prop := ∀ a o, Δ a = none → H a = some o → H' a = some o
def Ext (Δ : Gh) (H H' : Hp) : Prop := Keep Δ H H' ∧ Hold Δ H'
abbrev Own := List (Addr × (HO → Prop))
def Sat (Γ : Own) (Δ : Gh) : Prop := ∀ p ∈ Γ, Δ p.1 = some p.2
theorem Keep.refl (Δ : Gh) (H : Hp) : Keep Δ H H := fun _ _ _ h => h
theorem Keep.trans {Δ : Gh} {H H1 H2 : Hp} (a : Keep Δ H H1) (b : Keep Δ H1 H2) : Keep Δ H H2 := fun x o n h => b x o n (a x o n h)
theorem Ext.refl {Δ : Gh} {H : Hp} (h : Hold Δ H) : Ext Δ H H := ⟨Keep.refl Δ H, h⟩
theorem Ext.trans {Δ : Gh} {H H1 H2 : Hp} (a : Ext Δ H H1) (b : Ext Δ H1 H2) : Ext Δ H H2 := ⟨a.1.trans b.1, b.2⟩
/-- a fresh cell is none of the changing ones -/
theorem Hold.fresh {Δ : Gh} {H : Hp} (h : Hold Δ H) {p : Addr} (hp : H p = none) : Δ p = none := by
  cases e : Δ p with
  | none => rfl
  | some I =>
    obtain ⟨o, ho, _⟩ := h p I e
    rw [hp] at ho
    cases ho
theorem Hold.new {Δ : Gh} {H : Hp} (h : Hold Δ H) {p : Addr} (hp : H p = none) (o : HO) : Hold Δ (upd H p o) := fun a I e => by
  obtain ⟨u, hu, iu⟩ := h a I e
  exact ⟨u, by rw [upd_ne (ne_of_none hu hp)]; exact hu, iu⟩
theorem Ext.new {Δ : Gh} {H : Hp} (h : Hold Δ H) {p : Addr} (hp : H p = none) (o : HO) : Ext Δ H (upd H p o) :=
  ⟨fun a u _ e => by rw [upd_ne (ne_of_none e hp)]; exact e, h.new hp o⟩
/-- what is fresh later was fresh before -/
theorem Ext.back {Δ : Gh} {H H' : Hp} (h : Hold Δ H) (e : Ext Δ H H') {p : Addr} (hp : H' p = none) : H p = none := by
  cases q : H p with
  | none => rfl
  | some o =>
    have hn := e.2.fresh hp
    rw [e.1 p o hn q] at hp
    cases hp
theorem Ext.same {Δ : Gh} {H H' : Hp} (h : Hold Δ H) (s : Same H H') : Ext Δ H H' := ⟨fun a o _ q => s a o q, fun a I e => by
  obtain ⟨o, ho, io⟩ := h a I e
  exact ⟨o, s a o ho, io⟩⟩

/-! ### data -/
/-- which value of the heap bears a datum -/
class Rp (α : Type) where
  rp : PySem.W.Frag → Gh → Hp → V → α → Prop
  mono : ∀ {K : PySem.W.Frag} {Δ : Gh} {H H' : Hp} {v : V} {a : α}, Keep Δ H H' → rp K Δ H v a → rp K Δ H' v a
  weak : ∀ {K : PySem.W.Frag} {Δ Δ' : Gh} {H : Hp} {v : V} {a : α}, (∀ x o, H x = some o → Δ x = none → Δ' x = none) → rp K Δ H v a → rp K Δ' H v a
/-- a text, by its codes -/
structure Tx where
  s : List Nat
  deriving DecidableEq
/-- a tuple of any length -/
structure Tup (α : Type) where
  l : List α
/-- an object at a told place -/
structure Loc where
  p : Addr
instance : Rp Int := ⟨fun _ _ _ v a => v = .int a, fun _ h => h, fun _ h => h⟩
instance : Rp Bool := ⟨fun _ _ _ v a => v = .bl a, fun _ h => h, fun _ h => h⟩
instance : Rp Unit := ⟨fun _ _ _ v _ => v = .non, fun _ h => h, fun _ h => h⟩
instance : Rp Tx := ⟨fun _ _ _ v a => v = .str ⟨a.s.toArray⟩, fun _ h => h, fun _ h => h⟩
instance : Rp Loc := ⟨fun _ _ _ v a => v = .ref a.p, fun _ h => h, fun _ h => h⟩
universe u1 u2 u3
/-- members, one by one -/
def All2 {α : Type u1} {β : Type u2} (R : α → β → Prop) : List α → List β → Prop
  | [], [] => True
  | x :: xs, y :: ys => R x y ∧ All2 R xs ys
  | _, _ => False
theorem All2.imp {α : Type u1} {β : Type u2} {R S : α → β → Prop} (h : ∀ x y, R x y → S x y) : ∀ {xs : List α} {ys : List β}, All2 R xs ys → All2 S xs ys
  | [], [], _ => trivial
  | [], _ :: _, q => q.elim
  | _ :: _, [], q => q.elim
  | _ :: _, _ :: _, q => ⟨h _ _ q.1, All2.imp h q.2⟩
theorem All2.len {α : Type u1} {β : Type u2} {R : α → β → Prop} : ∀ {xs : List α} {ys : List β}, All2 R xs ys → xs.length = ys.length
  | [], [], _ => rfl
  | [], _ :: _, q => q.elim
  | _ :: _, [], q => q.elim
  | _ :: xs, _ :: ys, q => by rw [List.length_cons, List.length_cons, All2.len q.2]
theorem All2.get {α : Type u1} {β : Type u2} {R : α → β → Prop} : ∀ {xs : List α} {ys : List β} {i : Nat} {y : β}, All2 R xs ys → ys[i]? = some y → ∃ x, xs[i]? = some x ∧ R x y
  | [], [], _, _, _, e => by simp at e
  | [], _ :: _, _, _, q, _ => q.elim
  | _ :: _, [], _, _, q, _ => q.elim
  | x :: _, y :: _, 0, _, q, e => by
    have e' : y = _ := Option.some.inj e
    subst e'
    exact ⟨x, rfl, q.1⟩
  | _ :: xs, _ :: ys, i + 1, y, q, e => All2.get (xs := xs) (ys := ys) (i := i) q.2 e
theorem All2.getL {α : Type u1} {β : Type u2} {R : α → β → Prop} : ∀ {xs : List α} {ys : List β} {i : Nat} {x : α}, All2 R xs ys → xs[i]? = some x → ∃ y, ys[i]? = some y ∧ R x y
  | [], [], _, _, _, e => by simp at e
  | [], _ :: _, _, _, q, _ => q.elim
  | _ :: _, [], _, _, q, _ => q.elim
  | x :: _, y :: _, 0, _, q, e => by
    have e' : x = _ := Option.some.inj e
    subst e'
    exact ⟨y, rfl, q.1⟩
  | _ :: xs, _ :: ys, i + 1, x, q, e => All2.getL (xs := xs) (ys := ys) (i := i) q.2 e
theorem All2.snoc {α : Type u1} {β : Type u2} {R : α → β → Prop} {x : α} {y : β} (r : R x y) : ∀ {xs : List α} {ys : List β}, All2 R xs ys → All2 R (xs ++ [x]) (ys ++ [y])
  | [], [], _ => ⟨r, trivial⟩
  | [], _ :: _, q => q.elim
  | _ :: _, [], q => q.elim
  | _ :: _, _ :: _, q => ⟨q.1, All2.snoc r q.2⟩
theorem All2.map {α : Type u1} {β : Type u2} {γ : Type u3} {R : α → β → Prop} {f : γ → α} {g : γ → β} : ∀ {xs : List γ}, (∀ x ∈ xs, R (f x) (g x)) → All2 R (xs.map f) (xs.map g)
  | [], _ => trivial
  | _ :: xs, h => ⟨h _ List.mem_cons_self, All2.map fun x hx => h x (List.mem_cons_of_mem _ hx)⟩
/-- a list, a tuple of the written part -/
def KL (K : PySem.W.Frag) (p : Addr) (xs : List V) : Prop := ∃ (o : Obj) (its : Array Value) (n : Nat), K.lookup p = some o ∧ o.cls = .type "list" ∧ o.dict = none ∧ o.data = .seq its n ∧ its.size ≤ sizeLine ∧ Vals xs its.toList
def KT (K : PySem.W.Frag) (p : Addr) (xs : List V) : Prop := ∃ (o : Obj) (its : Array Value) (n : Nat), K.lookup p = some o ∧ o.cls = .type "tuple" ∧ o.data = .seq its n ∧ its.size ≤ sizeLine ∧ Vals xs its.toList
/-- a list, a tuple that stays as it is -/
def StL (K : PySem.W.Frag) (Δ : Gh) (H : Hp) (p : Addr) (xs : List V) : Prop := (Δ p = none ∧ Rd H p (.lst xs)) ∨ KL K p xs
def StT (K : PySem.W.Frag) (Δ : Gh) (H : Hp) (p : Addr) (xs : List V) : Prop := (Δ p = none ∧ Rd H p (.tup xs)) ∨ KT K p xs
section
variable {K : PySem.W.Frag} {Δ Δ' : Gh} {H H' : Hp} {p : Addr} {xs : List V}
theorem StL.seq (h : StL K Δ H p xs) : SqL K H p xs := h.elim (fun h => .inl h.2) .inr
theorem StT.seq (h : StT K Δ H p xs) : SqT K H p xs := h.elim (fun h => .inl h.2) .inr
theorem rd_mono {o : HO} (k : Keep Δ H H') (n : Δ p = none) (h : Rd H p o) : Rd H' p o := h.elim (fun h => .inl (k _ _ n h)) fun ⟨u, h⟩ => .inr ⟨u, k _ _ n h⟩
theorem rd_some {o : HO} (h : Rd H p o) : ∃ u, H p = some u := h.elim (fun h => ⟨_, h⟩) fun ⟨u, h⟩ => ⟨_, h⟩
theorem StL.mono (k : Keep Δ H H') (h : StL K Δ H p xs) : StL K Δ H' p xs := h.elim (fun h => .inl ⟨h.1, rd_mono k h.1 h.2⟩) .inr
theorem StT.mono (k : Keep Δ H H') (h : StT K Δ H p xs) : StT K Δ H' p xs := h.elim (fun h => .inl ⟨h.1, rd_mono k h.1 h.2⟩) .inr
theorem StL.weak (w : ∀ x o, H x = some o → Δ x = none → Δ' x = none) (h : StL K Δ H p xs) : StL K Δ' H p xs := h.elim (fun h => .inl ⟨let ⟨u, hu⟩ := rd_some h.2; w p u hu h.1, h.2⟩) .inr
theorem StT.weak (w : ∀ x o, H x = some o → Δ x = none → Δ' x = none) (h : StT K Δ H p xs) : StT K Δ' H p xs := h.elim (fun h => .inl ⟨let ⟨u, hu⟩ := rd_some h.2; w p u hu h.1, h.2⟩) .inr
end
section
variable {α β : Type} [Rp α] [Rp β]
instance : Rp (List α) where
  rp K Δ H v xs := ∃ p vs, v = .ref p ∧ StL K Δ H p vs ∧ SqL K H p vs ∧ All2 (fun u a => Rp.rp K Δ H u a) vs xs
  mono k h := by
    obtain ⟨p, vs, e, n, s, q⟩ := h
    exact ⟨p, vs, e, n.mono k, (n.mono k).seq, q.imp fun _ _ => Rp.mono k⟩
  weak w h := by
    obtain ⟨p, vs, e, n, s, q⟩ := h
    exact ⟨p, vs, e, n.weak w, s, q.imp fun _ _ => Rp.weak w⟩
instance : Rp (Tup α) where
  rp K Δ H v xs := ∃ p vs, v = .ref p ∧ StT K Δ H p vs ∧ SqT K H p vs ∧ All2 (fun u a => Rp.rp K Δ H u a) vs xs.l
  mono k h := by
    obtain ⟨p, vs, e, n, s, q⟩ := h
    exact ⟨p, vs, e, n.mono k, (n.mono k).seq, q.imp fun _ _ => Rp.mono k⟩
  weak w h := by
    obtain ⟨p, vs, e, n, s, q⟩ := h
    exact ⟨p, vs, e, n.weak w, s, q.imp fun _ _ => Rp.weak w⟩
instance : Rp (α × β) where
  rp K Δ H v x := ∃ p a b, v = .ref p ∧ StT K Δ H p [a, b] ∧ SqT K H p [a, b] ∧ Rp.rp K Δ H a x.1 ∧ Rp.rp K Δ H b x.2
  mono k h := by
    obtain ⟨p, a, b, e, n, s, q, r⟩ := h
    exact ⟨p, a, b, e, n.mono k, (n.mono k).seq, Rp.mono k q, Rp.mono k r⟩
  weak w h := by
    obtain ⟨p, a, b, e, n, s, q, r⟩ := h
    exact ⟨p, a, b, e, n.weak w, s, Rp.weak w q, Rp.weak w r⟩
end

/-! ### names -/
structure Cell where
  {α : Type}
  [r : Rp α]
  val : α
def Cell.rp (c : Cell) (K : PySem.W.Frag) (Δ : Gh) (H : Hp) (v : V) : Prop := c.r.rp K Δ H v c.val
abbrev Env := List (Option Cell)
def EnvOk (K : PySem.W.Frag) (Δ : Gh) (σ : L2.St) (H : Hp) (ρ : Env) : Prop := σ.length = ρ.length ∧ ∀ (i : Nat) (c : Cell), ρ[i]? = some (some c) → ∃ v, σ[i]? = some (some v) ∧ c.rp K Δ H v
section
variable {K : PySem.W.Frag} {Δ Δ' : Gh} {σ : L2.St} {H H' : Hp} {ρ : Env}
theorem EnvOk.mono (k : Keep Δ H H') (h : EnvOk K Δ σ H ρ) : EnvOk K Δ σ H' ρ := ⟨h.1, fun i c e => by
  obtain ⟨v, e1, e2⟩ := h.2 i c e
  exact ⟨v, e1, c.r.mono k e2⟩⟩
theorem EnvOk.weak (w : ∀ x o, H x = some o → Δ x = none → Δ' x = none) (h : EnvOk K Δ σ H ρ) : EnvOk K Δ' σ H ρ := ⟨h.1, fun i c e => by
  obtain ⟨v, e1, e2⟩ := h.2 i c e
  exact ⟨v, e1, c.r.weak w e2⟩⟩
theorem EnvOk.set {i : Nat} {c : Cell} {v : V} (h : EnvOk K Δ σ H ρ) (hi : i < ρ.length) (hv : c.rp K Δ H v) : EnvOk K Δ (σ.set i (some v)) H (ρ.set i (some c)) := by
  refine ⟨by rw [List.length_set, List.length_set]; exact h.1, fun j d e => ?_⟩
  by_cases hj : i = j
  · subst hj
    rw [List.getElem?_set_self hi] at e
    cases e
    exact ⟨v, List.getElem?_set_self (by rw [h.1]; exact hi), hv⟩
  · rw [List.getElem?_set_ne hj] at e ⊢
    exact h.2 j d e
theorem EnvOk.drop {i : Nat} (h : EnvOk K Δ σ H ρ) : EnvOk K Δ (σ.set i none) H (ρ.set i none) := by
  refine ⟨by rw [List.length_set, List.length_set]; exact h.1, fun j d e => ?_⟩
  by_cases hj : i = j
  · subst hj
    by_cases hi : i < ρ.length
    · rw [List.getElem?_set_self hi] at e
      cases e
    · rw [List.getElem?_eq_none (by rw [List.length_set]; omega)] at e
      cases e
  · rw [List.getElem?_set_ne hj] at e ⊢
    exact h.2 j d e
def wipeE (ρ : Env) : List Nat → Env
  | [] => ρ
  | v :: vs => (wipeE ρ vs).set v none
theorem EnvOk.wipe (h : EnvOk K Δ σ H ρ) : ∀ vs : List Nat, EnvOk K Δ (L2.wipe σ vs) H (wipeE ρ vs)
  | [] => h
  | v :: vs => (EnvOk.wipe h vs).drop
end

/-! ### expressions -/
/-- the datum is just this -/
def Is {α : Type u1} (a : α) : α → Prop := fun x => x = a
def Ev (K : PySem.W.Frag) (Γ : Own) (te : TE) (ρ : Env) {α : Type} [Rp α] (P : α → Prop) : Prop :=
  ∀ (Δ : Gh) (σ : L2.St) (H : Hp) (Q : VK), Sat Γ Δ → Hold Δ H → EnvOk K Δ σ H ρ → (∀ v H' a, P a → Ext Δ H H' → Rp.rp K Δ H' v a → Q v H') → te σ H Q
def EvT (K : PySem.W.Frag) (Γ : Own) (t : TT) (ρ : Env) (P : Bool → Prop) : Prop :=
  ∀ (Δ : Gh) (σ : L2.St) (H : Hp) (Q : Bool → Hp → Prop), Sat Γ Δ → Hold Δ H → EnvOk K Δ σ H ρ → (∀ b H', P b → Ext Δ H H' → Q b H') → t σ H Q
def ArgsOk (K : PySem.W.Frag) (Δ : Gh) (H : Hp) : List V → List Cell → Prop := All2 fun (v : V) (c : Cell) => c.rp K Δ H v
def EvA (K : PySem.W.Frag) (Γ : Own) (t : TA) (ρ : Env) (P : List Cell → Prop) : Prop :=
  ∀ (Δ : Gh) (σ : L2.St) (H : Hp) (Q : List V → Hp → Prop), Sat Γ Δ → Hold Δ H → EnvOk K Δ σ H ρ → (∀ vs H' cs, P cs → Ext Δ H H' → ArgsOk K Δ H' vs cs → Q vs H') → t σ H Q
section
variable {K : PySem.W.Frag} {Γ : Own} {ρ : Env} {ta tb tc te : TE} {t u : TT} {α β γ : Type} [Rp α] [Rp β] [Rp γ] {Pa : α → Prop} {Pb : β → Prop} {Pc : γ → Prop}
theorem Ev.imp {P P' : α → Prop} (h : Ev K Γ te ρ P) (q : ∀ a, P a → P' a) : Ev K Γ te ρ P' := fun Δ σ H Q s hh e k => h Δ σ H Q s hh e fun v H' a p => k v H' a (q a p)
theorem EvT.imp {P P' : Bool → Prop} (h : EvT K Γ t ρ P) (q : ∀ a, P a → P' a) : EvT K Γ t ρ P' := fun Δ σ H Q s hh e k => h Δ σ H Q s hh e fun b H' p => k b H' (q b p)
theorem ev_is {a b : α} (h : Ev K Γ te ρ (Is a)) (e : a = b) : Ev K Γ te ρ (Is b) := e ▸ h
theorem et_is {a b : Bool} (h : EvT K Γ t ρ (Is a)) (e : a = b) : EvT K Γ t ρ (Is b) := e ▸ h
theorem ev_var {i : Nat} {a : α} (h : ρ[i]? = some (some ⟨a⟩) := by rfl) : Ev K Γ (tVar i) ρ (Is a) := fun Δ σ H Q s hh e k => by
  obtain ⟨v, h1, h2⟩ := e.2 i _ h
  exact ⟨v, h1, k v H a rfl (Ext.refl hh) h2⟩
theorem ev_int {i : Int} : Ev K Γ (tC (.int i)) ρ (Is i) := fun Δ σ H Q s hh e k => k _ H i rfl (Ext.refl hh) rfl
theorem ev_bl {b : Bool} : Ev K Γ (tC (.bl b)) ρ (Is b) := fun Δ σ H Q s hh e k => k _ H b rfl (Ext.refl hh) rfl
theorem ev_non : Ev K Γ (tC .non) ρ (Is ()) := fun Δ σ H Q s hh e k => k _ H () rfl (Ext.refl hh) rfl
theorem ev_str {x : Str} : Ev K Γ (tC (.str x)) ρ (Is (⟨x.cps.toList⟩ : Tx)) := fun Δ σ H Q s hh e k => k _ H _ rfl (Ext.refl hh) rfl
/-- a two-place operation on data -/
def Op2 (K : PySem.W.Frag) (r : R2) (x : α) (y : β) (P : γ → Prop) : Prop :=
  ∀ (Δ : Gh) (H : Hp) (v w : V) (Q : VK), Hold Δ H → Rp.rp K Δ H v x → Rp.rp K Δ H w y → (∀ u H' c, P c → Ext Δ H H' → Rp.rp K Δ H' u c → Q u H') → r v w H Q
theorem ev_op {r : R2} (ha : Ev K Γ ta ρ Pa) (hb : Ev K Γ tb ρ Pb) (hr : ∀ x y, Pa x → Pb y → Op2 K r x y Pc) : Ev K Γ (tOp r ta tb) ρ Pc := fun Δ σ H Q s hh e k =>
  ha Δ σ H _ s hh e fun v H1 x px e1 r1 => hb Δ σ H1 _ s e1.2 (e.mono e1.1) fun w H2 y py e2 r2 =>
    hr x y px py Δ H2 v w Q e2.2 (Rp.mono e2.1 r1) r2 fun z H3 c pc e3 r3 => k z H3 c pc (e1.trans (e2.trans e3)) r3
theorem ev_op1 {r : R2} {x : α} {y : β} (ha : Ev K Γ ta ρ (Is x)) (hb : Ev K Γ tb ρ (Is y)) (hr : Op2 K r x y Pc) : Ev K Γ (tOp r ta tb) ρ Pc :=
  ev_op ha hb fun x' y' e1 e2 => by rw [show x' = x from e1, show y' = y from e2]; exact hr
theorem o2_I0 {g : Int → Int → Int} {x y : Int} : Op2 K (rI0 fun i j => .int (g i j)) x y (Is (g x y)) := fun Δ H v w Q hh r1 r2 k => ⟨x, y, r1, r2, k _ H _ rfl (Ext.refl hh) rfl⟩
theorem o2_B0 {g : Int → Int → Bool} {x y : Int} : Op2 K (rI0 fun i j => .bl (g i j)) x y (Is (g x y)) := fun Δ H v w Q hh r1 r2 k => ⟨x, y, r1, r2, k _ H _ rfl (Ext.refl hh) rfl⟩
theorem o2_I {C : Int → Int → Prop} {g : Int → Int → Int} {x y : Int} (c : C x y) : Op2 K (rI C fun i j => .int (g i j)) x y (Is (g x y)) := fun Δ H v w Q hh r1 r2 k => ⟨x, y, r1, r2, c, k _ H _ rfl (Ext.refl hh) rfl⟩
theorem dec_tx {x y : Tx} : decide (V.str ⟨x.s.toArray⟩ = V.str ⟨y.s.toArray⟩) = decide (x = y) := by
  rw [decide_eq_decide]
  constructor
  · intro h
    injection h with h
    injection h with h
    have h2 := congrArg Array.toList h
    cases x
    cases y
    simpa using h2
  · intro h
    rw [h]
theorem o2_eqS {x y : Tx} : Op2 K rEq x y (Is (decide (x = y))) := fun Δ H v w Q hh r1 r2 k => by
  have e1 : v = .str ⟨x.s.toArray⟩ := r1
  have e2 : w = .str ⟨y.s.toArray⟩ := r2
  subst e1 e2
  exact ⟨rfl, k _ H _ rfl (Ext.refl hh) (congrArg V.bl dec_tx)⟩
theorem o2_neS {x y : Tx} : Op2 K rNe x y (Is (!decide (x = y))) := fun Δ H v w Q hh r1 r2 k => by
  have e1 : v = .str ⟨x.s.toArray⟩ := r1
  have e2 : w = .str ⟨y.s.toArray⟩ := r2
  subst e1 e2
  exact ⟨rfl, k _ H _ rfl (Ext.refl hh) (congrArg (fun b => V.bl (!b)) dec_tx)⟩
theorem o2_eqI {x y : Int} : Op2 K rEq x y (Is (decide (x = y))) := fun Δ H v w Q hh r1 r2 k => by
  have e1 : v = .int x := r1
  have e2 : w = .int y := r2
  subst e1 e2
  refine ⟨rfl, k _ H _ rfl (Ext.refl hh) (congrArg V.bl ?_)⟩
  rw [decide_eq_decide]
  exact ⟨fun h => V.int.inj h, fun h => by rw [h]⟩
theorem o2_neI {x y : Int} : Op2 K rNe x y (Is (!decide (x = y))) := fun Δ H v w Q hh r1 r2 k => by
  have e1 : v = .int x := r1
  have e2 : w = .int y := r2
  subst e1 e2
  refine ⟨rfl, k _ H _ rfl (Ext.refl hh) (congrArg (fun b => V.bl (!b)) ?_)⟩
  rw [decide_eq_decide]
  exact ⟨fun h => V.int.inj h, fun h => by rw [h]⟩
theorem o2_eqB {x y : Bool} : Op2 K rEq x y (Is (decide (x = y))) := fun Δ H v w Q hh r1 r2 k => by
  have e1 : v = .bl x := r1
  have e2 : w = .bl y := r2
  subst e1 e2
  refine ⟨rfl, k _ H _ rfl (Ext.refl hh) (congrArg V.bl ?_)⟩
  rw [decide_eq_decide]
  exact ⟨fun h => V.bl.inj h, fun h => by rw [h]⟩
theorem o2_neB {x y : Bool} : Op2 K rNe x y (Is (!decide (x = y))) := fun Δ H v w Q hh r1 r2 k => by
  have e1 : v = .bl x := r1
  have e2 : w = .bl y := r2
  subst e1 e2
  refine ⟨rfl, k _ H _ rfl (Ext.refl hh) (congrArg (fun b => V.bl (!b)) ?_)⟩
  rw [decide_eq_decide]
  exact ⟨fun h => V.bl.inj h, fun h => by rw [h]⟩
theorem cp_at {x : Tx} {i : Nat} {c : Nat} (h : x.s[i]? = some c) : atI (⟨x.s.toArray⟩ : Str).cps.toList (i : Int) = some c := atI_nat (by simpa using h)
/-- row[i] -/
theorem o2_ixS {x : Tx} {i : Nat} {c : Nat} (hz : x.s.length ≤ 100000) (h : x.s[i]? = some c) : Op2 K rIxS x (i : Int) (Is (⟨[c]⟩ : Tx)) := fun Δ H v w Q hh r1 r2 k => by
  have e1 : v = .str ⟨x.s.toArray⟩ := r1
  have e2 : w = .int i := r2
  subst e1 e2
  refine ⟨_, _, c, rfl, rfl, ?_, cp_at h, k _ H _ rfl (Ext.refl hh) rfl⟩
  show x.s.toArray.size ≤ sizeLine
  rw [List.size_toArray]
  exact Nat.le_trans hz (by decide)
theorem o2_ixL {xs : List α} {i : Nat} {a : α} (h : xs[i]? = some a) : Op2 K (rIxL K) xs (i : Int) (Is a) := fun Δ H v w Q hh r1 r2 k => by
  obtain ⟨p, vs, rfl, n, s, q⟩ := r1
  have e2 : w = .int i := r2
  subst e2
  obtain ⟨u, hu, ru⟩ := q.get h
  exact ⟨p, vs, i, u, rfl, rfl, s, atI_nat hu, k u H a rfl (Ext.refl hh) ru⟩
theorem o2_ixT {xs : Tup α} {i : Nat} {a : α} (h : xs.l[i]? = some a) : Op2 K (rIxT K) xs (i : Int) (Is a) := fun Δ H v w Q hh r1 r2 k => by
  obtain ⟨p, vs, rfl, n, s, q⟩ := r1
  have e2 : w = .int i := r2
  subst e2
  obtain ⟨u, hu, ru⟩ := q.get h
  exact ⟨p, vs, i, u, rfl, rfl, s, atI_nat hu, k u H a rfl (Ext.refl hh) ru⟩
theorem o2_ixP0 {x : α × β} : Op2 K (rIxT K) x (0 : Int) (Is x.1) := fun Δ H v w Q hh r1 r2 k => by
  obtain ⟨p, a, b, rfl, n, s, q, q2⟩ := r1
  have e2 : w = .int 0 := r2
  subst e2
  exact ⟨p, _, _, a, rfl, rfl, s, atI_nat (j := 0) rfl, k a H _ rfl (Ext.refl hh) q⟩
theorem o2_ixP1 {x : α × β} : Op2 K (rIxT K) x (1 : Int) (Is x.2) := fun Δ H v w Q hh r1 r2 k => by
  obtain ⟨p, a, b, rfl, n, s, q, q2⟩ := r1
  have e2 : w = .int 1 := r2
  subst e2
  exact ⟨p, _, _, b, rfl, rfl, s, atI_nat (j := 1) rfl, k b H _ rfl (Ext.refl hh) q2⟩
theorem all2_int {Δ : Gh} {H : Hp} : ∀ {vs : List V} {xs : List Int}, All2 (fun u a => Rp.rp K Δ H u a) vs xs → vs = xs.map V.int
  | [], [], _ => rfl
  | [], _ :: _, q => q.elim
  | _ :: _, [], q => q.elim
  | v :: vs, x :: xs, q => by
    have e : v = .int x := q.1
    rw [List.map_cons, e, all2_int q.2]
theorem all2_bl {Δ : Gh} {H : Hp} : ∀ {vs : List V} {xs : List Bool}, All2 (fun u a => Rp.rp K Δ H u a) vs xs → vs = xs.map V.bl
  | [], [], _ => rfl
  | [], _ :: _, q => q.elim
  | _ :: _, [], q => q.elim
  | v :: vs, x :: xs, q => by
    have e : v = .bl x := q.1
    rw [List.map_cons, e, all2_bl q.2]
theorem all2_tx {Δ : Gh} {H : Hp} : ∀ {vs : List V} {xs : List Tx}, All2 (fun u a => Rp.rp K Δ H u a) vs xs → vs = (xs.map fun x => (⟨x.s.toArray⟩ : Str)).map V.str
  | [], [], _ => rfl
  | [], _ :: _, q => q.elim
  | _ :: _, [], q => q.elim
  | v :: vs, x :: xs, q => by
    have e : v = .str ⟨x.s.toArray⟩ := q.1
    rw [List.map_cons, List.map_cons, e, all2_tx q.2]
theorem inV_int {i : Int} : ∀ {xs : List Int}, inV (.int i) (xs.map V.int) = decide (i ∈ xs)
  | [] => rfl
  | x :: xs => by
    have ih := inV_int (i := i) (xs := xs)
    unfold inV at ih ⊢
    rw [List.map_cons, List.any_cons, ih]
    by_cases h : i = x
    · subst h
      simp [eqV]
    · have h' : ¬ x = i := fun z => h z.symm
      simp [eqV, h, h']
theorem flat_int : ∀ {xs : List Int}, (xs.map V.int).all flatV = true
  | [] => rfl
  | _ :: xs => by
    rw [List.map_cons, List.all_cons, flat_int]
    rfl
/-- i in t -/
theorem o2_inT {i : Int} {xs : Tup Int} : Op2 K (rIn K false) i xs (Is (decide (i ∈ xs.l))) := fun Δ H v w Q hh r1 r2 k => by
  have e1 : v = .int i := r1
  obtain ⟨p, vs, rfl, n, s, q⟩ := r2
  subst e1
  have ev := all2_int q
  subst ev
  exact ⟨p, _, rfl, .inr s, rfl, flat_int, k _ H _ rfl (Ext.refl hh) (by show V.bl _ = V.bl _; rw [if_neg Bool.false_ne_true, inV_int])⟩
/-! tests -/
theorem et_test {Pb : Bool → Prop} (h : Ev K Γ te ρ Pb) : EvT K Γ (tTest te) ρ Pb := fun Δ σ H Q s hh e k => h Δ σ H _ s hh e fun v H' b pb e1 r1 => ⟨b, r1, k b H' pb e1⟩
theorem et_B {Pb : Bool → Prop} (h : Ev K Γ te ρ Pb) : EvT K Γ (tB te) ρ Pb := fun Δ σ H Q s hh e k => h Δ σ H _ s hh e fun v H' b pb e1 r1 => ⟨b, r1, k b H' pb e1⟩
theorem et_not {a : Bool} (h : EvT K Γ t ρ (Is a)) : EvT K Γ (tNot t) ρ (Is (!a)) := fun Δ σ H Q s hh e k => h Δ σ H _ s hh e fun b H' pb e1 => k _ H' (by rw [show b = a from pb]; rfl) e1
theorem et_and {a b : Bool} (h1 : EvT K Γ t ρ (Is a)) (h2 : a = true → EvT K Γ u ρ (Is b)) : EvT K Γ (tAnd t u) ρ (Is (a && b)) := fun Δ σ H Q s hh e k => h1 Δ σ H _ s hh e fun c H' pc e1 => by
  have ec : c = a := pc
  subst ec
  cases c with
  | true => exact iteT (h2 rfl Δ σ H' Q s e1.2 (e.mono e1.1) fun d H2 pd e2 => k d H2 pd (e1.trans e2))
  | false => exact iteF (k false H' rfl e1)
theorem et_or {a b : Bool} (h1 : EvT K Γ t ρ (Is a)) (h2 : a = false → EvT K Γ u ρ (Is b)) : EvT K Γ (tOr t u) ρ (Is (a || b)) := fun Δ σ H Q s hh e k => h1 Δ σ H _ s hh e fun c H' pc e1 => by
  have ec : c = a := pc
  subst ec
  cases c with
  | true => exact iteT (k true H' rfl e1)
  | false => exact iteF (h2 rfl Δ σ H' Q s e1.2 (e.mono e1.1) fun d H2 pd e2 => k d H2 pd (e1.trans e2))
theorem ev_andV {a b : Bool} (h1 : Ev K Γ ta ρ (Is a)) (h2 : a = true → Ev K Γ tb ρ (Is b)) : Ev K Γ (tAndV ta tb) ρ (Is (a && b)) := fun Δ σ H Q s hh e k => h1 Δ σ H _ s hh e fun v H' c pc e1 r1 => by
  have ec : c = a := pc
  subst ec
  refine ⟨c, r1, ?_⟩
  cases c with
  | true => exact iteT (h2 rfl Δ σ H' Q s e1.2 (e.mono e1.1) fun d H2 x pd e2 r2 => k d H2 x pd (e1.trans e2) r2)
  | false => exact iteF (k _ H' false rfl e1 rfl)
theorem ev_orV {a b : Bool} (h1 : Ev K Γ ta ρ (Is a)) (h2 : a = false → Ev K Γ tb ρ (Is b)) : Ev K Γ (tOrV ta tb) ρ (Is (a || b)) := fun Δ σ H Q s hh e k => h1 Δ σ H _ s hh e fun v H' c pc e1 r1 => by
  have ec : c = a := pc
  subst ec
  refine ⟨c, r1, ?_⟩
  cases c with
  | true => exact iteT (k _ H' true rfl e1 rfl)
  | false => exact iteF (h2 rfl Δ σ H' Q s e1.2 (e.mono e1.1) fun d H2 x pd e2 r2 => k d H2 x pd (e1.trans e2) r2)
theorem ev_notV {a : Bool} (h1 : Ev K Γ ta ρ (Is a)) : Ev K Γ (tNotV ta) ρ (Is (!a)) := fun Δ σ H Q s hh e k => h1 Δ σ H _ s hh e fun v H' c pc e1 r1 => ⟨c, r1, k _ H' (!c) (by rw [show c = a from pc]; rfl) e1 rfl⟩
theorem ev_if {b : Bool} (h : EvT K Γ t ρ (Is b)) (h1 : b = true → Ev K Γ ta ρ Pa) (h2 : b = false → Ev K Γ tb ρ Pa) : Ev K Γ (tIf t ta tb) ρ Pa := fun Δ σ H Q s hh e k => h Δ σ H _ s hh e fun c H' pc e1 => by
  have ec : c = b := pc
  subst ec
  cases c with
  | true => exact iteT (h1 rfl Δ σ H' Q s e1.2 (e.mono e1.1) fun d H2 x pd e2 r2 => k d H2 x pd (e1.trans e2) r2)
  | false => exact iteF (h2 rfl Δ σ H' Q s e1.2 (e.mono e1.1) fun d H2 x pd e2 r2 => k d H2 x pd (e1.trans e2) r2)
/-- a < b < c -/
theorem ev_chain {r r' : R2} {a b : Bool} {x : α} {y : β} {z : γ} (ha : Ev K Γ ta ρ (Is x)) (hb : Ev K Γ tb ρ (Is y)) (hc : Ev K Γ tc ρ (Is z)) (h1 : Op2 K r x y (Is a)) (h2 : Op2 K r' y z (Is b)) : Ev K Γ (tChain r r' ta tb tc) ρ (Is (a && b)) := fun Δ σ H Q s hh e k =>
  ha Δ σ H _ s hh e fun v H1 x' px e1 r1 => hb Δ σ H1 _ s e1.2 (e.mono e1.1) fun w H2 y' py e2 r2 => by
    have ex : x' = x := px
    have ey : y' = y := py
    subst ex ey
    refine h1 Δ H2 v w _ e2.2 (Rp.mono e2.1 r1) r2 fun u H3 c pc e3 r3 => ?_
    have ec : c = a := pc
    subst ec
    refine ⟨c, r3, ?_⟩
    cases c with
    | true =>
      refine iteT (hc Δ σ H3 _ s e3.2 (e.mono (e1.trans (e2.trans e3)).1) fun q H4 z' pz e4 r4 => ?_)
      have ez : z' = z := pz
      subst ez
      exact h2 Δ H4 w q Q e4.2 (Rp.mono (e3.trans e4).1 r2) r4 fun d H5 x5 p5 e5 r5 => k d H5 x5 p5 (e1.trans (e2.trans (e3.trans (e4.trans e5)))) r5
    | false => exact iteF (k _ H3 false rfl (e1.trans (e2.trans e3)) rfl)
/-! arguments, displays -/
theorem ea_nil : EvA K Γ tNil ρ (Is ([] : List Cell)) := fun Δ σ H Q s hh e k => k [] H [] rfl (Ext.refl hh) trivial
theorem ea_cons {tr : TA} {Ps : List Cell → Prop} {P : List Cell → Prop} (h : Ev K Γ ta ρ Pa) (hr : EvA K Γ tr ρ Ps) (hp : ∀ a cs, Pa a → Ps cs → P (⟨a⟩ :: cs)) : EvA K Γ (tCons ta tr) ρ P := fun Δ σ H Q s hh e k =>
  h Δ σ H _ s hh e fun v H1 a pa e1 r1 => hr Δ σ H1 _ s e1.2 (e.mono e1.1) fun vs H2 cs pcs e2 r2 => k (v :: vs) H2 (⟨a⟩ :: cs) (hp a cs pa pcs) (e1.trans e2) ⟨Rp.mono e2.1 r1, r2⟩
theorem ea_1 {tr : TA} {a : α} {cs : List Cell} (h : Ev K Γ ta ρ (Is a)) (hr : EvA K Γ tr ρ (Is cs)) : EvA K Γ (tCons ta tr) ρ (Is (⟨a⟩ :: cs)) := ea_cons h hr fun a' cs' e1 e2 => by
  show _ = _
  rw [show a' = a from e1, show cs' = cs from e2]
end
end Z

set_option Elab.async false
set_option linter.all false
set_option maxRecDepth 100000
set_option maxHeartbeats 1000000
namespace Z
open PySem PySem.Spec PyProof.Rows L2
universe v1 v2
section
variable {K : PySem.W.Frag} {Γ : Own} {ρ : Env} {ta tb tc te : TE} {t u : TT} {α β γ : Type} [Rp α] [Rp β] [Rp γ] {Pa : α → Prop} {Pb : β → Prop} {Pc : γ → Prop}
/-! ### displays, calls -/
theorem All2.of_map {α : Type v1} {β : Type v2} {γ : Type} {R : α → β → Prop} {f : γ → β} : ∀ {xs : List α} {ys : List γ}, All2 R xs (ys.map f) → All2 (fun x y => R x (f y)) xs ys
  | [], [], _ => trivial
  | [], _ :: _, q => q.elim
  | _ :: _, [], q => q.elim
  | _ :: xs, _ :: ys, q => ⟨q.1, All2.of_map (xs := xs) (ys := ys) q.2⟩
theorem new_lst {Δ : Gh} {H : Hp} {p : Addr} {vs : List V} {xs : List α} (hh : Hold Δ H) (hp : H p = none) (q : All2 (fun u a => Rp.rp K Δ H u a) vs xs) : Rp.rp K Δ (upd H p (.lst vs)) (.ref p) xs :=
  ⟨p, vs, rfl, .inl ⟨hh.fresh hp, .inl upd_same⟩, .inl (.inl upd_same), q.imp fun _ _ => Rp.mono (Ext.new hh hp _).1⟩
theorem new_tup {Δ : Gh} {H : Hp} {p : Addr} {vs : List V} {xs : List α} (hh : Hold Δ H) (hp : H p = none) (q : All2 (fun u a => Rp.rp K Δ H u a) vs xs) : Rp.rp K Δ (upd H p (.tup vs)) (.ref p) (⟨xs⟩ : Tup α) :=
  ⟨p, vs, rfl, .inl ⟨hh.fresh hp, .inl upd_same⟩, .inl (.inl upd_same), q.imp fun _ _ => Rp.mono (Ext.new hh hp _).1⟩
theorem ev_lst {ta : TA} {xs : List α} (h : EvA K Γ ta ρ (Is (xs.map fun a => ⟨a⟩))) (hz : xs.length ≤ 100000) : Ev K Γ (tLst ta) ρ (Is xs) := fun Δ σ H Q s hh e k => h Δ σ H _ s hh e fun vs H' cs pcs e1 r => by
  have ec : cs = xs.map fun a => ⟨a⟩ := pcs
  subst ec
  have r' := All2.of_map r
  exact ⟨Nat.le_trans (Nat.le_of_eq r'.len) (Nat.le_trans hz (by decide)), fun p hp => k _ _ xs rfl (e1.trans (Ext.new e1.2 hp _)) (new_lst e1.2 hp r')⟩
theorem ev_tupN {ta : TA} {xs : List α} (h : EvA K Γ ta ρ (Is (xs.map fun a => ⟨a⟩))) (hz : xs.length ≤ 100000) : Ev K Γ (tTup ta) ρ (Is (⟨xs⟩ : Tup α)) := fun Δ σ H Q s hh e k => h Δ σ H _ s hh e fun vs H' cs pcs e1 r => by
  have ec : cs = xs.map fun a => ⟨a⟩ := pcs
  subst ec
  have r' := All2.of_map r
  exact ⟨Nat.le_trans (Nat.le_of_eq r'.len) (Nat.le_trans hz (by decide)), fun p hp => k _ _ ⟨xs⟩ rfl (e1.trans (Ext.new e1.2 hp _)) (new_tup e1.2 hp r')⟩
theorem ev_tup2 {ta : TA} {x : α} {y : β} (h : EvA K Γ ta ρ (Is [⟨x⟩, ⟨y⟩])) : Ev K Γ (tTup ta) ρ (Is (x, y)) := fun Δ σ H Q s hh e k => h Δ σ H _ s hh e fun vs H' cs pcs e1 r => by
  have ec : cs = [⟨x⟩, ⟨y⟩] := pcs
  subst ec
  match vs, r with
  | [v, w], r => exact ⟨by show 2 ≤ sizeLine; decide, fun p hp => k _ _ (x, y) rfl (e1.trans (Ext.new e1.2 hp _)) ⟨p, v, w, rfl, .inl ⟨e1.2.fresh hp, .inl upd_same⟩, .inl (.inl upd_same), Rp.mono (Ext.new e1.2 hp _).1 r.1, Rp.mono (Ext.new e1.2 hp _).1 r.2.1⟩⟩
/-- what a def promises: of the owned cells and the arguments' data, some datum with P -/
def spD (K : PySem.W.Frag) {β : Type} [Rp β] (F : Own → List Cell → (β → Prop) → Prop) : Sp := fun vs H Q _ => ∃ (Γ : Own) (Δ : Gh) (cs : List Cell) (P : β → Prop), F Γ cs P ∧ Sat Γ Δ ∧ Hold Δ H ∧ ArgsOk K Δ H vs cs ∧
  ∀ (v : V) (H' : Hp) (b : β), P b → Ext Δ H H' → Rp.rp K Δ H' v b → Q v H'
theorem All2.app {α : Type v1} {β : Type v2} {R : α → β → Prop} : ∀ {xs : List α} {ys : List β} {xs' : List α} {ys' : List β}, All2 R xs ys → All2 R xs' ys' → All2 R (xs ++ xs') (ys ++ ys')
  | [], [], _, _, _, h => h
  | [], _ :: _, _, _, q, _ => q.elim
  | _ :: _, [], _, _, q, _ => q.elim
  | _ :: _, _ :: _, _, _, q, h => ⟨q.1, All2.app q.2 h⟩
theorem ev_call {F : Own → List Cell → (β → Prop) → Prop} {E : XK} {ta : TA} {Pcs : List Cell → Prop} (ha : EvA K Γ ta ρ Pcs) (hf : ∀ cs, Pcs cs → F Γ cs Pb) : Ev K Γ (tCall (spD K F) [] E ta) ρ Pb := fun Δ σ H Q s hh e k =>
  ha Δ σ H _ s hh e fun vs H' cs pcs e1 r => ⟨Γ, Δ, cs, Pb, hf cs pcs, s, e1.2, by rw [List.append_nil]; exact r, fun v H2 b pb e2 r2 => k v H2 b pb (e1.trans e2) r2⟩
theorem ev_callD {F : Own → List Cell → (β → Prop) → Prop} {E : XK} {ta : TA} {Pcs : List Cell → Prop} {dvs : List V} {dcs : List Cell} (hd : ∀ Δ H, ArgsOk K Δ H dvs dcs) (ha : EvA K Γ ta ρ Pcs) (hf : ∀ cs, Pcs cs → F Γ (cs ++ dcs) Pb) : Ev K Γ (tCall (spD K F) dvs E ta) ρ Pb := fun Δ σ H Q s hh e k =>
  ha Δ σ H _ s hh e fun vs H' cs pcs e1 r => ⟨Γ, Δ, cs ++ dcs, Pb, hf cs pcs, s, e1.2, All2.app r (hd Δ H'), fun v H2 b pb e2 r2 => k v H2 b pb (e1.trans e2) r2⟩
theorem ev_call1 {F : Own → List Cell → (β → Prop) → Prop} {E : XK} {ta : TA} {cs : List Cell} (ha : EvA K Γ ta ρ (Is cs)) (hf : F Γ cs Pb) : Ev K Γ (tCall (spD K F) [] E ta) ρ Pb := ev_call ha fun cs' e => by rw [show cs' = cs from e]; exact hf
/-- a built-in's call, by its data -/
def Op1 (K : PySem.W.Frag) (r : List V → Hp → VK → Prop) (x : α) (P : γ → Prop) : Prop :=
  ∀ (Δ : Gh) (H : Hp) (v : V) (Q : VK), Hold Δ H → Rp.rp K Δ H v x → (∀ u H' c, P c → Ext Δ H H' → Rp.rp K Δ H' u c → Q u H') → r [v] H Q
theorem ev_cb1 {r : List V → Hp → VK → Prop} (ha : Ev K Γ ta ρ Pa) (hr : ∀ x, Pa x → Op1 K r x Pc) : Ev K Γ (tCB r (tCons ta tNil)) ρ Pc := fun Δ σ H Q s hh e k =>
  ha Δ σ H _ s hh e fun v H1 x px e1 r1 => hr x px Δ H1 v Q e1.2 r1 fun u H2 c pc e2 r2 => k u H2 c pc (e1.trans e2) r2
theorem ev_cb {r : List V → Hp → VK → Prop} {x : α} (ha : Ev K Γ ta ρ (Is x)) (hr : Op1 K r x Pc) : Ev K Γ (tCB r (tCons ta tNil)) ρ Pc := ev_cb1 ha fun x' e => by rw [show x' = x from e]; exact hr
theorem o1_lenS {x : Tx} (hz : x.s.length ≤ 100000) : Op1 K (fun xs H Q => ∃ x n, xs = [x] ∧ LenV K x H n ∧ Q (.int n) H) x (Is (x.s.length : Int)) := fun Δ H v Q hh r k => by
  have e : v = .str ⟨x.s.toArray⟩ := r
  subst e
  refine ⟨_, x.s.length, rfl, ⟨?_, ?_⟩, k _ H _ rfl (Ext.refl hh) rfl⟩
  · show x.s.toArray.size ≤ sizeLine
    rw [List.size_toArray]
    exact Nat.le_trans hz (by decide)
  · show x.s.length = x.s.toArray.size
    rw [List.size_toArray]
theorem o1_lenL {xs : List α} : Op1 K (fun xs H Q => ∃ x n, xs = [x] ∧ LenV K x H n ∧ Q (.int n) H) xs (Is (xs.length : Int)) := fun Δ H v Q hh r k => by
  obtain ⟨p, vs, rfl, n, s, q⟩ := r
  exact ⟨_, xs.length, rfl, .inl ⟨vs, s, q.len.symm⟩, k _ H _ rfl (Ext.refl hh) rfl⟩
theorem o1_lenT {xs : Tup α} : Op1 K (fun xs H Q => ∃ x n, xs = [x] ∧ LenV K x H n ∧ Q (.int n) H) xs (Is (xs.l.length : Int)) := fun Δ H v Q hh r k => by
  obtain ⟨p, vs, rfl, n, s, q⟩ := r
  exact ⟨_, xs.l.length, rfl, .inr ⟨vs, s, q.len.symm⟩, k _ H _ rfl (Ext.refl hh) rfl⟩
theorem o1_all {bs : List Bool} : Op1 K (rAll K) bs (Is (bs.all id)) := fun Δ H v Q hh r k => by
  obtain ⟨p, vs, rfl, n, s, q⟩ := r
  have e := all2_bl q
  subst e
  exact ⟨p, bs, rfl, s, k _ H _ rfl (Ext.refl hh) rfl⟩

/-! ### what is walked -/
/-- wi, walked with the target g, has n turns; turn i makes st i of the names (the slots js alone) -/
def Src (K : PySem.W.Frag) (Γ : Own) (wi : TI) (g : TG) (ρ : Env) (js : List Nat) (n : Nat) (st : Nat → Env → Env) : Prop :=
  ∀ (Δ : Gh) (σ : L2.St) (H : Hp) (R : It → Hp → Prop), Sat Γ Δ → Hold Δ H → EnvOk K Δ σ H ρ →
    (∀ (J : It) (H1 : Hp) (pv : V) (pc : Cell), Ext Δ H H1 → pc.rp K Δ H1 pv →
      (∀ Δ' H2, pc.rp K Δ' H2 pv → (∀ i, i < n → J.go i H2) ∧ J.stop n H2) →
      (∀ Δ' i H2 x H3, i < n → Hold Δ' H2 → pc.rp K Δ' H2 pv → J.yld i H2 x H3 → Ext Δ' H2 H3 ∧ ∀ (σ' : L2.St) (ρ' : Env) (Qs : L2.St → Hp → Prop), ρ'.length = ρ.length → EnvOk K Δ' σ' H3 ρ' →
        (∀ σ2 : L2.St, EnvOk K Δ' σ2 H3 (st i ρ') → σ2.length = σ'.length → (∀ k, k ∉ js → σ2[k]? = σ'[k]?) → Qs σ2 H3) → g x σ' H3 Qs) → R J H1) → wi σ H R
theorem set_off {σ : L2.St} {j : Nat} {v : Option V} {js : List Nat} (h : j ∈ js) : (σ.set j v).length = σ.length ∧ ∀ k, k ∉ js → (σ.set j v)[k]? = σ[k]? :=
  ⟨List.length_set, fun k hk => List.getElem?_set_ne fun e => hk (by rw [← e]; exact h)⟩
theorem src_rng1 {ta : TA} {j : Nat} {n : Nat} (h : EvA K Γ ta ρ (Is [⟨(n : Int)⟩])) (hn : n ≤ 100000) (hj : j < ρ.length) : Src K Γ (iRng1 ta) (gName j) ρ [j] n (fun i ρ => ρ.set j (some ⟨(i : Int)⟩)) := fun Δ σ H R s hh e k =>
  h Δ σ H _ s hh e fun vs H' cs pcs e1 r => by
    have ec : cs = [⟨(n : Int)⟩] := pcs
    subst ec
    match vs, r with
    | [v], r =>
      have ev : v = .int n := r.1
      subst ev
      refine ⟨n, rfl, by omega, by omega, k _ H' .non ⟨()⟩ e1 rfl (fun Δ' H2 _ => ⟨fun i hi => by show i < (n : Int).toNat; omega, by show (n : Int).toNat ≤ n; omega⟩) fun Δ' i H2 x H3 hi h2 _ y => ?_⟩
      obtain ⟨rfl, rfl⟩ := (show H3 = H2 ∧ x = V.int (0 + (i : Int)) from y)
      refine ⟨Ext.refl h2, fun σ' ρ' Qs hl e' q => ?_⟩
      rw [Int.zero_add]
      exact q _ (e'.set (c := ⟨(i : Int)⟩) (by rw [hl]; exact hj) rfl) (set_off (js := [j]) (List.mem_singleton_self j)).1 (set_off (js := [j]) (List.mem_singleton_self j)).2
theorem src_list {tl : TE} {j : Nat} {xs : List α} {x0 : Nat → α} (h : Ev K Γ tl ρ (Is xs)) (hx : ∀ i, i < xs.length → xs[i]? = some (x0 i)) (hj : j < ρ.length) : Src K Γ (iList K tl) (gName j) ρ [j] xs.length (fun i ρ => ρ.set j (some ⟨x0 i⟩)) := fun Δ σ H R s hh e k =>
  h Δ σ H _ s hh e fun v H' a pa e1 r => by
    have ea : a = xs := pa
    subst ea
    obtain ⟨p, vs, rfl, n, sq, q⟩ := id r
    refine ⟨p, rfl, ⟨vs, sq⟩, k _ H' (.ref p) ⟨a⟩ e1 r (fun Δ' H2 r2 => ?_) fun Δ' i H2 x H3 hi h2 r2 y => ?_⟩
    · obtain ⟨p', ws, e', n', sq', q'⟩ := (show Rp.rp K Δ' H2 (.ref p) a from r2)
      cases e'
      have hl := q'.len
      refine ⟨fun i hi => ⟨ws, ws[i], sq', List.getElem?_eq_getElem (by omega)⟩, ws, sq', by omega⟩
    · obtain ⟨p', ws, e', n', sq', q'⟩ := (show Rp.rp K Δ' H2 (.ref p) a from r2)
      cases e'
      obtain ⟨rfl, hy⟩ := (show H3 = H2 ∧ ∀ zs, SqL K H2 p zs → zs[i]? = some x from y)
      obtain ⟨w, hw, rw'⟩ := q'.get (hx i hi)
      have ew : x = w := Option.some.inj ((hy _ sq').symm.trans hw)
      subst ew
      exact ⟨Ext.refl h2, fun σ' ρ' Qs hl e' qq => qq _ (e'.set (c := ⟨x0 i⟩) (by rw [hl]; exact hj) rw') (set_off (js := [j]) (List.mem_singleton_self j)).1 (set_off (js := [j]) (List.mem_singleton_self j)).2⟩
theorem src_tup {tl : TE} {j : Nat} {xs : Tup α} {x0 : Nat → α} (h : Ev K Γ tl ρ (Is xs)) (hx : ∀ i, i < xs.l.length → xs.l[i]? = some (x0 i)) (hj : j < ρ.length) : Src K Γ (iTup K tl) (gName j) ρ [j] xs.l.length (fun i ρ => ρ.set j (some ⟨x0 i⟩)) := fun Δ σ H R s hh e k =>
  h Δ σ H _ s hh e fun v H' a pa e1 r => by
    have ea : a = xs := pa
    subst ea
    obtain ⟨p, vs, rfl, n, sq, q⟩ := id r
    refine ⟨p, rfl, ⟨vs, sq⟩, k _ H' (.ref p) ⟨a⟩ e1 r (fun Δ' H2 r2 => ?_) fun Δ' i H2 x H3 hi h2 r2 y => ?_⟩
    · obtain ⟨p', ws, e', n', sq', q'⟩ := (show Rp.rp K Δ' H2 (.ref p) a from r2)
      cases e'
      have hl := q'.len
      refine ⟨fun i hi => ⟨ws, ws[i], sq', List.getElem?_eq_getElem (by omega)⟩, ws, sq', by omega⟩
    · obtain ⟨p', ws, e', n', sq', q'⟩ := (show Rp.rp K Δ' H2 (.ref p) a from r2)
      cases e'
      obtain ⟨rfl, hy⟩ := (show H3 = H2 ∧ ∀ zs, SqT K H2 p zs → zs[i]? = some x from y)
      obtain ⟨w, hw, rw'⟩ := q'.get (hx i hi)
      have ew : x = w := Option.some.inj ((hy _ sq').symm.trans hw)
      subst ew
      exact ⟨Ext.refl h2, fun σ' ρ' Qs hl e' qq => qq _ (e'.set (c := ⟨x0 i⟩) (by rw [hl]; exact hj) rw') (set_off (js := [j]) (List.mem_singleton_self j)).1 (set_off (js := [j]) (List.mem_singleton_self j)).2⟩
theorem args1 {Δ : Gh} {H : Hp} {vs : List V} {c : Cell} (r : ArgsOk K Δ H vs [c]) : ∃ v, vs = [v] ∧ c.rp K Δ H v := by
  unfold ArgsOk at r
  cases vs with
  | nil => exact r.elim
  | cons v vs =>
    cases vs with
    | nil => exact ⟨v, rfl, r.1⟩
    | cons w ws => exact r.2.elim
/-- two names of a pair that was just made -/
theorem pair_put {Δ' : Gh} {H2 H3 : Hp} {T : Addr} {a b : V} {ca cb : Cell} {ja jb : Nat} {σ' : L2.St} {ρ' : Env} {Qs : L2.St → Hp → Prop} (e3 : H3 = upd H2 T (.tup [a, b])) (ha : ca.rp K Δ' H3 a) (hb : cb.rp K Δ' H3 b) (hja : ja < ρ'.length) (hjb : jb < ρ'.length)
    (e' : EnvOk K Δ' σ' H3 ρ') (q : ∀ σ2 : L2.St, EnvOk K Δ' σ2 H3 ((ρ'.set ja (some ca)).set jb (some cb)) → σ2.length = σ'.length → (∀ k, k ∉ [ja, jb] → σ2[k]? = σ'[k]?) → Qs σ2 H3) :
    gTup K 2 (gCons (gName ja) (gCons (gName jb) gNil)) (.ref T) σ' H3 Qs := by
  refine ⟨T, [a, b], rfl, .inl (.inl (by rw [e3]; exact upd_same)), rfl, a, [b], rfl, b, [], rfl, rfl, ?_⟩
  refine q _ ((e'.set hja ha).set (by rw [List.length_set]; exact hjb) hb) (by rw [List.length_set, List.length_set]) fun k hk => ?_
  have h1 : ja ≠ k := fun z => hk (by simp [z])
  have h2 : jb ≠ k := fun z => hk (by simp [z])
  rw [List.getElem?_set_ne h2, List.getElem?_set_ne h1]
theorem src_enumS {ta : TA} {ja jb : Nat} {x : Tx} {c0 : Nat → Nat} (h : EvA K Γ ta ρ (Is [⟨x⟩])) (hx : ∀ i, i < x.s.length → x.s[i]? = some (c0 i)) (hja : ja < ρ.length) (hjb : jb < ρ.length) :
    Src K Γ (iEnumS ta) (gTup K 2 (gCons (gName ja) (gCons (gName jb) gNil))) ρ [ja, jb] x.s.length (fun i ρ => (ρ.set ja (some ⟨(i : Int)⟩)).set jb (some ⟨(⟨[c0 i]⟩ : Tx)⟩)) := fun Δ σ H R s hh e k =>
  h Δ σ H _ s hh e fun vs H' cs pcs e1 r => by
    have ec : cs = [⟨x⟩] := pcs
    subst ec
    match vs, r with
    | [v], r =>
      have ev : v = .str ⟨x.s.toArray⟩ := r.1
      subst ev
      refine ⟨_, rfl, k _ H' .non ⟨()⟩ e1 rfl (fun Δ' H2 _ => ⟨fun i hi => by show i < x.s.toArray.size; simpa using hi, by show x.s.toArray.size ≤ x.s.length; simp⟩) fun Δ' i H2 y H3 hi h2 _ yy => ?_⟩
      obtain ⟨T, c, rfl, hT, e3, hc⟩ := (show ∃ T c, y = .ref T ∧ H2 T = none ∧ H3 = upd H2 T (.tup [.int (i : Nat), .str ⟨#[c]⟩]) ∧ x.s.toArray[i]? = some c from yy)
      have ec2 : c = c0 i := by
        have q1 : x.s[i]? = some c := by simpa using hc
        exact Option.some.inj (q1.symm.trans (hx i hi))
      subst ec2
      refine ⟨by rw [e3]; exact Ext.new h2 hT _, fun σ' ρ' Qs hl e' q => ?_⟩
      exact pair_put (ca := ⟨(i : Int)⟩) (cb := ⟨(⟨[c0 i]⟩ : Tx)⟩) e3 rfl rfl (by rw [hl]; exact hja) (by rw [hl]; exact hjb) e' q
theorem src_zipS {ta : TA} {ja jb : Nat} {x y : Tx} {c0 d0 : Nat → Nat} (h : EvA K Γ ta ρ (Is [⟨x⟩, ⟨y⟩])) (hl : x.s.length = y.s.length) (hx : ∀ i, i < x.s.length → x.s[i]? = some (c0 i) ∧ y.s[i]? = some (d0 i)) (hja : ja < ρ.length) (hjb : jb < ρ.length) :
    Src K Γ (iZipS ta) (gTup K 2 (gCons (gName ja) (gCons (gName jb) gNil))) ρ [ja, jb] x.s.length (fun i ρ => (ρ.set ja (some ⟨(⟨[c0 i]⟩ : Tx)⟩)).set jb (some ⟨(⟨[d0 i]⟩ : Tx)⟩)) := fun Δ σ H R s hh e k =>
  h Δ σ H _ s hh e fun vs H' cs pcs e1 r => by
    have ec : cs = [⟨x⟩, ⟨y⟩] := pcs
    subst ec
    match vs, r with
    | [v, w], r =>
      have ev : v = .str ⟨x.s.toArray⟩ := r.1
      have ew : w = .str ⟨y.s.toArray⟩ := r.2.1
      subst ev ew
      refine ⟨_, _, rfl, k _ H' .non ⟨()⟩ e1 rfl (fun Δ' H2 _ => ⟨fun i hi => ?_, ?_⟩) fun Δ' i H2 z H3 hi h2 _ yy => ?_⟩
      · show i < min x.s.toArray.size y.s.toArray.size
        rw [List.size_toArray, List.size_toArray]
        omega
      · show min x.s.toArray.size y.s.toArray.size ≤ x.s.length
        rw [List.size_toArray, List.size_toArray]
        omega
      obtain ⟨T, c, d, rfl, hT, e3, hc, hd⟩ := (show ∃ T c d, z = .ref T ∧ H2 T = none ∧ H3 = upd H2 T (.tup [.str ⟨#[c]⟩, .str ⟨#[d]⟩]) ∧ x.s.toArray[i]? = some c ∧ y.s.toArray[i]? = some d from yy)
      have ec2 : c = c0 i := by
        have q1 : x.s[i]? = some c := by simpa using hc
        exact Option.some.inj (q1.symm.trans (hx i hi).1)
      have ed2 : d = d0 i := by
        have q1 : y.s[i]? = some d := by simpa using hd
        exact Option.some.inj (q1.symm.trans (hx i hi).2)
      subst ec2 ed2
      refine ⟨by rw [e3]; exact Ext.new h2 hT _, fun σ' ρ' Qs hl e' q => ?_⟩
      exact pair_put (ca := ⟨(⟨[c0 i]⟩ : Tx)⟩) (cb := ⟨(⟨[d0 i]⟩ : Tx)⟩) e3 rfl rfl (by rw [hl]; exact hja) (by rw [hl]; exact hjb) e' q
theorem src_enumT {ta : TA} {ja jb : Nat} {xs : Tup α} {x0 : Nat → α} (h : EvA K Γ ta ρ (Is [⟨xs⟩])) (hx : ∀ i, i < xs.l.length → xs.l[i]? = some (x0 i)) (hja : ja < ρ.length) (hjb : jb < ρ.length) :
    Src K Γ (iEnumT K ta) (gTup K 2 (gCons (gName ja) (gCons (gName jb) gNil))) ρ [ja, jb] xs.l.length (fun i ρ => (ρ.set ja (some ⟨(i : Int)⟩)).set jb (some ⟨x0 i⟩)) := fun Δ σ H R s hh e k =>
  h Δ σ H _ s hh e fun vs H' cs pcs e1 r => by
    have ec : cs = [⟨xs⟩] := pcs
    subst ec
    obtain ⟨v, rfl, r0⟩ := args1 r
    · have r0 : Rp.rp K Δ H' v xs := r0
      obtain ⟨p, ws, rfl, n, sq, q⟩ := id r0
      refine ⟨p, ws, rfl, sq, k _ H' (.ref p) ⟨xs⟩ e1 r0 (fun Δ' H2 r2 => ?_) fun Δ' i H2 y H3 hi h2 r2 yy => ?_⟩
      · obtain ⟨p', ws, e', n', sq', q'⟩ := (show Rp.rp K Δ' H2 (.ref p) xs from r2)
        cases e'
        have hl := q'.len
        refine ⟨fun i hi => ⟨ws, ws[i], sq', List.getElem?_eq_getElem (by omega)⟩, ws, sq', by omega⟩
      · obtain ⟨p', ws, e', n', sq', q'⟩ := (show Rp.rp K Δ' H2 (.ref p) xs from r2)
        cases e'
        obtain ⟨T, x, rfl, hT, e3, hy⟩ := (show ∃ T x, y = .ref T ∧ H2 T = none ∧ H3 = upd H2 T (.tup [.int (i : Nat), x]) ∧ ∀ zs, SqT K H2 p zs → zs[i]? = some x from yy)
        obtain ⟨w, hw, rw'⟩ := q'.get (hx i hi)
        have ew : x = w := Option.some.inj ((hy _ sq').symm.trans hw)
        subst ew
        refine ⟨by rw [e3]; exact Ext.new h2 hT _, fun σ' ρ' Qs hl e' q => ?_⟩
        have hb : Rp.rp K Δ' H3 x (x0 i) := by
          subst e3
          exact Rp.mono (Ext.new h2 hT _).1 rw'
        exact pair_put (ca := ⟨(i : Int)⟩) (cb := ⟨x0 i⟩) (a := .int (i : Nat)) (b := x) e3 (show V.int (i : Nat) = V.int (i : Int) from rfl) hb (by rw [hl]; exact hja) (by rw [hl]; exact hjb) e' q
end
end Z

set_option Elab.async false
set_option linter.all false
set_option maxRecDepth 100000
set_option maxHeartbeats 1000000
namespace Z
open PySem PySem.Spec PyProof.Rows L2
section
variable {K : PySem.W.Frag} {Γ : Own} {ρ : Env} {ta tb tc te : TE} {t u : TT} {α β γ : Type} [Rp α] [Rp β] [Rp γ] {Pa : α → Prop} {Pb : β → Prop} {Pc : γ → Prop}
/-! ### comprehensions -/
theorem wipe_get (σ : L2.St) (k : Nat) : ∀ vs : List Nat, (wipe σ vs)[k]? = if k ∈ vs then (if k < σ.length then some none else none) else σ[k]?
  | [] => by simp [wipe]
  | v :: vs => by
    have ih := wipe_get σ k vs
    show ((wipe σ vs).set v none)[k]? = _
    by_cases h : v = k
    · subst h
      rw [List.getElem?_set]
      simp [wipe_length]
    · rw [List.getElem?_set_ne h, ih]
      have h' : ¬ k = v := fun z => h z.symm
      simp [h']
theorem wipe_off {σ σ2 : L2.St} {vs js : List Nat} (hl : σ2.length = σ.length) (hjs : ∀ j ∈ js, j ∈ vs) (h : ∀ k, k ∉ js → σ2[k]? = (wipe σ vs)[k]?) : wipe σ2 vs = wipe σ vs := by
  apply List.ext_getElem?
  intro k
  rw [wipe_get, wipe_get]
  by_cases hk : k ∈ vs
  · rw [if_pos hk, if_pos hk, hl]
  · rw [if_neg hk, if_neg hk, h k (fun z => hk (hjs k z)), wipe_get, if_neg hk]
def ghD (Δ : Gh) (D : Addr) (vs : List V) : Gh := fun a => if a = D then some (fun o => o = .lst vs) else Δ a
theorem ghD_sat {Δ : Gh} {D : Addr} {vs : List V} (s : Sat Γ Δ) (n : Δ D = none) : Sat Γ (ghD Δ D vs) := fun p hp => by
  have e := s p hp
  have hne : p.1 ≠ D := fun z => by
    rw [z, n] at e
    cases e
  show (if p.1 = D then _ else Δ p.1) = _
  rw [if_neg hne]
  exact e
theorem ghD_weak {Δ : Gh} {D : Addr} {vs : List V} {H : Hp} : ∀ x o, H x = some o → ghD Δ D vs x = none → Δ x = none := fun x o _ e => by
  have e' : (if x = D then some (fun o => o = HO.lst vs) else Δ x) = none := e
  by_cases h : x = D
  · rw [if_pos h] at e'
    cases e'
  · rw [if_neg h] at e'
    exact e'
/-- a fresh cell taken as one that changes -/
theorem ghD_new {Δ : Gh} {D : Addr} {vs : List V} {H : Hp} (hD : H D = none) : ∀ x o, H x = some o → Δ x = none → ghD Δ D vs x = none := fun x o hx e => by
  have hne : x ≠ D := ne_of_none hx hD
  show (if x = D then some (fun o => o = HO.lst vs) else Δ x) = none
  rw [if_neg hne]
  exact e
theorem gh_swap {Δ : Gh} {D : Addr} {vs ws : List V} {H : Hp} : ∀ x o, H x = some o → ghD Δ D vs x = none → ghD Δ D ws x = none := fun x o _ e => by
  have e' : (if x = D then some (fun o => o = HO.lst vs) else Δ x) = none := e
  show (if x = D then some (fun o => o = HO.lst ws) else Δ x) = none
  by_cases h : x = D
  · rw [if_pos h] at e'
    cases e'
  · rw [if_neg h] at e' ⊢
    exact e'
/-- the new list grows: all else stays -/
theorem gh_put {Δ : Gh} {H : Hp} {D : Addr} {vs ws : List V} (hh : Hold (ghD Δ D vs) H) : Hold (ghD Δ D ws) (upd H D (.lst ws)) ∧ Keep (ghD Δ D vs) H (upd H D (.lst ws)) := by
  constructor
  · intro a I e
    have e' : (if a = D then some (fun o => o = HO.lst ws) else Δ a) = some I := e
    by_cases h : a = D
    · rw [if_pos h] at e'
      cases e'
      exact ⟨_, by rw [h]; exact upd_same, rfl⟩
    · rw [if_neg h] at e'
      have e2 : ghD Δ D vs a = some I := by
        show (if a = D then _ else Δ a) = _
        rw [if_neg h]
        exact e'
      obtain ⟨o, ho, io⟩ := hh a I e2
      exact ⟨o, by rw [upd_ne h]; exact ho, io⟩
  · intro a o n e
    have hne : a ≠ D := fun z => by
      have n' : (if a = D then some (fun o => o = HO.lst vs) else Δ a) = none := n
      rw [if_pos z] at n'
      cases n'
    rw [upd_ne hne]
    exact e
theorem gh_first {Δ : Gh} {H : Hp} {D : Addr} {ws : List V} (hh : Hold Δ H) (hD : H D = none) : Hold (ghD Δ D ws) (upd H D (.lst ws)) ∧ Keep Δ H (upd H D (.lst ws)) := by
  refine ⟨fun a I e => ?_, (Ext.new hh hD _).1⟩
  have e' : (if a = D then some (fun o => o = HO.lst ws) else Δ a) = some I := e
  by_cases h : a = D
  · rw [if_pos h] at e'
    cases e'
    exact ⟨_, by rw [h]; exact upd_same, rfl⟩
  · rw [if_neg h] at e'
    obtain ⟨o, ho, io⟩ := hh a I e'
    exact ⟨o, by rw [upd_ne h]; exact ho, io⟩
theorem gh_last {Δ : Gh} {H : Hp} {D : Addr} {ws : List V} (n : Δ D = none) (hh : Hold (ghD Δ D ws) H) : Hold Δ H := fun a I e => by
  have hne : a ≠ D := fun z => by
    rw [z, n] at e
    cases e
  refine hh a I ?_
  show (if a = D then _ else Δ a) = _
  rw [if_neg hne]
  exact e
/-- how things stand ahead of turn i of a comprehension: the list made so far at D bears acc -/
structure CW (K : PySem.W.Frag) (Δ : Gh) (H1 : Hp) (D : Addr) (pv : V) (pc : Cell) (σw : L2.St) (ρw : Env) (vs : List V) (acc : List β) (H : Hp) : Prop where
  at_ : H D = some (.lst vs)
  hold : Hold (ghD Δ D vs) H
  keep : ∀ a o, a ≠ D → Δ a = none → H1 a = some o → H a = some o
  src : pc.rp K (ghD Δ D vs) H pv
  env : EnvOk K (ghD Δ D vs) σw H ρw
  els : All2 (fun u a => Rp.rp K (ghD Δ D vs) H u a) vs acc
theorem CW.next {Δ : Gh} {H1 H H' : Hp} {D : Addr} {pv : V} {pc : Cell} {σw : L2.St} {ρw : Env} {vs : List V} {acc : List β} (c : CW K Δ H1 D pv pc σw ρw vs acc H) (e : Ext (ghD Δ D vs) H H') (hD : H' D = some (.lst vs)) : CW K Δ H1 D pv pc σw ρw vs acc H' where
  at_ := hD
  hold := e.2
  keep a o ha n h := e.1 a o (by show (if a = D then _ else Δ a) = none; rw [if_neg ha]; exact n) (c.keep a o ha n h)
  src := pc.r.mono e.1 c.src
  env := c.env.mono e.1
  els := c.els.imp fun _ _ => Rp.mono e.1
theorem CW.put {Δ : Gh} {H1 H : Hp} {D : Addr} {pv : V} {pc : Cell} {σw : L2.St} {ρw : Env} {vs : List V} {acc : List β} {v : V} {b : β} (c : CW K Δ H1 D pv pc σw ρw vs acc H) (r : Rp.rp K (ghD Δ D vs) H v b) : CW K Δ H1 D pv pc σw ρw (vs ++ [v]) (acc ++ [b]) (upd H D (.lst (vs ++ [v]))) := by
  have g := gh_put (ws := vs ++ [v]) c.hold
  refine ⟨upd_same, g.1, fun a o ha n h => by rw [upd_ne ha]; exact c.keep a o ha n h, ?_, ?_, ?_⟩
  · exact pc.r.weak gh_swap (pc.r.mono g.2 c.src)
  · exact (c.env.mono g.2).weak gh_swap
  · exact All2.snoc (Rp.weak gh_swap (Rp.mono g.2 r)) (c.els.imp fun _ _ q => Rp.weak gh_swap (Rp.mono g.2 q))
theorem exact_at {Δ : Gh} {H : Hp} {D : Addr} {vs : List V} (hh : Hold (ghD Δ D vs) H) : H D = some (.lst vs) := by
  obtain ⟨o, ho, io⟩ := hh D (fun o => o = .lst vs) (by show (if D = D then _ else Δ D) = _; rw [if_pos rfl])
  rw [ho, show o = HO.lst vs from io]
/-- a list that stands in the heap, open to change -/
structure FL (α : Type) where
  l : List α
instance {α : Type} [Rp α] : Rp (FL α) where
  rp K Δ H v xs := ∃ p vs, v = .ref p ∧ Δ p = none ∧ H p = some (.lst vs) ∧ All2 (fun u a => Rp.rp K Δ H u a) vs xs.l
  mono k h := by
    obtain ⟨p, vs, e, n, r, q⟩ := h
    exact ⟨p, vs, e, n, k _ _ n r, q.imp fun _ _ => Rp.mono k⟩
  weak w h := by
    obtain ⟨p, vs, e, n, r, q⟩ := h
    exact ⟨p, vs, e, w _ _ r n, r, q.imp fun _ _ => Rp.weak w⟩
theorem ev_ofFL {te : TE} {P : List β → Prop} (h : Ev K Γ te ρ (fun y : FL β => P y.l)) : Ev K Γ te ρ P := fun Δ σ H Q s hh e k => h Δ σ H Q s hh e fun v H' a pa e1 r => by
  obtain ⟨p, vs, rfl, n, hr, q⟩ := r
  exact k _ H' a.l pa e1 ⟨p, vs, rfl, .inl ⟨n, .inl hr⟩, .inl (.inl hr), q⟩
theorem ev_lcF {wi : TI} {g : TG} {js vs : List Nat} {n : Nat} {st : Nat → Env → Env} (Iv : Nat → List β → Prop) (S : Src K Γ wi g ρ js n st) (hn : n ≤ 50000) (hjs : ∀ j ∈ js, j ∈ vs) (h0 : Iv 0 [])
    (hs : ∀ i acc, i < n → Iv i acc → ∃ PB : Bool → Prop, EvT K Γ t (st i (wipeE ρ vs)) PB ∧ (PB false → Iv (i + 1) acc) ∧ (PB true → ∃ PV : β → Prop, Ev K Γ te (st i (wipeE ρ vs)) PV ∧ ∀ b, PV b → Iv (i + 1) (acc ++ [b]))) :
    Ev K Γ (tLc wi g t te vs) ρ (fun y : FL β => Iv n y.l) := fun Δ σ H Q s hh e k => S Δ σ H _ s hh e fun J H1 pv pc e1 rp0 hgo hyld => fun D hD => by
  have nD : Δ D = none := e1.2.fresh hD
  have eW : EnvOk K Δ (wipe σ vs) H1 (wipeE ρ vs) := (e.mono e1.1).wipe vs
  have g0 := gh_first (ws := []) e1.2 hD
  have kp : Keep (ghD Δ D []) H1 (upd H1 D (.lst [])) := fun a o _ q => by rw [upd_ne (ne_of_none q hD)]; exact q
  have W0 : CW (β := β) K Δ H1 D pv pc (wipe σ vs) (wipeE ρ vs) [] [] (upd H1 D (.lst [])) :=
    ⟨upd_same, g0.1, fun a o ha n h => by rw [upd_ne ha]; exact h, pc.r.mono kp (pc.r.weak (ghD_new hD) rp0), (eW.weak (ghD_new hD)).mono kp, trivial⟩
  have wl : (wipeE ρ vs).length = ρ.length := by
    rw [← eW.1, wipe_length]
    exact e.1
  refine ⟨fun i m H2 => m = n - i ∧ i ≤ n ∧ ∃ vs' acc, CW K Δ H1 D pv pc (wipe σ vs) (wipeE ρ vs) vs' acc H2 ∧ acc.length ≤ i ∧ Iv i acc, ⟨n, by simp, Nat.zero_le _, [], [], W0, Nat.le_refl _, h0⟩, ?_⟩
  rintro i m H2 ⟨rfl, hi, vs', acc, c, hl, iv⟩
  have hg := hgo _ H2 c.src
  by_cases hlt : i < n
  · refine .inr ⟨hg.1 i hlt, fun H3 => ∃ vs' acc, CW K Δ H1 D pv pc (wipe σ vs) (wipeE ρ vs) vs' acc H3 ∧ acc.length ≤ i + 1 ∧ Iv (i + 1) acc, fun H' ⟨v', a', c', l', iv'⟩ => ⟨n - (i + 1), by omega, rfl, hlt, v', a', c', l', iv'⟩, fun x H3 hy => ?_⟩
    obtain ⟨e3, hput⟩ := hyld _ i H2 x H3 hlt c.hold c.src hy
    have c3 := c.next e3 (exact_at e3.2)
    refine hput (wipe σ vs) (wipeE ρ vs) _ wl c3.env fun σ2 env2 hl2 hoff => ⟨wipe_off (by rw [hl2, wipe_length]) hjs hoff, ?_⟩
    obtain ⟨PB, hT, hF, hV⟩ := hs i acc hlt iv
    refine hT (ghD Δ D vs') σ2 H3 _ (ghD_sat s nD) e3.2 env2 fun b H4 pb e4 => ?_
    have c4 := c3.next e4 (exact_at e4.2)
    cases b with
    | false => exact iteF ⟨vs', acc, c4, by omega, hF pb⟩
    | true =>
      obtain ⟨PV, hE, hb⟩ := hV pb
      refine iteT (hE (ghD Δ D vs') σ2 H4 _ (ghD_sat s nD) e4.2 (env2.mono e4.1) fun y H5 b pb' e5 r5 => ?_)
      have c5 := c4.next e5 (exact_at e5.2)
      have hlen : vs'.length < sizeLine := Nat.lt_of_le_of_lt (m := 50000) (by rw [c5.els.len]; omega) (by decide)
      exact ⟨vs', c5.at_, hlen, vs' ++ [y], acc ++ [b], c5.put r5, by rw [List.length_append]; show acc.length + 1 ≤ i + 1; omega, hb b pb'⟩
  · have ei : i = n := by omega
    subst ei
    refine .inl ⟨hg.2, k (.ref D) H2 ⟨acc⟩ iv ⟨fun a o na h => ?_, gh_last nD c.hold⟩ ⟨D, vs', rfl, nD, c.at_, c.els.imp fun _ _ => Rp.weak ghD_weak⟩⟩
    have h1 := e1.1 a o na h
    exact c.keep a o (ne_of_none h1 hD) na h1
theorem ev_lc {wi : TI} {g : TG} {js vs : List Nat} {n : Nat} {st : Nat → Env → Env} (Iv : Nat → List β → Prop) (S : Src K Γ wi g ρ js n st) (hn : n ≤ 50000) (hjs : ∀ j ∈ js, j ∈ vs) (h0 : Iv 0 [])
    (hs : ∀ i acc, i < n → Iv i acc → ∃ PB : Bool → Prop, EvT K Γ t (st i (wipeE ρ vs)) PB ∧ (PB false → Iv (i + 1) acc) ∧ (PB true → ∃ PV : β → Prop, Ev K Γ te (st i (wipeE ρ vs)) PV ∧ ∀ b, PV b → Iv (i + 1) (acc ++ [b]))) :
    Ev K Γ (tLc wi g t te vs) ρ (Iv n) := ev_ofFL (ev_lcF Iv S hn hjs h0 hs)
/-- the comprehension of told data: the items by f, chosen by p -/
theorem ev_lcD {wi : TI} {g : TG} {js vs : List Nat} {τ : Type} {xs : List τ} {st : Nat → Env → Env} (p : τ → Bool) (f : τ → β) (S : Src K Γ wi g ρ js xs.length st) (hn : xs.length ≤ 50000) (hjs : ∀ j ∈ js, j ∈ vs)
    (hs : ∀ i x, xs[i]? = some x → EvT K Γ t (st i (wipeE ρ vs)) (Is (p x)) ∧ (p x = true → Ev K Γ te (st i (wipeE ρ vs)) (Is (f x)))) :
    Ev K Γ (tLc wi g t te vs) ρ (Is ((xs.filter p).map f)) := by
  refine (ev_lc (fun i acc => acc = ((xs.take i).filter p).map f) S hn hjs rfl fun i acc hi e => ?_).imp fun a h => by
    show a = _
    rw [h, List.take_length]
  have hx : xs[i]? = some xs[i] := List.getElem?_eq_getElem hi
  have et : xs.take (i + 1) = xs.take i ++ [xs[i]] := by rw [List.take_add_one, hx]; rfl
  obtain ⟨h1, h2⟩ := hs i _ hx
  refine ⟨_, h1, fun q => ?_, fun q => ⟨_, h2 (show true = _ from q).symm, fun b hb => ?_⟩⟩
  · have q' : p xs[i] = false := (show false = _ from q).symm
    rw [et, List.filter_append, List.filter_cons, q', e]
    simp
  · have q' : p xs[i] = true := (show true = _ from q).symm
    rw [et, List.filter_append, List.filter_cons, q', e, show b = f xs[i] from hb]
    simp
theorem et_yes : EvT K Γ tYes ρ (Is true) := fun Δ σ H Q s hh e k => k true H rfl (Ext.refl hh)
end
end Z

set_option Elab.async false
set_option linter.all false
set_option maxRecDepth 100000
set_option maxHeartbeats 1000000
namespace Z
open PySem PySem.Spec PyProof.Rows L2
/-! ### statements -/
/-- how things stand within a def: Δ0, H0 at its entry; Γ what it owns; F data that stay; ρ its names -/
def Stt (K : PySem.W.Frag) (Δ0 : Gh) (H0 : Hp) (Γ : Own) (F : List (V × Cell)) (ρ : Env) (σ : L2.St) (H : Hp) : Prop :=
  ∃ Δ : Gh, Sat Γ Δ ∧ Hold Δ H ∧ EnvOk K Δ σ H ρ ∧ (∀ f ∈ F, f.2.rp K Δ H f.1) ∧ Ext Δ0 H0 H ∧ (∀ x I, Δ0 x = some I → Δ x = some I) ∧ (∀ x, Δ0 x = none → Δ x ≠ none → H0 x = none)
def Wp (K : PySem.W.Frag) (Δ0 : Gh) (H0 : Hp) (Γ : Own) (F : List (V × Cell)) (ρ : Env) (t : TS) (D : Ends) : Prop := ∀ σ H, Stt K Δ0 H0 Γ F ρ σ H → t D σ H
/-- what is wanted of what is handed back -/
def Fin (K : PySem.W.Frag) (Δ0 : Gh) (H0 : Hp) {β : Type} [Rp β] (R : β → Prop) (D : Ends) : Prop := ∀ v H' b, R b → Ext Δ0 H0 H' → Rp.rp K Δ0 H' v b → D.rt v H'
section
variable {K : PySem.W.Frag} {Δ0 : Gh} {H0 : Hp} {Γ : Own} {F : List (V × Cell)} {ρ : Env} {ta tb tc te : TE} {c : TT} {t u tz : TS} {D : Ends} {α β γ : Type} [Rp α] [Rp β] [Rp γ] {P : α → Prop} {R : β → Prop}
theorem ext0 {Δ : Gh} {H H' : Hp} (e0 : Ext Δ0 H0 H) (s1 : ∀ x I, Δ0 x = some I → Δ x = some I) (s2 : ∀ x, Δ0 x = none → Δ x ≠ none → H0 x = none) (e : Ext Δ H H') : Ext Δ0 H0 H' := by
  refine ⟨fun a o n h => ?_, fun a I q => e.2 a I (s1 a I q)⟩
  have n' : Δ a = none := by
    cases q : Δ a with
    | none => rfl
    | some I =>
      rw [s2 a n (by rw [q]; exact fun z => by cases z)] at h
      cases h
  exact e.1 a o n' (e0.1 a o n h)
theorem none0 {Δ : Gh} (s1 : ∀ x I, Δ0 x = some I → Δ x = some I) {x : Addr} (n : Δ x = none) : Δ0 x = none := by
  cases q : Δ0 x with
  | none => rfl
  | some I =>
    rw [s1 x I q] at n
    cases n
theorem wp_asg {i : Nat} (h : Ev K Γ te ρ P) (hi : i < ρ.length) (k : ∀ a, P a → Wp K Δ0 H0 Γ F (ρ.set i (some ⟨a⟩)) tz D) : Wp K Δ0 H0 Γ F ρ (tSeq (tAsg te (gName i)) tz) D := fun σ H ⟨Δ, s, hh, e, f, e0, s1, s2⟩ =>
  h Δ σ H _ s hh e fun v H' a pa e1 r1 => k a pa _ H' ⟨Δ, s, e1.2, (e.mono e1.1).set (c := ⟨a⟩) hi r1, fun q hq => q.2.r.mono e1.1 (f q hq), ext0 e0 s1 s2 e1, s1, s2⟩
theorem wp_asg1 {i : Nat} {a : α} (h : Ev K Γ te ρ (Is a)) (hi : i < ρ.length) (k : Wp K Δ0 H0 Γ F (ρ.set i (some ⟨a⟩)) tz D) : Wp K Δ0 H0 Γ F ρ (tSeq (tAsg te (gName i)) tz) D :=
  wp_asg h hi fun b e => by rw [show b = a from e]; exact k
/-- the same as the last of a block -/
theorem wp_asgL {i : Nat} (h : Ev K Γ te ρ P) (hi : i < ρ.length) (k : ∀ a, P a → Wp K Δ0 H0 Γ F (ρ.set i (some ⟨a⟩)) tNext D) : Wp K Δ0 H0 Γ F ρ (tAsg te (gName i)) D := fun σ H ⟨Δ, s, hh, e, f, e0, s1, s2⟩ =>
  h Δ σ H _ s hh e fun v H' a pa e1 r1 => k a pa _ H' ⟨Δ, s, e1.2, (e.mono e1.1).set (c := ⟨a⟩) hi r1, fun q hq => q.2.r.mono e1.1 (f q hq), ext0 e0 s1 s2 e1, s1, s2⟩
theorem wp_ret (hf : Fin K Δ0 H0 R D) (h : Ev K Γ te ρ R) : Wp K Δ0 H0 Γ F ρ (tRet te) D := fun σ H ⟨Δ, s, hh, e, f, e0, s1, s2⟩ =>
  h Δ σ H _ s hh e fun v H' a pa e1 r1 => hf v H' a pa (ext0 e0 s1 s2 e1) (Rp.weak (fun x o _ n => none0 s1 n) r1)
theorem wp_drop (h : Ev K Γ te ρ P) (k : Wp K Δ0 H0 Γ F ρ tz D) : Wp K Δ0 H0 Γ F ρ (tSeq (tDrop te) tz) D := fun σ H ⟨Δ, s, hh, e, f, e0, s1, s2⟩ =>
  h Δ σ H _ s hh e fun v H' a pa e1 r1 => k _ H' ⟨Δ, s, e1.2, e.mono e1.1, fun q hq => q.2.r.mono e1.1 (f q hq), ext0 e0 s1 s2 e1, s1, s2⟩
theorem wp_dropL (h : Ev K Γ te ρ P) (k : Wp K Δ0 H0 Γ F ρ tNext D) : Wp K Δ0 H0 Γ F ρ (tDrop te) D := fun σ H ⟨Δ, s, hh, e, f, e0, s1, s2⟩ =>
  h Δ σ H _ s hh e fun v H' a pa e1 r1 => k _ H' ⟨Δ, s, e1.2, e.mono e1.1, fun q hq => q.2.r.mono e1.1 (f q hq), ext0 e0 s1 s2 e1, s1, s2⟩
theorem wp_ifP {PB : Bool → Prop} (h : EvT K Γ c ρ PB) (h1 : PB true → Wp K Δ0 H0 Γ F ρ t D) (h2 : PB false → Wp K Δ0 H0 Γ F ρ u D) : Wp K Δ0 H0 Γ F ρ (tIfS c t u) D := fun σ H ⟨Δ, s, hh, e, f, e0, s1, s2⟩ =>
  h Δ σ H _ s hh e fun b H' pb e1 => by
    have st : Stt K Δ0 H0 Γ F ρ σ H' := ⟨Δ, s, e1.2, e.mono e1.1, fun q hq => q.2.r.mono e1.1 (f q hq), ext0 e0 s1 s2 e1, s1, s2⟩
    cases b with
    | true => exact iteT (h1 pb σ H' st)
    | false => exact iteF (h2 pb σ H' st)
theorem wp_if {b : Bool} (h : EvT K Γ c ρ (Is b)) (h1 : b = true → Wp K Δ0 H0 Γ F ρ t D) (h2 : b = false → Wp K Δ0 H0 Γ F ρ u D) : Wp K Δ0 H0 Γ F ρ (tIfS c t u) D := wp_ifP h (fun e => h1 (show true = b from e).symm) fun e => h2 (show false = b from e).symm
/-- if c: t, then the rest -/
theorem wp_when {b : Bool} (h : EvT K Γ c ρ (Is b)) (h1 : b = true → Wp K Δ0 H0 Γ F ρ t { D with nx := tz D }) (h2 : b = false → Wp K Δ0 H0 Γ F ρ tz D) : Wp K Δ0 H0 Γ F ρ (tSeq (tIfS c t tNext) tz) D := wp_if (D := { D with nx := tz D }) h h1 h2
theorem wp_ifs {b : Bool} (h : EvT K Γ c ρ (Is b)) (h1 : b = true → Wp K Δ0 H0 Γ F ρ t { D with nx := tz D }) (h2 : b = false → Wp K Δ0 H0 Γ F ρ u { D with nx := tz D }) : Wp K Δ0 H0 Γ F ρ (tSeq (tIfS c t u) tz) D := wp_if (D := { D with nx := tz D }) h h1 h2
/-- the raise of a way that is not gone -/
theorem wp_no {b : Bool} (hb : b = false) (h : EvT K Γ c ρ (Is b)) (h2 : Wp K Δ0 H0 Γ F ρ tz D) : Wp K Δ0 H0 Γ F ρ (tSeq (tIfS c t tNext) tz) D := wp_when h (fun e => by rw [hb] at e; cases e) fun _ => h2
theorem wp_noL {b : Bool} (hb : b = false) (h : EvT K Γ c ρ (Is b)) (h2 : Wp K Δ0 H0 Γ F ρ tNext D) : Wp K Δ0 H0 Γ F ρ (tIfS c t tNext) D := wp_if h (fun e => by rw [hb] at e; cases e) fun _ => h2
/-- a, b = e1, e2 -/
theorem wp_par {i j : Nat} {ta : TA} {Q : List Cell → Prop} (h : EvA K Γ ta ρ Q) (hi : i < ρ.length) (hj : j < ρ.length) (k : ∀ cs, Q cs → ∃ c d : Cell, cs = [c, d] ∧ Wp K Δ0 H0 Γ F ((ρ.set i (some c)).set j (some d)) tz D) : Wp K Δ0 H0 Γ F ρ (tSeq (tPar i j ta) tz) D := fun σ H ⟨Δ, s, hh, e, f, e0, s1, s2⟩ =>
  h Δ σ H _ s hh e fun vs H' cs pcs e1 r => by
    obtain ⟨c, d, rfl, kk⟩ := k cs pcs
    match vs, r with
    | [v, w], r => exact ⟨v, w, rfl, kk _ H' ⟨Δ, s, e1.2, ((e.mono e1.1).set hi r.1).set (by rw [List.length_set]; exact hj) r.2.1, fun q hq => q.2.r.mono e1.1 (f q hq), ext0 e0 s1 s2 e1, s1, s2⟩⟩
/-- a loop: Iv tells what may stand ahead of turn i -/
def At (K : PySem.W.Frag) (Δ0 : Gh) (H0 : Hp) (F : List (V × Cell)) (Iv : Nat → Own → Env → Prop) (i : Nat) : L2.St → Hp → Prop := fun σ H => ∃ Γ ρ, Iv i Γ ρ ∧ Stt K Δ0 H0 Γ F ρ σ H
theorem wp_for {wi : TI} {g : TG} {js : List Nat} {n : Nat} {st : Nat → Env → Env} (Iv : Nat → Own → Env → Prop) (S : Src K Γ wi g ρ js n st) (h0 : Iv 0 Γ ρ) (hl : ∀ i Γ' ρ', Iv i Γ' ρ' → ρ'.length = ρ.length)
    (hs : ∀ i Γ' ρ' F', i < n → Iv i Γ' ρ' → Wp K Δ0 H0 Γ' F' (st i ρ') t { D with nx := At K Δ0 H0 F' Iv (i + 1), ct := At K Δ0 H0 F' Iv (i + 1), bk := tz D })
    (hd : ∀ Γ' ρ' F', Iv n Γ' ρ' → Wp K Δ0 H0 Γ' F' ρ' tz D) : Wp K Δ0 H0 Γ F ρ (tSeq (tFor wi g t) tz) D := fun σ H ⟨Δ, s, hh, e, f, e0, s1, s2⟩ =>
  S Δ σ H _ s hh e fun J H1 pv pc e1 rp0 hgo hyld => by
    refine ⟨fun i m σ2 H2 => m = n - i ∧ i ≤ n ∧ At K Δ0 H0 ((pv, pc) :: F) Iv i σ2 H2, ⟨n, by simp, Nat.zero_le _, Γ, ρ, h0, Δ, s, e1.2, e.mono e1.1, ?_, ext0 e0 s1 s2 e1, s1, s2⟩, ?_⟩
    · intro q hq
      rcases List.mem_cons.mp hq with z | z
      · rw [z]; exact rp0
      · exact q.2.r.mono e1.1 (f q z)
    · rintro i m σ2 H2 ⟨rfl, hi, Γ', ρ', iv, st2⟩
      obtain ⟨Δ', s', hh', e', f', e0', s1', s2'⟩ := id st2
      have rp2 : pc.rp K Δ' H2 pv := f' (pv, pc) List.mem_cons_self
      have hg := hgo Δ' H2 rp2
      by_cases hlt : i < n
      · refine .inr ⟨hg.1 i hlt, At K Δ0 H0 ((pv, pc) :: F) Iv (i + 1), fun σ3 H3 a => ⟨n - (i + 1), by omega, rfl, hlt, a⟩, fun x H3 hy => ?_⟩
        obtain ⟨e3, hput⟩ := hyld Δ' i H2 x H3 hlt hh' rp2 hy
        refine hput σ2 ρ' _ (hl i Γ' ρ' iv) (e'.mono e3.1) fun σ3 env3 _ _ => ?_
        exact hs i Γ' ρ' _ hlt iv σ3 H3 ⟨Δ', s', e3.2, env3, fun q hq => q.2.r.mono e3.1 (f' q hq), ext0 e0' s1' s2' e3, s1', s2'⟩
      · have ei : i = n := by omega
        subst ei
        exact .inl ⟨hg.2, hd Γ' ρ' _ iv σ2 H2 st2⟩
/-- behind the last turn's body -/
theorem wp_turn {Iv : Nat → Own → Env → Prop} {i : Nat} (hiv : Iv i Γ ρ) (e : D.nx = At K Δ0 H0 F Iv i) : Wp K Δ0 H0 Γ F ρ tNext D := fun σ H st => by
  show D.nx σ H
  rw [e]
  exact ⟨Γ, ρ, hiv, st⟩
/-- x = a list of one's own: from here on its cell is owned, its members told -/
def LstIs (vs : List V) : HO → Prop := fun o => o = .lst vs
theorem wp_end {D : Ends} (h : ∀ H', Ext Δ0 H0 H' → D.nx = D.nx → ∀ σ, D.nx σ H') : Wp K Δ0 H0 Γ F ρ tNext D := fun σ H ⟨Δ, s, hh, e, f, e0, s1, s2⟩ => h H e0 rfl σ
end
/-! ### a def -/
section
variable {P : Program} {w : World} {K : PySem.W.Frag} {mg : Str → Option Value} {base : Heap} {β : Type} [Rp β]
def env0 (N : List Str) (cs : List Cell) : Env := cs.map some ++ List.replicate (N.length - cs.length) none
theorem start_ok {Δ : Gh} {H : Hp} {N : List Str} {vs : List V} {cs : List Cell} (h : ArgsOk K Δ H vs cs) : EnvOk K Δ (L2.start N vs) H (env0 N cs) := by
  have hl := All2.len h
  refine ⟨by unfold L2.start env0; rw [List.length_append, List.length_append, List.length_map, List.length_map, List.length_replicate, List.length_replicate, hl], fun i c e => ?_⟩
  unfold env0 at e
  unfold L2.start
  by_cases hi : i < cs.length
  · rw [List.getElem?_append_left (by rw [List.length_map]; exact hi), List.getElem?_map] at e
    cases q : cs[i]? with
    | none => rw [q] at e; cases e
    | some d =>
      rw [q] at e
      have ed : d = c := Option.some.inj (Option.some.inj e)
      subst ed
      obtain ⟨v, hv, rv⟩ := All2.get h q
      exact ⟨v, by rw [List.getElem?_append_left (by rw [List.length_map, hl]; exact hi), List.getElem?_map, hv]; rfl, rv⟩
  · rw [List.getElem?_append_right (by rw [List.length_map]; omega)] at e
    obtain ⟨_, e2⟩ := List.getElem?_eq_some_iff.mp e
    rw [List.getElem_replicate] at e2
    cases e2
/-- a def's promise from its body's term and the body's walk -/
theorem def_ok {x qual : Str} {args : Arguments} {body : List Stmt} {scope : Scope} {dvs : List V} {kws : List (Str × V)} {f : Addr} {fd : FuncData} {N ps : List Str} {k : Nat} {G : Own → List Cell → (β → Prop) → Prop}
    (Fn : FunD K x qual args body scope dvs kws f fd) (S : FnScope N ps scope) (len : ∀ Γ cs R, G Γ cs R → cs.length = ps.length)
    (hb : ∀ (cdv : Value) (A : Around) (outer : List PySem.Env) (s : Shared) (H : Hp) (E : XK), Room k (A.deeper (envOfC qual scope s.heap.objs.size f cdv)) →
      ∀ (Γ : Own) (cs : List Cell) (R : β → Prop), G Γ cs R → ∃ t, PSs (cxOf CX0 P w K mg base N qual scope f cdv A outer s H E).nox body t ∧
        ∀ (Δ0 : Gh) (D : Ends), Fin K Δ0 H R D → (∀ b : β, R b → (∀ H', Rp.rp K Δ0 H' .non b) → ∀ σ H', Ext Δ0 H H' → D.nx σ H') → Wp K Δ0 H Γ [] (env0 N cs) t D) :
    FnOk P w K mg base CX0 (k + 1) f fd ps (spD K G) := by
  refine Fn.ok S (fun vs H Q E h => ?_) (fun cdv A outer s H vs Q E hr h => ?_)
  · obtain ⟨Γ, Δ, cs, R, g, _, _, a, _⟩ := h
    rw [All2.len a]
    exact len Γ cs R g
  · obtain ⟨Γ, Δ, cs, R, g, sa, hh, a, q⟩ := h
    obtain ⟨t, ht, hw⟩ := hb cdv A outer s H E hr Γ cs R g
    refine ⟨t, ?_, hw Δ _ (fun v H' b pb e r => q v H' b pb e r) (fun b rb hb' σ H' e => q .non H' b rb e (hb' H')) _ H ⟨Δ, sa, hh, start_ok a, fun z hz => (nomatch hz), Ext.refl hh, fun _ _ z => z, fun x n m => absurd n m⟩⟩
    first
      | exact ht
      | exact PSs.nox ht
end
end Z

set_option Elab.async false
set_option linter.all false
set_option maxRecDepth 100000
set_option maxHeartbeats 1000000
namespace Z
open PySem PySem.Spec PyProof.Rows L2
/-! ### further rules -/
section
variable {X : Cx}
theorem call_reprB : CallR X (.builtin "repr") (fun xs H Q => ∃ b, xs = [.bl b] ∧ Q (.str (if b then "True" else "False")) H) := by
  intro pins s σ H xs us Q I r h
  obtain ⟨b, rfl, q⟩ := h
  obtain ⟨u, rfl, r1⟩ := vals1 r
  cases r1
  exact PySem.P.repr_of_bool ⟨.str _, H, I.tok _, ⟨_, rfl⟩, q⟩
def rMulS : R2 := fun x y H Q => ∃ z i, x = .str z ∧ y = .int i ∧ MulOk z i ∧ Q (.str (PySem.Txt.mul z i)) H
theorem op_mulS : OpR X (binaryOp .Mult) rMulS := by
  intro pins s σ H x y v u Q I rx ry h
  obtain ⟨z, i, rfl, rfl, hm, q⟩ := h
  obtain ⟨t, rfl⟩ := rx
  obtain ⟨t', rfl⟩ := ry
  exact PySem.SB.mul hm fun t2 k => ⟨.str _, H, I.tok k, ⟨t2, rfl⟩, q⟩
theorem pe_trS {o : Expr} {to te : TE} {e : Expr} {apos pos : Pos} (hc : X.calm = true) (ho : PE X o to) (he : PE X e te) (hs : starEach [e] X.env = [(false, eval e X.env)] := by rfl) (hbase : attributeBase o "translate" X.env (eval o X.env) = eval o X.env := by rfl) (hline : (apos.endLine == pos.line) = true := by rfl) :
    PE X (.Call (.Attribute o "translate" apos) [e] [] pos) (tM1 (fun x xs H Q => ∃ (t : List Nat) (d : Addr), x = .str (SX.S t) ∧ xs = [.ref d] ∧ H d = some (.dK swpV) ∧ t.length ≤ 16000000 ∧ Q (.str (SX.S (t.map sw))) H) to te) :=
  pe_m1 F.slot_str_translate F.type_str_translate (mt_trS hc) ho he hs hbase hline
theorem pe_stripC {o : Expr} {to te : TE} {e : Expr} {apos pos : Pos} (ho : PE X o to) (he : PE X e te) (hs : starEach [e] X.env = [(false, eval e X.env)] := by rfl) (hbase : attributeBase o "strip" X.env (eval o X.env) = eval o X.env := by rfl) (hline : (apos.endLine == pos.line) = true := by rfl) :
    PE X (.Call (.Attribute o "strip" apos) [e] [] pos) (tM1 (fun x xs H Q => ∃ a b, x = .str a ∧ xs = [.str b] ∧ a.length ≤ sizeLine ∧ Q (.str (PySem.Txt.stripChars a b)) H) to te) :=
  pe_m1 F.slot_str_strip F.type_str_strip mt_stripChars ho he hs hbase hline
end
end Z

set_option Elab.async false
set_option linter.all false
set_option maxRecDepth 100000
set_option maxHeartbeats 1000000
namespace Z
open PySem PySem.Spec PyProof.Rows L2
section
variable {K : PySem.W.Frag} {Γ : Own} {ρ : Env} {ta tb tc te : TE} {t u : TT} {α β γ : Type} [Rp α] [Rp β] [Rp γ] {Pa : α → Prop} {Pb : β → Prop} {Pc : γ → Prop}
/-! ### texts -/
theorem joinL_flat : ∀ ps : List (List Nat), TL.joinL [] ps = ps.flatten
  | [] => rfl
  | [p] => by simp [TL.joinL]
  | p :: q :: r => by
    show p ++ ([] ++ TL.joinL [] (q :: r)) = _
    rw [joinL_flat (q :: r), List.nil_append, List.flatten_cons, List.flatten_cons, List.flatten_cons]
theorem join_tx (xs : List Tx) : PySem.Txt.join Str.empty (xs.map fun x => (⟨x.s.toArray⟩ : Str)) = ⟨((xs.map (·.s)).flatten).toArray⟩ := by
  rw [TL.join_eq]
  have h := TL.tl_join Str.empty (xs.map fun x => (⟨x.s.toArray⟩ : Str))
  rw [show TL.tl Str.empty = [] from rfl, joinL_flat, List.map_map] at h
  have e : (xs.map (TL.tl ∘ fun x => (⟨x.s.toArray⟩ : Str))) = xs.map (·.s) := List.map_congr_left fun x _ => by show x.s.toArray.toList = x.s; simp
  rw [e] at h
  generalize PySem.Str.join Str.empty _ = z at h
  cases z
  have h' := congrArg List.toArray h
  simpa using h'
def rJoin (K : PySem.W.Frag) : V → List V → Hp → VK → Prop := fun x xs H Q => ∃ a p, ∃ ys : List Str, x = .str a ∧ xs = [.ref p] ∧ (SqL K H p (ys.map V.str) ∨ SqT K H p (ys.map V.str)) ∧
  (ys.map (·.length)).sum + ys.length * a.length ≤ 16777216 ∧ Q (.str (PySem.Txt.join a ys)) H
theorem sum_len (xs : List Tx) : ((xs.map fun x => (⟨x.s.toArray⟩ : Str)).map (·.length)).sum = ((xs.map (·.s)).flatten).length := by
  induction xs with
  | nil => rfl
  | cons x xs ih =>
    rw [List.map_cons, List.map_cons, List.sum_cons, ih, List.map_cons, List.flatten_cons, List.length_append]
    have e : (⟨x.s.toArray⟩ : Str).length = x.s.length := by show x.s.toArray.size = _; simp
    rw [e]
/-- "".join(texts) -/
theorem ev_join1 {xs : List Tx} (h : Ev K Γ te ρ (Is xs)) (hz : ((xs.map (·.s)).flatten).length ≤ 100000) : Ev K Γ (tM1 (rJoin K) (tC (.str "")) te) ρ (Is (⟨(xs.map (·.s)).flatten⟩ : Tx)) := fun Δ σ H Q s hh e k =>
  ⟨⟨_, rfl⟩, h Δ σ H _ s hh e fun v H' a pa e1 r => by
    have ea : a = xs := pa
    subst ea
    obtain ⟨p, vs, rfl, n, sq, q⟩ := r
    have ev := all2_tx q
    subst ev
    refine ⟨Str.empty, p, _, rfl, rfl, .inl sq, ?_, k _ H' _ rfl e1 (by show V.str _ = V.str _; rw [join_tx])⟩
    rw [sum_len]
    have e0 : Str.empty.length = 0 := rfl
    rw [e0]
    omega⟩
theorem ev_join {xs : List Tx} {z : Str} (hz0 : z = "" := by rfl) (h : Ev K Γ te ρ (Is xs)) (hz : ((xs.map (·.s)).flatten).length ≤ 100000) : Ev K Γ (tM1 (rJoin K) (tC (.str z)) te) ρ (Is (⟨(xs.map (·.s)).flatten⟩ : Tx)) := by
  subst hz0
  exact ev_join1 h hz
/-- the same of a drawn list -/
theorem ev_joinP {P : List Tx → Prop} {z : Str} (hz0 : z = "" := by rfl) (h : Ev K Γ te ρ P) (hz : ∀ xs, P xs → ((xs.map (·.s)).flatten).length ≤ 100000) : Ev K Γ (tM1 (rJoin K) (tC (.str z)) te) ρ (fun x : Tx => ∃ xs, P xs ∧ x = ⟨(xs.map (·.s)).flatten⟩) := by
  subst hz0
  exact fun Δ σ H Q s hh e k =>
    ⟨⟨_, rfl⟩, h Δ σ H _ s hh e fun v H' a pa e1 r => by
      obtain ⟨p, vs, rfl, n, sq, q⟩ := r
      have ev := all2_tx q
      subst ev
      refine ⟨Str.empty, p, _, rfl, rfl, .inl sq, ?_, k _ H' _ ⟨a, pa, rfl⟩ e1 (by show V.str _ = V.str _; rw [join_tx])⟩
      rw [sum_len]
      have e0 : Str.empty.length = 0 := rfl
      rw [e0]
      have := hz a pa
      omega⟩
def isSign (c : Nat) : Bool := c == 43 || c == 45 || c == 48
theorem contains_sign (c : Nat) : (Str.ofString "+-0").cps.contains c = isSign c := by
  have e : (Str.ofString "+-0").cps = #[43, 45, 48] := by decide +kernel
  rw [e]
  unfold isSign
  simp [Array.contains, Bool.or_assoc, eq_comm, BEq.comm]
theorem takeWhile_all {p : Nat → Bool} : ∀ {l : List Nat}, (l.takeWhile p).length = l.length → l.all p = true
  | [], _ => rfl
  | x :: l, h => by
    rw [List.takeWhile_cons] at h
    cases hp : p x with
    | true =>
      rw [hp] at h
      simp at h
      rw [List.all_cons, hp, takeWhile_all (by simpa using h)]
      try rfl
    | false =>
      rw [hp] at h
      simp at h
theorem all_takeWhile {p : Nat → Bool} : ∀ {l : List Nat}, l.all p = true → l.takeWhile p = l
  | [], _ => rfl
  | x :: l, h => by
    rw [List.all_cons, Bool.and_eq_true] at h
    rw [List.takeWhile_cons, h.1, if_pos rfl, all_takeWhile h.2]
theorem drop_take {p : Nat → Bool} : ∀ l : List Nat, l = l.takeWhile p ++ l.drop (l.takeWhile p).length
  | [] => rfl
  | x :: l => by
    rw [List.takeWhile_cons]
    split
    · rw [List.cons_append, List.length_cons, List.drop_succ_cons, ← drop_take l]
    · rfl
theorem take_goes {p : Nat → Bool} : ∀ l : List Nat, (l.takeWhile p).all p = true
  | [] => rfl
  | x :: l => by
    rw [List.takeWhile_cons]
    split
    · rename_i h
      rw [List.all_cons, h, take_goes l]
      rfl
    · rfl
theorem takeWhile_le {p : Nat → Bool} : ∀ (l : List Nat), (l.takeWhile p).length ≤ l.length
  | [] => Nat.le_refl _
  | x :: l => by
    rw [List.takeWhile_cons]
    split
    · have := takeWhile_le (p := p) l
      simp only [List.length_cons]
      omega
    · simp
/-- nothing is left of a row alone -/
theorem strip_nil (l : List Nat) : (PySem.Txt.stripChars ⟨l.toArray⟩ "+-0" = Str.empty) ↔ l.all isSign = true := by
  have hc : (fun c => (Str.ofString "+-0").cps.contains c) = isSign := funext contains_sign
  have hg : (Str.ofString "+-0").cps.contains = isSign := hc
  unfold PySem.Txt.stripChars PySem.Txt.stripBy
  rw [hg]
  have hlen : (⟨l.toArray⟩ : Str).length = l.length := by show l.toArray.size = _; simp
  have lo : PySem.stripLo isSign true ⟨l.toArray⟩ = (l.takeWhile isSign).length := by unfold PySem.stripLo; simp
  constructor
  · intro h
    split at h
    · rename_i hs
      unfold PySem.stripSame at hs
      rw [lo, Bool.and_eq_true] at hs
      have hl : l = [] := by
        have h2 : l.toArray = #[] := congrArg Str.cps h
        simpa using h2
      subst hl
      rfl
    · have hcps := congrArg Str.cps h
      unfold PySem.stripped at hcps
      have h2 : ((⟨l.toArray⟩ : Str).cps.extract (PySem.stripLo isSign true ⟨l.toArray⟩) (PySem.stripHi isSign true ⟨l.toArray⟩ (PySem.stripLo isSign true ⟨l.toArray⟩))).size = 0 := by
        have : (PySem.Builtin.Str.strSub (⟨l.toArray⟩ : Str) (PySem.stripLo isSign true ⟨l.toArray⟩) (PySem.stripHi isSign true ⟨l.toArray⟩ (PySem.stripLo isSign true ⟨l.toArray⟩))).cps = #[] := hcps
        exact congrArg Array.size this
      rw [Array.size_extract, lo] at h2
      have hi : PySem.stripHi isSign true ⟨l.toArray⟩ (l.takeWhile isSign).length = l.length - ((l.drop (l.takeWhile isSign).length).reverse.takeWhile isSign).length := by
        unfold PySem.stripHi
        rw [if_pos rfl, hlen]
      rw [hi] at h2
      have hsz : (⟨l.toArray⟩ : Str).cps.size = l.length := by simp
      rw [hsz] at h2
      have t1 := takeWhile_le (p := isSign) l
      have t2 := takeWhile_le (p := isSign) ((l.drop (l.takeWhile isSign).length).reverse)
      rw [List.length_reverse, List.length_drop] at t2
      -- the tail's own signs end at the first bad one
      have key : (l.takeWhile isSign).length = l.length ∨ ((l.drop (l.takeWhile isSign).length).reverse.takeWhile isSign).length < l.length - (l.takeWhile isSign).length := by
        by_cases hq : (l.takeWhile isSign).length = l.length
        · exact .inl hq
        · right
          have hne : ((l.drop (l.takeWhile isSign).length).reverse.takeWhile isSign).length ≠ (l.drop (l.takeWhile isSign).length).reverse.length := by
            intro hh
            have ha := takeWhile_all hh
            rw [List.all_reverse] at ha
            have hcat := drop_take (p := isSign) l
            have hall : l.all isSign = true := by
              rw [hcat, List.all_append, ha]
              rw [take_goes l]
              try rfl
            have := all_takeWhile hall
            exact hq (by rw [this])
          rw [List.length_reverse, List.length_drop] at hne
          omega
      rcases key with q | q
      · exact takeWhile_all q
      · omega
  · intro h
    have ht := all_takeWhile h
    split
    · rename_i hs
      unfold PySem.stripSame at hs
      rw [lo, Bool.and_eq_true, ht] at hs
      have h0 : l.length = 0 := by simpa using hs.1
      have hl := List.eq_nil_of_length_eq_zero h0
      subst hl
      rfl
    · unfold PySem.stripped
      show (⟨l.toArray.extract _ _⟩ : Str) = _
      rw [lo, ht]
      have : l.toArray.extract l.length (PySem.stripHi isSign true ⟨l.toArray⟩ l.length) = #[] := by
        apply Array.eq_empty_of_size_eq_zero
        rw [Array.size_extract]
        unfold PySem.stripHi
        rw [if_pos rfl, hlen]
        simp
      rw [this]
      rfl

def rStrip : V → List V → Hp → VK → Prop := fun x xs H Q => ∃ a b, x = .str a ∧ xs = [.str b] ∧ a.length ≤ sizeLine ∧ Q (.str (PySem.Txt.stripChars a b)) H
/-- x.strip("+-0"), told by what is left -/
theorem ev_strip {x : Tx} {z : Str} (hz0 : z = "+-0" := by rfl) (h : Ev K Γ ta ρ (Is x)) (hz : x.s.length ≤ 100000) :
    Ev K Γ (tM1 (fun x xs H Q => ∃ a b, x = .str a ∧ xs = [.str b] ∧ a.length ≤ sizeLine ∧ Q (.str (PySem.Txt.stripChars a b)) H) ta (tC (.str z))) ρ (fun y : Tx => y.s = [] ↔ x.s.all isSign = true) := by
  subst hz0
  exact fun Δ σ H Q s hh e k => h Δ σ H _ s hh e fun v H' a pa e1 r => by
    have ea : a = x := pa
    subst ea
    have ev : v = .str ⟨a.s.toArray⟩ := r
    subst ev
    refine ⟨⟨_, rfl⟩, _, _, rfl, rfl, ?_, k _ H' ⟨(PySem.Txt.stripChars ⟨a.s.toArray⟩ "+-0").cps.toList⟩ ?_ e1 rfl⟩
    · show a.s.toArray.size ≤ sizeLine
      rw [List.size_toArray]
      exact Nat.le_trans hz (by decide)
    · rw [← strip_nil]
      constructor
      · intro q
        generalize PySem.Txt.stripChars ⟨a.s.toArray⟩ "+-0" = y at q
        cases y with
        | mk c =>
          have q' : c.toList = [] := q
          have : c = #[] := by simpa using q'
          rw [this]
          rfl
      · intro q
        rw [q]
        rfl
/-- x.translate(the swap) -/
theorem ev_tr {x : Tx} (h : Ev K Γ ta ρ (Is x)) (hz : x.s.length ≤ 100000) :
    Ev K Γ (tM1 (fun x xs H Q => ∃ (t : List Nat) (d : Addr), x = .str (SX.S t) ∧ xs = [.ref d] ∧ H d = some (.dK swpV) ∧ t.length ≤ 16000000 ∧ Q (.str (SX.S (t.map sw))) H) ta tMk) ρ (Is (⟨x.s.map sw⟩ : Tx)) := fun Δ σ H Q s hh e k =>
  h Δ σ H _ s hh e fun v H' a pa e1 r => by
    have ea : a = x := pa
    subst ea
    have ev : v = .str ⟨a.s.toArray⟩ := r
    subst ev
    refine ⟨⟨_, rfl⟩, fun p hp => ⟨a.s, p, rfl, rfl, upd_same, by omega, k _ _ ⟨a.s.map sw⟩ rfl (e1.trans (Ext.new e1.2 hp _)) rfl⟩⟩
/-! ### built-in calls -/
theorem o1_abs {i : Int} : Op1 K (fun xs H Q => ∃ i, xs = [.int i] ∧ Q (.int (if i < 0 then -i else i)) H) i (Is (if i < 0 then -i else i)) := fun Δ H v Q hh r k => by
  have e : v = .int i := r
  subst e
  exact ⟨i, rfl, k _ H _ rfl (Ext.refl hh) rfl⟩
theorem o1_int {i : Int} : Op1 K (fun xs H Q => (∃ i, xs = [.int i] ∧ Q (.int i) H) ∨ ∃ k, xs = [.bl k] ∧ Q (.int (if k then 1 else 0)) H) i (Is i) := fun Δ H v Q hh r k => by
  have e : v = .int i := r
  subst e
  exact .inl ⟨i, rfl, k _ H _ rfl (Ext.refl hh) rfl⟩
theorem o1_intB {b : Bool} : Op1 K (fun xs H Q => (∃ i, xs = [.int i] ∧ Q (.int i) H) ∨ ∃ k, xs = [.bl k] ∧ Q (.int (if k then 1 else 0)) H) b (Is (if b then (1 : Int) else 0)) := fun Δ H v Q hh r k => by
  have e : v = .bl b := r
  subst e
  exact .inr ⟨b, rfl, k _ H _ rfl (Ext.refl hh) rfl⟩
def rB (b : Bool) : Tx := ⟨(Str.ofString (if b then "True" else "False")).cps.toList⟩
theorem o1_reprB {b : Bool} : Op1 K (fun xs H Q => ∃ b, xs = [.bl b] ∧ Q (.str (if b then "True" else "False")) H) b (Is (rB b)) := fun Δ H v Q hh r k => by
  have e : v = .bl b := r
  subst e
  refine ⟨b, rfl, k _ H _ rfl (Ext.refl hh) ?_⟩
  cases b <;> rfl
theorem o1_tuple {xs : List α} : Op1 K (fun xs H Q => ∃ p ys, xs = [.ref p] ∧ ((SqL K H p ys ∧ ∀ l, H l = none → Q (.ref l) (upd H l (.tup ys))) ∨ (SqT K H p ys ∧ Q (.ref p) H))) xs (Is (⟨xs⟩ : Tup α)) := fun Δ H v Q hh r k => by
  obtain ⟨p, vs, rfl, n, s, q⟩ := r
  exact ⟨p, vs, rfl, .inl ⟨s, fun l hl => k _ _ ⟨xs⟩ rfl (Ext.new hh hl _) (new_tup hh hl q)⟩⟩
/-- tuple(a drawn list) -/
theorem ev_tupleP {P : List α → Prop} (h : Ev K Γ te ρ P) : Ev K Γ (tCB (fun xs H Q => ∃ p ys, xs = [.ref p] ∧ ((SqL K H p ys ∧ ∀ l, H l = none → Q (.ref l) (upd H l (.tup ys))) ∨ (SqT K H p ys ∧ Q (.ref p) H))) (tCons te tNil)) ρ (fun t : Tup α => P t.l) :=
  ev_cb1 h fun x px => fun Δ H v Q hh r k => o1_tuple Δ H v Q hh r fun u H' c pc => k u H' c (by rw [show c = ⟨x⟩ from pc]; exact px)
/-- isinstance(x, T) -/
theorem ev_isi {c : String} {tn : String} {x : α} {b : Bool} (h : Ev K Γ te ρ (Is x)) (ty : ∀ Δ H v, Rp.rp K Δ H v x → TyX K H v (.type tn)) (hb : PySem.W.kitOne K (.type tn) (.type c) = some b) :
    Ev K Γ (tCB (rIsi K) (tCons te (tCons (tC (.ty c)) tNil))) ρ (Is b) := fun Δ σ H Q s hh e k =>
  h Δ σ H _ s hh e fun v H' a pa e1 r => by
    have ea : a = x := pa
    subst ea
    exact ⟨v, .ty c, _, _, b, rfl, .ty c, ty Δ H' v r, hb, k _ H' _ rfl e1 rfl⟩
theorem ty_tx {x : Tx} : ∀ Δ H v, Rp.rp K Δ H v x → TyX K H v (.type "str") := fun Δ H v r => by
  have e : v = .str ⟨x.s.toArray⟩ := r
  subst e
  exact .base (.str _)
theorem ty_int {x : Int} : ∀ Δ H v, Rp.rp K Δ H v x → TyX K H v (.type "int") := fun Δ H v r => by
  have e : v = .int x := r
  subst e
  exact .base (.int _)
theorem ty_bl {x : Bool} : ∀ Δ H v, Rp.rp K Δ H v x → TyX K H v (.type "bool") := fun Δ H v r => by
  have e : v = .bl x := r
  subst e
  exact .base (.bl _)
theorem ty_tup {x : Tup α} : ∀ Δ H v, Rp.rp K Δ H v x → TyX K H v (.type "tuple") := fun Δ H v r => by
  obtain ⟨p, vs, rfl, n, s, q⟩ := r
  rcases n with ⟨_, n | ⟨o, n⟩⟩ | ⟨o, its, m, e, c, _⟩
  · exact .base (.tup n)
  · exact .fTuple n
  · exact .kTuple e c
theorem ty_list {x : List α} : ∀ Δ H v, Rp.rp K Δ H v x → TyX K H v (.type "list") := fun Δ H v r => by
  obtain ⟨p, vs, rfl, n, s, q⟩ := r
  rcases n with ⟨_, n | ⟨o, n⟩⟩ | ⟨o, its, m, e, c, _⟩
  · exact .base (.lst n)
  · exact .base (.frz n)
  · exact .kList e c
theorem ty_non {x : Unit} : ∀ Δ H v, Rp.rp K Δ H v x → TyX K H v (.type "NoneType") := fun Δ H v r => by
  have e : v = .non := r
  subst e
  exact .base .non
/-- x is None, for a datum that is or is not -/
theorem ev_isN {x : α} {b : Bool} (h : Ev K Γ te ρ (Is x)) (hb : ∀ Δ H v, Rp.rp K Δ H v x → decide (v = .non) = b) : Ev K Γ (tOp (fun x y H Q => y = .non ∧ Q (.bl (decide (x = .non))) H) te (tC .non)) ρ (Is b) := fun Δ σ H Q s hh e k =>
  h Δ σ H _ s hh e fun v H' a pa e1 r => ⟨rfl, k _ H' b rfl e1 (by
    have ea : a = x := pa
    subst ea
    show V.bl _ = V.bl _
    rw [hb Δ H' v r])⟩
/-- '0' * n -/
theorem mul_tx (c : Nat) (n : Nat) : PySem.Txt.mul ⟨#[c]⟩ (n : Int) = ⟨(List.replicate n c).toArray⟩ := by
  unfold PySem.Txt.mul
  split
  · rename_i h
    have : n = 0 := by omega
    subst this
    rfl
  · split
    · rename_i h1 h2
      have h3 : n = 1 := by
        simp [Str.length] at h2
        omega
      subst h3
      rfl
    · show (⟨_⟩ : Str) = _
      have key : ∀ (m : Nat) (acc : Array Nat), (List.replicate m (#[c] : Array Nat)).foldl (· ++ ·) acc = acc ++ (List.replicate m c).toArray := by
        intro m
        induction m with
        | zero => intro acc; simp
        | succ m ih =>
          intro acc
          rw [List.replicate_succ, List.foldl_cons, ih, List.replicate_succ]
          apply Array.toList_inj.mp
          simp
      rw [show ((n : Int)).toNat = n from Int.toNat_natCast n, key n #[], Array.empty_append]
theorem o2_mulS {c : Nat} {x : Tx} {n : Nat} (hx : x = ⟨[c]⟩) (hn : n ≤ 10000) : Op2 K rMulS x (n : Int) (Is (⟨List.replicate n c⟩ : Tx)) := fun Δ H v w Q hh r1 r2 k => by
  subst hx
  have e1 : v = .str ⟨#[c]⟩ := r1
  have e2 : w = .int n := r2
  subst e1 e2
  refine ⟨_, _, rfl, rfl, ⟨?_, ?_, ?_⟩, k _ H _ rfl (Ext.refl hh) ?_⟩
  · have h1 : ¬ ((n : Int) < -(2 ^ 63 : Int)) := by omega
    have h2 : ¬ ((n : Int) ≥ 2 ^ 63) := by omega
    rw [decide_eq_false h1, decide_eq_false h2]
    rfl
  · intro h1 _
    have hl : (⟨#[c]⟩ : Str).length = 1 := rfl
    rw [hl]
    have : (1 : Int) ≤ (2 ^ 63 - 1) / (n : Int) := by
      rw [Int.le_ediv_iff_mul_le (by omega)]
      omega
    omega
  · intro h1 _
    have hl : (⟨#[c]⟩ : Str).length = 1 := rfl
    rw [hl]
    exact PyProof.Rows.short24 (by omega)
  · show V.str _ = V.str _
    rw [mul_tx]
theorem o2_addS {x y : Tx} (hz : x.s.length + y.s.length ≤ 100000) : Op2 K (fun x y H Q => ∃ i j, x = .str i ∧ y = .str j ∧ i.length + j.length ≤ sizeLine ∧ Q (.str (i ++ j)) H) x y (Is (⟨x.s ++ y.s⟩ : Tx)) := fun Δ H v w Q hh r1 r2 k => by
  have e1 : v = .str ⟨x.s.toArray⟩ := r1
  have e2 : w = .str ⟨y.s.toArray⟩ := r2
  subst e1 e2
  refine ⟨_, _, rfl, rfl, ?_, k _ H _ rfl (Ext.refl hh) ?_⟩
  · show x.s.toArray.size + y.s.toArray.size ≤ sizeLine
    rw [List.size_toArray, List.size_toArray]
    exact Nat.le_trans hz (by decide)
  · show V.str ⟨x.s.toArray ++ y.s.toArray⟩ = V.str ⟨(x.s ++ y.s).toArray⟩
    simp
end
end Z

set_option Elab.async false
set_option linter.all false
set_option maxRecDepth 100000
set_option maxHeartbeats 1000000
namespace Z
open PySem PySem.Spec PyProof.Rows L2
section
variable {K : PySem.W.Frag} {Γ : Own} {ρ : Env} {ta tb tc te : TE} {t u : TT} {α β γ : Type} [Rp α] [Rp β] [Rp γ] {Pa : α → Prop} {Pb : β → Prop} {Pc : γ → Prop}
theorem src_str {tl : TE} {j : Nat} {x : Tx} {c0 : Nat → Nat} (h : Ev K Γ tl ρ (Is x)) (hx : ∀ i, i < x.s.length → x.s[i]? = some (c0 i)) (hj : j < ρ.length) : Src K Γ (iStr tl) (gName j) ρ [j] x.s.length (fun i ρ => ρ.set j (some ⟨(⟨[c0 i]⟩ : Tx)⟩)) := fun Δ σ H R s hh e k =>
  h Δ σ H _ s hh e fun v H' a pa e1 r => by
    have ea : a = x := pa
    subst ea
    have ev : v = .str ⟨a.s.toArray⟩ := r
    subst ev
    refine ⟨_, rfl, k _ H' .non ⟨()⟩ e1 rfl (fun Δ' H2 _ => ⟨fun i hi => ?_, ?_⟩) fun Δ' i H2 y H3 hi h2 _ yy => ?_⟩
    · show i < a.s.toArray.size
      simpa using hi
    · show a.s.toArray.size ≤ a.s.length
      simp
    · obtain ⟨rfl, c, hc, rfl⟩ := (show H3 = H2 ∧ ∃ c, a.s.toArray[i]? = some c ∧ y = .str ⟨#[c]⟩ from yy)
      have ec2 : c = c0 i := by
        have q1 : a.s[i]? = some c := by simpa using hc
        exact Option.some.inj (q1.symm.trans (hx i hi))
      subst ec2
      exact ⟨Ext.refl h2, fun σ' ρ' Qs hl e' q => q _ (e'.set (c := ⟨(⟨[c0 i]⟩ : Tx)⟩) (by rw [hl]; exact hj) rfl) (set_off (js := [j]) (List.mem_singleton_self j)).1 (set_off (js := [j]) (List.mem_singleton_self j)).2⟩
/-- {'+': '-', '-': '+', '0': '0'}[c] -/
theorem ev_flip {c : Nat} (hc : isSign c = true) (h : Ev K Γ te ρ (Is (⟨[c]⟩ : Tx))) :
    Ev K Γ (tDGet (tDisp [(tC (.str "+"), tC (.str "-")), (tC (.str "-"), tC (.str "+")), (tC (.str "0"), tC (.str "0"))]) te) ρ (Is (⟨[sw c]⟩ : Tx)) := fun Δ σ H Q s hh e k => by
  intro p hp
  have hh1 : Hold Δ (upd H p (.dK [])) := hh.new hp _
  have n : Δ p = none := hh.fresh hp
  refine ⟨upd_same, [(.inr "+", .str "-"), (.inr "-", .str "+"), (.inr "0", .str "0")], rfl, by decide, ?_⟩
  have e2 : Ext Δ H (upd (upd H p (.dK [])) p (.dK (mergeK [] [(.inr "+", .str "-"), (.inr "-", .str "+"), (.inr "0", .str "0")]))) := by
    rw [upd_upd]
    exact Ext.new hh hp _
  refine h Δ σ _ _ s e2.2 (e.mono e2.1) fun v H' a pa e3 r => ?_
  have ea : a = ⟨[c]⟩ := pa
  subst ea
  have ev : v = .str ⟨#[c]⟩ := r
  subst ev
  have hd : H' p = some (.dK (mergeK [] [(.inr "+", .str "-"), (.inr "-", .str "+"), (.inr "0", .str "0")])) := e3.1 p _ n upd_same
  unfold isSign at hc
  simp only [Bool.or_eq_true, beq_iff_eq] at hc
  have hm : mergeK [] ([(.inr "+", .str "-"), (.inr "-", .str "+"), (.inr "0", .str "0")] : List (Key × V)) = [(.inr "+", .str "-"), (.inr "-", .str "+"), (.inr "0", .str "0")] := by decide +kernel
  rw [hm] at hd
  rcases hc with (rfl | rfl) | rfl
  · exact ⟨p, .str "-", rfl, .inl ⟨_, .inr "+", .inl hd, rfl, by decide +kernel⟩, k _ H' _ rfl (e2.trans e3) rfl⟩
  · exact ⟨p, .str "+", rfl, .inl ⟨_, .inr "-", .inl hd, rfl, by decide +kernel⟩, k _ H' _ rfl (e2.trans e3) rfl⟩
  · exact ⟨p, .str "0", rfl, .inl ⟨_, .inr "0", .inl hd, rfl, by decide +kernel⟩, k _ H' _ rfl (e2.trans e3) rfl⟩
/-! ### the dice: three ints, none below 0 -/
def DiceI : HO → Prop := fun o => ∃ x y z : Int, o = .lst [.int x, .int y, .int z] ∧ 0 ≤ x ∧ 0 ≤ y ∧ 0 ≤ z
/-- an item of the dice -/
theorem ev_dice {p : Addr} {i : Nat} (hp : (p, DiceI) ∈ Γ) (hi : i < 3) (h : Ev K Γ ta ρ (Is (⟨p⟩ : Loc))) : Ev K Γ (tOp (rIxL K) ta (tC (.int (i : Int)))) ρ (fun n : Int => 0 ≤ n) := fun Δ σ H Q s hh e k =>
  h Δ σ H _ s hh e fun v H' a pa e1 r => by
    have ea : a = ⟨p⟩ := pa
    subst ea
    have ev : v = .ref p := r
    subst ev
    obtain ⟨o, ho, x, y, z, rfl, h1, h2, h3⟩ := e1.2 p DiceI (s _ hp)
    match i, hi with
    | 0, _ => exact ⟨p, _, 0, .int x, rfl, rfl, .inl (.inl ho), atI_nat (j := 0) rfl, k _ H' x h1 e1 rfl⟩
    | 1, _ => exact ⟨p, _, 1, .int y, rfl, rfl, .inl (.inl ho), atI_nat (j := 1) rfl, k _ H' y h2 e1 rfl⟩
    | 2, _ => exact ⟨p, _, 2, .int z, rfl, rfl, .inl (.inl ho), atI_nat (j := 2) rfl, k _ H' z h3 e1 rfl⟩
end
section
variable {K : PySem.W.Frag} {Δ0 : Gh} {H0 : Hp} {Γ : Own} {F : List (V × Cell)} {ρ : Env} {ta tb te : TE} {tz : TS} {D : Ends} {α : Type} [Rp α]
/-- dice[i] = n -/
theorem wp_dice {p : Addr} {i : Nat} (hp : (p, DiceI) ∈ Γ) (hi : i < 3) (h : Ev K Γ te ρ (fun n : Int => 0 ≤ n)) (ho : Ev K Γ ta ρ (Is (⟨p⟩ : Loc))) (k : Wp K Δ0 H0 Γ F ρ tz D) : Wp K Δ0 H0 Γ F ρ (tSeq (tAsg te (gSub ta (tC (.int (i : Int))) rSetL)) tz) D := fun σ H ⟨Δ, s, hh, e, f, e0, s1, s2⟩ =>
  h Δ σ H _ s hh e fun v H1 n hn e1 r1 => ho Δ σ H1 _ s e1.2 (e.mono e1.1) fun w H2 a pa e2 r2 => by
    have ea : a = ⟨p⟩ := pa
    subst ea
    have ew : w = .ref p := r2
    subst ew
    have ev : v = .int n := r1
    subst ev
    have hΔ : Δ p = some DiceI := s _ hp
    obtain ⟨o, ho, x, y, z, rfl, h1, h2, h3⟩ := e2.2 p DiceI hΔ
    have fin : ∀ x' y' z' : Int, 0 ≤ x' → 0 ≤ y' → 0 ≤ z' → tz D σ (upd H2 p (.lst [.int x', .int y', .int z'])) := fun x' y' z' g1 g2 g3 => by
      have e3 : Ext Δ H2 (upd H2 p (.lst [.int x', .int y', .int z'])) := ⟨fun a o n q => by
          have hne : a ≠ p := fun z => by
            rw [z, hΔ] at n
            cases n
          rw [upd_ne hne]
          exact q, fun a I q => by
          by_cases ha : a = p
          · rw [ha, hΔ] at q
            cases q
            exact ⟨_, by rw [ha]; exact upd_same, x', y', z', rfl, g1, g2, g3⟩
          · obtain ⟨u, hu, iu⟩ := e2.2 a I q
            exact ⟨u, by rw [upd_ne ha]; exact hu, iu⟩⟩
      have e4 := e1.trans (e2.trans e3)
      exact k σ _ ⟨Δ, s, e4.2, e.mono e4.1, fun q hq => q.2.r.mono e4.1 (f q hq), ext0 e0 s1 s2 e4, s1, s2⟩
    match i, hi with
    | 0, _ => exact ⟨p, _, 0, 0, rfl, rfl, ho, rfl, fin n y z hn h2 h3⟩
    | 1, _ => exact ⟨p, _, 1, 1, rfl, rfl, ho, rfl, fin x n z h1 hn h3⟩
    | 2, _ => exact ⟨p, _, 2, 2, rfl, rfl, ho, rfl, fin x y n h1 h2 hn⟩
end
end Z
namespace Z
open PySem PySem.Spec PyProof.Rows L2
theorem ltr {a b : Nat} (h : Nat.blt a b = true) : a < b := Nat.le_of_ble_eq_true h
theorem tx1 {a b : Nat} : ((⟨[a]⟩ : Tx) = ⟨[b]⟩) ↔ a = b := by simp
section
variable {K : PySem.W.Frag} {Γ : Own} {ρ : Env}
theorem ev_strc {x : Str} (l : List Nat) (h : x.cps.toList = l := by decide +kernel) : Ev K Γ (tC (.str x)) ρ (Is (⟨l⟩ : Tx)) := by
  subst h
  exact ev_str
end
end Z
namespace Z
open PySem PySem.Spec PyProof.Rows L2
section
variable {K : PySem.W.Frag} {Δ0 : Gh} {H0 : Hp} {Γ : Own} {F : List (V × Cell)} {ρ : Z.Env} {ta tb te : TE} {D : Ends}
/-- the end of a def that hands back nothing -/
theorem wp_none {P : Unit → Prop} (hp : P ()) (hn : ∀ b : Unit, P b → (∀ H', Rp.rp K Δ0 H' .non b) → ∀ σ H', Ext Δ0 H0 H' → D.nx σ H') : Wp K Δ0 H0 Γ F ρ tNext D := fun σ H ⟨Δ, s, hh, e, f, e0, s1, s2⟩ => hn () hp (fun _ => rfl) σ H e0
theorem ev_stripEq {x : Tx} {z : Str} (hz0 : z = "+-0" := by rfl) {y : Str} (hy : y.cps.toList = [] := by decide +kernel) (h : Ev K Γ ta ρ (Is x)) (hz : x.s.length ≤ 100000) :
    Ev K Γ (tOp rEq (tM1 (fun x xs H Q => ∃ a b, x = .str a ∧ xs = [.str b] ∧ a.length ≤ sizeLine ∧ Q (.str (PySem.Txt.stripChars a b)) H) ta (tC (.str z))) (tC (.str y))) ρ (Is (x.s.all isSign)) :=
  ev_op (ev_strip hz0 h hz) (ev_strc [] hy) fun a b pa pb => by
    rw [show b = _ from pb]
    have e : decide (a = (⟨[]⟩ : Tx)) = x.s.all isSign := by
      have q : (a = (⟨[]⟩ : Tx)) ↔ x.s.all isSign = true := by
        rw [← pa]
        constructor
        · intro q; rw [q]
        · intro q; cases a; exact congrArg Tx.mk q
      by_cases hq : x.s.all isSign = true
      · rw [hq, decide_eq_true (q.mpr hq)]
      · rw [decide_eq_false (fun z => hq (q.mp z))]
        simpa using hq
    rw [← e]
    exact o2_eqS
/-- a def's answer by its default arguments -/
theorem dv_non : ∀ Δ H, ArgsOk K Δ H [V.non] [⟨()⟩] := fun _ _ => ⟨rfl, trivial⟩
end
end Z

set_option Elab.async false
set_option linter.all false
set_option maxRecDepth 100000
set_option maxHeartbeats 1000000
/-! the same rules with the written part as a letter, for blocks -/
namespace Z
open PySem PySem.Spec PyProof.Rows L2
section
variable {X : Cx} {K : PySem.W.Frag}
theorem op_inK (h : X.K = K := by rfl) : OpR X (compareOp .In) (rIn K false) := by subst h; exact op_in_seq
theorem op_notInK (h : X.K = K := by rfl) : OpR X (compareOp .NotIn) (rIn K true) := by subst h; exact op_notIn_seq
theorem ix_listK (h : X.K = K := by rfl) : IxR X (rIxL K) := by subst h; exact ix_list
theorem ix_tupK (h : X.K = K := by rfl) : IxR X (rIxT K) := by subst h; exact ix_tup
theorem call_lenK (h : X.K = K := by rfl) : CallR X (.builtin "len") (fun xs H Q => ∃ x n, xs = [x] ∧ LenV K x H n ∧ Q (.int n) H) := by subst h; exact call_len
theorem call_isK (h : X.K = K := by rfl) : CallR X (.builtin "isinstance") (rIsi K) := by subst h; exact call_isi
theorem call_tupK (h : X.K = K := by rfl) : CallR X (.type "tuple") (fun xs H Q => ∃ p ys, xs = [.ref p] ∧ ((SqL K H p ys ∧ ∀ l, H l = none → Q (.ref l) (upd H l (.tup ys))) ∨ (SqT K H p ys ∧ Q (.ref p) H))) := by subst h; exact call_tuple_of
theorem call_lstK (h : X.K = K := by rfl) : CallR X (.type "list") (fun xs H Q => ∃ p ys, xs = [.ref p] ∧ (SqL K H p ys ∨ SqT K H p ys) ∧ ∀ l, H l = none → Q (.ref l) (upd H l (.lst ys))) := by subst h; exact call_list_of
theorem cr_allK (hc : X.calm = true) (h : X.K = K := by rfl) : CallR X (.builtin "all") (rAll K) := by subst h; exact cr_all hc
theorem op_eqK (hu : X.A.units + 64 < cLine) (h : X.K = K := by rfl) : OpR X (compareOp .Eq) (rEqD K) := by subst h; exact op_eqD hu
theorem op_neK (hu : X.A.units + 64 < cLine) (h : X.K = K := by rfl) : OpR X (compareOp .NotEq) (rNeD K) := by subst h; exact op_neD hu
variable {o e : Expr} {to te : TE} {tg : Expr}
theorem pe_joinK {apos pos : Pos} (ho : PE X o to) (he : PE X e te) (h : X.K = K := by rfl) (hs : starEach [e] X.env = [(false, eval e X.env)] := by rfl) (hbase : attributeBase o "join" X.env (eval o X.env) = eval o X.env := by rfl) (hline : (apos.endLine == pos.line) = true := by rfl) :
    PE X (.Call (.Attribute o "join" apos) [e] [] pos) (tM1 (rJoin K) to te) := by subst h; exact pe_join ho he hs hbase hline
theorem pi_listK {l : Expr} {tl : TE} (hl : PE X l tl) (h : X.K = K := by rfl) : PI X tg l (iList K tl) := by subst h; exact pi_list hl
theorem pi_tupK {l : Expr} {tl : TE} (hl : PE X l tl) (h : X.K = K := by rfl) : PI X tg l (iTup K tl) := by subst h; exact pi_tup hl
end
end Z

set_option Elab.async false
set_option linter.all false
set_option maxRecDepth 100000
set_option maxHeartbeats 1000000
/-! lists of a def's own that it changes -/
namespace Z
open PySem PySem.Spec PyProof.Rows L2
section
variable {K : PySem.W.Frag} {Δ0 : Gh} {H0 : Hp} {Γ : Own} {F : List (V × Cell)} {ρ : Z.Env} {ta tb te : TE} {tz : TS} {D : Ends}
structure OwnP (Δ0 : Gh) (Γ : Own) (p : Addr) : Prop where
  n0 : Δ0 p = none
  ne : ∀ q ∈ Γ, q.1 ≠ p
theorem ghD_self {Δ : Gh} {D : Addr} {vs : List V} : ghD Δ D vs D = some (LstIs vs) := by
  show (if D = D then _ else _) = _
  rw [if_pos rfl]
  rfl
theorem ghD_other {Δ : Gh} {D x : Addr} {vs : List V} (h : x ≠ D) : ghD Δ D vs x = Δ x := by
  show (if x = D then _ else _) = _
  rw [if_neg h]
theorem own_new {Δ : Gh} {σ : L2.St} {H : Hp} {p : Addr} {vs : List V} (s : Sat Γ Δ) (hh : Hold Δ H) (e : EnvOk K Δ σ H ρ) (f : ∀ f ∈ F, f.2.rp K Δ H f.1) (e0 : Ext Δ0 H0 H) (s1 : ∀ x I, Δ0 x = some I → Δ x = some I) (s2 : ∀ x, Δ0 x = none → Δ x ≠ none → H0 x = none) (hp : H p = none) :
    OwnP Δ0 Γ p ∧ Stt K Δ0 H0 ((p, LstIs vs) :: Γ) F ρ σ (upd H p (.lst vs)) := by
  have nD : Δ p = none := hh.fresh hp
  have n0 : Δ0 p = none := none0 s1 nD
  have ne : ∀ q ∈ Γ, q.1 ≠ p := fun q hq z => by
    have h := s q hq
    rw [z, nD] at h
    cases h
  have kp : Keep (ghD Δ p vs) H (upd H p (.lst vs)) := fun a o _ q => by rw [upd_ne (ne_of_none q hp)]; exact q
  refine ⟨⟨n0, ne⟩, ghD Δ p vs, fun q hq => ?_, (gh_first hh hp).1, (e.weak (ghD_new hp)).mono kp, fun q hq => q.2.r.mono kp (q.2.r.weak (ghD_new hp) (f q hq)), ext0 e0 s1 s2 (Ext.new hh hp _), fun x I q => ?_, fun x n m => ?_⟩
  · rcases List.mem_cons.mp hq with z | z
    · rw [z]; exact ghD_self
    · rw [ghD_other (ne q z)]; exact s q z
  · have hne : x ≠ p := fun z => by
      rw [z, n0] at q
      cases q
    rw [ghD_other hne]
    exact s1 x I q
  · by_cases hx : x = p
    · subst hx
      cases q : H0 x with
      | none => rfl
      | some o =>
        have := e0.1 x o n0 q
        rw [hp] at this
        cases this
    · rw [ghD_other hx] at m
      exact s2 x n m
theorem own_put {σ : L2.St} {H : Hp} {p : Addr} {vs ws : List V} (o : OwnP Δ0 Γ p) (st : Stt K Δ0 H0 ((p, LstIs vs) :: Γ) F ρ σ H) : H p = some (.lst vs) ∧ Stt K Δ0 H0 ((p, LstIs ws) :: Γ) F ρ σ (upd H p (.lst ws)) := by
  obtain ⟨Δ, s, hh, e, f, e0, s1, s2⟩ := st
  have hΔ : Δ p = some (LstIs vs) := s (p, LstIs vs) List.mem_cons_self
  obtain ⟨u, hu, iu⟩ := hh p _ hΔ
  have iu' : u = HO.lst vs := iu
  subst iu'
  have kp : Keep Δ H (upd H p (.lst ws)) := fun a o n q => by
    have hne : a ≠ p := fun z => by
      rw [z, hΔ] at n
      cases n
    rw [upd_ne hne]
    exact q
  have wk : ∀ {H : Hp} x o, H x = some o → Δ x = none → ghD Δ p ws x = none := fun x o _ n => by
    have hne : x ≠ p := fun z => by
      rw [z, hΔ] at n
      cases n
    rw [ghD_other hne]
    exact n
  refine ⟨hu, ghD Δ p ws, fun q hq => ?_, fun a I q => ?_, (e.mono kp).weak wk, fun q hq => q.2.r.weak wk (q.2.r.mono kp (f q hq)), ⟨fun a o' n q => ?_, fun a I q => ?_⟩, fun x I q => ?_, fun x n m => ?_⟩
  · rcases List.mem_cons.mp hq with z | z
    · rw [z]; exact ghD_self
    · rw [ghD_other (o.ne q z)]; exact s q (List.mem_cons_of_mem _ z)
  · by_cases ha : a = p
    · subst ha
      rw [ghD_self] at q
      cases q
      exact ⟨_, upd_same, rfl⟩
    · rw [ghD_other ha] at q
      obtain ⟨u, hu, iu⟩ := hh a I q
      exact ⟨u, by rw [upd_ne ha]; exact hu, iu⟩
  · have h1 := e0.1 a o' n q
    have hne : a ≠ p := fun z => by
      subst z
      have := s2 a n (by rw [hΔ]; exact fun z => by cases z)
      rw [q] at this
      cases this
    rw [upd_ne hne]
    exact h1
  · have hne : a ≠ p := fun z => by
      rw [z, o.n0] at q
      cases q
    obtain ⟨u, hu, iu⟩ := e0.2 a I q
    exact ⟨u, by rw [upd_ne hne]; exact hu, iu⟩
  · have hne : x ≠ p := fun z => by
      rw [z, o.n0] at q
      cases q
    rw [ghD_other hne]
    exact s1 x I q
  · by_cases hx : x = p
    · subst hx
      exact s2 x n (by rw [hΔ]; exact fun z => by cases z)
    · rw [ghD_other hx] at m
      exact s2 x n m
theorem rep_flat {α : Type} {x : α} : ∀ m : Nat, (List.replicate m [x]).flatten = List.replicate m x
  | 0 => rfl
  | m + 1 => by
    rw [List.replicate_succ, List.flatten_cons, List.replicate_succ, rep_flat m]
    rfl
/-- name = [one text] * n -/
theorem wp_rep {i : Nat} {z : Str} {m : Nat} (hb : Ev K Γ tb ρ (Is (m : Int))) (hm : m ≤ 10000) (hi : i < ρ.length) (k : ∀ p, OwnP Δ0 Γ p → Wp K Δ0 H0 ((p, LstIs (List.replicate m (V.str z))) :: Γ) F (ρ.set i (some ⟨(⟨p⟩ : Loc)⟩)) tz D) :
    Wp K Δ0 H0 Γ F ρ (tSeq (tAsg (tOp rRep (tLst (tCons (tC (.str z)) tNil)) tb) (gName i)) tz) D := fun σ H ⟨Δ, s, hh, e, f, e0, s1, s2⟩ => by
  refine ⟨by show 1 ≤ sizeLine; decide, fun q hq => ?_⟩
  have e1 : Ext Δ H (upd H q (.lst [.str z])) := Ext.new hh hq _
  refine hb Δ σ _ _ s e1.2 (e.mono e1.1) fun v H2 a pa e2 r => ?_
  have ea : a = (m : Int) := pa
  subst ea
  have ev : v = .int m := r
  subst ev
  have hq2 : H2 q = some (.lst [.str z]) := e2.1 q _ (hh.fresh hq) upd_same
  refine ⟨q, m, _, rfl, rfl, hq2, by omega, by omega, ?_, fun p hp => ?_⟩
  · have h1 : ([V.str z] : List V).length * ((m : Int)).toNat = m := by rw [Int.toNat_natCast]; show 1 * m = m; omega
    rw [h1]
    exact Nat.le_trans hm (by decide)
  · have hf : (List.replicate ((m : Int)).toNat [V.str z]).flatten = List.replicate m (V.str z) := by rw [Int.toNat_natCast, rep_flat]
    rw [hf]
    have e3 := e1.trans e2
    obtain ⟨o, st⟩ := own_new (vs := List.replicate m (V.str z)) s e3.2 (e.mono e3.1) (fun q hq => q.2.r.mono e3.1 (f q hq)) (ext0 e0 s1 s2 e3) s1 s2 hp
    obtain ⟨Δ', s', hh', e', f', e0', s1', s2'⟩ := st
    exact k p o _ _ ⟨Δ', s', hh', e'.set (c := ⟨(⟨p⟩ : Loc)⟩) hi rfl, f', e0', s1', s2'⟩
/-- name[j] = e, the list one's own -/
theorem wp_put {p : Addr} {vs : List V} {j : Nat} {x : Tx} (o : OwnP Δ0 Γ p) (h : Ev K ((p, LstIs vs) :: Γ) te ρ (Is x)) (ha : Ev K ((p, LstIs vs) :: Γ) ta ρ (Is (⟨p⟩ : Loc))) (hb : Ev K ((p, LstIs vs) :: Γ) tb ρ (Is (j : Int))) (hj : j < vs.length)
    (k : Wp K Δ0 H0 ((p, LstIs (vs.set j (.str ⟨x.s.toArray⟩))) :: Γ) F ρ tNext D) : Wp K Δ0 H0 ((p, LstIs vs) :: Γ) F ρ (tAsg te (gSub ta tb rSetL)) D := fun σ H ⟨Δ, s, hh, e, f, e0, s1, s2⟩ =>
  h Δ σ H _ s hh e fun v H1 a pa e1 r1 => ha Δ σ H1 _ s e1.2 (e.mono e1.1) fun w H2 b pb e2 r2 => hb Δ σ H2 _ s e2.2 (e.mono (e1.trans e2).1) fun u H3 c pc e3 r3 => by
    have ea : a = x := pa
    have eb : b = ⟨p⟩ := pb
    have ec : c = (j : Int) := pc
    subst ea eb ec
    have ev : v = .str ⟨a.s.toArray⟩ := r1
    have ew : w = .ref p := r2
    have eu : u = .int j := r3
    subst ev ew eu
    have e4 := e1.trans (e2.trans e3)
    have st : Stt K Δ0 H0 ((p, LstIs vs) :: Γ) F ρ σ H3 := ⟨Δ, s, e4.2, e.mono e4.1, fun q hq => q.2.r.mono e4.1 (f q hq), ext0 e0 s1 s2 e4, s1, s2⟩
    obtain ⟨hp, st'⟩ := own_put (ws := vs.set j (.str ⟨a.s.toArray⟩)) o st
    exact ⟨p, vs, j, j, rfl, rfl, hp, Evl.ixN_nat hj, k σ _ st'⟩
/-- "".join of one's own list -/
theorem ev_joinO {p : Addr} {xs : List Tx} {z : Str} (ha : Ev K ((p, LstIs ((xs.map fun x => (⟨x.s.toArray⟩ : Str)).map V.str)) :: Γ) ta ρ (Is (⟨p⟩ : Loc))) (hz : ((xs.map (·.s)).flatten).length ≤ 100000) (hz0 : z = "" := by rfl) :
    Ev K ((p, LstIs ((xs.map fun x => (⟨x.s.toArray⟩ : Str)).map V.str)) :: Γ) (tM1 (rJoin K) (tC (.str z)) ta) ρ (Is (⟨(xs.map (·.s)).flatten⟩ : Tx)) := by
  subst hz0
  exact fun Δ σ H Q s hh e k => ⟨⟨_, rfl⟩, ha Δ σ H _ s hh e fun v H' a pa e1 r => by
    have ea : a = ⟨p⟩ := pa
    subst ea
    have ev : v = .ref p := r
    subst ev
    obtain ⟨u, hu, iu⟩ := e1.2 p _ (s _ List.mem_cons_self)
    have iu' : u = HO.lst _ := iu
    subst iu'
    refine ⟨Str.empty, p, _, rfl, rfl, .inl (.inl (.inl hu)), ?_, k _ H' _ rfl e1 (by show V.str _ = V.str _; rw [join_tx])⟩
    rw [sum_len]
    have e0 : Str.empty.length = 0 := rfl
    rw [e0]
    omega⟩
end
end Z

set_option Elab.async false
set_option linter.all false
set_option maxRecDepth 100000
set_option maxHeartbeats 1000000
/-! == of data, further statements -/
namespace Z
open PySem PySem.Spec PyProof.Rows L2
section
variable {α β : Type} [Rp α] [Rp β]
instance : Rp (α ⊕ β) where
  rp K Δ H v x := match x with
    | .inl a => Rp.rp K Δ H v a
    | .inr b => Rp.rp K Δ H v b
  mono {K Δ H H' v x} k h := match x, h with
    | .inl a, h => Rp.mono (a := a) k h
    | .inr b, h => Rp.mono (a := b) k h
  weak {K Δ Δ' H v x} w h := match x, h with
    | .inl a, h => Rp.weak (a := a) w h
    | .inr b, h => Rp.weak (a := b) w h
/-- a datum as the library tells it -/
class Dt (α : Type) [Rp α] where
  d : α → PyData
  ok : ∀ {K : PySem.W.Frag} {Δ : Gh} {H : Hp} {v : V} {a : α}, Rp.rp K Δ H v a → Dp K H v (d a)
instance : Dt Int := ⟨fun i => .int i, fun {K Δ H v a} h => by rw [show v = .int a from h]; exact .int a⟩
instance : Dt Bool := ⟨fun i => .bool i, fun {K Δ H v a} h => by rw [show v = .bl a from h]; exact .bl a⟩
instance : Dt Tx := ⟨fun x => .str ⟨x.s.toArray⟩, fun {K Δ H v a} h => by rw [show v = .str ⟨a.s.toArray⟩ from h]; exact .str _⟩
instance : Dt Unit := ⟨fun _ => .none, fun {K Δ H v a} h => by rw [show v = .non from h]; exact .non⟩
theorem dall {K : PySem.W.Frag} {Δ : Gh} {H : Hp} [Dt α] : ∀ {vs : List V} {xs : List α}, All2 (fun u a => Rp.rp K Δ H u a) vs xs → DpAll K H vs (xs.map Dt.d)
  | [], [], _ => .nil
  | [], _ :: _, q => q.elim
  | _ :: _, [], q => q.elim
  | v :: vs, x :: xs, q => .cons (Dt.ok q.1) (dall q.2)
instance [Dt α] : Dt (List α) := ⟨fun xs => .list (xs.map Dt.d), fun {K Δ H v a} h => by
  obtain ⟨p, vs, rfl, n, s, q⟩ := h
  exact .lst s (dall q)⟩
instance [Dt α] : Dt (Tup α) := ⟨fun xs => .tuple (xs.l.map Dt.d), fun {K Δ H v a} h => by
  obtain ⟨p, vs, rfl, n, s, q⟩ := h
  exact .tup s (dall q)⟩
instance [Dt α] [Dt β] : Dt (α × β) := ⟨fun x => .tuple [Dt.d x.1, Dt.d x.2], fun {K Δ H v a} h => by
  obtain ⟨p, a, b, rfl, n, s, q, r⟩ := h
  exact .tup s (.cons (Dt.ok q) (.cons (Dt.ok r) .nil))⟩
instance [Dt α] [Dt β] : Dt (α ⊕ β) := ⟨fun x => match x with
  | .inl a => Dt.d a
  | .inr b => Dt.d b, fun {K Δ H v x} h => match x, h with
  | .inl a, h => Dt.ok (a := a) h
  | .inr b, h => Dt.ok (a := b) h⟩
variable {K : PySem.W.Frag} {Γ : Own} {ρ : Z.Env} {ta tb te : TE}
theorem o2_eqD [Dt α] [Dt β] {x : α} {y : β} (hx : SeqAt.shaped (Dt.d x) = true) (hy : SeqAt.shaped (Dt.d y) = true) : Op2 K (rEqD K) x y (Is (PyData.eqv (Dt.d x) (Dt.d y))) := fun Δ H v w Q hh r1 r2 k =>
  ⟨_, _, Dt.ok r1, Dt.ok r2, hx, hy, k _ H _ rfl (Ext.refl hh) rfl⟩
theorem o2_neD [Dt α] [Dt β] {x : α} {y : β} (hx : SeqAt.shaped (Dt.d x) = true) (hy : SeqAt.shaped (Dt.d y) = true) : Op2 K (rNeD K) x y (Is (!PyData.eqv (Dt.d x) (Dt.d y))) := fun Δ H v w Q hh r1 r2 k =>
  ⟨_, _, Dt.ok r1, Dt.ok r2, hx, hy, k _ H _ rfl (Ext.refl hh) rfl⟩
theorem eqv_ints : ∀ xs ys : List Int, PyData.eqvAll (xs.map Dt.d) (ys.map Dt.d) = decide (xs = ys)
  | [], [] => by simp [PyData.eqvAll]
  | [], _ :: _ => by simp [PyData.eqvAll]
  | _ :: _, [] => by simp [PyData.eqvAll]
  | x :: xs, y :: ys => by
    have ih := eqv_ints xs ys
    rw [List.map_cons, List.map_cons, PyData.eqvAll, ih]
    show ((x == y) && _) = _
    by_cases h : x = y <;> simp [h]
theorem eqv_bls : ∀ xs ys : List Bool, PyData.eqvAll (xs.map Dt.d) (ys.map Dt.d) = decide (xs = ys)
  | [], [] => by simp [PyData.eqvAll]
  | [], _ :: _ => by simp [PyData.eqvAll]
  | _ :: _, [] => by simp [PyData.eqvAll]
  | x :: xs, y :: ys => by
    have ih := eqv_bls xs ys
    rw [List.map_cons, List.map_cons, PyData.eqvAll, ih]
    show ((x == y) && _) = _
    by_cases h : x = y <;> simp [h]
theorem lay_ints : ∀ xs : List Int, PyData.canLayAll0 (xs.map Dt.d) = true ∧ PyData.depthAll (xs.map Dt.d) = 0
  | [] => by simp [PyData.canLayAll0, PyData.depthAll]
  | x :: xs => by
    have ih := lay_ints xs
    rw [List.map_cons, PyData.canLayAll0, PyData.depthAll, ih.1, ih.2]
    exact ⟨rfl, rfl⟩
theorem lay_bls : ∀ xs : List Bool, PyData.canLayAll0 (xs.map Dt.d) = true ∧ PyData.depthAll (xs.map Dt.d) = 0
  | [] => by simp [PyData.canLayAll0, PyData.depthAll]
  | x :: xs => by
    have ih := lay_bls xs
    rw [List.map_cons, PyData.canLayAll0, PyData.depthAll, ih.1, ih.2]
    exact ⟨rfl, rfl⟩
theorem shaped_tI {xs : Tup Int} : SeqAt.shaped (Dt.d xs) = true := by
  unfold SeqAt.shaped
  show (PyData.canLay0 (.tuple _) && decide (PyData.depth (.tuple _) ≤ 64)) = true
  rw [PyData.canLay0, PyData.depth, (lay_ints xs.l).1, (lay_ints xs.l).2]
  rfl
theorem shaped_lI {xs : List Int} : SeqAt.shaped (Dt.d xs) = true := by
  unfold SeqAt.shaped
  show (PyData.canLay0 (.list _) && decide (PyData.depth (.list _) ≤ 64)) = true
  rw [PyData.canLay0, PyData.depth, (lay_ints xs).1, (lay_ints xs).2]
  rfl
theorem shaped_lB {xs : List Bool} : SeqAt.shaped (Dt.d xs) = true := by
  unfold SeqAt.shaped
  show (PyData.canLay0 (.list _) && decide (PyData.depth (.list _) ≤ 64)) = true
  rw [PyData.canLay0, PyData.depth, (lay_bls xs).1, (lay_bls xs).2]
  rfl
theorem o2_eqT {x y : Tup Int} : Op2 K (rEqD K) x y (Is (decide (x.l = y.l))) := by
  rw [← eqv_ints x.l y.l]
  exact o2_eqD shaped_tI shaped_tI
theorem o2_neT {x y : Tup Int} : Op2 K (rNeD K) x y (Is (!decide (x.l = y.l))) := by
  rw [← eqv_ints x.l y.l]
  exact o2_neD shaped_tI shaped_tI
theorem o2_eqLI {x y : List Int} : Op2 K (rEqD K) x y (Is (decide (x = y))) := by
  rw [← eqv_ints x y]
  exact o2_eqD shaped_lI shaped_lI
theorem o2_eqLB {x y : List Bool} : Op2 K (rEqD K) x y (Is (decide (x = y))) := by
  rw [← eqv_bls x y]
  exact o2_eqD shaped_lB shaped_lB
theorem ev_inl {x : α} (h : Ev K Γ te ρ (Is x)) : Ev K Γ te ρ (Is (.inl x : α ⊕ β)) := fun Δ σ H Q s hh e k => h Δ σ H Q s hh e fun v H' a pa e1 r => k v H' (.inl a) (by rw [show a = x from pa]; rfl) e1 r
theorem ev_inr {x : β} (h : Ev K Γ te ρ (Is x)) : Ev K Γ te ρ (Is (.inr x : α ⊕ β)) := fun Δ σ H Q s hh e k => h Δ σ H Q s hh e fun v H' a pa e1 r => k v H' (.inr a) (by rw [show a = x from pa]; rfl) e1 r
/-- an operation on drawn data -/
theorem ev_opP {γ : Type} [Rp γ] {r : R2} {Pa : α → Prop} {Pb : β → Prop} {Pc : γ → Prop} (ha : Ev K Γ ta ρ Pa) (hb : Ev K Γ tb ρ Pb) (h : ∀ x y, Pa x → Pb y → ∃ z, Op2 K r x y (Is z) ∧ Pc z) : Ev K Γ (tOp r ta tb) ρ Pc :=
  ev_op ha hb fun x y px py => by
    obtain ⟨z, hz, pz⟩ := h x y px py
    exact fun Δ H v w Q hh r1 r2 k => hz Δ H v w Q hh r1 r2 fun u H' c pc e1 rr => k u H' c (by rw [show c = z from pc]; exact pz) e1 rr
theorem ev_cbP {γ : Type} [Rp γ] {r : List V → Hp → VK → Prop} {Pa : α → Prop} {Pc : γ → Prop} (ha : Ev K Γ ta ρ Pa) (h : ∀ x, Pa x → ∃ z, Op1 K r x (Is z) ∧ Pc z) : Ev K Γ (tCB r (tCons ta tNil)) ρ Pc :=
  ev_cb1 ha fun x px => by
    obtain ⟨z, hz, pz⟩ := h x px
    exact fun Δ H v Q hh r1 k => hz Δ H v Q hh r1 fun u H' c pc e1 rr => k u H' c (by rw [show c = z from pc]; exact pz) e1 rr
theorem et_eqP {Pa : Int → Prop} {n : Int} {tb : TE} (ha : Ev K Γ ta ρ Pa) (hb : Ev K Γ tb ρ (Is n)) : EvT K Γ (tTest (tOp rEq ta tb)) ρ (fun _ => True) := et_test (ev_opP ha hb fun x y _ _ => ⟨decide (x = y), o2_eqI, trivial⟩)
/-- max(0, x) -/
theorem ev_max2 {i j : Int} (ha : Ev K Γ ta ρ (Is i)) (hb : Ev K Γ tb ρ (Is j)) : Ev K Γ (tCB (fun xs H Q => ∃ i j, xs = [.int i, .int j] ∧ Q (.int (if j > i then j else i)) H) (tCons ta (tCons tb tNil))) ρ (Is (if j > i then j else i)) := fun Δ σ H Q s hh e k =>
  ha Δ σ H _ s hh e fun v H1 a pa e1 r1 => hb Δ σ H1 _ s e1.2 (e.mono e1.1) fun w H2 b pb e2 r2 => by
    have ea : a = i := pa
    have eb : b = j := pb
    subst ea eb
    have ev : v = .int a := r1
    have ew : w = .int b := r2
    subst ev ew
    exact ⟨a, b, rfl, k _ H2 _ rfl (e1.trans e2) rfl⟩
theorem ev_min2 {i j : Int} (ha : Ev K Γ ta ρ (Is i)) (hb : Ev K Γ tb ρ (Is j)) : Ev K Γ (tCB (fun xs H Q => ∃ i j, xs = [.int i, .int j] ∧ Q (.int (if j < i then j else i)) H) (tCons ta (tCons tb tNil))) ρ (Is (if j < i then j else i)) := fun Δ σ H Q s hh e k =>
  ha Δ σ H _ s hh e fun v H1 a pa e1 r1 => hb Δ σ H1 _ s e1.2 (e.mono e1.1) fun w H2 b pb e2 r2 => by
    have ea : a = i := pa
    have eb : b = j := pb
    subst ea eb
    have ev : v = .int a := r1
    have ew : w = .int b := r2
    subst ev ew
    exact ⟨a, b, rfl, k _ H2 _ rfl (e1.trans e2) rfl⟩
end
section
variable {K : PySem.W.Frag} {Δ0 : Gh} {H0 : Hp} {Γ : Own} {F : List (V × Cell)} {ρ : Z.Env} {ta tb te : TE} {tz : TS} {D : Ends} {α : Type} [Rp α]
/-- a, b, c = a list of three -/
theorem wp_unl3 {i j l : Nat} {P : List α → Prop} (h : Ev K Γ te ρ P) (hi : i < ρ.length) (hj : j < ρ.length) (hl : l < ρ.length) (k : ∀ xs, P xs → ∃ a b c, xs = [a, b, c] ∧ Wp K Δ0 H0 Γ F (((ρ.set i (some ⟨a⟩)).set j (some ⟨b⟩)).set l (some ⟨c⟩)) tz D) :
    Wp K Δ0 H0 Γ F ρ (tSeq (tAsg te (gUnl K 3 (gCons (gName i) (gCons (gName j) (gCons (gName l) gNil))))) tz) D := fun σ H ⟨Δ, s, hh, e, f, e0, s1, s2⟩ =>
  h Δ σ H _ s hh e fun v H' xs pxs e1 r => by
    obtain ⟨a, b, c, rfl, kk⟩ := k xs pxs
    obtain ⟨p, vs, rfl, n, sq, q⟩ := r
    match vs, q with
    | [va, vb, vc], q =>
      exact ⟨p, _, rfl, sq, rfl, va, [vb, vc], rfl, vb, [vc], rfl, vc, [], rfl, rfl, kk _ H' ⟨Δ, s, e1.2, (((e.mono e1.1).set (c := ⟨a⟩) hi q.1).set (c := ⟨b⟩) (by rw [List.length_set]; exact hj) q.2.1).set (c := ⟨c⟩) (by rw [List.length_set, List.length_set]; exact hl) q.2.2.1, fun q hq => q.2.r.mono e1.1 (f q hq), ext0 e0 s1 s2 e1, s1, s2⟩⟩
end
end Z

set_option Elab.async false
set_option linter.all false
set_option maxRecDepth 100000
set_option maxHeartbeats 1000000
namespace Z
open PySem PySem.Spec PyProof.Rows L2
section
variable {K : PySem.W.Frag} {Δ0 : Gh} {H0 : Hp} {Γ : Own} {F : List (V × Cell)} {ρ : Z.Env} {ta tb te : TE} {tz : TS} {D : Ends}
/-- i, j = a, b with the pair made -/
theorem wp_tup2 {i j : Nat} {ta : TA} {Q : List Cell → Prop} (h : EvA K Γ ta ρ Q) (hi : i < ρ.length) (hj : j < ρ.length) (k : ∀ cs, Q cs → ∃ c d : Cell, cs = [c, d] ∧ Wp K Δ0 H0 Γ F ((ρ.set i (some c)).set j (some d)) tz D) : Wp K Δ0 H0 Γ F ρ (tSeq (tAsg (tTup ta) (gTup K 2 (gCons (gName i) (gCons (gName j) gNil)))) tz) D := fun σ H ⟨Δ, s, hh, e, f, e0, s1, s2⟩ =>
  h Δ σ H _ s hh e fun vs H' cs pcs e1 r => by
    obtain ⟨c, d, rfl, kk⟩ := k cs pcs
    match vs, r with
    | [v, w], r =>
      refine ⟨by show 2 ≤ sizeLine; decide, fun p hp => ?_⟩
      have e2 := Ext.new e1.2 hp (.tup [v, w])
      have e3 := e1.trans e2
      exact ⟨p, [v, w], rfl, .inl (.inl upd_same), rfl, v, [w], rfl, w, [], rfl, rfl, kk _ _ ⟨Δ, s, e3.2, ((e.mono e3.1).set hi (c.r.mono e2.1 r.1)).set (by rw [List.length_set]; exact hj) (d.r.mono e2.1 r.2.1), fun q hq => q.2.r.mono e3.1 (f q hq), ext0 e0 s1 s2 e3, s1, s2⟩⟩
theorem ev_callW {β : Type} [Rp β] {Pb : β → Prop} {F : Own → List Cell → (β → Prop) → Prop} {E : XK} {ta : TA} {Pcs : List Cell → Prop} (ha : EvA K Γ ta ρ Pcs) (hf : ∀ cs, Pcs cs → ∃ R, F Γ cs R ∧ ∀ b, R b → Pb b) : Ev K Γ (tCall (spD K F) [] E ta) ρ Pb := fun Δ σ H Q s hh e k =>
  ha Δ σ H _ s hh e fun vs H' cs pcs e1 r => by
    obtain ⟨R, h1, h2⟩ := hf cs pcs
    exact ⟨Γ, Δ, cs, R, h1, s, e1.2, by rw [List.append_nil]; exact r, fun v H2 b pb e2 r2 => k v H2 b (h2 b pb) (e1.trans e2) r2⟩
end
end Z

set_option Elab.async false
set_option linter.all false
set_option maxRecDepth 100000
set_option maxHeartbeats 1000000
namespace Z
open PySem PySem.Spec PyProof.Rows L2
/-! ### a def that hands back a new object, which its caller then owns -/
/-- what such a def promises -/
def spF (K : PySem.W.Frag) (G : Own → List Cell → Prop) (I : HO → Prop) : Sp := fun vs H Q _ => ∃ (Γ : Own) (Δ : Gh) (cs : List Cell), G Γ cs ∧ Sat Γ Δ ∧ Hold Δ H ∧ ArgsOk K Δ H vs cs ∧
  ∀ (p : Addr) (H' : Hp) (o : HO), I o → H p = none → Δ p = none → Ext Δ H H' → H' p = some o → Q (.ref p) H'
def ghI (Δ : Gh) (D : Addr) (I : HO → Prop) : Gh := fun a => if a = D then some I else Δ a
section
variable {K : PySem.W.Frag} {Γ : Own} {ρ : Z.Env} {ta : TA} {β : Type} [Rp β]
theorem ghI_self {Δ : Gh} {D : Addr} {I : HO → Prop} : ghI Δ D I D = some I := by
  unfold ghI
  exact if_pos rfl
theorem ghI_other {Δ : Gh} {D x : Addr} {I : HO → Prop} (h : x ≠ D) : ghI Δ D I x = Δ x := by
  unfold ghI
  exact if_neg h
/-- f(g(..)) where g hands back a new object -/
theorem ev_callF {Pb : β → Prop} {G : Own → List Cell → Prop} {I : HO → Prop} {F : Own → List Cell → (β → Prop) → Prop} {E E' : XK} {cs : List Cell} (ha : EvA K Γ ta ρ (Is cs)) (hg : G Γ cs) (hf : ∀ p, F ((p, I) :: Γ) [⟨(⟨p⟩ : Loc)⟩] Pb) :
    Ev K Γ (tCall (spD K F) [] E (tCons (tCall (spF K G I) [] E' ta) tNil)) ρ Pb := fun Δ σ H Q s hh e k =>
  ha Δ σ H _ s hh e fun vs H1 cs' pcs e1 r => by
    have ec : cs' = cs := pcs
    subst ec
    refine ⟨Γ, Δ, cs', hg, s, e1.2, by rw [List.append_nil]; exact r, fun p H2 o io hp1 hΔ e2 ho => ?_⟩
    have hs : Sat ((p, I) :: Γ) (ghI Δ p I) := fun q hq => by
      rcases List.mem_cons.mp hq with rfl | hq
      · exact ghI_self
      · have h := s q hq
        have hne : q.1 ≠ p := fun z => by
          rw [z, hΔ] at h
          cases h
        rw [ghI_other hne]
        exact h
    have hH : Hold (ghI Δ p I) H2 := fun a J h => by
      by_cases ea : a = p
      · rw [ea, ghI_self] at h
        have ej : I = J := Option.some.inj h
        subst ej
        exact ⟨o, by rw [ea]; exact ho, io⟩
      · rw [ghI_other ea] at h
        exact e2.2 a J h
    refine ⟨(p, I) :: Γ, ghI Δ p I, [⟨(⟨p⟩ : Loc)⟩], Pb, hf p, hs, hH, ⟨rfl, trivial⟩, fun v H3 b pb e3 r3 => k v H3 b pb ⟨fun a u na hu => ?_, fun a J h => ?_⟩ (Rp.weak (fun x u _ hn => ?_) r3)⟩
    · have h1 := e1.1 a u na hu
      have hne : a ≠ p := fun z => by
        rw [z, hp1] at h1
        cases h1
      exact e3.1 a u (by rw [ghI_other hne]; exact na) (e2.1 a u na h1)
    · have hne : a ≠ p := fun z => by
        rw [z, hΔ] at h
        cases h
      exact e3.2 a J (by rw [ghI_other hne]; exact h)
    · by_cases ex : x = p
      · rw [ex]
        exact hΔ
      · rw [ghI_other ex] at hn
        exact hn
end
section
variable {P : Program} {w : World} {K : PySem.W.Frag} {mg : Str → Option Value} {base : Heap} {β : Type} [Rp β]
def FinF (Δ0 : Gh) (H0 : Hp) (I : HO → Prop) (D : Ends) : Prop := ∀ (p : Addr) (H' : Hp) (o : HO), I o → H0 p = none → Δ0 p = none → Ext Δ0 H0 H' → H' p = some o → D.rt (.ref p) H'
theorem def_okF {x qual : Str} {args : Arguments} {body : List Stmt} {scope : Scope} {dvs : List V} {kws : List (Str × V)} {f : Addr} {fd : FuncData} {N ps : List Str} {k : Nat} {G : Own → List Cell → Prop} {I : HO → Prop}
    (Fn : FunD K x qual args body scope dvs kws f fd) (S : FnScope N ps scope) (len : ∀ Γ cs, G Γ cs → cs.length = ps.length)
    (hb : ∀ (cdv : Value) (A : Around) (outer : List PySem.Env) (s : Shared) (H : Hp) (E : XK), Room k (A.deeper (envOfC qual scope s.heap.objs.size f cdv)) →
      ∀ (Γ : Own) (cs : List Cell), G Γ cs → ∃ t, PSs (cxOf CX0 P w K mg base N qual scope f cdv A outer s H E).nox body t ∧
        ∀ (Δ0 : Gh) (D : Ends), FinF Δ0 H I D → Wp K Δ0 H Γ [] (env0 N cs) t D) :
    FnOk P w K mg base CX0 (k + 1) f fd ps (spF K G I) := by
  refine Fn.ok S (fun vs H Q E h => ?_) (fun cdv A outer s H vs Q E hr h => ?_)
  · obtain ⟨Γ, Δ, cs, g, _, _, a, _⟩ := h
    rw [All2.len a]
    exact len Γ cs g
  · obtain ⟨Γ, Δ, cs, g, sa, hh, a, q⟩ := h
    obtain ⟨t, ht, hw⟩ := hb cdv A outer s H E hr Γ cs g
    refine ⟨t, ?_, hw Δ _ (fun p H' o io h1 h2 e ho => q p H' o io h1 h2 e ho) _ H ⟨Δ, sa, hh, start_ok a, fun z hz => (nomatch hz), Ext.refl hh, fun _ _ z => z, fun x n m => absurd n m⟩⟩
    first
      | exact ht
      | exact PSs.nox ht
end
section
variable {K : PySem.W.Frag} {Δ0 : Gh} {H0 : Hp} {Γ : Own} {F : List (V × Cell)} {ρ : Z.Env} {ta : TA} {D : Ends}
/-- return [a, b, c] of a new list of ints -/
theorem wp_ret3 (hf : FinF Δ0 H0 DiceI D) (h : EvA K Γ ta ρ (fun cs => ∃ a b c : Int, cs = [⟨a⟩, ⟨b⟩, ⟨c⟩] ∧ 0 ≤ a ∧ 0 ≤ b ∧ 0 ≤ c)) : Wp K Δ0 H0 Γ F ρ (tRet (tLst ta)) D := fun σ H ⟨Δ, s, hh, e, f, e0, s1, s2⟩ =>
  h Δ σ H _ s hh e fun vs H' cs pcs e1 r => by
    obtain ⟨a, b, c, rfl, ha, hb, hc⟩ := pcs
    match vs, r with
    | [v1, v2, v3], r =>
      have z1 : v1 = .int a := r.1
      have z2 : v2 = .int b := r.2.1
      have z3 : v3 = .int c := r.2.2.1
      subst z1 z2 z3
      refine ⟨by show 3 ≤ sizeLine; decide, fun p hp => ?_⟩
      have e2 := e1.trans (Ext.new e1.2 hp (.lst [.int a, .int b, .int c]))
      have e3 := ext0 e0 s1 s2 e1
      have hn := none0 s1 (e1.2.fresh hp)
      refine hf p _ _ ⟨a, b, c, rfl, ha, hb, hc⟩ ?_ hn (ext0 e0 s1 s2 e2) upd_same
      cases q : H0 p with
      | none => rfl
      | some o =>
        have := e3.1 p o hn q
        rw [hp] at this
        cases this
end
section
variable {K : PySem.W.Frag} {Γ : Own} {ρ : Z.Env} {α β : Type} [Rp α] [Rp β]
/-- the pairs of a tuple, each to two names -/
theorem src_tupP {tl : TE} {ja jb : Nat} {xs : Tup (α × β)} {x0 : Nat → α × β} (h : Ev K Γ tl ρ (Is xs)) (hx : ∀ i, i < xs.l.length → xs.l[i]? = some (x0 i)) (hja : ja < ρ.length) (hjb : jb < ρ.length) :
    Src K Γ (iTup K tl) (gTup K 2 (gCons (gName ja) (gCons (gName jb) gNil))) ρ [ja, jb] xs.l.length (fun i ρ => (ρ.set ja (some ⟨(x0 i).1⟩)).set jb (some ⟨(x0 i).2⟩)) := fun Δ σ H R s hh e k =>
  h Δ σ H _ s hh e fun v H' a pa e1 r => by
    have ea : a = xs := pa
    subst ea
    obtain ⟨p, vs, rfl, n, sq, q⟩ := id r
    refine ⟨p, rfl, ⟨vs, sq⟩, k _ H' (.ref p) ⟨a⟩ e1 r (fun Δ' H2 r2 => ?_) fun Δ' i H2 x H3 hi h2 r2 y => ?_⟩
    · obtain ⟨p', ws, e', n', sq', q'⟩ := (show Rp.rp K Δ' H2 (.ref p) a from r2)
      cases e'
      have hl := q'.len
      refine ⟨fun i hi => ⟨ws, ws[i], sq', List.getElem?_eq_getElem (by omega)⟩, ws, sq', by omega⟩
    · obtain ⟨p', ws, e', n', sq', q'⟩ := (show Rp.rp K Δ' H2 (.ref p) a from r2)
      cases e'
      obtain ⟨rfl, hy⟩ := (show H3 = H2 ∧ ∀ zs, SqT K H2 p zs → zs[i]? = some x from y)
      obtain ⟨w, hw, rw'⟩ := q'.get (hx i hi)
      have ew : x = w := Option.some.inj ((hy _ sq').symm.trans hw)
      subst ew
      obtain ⟨T, va, vb, rfl, nT, sT, ra, rb⟩ := rw'
      refine ⟨Ext.refl h2, fun σ' ρ' Qs hl e' qq => ⟨T, [va, vb], rfl, sT, rfl, va, [vb], rfl, vb, [], rfl, rfl, ?_⟩⟩
      refine qq _ ((e'.set (c := ⟨(x0 i).1⟩) (by rw [hl]; exact hja) ra).set (c := ⟨(x0 i).2⟩) (by rw [List.length_set, hl]; exact hjb) rb) (by rw [List.length_set, List.length_set]) fun k hk => ?_
      have h1 : ja ≠ k := fun z => hk (by simp [z])
      have h2 : jb ≠ k := fun z => hk (by simp [z])
      rw [List.getElem?_set_ne h2, List.getElem?_set_ne h1]
end
end Z

set_option Elab.async false
set_option linter.all false
set_option maxRecDepth 100000
set_option maxHeartbeats 4000000
/-! sorted of a list of texts, of any length -/
namespace Zs
open PySem PyProof.Rows Srt SrtO
section
variable {prog : Program} {w : World} {A : Around} {E : Value → Shared → Prop} {s : Shared}
def tv : Value → Str
  | .str x _ => x
  | _ => Str.empty
def ltT (v u : Value) : Bool := decide ((tv v).cps.toList < (tv u).cps.toList)
theorem lists_tr {a b c : List Nat} (h1 : ¬ b < a) (h2 : ¬ c < b) : ¬ c < a := fun h => by
  have x : a ≤ b := h1
  have y : b ≤ c := h2
  have z : a ≤ c := List.le_trans x y
  exact z h
theorem swo_txt : Swo ltT := by
  refine ⟨fun x y h => ?_, fun x y z h1 h2 => ?_⟩
  · have a := of_decide_eq_true (p := (tv x).cps.toList < (tv y).cps.toList) h
    exact decide_eq_false (p := (tv y).cps.toList < (tv x).cps.toList) fun b => List.lt_asymm a b
  · have a := of_decide_eq_false (p := (tv y).cps.toList < (tv x).cps.toList) h1
    have b := of_decide_eq_false (p := (tv z).cps.toList < (tv y).cps.toList) h2
    exact decide_eq_false (p := (tv z).cps.toList < (tv x).cps.toList) (lists_tr a b)
theorem txt_mem : ∀ {vs : List Value} {ns : List Str}, StrsAre vs ns → ∀ v ∈ vs, ∃ i t, v = Value.str i t
  | _, _, .nil, v, h => absurd h (by simp)
  | _, _, .cons n t r, v, h => by
    rcases List.mem_cons.mp h with e | h
    · exact ⟨n, t, e⟩
    · exact txt_mem r v h
theorem txt_tv : ∀ {vs : List Value}, (∀ v ∈ vs, ∃ i t, v = Value.str i t) → StrsAre vs (vs.map tv)
  | [], _ => .nil
  | v :: vs, h => by
    obtain ⟨i, t, e⟩ := h v List.mem_cons_self
    subst e
    exact .cons i t (txt_tv fun u hu => h u (List.mem_cons_of_mem _ hu))
theorem tv_txt : ∀ {vs : List Value} {ns : List Str}, StrsAre vs ns → vs.map tv = ns
  | _, _, .nil => rfl
  | _, _, .cons n t r => congrArg (n :: ·) (tv_txt r)
theorem txt_cmp {vs : List Value} {ns : List Str} (hI : StrsAre vs ns) : Cmp prog w A s oneType' (fun p => p.1 ∈ vs) (lt2 ltT) := by
  intro p q hm hm'
  obtain ⟨a, t, e⟩ := txt_mem hI _ hm
  obtain ⟨b, u, e'⟩ := txt_mem hI _ hm'
  show wpAny (model prog w) A (keyLt' oneType' p.1 q.1) (fun r s' => s' = s ∧ r = ltT p.1 q.1) (fun _ _ => False) s
  rw [e, e', keyLt'_oneType]
  exact oneLt_str ⟨rfl, rfl⟩
theorem txt_sortable {a : Addr} {vs : List Value} {ns : List Str} (hI : StrsAre vs ns) (h2 : 2 ≤ vs.length) : SortableO prog w A s a vs ltT := by
  intro h' _
  refine ⟨oneType', fun Q E hq => ?_, txt_cmp hI⟩
  match vs, hI, h2 with
  | v1 :: v2 :: rest, hI, _ =>
    rw [keyKind_strs hI]
    exact wpAny_pure hq
  | [], _, h => exact absurd h (by decide)
  | [v], _, h => exact absurd h (by simp)
/-- rising texts, by their codes -/
def Rise (l : List Str) : Prop := l.Pairwise fun x y => ¬ y.cps.toList < x.cps.toList
theorem txt_out {vs out : List Value} {ns : List Str} (hI : StrsAre vs ns) (hs : Srtd ltT out) (hb : Stb ltT out vs) : StrsAre out (out.map tv) ∧ (out.map tv).Perm ns ∧ Rise (out.map tv) := by
  refine ⟨txt_tv fun v hv => txt_mem hI v (hb.perm.mem_iff.mp hv), ?_, ?_⟩
  · have q := hb.perm.map tv
    rw [tv_txt hI] at q
    exact q
  · exact List.pairwise_map.mpr (hs.imp fun {x y} h => of_decide_eq_false (p := (tv y).cps.toList < (tv x).cps.toList) h)
end
end Zs
namespace L2
open PySem PySem.Spec PyProof.Rows
/-- sorted(xs), texts, any number of them -/
def rSortedT (K : PySem.W.Frag) : List V → Hp → VK → Prop := fun vs H Q => ∃ (a : Addr) (ns : List Str), vs = [V.ref a] ∧ SqL K H a (ns.map V.str) ∧
  ∀ (ns' : List Str) (p : Addr), ns'.Perm ns → Zs.Rise ns' → H p = none → Q (.ref p) (upd H p (.lst (ns'.map V.str)))
section
variable {X : Cx}
theorem cr_sortedT : CallR X (.builtin "sorted") (rSortedT X.K) := by
  intro pins s σ H vs us Q I r h
  obtain ⟨a, ns, rfl, hs, q⟩ := h
  obtain ⟨its, rv, hl, hz⟩ := I.list hs
  rw [Vals.ref1 r]
  have hi := rv.strs
  refine SrtO.sorted_ord Zs.swo_txt hl.isList (by rw [← rv.length]; exact hz) (fun h2 h₁ a' _ _ => Zs.txt_sortable hi h2) fun out h1 h2 => ?_
  obtain ⟨k1, k2, k3⟩ := Zs.txt_out hi h1 h2
  obtain ⟨ep, he'⟩ := PyProof.Rows.sortedAll_at s.heap its out.toArray
  have hlen : ((out.map Zs.tv).map V.str).length ≤ sizeLine := by
    rw [List.length_map, k2.length_eq]
    rw [List.length_map] at hz
    exact hz
  exact ⟨.ref _, upd H (s.heap.objs.size + 1) (.lst ((out.map Zs.tv).map V.str)), I.laid (t' := s.toks) (fun _ _ => PyProof.Rows.sortedAll_old) (Nat.le_succ _) ⟨hlen, out, ep, vals_of_strs k1, he'⟩, rfl, q _ _ k2 k3 (I.hok.fresh (Nat.le_succ _))⟩
end
end L2

set_option Elab.async false
set_option linter.all false
set_option maxRecDepth 100000
set_option maxHeartbeats 1000000
namespace Z
open PySem PySem.Spec PyProof.Rows L2
/-! ### one's own objects of any kind, by their exact content -/
def ObIs (o : HO) : HO → Prop := fun u => u = o
section
variable {K : PySem.W.Frag} {Δ0 : Gh} {H0 : Hp} {Γ : Own} {F : List (V × Cell)} {ρ : Z.Env} {ta tb te : TE} {tz : TS} {D : Ends}
theorem ghI_sat {Δ : Gh} {p : Addr} {I : HO → Prop} (s : Sat Γ Δ) (n : Δ p = none) : Sat ((p, I) :: Γ) (ghI Δ p I) := fun q hq => by
  rcases List.mem_cons.mp hq with rfl | hq
  · exact ghI_self
  · have h := s q hq
    have hne : q.1 ≠ p := fun z => by
      rw [z, n] at h
      cases h
    rw [ghI_other hne]
    exact h
theorem ghI_hold {Δ : Gh} {H : Hp} {p : Addr} {I : HO → Prop} {o : HO} (hh : ∀ a J, a ≠ p → Δ a = some J → ∃ u, H a = some u ∧ J u) (io : I o) : Hold (ghI Δ p I) (upd H p o) := fun a J h => by
  by_cases ea : a = p
  · rw [ea, ghI_self] at h
    have ej : I = J := Option.some.inj h
    subst ej
    exact ⟨o, by rw [ea]; exact upd_same, io⟩
  · rw [ghI_other ea] at h
    obtain ⟨u, hu, iu⟩ := hh a J ea h
    exact ⟨u, by rw [upd_ne ea]; exact hu, iu⟩
theorem ghI_new {Δ : Gh} {D : Addr} {I : HO → Prop} {H : Hp} (hD : H D = none) : ∀ x o, H x = some o → Δ x = none → ghI Δ D I x = none := fun x o hx n => by
  have hne : x ≠ D := fun z => by
    rw [z, hD] at hx
    cases hx
  rw [ghI_other hne]
  exact n
theorem own_newO {Δ : Gh} {σ : L2.St} {H : Hp} {p : Addr} {o : HO} (s : Sat Γ Δ) (hh : Hold Δ H) (e : EnvOk K Δ σ H ρ) (f : ∀ f ∈ F, f.2.rp K Δ H f.1) (e0 : Ext Δ0 H0 H) (s1 : ∀ x I, Δ0 x = some I → Δ x = some I) (s2 : ∀ x, Δ0 x = none → Δ x ≠ none → H0 x = none) (hp : H p = none) :
    OwnP Δ0 Γ p ∧ Stt K Δ0 H0 ((p, ObIs o) :: Γ) F ρ σ (upd H p o) := by
  have nD : Δ p = none := hh.fresh hp
  have n0 : Δ0 p = none := none0 s1 nD
  have kp : Keep (ghI Δ p (ObIs o)) H (upd H p o) := fun a u _ q => by rw [upd_ne (ne_of_none q hp)]; exact q
  refine ⟨⟨n0, fun q hq z => ?_⟩, ghI Δ p (ObIs o), ghI_sat s nD, ghI_hold (fun a J _ h => hh a J h) rfl, (e.weak (ghI_new hp)).mono kp, fun q hq => q.2.r.mono kp (q.2.r.weak (ghI_new hp) (f q hq)), ext0 e0 s1 s2 (Ext.new hh hp _), fun x I q => ?_, fun x n m => ?_⟩
  · have h := s q hq
    rw [z, nD] at h
    cases h
  · have hne : x ≠ p := fun z => by
      rw [z, n0] at q
      cases q
    rw [ghI_other hne]
    exact s1 x I q
  · by_cases hx : x = p
    · subst hx
      cases q : H0 x with
      | none => rfl
      | some u =>
        have := e0.1 x u n0 q
        rw [hp] at this
        cases this
    · rw [ghI_other hx] at m
      exact s2 x n m
theorem own_putO {σ : L2.St} {H : Hp} {p : Addr} {o o2 : HO} (ow : OwnP Δ0 Γ p) (st : Stt K Δ0 H0 ((p, ObIs o) :: Γ) F ρ σ H) : H p = some o ∧ Stt K Δ0 H0 ((p, ObIs o2) :: Γ) F ρ σ (upd H p o2) := by
  obtain ⟨Δ, s, hh, e, f, e0, s1, s2⟩ := st
  have hΔ : Δ p = some (ObIs o) := s (p, ObIs o) List.mem_cons_self
  obtain ⟨u, hu, iu⟩ := hh p _ hΔ
  have iu' : u = o := iu
  subst iu'
  have off : ∀ {a : Addr}, Δ a = none → a ≠ p := fun n z => by
    rw [z, hΔ] at n
    cases n
  have off0 : ∀ {a : Addr} {I}, Δ0 a = some I → a ≠ p := fun q z => by
    rw [z, ow.n0] at q
    cases q
  have kp : Keep Δ H (upd H p o2) := fun a o n q => by
    rw [upd_ne (off n)]
    exact q
  have wk : ∀ {H : Hp} x o, H x = some o → Δ x = none → ghI Δ p (ObIs o2) x = none := fun x o _ n => by
    rw [ghI_other (off n)]
    exact n
  refine ⟨hu, ghI Δ p (ObIs o2), fun q hq => ?_, ghI_hold (fun a J _ h => hh a J h) rfl, (e.mono kp).weak wk, fun q hq => q.2.r.weak wk (q.2.r.mono kp (f q hq)), ⟨fun a o' n q => ?_, fun a I q => ?_⟩, fun x I q => ?_, fun x n m => ?_⟩
  · rcases List.mem_cons.mp hq with z | z
    · rw [z]; exact ghI_self
    · rw [ghI_other (ow.ne q z)]; exact s q (List.mem_cons_of_mem _ z)
  · have hne : a ≠ p := fun z => by
      subst z
      have := s2 a n (by rw [hΔ]; exact fun z => by cases z)
      rw [q] at this
      cases this
    rw [upd_ne hne]
    exact e0.1 a o' n q
  · obtain ⟨u, hu, iu⟩ := e0.2 a I q
    exact ⟨u, by rw [upd_ne (off0 q)]; exact hu, iu⟩
  · rw [ghI_other (off0 q)]
    exact s1 x I q
  · by_cases hx : x = p
    · subst hx
      exact s2 x n (by rw [hΔ]; exact fun z => by cases z)
    · rw [ghI_other hx] at m
      exact s2 x n m
end
/-! ### instances: made by a call, their fields -/
/-- what __init__ promises: of a new instance at x the datum b -/
def spI (K : PySem.W.Frag) (C : Addr) {β : Type} [Rp β] (F : Own → List Cell → (β → Prop) → Prop) : Sp := fun vs H Q _ => ∃ (Γ : Own) (Δ : Gh) (cs : List Cell) (P : β → Prop) (x dx : Addr) (us : List V) (H0 : Hp), vs = .ref x :: us ∧ F Γ cs P ∧ Sat Γ Δ ∧ Hold Δ H0 ∧ ArgsOk K Δ H0 us cs ∧
  H0 x = none ∧ H0 dx = none ∧ dx ≠ x ∧ H = upd (upd H0 dx (.own x)) x (.ins C dx []) ∧ ∀ (H' : Hp) (b : β), P b → Ext Δ H0 H' → Rp.rp K Δ H' (.ref x) b → Q .non H'
section
variable {K : PySem.W.Frag} {Γ : Own} {ρ : Z.Env} {ta : TA} {β : Type} [Rp β] {Pb : β → Prop}
/-- C(e, ..) -/
theorem ev_make {C : Addr} {F : Own → List Cell → (β → Prop) → Prop} {E : XK} {cs dcs : List Cell} {dvs : List V} (hd : ∀ Δ H, ArgsOk K Δ H dvs dcs) (ha : EvA K Γ ta ρ (Is cs)) (hf : F Γ (cs ++ dcs) Pb) : Ev K Γ (tMake C (spI K C F) dvs E ta) ρ Pb := fun Δ σ H Q s hh e k =>
  ha Δ σ H _ s hh e fun vs H1 cs' pcs e1 r x dx hx hdx ne => by
    have ec : cs' = cs := pcs
    subst ec
    exact ⟨Γ, Δ, cs' ++ dcs, Pb, x, dx, vs ++ dvs, H1, rfl, hf, s, e1.2, All2.app r (hd Δ H1), hx, hdx, ne, rfl, fun H' b pb e2 r2 => ⟨rfl, k _ H' b pb (e1.trans e2) r2⟩⟩
end
section
variable {P : Program} {w : World} {K : PySem.W.Frag} {mg : Str → Option Value} {base : Heap} {β : Type} [Rp β]
def FinI (K : PySem.W.Frag) (Δ0 : Gh) (H0 : Hp) (x : Addr) (R : β → Prop) (D : Ends) : Prop := ∀ σ H' b, R b → Ext Δ0 H0 H' → Rp.rp K Δ0 H' (.ref x) b → D.nx σ H'
theorem def_okI {x qual : Str} {args : Arguments} {body : List Stmt} {scope : Scope} {dvs : List V} {kws : List (Str × V)} {f C : Addr} {fd : FuncData} {N ps : List Str} {k : Nat} {G : Own → List Cell → (β → Prop) → Prop}
    (Fn : FunD K x qual args body scope dvs kws f fd) (S : FnScope N ps scope) (len : ∀ Γ cs R, G Γ cs R → cs.length + 1 = ps.length)
    (hb : ∀ (cdv : Value) (A : Around) (outer : List PySem.Env) (s : Shared) (H : Hp) (E : XK), Room k (A.deeper (envOfC qual scope s.heap.objs.size f cdv)) →
      ∀ (Γ : Own) (cs : List Cell) (R : β → Prop), G Γ cs R → ∃ t, PSs (cxOf CX0 P w K mg base N qual scope f cdv A outer s H E).nox body t ∧
        ∀ (Δ0 : Gh) (H0 : Hp) (p dx : Addr) (D : Ends), FinI K Δ0 H0 p R D → OwnP Δ0 Γ p → Wp K Δ0 H0 ((p, ObIs (.ins C dx [])) :: Γ) [] (env0 N (⟨(⟨p⟩ : Loc)⟩ :: cs)) t D) :
    FnOk P w K mg base CX0 (k + 1) f fd ps (spI K C G) := by
  refine Fn.ok S (fun vs H Q E h => ?_) (fun cdv A outer s H vs Q E hr h => ?_)
  · obtain ⟨Γ, Δ, cs, R, p, dx, us, H0, rfl, g, _, _, a, _⟩ := h
    rw [List.length_cons, All2.len a]
    exact len Γ cs R g
  · obtain ⟨Γ, Δ, cs, R, p, dx, us, H0, rfl, g, sa, hh, a, hp, hdx, ne, rfl, q⟩ := h
    obtain ⟨t, ht, hw⟩ := hb cdv A outer s _ E hr Γ cs R g
    have e1 : Ext Δ H0 (upd H0 dx (.own p)) := Ext.new hh hdx _
    have hp1 : upd H0 dx (.own p) p = none := by rw [upd_ne (fun z => ne z.symm)]; exact hp
    have hargs : ArgsOk K Δ (upd H0 dx (.own p)) us cs := All2.imp (fun v c r => c.r.mono e1.1 r) a
    have henv : EnvOk K Δ (L2.start N (.ref p :: us)) (upd H0 dx (.own p)) (env0 N (⟨(⟨p⟩ : Loc)⟩ :: cs)) := start_ok (cs := ⟨(⟨p⟩ : Loc)⟩ :: cs) ⟨rfl, hargs⟩
    obtain ⟨ow, st⟩ := own_newO (K := K) (Δ0 := Δ) (H0 := H0) (F := []) (o := .ins C dx []) sa e1.2 henv (fun z hz => (nomatch hz)) e1 (fun _ _ z => z) (fun x n m => absurd n m) hp1
    refine ⟨t, ?_, hw Δ H0 p dx _ (fun σ H' b pb e r => q H' b pb e r) ow _ _ st⟩
    first
      | exact ht
      | exact PSs.nox ht
end
end Z

set_option Elab.async false
set_option linter.all false
set_option maxRecDepth 100000
set_option maxHeartbeats 1000000
namespace Z
open PySem PySem.Spec PyProof.Rows L2
/-! ### a new object that an expression makes and its taker owns -/
def EvN (K : PySem.W.Frag) (Γ : Own) (te : TE) (ρ : Z.Env) (I : HO → Prop) : Prop :=
  ∀ (Δ : Gh) (σ : L2.St) (H : Hp) (Q : VK), Sat Γ Δ → Hold Δ H → EnvOk K Δ σ H ρ → (∀ d H' o, I o → H d = none → Δ d = none → Ext Δ H H' → H' d = some o → Q (.ref d) H') → te σ H Q
/-! ### a dict whose keys are texts -/
abbrev tS (x : Tx) : Str := ⟨x.s.toArray⟩
def kvT (ks : List Tx) : List (Key × V) := ks.map fun x => (.inr (tS x), .bl true)
theorem tS_inj {x y : Tx} : tS x = tS y ↔ x = y := by
  constructor
  · intro h
    cases x
    cases y
    simpa [tS] using h
  · intro h
    rw [h]
/-- each text once, at its first place -/
def onceT : List Tx → List Tx → List Tx
  | ks, [] => ks
  | ks, x :: xs => onceT (if x ∈ ks then ks else ks ++ [x]) xs
theorem onceT_snoc : ∀ (xs : List Tx) (ks : List Tx) (x : Tx), onceT ks (xs ++ [x]) = if x ∈ onceT ks xs then onceT ks xs else onceT ks xs ++ [x]
  | [], ks, x => rfl
  | y :: xs, ks, x => onceT_snoc xs _ x
theorem onceT_mem : ∀ (xs ks : List Tx) (y : Tx), y ∈ onceT ks xs ↔ y ∈ ks ∨ y ∈ xs
  | [], ks, y => by simp [onceT]
  | x :: xs, ks, y => by
    rw [onceT, onceT_mem xs]
    by_cases h : x ∈ ks
    · rw [if_pos h, List.mem_cons]
      constructor
      · rintro (q | q)
        · exact .inl q
        · exact .inr (.inr q)
      · rintro (q | rfl | q)
        · exact .inl q
        · exact .inl h
        · exact .inr q
    · rw [if_neg h, List.mem_append, List.mem_singleton, List.mem_cons, or_assoc]
theorem onceT_nodup : ∀ (xs ks : List Tx), ks.Nodup → (onceT ks xs).Nodup
  | [], _, h => h
  | x :: xs, ks, h => by
    rw [onceT]
    by_cases q : x ∈ ks
    · rw [if_pos q]
      exact onceT_nodup xs ks h
    · rw [if_neg q]
      exact onceT_nodup xs _ (List.nodup_append.mpr ⟨h, by simp, fun a ha b hb => by
        rw [List.mem_singleton.mp hb]
        exact fun z => q (z ▸ ha)⟩)
theorem onceT_len : ∀ (xs ks : List Tx), (onceT ks xs).length ≤ ks.length + xs.length
  | [], ks => Nat.le_refl _
  | x :: xs, ks => by
    have := onceT_len xs (if x ∈ ks then ks else ks ++ [x])
    rw [onceT, List.length_cons]
    by_cases h : x ∈ ks
    · rw [if_pos h] at this ⊢
      omega
    · rw [if_neg h] at this ⊢
      rw [List.length_append, List.length_singleton] at this
      omega
theorem any_kvT {ks : List Tx} {x : Tx} : ((kvT ks).any fun kv => decide (kv.1 = (.inr (tS x) : Key))) = decide (x ∈ ks) := by
  rw [Bool.eq_iff_iff, List.any_eq_true, decide_eq_true_eq]
  unfold kvT
  constructor
  · rintro ⟨kv, hk, e⟩
    obtain ⟨y, hy, rfl⟩ := List.mem_map.mp hk
    have e' := of_decide_eq_true e
    have e2 : tS y = tS x := Sum.inr.inj e'
    rw [← tS_inj.mp e2]
    exact hy
  · intro h
    exact ⟨_, List.mem_map.mpr ⟨x, h, rfl⟩, decide_eq_true rfl⟩
theorem putK_kvT {ks : List Tx} {x : Tx} : putK (kvT ks) (.inr (tS x)) (.bl true) = kvT (if x ∈ ks then ks else ks ++ [x]) := by
  unfold putK
  rw [any_kvT]
  by_cases h : x ∈ ks
  · rw [if_pos (decide_eq_true h), if_pos h]
    unfold kvT
    rw [List.map_map]
    refine List.map_congr_left fun y _ => ?_
    show (if (Sum.inr (tS y) : Key) = Sum.inr (tS x) then _ else _) = _
    split
    · rfl
    · rfl
  · rw [if_neg (by rw [decide_eq_true_eq]; exact h), if_neg h]
    unfold kvT
    rw [List.map_append]
    rfl
section
variable {K : PySem.W.Frag} {Γ : Own} {ρ : Z.Env} {tk tv : TE}
theorem ghI_swap {Δ : Gh} {D : Addr} {I J : HO → Prop} {H : Hp} : ∀ x o, H x = some o → ghI Δ D I x = none → ghI Δ D J x = none := fun x o _ n => by
  by_cases e : x = D
  · rw [e, ghI_self] at n
    cases n
  · rw [ghI_other e] at n ⊢
    exact n
theorem ghI_exact {Δ : Gh} {D : Addr} {o : HO} {H : Hp} (h : Hold (ghI Δ D (ObIs o)) H) : H D = some o := by
  obtain ⟨u, hu, iu⟩ := h D _ ghI_self
  rw [hu, show u = o from iu]
/-- how things stand ahead of a turn -/
structure DW (K : PySem.W.Frag) (Δ : Gh) (H1 : Hp) (D : Addr) (pv : V) (pc : Cell) (σw : L2.St) (ρw : Z.Env) (o : HO) (H : Hp) : Prop where
  hold : Hold (ghI Δ D (ObIs o)) H
  keep : ∀ a u, a ≠ D → Δ a = none → H1 a = some u → H a = some u
  src : pc.rp K (ghI Δ D (ObIs o)) H pv
  env : EnvOk K (ghI Δ D (ObIs o)) σw H ρw
theorem DW.next {Δ : Gh} {H1 H H' : Hp} {D : Addr} {pv : V} {pc : Cell} {σw : L2.St} {ρw : Z.Env} {o : HO} (c : DW K Δ H1 D pv pc σw ρw o H) (e : Ext (ghI Δ D (ObIs o)) H H') : DW K Δ H1 D pv pc σw ρw o H' :=
  ⟨e.2, fun a u ha n h => e.1 a u (by rw [ghI_other ha]; exact n) (c.keep a u ha n h), pc.r.mono e.1 c.src, c.env.mono e.1⟩
theorem DW.put {Δ : Gh} {H1 H : Hp} {D : Addr} {pv : V} {pc : Cell} {σw : L2.St} {ρw : Z.Env} {o o2 : HO} (c : DW K Δ H1 D pv pc σw ρw o H) : DW K Δ H1 D pv pc σw ρw o2 (upd H D o2) := by
  have kp : Keep (ghI Δ D (ObIs o)) H (upd H D o2) := fun a u n q => by
    have hne : a ≠ D := fun z => by
      rw [z, ghI_self] at n
      cases n
    rw [upd_ne hne]
    exact q
  exact ⟨ghI_hold (fun a J ha h => c.hold a J (by rw [ghI_other ha]; exact h)) rfl, fun a u ha n h => by rw [upd_ne ha]; exact c.keep a u ha n h, pc.r.weak ghI_swap (pc.r.mono kp c.src), (c.env.mono kp).weak ghI_swap⟩
/-- {x: True for x in ..} -/
theorem en_dc {wi : TI} {g : TG} {js vs : List Nat} {xs : List Tx} {st : Nat → Z.Env → Z.Env} (S : Src K Γ wi g ρ js xs.length st) (hn : xs.length ≤ 50000) (hjs : ∀ j ∈ js, j ∈ vs)
    (hk : ∀ i x, xs[i]? = some x → Ev K Γ tk (st i (wipeE ρ vs)) (Is x)) (hv : ∀ i, i < xs.length → Ev K Γ tv (st i (wipeE ρ vs)) (Is true)) :
    EvN K Γ (tDc wi g tYes tk tv vs) ρ (ObIs (.dK (kvT (onceT [] xs)))) := fun Δ σ H Q s hh e k => S Δ σ H _ s hh e fun J H1 pv pc e1 rp0 hgo hyld => fun D hD => by
  have nD : Δ D = none := e1.2.fresh hD
  have eW : EnvOk K Δ (wipe σ vs) H1 (wipeE ρ vs) := (e.mono e1.1).wipe vs
  have kp : Keep (ghI Δ D (ObIs (.dK []))) H1 (upd H1 D (.dK [])) := fun a o _ q => by rw [upd_ne (ne_of_none q hD)]; exact q
  have W0 : DW K Δ H1 D pv pc (wipe σ vs) (wipeE ρ vs) (.dK (kvT (onceT [] (xs.take 0)))) (upd H1 D (.dK [])) :=
    ⟨ghI_hold (fun a J _ h => e1.2 a J h) rfl, fun a o ha n h => by rw [upd_ne ha]; exact h, pc.r.mono kp (pc.r.weak (ghI_new hD) rp0), (eW.weak (ghI_new hD)).mono kp⟩
  have wl : (wipeE ρ vs).length = ρ.length := by
    rw [← eW.1, wipe_length]
    exact e.1
  have hDH : H D = none := Ext.back hh e1 hD
  refine ⟨fun i m H2 => m = xs.length - i ∧ i ≤ xs.length ∧ DW K Δ H1 D pv pc (wipe σ vs) (wipeE ρ vs) (.dK (kvT (onceT [] (xs.take i)))) H2, ⟨xs.length, by simp, Nat.zero_le _, W0⟩, ?_⟩
  rintro i m H2 ⟨rfl, hi, c⟩
  have hg := hgo _ H2 c.src
  by_cases hlt : i < xs.length
  · refine .inr ⟨hg.1 i hlt, fun H3 => DW K Δ H1 D pv pc (wipe σ vs) (wipeE ρ vs) (.dK (kvT (onceT [] (xs.take (i + 1))))) H3, fun H' c' => ⟨xs.length - (i + 1), by omega, rfl, hlt, c'⟩, fun x H3 hy => ?_⟩
    obtain ⟨e3, hput⟩ := hyld _ i H2 x H3 hlt c.hold c.src hy
    have c3 := c.next e3
    refine hput (wipe σ vs) (wipeE ρ vs) _ wl c3.env fun σ2 env2 hl2 hoff => ⟨wipe_off (by rw [hl2, wipe_length]) hjs hoff, ?_⟩
    have hx : xs[i]? = some xs[i] := List.getElem?_eq_getElem hlt
    have sD : Sat Γ (ghI Δ D (ObIs (.dK (kvT (onceT [] (xs.take i)))))) := fun q hq => ghI_sat s nD q (List.mem_cons_of_mem _ hq)
    change tk σ2 H3 _
    refine hk i _ hx _ σ2 H3 _ sD e3.2 env2 fun y H4 a pa e4 r4 => ?_
    have c4 := c3.next e4
    refine hv i hlt _ σ2 H4 _ sD e4.2 (env2.mono e4.1) fun z H5 b pb e5 r5 => ?_
    have c5 := c4.next e5
    have ea : a = xs[i] := pa
    have eb : b = true := pb
    subst ea eb
    have ey : y = .str (tS xs[i]) := r4
    have ez : z = .bl true := r5
    subst ey ez
    have et : onceT [] (xs.take (i + 1)) = if xs[i] ∈ onceT [] (xs.take i) then onceT [] (xs.take i) else onceT [] (xs.take i) ++ [xs[i]] := by
      rw [List.take_add_one, hx]
      exact onceT_snoc _ _ _
    refine ⟨kvT (onceT [] (xs.take i)), .inr (tS xs[i]), rfl, ghI_exact c5.hold, ?_, ?_⟩
    · have h1 := onceT_len (xs.take i) []
      have h2 : (xs.take i).length ≤ i := List.length_take_le i xs
      have h3 : (kvT (onceT [] (xs.take i))).length = (onceT [] (xs.take i)).length := by unfold kvT; rw [List.length_map]
      refine Nat.lt_of_le_of_lt (m := 50000) ?_ (by decide)
      rw [h3]
      simp only [List.length_nil] at h1
      omega
    · rw [putK_kvT, ← et]
      exact c5.put
  · have ei : i = xs.length := by omega
    subst ei
    rw [List.take_length] at c
    refine .inl ⟨hg.2, k D H2 _ rfl hDH nD ⟨fun a o na h => ?_, fun a J h => ?_⟩ (ghI_exact c.hold)⟩
    · have h1 := e1.1 a o na h
      exact c.keep a o (ne_of_none h1 hD) na h1
    · have hne : a ≠ D := fun z => by
        rw [z, nD] at h
        cases h
      exact c.hold a J (by rw [ghI_other hne]; exact h)
end
end Z

set_option Elab.async false
set_option linter.all false
set_option maxRecDepth 100000
set_option maxHeartbeats 1000000
namespace Z
open PySem PySem.Spec PyProof.Rows L2
section
variable {K : PySem.W.Frag} {Δ0 : Gh} {H0 : Hp} {Γ : Own} {F : List (V × Cell)} {ρ : Z.Env} {ta tb te : TE} {tz : TS} {D : Ends} {α : Type} [Rp α] {P : α → Prop} {p C dx : Addr} {fs : List (Str × V)} {f : Str}
/-- self.f = e: the instance one's own; what e gave is kept in mind -/
theorem wp_fld (cl : Cls K C) (na : NoAttr K C f) (hl : fs.length < 1000) (ow : OwnP Δ0 Γ p) (h : Ev K ((p, ObIs (.ins C dx fs)) :: Γ) te ρ P) (ho : Ev K ((p, ObIs (.ins C dx fs)) :: Γ) ta ρ (Is (⟨p⟩ : Loc)))
    (k : ∀ v a, P a → Wp K Δ0 H0 ((p, ObIs (.ins C dx (putF f v fs))) :: Γ) ((v, ⟨a⟩) :: F) ρ tz D) : Wp K Δ0 H0 ((p, ObIs (.ins C dx fs)) :: Γ) F ρ (tSeq (sFld K ta te f) tz) D := fun σ H ⟨Δ, s, hh, e, ff, e0, s1, s2⟩ =>
  h Δ σ H _ s hh e fun v H1 a pa e1 r1 => ho Δ σ H1 _ s e1.2 (e.mono e1.1) fun w H2 b pb e2 r2 => by
    have eb : b = ⟨p⟩ := pb
    subst eb
    have ew : w = .ref p := r2
    subst ew
    have e3 := e1.trans e2
    have st : Stt K Δ0 H0 ((p, ObIs (.ins C dx fs)) :: Γ) ((v, ⟨a⟩) :: F) ρ σ H2 := ⟨Δ, s, e3.2, e.mono e3.1, fun q hq => by
      rcases List.mem_cons.mp hq with rfl | hq
      · exact Rp.mono e2.1 r1
      · exact q.2.r.mono e3.1 (ff q hq), ext0 e0 s1 s2 e3, s1, s2⟩
    obtain ⟨hp, st'⟩ := own_putO (o2 := .ins C dx (putF f v fs)) ow st
    exact ⟨p, C, dx, fs, rfl, hp, cl, na, hl, k v a pa σ _ st'⟩
theorem wp_fldL (cl : Cls K C) (na : NoAttr K C f) (hl : fs.length < 1000) (ow : OwnP Δ0 Γ p) (h : Ev K ((p, ObIs (.ins C dx fs)) :: Γ) te ρ P) (ho : Ev K ((p, ObIs (.ins C dx fs)) :: Γ) ta ρ (Is (⟨p⟩ : Loc)))
    (k : ∀ v a, P a → Wp K Δ0 H0 ((p, ObIs (.ins C dx (putF f v fs))) :: Γ) ((v, ⟨a⟩) :: F) ρ tNext D) : Wp K Δ0 H0 ((p, ObIs (.ins C dx fs)) :: Γ) F ρ (sFld K ta te f) D := wp_fld (tz := tNext) cl na hl ow h ho k
/-- a new object that comes becomes one's own -/
theorem own_come {Δ : Gh} {σ : L2.St} {H H' : Hp} {d : Addr} {o : HO} (s : Sat Γ Δ) (hh : Hold Δ H) (e : EnvOk K Δ σ H ρ) (ff : ∀ f ∈ F, f.2.rp K Δ H f.1) (e0 : Ext Δ0 H0 H) (s1 : ∀ x I, Δ0 x = some I → Δ x = some I) (s2 : ∀ x, Δ0 x = none → Δ x ≠ none → H0 x = none) (hd : H d = none) (e1 : Ext Δ H H') (ho : H' d = some o) :
    OwnP Δ0 Γ d ∧ Stt K Δ0 H0 ((d, ObIs o) :: Γ) F ρ σ H' := by
  have nD : Δ d = none := hh.fresh hd
  have n0 : Δ0 d = none := none0 s1 nD
  have wk : ∀ x u, H x = some u → Δ x = none → ghI Δ d (ObIs o) x = none := ghI_new hd
  have kp : Keep (ghI Δ d (ObIs o)) H H' := fun a u n q => by
    have hne : a ≠ d := ne_of_none q hd
    exact e1.1 a u (by rw [ghI_other hne] at n; exact n) q
  refine ⟨⟨n0, fun q hq z => ?_⟩, ghI Δ d (ObIs o), ghI_sat s nD, fun a J h => ?_, (e.weak wk).mono kp, fun q hq => q.2.r.mono kp (q.2.r.weak wk (ff q hq)), ext0 e0 s1 s2 e1, fun x I q => ?_, fun x n m => ?_⟩
  · have h := s q hq
    rw [z, nD] at h
    cases h
  · by_cases ea : a = d
    · rw [ea, ghI_self] at h
      have ej : ObIs o = J := Option.some.inj h
      subst ej
      exact ⟨o, by rw [ea]; exact ho, rfl⟩
    · rw [ghI_other ea] at h
      exact e1.2 a J h
  · have hne : x ≠ d := fun z => by
      rw [z, n0] at q
      cases q
    rw [ghI_other hne]
    exact s1 x I q
  · by_cases hx : x = d
    · subst hx
      cases q : H0 x with
      | none => rfl
      | some u =>
        have := e0.1 x u n0 q
        rw [hd] at this
        cases this
    · rw [ghI_other hx] at m
      exact s2 x n m
/-- the order of what one owns is of no matter -/
theorem Stt.swap {σ : L2.St} {H : Hp} {a b : Addr × (HO → Prop)} (st : Stt K Δ0 H0 (a :: b :: Γ) F ρ σ H) : Stt K Δ0 H0 (b :: a :: Γ) F ρ σ H := by
  obtain ⟨Δ, s, r⟩ := st
  exact ⟨Δ, fun q hq => s q (by simp only [List.mem_cons] at hq ⊢; rcases hq with h | h | h; exact .inr (.inl h); exact .inl h; exact .inr (.inr h)), r⟩
/-- self.f = a new object -/
theorem wp_fldN {I : HO → Prop} (cl : Cls K C) (na : NoAttr K C f) (hl : fs.length < 1000) (ow : OwnP Δ0 Γ p) (h : EvN K ((p, ObIs (.ins C dx fs)) :: Γ) te ρ I) (ho : ∀ d o, I o → Ev K ((d, ObIs o) :: (p, ObIs (.ins C dx fs)) :: Γ) ta ρ (Is (⟨p⟩ : Loc)))
    (k : ∀ d o, I o → OwnP Δ0 ((d, ObIs o) :: Γ) p → OwnP Δ0 Γ d → Wp K Δ0 H0 ((p, ObIs (.ins C dx (putF f (.ref d) fs))) :: (d, ObIs o) :: Γ) F ρ tz D) : Wp K Δ0 H0 ((p, ObIs (.ins C dx fs)) :: Γ) F ρ (tSeq (sFld K ta te f) tz) D := fun σ H ⟨Δ, s, hh, e, ff, e0, s1, s2⟩ =>
  h Δ σ H _ s hh e fun d H1 o io hd nd e1 hdo => by
    obtain ⟨owd, st⟩ := own_come (K := K) (Δ0 := Δ0) (H0 := H0) (F := F) s hh e ff e0 s1 s2 hd e1 hdo
    have hne : p ≠ d := owd.ne (p, _) List.mem_cons_self
    obtain ⟨Δ', s', hh', e', ff', e0', s1', s2'⟩ := st
    refine ho d o io Δ' σ H1 _ s' hh' e' fun w H2 b pb e2 r2 => ?_
    have eb : b = ⟨p⟩ := pb
    subst eb
    have ew : w = .ref p := r2
    subst ew
    have st2 : Stt K Δ0 H0 ((d, ObIs o) :: (p, ObIs (.ins C dx fs)) :: Γ) F ρ σ H2 := ⟨Δ', s', e2.2, e'.mono e2.1, fun q hq => q.2.r.mono e2.1 (ff' q hq), ext0 e0' s1' s2' e2, s1', s2'⟩
    have ow' : OwnP Δ0 ((d, ObIs o) :: Γ) p := ⟨ow.n0, fun q hq z => by
      rcases List.mem_cons.mp hq with rfl | hq
      · exact hne z.symm
      · exact ow.ne q hq z⟩
    obtain ⟨hp, st'⟩ := own_putO (o2 := .ins C dx (putF f (.ref d) fs)) ow' st2.swap
    exact ⟨p, C, dx, fs, rfl, hp, cl, na, hl, k d o io ow' ⟨owd.n0, fun q hq => owd.ne q (List.mem_cons_of_mem _ hq)⟩ σ _ st'⟩
/-- the end of an __init__ -/
theorem wp_endI {β : Type} [Rp β] {R : β → Prop} {b : β} (hf : FinI K Δ0 H0 p R D) (hb : R b) (h : ∀ H : Hp, (∀ q ∈ (p, ObIs (.ins C dx fs)) :: Γ, ∃ o, H q.1 = some o ∧ q.2 o) → (∀ q ∈ F, q.2.rp K Δ0 H q.1) → Rp.rp K Δ0 H (.ref p) b) : Wp K Δ0 H0 ((p, ObIs (.ins C dx fs)) :: Γ) F ρ tNext D := fun σ H ⟨Δ, s, hh, e, ff, e0, s1, s2⟩ =>
  hf σ H b hb e0 (h H (fun q hq => hh q.1 q.2 (s q hq)) fun q hq => q.2.r.weak (fun x o _ n => none0 s1 n) (ff q hq))
end
section
variable {K : PySem.W.Frag} {Γ : Own} {ρ : Z.Env} {ta tb te : TE}
/-- o.f of one's own instance, another object that is one's own too -/
theorem ev_fldO {p C dx d : Addr} {fs : List (Str × V)} {f : Str} (cl : Cls K C) (na : NoAttr K C f) (hm : (p, ObIs (.ins C dx fs)) ∈ Γ) (hl : fs.lookup f = some (.ref d)) (h : Ev K Γ te ρ (Is (⟨p⟩ : Loc))) : Ev K Γ (tFld K te f) ρ (Is (⟨d⟩ : Loc)) := fun Δ σ H Q s hh e k =>
  h Δ σ H _ s hh e fun v H1 a pa e1 r => by
    have ea : a = ⟨p⟩ := pa
    subst ea
    have ev : v = .ref p := r
    subst ev
    obtain ⟨u, hu, iu⟩ := e1.2 p _ (s _ hm)
    have iu' : u = HO.ins C dx fs := iu
    subst iu'
    exact ⟨p, C, dx, fs, .ref d, rfl, hu, cl, na, hl, k _ H1 ⟨d⟩ rfl e1 rfl⟩
/-- list(d), the dict one's own -/
theorem ev_listO {d : Addr} {ks : List Tx} (hm : (d, ObIs (.dK (kvT ks))) ∈ Γ) (h : Ev K Γ te ρ (Is (⟨d⟩ : Loc))) : Ev K Γ (tCB rListD (tCons te tNil)) ρ (Is ks) := fun Δ σ H Q s hh e k =>
  h Δ σ H _ s hh e fun v H1 a pa e1 r => by
    have ea : a = ⟨d⟩ := pa
    subst ea
    have ev : v = .ref d := r
    subst ev
    obtain ⟨u, hu, iu⟩ := e1.2 d _ (s _ hm)
    have iu' : u = HO.dK (kvT ks) := iu
    subst iu'
    refine ⟨d, kvT ks, rfl, hu, fun q hq => k _ _ ks rfl (e1.trans (Ext.new e1.2 hq _)) (new_lst e1.2 hq ?_)⟩
    have e2 : (kvT ks).map (fun kv => kV kv.1) = ks.map fun x => V.str (tS x) := by
      unfold kvT
      rw [List.map_map]
      rfl
    rw [e2]
    have em : ks = ks.map id := (List.map_id ks).symm
    conv => rhs; rw [em]
    exact All2.map fun x _ => Rp.mono (K := K) (Δ := Δ) (Keep.refl Δ _) rfl
/-- texts in their order -/
def SortedT (a b : List Tx) : Prop := b.Perm a ∧ b.Pairwise fun x y => ¬ y.s < x.s
theorem o1_sortedT {xs : List Tx} : Op1 K (rSortedT K) xs (SortedT xs) := fun Δ H v Q hh r k => by
  obtain ⟨p, vs, rfl, n, s, q⟩ := r
  have ev := all2_tx q
  subst ev
  refine ⟨p, _, rfl, s, fun ns' l hp hr hl => ?_⟩
  have e1 : ns' = (ns'.map fun z => (⟨z.cps.toList⟩ : Tx)).map fun x => (⟨x.s.toArray⟩ : Str) := by
    rw [List.map_map]
    conv => lhs; rw [← List.map_id ns']
    exact List.map_congr_left fun z _ => by cases z; rfl
  refine k _ _ (ns'.map fun z => (⟨z.cps.toList⟩ : Tx)) ⟨?_, ?_⟩ (Ext.new hh hl _) (new_lst hh hl ?_)
  · have h := hp.map fun z => (⟨z.cps.toList⟩ : Tx)
    rw [List.map_map] at h
    have e2 : (xs.map ((fun z => (⟨z.cps.toList⟩ : Tx)) ∘ fun x => (⟨x.s.toArray⟩ : Str))) = xs := by
      conv => rhs; rw [← List.map_id xs]
      exact List.map_congr_left fun z _ => by cases z; rfl
    rw [e2] at h
    exact h
  · exact List.pairwise_map.mpr hr
  · have e2 : ns'.map V.str = (ns'.map fun z => (⟨z.cps.toList⟩ : Tx)).map fun x => V.str ⟨x.s.toArray⟩ := by
      conv => lhs; rw [e1]
      rw [List.map_map]
      rfl
    rw [e2]
    have em : (ns'.map fun z => (⟨z.cps.toList⟩ : Tx)) = (ns'.map fun z => (⟨z.cps.toList⟩ : Tx)).map id := (List.map_id _).symm
    conv => rhs; rw [em]
    exact All2.map fun x _ => rfl
end
end Z
namespace Z
open PySem PySem.Spec PyProof.Rows L2
/-- o.f where K is a letter (within a comprehension) -/
theorem pe_fldK {X : Cx} {K : PySem.W.Frag} {o : Expr} {f : Str} {pos : Pos} {ta : TE} (he : PE X o ta) (hb : attributeBase o f X.env (eval o X.env) = eval o X.env) (h : X.K = K := by rfl) : PE X (.Attribute o f pos) (tFld K ta f) := by
  subst h
  exact pe_fld he hb
end Z

set_option Elab.async false
set_option linter.all false
set_option maxRecDepth 100000
set_option maxHeartbeats 1000000
/-! own operators of instances: x - y, x | y, x & y; x == y -/
namespace Zo
open PySem PyProof.Rows PySem.W
section
variable {prog : Program} {w : World} {K : Frag} {A : Around} {E : Value → Shared → Prop} {s : Shared} {x y C D f : Addr} {ox oy : Obj} {od oe : Option Obj} {nm : String}
/-- the first of the class's own line is the class -/
def lineOk (K : Frag) (C : Addr) : Bool := (clsIn K C).any fun cd => cd.mro.head? == some (.ref C)
theorem fills_own (X : K.In s.heap) (hl : lineOk K C = true) (hs : findIn K (.ref C) (dunder nm) = some (some (.ref f))) {Q : Bool → Shared → Prop} (h : Q true s) : wpAny (model prog w) A (fillsNumberSlot (.ref C) nm) Q E s := by
  unfold lineOk at hl
  cases hc : clsIn K C with
  | none => rw [hc] at hl; cases hl
  | some cd =>
    rw [hc] at hl
    have hm : cd.mro.head? = some (.ref C) := by simpa using hl
    cases hr : cd.mro with
    | nil => rw [hr] at hm; cases hm
    | cons z rest =>
      rw [hr] at hm
      have ez : z = .ref C := Option.some.inj hm
      subst ez
      unfold fillsNumberSlot
      refine wpAny_bind (m := mroOf _) (wpAny_bind ((looks_clsIn X hc).here (wpAny_pure ?_)))
      rw [hr]
      simp only [List.anyM]
      refine wpAny_bind (wpAny_bind ?_)
      refine wpAny_bind ((looks_findIn X hs).here ?_)
      exact wpAny_pure (wpAny_pure (wpAny_pure h))
/-- x op y of two instances of one class that has a def for op -/
theorem own_binop {op : Operator} {Q : Value → Shared → Prop} (X : K.In s.heap) (I : InstAt s.heap x ox C od) (J : InstAt s.heap y oy C oe) (hl : lineOk K C = true) (hs : findIn K (.ref C) (dunder op.info.2) = some (some (.ref f))) (hf : isFn K (.ref f) = true)
    (h : wpAny (model prog w) A (call (.ref f) [.ref x, .ref y]) (PySem.W.CmpBack Q) E s) : wpAny (model prog w) A (binaryOp op (.ref x) (.ref y)) Q E s := by
  rcases hi : op.info with ⟨sym, nm⟩
  rw [hi] at hs
  have one : wpAny (model prog w) A (tryMethod (.ref x) (dunder nm) (.ref y)) (fun r s' => ∃ v, r = some v ∧ Q v s') E s := by
    unfold tryMethod
    refine wpAny_bind (special_fn X I hs (beq_iff_eq.mp hf) (wpAny_mono h (fun v s' hv => ?_) fun _ _ e => e))
    cases v <;> first | exact hv.elim | exact wpAny_pure ⟨_, rfl, hv⟩
  simp only [binaryOp, hi]
  refine wpAny_holding (wpAny_bind ?_)
  simp only [binaryOp1]
  refine wpAny_bind (I.type.here (wpAny_bind (J.type.here (wpAny_bind (fills_own X hl hs ?_)))))
  simp only [beq_self_eq_true, if_true, pure_bind, Bool.and_false, Bool.false_and, Bool.false_eq_true, if_false]
  refine wpAny_bind (wpAny_mono one (fun r s' hr => ?_) fun _ _ e => e)
  obtain ⟨v, rfl, hq⟩ := hr
  exact wpAny_pure (wpAny_pure hq)
/-- x != y where the class has an == of its own and no != -/
theorem own_ne {Q : Value → Shared → Prop} (X : K.In s.heap) (I : InstAt s.heap x ox C od) (J : InstAt s.heap y oy C oe) (hu : A.units + 1 < cLine) (hne : findIn K (.ref C) "__ne__" = some (some (.builtin "object.__ne__"))) (he : findIn K (.ref C) "__eq__" = some (some (.ref f))) (hf : isFn K (.ref f) = true) (hm : mroIn K C (.type "object") = some true)
    (h : wpAny (model prog w) A.in1 (call (.ref f) [.ref x, .ref y]) (fun v s' => ∃ b, v = .bool b ∧ Q (.bool (!b)) s') E s) : wpAny (model prog w) A (richCompare .NotEq (.ref x) (.ref y)) Q E s := by
  have sub : Looks (model prog w) s.heap (isInstance (.ref x) (.type "object")) true := I.type.andThen (looks_mroIn X hm)
  have one : wpAny (model prog w) A (tryCompare (.ref x) "__ne__" (.ref y)) (fun r s' => ∃ v, r = some v ∧ Q v s') E s := by
    unfold tryCompare
    have cal : wpAny (model prog w) A (call (.builtin "object.__ne__") [.ref x, .ref y]) (fun v s' => ∃ b, v = .bool b ∧ Q (.bool b) s') E s := by
      refine wpAny_call (codeAny_call_builtin F.cmp_object.ne.plain F.cmpEntry_ne (check_slot F.cmpKind_ne F.cmpSplit_ne sub (F.cmpArgs_ne _ _) ?_))
      show wpAny _ _ (Builtin.«object.__ne__» ⟨[.ref x, .ref y], []⟩) _ _ _
      unfold Builtin.«object.__ne__»
      repeat (first
        | with_reducible refine wpAny_cRoomFor (A := A.in1) (by have := hu; simp only [Around.in1] at *; omega) ?_
        | (refine wpAny_bind (m := callSpecialIfBound? (.ref x) (Str.ofString "__eq__") [.ref y]) (ifBound_K X I he hf (wpAny_mono h (fun r s' hr => ?_) fun _ _ e => e)); obtain ⟨b, rfl, hq⟩ := hr)
        | wp_step)
      all_goals exact ⟨_, rfl, hq⟩
    refine wpAny_bind (m := callSpecialIfBound? (.ref x) (Str.ofString "__ne__") [.ref y]) ?_
    simp only [callSpecialIfBound?, bindSpecialIfBound?]
    refine wpAny_holding (wpAny_bind (wpAny_bind (wpAny_bind (I.type.here ((looks_findIn X hne).here ?_)))))
    refine wpAny_bind (wpAny_askSetting (wpAny_ite ?_))
    have fin : wpAny (model prog w) A (call (.builtin "object.__ne__") ([.ref x] ++ [.ref y]) >>= fun v => pure (some v)) (fun a s' => wpAny (model prog w) A (match a with
      | some .notImplemented | none => pure none
      | some v => pure (some v)) (fun r s' => ∃ v, r = some v ∧ Q v s') E s') E s := wpAny_bind (wpAny_mono cal (fun v s' hv => by obtain ⟨b, rfl, hq⟩ := hv; exact wpAny_pure (wpAny_pure ⟨_, rfl, hq⟩)) fun _ _ e => e)
    split
    · exact wpAny_bind (wpAny_of_eq (F.cmp_object.ne.bind _) (wpAny_pure fin))
    · exact wpAny_tryCatch (wpAny_bind (wpAny_of_eq (F.cmp_object.ne.bind _) (wpAny_pure fin)))
  unfold richCompare
  simp only [oneThing_ref]
  refine wpAny_holding (wpAny_bind (wpAny_cRoomFor (by omega) ?_))
  refine wpAny_bind (I.type.here (wpAny_bind (J.type.here ?_)))
  rw [show (Value.ref C != Value.ref C) = false from by simp]
  simp only [Bool.false_eq_true, if_false]
  refine wpAny_bind (wpAny_pure ?_)
  simp only [Bool.false_eq_true, if_false]
  refine wpAny_bind (wpAny_mono one (fun r s' hr => ?_) fun _ _ e => e)
  obtain ⟨v, rfl, hq⟩ := hr
  exact wpAny_pure hq
end
end Zo
namespace L2
open PySem PySem.Spec PyProof.Rows
/-- x op y, two instances of the class at C whose def for op promises sp -/
def rOwnI (C : Addr) (sp : Sp) (E : XK) : R2 := fun x y H Q => ∃ a dx fs b dy gs, x = .ref a ∧ y = .ref b ∧ H a = some (.ins C dx fs) ∧ H b = some (.ins C dy gs) ∧ sp [x, y] H Q E
section
variable {X : Cx} {CX : CXT} {k : Nat} {C g : Addr} {fd : FuncData} {ps : List Str} {sp : Sp} {E : XK}
theorem op_binI {op : Operator} (hl : Zo.lineOk X.K C = true) (hs : PySem.W.findIn X.K (.ref C) (dunder op.info.2) = some (some (.ref g))) (hf : PySem.W.isFn X.K (.ref g) = true) (F : FnOk X.prog X.w X.K X.mg X.base CX k g fd ps sp)
    (hr : Room k X.A) (hb : Binds X.K fd ps []) (hx : Passes CX X E) : OpR X (binaryOp op) (rOwnI C sp E) := by
  intro pins s σ H x y v u Q I rx ry h
  obtain ⟨a, dx, fs, b, dy, gs, rfl, rfl, ha, hb', q⟩ := h
  obtain rfl : v = Value.ref a := rx
  obtain rfl : u = Value.ref b := ry
  obtain ⟨_, J1, _⟩ := ins_get I.hok ha
  obtain ⟨_, J2, _⟩ := ins_get I.hok hb'
  obtain ⟨_, J1, _⟩ := J1.look
  obtain ⟨_, J2, _⟩ := J2.look
  refine Zo.own_binop I.kIn J1 J2 hl hs hf (wpAny_mono (run_fn (us := [.ref a, .ref b]) (vs := [.ref a, .ref b]) F hr hb .nil hx I (.cons rfl (.cons rfl .nil)) q) (fun w s' z => ?_) fun _ _ z => z)
  obtain ⟨z', H', I', rz, qz⟩ := z
  exact SlX.cmpback rz ⟨z', H', I', rz, qz⟩
theorem op_eqI (hs : PySem.W.findIn X.K (.ref C) "__eq__" = some (some (.ref g))) (hf : PySem.W.isFn X.K (.ref g) = true) (F : FnOk X.prog X.w X.K X.mg X.base CX k g fd ps sp)
    (hr : Room k X.A) (hb : Binds X.K fd ps []) (hx : Passes CX X E) : OpR X (compareOp .Eq) (rOwnI C sp E) := by
  intro pins s σ H x y v u Q I rx ry h
  obtain ⟨a, dx, fs, b, dy, gs, rfl, rfl, ha, hb', q⟩ := h
  obtain rfl : v = Value.ref a := rx
  obtain rfl : u = Value.ref b := ry
  obtain ⟨_, J1, _⟩ := ins_get I.hok ha
  obtain ⟨_, J2, _⟩ := ins_get I.hok hb'
  obtain ⟨_, J1, _⟩ := J1.look
  obtain ⟨_, J2, _⟩ := J2.look
  obtain ⟨m, hF⟩ := I.fr
  refine PySem.W.cmp_K (op := .Eq) (tb := .ref C) hr.units0 hF I.ok.mod.kin J1 J2.type (by simp [PySem.W.notFirst]) hs hf (wpAny_mono (run_fn (us := [.ref a, .ref b]) (vs := [.ref a, .ref b]) F hr hb .nil hx I (.cons rfl (.cons rfl .nil)) q) (fun w s' z => ?_) fun _ _ z => z)
  obtain ⟨z', H', I', rz, qz⟩ := z
  exact SlX.cmpback rz ⟨z', H', I', rz, qz⟩
/-- x != y -/
def rOwnNe (C : Addr) (sp : Sp) (E : XK) : R2 := fun x y H Q => ∃ a dx fs b dy gs, x = .ref a ∧ y = .ref b ∧ H a = some (.ins C dx fs) ∧ H b = some (.ins C dy gs) ∧ sp [x, y] H (fun z H' => ∃ r, z = .bl r ∧ Q (.bl (!r)) H') E
theorem op_neI (hne : PySem.W.findIn X.K (.ref C) "__ne__" = some (some (.builtin "object.__ne__"))) (hs : PySem.W.findIn X.K (.ref C) "__eq__" = some (some (.ref g))) (hf : PySem.W.isFn X.K (.ref g) = true) (hm : PySem.W.mroIn X.K C (.type "object") = some true)
    (F : FnOk X.prog X.w X.K X.mg X.base CX k g fd ps sp) (hr : Room (k + 1) X.A) (hb : Binds X.K fd ps []) (hx : Passes CX X E) : OpR X (compareOp .NotEq) (rOwnNe C sp E) := by
  intro pins s σ H x y v u Q I rx ry h
  obtain ⟨a, dx, fs, b, dy, gs, rfl, rfl, ha, hb', q⟩ := h
  obtain rfl : v = Value.ref a := rx
  obtain rfl : u = Value.ref b := ry
  obtain ⟨_, J1, _⟩ := ins_get I.hok ha
  obtain ⟨_, J2, _⟩ := ins_get I.hok hb'
  obtain ⟨_, J1, _⟩ := J1.look
  obtain ⟨_, J2, _⟩ := J2.look
  have hl := F.len _ _ _ _ q
  have r2 : Vals [V.ref a, V.ref b] [Value.ref a, Value.ref b] := .cons rfl (.cons rfl .nil)
  refine Zo.own_ne I.kIn J1 J2 ?hu hne hs hf hm (wpAny_call (codeAny_mono (F.run X.A.in1 X.stack s H ⟨[.ref a, .ref b], []⟩ [.ref a, .ref b] [.ref a, .ref b] _ E hr.in1 I.env0.in1 (by
    have := hb s [.ref a, .ref b] I.kIn (by simpa using hl)
    simpa using this) r2 q) fun r s' hq => ?_))
  case hu =>
    have h1 := hr.un
    omega
  cases r with
  | error e => exact hx pins σ H s e s' I hq
  | ok fl =>
    cases fl with
    | ret w =>
      obtain ⟨z, H', I', rz, r, rfl, qz⟩ := I.after hq
      obtain rfl : w = Value.bool r := rz
      exact ⟨r, rfl, .bl (!r), H', I', rfl, qz⟩
    | next => exact False.elim hq
    | brk => exact False.elim hq
    | cont => exact False.elim hq
/-- len(x) -/
def rLenI (C : Addr) (sp : Sp) (E : XK) : List V → Hp → VK → Prop := fun xs H Q => ∃ a dx fs, xs = [.ref a] ∧ H a = some (.ins C dx fs) ∧ sp [.ref a] H (fun z H' => ∃ n : Nat, n ≤ 100000000 ∧ z = .int n ∧ Q (.int n) H') E
theorem call_lenI (hs : PySem.W.findIn X.K (.ref C) "__len__" = some (some (.ref g))) (hf : PySem.W.isFn X.K (.ref g) = true) (F : FnOk X.prog X.w X.K X.mg X.base CX k g fd ps sp) (hr : Room (k + 1) X.A) (hb : Binds X.K fd ps []) (hx : Passes CX X E) : CallR X (.builtin "len") (rLenI C sp E) := by
  intro pins s σ H xs us Q I r h
  obtain ⟨a, dx, fs, rfl, ha, q⟩ := h
  rw [Vals.ref1 r]
  obtain ⟨_, J1, _⟩ := ins_get I.hok ha
  obtain ⟨_, J1, _⟩ := J1.look
  obtain ⟨m, hF⟩ := I.fr
  have hl := F.len _ _ _ _ q
  refine PySem.W.len_K hF I.ok.mod.kin J1 hs hf (wpAny_call (codeAny_mono (F.run X.A.in1 X.stack s H ⟨[.ref a], []⟩ [.ref a] [.ref a] _ E hr.in1 I.env0.in1 (by
    have := hb s [.ref a] I.kIn (by simpa using hl)
    simpa using this) (.cons rfl .nil) q) fun r s' hq => ?_))
  cases r with
  | error e => exact hx pins σ H s e s' I hq
  | ok fl =>
    cases fl with
    | ret w =>
      obtain ⟨z, H', I', rz, n, hn, rfl, qz⟩ := I.after hq
      obtain ⟨t, rfl⟩ := (show ∃ t, w = Value.int n t from rz)
      refine ⟨⟨by omega, by omega⟩, ?_⟩
      exact ⟨.int n, H', I'.kept (t' := s'.toks + 1) (fun _ _ e => e), ⟨_, rfl⟩, qz⟩
    | next => exact False.elim hq
    | brk => exact False.elim hq
    | cont => exact False.elim hq
end
end L2

set_option Elab.async false
set_option linter.all false
set_option maxRecDepth 100000
set_option maxHeartbeats 1000000
/-! v in x, x an instance with an own __contains__ -/
namespace Zo
open PySem PyProof.Rows PySem.W
section
variable {prog : Program} {w : World} {K : Frag} {A : Around} {E : Value → Shared → Prop} {s : Shared} {x C f : Addr} {ox : Obj} {od : Option Obj}
theorem own_in {Q : Bool → Shared → Prop} {v : Value} (X : K.In s.heap) (I : InstAt s.heap x ox C od) (hs : findIn K (.ref C) "__contains__" = some (some (.ref f))) (hf : isFn K (.ref f) = true)
    (h : wpAny (model prog w) A (call (.ref f) [.ref x, v]) (fun r s' => ∃ b, r = .bool b ∧ Q b s') E s) : wpAny (model prog w) A (contains (.ref x) v) Q E s := by
  unfold contains
  refine wpAny_holding ?_
  have e0 : stdlibNamesSay? (.ref x) v = none := by
    cases v <;> rfl
  simp only [e0]
  have sp : ∀ {α : Type} {k : Option Value → Sem α} {Q' : α → Shared → Prop}, wpAny (model prog w) A (k (some (.ref f))) Q' E s → wpAny (model prog w) A (specialOf (.ref x) "__contains__" >>= k) Q' E s := fun q => wpAny_bind (wpAny_bind (I.type.here ((looks_findIn X hs).here q)))
  refine sp ?_
  have e1 : ((some (Value.ref f) : Option Value) == some Value.none) = false := by rfl
  rw [e1]
  simp only [Bool.false_eq_true, if_false]
  unfold callSpecialUnlessNone?
  refine wpAny_bind (sp ?_)
  refine wpAny_holding (wpAny_bind ((bind_fn X _ (beq_iff_eq.mp hf)).here ?_))
  have e2 : (Value.ref f == Value.none) = false := by rfl
  simp only [e2, Bool.false_eq_true, if_false]
  refine wpAny_bind (wpAny_mono h (fun r s' hr => ?_) fun _ _ e => e)
  obtain ⟨b, rfl, hq⟩ := hr
  exact wpAny_pure (wpAny_truthy_bool hq)
end
end Zo

namespace L2
open PySem PySem.Spec PyProof.Rows
/-- v in x -/
def rOwnIn (C : Addr) (neg : Bool) (sp : Sp) (E : XK) : R2 := fun x y H Q => ∃ a dx fs, y = .ref a ∧ H a = some (.ins C dx fs) ∧ sp [y, x] H (fun z H' => ∃ r, z = .bl r ∧ Q (.bl (if neg then !r else r)) H') E
section
variable {X : Cx} {CX : CXT} {k : Nat} {C g : Addr} {fd : FuncData} {ps : List Str} {sp : Sp} {E : XK}
theorem run_in {pins : List (Addr × Obj)} {σ : St} {H : Hp} {s : Shared} {a dx : Addr} {fs : List (Str × V)} {x : V} {v : Value} {Q : V → Hp → Prop} {neg : Bool} {E1 : Value → Shared → Prop} (hE : E1 = X.xe)
    (hs : PySem.W.findIn X.K (.ref C) "__contains__" = some (some (.ref g))) (hf : PySem.W.isFn X.K (.ref g) = true) (F : FnOk X.prog X.w X.K X.mg X.base CX k g fd ps sp) (hr : Room k X.A) (hb : Binds X.K fd ps []) (hx : Passes CX X E)
    (I : Inv X pins σ H s) (rx : RelV x v) (ha : H a = some (.ins C dx fs)) (q : sp [.ref a, x] H (fun z H' => ∃ r, z = .bl r ∧ Q (.bl (if neg then !r else r)) H') E) :
    wpAny (model X.prog X.w) X.A (contains (.ref a) v) (fun b s' => EP X pins σ Q (.bool (if neg then !b else b)) s') E1 s := by
  subst hE
  obtain ⟨_, J1, _⟩ := ins_get I.hok ha
  obtain ⟨_, J1, _⟩ := J1.look
  refine Zo.own_in I.kIn J1 hs hf (wpAny_mono (run_fn (us := [.ref a, v]) (vs := [.ref a, x]) F hr hb .nil hx I (.cons rfl (.cons rx .nil)) q) (fun w s' z => ?_) fun _ _ z => z)
  obtain ⟨z', H', I', rz, r, rfl, qz⟩ := z
  obtain rfl : w = Value.bool r := rz
  exact ⟨r, rfl, .bl (if neg then !r else r), H', I', rfl, qz⟩
theorem op_inI (hs : PySem.W.findIn X.K (.ref C) "__contains__" = some (some (.ref g))) (hf : PySem.W.isFn X.K (.ref g) = true) (F : FnOk X.prog X.w X.K X.mg X.base CX k g fd ps sp)
    (hr : Room k X.A) (hb : Binds X.K fd ps []) (hx : Passes CX X E) : OpR X (compareOp .In) (rOwnIn C false sp E) := by
  intro pins s σ H x y v u Q I rx ry h
  obtain ⟨a, dx, fs, rfl, ha, q⟩ := h
  obtain rfl : u = Value.ref a := ry
  show wpAny (model X.prog X.w) X.A (contains (Value.ref a) v >>= fun b => (pure (Value.bool b) : Sem Value)) _ _ s
  exact wpAny_bind (wpAny_mono (run_in (neg := false) rfl hs hf F hr hb hx I rx ha q) (fun b s' z => wpAny_pure z) fun _ _ z => z)
theorem op_notInI (hs : PySem.W.findIn X.K (.ref C) "__contains__" = some (some (.ref g))) (hf : PySem.W.isFn X.K (.ref g) = true) (F : FnOk X.prog X.w X.K X.mg X.base CX k g fd ps sp)
    (hr : Room k X.A) (hb : Binds X.K fd ps []) (hx : Passes CX X E) : OpR X (compareOp .NotIn) (rOwnIn C true sp E) := by
  intro pins s σ H x y v u Q I rx ry h
  obtain ⟨a, dx, fs, rfl, ha, q⟩ := h
  obtain rfl : u = Value.ref a := ry
  show wpAny (model X.prog X.w) X.A (contains (Value.ref a) v >>= fun b => (pure (Value.bool (!b)) : Sem Value)) _ _ s
  exact wpAny_bind (wpAny_mono (run_in (neg := true) rfl hs hf F hr hb hx I rx ha q) (fun b s' z => wpAny_pure z) fun _ _ z => z)
end
end L2

set_option Elab.async false
set_option linter.all false
set_option maxRecDepth 100000
set_option maxHeartbeats 1000000
/-! own operators, on data -/
namespace Z
open PySem PySem.Spec PyProof.Rows L2
/-- a datum that is an instance of the class at C -/
def IsIns (K : PySem.W.Frag) (C : Addr) (β : Type) [Rp β] : Prop := ∀ (Δ : Gh) (H : Hp) (v : V) (b : β), Rp.rp K Δ H v b → ∃ a dx fs, v = .ref a ∧ H a = some (.ins C dx fs)
section
variable {K : PySem.W.Frag} {Γ : Own} {ρ : Z.Env} {ta tb te : TE} {α β γ : Type} [Rp α] [Rp β] [Rp γ] {C : Addr} {E : XK} {Pb : γ → Prop}
/-- a op b -/
theorem ev_binI {F : Own → List Cell → (γ → Prop) → Prop} {a b : β} (hI : IsIns K C β) (ha : Ev K Γ ta ρ (Is a)) (hb : Ev K Γ tb ρ (Is b)) (hF : F Γ [⟨a⟩, ⟨b⟩] Pb) : Ev K Γ (tOp (rOwnI C (spD K F) E) ta tb) ρ Pb := fun Δ σ H Q s hh e k =>
  ha Δ σ H _ s hh e fun v H1 a' pa e1 r1 => hb Δ σ H1 _ s e1.2 (e.mono e1.1) fun u H2 b' pb e2 r2 => by
    have ea : a' = a := pa
    have eb : b' = b := pb
    subst ea eb
    have r1' := Rp.mono e2.1 r1
    obtain ⟨p, dx, fs, rfl, hp⟩ := hI Δ H2 v _ r1'
    obtain ⟨q, dy, gs, rfl, hq⟩ := hI Δ H2 u _ r2
    exact ⟨p, dx, fs, q, dy, gs, rfl, rfl, hp, hq, Γ, Δ, [⟨a'⟩, ⟨b'⟩], Pb, hF, s, e2.2, ⟨r1', r2, trivial⟩, fun z H' c pc e3 r3 => k z H' c pc (e1.trans (e2.trans e3)) r3⟩
/-- a != b -/
theorem ev_neI {F : Own → List Cell → (Bool → Prop) → Prop} {a b : β} {r : Bool} (hI : IsIns K C β) (ha : Ev K Γ ta ρ (Is a)) (hb : Ev K Γ tb ρ (Is b)) (hF : F Γ [⟨a⟩, ⟨b⟩] (Is r)) : Ev K Γ (tOp (rOwnNe C (spD K F) E) ta tb) ρ (Is (!r)) := fun Δ σ H Q s hh e k =>
  ha Δ σ H _ s hh e fun v H1 a' pa e1 r1 => hb Δ σ H1 _ s e1.2 (e.mono e1.1) fun u H2 b' pb e2 r2 => by
    have ea : a' = a := pa
    have eb : b' = b := pb
    subst ea eb
    have r1' := Rp.mono e2.1 r1
    obtain ⟨p, dx, fs, rfl, hp⟩ := hI Δ H2 v _ r1'
    obtain ⟨q, dy, gs, rfl, hq⟩ := hI Δ H2 u _ r2
    exact ⟨p, dx, fs, q, dy, gs, rfl, rfl, hp, hq, Γ, Δ, [⟨a'⟩, ⟨b'⟩], Is r, hF, s, e2.2, ⟨r1', r2, trivial⟩, fun z H' c pc e3 r3 => ⟨c, r3, k _ H' (!c) (by rw [show c = r from pc]; rfl) (e1.trans (e2.trans e3)) rfl⟩⟩
/-- x in b, x not in b -/
theorem ev_inI {F : Own → List Cell → (Bool → Prop) → Prop} {x : α} {b : β} {r neg : Bool} (hI : IsIns K C β) (ha : Ev K Γ ta ρ (Is x)) (hb : Ev K Γ tb ρ (Is b)) (hF : F Γ [⟨b⟩, ⟨x⟩] (Is r)) : Ev K Γ (tOp (rOwnIn C neg (spD K F) E) ta tb) ρ (Is (if neg then !r else r)) := fun Δ σ H Q s hh e k =>
  ha Δ σ H _ s hh e fun v H1 a' pa e1 r1 => hb Δ σ H1 _ s e1.2 (e.mono e1.1) fun u H2 b' pb e2 r2 => by
    have ea : a' = x := pa
    have eb : b' = b := pb
    subst ea eb
    have r1' := Rp.mono e2.1 r1
    obtain ⟨q, dy, gs, rfl, hq⟩ := hI Δ H2 u _ r2
    exact ⟨q, dy, gs, rfl, hq, Γ, Δ, [⟨b'⟩, ⟨a'⟩], Is r, hF, s, e2.2, ⟨r2, r1', trivial⟩, fun z H' c pc e3 r3 => ⟨c, r3, k _ H' _ (by rw [show c = r from pc]; rfl) (e1.trans (e2.trans e3)) rfl⟩⟩
/-- len(b) -/
theorem ev_lenI {F : Own → List Cell → (Int → Prop) → Prop} {b : β} {n : Nat} (hI : IsIns K C β) (hb : Ev K Γ te ρ (Is b)) (hn : n ≤ 100000000) (hF : F Γ [⟨b⟩] (Is (n : Int))) : Ev K Γ (tCB (rLenI C (spD K F) E) (tCons te tNil)) ρ (Is (n : Int)) := fun Δ σ H Q s hh e k =>
  hb Δ σ H _ s hh e fun u H1 b' pb e1 r1 => by
    have eb : b' = b := pb
    subst eb
    obtain ⟨q, dy, gs, rfl, hq⟩ := hI Δ H1 u _ r1
    exact ⟨q, dy, gs, rfl, hq, Γ, Δ, [⟨b'⟩], Is (n : Int), hF, s, e1.2, ⟨r1, trivial⟩, fun z H' c pc e3 r3 => ⟨n, hn, by rw [show z = .int c from r3, show c = (n : Int) from pc], k _ H' (n : Int) rfl (e1.trans e3) rfl⟩⟩
end
end Z

set_option Elab.async false
set_option linter.all false
set_option maxRecDepth 100000
set_option maxHeartbeats 1000000
/-! == and != of lists and tuples of texts -/
namespace Z
open PySem PySem.Spec PyProof.Rows L2
theorem beq_tS (x y : Tx) : (tS x == tS y) = decide (x = y) := by
  by_cases h : x = y
  · subst h
    simp
  · rw [decide_eq_false h]
    exact beq_eq_false_iff_ne.mpr fun z => h (tS_inj.mp z)
theorem eqv_txs : ∀ xs ys : List Tx, PyData.eqvAll (xs.map Dt.d) (ys.map Dt.d) = decide (xs = ys)
  | [], [] => by simp [PyData.eqvAll]
  | [], y :: ys => by simp [PyData.eqvAll]
  | x :: xs, [] => by simp [PyData.eqvAll]
  | x :: xs, y :: ys => by
    have more := eqv_txs xs ys
    rw [List.map_cons, List.map_cons, PyData.eqvAll, more]
    show ((tS x == tS y) && _) = _
    rw [beq_tS]
    by_cases h : x = y <;> simp [h]
/-- texts that may be written -/
def TOk (xs : List Tx) : Prop := ∀ x ∈ xs, PyData.canLay0 (Dt.d x) = true
theorem lay_txs : ∀ {xs : List Tx}, TOk xs → PyData.canLayAll0 (xs.map Dt.d) = true ∧ PyData.depthAll (xs.map Dt.d) = 0
  | [], _ => by simp [PyData.canLayAll0, PyData.depthAll]
  | x :: xs, h => by
    have more := lay_txs (xs := xs) fun y hy => h y (List.mem_cons_of_mem _ hy)
    rw [List.map_cons, PyData.canLayAll0, PyData.depthAll, more.1, more.2]
    have h1 : PyData.canLay0 (Dt.d x) = true := h x List.mem_cons_self
    rw [h1]
    exact ⟨rfl, rfl⟩
theorem shaped_tS {xs : Tup Tx} (h : TOk xs.l) : SeqAt.shaped (Dt.d xs) = true := by
  unfold SeqAt.shaped
  show (PyData.canLay0 (.tuple _) && decide (PyData.depth (.tuple _) ≤ 64)) = true
  rw [PyData.canLay0, PyData.depth, (lay_txs h).1, (lay_txs h).2]
  rfl
theorem shaped_lS {xs : List Tx} (h : TOk xs) : SeqAt.shaped (Dt.d xs) = true := by
  unfold SeqAt.shaped
  show (PyData.canLay0 (.list _) && decide (PyData.depth (.list _) ≤ 64)) = true
  rw [PyData.canLay0, PyData.depth, (lay_txs h).1, (lay_txs h).2]
  rfl
section
variable {K : PySem.W.Frag}
theorem o2_eqTS {x y : Tup Tx} (hx : TOk x.l) (hy : TOk y.l) : Op2 K (rEqD K) x y (Is (decide (x.l = y.l))) := by
  rw [← eqv_txs x.l y.l]
  exact o2_eqD (shaped_tS hx) (shaped_tS hy)
theorem o2_neTS {x y : Tup Tx} (hx : TOk x.l) (hy : TOk y.l) : Op2 K (rNeD K) x y (Is (!decide (x.l = y.l))) := by
  rw [← eqv_txs x.l y.l]
  exact o2_neD (shaped_tS hx) (shaped_tS hy)
theorem o2_eqLS {x y : List Tx} (hx : TOk x) (hy : TOk y) : Op2 K (rEqD K) x y (Is (decide (x = y))) := by
  rw [← eqv_txs x y]
  exact o2_eqD (shaped_lS hx) (shaped_lS hy)
theorem o2_neLS {x y : List Tx} (hx : TOk x) (hy : TOk y) : Op2 K (rNeD K) x y (Is (!decide (x = y))) := by
  rw [← eqv_txs x y]
  exact o2_neD (shaped_lS hx) (shaped_lS hy)
end
end Z

set_option Elab.async false
set_option linter.all false
set_option maxRecDepth 100000
set_option maxHeartbeats 1000000
/-! properties and methods, on data -/
namespace Z
open PySem PySem.Spec PyProof.Rows L2
/-- a datum that is an instance of the class at C without an attribute m of its own -/
def IsInsM (K : PySem.W.Frag) (C : Addr) (m : Str) (β : Type) [Rp β] : Prop := ∀ (Δ : Gh) (H : Hp) (v : V) (b : β), Rp.rp K Δ H v b → ∃ a dx fs, v = .ref a ∧ H a = some (.ins C dx fs) ∧ fs.lookup m = none
section
variable {K : PySem.W.Frag} {Γ : Own} {ρ : Z.Env} {ta tb te : TE} {tl : TA} {α β γ : Type} [Rp α] [Rp β] [Rp γ] {C : Addr} {E : XK} {Pb : γ → Prop} {m : Str}
/-- b.m, a property -/
theorem ev_prop {F : Own → List Cell → (γ → Prop) → Prop} {b : β} (hI : IsIns K C β) (h : Ev K Γ te ρ (Is b)) (hF : F Γ [⟨b⟩] Pb) : Ev K Γ (tProp C (spD K F) [] E te) ρ Pb := fun Δ σ H Q s hh e k =>
  h Δ σ H _ s hh e fun v H1 b' pb e1 r1 => by
    have eb : b' = b := pb
    subst eb
    obtain ⟨p, dx, fs, rfl, hp⟩ := hI Δ H1 v _ r1
    exact ⟨p, dx, fs, rfl, hp, Γ, Δ, [⟨b'⟩], Pb, hF, s, e1.2, ⟨r1, trivial⟩, fun z H' c pc e3 r3 => k z H' c pc (e1.trans e3) r3⟩
/-- b.m(e, ..) -/
theorem ev_meth {F : Own → List Cell → (γ → Prop) → Prop} {b : β} {cs : List Cell} (hI : IsInsM K C m β) (h : Ev K Γ te ρ (Is b)) (ha : EvA K Γ tl ρ (Is cs)) (hF : F Γ (⟨b⟩ :: cs) Pb) : Ev K Γ (tMeth C m (spD K F) [] E te tl) ρ Pb := fun Δ σ H Q s hh e k =>
  h Δ σ H _ s hh e fun v H1 b' pb e1 r1 => by
    have eb : b' = b := pb
    subst eb
    obtain ⟨p, dx, fs, rfl, hp, hm⟩ := hI Δ H1 v _ r1
    refine ⟨p, dx, fs, rfl, hp, hm, ha Δ σ H1 _ s e1.2 (e.mono e1.1) fun vs H2 cs' pcs e2 r2 => ?_⟩
    have ec : cs' = cs := pcs
    subst ec
    exact ⟨Γ, Δ, ⟨b'⟩ :: cs', Pb, hF, s, e2.2, ⟨Rp.mono e2.1 r1, by rw [List.append_nil]; exact r2⟩, fun z H' c pc e3 r3 => k z H' c pc (e1.trans (e2.trans e3)) r3⟩
end
end Z

set_option Elab.async false
set_option linter.all false
set_option maxRecDepth 100000
set_option maxHeartbeats 1000000
/-! the head tells properties too -/
namespace Zh
open PySem PySem.Spec PyProof.Rows L2 He
/-- where the getter of x's property m stands -/
def pg (K : PySem.W.Frag) (x m : Str) : Addr := match PySem.W.recIn K (ma K (ga K x) m) "property" with
  | some (.ref g :: _) => g
  | _ => 0
/-- a function that stands at a -/
def lookW (K : PySem.W.Frag) (a : Addr) : FnW := match K.lookup a with
  | some ⟨_, _, .func fd, _⟩ => some (fd.name, fd.qualname, fd.params, fd.body, fd.scope, fd.globals, fd.closure, fd.builtins)
  | _ => none
structure GetD where
  cls : Str
  m : Str
  qual : Str
  params : Arguments
  body : List Stmt
  scope : Scope
def GetD.val (d : GetD) : FnW := some (d.m, d.qual, d.params, .stmts d.body, d.scope, mainGlobals, [], builtinsNs)
/-- keys of the property -/
def propB (K : PySem.W.Frag) (x m : Str) : Bool := decide (PySem.W.findIn K (.ref (ga K x)) m = some (some (.ref (ma K (ga K x) m)))) &&
  (decide (PySem.W.specialIn K (.ref (ma K (ga K x) m)) "__get__" = some (some (.builtin "property.__get__"))) && (decide (PySem.W.takesIn K (.ref (ma K (ga K x) m)) = some true) &&
  (match PySem.W.recIn K (ma K (ga K x) m) "property" with
    | some (.ref _ :: _) => true
    | _ => false)))
/-- the code and the defaults (none) of the function at a -/
def bareB (K : PySem.W.Frag) (a : Addr) (q : Str) : Bool := PySem.W.keepIn K (.ref a) && (match K.lookup a with
  | some ⟨_, _, .func fd, _⟩ => PySem.W.codeIn K fd.code q && (dflB K fd.defaults [] && kwdB K fd.kwdefaults [])
  | _ => false)
def GetD.ok (K : PySem.W.Frag) (d : GetD) : Bool := propB K d.cls d.m && bareB K (pg K d.cls d.m) d.qual
theorem both {a b : Bool} (h : (a && b) = true) : a = true ∧ b = true := by
  cases a <;> cases b <;> first | exact ⟨rfl, rfl⟩ | cases h
theorem prop_ok {K : PySem.W.Frag} {x m : Str} (h : propB K x m = true) : PropOf K (ga K x) m (ma K (ga K x) m) (pg K x m) := by
  obtain ⟨h1, h⟩ := both h
  obtain ⟨h2, h⟩ := both h
  obtain ⟨h3, h4⟩ := both h
  refine ⟨of_decide_eq_true h1, of_decide_eq_true h2, of_decide_eq_true h3, ?_⟩
  unfold pg
  split at h4
  · rename_i g r e
    rw [e]
    exact ⟨r, rfl⟩
  · cases h4
theorem GetD.funD {K : PySem.W.Frag} {d : GetD} (e : lookW K (pg K d.cls d.m) = d.val) (c : bareB K (pg K d.cls d.m) d.qual = true) : ∃ fd, FunD K d.m d.qual d.params d.body d.scope [] [] (pg K d.cls d.m) fd := by
  obtain ⟨kp, k⟩ := both c
  unfold lookW at e
  revert e k
  generalize hq : K.lookup (pg K d.cls d.m) = r
  intro e k
  match r, hq, e, k with
  | some ⟨oc, od, .func ⟨n1, n2, n3, n4, n5, n6, n7, n8, n9, n10, n11, n12, n13, n14, n15⟩, osl⟩, hq, e, k =>
    obtain ⟨k1, k2⟩ := both k
    obtain ⟨k3, k4⟩ := both k2
    unfold GetD.val at e
    simp only [Option.some.injEq, Prod.mk.injEq] at e
    obtain ⟨e1, e2, e3, e4, e5, e6, e7, e8⟩ := e
    subst e1 e2 e3 e4 e5 e6 e7 e8
    exact ⟨_, ⟨oc, od, n8, n9, n10, n11, n12, n13, n14, osl, rfl, hq, k1, dflB_ok k3, kwdB_ok k4⟩, kp⟩
abbrev AlP : Type := AlD × Bool × List FnW
def obsP (fa : List Fa) (fn : List DefD) (gs : List GetD) (ts : List (PySem.W.Frag → Bool)) (K : PySem.W.Frag) : AlP := (obsD fa fn K, ((gs.all fun d => d.ok K) && ts.all fun t => t K), gs.map fun d => lookW K (pg K d.cls d.m))
def valP (fn : List DefD) (gs : List GetD) : AlP := (valD fn, true, gs.map GetD.val)
def SaysP (fa : List Fa) (fn : List DefD) (gs : List GetD) (ts : List (PySem.W.Frag → Bool)) (K : PySem.W.Frag) : Prop := obsP fa fn gs ts K = valP fn gs
def obsPG (n : Nat) (fa : List Fa) (fn : List DefD) (gs : List GetD) (ts : List (PySem.W.Frag → Bool)) (g : Addr → Option Obj) : AlP := obsP fa fn gs ts (frG g (asD g n))
def hookP (n : Nat) (fa : List Fa) (fn : List DefD) (gs : List GetD) (ts : List (PySem.W.Frag → Bool)) : PySem.W.Hook where
  α := AlP
  obs := fun s => obsPG n fa fn gs ts s.heap.get?
  val := fun _ => valP fn gs
  says := fun _ h => ∃ K : PySem.W.Frag, K.In h ∧ SaysP fa fn gs ts K
  of := fun _ _ e => ⟨_, frG_in, e⟩
  keeps := fun _ _ _ ⟨K, hK, c⟩ k => ⟨K, PySem.W.Frag.In.keeps hK k, c⟩
theorem obsPG_eq {n : Nat} {fa : List Fa} {fn : List DefD} {gs : List GetD} {ts : List (PySem.W.Frag → Bool)} {g : Addr → Option Obj} {s : Shared} (h : ∀ a, g a = s.heap.get? a) : obsPG n fa fn gs ts g = (hookP n fa fn gs ts).obs s := by
  rw [show g = s.heap.get? from funext h]
  rfl
section
variable {fa : List Fa} {fn : List DefD} {gs : List GetD} {ts : List (PySem.W.Frag → Bool)} {K : PySem.W.Frag}
theorem SaysP.d (c : SaysP fa fn gs ts K) : SaysD fa fn K := congrArg (fun z : AlP => z.1) c
theorem SaysP.get (c : SaysP fa fn gs ts K) (i : Nat) {d : GetD} (h : gs[i]? = some d := by rfl) : PropOf K (ga K d.cls) d.m (ma K (ga K d.cls) d.m) (pg K d.cls d.m) ∧ ∃ fd, FunD K d.m d.qual d.params d.body d.scope [] [] (pg K d.cls d.m) fd := by
  have h1 : (gs.all fun d => d.ok K) = true := (both (show ((gs.all fun d => d.ok K) && ts.all fun t => t K) = true from congrArg (fun z : AlP => z.2.1) c)).1
  have h2 : gs.map (fun d => lookW K (pg K d.cls d.m)) = gs.map GetD.val := congrArg (fun z : AlP => z.2.2) c
  obtain ⟨h3, h4⟩ := both (List.all_eq_true.mp h1 d (List.mem_of_getElem? h))
  have h5 := congrArg (fun l => l[i]?) h2
  simp only [List.getElem?_map, h, Option.map_some, Option.some.injEq] at h5
  exact ⟨prop_ok h3, GetD.funD h5 h4⟩
theorem SaysP.test (c : SaysP fa fn gs ts K) (i : Nat) {t : PySem.W.Frag → Bool} (h : ts[i]? = some t := by rfl) : t K = true := by
  have h1 : (ts.all fun t => t K) = true := (both (show ((gs.all fun d => d.ok K) && ts.all fun t => t K) = true from congrArg (fun z : AlP => z.2.1) c)).2
  exact List.all_eq_true.mp h1 t (List.mem_of_getElem? h)
end
end Zh

set_option Elab.async false
set_option linter.all false
set_option maxRecDepth 100000
set_option maxHeartbeats 1000000
/-! a default that is the empty tuple -/
namespace Zh
open PySem PySem.Spec PyProof.Rows L2
def emptyT (K : PySem.W.Frag) (a : Addr) : Bool := match K.lookup a with
  | some o => (match o.data with
    | .seq its _ => decide (o.cls = .type "tuple") && its.isEmpty
    | _ => false)
  | none => false
theorem emptyT_kt {K : PySem.W.Frag} {a : Addr} (h : emptyT K a = true) : Z.KT K a [] := by
  unfold emptyT at h
  split at h
  · next o ho =>
    split at h
    · next its n hd =>
      rw [Bool.and_eq_true] at h
      have e : its = #[] := by simpa using h.2
      subst e
      exact ⟨o, #[], n, ho, of_decide_eq_true h.1, hd, Nat.zero_le _, .nil⟩
    · cases h
  · cases h
end Zh

set_option Elab.async false
set_option linter.all false
set_option maxRecDepth 100000
set_option maxHeartbeats 1000000
/-! lists of one's own whose items are plain (ints, bools, texts): made, appended to, read, handed back -/
namespace Z
open PySem PySem.Spec PyProof.Rows L2
/-- data that a value bears whatever the heap -/
class Flat (α : Type) [Rp α] where
  val : α → V
  iff : ∀ {K : PySem.W.Frag} {Δ : Gh} {H : Hp} {v : V} {a : α}, Rp.rp K Δ H v a ↔ v = val a
instance : Flat Int := ⟨V.int, Iff.rfl⟩
instance : Flat Bool := ⟨V.bl, Iff.rfl⟩
instance : Flat Tx := ⟨fun x => .str (tS x), Iff.rfl⟩
section
variable {K : PySem.W.Frag} {Δ0 : Gh} {H0 : Hp} {Γ : Own} {F : List (V × Cell)} {ρ : Z.Env} {ta tb te : TE} {tz : TS} {D : Ends} {α : Type} [Rp α] [Flat α]
abbrev OwnL (p : Addr) (xs : List α) : Addr × (HO → Prop) := (p, ObIs (.lst (xs.map Flat.val)))
theorem all2_flat {Δ : Gh} {H : Hp} : ∀ xs : List α, All2 (fun (u : V) (a : α) => Rp.rp K Δ H u a) (xs.map Flat.val) xs
  | [] => trivial
  | x :: xs => ⟨Flat.iff.mpr rfl, all2_flat xs⟩
/-- name = [] -/
theorem wp_newL {i : Nat} (hi : i < ρ.length) (k : ∀ p, OwnP Δ0 Γ p → Wp K Δ0 H0 (OwnL p ([] : List α) :: Γ) F (ρ.set i (some ⟨(⟨p⟩ : Loc)⟩)) tz D) : Wp K Δ0 H0 Γ F ρ (tSeq (tAsg (tLst tNil) (gName i)) tz) D := fun σ H ⟨Δ, s, hh, e, f, e0, s1, s2⟩ => by
  refine ⟨by show 0 ≤ sizeLine; decide, fun p hp => ?_⟩
  obtain ⟨o, Δ', s', hh', e', f', e0', s1', s2'⟩ := own_newO (K := K) (o := .lst []) s hh e f e0 s1 s2 hp
  exact k p o _ _ ⟨Δ', s', hh', e'.set (c := ⟨(⟨p⟩ : Loc)⟩) hi rfl, f', e0', s1', s2'⟩
/-- name.append(e) -/
theorem wp_app {p : Addr} {xs : List α} {P : α → Prop} (o : OwnP Δ0 Γ p) (hz : xs.length < 50000) (ho : Ev K (OwnL p xs :: Γ) ta ρ (Is (⟨p⟩ : Loc))) (h : Ev K (OwnL p xs :: Γ) te ρ P)
    (k : ∀ a, P a → Wp K Δ0 H0 (OwnL p (xs ++ [a]) :: Γ) F ρ tz D) : Wp K Δ0 H0 (OwnL p xs :: Γ) F ρ (tSeq (tDrop (tBM K "list" rAppend ta (tCons te tNil))) tz) D := fun σ H ⟨Δ, s, hh, e, f, e0, s1, s2⟩ =>
  ho Δ σ H _ s hh e fun w H1 b pb e1 r1 => by
    have eb : b = ⟨p⟩ := pb
    subst eb
    have ew : w = .ref p := r1
    subst ew
    obtain ⟨u, hu, iu⟩ := e1.2 p _ (s _ List.mem_cons_self)
    have iu' : u = HO.lst _ := iu
    subst iu'
    refine ⟨.inl ⟨rfl, _, SqL.of hu⟩, h Δ σ H1 _ s e1.2 (e.mono e1.1) fun v H2 a pa e2 r2 => ?_⟩
    have e3 := e1.trans e2
    have ev : v = Flat.val a := Flat.iff.mp r2
    subst ev
    have st : Stt K Δ0 H0 (OwnL p xs :: Γ) F ρ σ H2 := ⟨Δ, s, e3.2, e.mono e3.1, fun q hq => q.2.r.mono e3.1 (f q hq), ext0 e0 s1 s2 e3, s1, s2⟩
    obtain ⟨hp, st'⟩ := own_putO (o2 := .lst ((xs ++ [a]).map Flat.val)) o st
    refine ⟨p, _, _, rfl, rfl, hp, ?_, ?_⟩
    · rw [List.length_map]
      exact Nat.lt_trans hz (by decide)
    · have e5 : xs.map Flat.val ++ [Flat.val a] = (xs ++ [a]).map Flat.val := by rw [List.map_append]; rfl
      rw [e5]
      exact k a pa σ _ st'
/-- return name -/
theorem wp_retL {R : List α → Prop} {p : Addr} {xs : List α} (o : OwnP Δ0 Γ p) (hf : Fin K Δ0 H0 R D) (hr : R xs) (ho : Ev K (OwnL p xs :: Γ) ta ρ (Is (⟨p⟩ : Loc))) : Wp K Δ0 H0 (OwnL p xs :: Γ) F ρ (tRet ta) D := fun σ H ⟨Δ, s, hh, e, f, e0, s1, s2⟩ =>
  ho Δ σ H _ s hh e fun w H1 b pb e1 r1 => by
    have eb : b = ⟨p⟩ := pb
    subst eb
    have ew : w = .ref p := r1
    subst ew
    obtain ⟨u, hu, iu⟩ := e1.2 p _ (s _ List.mem_cons_self)
    have iu' : u = HO.lst _ := iu
    subst iu'
    exact hf _ H1 xs hr (ext0 e0 s1 s2 e1) ⟨p, _, rfl, .inl ⟨o.n0, .inl hu⟩, .inl (.inl hu), all2_flat xs⟩
/-- one's own list as a datum, to read -/
theorem ev_ownL {p : Addr} {xs : List α} (hm : OwnL p xs ∈ Γ) {r : List V → Hp → VK → Prop} {γ : Type} [Rp γ] {P : γ → Prop} (ho : Ev K Γ ta ρ (Is (⟨p⟩ : Loc))) (hr : ∀ (Δ : Gh) (H : Hp) (Q : VK), Hold Δ H → H p = some (.lst (xs.map Flat.val)) → (∀ u H' c, P c → Ext Δ H H' → Rp.rp K Δ H' u c → Q u H') → r [.ref p] H Q) : Ev K Γ (tCB r (tCons ta tNil)) ρ P := fun Δ σ H Q s hh e k =>
  ho Δ σ H _ s hh e fun w H1 b pb e1 r1 => by
    have eb : b = ⟨p⟩ := pb
    subst eb
    have ew : w = .ref p := r1
    subst ew
    obtain ⟨u, hu, iu⟩ := e1.2 p _ (s _ hm)
    have iu' : u = HO.lst _ := iu
    subst iu'
    exact hr Δ H1 Q e1.2 hu fun u H' c pc e2 r2 => k u H' c pc (e1.trans e2) r2
theorem ev_lenO {p : Addr} {xs : List α} (hm : OwnL p xs ∈ Γ) (ho : Ev K Γ ta ρ (Is (⟨p⟩ : Loc))) : Ev K Γ (tCB (fun xs H Q => ∃ x n, xs = [x] ∧ LenV K x H n ∧ Q (.int n) H) (tCons ta tNil)) ρ (Is (xs.length : Int)) :=
  ev_ownL hm ho fun Δ H Q hh hp k => by
    refine ⟨.ref p, xs.length, rfl, .inl ⟨xs.map Flat.val, ?_, by rw [List.length_map]⟩, k _ H _ rfl (Ext.refl hh) rfl⟩
    exact .inl (.inl hp)
end
end Z

set_option Elab.async false
set_option linter.all false
set_option maxRecDepth 100000
set_option maxHeartbeats 1000000
/-! a comprehension with two for, its items plain -/
namespace Z
open PySem PySem.Spec PyProof.Rows L2
/-- a list that stands in the heap (no literal of the written part) -/
structure NL (α : Type) where
  l : List α
section
variable {α : Type} [Rp α]
instance : Rp (NL α) where
  rp K Δ H v xs := ∃ p vs, v = .ref p ∧ Δ p = none ∧ Rd H p (.lst vs) ∧ All2 (fun u a => Rp.rp K Δ H u a) vs xs.l
  mono k h := by
    obtain ⟨p, vs, e, n, r, q⟩ := h
    exact ⟨p, vs, e, n, rd_mono k n r, q.imp fun _ _ => Rp.mono k⟩
  weak w h := by
    obtain ⟨p, vs, e, n, r, q⟩ := h
    obtain ⟨u, hu⟩ := rd_some r
    exact ⟨p, vs, e, w _ _ hu n, r, q.imp fun _ _ => Rp.weak w⟩
variable {K : PySem.W.Frag} {Γ : Own} {ρ : Z.Env} {te : TE} {ta : TA}
/-- it is a list -/
theorem ev_ofNL {y : NL α} (h : Ev K Γ te ρ (Is y)) : Ev K Γ te ρ (Is y.l) := fun Δ σ H Q s hh e k => h Δ σ H Q s hh e fun v H' a pa e1 r => by
  have ea : a = y := pa
  subst ea
  obtain ⟨p, vs, rfl, n, hr, q⟩ := r
  exact k _ H' a.l rfl e1 ⟨p, vs, rfl, .inl ⟨n, hr⟩, .inl hr, q⟩
/-- [a, b, ..] -/
theorem ev_lstN {xs : List α} (h : EvA K Γ ta ρ (Is (xs.map fun a => ⟨a⟩))) (hz : xs.length ≤ 100000) : Ev K Γ (tLst ta) ρ (Is (⟨xs⟩ : NL α)) := fun Δ σ H Q s hh e k => h Δ σ H _ s hh e fun vs H' cs pcs e1 r => by
  have ec : cs = xs.map fun a => ⟨a⟩ := pcs
  subst ec
  have r' := All2.of_map r
  exact ⟨Nat.le_trans (Nat.le_of_eq r'.len) (Nat.le_trans hz (by decide)), fun p hp => k _ _ ⟨xs⟩ rfl (e1.trans (Ext.new e1.2 hp _)) ⟨p, vs, rfl, e1.2.fresh hp, .inl upd_same, r'.imp fun _ _ => Rp.mono (Ext.new e1.2 hp _).1⟩⟩
end
section
variable {K : PySem.W.Frag} {Γ : Own} {ρ : Z.Env} {te : TE} {β : Type} [Rp β] [Flat β]
theorem ev_lc2 {wi wi1 : TI} {g g1 : TG} {js js1 vs vs1 : List Nat} {n : Nat} {m : Nat → Nat} {st : Nat → Z.Env → Z.Env} {st1 : Nat → Nat → Z.Env → Z.Env} (Iv : Nat → Nat → List β → Prop) (S : Src K Γ wi g ρ js n st) (hjs : ∀ j ∈ js, j ∈ vs)
    (S1 : ∀ i, i < n → Src K Γ wi1 g1 (st i (wipeE ρ vs)) js1 (m i) (st1 i)) (hjs1 : ∀ j ∈ js1, j ∈ vs1) (h0 : Iv 0 0 []) (hz : ∀ i j acc, Iv i j acc → acc.length ≤ 50000)
    (hs : ∀ i j acc, i < n → j < m i → Iv i j acc → ∃ PV : β → Prop, Ev K Γ te (st1 i j (wipeE (st i (wipeE ρ vs)) vs1)) PV ∧ ∀ b, PV b → Iv i (j + 1) (acc ++ [b]))
    (hn : ∀ i acc, i < n → Iv i (m i) acc → Iv (i + 1) 0 acc) : Ev K Γ (tLc2 wi g tYes wi1 g1 tYes te vs vs1) ρ (fun y : NL β => Iv n 0 y.l) := fun Δ σ H Q s hh e k => S Δ σ H _ s hh e fun J H1 pv pc e1 rp0 hgo hyld => fun D hD => by
  have nD : Δ D = none := e1.2.fresh hD
  have eW : EnvOk K Δ (wipe σ vs) H1 (wipeE ρ vs) := (e.mono e1.1).wipe vs
  have kp : Keep (ghI Δ D (ObIs (.lst []))) H1 (upd H1 D (.lst [])) := fun a o _ q => by rw [upd_ne (ne_of_none q hD)]; exact q
  have W0 : DW K Δ H1 D pv pc (wipe σ vs) (wipeE ρ vs) (.lst (([] : List β).map Flat.val)) (upd H1 D (.lst [])) :=
    ⟨ghI_hold (fun a J _ h => e1.2 a J h) rfl, fun a o ha _ h => by rw [upd_ne ha]; exact h, pc.r.mono kp (pc.r.weak (ghI_new hD) rp0), (eW.weak (ghI_new hD)).mono kp⟩
  have wl : (wipeE ρ vs).length = ρ.length := by
    rw [← eW.1, wipe_length]
    exact e.1
  have sD : ∀ o, Sat Γ (ghI Δ D (ObIs o)) := fun o q hq => ghI_sat s nD q (List.mem_cons_of_mem _ hq)
  refine ⟨fun i t H2 => t = n - i ∧ i ≤ n ∧ ∃ acc : List β, DW K Δ H1 D pv pc (wipe σ vs) (wipeE ρ vs) (.lst (acc.map Flat.val)) H2 ∧ Iv i 0 acc, ⟨n, by simp, Nat.zero_le _, [], W0, h0⟩, ?_⟩
  rintro i t H2 ⟨rfl, hi, acc, c, iv⟩
  have hg := hgo _ H2 c.src
  by_cases hlt : i < n
  · refine .inr ⟨hg.1 i hlt, fun H3 => ∃ acc : List β, DW K Δ H1 D pv pc (wipe σ vs) (wipeE ρ vs) (.lst (acc.map Flat.val)) H3 ∧ Iv (i + 1) 0 acc, fun H' ⟨a', c', v'⟩ => ⟨n - (i + 1), by omega, rfl, hlt, a', c', v'⟩, fun x H3 hy => ?_⟩
    obtain ⟨e3, hput⟩ := hyld _ i H2 x H3 hlt c.hold c.src hy
    have c3 := c.next e3
    refine hput (wipe σ vs) (wipeE ρ vs) _ wl c3.env fun σ2 env2 hl2 hoff => ⟨wipe_off (by rw [hl2, wipe_length]) hjs hoff, ?_⟩
    change wi1 σ2 H3 _
    refine S1 i hlt _ σ2 H3 _ (sD _) e3.2 env2 fun J1 H4 pv1 pc1 e4 rp1 hgo1 hyld1 => ?_
    have c4 := c3.next e4
    have env4 := (env2.mono e4.1).wipe vs1
    have wl1 : (wipeE (st i (wipeE ρ vs)) vs1).length = (st i (wipeE ρ vs)).length := by
      rw [← env4.1, wipe_length]
      exact env2.1
    have d4 : DW K Δ H1 D pv1 pc1 (wipe σ2 vs1) (wipeE (st i (wipeE ρ vs)) vs1) (.lst (acc.map Flat.val)) H4 := ⟨c4.hold, c4.keep, rp1, env4⟩
    refine ⟨fun j t H5 => t = m i - j ∧ j ≤ m i ∧ ∃ acc : List β, DW K Δ H1 D pv pc (wipe σ vs) (wipeE ρ vs) (.lst (acc.map Flat.val)) H5 ∧ DW K Δ H1 D pv1 pc1 (wipe σ2 vs1) (wipeE (st i (wipeE ρ vs)) vs1) (.lst (acc.map Flat.val)) H5 ∧ Iv i j acc, ⟨m i, by simp, Nat.zero_le _, acc, c4, d4, iv⟩, ?_⟩
    rintro j t H5 ⟨rfl, hj, acc1, c5, d5, iv5⟩
    have hg1 := hgo1 _ H5 d5.src
    by_cases hlt1 : j < m i
    · refine .inr ⟨hg1.1 j hlt1, fun H6 => ∃ acc : List β, DW K Δ H1 D pv pc (wipe σ vs) (wipeE ρ vs) (.lst (acc.map Flat.val)) H6 ∧ DW K Δ H1 D pv1 pc1 (wipe σ2 vs1) (wipeE (st i (wipeE ρ vs)) vs1) (.lst (acc.map Flat.val)) H6 ∧ Iv i (j + 1) acc, fun H' ⟨a', c', d', v'⟩ => ⟨m i - (j + 1), by omega, rfl, hlt1, a', c', d', v'⟩, fun x1 H6 hy1 => ?_⟩
      obtain ⟨e6, hput1⟩ := hyld1 _ j H5 x1 H6 hlt1 d5.hold d5.src hy1
      have c6 := c5.next e6
      have d6 := d5.next e6
      refine hput1 (wipe σ2 vs1) (wipeE (st i (wipeE ρ vs)) vs1) _ wl1 d6.env fun σ3 env3 hl3 hoff3 => ⟨wipe_off (by rw [hl3, wipe_length]) hjs1 hoff3, ?_⟩
      obtain ⟨PV, hE, hb⟩ := hs i j acc1 hlt hlt1 iv5
      change te σ3 H6 _
      refine hE _ σ3 H6 _ (sD _) e6.2 env3 fun y H7 b pb e7 r7 => ?_
      have c7 := c6.next e7
      have d7 := d6.next e7
      have ey : y = Flat.val b := Flat.iff.mp r7
      subst ey
      have e8 : acc1.map Flat.val ++ [Flat.val b] = (acc1 ++ [b]).map Flat.val := by rw [List.map_append]; rfl
      refine ⟨acc1.map Flat.val, ghI_exact c7.hold, ?_, acc1 ++ [b], ?_, ?_, hb b pb⟩
      · rw [List.length_map]
        exact Nat.lt_of_le_of_lt (hz i j acc1 iv5) (by decide)
      · rw [← e8]
        exact c7.put
      · rw [← e8]
        exact d7.put
    · have ej : j = m i := by omega
      subst ej
      exact .inl ⟨hg1.2, acc1, c5, hn i acc1 hlt iv5⟩
  · have ei : i = n := by omega
    subst ei
    refine .inl ⟨hg.2, k (.ref D) H2 ⟨acc⟩ iv ⟨fun a o na h => ?_, fun a J h => ?_⟩ ⟨D, _, rfl, nD, .inl (ghI_exact c.hold), all2_flat acc⟩⟩
    · have h1 := e1.1 a o na h
      exact c.keep a o (ne_of_none h1 hD) na h1
    · have hne : a ≠ D := fun z => by
        rw [z, nD] at h
        cases h
      exact c.hold a J (by rw [ghI_other hne]; exact h)
end
end Z

set_option Elab.async false
set_option linter.all false
set_option maxRecDepth 100000
set_option maxHeartbeats 4000000
/-! yield from a list -/
namespace Zy
open PySem PySem.Spec PyProof.Rows L2
section
variable {prog : Program} {w : World} {A : Around} {E : Value → Shared → Prop} {s : Shared} {it l : Addr} {i : Nat} {items : Array Value}
/-- a turn that gives an item -/
theorem turn_item {x : Value} {Q : Option Value → Shared → Prop} (hit : s.heap.IsListIter it l i) (hl : s.heap.IsList l items) (hx : items[i]? = some x)
    (k : ∀ h', h'.IsListIter it l (i + 1) → Heap.SameBut it s.heap h' → Q (some x) { s with heap := h' }) : wpAny (model prog w) A (callSpecial? (.ref it) "__next__") Q E s := by
  have hT := hit.typeIs
  obtain ⟨io, hio, hic, hid⟩ := hit
  obtain ⟨lo, hlo, _, ln, hld⟩ := hl
  refine wpAny_callSpecial?_slot (name := Str.ofString "__next__") hT slot_listiter_next (wpAny_call_entry slot_listiter_next hT entry_listiter_next ?_ (args_listiter_next _))
  refine wpAny_bind (m := field (.ref it) 0) (wpAny_field hio hid (x := .ref l) rfl ?_)
  change wpAny _ _ (if (Value.ref l == Value.none) = true then _ else _) _ _ s
  rw [if_neg (fun z => by cases (show false = true from z))]
  refine wpAny_bind (m := field (.ref it) 1) (wpAny_field hio hid (x := .int i 0) rfl ?_)
  refine wpAny_bind (m := seqItems? (.ref l)) (wpAny_seqItems hlo hld ?_)
  simp only [Int.toNat_natCast, hx]
  refine wpAny_bind (wpAny_setField hio hid (by simp) (wpAny_pure ⟨x, rfl, k _ ⟨_, Heap.get?_update_self _ hio (Obj.isFreed_of_fields (Obj.data_mapFields hid _)), (Obj.cls_mapFields ..).trans hic, ?_⟩ (Heap.SameBut.update ..)⟩))
  rw [Obj.data_mapFields hid]
  simp [rawInt]
/-- the turn behind the last item -/
theorem turn_end {Q : Option Value → Shared → Prop} (hh : A.handled = none) (hit : s.heap.IsListIter it l i) (hl : s.heap.IsList l items) (hx : items[i]? = none)
    (k : ∀ e h', StopX e h' → Heap.ExtBut it s.heap h' → E e { s with heap := h' }) : wpAny (model prog w) A (callSpecial? (.ref it) "__next__") Q E s := by
  have hT := hit.typeIs
  obtain ⟨io, hio, hic, hid⟩ := hit
  obtain ⟨lo, hlo, _, ln, hld⟩ := hl
  refine wpAny_callSpecial?_slot (name := Str.ofString "__next__") hT slot_listiter_next (wpAny_call_entry slot_listiter_next hT entry_listiter_next ?_ (args_listiter_next _))
  refine wpAny_bind (m := field (.ref it) 0) (wpAny_field hio hid (x := .ref l) rfl ?_)
  change wpAny _ _ (if (Value.ref l == Value.none) = true then _ else _) _ _ s
  rw [if_neg (fun z => by cases (show false = true from z))]
  refine wpAny_bind (m := field (.ref it) 1) (wpAny_field hio hid (x := .int i 0) rfl ?_)
  refine wpAny_bind (m := seqItems? (.ref l)) (wpAny_seqItems hlo hld ?_)
  simp only [Int.toNat_natCast, hx]
  refine wpAny_bind (wpAny_rule (wpAny_bind (wpAny_setField hio hid (by simp) ?_)))
  refine wpAny_bind (m := newExc (.type "StopIteration") []) ?_
  simp only [newExc, newTuple]
  refine wpAny_bind (wpAny_newObj_type (wpAny_bind (m := firstArgMember _ _) (wpAny_of_eq (a := Value.none) (by first | rfl | (simp only [firstArgMember]; rfl)) (wpAny_newObj_type ?_ (by size_fits)))) (by size_fits))
  simp only [raiseNew]
  refine wpAny_bind (wpAny_handled ?_)
  rw [show A.in1.handled = none from hh]
  refine wpAny_bind (wpAny_pure (wpAny_throw (k _ _ ⟨_, _, _, rfl, Heap.get?_push_size _ rfl, rfl, rfl, ?_⟩ (((Heap.SameBut.update ..).extBut.push _).push _))))
  first
    | rfl
    | kernel_rfl
end
section
variable {X : Cx} {e : Expr} {te : TE}
/-- yield from e, e a list that stands in the heap -/
def tYfLst (te : TE) : TYf := fun σ H Q => te σ H fun x H1 => ∃ a xs, x = .ref a ∧ Rd H1 a (.lst xs) ∧ Q xs H1
theorem close_lst : typeLookup (.type "list_iterator") "close" = pure none := by rw [typeLookup_type, builtinLookup_eq_fast]; kernel_rfl
theorem yf_lst (he : PE X e te) : YfE X e (tYfLst te) := by
  refine ⟨fun pins s σ H Q I h => thn (he.run pins s σ H _ I h) fun v s1 ⟨x, H1, I1, r1, a, xs, ex, ha, hq⟩ => ?_⟩
  subst ex
  obtain rfl : v = Value.ref a := r1
  obtain ⟨its, rits, hl0, hlen⟩ := I1.list (.inl ha)
  have hl : s1.heap.IsList a its.toArray := hl0.isList
  obtain ⟨_, hob, _⟩ := id hl
  have hsome : H1 a ≠ none := fun z => by
    rcases ha with ha | ⟨u, ha⟩ <;> rw [z] at ha <;> cases ha
  refine ⟨"list", hl.typeIs, by decide, wpAny_pyIter_list hl ?_⟩
  let o : Obj := { cls := .type "list_iterator", data := .fields #[.ref a, .int 0 0] }
  have old : ∀ b u, s1.heap.get? b = some u → b ≠ s1.heap.objs.size := fun b u q => Nat.ne_of_lt (Heap.lt_size q)
  have kp : ∀ b u, s1.heap.get? b = some u → (s1.heap.push o).get? b = some u := fun b u q => Heap.get?_push_of_some _ q
  have hna : a ≠ s1.heap.objs.size := old a _ hob
  refine ⟨s1.heap.objs.size, H1, xs, fun j h => h.IsListIter s1.heap.objs.size a j ∧ h.IsList a its.toArray, rfl, I1.kept (t' := s1.toks) kp, .inr I1.sz, Nat.ne_of_gt I1.lt, fun y c hy => ?_, I1.hok.fresh (Nat.le_refl _), fun p hp => old p.1 _ (I1.pin p hp).1,
    ⟨⟨_, Heap.get?_push_size _ rfl, rfl, rfl⟩, hl.push _⟩, ⟨⟨"list_iterator", fun j h q => ?_, close_lst, by decide⟩, fun j h h' q hk => ?_, fun A' j x s2 Q' E' hA hx q hQ => ?_, fun A' s2 Q' E' hA q hE => ?_⟩, hq⟩
  · obtain ⟨v, u, hu, _⟩ := I1.cell y c hy
    exact old c u hu
  · obtain ⟨⟨u, hu, hc, _⟩, _⟩ := q
    exact ⟨u, hu, hc⟩
  · obtain ⟨⟨u, hu, r⟩, u2, hu2, r2⟩ := q
    exact ⟨⟨u, hk _ u (.inl rfl) hu, r⟩, u2, hk _ u2 (.inr hsome) hu2, r2⟩
  · obtain ⟨u, hu, ru⟩ := rits.get hx
    exact turn_item q.1 q.2 (x := u) (by simpa using hu) fun h' q1 hs => hQ u h' s2.toks ru ⟨q1, q.2.extBut hs.extBut hna⟩ fun b u hb eb => hs.extBut b u hb eb
  · have hnone : its.toArray[xs.length]? = none := by
      have q1 := rits.length
      have q2 : its[xs.length]? = none := List.getElem?_eq_none_iff.mpr (by omega)
      simpa using q2
    exact turn_end hA q.1 q.2 hnone fun e h' hS hk => hE e h' s2.toks hS fun b u hb eb => hk b u hb eb
end
end Zy

set_option Elab.async false
set_option linter.all false
set_option maxRecDepth 100000
set_option maxHeartbeats 1000000
/-! generator defs, on data -/
namespace Z
open PySem PySem.Spec PyProof.Rows L2
/-- what a generator def promises: in the end it has handed out data with P -/
def spG (K : PySem.W.Frag) {β : Type} [Rp β] (G : Own → List Cell → (List β → Prop) → Prop) : SpG := fun vs H cont _ => ∃ (Γ : Own) (Δ : Gh) (cs : List Cell) (P : List β → Prop), G Γ cs P ∧ Sat Γ Δ ∧ Hold Δ H ∧ ArgsOk K Δ H vs cs ∧
  ∀ (out : List V) (H' : Hp) (ys : List β), P ys → Ext Δ H H' → All2 (fun u a => Rp.rp K Δ H' u a) out ys → cont out H'
section
variable {K : PySem.W.Frag} {Γ : Own} {ρ : Z.Env} {ta : TA} {β : Type} [Rp β] {Pb : List β → Prop}
/-- list(g(..)) -/
theorem ev_listG {G : Own → List Cell → (List β → Prop) → Prop} {E : XK} {cs : List Cell} (ha : EvA K Γ ta ρ (Is cs)) (hG : G Γ cs Pb) : Ev K Γ (tListG (tCallG (spG K G) [] E ta)) ρ Pb := fun Δ σ H Q s hh e k =>
  ha Δ σ H _ s hh e fun vs H1 cs' pcs e1 r => by
    have ec : cs' = cs := pcs
    subst ec
    refine ⟨Γ, Δ, cs', Pb, hG, s, e1.2, by rw [List.append_nil]; exact r, fun out H' ys py e2 q p hp => ?_⟩
    have e3 := e1.trans e2
    exact k _ _ ys py (e3.trans (Ext.new e3.2 hp _)) (new_lst e3.2 hp q)
end
section
variable {K : PySem.W.Frag} {Δ0 : Gh} {H0 : Hp} {Γ : Own} {F : List (V × Cell)} {ρ : Z.Env} {te : TE} {D : GEnds} {ys : List V} {β : Type} [Rp β]
def WpG (K : PySem.W.Frag) (Δ0 : Gh) (H0 : Hp) (Γ : Own) (F : List (V × Cell)) (ρ : Z.Env) (t : TGn) (D : GEnds) (ys : List V) : Prop := ∀ σ H, Stt K Δ0 H0 Γ F ρ σ H → t D ys σ H
/-- a plain statement of a generator's body: as elsewhere, then the rest -/
theorem wpg_plain {t : TS} {u : TGn} (h : Wp K Δ0 H0 Γ F ρ (tSeq t fun _ σ H => u D ys σ H) (D.at ys)) : WpG K Δ0 H0 Γ F ρ (tGThen (tPlain t) u) D ys := fun σ H st => h σ H st
theorem wpg_rest {u : TGn} (h : WpG K Δ0 H0 Γ F ρ u D ys) : Wp K Δ0 H0 Γ F ρ (fun _ σ H => u D ys σ H) (D.at ys) := fun σ H st => h σ H st
/-- yield from a list, at the end -/
theorem wpg_from {P : NL β → Prop} (hs : ys = []) (h : Ev K Γ te ρ P) (hz : ∀ xs, P xs → xs.l.length ≤ 50000)
    (hf : ∀ (out : List V) (σ : L2.St) (H' : Hp) (xs : NL β), P xs → Ext Δ0 H0 H' → All2 (fun u a => Rp.rp K Δ0 H' u a) out xs.l → D.nx out σ H') : WpG K Δ0 H0 Γ F ρ (tGThen (tGFrom (Zy.tYfLst te)) tG0) D ys := fun σ H ⟨Δ, s, hh, e, f, e0, s1, s2⟩ => by
  subst hs
  refine h Δ σ H _ s hh e fun v H1 xs px e1 r => ?_
  obtain ⟨p, vs, rfl, n, hr, q⟩ := r
  refine ⟨p, vs, rfl, hr, ?_, ?_⟩
  · have hl := hz xs px
    rw [q.len, List.length_nil]
    exact Nat.le_trans (by omega) (show 50000 ≤ sizeLine by decide)
  · exact hf _ σ H1 xs px (ext0 e0 s1 s2 e1) (q.imp fun _ _ => Rp.weak fun x o _ n => none0 s1 n)
end
section
variable {P : Program} {w : World} {K : PySem.W.Frag} {mg : Str → Option Value} {base : Heap} {β : Type} [Rp β]
theorem def_okG {x qual : Str} {args : Arguments} {body : List Stmt} {scope : Scope} {dvs : List V} {kws : List (Str × V)} {f : Addr} {fd : FuncData} {N ps : List Str} {k : Nat} {G : Own → List Cell → (List β → Prop) → Prop}
    (Fn : FunD K x qual args body scope dvs kws f fd) (S : GScope N ps scope) (len : ∀ Γ cs R, G Γ cs R → cs.length = ps.length)
    (hb : ∀ (cdv : Value) (A : Around) (outer : List PySem.Env) (s : Shared) (H : Hp) (E : XK) (pn : List (Addr × Obj)), Room k (A.deeper (envOfC qual scope s.heap.objs.size f cdv)) →
      ∀ (Γ : Own) (cs : List Cell) (R : List β → Prop), G Γ cs R → ∃ t, GSs (gcxOf P w K mg base N qual scope f cdv A outer s H E pn) body t ∧
        ∀ (Δ0 : Gh) (D : GEnds), (∀ (out : List V) (σ : L2.St) (H' : Hp) (xs : List β), R xs → Ext Δ0 H H' → All2 (fun u a => Rp.rp K Δ0 H' u a) out xs → D.nx out σ H') → WpG K Δ0 H Γ [] (env0 N cs) t D []) :
    GFn P w K mg base (k + 1) f fd ps (spG K G) := by
  obtain ⟨oc, od, dV, kV, doc, pm, an, cdv, ct, osl, rfl, lk, hcd, _, _⟩ := Fn.ex
  refine gfn_of lk hcd S (fun vs H Q E h => ?_) fun A outer s H vs Q E pn hr h => ?_
  · obtain ⟨Γ, Δ, cs, R, g, _, _, a, _⟩ := h
    rw [All2.len a]
    exact len Γ cs R g
  · obtain ⟨Γ, Δ, cs, R, g, sa, hh, a, q⟩ := h
    obtain ⟨t, ht, hw⟩ := hb cdv A outer s H E pn hr Γ cs R g
    exact ⟨t, ht, hw Δ _ (fun out σ H' xs rx e q2 => q out H' xs rx e q2) _ H ⟨Δ, sa, hh, start_ok a, fun z hz => (nomatch hz), Ext.refl hh, fun _ _ z => z, fun x n m => absurd n m⟩⟩
end
end Z

set_option Elab.async false
set_option linter.all false
set_option maxRecDepth 100000
set_option maxHeartbeats 1000000
/-! a generator that sleeps while its taker puts the item behind a list and changes some further objects of its own (B): so a comprehension may walk it -/
namespace Zw
open PySem PySem.Spec PyProof.Rows L2 GenW
/-- while the generator sleeps: v goes behind the list at S, what stands at B may change -/
structure Idle (S : Addr) (B : List Addr) (v : Value) (s s' : Shared) : Prop where
  same : s'.os = s.os
  plain : AllBare s'.gens
  rest : ∀ a u, a ≠ S → a ∉ B → s.heap.get? a = some u → s'.heap.get? a = some u
  put : ∀ xs k, s.heap.get? S = some (lstObj xs k) → ∃ k', s'.heap.get? S = some (lstObj (xs.push v) k')
  live : ∀ a ∈ B, ∀ u, s.heap.get? a = some u → ∃ u', s'.heap.get? a = some u' ∧ ∀ z, u'.data ≠ .cell z
/-- the taker's object is none of the generator's -/
structure Off (X : Cx) (a : Addr) : Prop where
  young : X.s_0.heap.objs.size ≤ a
  loc : a ≠ X.env.locals
  cell : ∀ x c, X.env.cells.lookup x = some c → c ≠ a
  pn : ∀ p ∈ X.pn, p.1 ≠ a
/-- amid a run: ys is out; what the taker holds stands as it stood when the generator was woken (z0) -/
def Gj (X : Cx) (S : Addr) (B : List Addr) (ys : List V) (σ : L2.St) (H : Hp) (z0 s : Shared) : Prop :=
  ∃ (xs : Array Value) (k : Nat), Vals ys xs.toList ∧ (∀ a ∈ B, ∃ u, z0.heap.get? a = some u) ∧ Inv X ((S, lstObj xs k) :: pinsAt B z0.heap) σ H s
section
variable {X : Cx} {S : Addr} {B : List Addr} {ys : List V} {σ : L2.St} {H : Hp} {z0 s s' : Shared}
theorem Gj.list (h : Gj X S B ys σ H z0 s) : H S = none ∧ ∃ (xs : Array Value) (k : Nat), Vals ys xs.toList ∧ s.heap.get? S = some (lstObj xs k) := by
  obtain ⟨xs, k, r, _, I⟩ := h
  obtain ⟨q1, q2, _⟩ := I.pin (S, lstObj xs k) (List.mem_append_right _ List.mem_cons_self)
  exact ⟨q2, xs, k, r, q1⟩
theorem Gj.held (h : Gj X S B ys σ H z0 s) {a : Addr} (ha : a ∈ B) {u : Obj} (hu : z0.heap.get? a = some u) : s.heap.get? a = some u ∧ H a = none ∧ a ≠ X.env.locals ∧ a ∉ X.fs := by
  obtain ⟨xs, k, _, _, I⟩ := h
  obtain ⟨q1, q2, q3, q4, _⟩ := I.pin (a, u) (List.mem_append_right _ (List.mem_cons_of_mem _ (mem_pinsAt ha hu)))
  exact ⟨q1, q2, q3, q4⟩
theorem Gj.wake {x : V} {v : Value} (oS : Off X S) (oB : ∀ a ∈ B, Off X a) (h : Gj X S B ys σ H z0 s) (rv : RelV x v) (z : Idle S B v s s') : Gj X S B (ys ++ [x]) σ H s' s' := by
  have hB : ∀ a ∈ B, ∃ u, s.heap.get? a = some u ∧ H a = none ∧ a ≠ X.env.locals ∧ a ∉ X.fs := fun a ha => by
    obtain ⟨u, hu⟩ := (let ⟨_, _, _, q, _⟩ := h; q a ha)
    exact ⟨u, h.held ha hu⟩
  obtain ⟨xs, k, r, _, I⟩ := h
  obtain ⟨eS, S0, SL, SF, _⟩ := I.pin (S, lstObj xs k) (List.mem_append_right _ List.mem_cons_self)
  have I0 : Inv X [] σ H s := I.pins_of fun p hp => nomatch hp
  obtain ⟨z1, z2, z3, z4, z5⟩ := z
  obtain ⟨k', eS'⟩ := z4 xs k eS
  have out : ∀ {a : Addr}, a ∉ S :: B → a ≠ S ∧ a ∉ B := fun {a} ha => ⟨fun e => ha (by rw [e]; exact List.mem_cons_self), fun e => ha (List.mem_cons_of_mem _ e)⟩
  have track : ∀ {a : Addr} {o : HO}, H a = some o → a ≠ S ∧ a ∉ B := by
    intro a o q
    constructor
    · intro e
      rw [e, S0] at q
      cases q
    · intro e
      obtain ⟨_, _, n, _⟩ := hB a e
      rw [n] at q
      cases q
  obtain ⟨hh, g, d, t, o⟩ := s'
  have eo : o = s.os := z1
  subst eo
  have J : Inv X [] σ H { s with heap := hh, gens := g, drawn := d, toks := t } := by
    refine I0.step (g' := g) (t' := t) (d' := d) (ch := S :: B) (fun a ha => ?_) (fun a u _ _ hc q _ => z3 a u (out hc).1 (out hc).2 q) (fun a u _ _ hc q _ => ⟨u.slots, z3 a u (out hc).1 (out hc).2 q⟩)
      (fun _ _ _ _ n => n) (fun a u hc q => ⟨u, z3 a u (out hc).1 (out hc).2 q⟩) (fun _ _ q => q) (fun _ _ _ q => q) (fun a ps q => ⟨#[], by rw [q]; simp⟩) (fun m hm => ?_) (fun a u q => ?_) z2
    · have oa : Off X a := by
        rcases List.mem_cons.mp ha with e | e
        · rw [e]; exact oS
        · exact oB a e
      exact ⟨.inr oa.young, oa.loc, oa.cell, fun p hp => oa.pn p (by simpa using hp)⟩
    · obtain ⟨u, es, ep, hu, q⟩ := hm
      refine ⟨u, es, ep, z3 _ u (Ne.symm SL) (fun e => ?_) hu, q⟩
      obtain ⟨_, _, _, n, _⟩ := hB _ e
      exact n rfl
    · refine (I0.hok a u q).stay (fun c v hc y => ?_) (fun _ y => y) fun _ _ y => y
      have tc : c ≠ S ∧ c ∉ B := by
        rcases hc with y | y
        · rw [y]; exact track q
        · exact track y
      exact z3 c v tc.1 tc.2 y
  have news : ∀ a ∈ B, ∃ u, hh.get? a = some u ∧ ∀ y, u.data ≠ .cell y := fun a ha => by
    obtain ⟨u, hu, _⟩ := hB a ha
    exact z5 a ha u hu
  refine ⟨xs.push v, k', ?_, fun a ha => (news a ha).imp fun u q => q.1, J.pins_of fun p hp => ?_⟩
  · rw [Array.toList_push]
    exact r.append (.cons rv .nil)
  · rcases List.mem_cons.mp hp with e | e
    · rw [e]
      exact ⟨eS', S0, SL, SF, fun y q => nomatch q⟩
    · obtain ⟨q1, q2⟩ := of_pinsAt e
      obtain ⟨u, hu, hc⟩ := news _ q1
      obtain ⟨_, _, n, l, f⟩ := hB _ q1
      have eu : p.2 = u := Option.some.inj (q2.symm.trans hu)
      exact ⟨q2, n, l, f, by rw [eu]; exact hc⟩
end
def Yj (X : Cx) (S : Addr) (B : List Addr) : Protocol := fun n z0 v s kap => ∃ ys x σ H, n + 1 + ys.length = sizeLine ∧ RelV x v ∧ Gj X S B ys σ H z0 s ∧ ∀ s', Idle S B v s s' → kap (.send .none) s'
def Rj (X : Cx) (S : Addr) (B : List Addr) (Q : List V → VK) : GenEnd := fun n z0 r s => match r with
  | .ok (.ret u) => ∃ ys v σ H, n + ys.length = sizeLine ∧ Gj X S B ys σ H z0 s ∧ RelV v u ∧ Q ys v H
  | _ => False
def Fj (X : Cx) (S : Addr) (B : List Addr) (D : GEnds) (ys : List V) (z0 : Shared) (f : Flow) (s : Shared) : Prop :=
  match f with
  | .next => ∃ σ H, Gj X S B ys σ H z0 s ∧ D.nx ys σ H
  | .brk => ∃ σ H, Gj X S B ys σ H z0 s ∧ D.bk ys σ H
  | .cont => ∃ σ H, Gj X S B ys σ H z0 s ∧ D.ct ys σ H
  | .ret u => ∃ v σ H, Gj X S B ys σ H z0 s ∧ RelV v u ∧ D.rt ys v H
/-- where its code stands, and the taker's objects -/
structure At (X : Cx) (S : Addr) (B : List Addr) (A : Around) (c : Code) (fs : List Frame) (gd : Bool → Bool) : Prop where
  oS : Off X S
  oB : ∀ a ∈ B, Off X a
  over : A.over c fs = X.A
  split : splitAtGen fs = none
  guard : fs.any Frame.guarded = false
  gd : gd false = false
structure Goal (X : Cx) (S : Addr) (B : List Addr) (A : Around) (R : GenEnd) (c : Code) (fs : List Frame) (K : Flow → Sem PySem.Fin) (J : Value → Sem PySem.Fin) (D : GEnds) : Prop where
  ok : ∀ (n : Nat) (ys : List V) (z0 s : Shared) (f : Flow), n + ys.length = sizeLine → Fj X S B D ys z0 f s → Seg (model X.prog X.w) A R (Yj X S B) n z0 c (K f) fs s
  exc : ∀ (n : Nat) (z0 : Shared) (e : Value) (s : Shared), X.xe e s → Seg (model X.prog X.w) A R (Yj X S B) n z0 c (J e) fs s
def Runs1 (X : Cx) (S : Addr) (B : List Addr) (body : (Flow → Sem PySem.Fin) → (Value → Sem PySem.Fin) → (Bool → Bool) → (List Value → List Value) → Sem PySem.Fin) (t : TGn) : Prop :=
  ∀ (A : Around) (R : GenEnd) (n : Nat) (ys : List V) (z0 : Shared) (c : Code) (fs : List Frame) (K : Flow → Sem PySem.Fin) (J : Value → Sem PySem.Fin) (gd : Bool → Bool) (lv : List Value → List Value) (s : Shared) (σ : L2.St) (H : Hp) (D : GEnds),
    At X S B A c fs gd → n + ys.length = sizeLine → Goal X S B A R c fs K J D → Gj X S B ys σ H z0 s → t D ys σ H → Seg (model X.prog X.w) A R (Yj X S B) n z0 c (body K J gd lv) fs s
def Sj (X : Cx) (st : Stmt) (t : TGn) : Prop := ∀ S B, Runs1 X S B (fun K J gd lv => (exec st X.env).wrap K J gd lv) t
def Bj (X : Cx) (body : List Stmt) (t : TGn) : Prop := ∀ S B, Runs1 X S B (fun K J gd lv => (execs body X.env).wrap K J gd lv) t
section
variable {X : Cx} {st : Stmt} {rest : List Stmt}
theorem bj_nil : Bj X [] tG0 := fun S B A R n ys z0 c fs K J gd lv s σ H D at' hn k h ht => seg_execs_nil (k.ok n ys z0 s .next hn ⟨σ, H, h, ht⟩)
theorem bj_cons {t u : TGn} (a : Sj X st t) (b : Bj X rest u) : Bj X (st :: rest) (tGThen t u) := fun S B A R n ys z0 c fs K J gd lv s σ H D at' hn k h ht =>
  seg_execs_cons (a S B A R n ys z0 c fs _ J gd lv s σ H { D with nx := fun ys' σ' H' => u D ys' σ' H' } at' hn ⟨fun n1 ys1 y0 s1 f hn1 hf => by
    match f, hf with
    | .next, ⟨σ1, H1, h1, q⟩ => exact b S B A R n1 ys1 y0 c fs K J gd lv s1 σ1 H1 D at' hn1 k h1 q
    | .brk, hf => exact k.ok n1 ys1 y0 s1 .brk hn1 hf
    | .cont, hf => exact k.ok n1 ys1 y0 s1 .cont hn1 hf
    | .ret u, hf => exact k.ok n1 ys1 y0 s1 (.ret u) hn1 hf, k.exc⟩ h ht)
/-- a statement that hands out nothing -/
theorem sj_plain {t : TS} (h : PS X st t) : Sj X st (tPlain t) := fun S B A R n ys z0 c fs K J gd lv s σ H D at' hn k hj ht => by
  obtain ⟨xs, j, r, b0, I⟩ := hj
  refine seg_wrap ?_
  rw [at'.over]
  refine wpAny_mono (h.run _ s σ H (D.at ys) I ht) (fun f s1 hs => k.ok n ys z0 s1 f hn ?_) fun x s1 hx => k.exc n z0 x s1 hx
  cases f with
  | next => obtain ⟨σ1, H1, I1, q⟩ := hs; exact ⟨σ1, H1, ⟨xs, j, r, b0, I1⟩, q⟩
  | brk => obtain ⟨σ1, H1, I1, q⟩ := hs; exact ⟨σ1, H1, ⟨xs, j, r, b0, I1⟩, q⟩
  | cont => obtain ⟨σ1, H1, I1, q⟩ := hs; exact ⟨σ1, H1, ⟨xs, j, r, b0, I1⟩, q⟩
  | ret u => obtain ⟨v, σ1, H1, I1, r1, q⟩ := hs; exact ⟨v, σ1, H1, ⟨xs, j, r, b0, I1⟩, r1, q⟩
/-- one turn of the delegate, and the ones behind it -/
theorem seg_from {S : Addr} {B : List Addr} {A : Around} {R : GenEnd} {fs : List Frame} {it : Addr} {xs ys : List V} {Sg : Nat → Heap → Prop} {σ : L2.St} {H : Hp} (oS : Off X S) (oB : ∀ a ∈ B, Off X a)
    (young : it ∈ X.ex ∨ X.s_0.heap.objs.size ≤ it) (hL : it ≠ X.env.locals) (hcell : ∀ x c, X.env.cells.lookup x = some c → c ≠ it) (hSi : it ≠ S) (hBi : it ∉ B) (hpn : ∀ p ∈ X.pn, p.1 ≠ it) (hH : H it = none) (q : QIt X H it xs Sg)
    (ho : (A.over (.builtin "proto.yield_from" ⟨[.ref it, .bool false, .none], []⟩) fs).handled = none) (hsp : splitAtGen fs = none) (hgd : fs.any Frame.guarded = false) (hle : ys.length + xs.length ≤ sizeLine)
    (fin : ∀ (n : Nat) (z0 s : Shared), n + (ys ++ xs).length = sizeLine → Gj X S B (ys ++ xs) σ H z0 s → Seg (model X.prog X.w) A R (Yj X S B) n z0 (.builtin "proto.yield_from" ⟨[.ref it, .bool false, .none], []⟩) (.pure (.done (.ret .none))) fs s) :
    ∀ (r j n : Nat) (z0 s : Shared), j + r = xs.length → n + (ys.length + j) = sizeLine → Gj X S B (ys ++ xs.take j) σ H z0 s → Sg j s.heap →
      Seg (model X.prog X.w) A R (Yj X S B) n z0 (.builtin "proto.yield_from" ⟨[.ref it, .bool false, .none], []⟩) ((model X.prog X.w).den (.builtin "proto.yield_from" ⟨[.ref it, .bool false, .none], []⟩)) fs s := by
  obtain ⟨T, hT, hcl, hng⟩ := q.ty
  have moved : ∀ {us : List V} {z0 s : Shared} {h1 : Heap} {tk : Nat}, Gj X S B us σ H z0 s → (∀ b o, b ≠ it → s.heap.get? b = some o → h1.get? b = some o) → Gj X S B us σ H z0 { s with heap := h1, toks := tk } := fun {us z0 s h1 tk} hj hk => by
    obtain ⟨ac, j, r, b0, I⟩ := hj
    refine ⟨ac, j, r, b0, I.turned (it := it) hk hH hL young hcell fun p hp => ?_⟩
    rcases List.mem_append.mp hp with hp | hp
    · exact hpn p hp
    · rcases List.mem_cons.mp hp with e | e
      · rw [e]; exact Ne.symm hSi
      · exact fun z => hBi (by rw [← z]; exact (of_pinsAt e).1)
  intro r
  induction r with
  | zero =>
    intro j n z0 s hj hn hI hst
    obtain rfl : j = xs.length := by omega
    rw [List.take_length] at hI
    rw [den_yf]
    unfold Builtin.«proto.yield_from»
    try dsimp only
    refine seg_bind (wpAny_pure ?_)
    skip
    refine seg_bind (wpAny_attempt (wpAny_holding ?_))
    rw [if_neg Bool.false_ne_true, if_pos (by rfl)]
    refine wpAny_bind (wpAny_rule (wpAny_bind (q.done _ s _ _ ho hst fun e h1 tk hS hk => ?_)))
    obtain ⟨a, o, vs, rfl, e1, e2, e3, e4⟩ := hS
    try dsimp only
    refine seg_bind (wpAny_endsTurn e1 e2 ?_)
    try dsimp only
    rw [if_pos rfl]
    first
      | exact seg_bind (wpAny_rule (seg_bind (wpAny_field e1 e3 e4 (fin n z0 _ (by rw [List.length_append]; exact hn) (moved hI hk)))))
      | (rw [if_neg Bool.false_ne_true]; exact seg_bind (wpAny_rule (seg_bind (wpAny_field e1 e3 e4 (fin n z0 _ (by rw [List.length_append]; exact hn) (moved hI hk))))))
      | (rw [if_neg Bool.false_ne_true]; exact seg_bind (wpAny_pure (seg_bind (wpAny_rule (seg_bind (wpAny_field e1 e3 e4 (fin n z0 _ (by rw [List.length_append]; exact hn) (moved hI hk))))))))
  | succ r ih =>
    intro j n z0 s hj hn hI hst
    have hx : xs[j]? = some (xs[j]'(by omega)) := List.getElem?_eq_getElem (by omega)
    generalize xs[j]'(by omega) = x at hx
    obtain ⟨n, rfl⟩ : ∃ m, n = m + 1 := ⟨n - 1, by omega⟩
    have tl : (xs.take j).length = j := by rw [List.length_take]; omega
    rw [den_yf]
    unfold Builtin.«proto.yield_from»
    try dsimp only
    refine seg_bind (wpAny_pure ?_)
    skip
    refine seg_bind (wpAny_attempt (wpAny_holding ?_))
    rw [if_neg Bool.false_ne_true, if_pos (by rfl)]
    refine wpAny_bind (wpAny_rule (wpAny_bind (q.item _ j x s _ _ ho hx hst fun v h1 tk rv hst1 hk => ?_)))
    have G1 := moved (tk := tk) hI hk
    obtain ⟨oi, ei, ec⟩ := hT (j + 1) h1 hst1
    refine wpAny_pure ?_
    try dsimp only
    refine seg_bind (wpAny_typeOf (T := T) ⟨oi, ei, ec⟩ ?_)
    try dsimp only
    first
      | (refine seg_bind (wpAny_of_eq hcl ?_); refine seg_bind (wpAny_pure ?_))
      | refine seg_bind (wpAny_bind (wpAny_of_eq hcl (wpAny_pure ?_)))
      | refine seg_bind (wpAny_of_eq hcl ?_)
    try dsimp only
    refine seg_bind (wpAny_sleptOver ei ec hng ?_)
    refine seg_yield hsp rfl hgd ⟨ys ++ xs.take j, x, σ, H, by rw [List.length_append, tl]; exact hn, rv, G1, fun s2 z => ?_⟩
    have G2 := G1.wake oS oB rv z
    have hst2 : Sg (j + 1) s2.heap := q.frame (j + 1) h1 s2.heap hst1 fun b o hb e => z.rest b o (fun hm => ?_) (fun hm => ?_) e
    · obtain ⟨oj, ej, ejc⟩ := hT (j + 1) s2.heap hst2
      have et : ys ++ xs.take j ++ [x] = ys ++ xs.take (j + 1) := by
        rw [List.append_assoc, List.take_add_one, hx]; rfl
      rw [et] at G2
      show Seg _ _ _ _ n s2 _ (Builtin.Generator.sleptOver (.ref it) false >>= fun _ => _) fs s2
      refine seg_bind (wpAny_sleptOver ej ejc hng ?_)
      try dsimp only
      refine seg_bind (wpAny_pure ?_)
      exact seg_again (plainId_quiet plain_yf _) (ih (j + 1) n s2 s2 (by omega) (by omega) G2 hst2)
    · rcases hb with y | y
      · exact hSi (y.symm.trans hm)
      · exact y (by rw [hm]; exact G1.list.1)
    · rcases hb with y | y
      · exact hBi (by rw [← y]; exact hm)
      · obtain ⟨u, hu⟩ := (let ⟨_, _, _, q0, _⟩ := G1; q0 b hm)
        exact y (G1.held hm hu).2.1
theorem sj_from {e : Expr} {yp pos : Pos} {t : TYf} (he : YfE X e t) (hc : X.A.handled = none) (hi : interactive X.env = false := by rfl) : Sj X (.Expr (.YieldFrom e yp) pos) (tGFrom t) := fun S B A R n ys z0 c fs K J gd lv s σ H D at' hn k hj ht => by
  rw [exec_Expr X.env _ pos hi rfl]
  show Seg _ _ _ _ n z0 c (.at pos fun _ => ((eval e X.env >>= fun v => (standAt yp >>= fun _ => yieldFrom X.env v)) >>= fun y => dropValue (.YieldFrom e yp) pos y).wrap K J gd lv) fs s
  refine seg_at ?_
  obtain ⟨ac, j, r, b0, I⟩ := hj
  refine segw_bind2 ?_
  rw [at'.over]
  refine wpAny_mono (he.run _ s σ H _ I ht) (fun v s1 hv => ?_) fun x s1 hx => k.exc n z0 x s1 hx
  obtain ⟨T, hT, hne, hit⟩ := hv
  refine seg_at ?_
  show Seg _ _ _ _ n z0 c ((yieldFrom X.env v).wrap (fun b => (dropValue (.YieldFrom e yp) pos b).wrap K J gd lv) J gd lv) fs s1
  unfold yieldFrom
  refine seg_bind_wrap (wpAny_typeOf hT ?_)
  rw [if_neg (by rw [hne]; exact Bool.false_ne_true)]
  refine seg_bind_wrap (wpAny_holding ?_)
  rw [at'.over]
  refine wpAny_mono hit (fun u s2 hu => ?_) fun x s1 hx => k.exc n z0 x s1 hx
  obtain ⟨it, H1, xs, Sg, rfl, I2, y1, y2, y3, y4, y5, y6, y7, hle, hq⟩ := hu
  refine seg_call fun p => ?_
  have hSi : it ≠ S := fun z => y5 (S, lstObj ac j) (List.mem_append_right _ List.mem_cons_self) z.symm
  have hBi : it ∉ B := fun z => by
    obtain ⟨u, hu⟩ := b0 it z
    exact y5 (it, u) (List.mem_append_right _ (List.mem_cons_of_mem _ (mem_pinsAt z hu))) rfl
  refine seg_from (xs := xs) (ys := ys) at'.oS at'.oB y1 y2 y3 hSi hBi (fun p hp => y5 p (List.mem_append_left _ hp)) y4 y7 ?_ ?_ ?_ hle (fun n1 y0 s1 hn1 hG => ?_) xs.length 0 n z0 s2 (Nat.zero_add _) hn ⟨ac, j, by rw [List.take_zero, List.append_nil]; exact r, b0, I2⟩ y6
  · show (A.over c fs).handled = none
    rw [at'.over]; exact hc
  · show (splitAtGen fs).map _ = none
    rw [at'.split]; rfl
  · show (gd false || fs.any Frame.guarded) = false
    rw [at'.gd, at'.guard]; rfl
  · exact seg_leaf (.ok (.ret .none)) (k.ok n1 (ys ++ xs) y0 s1 .next hn1 ⟨σ, H1, hG, hq⟩)
end
end Zw

set_option Elab.async false
set_option linter.all false
set_option maxRecDepth 100000
set_option maxHeartbeats 1000000
/-! the promise of a generator def whose generator may be walked by a comprehension; no exception leaves it -/
namespace Zw
open PySem PySem.Spec PyProof.Rows L2 GenW
abbrev noX : XK := fun _ _ _ => False
/-- the end of a run: the frame is left, all that was handed out stands in S, and what the taker holds stands -/
def EndJ (P : Program) (w : World) (outer : List Env) (H : Hp) (s : Shared) (S : Addr) (B : List Addr) (Q : List V → Hp → Prop) : GenEnd := fun _ z0 r s1 =>
  ((r = .ok (.ret .none) ∨ r = .ok .next) ∧ ∃ H1 ys xs k, s1.os = s.os ∧ AllBare s1.gens ∧ Un (frs outer) [] H H1 s.heap s1.heap ∧ HOk P w H1 s1.heap ∧ H1 S = none ∧ s1.heap.get? S = some (lstObj xs k) ∧ Vals ys xs.toList ∧ ys.length ≤ sizeLine ∧ Q ys H1 ∧
    ∀ a ∈ B, ∀ u, z0.heap.get? a = some u → s1.heap.get? a = some u ∧ H1 a = none) ∨ ∃ e, r = .error e ∧ False
def ItemJ (s : Shared) (S : Addr) (B : List Addr) (a : Addr) (g : Nat) : Protocol := fun n z0 v s1 kap =>
  s1.os = s.os ∧ AllBare s1.gens ∧ s1.heap.NoLimit ∧ s1.heap.IsGen a g ∧ (∃ (xs : Array Value) (k : Nat), s1.heap.get? S = some (lstObj xs k) ∧ n + 1 + xs.size = sizeLine) ∧ (∀ b ∈ B, ∀ u, z0.heap.get? b = some u → s1.heap.get? b = some u) ∧
    ∀ s', Idle S B v s1 s' → kap (.send .none) s'
/-- a generator that was just made -/
def MadeJ (P : Program) (w : World) (k : Nat) (outer : List Env) (H : Hp) (s : Shared) (Q : List V → Hp → Prop) (u : Value) (s' : Shared) : Prop :=
  ∃ (a : Addr) (g : Nat) (c : Code), u = .ref a ∧ s.heap.objs.size ≤ a ∧ a < s'.heap.objs.size ∧ s'.heap.IsGen a g ∧ s'.gens[g]? = some (.fresh c) ∧ s'.os = s.os ∧ AllBare s'.gens ∧ s'.heap.NoLimit ∧ (∀ b o, s.heap.get? b = some o → s'.heap.get? b = some o) ∧
    ∀ (A : Around) (S : Addr) (B : List Addr) (s2 : Shared), Room k A → A.frames = some outer → s'.heap.objs.size ≤ S → (∀ b ∈ B, s'.heap.objs.size ≤ b) → S ∉ B → (∀ b o, s'.heap.get? b = some o → s2.heap.get? b = some o) → (∃ c, s2.heap.get? S = some (lstObj #[] c)) →
      (∀ b ∈ B, ∃ o, s2.heap.get? b = some o ∧ ∀ z, o.data ≠ .cell z) → s2.os = s.os → AllBare s2.gens → Seg (model P w) A (EndJ P w outer H s S B Q) (ItemJ s S B a g) sizeLine s2 c ((model P w).den c) [] s2
structure GFnJ (P : Program) (w : World) (K : PySem.W.Frag) (mg : Str → Option Value) (base : Heap) (k : Nat) (f : Addr) (fd : FuncData) (ps : List Str) (sp : SpG) : Prop where
  len : ∀ vs H Q E, sp vs H Q E → vs.length = ps.length
  run : ∀ (A : Around) (outer : List Env) (s : Shared) (H : Hp) (args : Args) (us : List Value) (vs : List V) (Q : List V → Hp → Prop), Room k A → Env0 P w K mg base A outer s H → BindsTo s fd args (ps.zip us) → Vals vs us → sp vs H Q noX →
    codeAny (model P w) A (.call (.ref f) args) (fun r s' => match r with | .ok (.ret u) => MadeJ P w k outer H s Q u s' | _ => False) s
theorem gfnJ_of {P : Program} {w : World} {K : PySem.W.Frag} {mg : Str → Option Value} {base : Heap} {k : Nat} {f : Addr} {name qual : Str} {params : Arguments} {body : List Stmt} {scope : Scope} {dV kV doc pm cdv ct oc : Value} {an od : Option Addr}
    {osl : Array (Option Value)} {N ps : List Str} {sp : SpG} (lk : K.lookup f = some ⟨oc, od, .func (PySem.W.fnOf name qual params body scope dV kV doc pm an cdv ct), osl⟩) (hcd : PySem.W.codeIn K cdv qual = true) (Sc : GScope N ps scope)
    (len : ∀ vs H Q E, sp vs H Q E → vs.length = ps.length)
    (hbody : ∀ (A : Around) (outer : List Env) (s : Shared) (H : Hp) (vs : List V) (Q : List V → Hp → Prop) (pn : List (Addr × Obj)), Room k (A.deeper (envOfC qual scope s.heap.objs.size f cdv)) → sp vs H Q noX →
      ∃ t, Bj (gcxOf P w K mg base N qual scope f cdv A outer s H noX pn) body t ∧ t { nx := fun ys _ H' => Q ys H', rt := fun ys v H' => v = .non ∧ Q ys H' } [] (start N vs) H) :
    GFnJ P w K mg base (k + 1) f (PySem.W.fnOf name qual params body scope dV kV doc pm an cdv ct) ps sp := by
  refine ⟨len, fun A outer s H args us vs Q hr e0 hb r hsp => ?_⟩
  have hl := len _ _ _ _ hsp
  have inK : K.In s.heap := e0.mod.kin.keeps fun b o e => (e0.bs b o e).1
  have noL : s.heap.NoLimit := e0.mod.nolimit.keeps fun b o e => (e0.bs b o e).1
  have kinds : ∀ y ∈ ps.zip us, scope.names.lookup y.1 = some .local ∨ (scope.names.lookup y.1 = some .cell ∧ ((cellsFrom (s.heap.objs.size + 1) scope.names []).lookup y.1).isSome = true) := fun ⟨m, v⟩ hy =>
    (Sc.par m (List.of_mem_zip hy).1).imp id fun q => ⟨q, PySem.W.cellsFrom_some _ _ _ (.inl q)⟩
  refine codeAny_call_generator hr.depth (inK _ _ lk) rfl Sc.co Sc.gen rfl (PySem.W.codeRec_of inK hcd) (hb _ _ _ _ ?_)
  refine wpAny_newFunctionEnv_cells Sc.kind kinds fun env he s1 x => ?_
  subst he
  refine ⟨noL.keeps x.toInCall.keep, ?_⟩
  obtain ⟨h1, tk, es1, hk1⟩ := x.done
  have os1 : s1.os = s.os := by rw [es1]
  have gs1 : s1.gens = s.gens := by rw [es1]
  have up : s.heap.objs.size < s1.heap.objs.size := x.toInCall.ns.lt
  have kp : ∀ b o, s.heap.get? b = some o → s1.heap.get? b = some o := x.toInCall.keep
  have main : ∀ (go : Obj) (nm qn : Value) (tk2 : Nat), go.cls = .type "generator" → go.data = .fields #[.int s1.gens.size 0, nm, qn] → go.slots = #[] → (∀ h : Heap, (h.push go).get? h.objs.size = some go) →
      MadeJ P w (k + 1) outer H s Q (.ref s1.heap.objs.size) { s1 with gens := s1.gens.push (.fresh (.func body (envOfC qual scope s.heap.objs.size f cdv))), toks := tk2, heap := s1.heap.push go } := by
    intro go nm qn tk2 c1 c2 c3 gp
    have isG : ∀ h : Heap, h.get? s1.heap.objs.size = some go → h.IsGen s1.heap.objs.size s1.gens.size := fun h e => ⟨go, nm, qn, e, c1, c2, c3⟩
    have at1 : (s1.heap.push go).get? s1.heap.objs.size = some go := gp _
    refine ⟨s1.heap.objs.size, s1.gens.size, _, rfl, Nat.le_of_lt up, ?_, isG _ at1, Array.getElem?_push_size .., os1, ?_, (noL.keeps kp).keeps fun b o e => Heap.get?_push_of_some _ e, fun b o e => Heap.get?_push_of_some _ (kp b o e), ?_⟩
    · show _ < (s1.heap.push _).objs.size
      rw [Heap.size_push]; exact Nat.lt_succ_self _
    · exact AllBare.push (by rw [gs1]; exact e0.bare) rfl
    intro Aw Sx B s2 hrw hfr hSx hBx hSB hk2 hSo hBo hos hba
    obtain ⟨t, ht, hq⟩ := hbody Aw outer s H vs Q [(s1.heap.objs.size, go)] (hrw.deeper _) hsp
    have I1 : Inv (gcxOf P w K mg base N qual scope f cdv Aw outer s H noX []) [] (start N vs) H s1 := inv_startG Sc hrw.hd ⟨hfr, e0.mod, e0.bs, e0.bsz, e0.funs, e0.frf, e0.hok, e0.bare⟩ hl r x
    have kp2 : ∀ b o, s1.heap.get? b = some o → s2.heap.get? b = some o := fun b o e => hk2 b o (Heap.get?_push_of_some _ e)
    have I2 : Inv (gcxOf P w K mg base N qual scope f cdv Aw outer s H noX []) [] (start N vs) H s2 := I1.call' (ch := []) (hos.trans os1.symm) (Un.kept kp2) (I1.hok.kept kp2) hba fun b z => nomatch z
    have big : ∀ b, (s1.heap.push go).objs.size ≤ b → s1.heap.objs.size < b := fun b hb => by rw [Heap.size_push] at hb; exact hb
    have young : ∀ b, s1.heap.objs.size ≤ b → H b = none ∧ b ≠ s.heap.objs.size ∧ b ∉ frs outer ∧ s.heap.objs.size ≤ b ∧ ∀ y c, (cellsFrom (s.heap.objs.size + 1) scope.names []).lookup y = some c → c ≠ b := fun b hb =>
      ⟨I1.hok.fresh hb, Nat.ne_of_gt (Nat.lt_of_lt_of_le up hb), I1.nofs hb, Nat.le_trans (Nat.le_of_lt up) hb, fun y c e z => by
        obtain ⟨v, ob, ho, _⟩ := I1.cell y c e
        have lt := Heap.lt_size ho
        rw [z] at lt
        exact Nat.lt_irrefl _ (Nat.lt_of_lt_of_le lt hb)⟩
    have off : ∀ b, s1.heap.objs.size < b → Off (gcxOf P w K mg base N qual scope f cdv Aw outer s H noX [(s1.heap.objs.size, go)]) b := fun b hb => by
      obtain ⟨_, y2, _, y4, y5⟩ := young b (Nat.le_of_lt hb)
      exact ⟨y4, y2, y5, fun p hp => by rw [List.mem_singleton.mp hp]; exact Nat.ne_of_lt hb⟩
    obtain ⟨cS, eS⟩ := hSo
    have eg : s2.heap.get? s1.heap.objs.size = some go := hk2 s1.heap.objs.size go at1
    have G : Gj (gcxOf P w K mg base N qual scope f cdv Aw outer s H noX [(s1.heap.objs.size, go)]) Sx B [] (start N vs) H s2 s2 := by
      refine ⟨#[], cS, .nil, fun b hb => (hBo b hb).imp fun o q => q.1, I2.pinnedG fun p hp => ?_⟩
      rcases List.mem_append.mp hp with z | z
      · rw [List.mem_singleton.mp z]
        obtain ⟨y1, y2, y3, _, _⟩ := young s1.heap.objs.size (Nat.le_refl _)
        exact ⟨eg, y1, y2, y3, fun v q => by rw [c2] at q; cases q⟩
      · rcases List.mem_cons.mp z with z | z
        · rw [z]
          obtain ⟨y1, y2, y3, _, _⟩ := young Sx (Nat.le_of_lt (big _ hSx))
          exact ⟨eS, y1, y2, y3, fun v q => nomatch q⟩
        · obtain ⟨q1, q2⟩ := of_pinsAt z
          obtain ⟨y1, y2, y3, _, _⟩ := young p.1 (Nat.le_of_lt (big _ (hBx _ q1)))
          obtain ⟨o, ho, hc⟩ := hBo _ q1
          have eo : p.2 = o := Option.some.inj (q2.symm.trans ho)
          exact ⟨q2, y1, y2, y3, by rw [eo]; exact hc⟩
    have genAt : ∀ {ys : List V} {z0 s' : Shared} {σ' : L2.St} {H' : Hp}, Gj (gcxOf P w K mg base N qual scope f cdv Aw outer s H noX [(s1.heap.objs.size, go)]) Sx B ys σ' H' z0 s' → s'.heap.IsGen s1.heap.objs.size s1.gens.size := fun {ys z0 s' σ' H'} hj => by
      obtain ⟨_, _, _, _, J⟩ := hj
      exact isG _ (J.pin (s1.heap.objs.size, go) (List.mem_append_left _ (List.mem_singleton.mpr rfl))).1
    refine seg_func (seg_imp (R := Rj (gcxOf P w K mg base N qual scope f cdv Aw outer s H noX [(s1.heap.objs.size, go)]) Sx B (fun ys v H' => v = .non ∧ Q ys H')) (Y := Yj (gcxOf P w K mg base N qual scope f cdv Aw outer s H noX [(s1.heap.objs.size, go)]) Sx B) (fun n z0 r s' hR => ?_) (fun n z0 v s' kap kap' hkk hY => ?_) sizeLine ?_)
    · match r, hR with
      | .ok (.ret u), ⟨ys, v, σ1, H1, hn, hG, rv, ev, hQ⟩ =>
        subst ev
        obtain rfl : u = Value.none := rv
        obtain ⟨a1, xs, j, ra, ea⟩ := hG.list
        have hB2 : ∀ a ∈ B, ∀ u, z0.heap.get? a = some u → s'.heap.get? a = some u ∧ H1 a = none := fun a ha u hu => ⟨(hG.held ha hu).1, (hG.held ha hu).2.1⟩
        obtain ⟨_, _, _, _, J⟩ := hG
        exact .inl ⟨.inl rfl, H1, ys, xs, j, J.os, J.bare, J.base, J.hok, a1, ea, ra, by omega, hQ, hB2⟩
    · obtain ⟨ys, y, σ1, H1, hn, h2, hG, h3⟩ := hY
      obtain ⟨_, xs, j, ra, ea⟩ := hG.list
      have hg := genAt hG
      have hB2 : ∀ a ∈ B, ∀ u, z0.heap.get? a = some u → s'.heap.get? a = some u := fun a ha u hu => (hG.held ha hu).1
      obtain ⟨_, _, _, _, J⟩ := hG
      have hz : xs.size = ys.length := by
        have q1 := ra.length
        have q2 : xs.toList.length = xs.size := Array.length_toList
        omega
      exact ⟨J.os, J.bare, J.nolimit, hg, ⟨xs, j, ea, by rw [hz]; exact hn⟩, hB2, fun s3 z => hkk _ _ (h3 s3 z)⟩
    · refine ht Sx B Aw _ sizeLine [] s2 _ [] _ _ id id s2 (start N vs) H _ ⟨off _ (big _ hSx), fun b hb => off _ (big _ (hBx b hb)), over_func, rfl, rfl, rfl⟩ (Nat.add_zero _) ⟨fun n ys z0 s' fl hn hf => ?_, fun n z0 e s' hx => ?_⟩ G hq
      · match fl, hf with
        | .next, ⟨σ1, H1, hG, hQ⟩ => exact seg_end (.ok (.ret .none)) ⟨ys, .non, σ1, H1, hn, hG, rfl, rfl, hQ⟩
        | .brk, ⟨_, _, _, q⟩ => exact q.elim
        | .cont, ⟨_, _, _, q⟩ => exact q.elim
        | .ret u, ⟨v, σ1, H1, hG, rv, ev, hQ⟩ => exact seg_end (.ok (.ret u)) ⟨ys, v, σ1, H1, hn, hG, rv, ev, hQ⟩
      · refine seg_wrap ?_
        rw [over_func]
        refine wpAny_mono (show wpAny (model P w) (Aw.deeper (envOfC qual scope s.heap.objs.size f cdv)) (leaving (envOfC qual scope s.heap.objs.size f cdv) e) (fun _ s'' => CX P w outer H s noX e s'' ∧ ∀ p ∈ [(s1.heap.objs.size, go)], s''.heap.get? p.1 = some p.2) (fun _ _ => False) s' from hx) (fun _ s'' q => ?_) fun _ s'' q => q.elim
        obtain ⟨⟨_, _, _, _, _, _, _, _, _, _, _, _, hW⟩, _⟩ := q
        exact hW.elim
  exact main _ _ _ _ rfl rfl rfl fun h => Heap.get?_push_size _ rfl
end Zw

set_option Elab.async false
set_option linter.all false
set_option maxRecDepth 100000
set_option maxHeartbeats 1000000
/-! [x for x in g(..)] -/
namespace Zw
open PySem PySem.Spec PyProof.Rows L2 GenW
section
variable {X : Cx} {k : Nat} {f : Addr} {fd : FuncData} {ps : List Str} {sp : SpG} {dvs : List V} {ds : List Value} {x : Str} {p pos pos' : Pos} {ta : TE}
structure PGenJ (X : Cx) (k : Nat) (e : Expr) (tg : TGen) : Prop where
  run : ∀ (pins : List (Addr × Obj)) (s : Shared) (σ : L2.St) (H : Hp) (cont : List V → Hp → Prop), Inv X pins σ H s → tg σ H cont → wpAny (model X.prog X.w) X.A (eval e X.env)
    (fun u s' => ∃ H1 sc, Inv X pins σ H1 sc ∧ MadeJ X.prog X.w k X.stack H1 sc cont u s') X.xe s
theorem pgenJ_call {e : Expr} {es : List Expr} {t : TA} (F : GFnJ X.prog X.w X.K X.mg X.base k f fd ps sp) (hr : Room k X.A) (hg : Gl X x) (hm : X.mg x = some (.ref f)) (hk : PySem.W.keepIn X.K (.ref f) = true) (hb : Binds X.K fd ps ds) (hd : Vals dvs ds)
    (ha : PA X (e :: es) t) (hdb : (x == ("__debug__" : Str)) = false := by decide) (he : starEach (e :: es) X.env = (false, eval e X.env) :: starEach es X.env := by rfl) (hpl : (backTo pos' (starEach es X.env)).any (·.1) = false := by rfl) :
    PGenJ X k (.Call (.Name x p) (e :: es) [] pos') (tCallG sp dvs noX t) := by
  refine ⟨fun pins s σ H cont I h => wpAny_Call_Name_kw (ld_glob I hg hm ?_ hdb)⟩
  refine PySem.W.callWith_K (h₀ := X.base) I.ok.mod.kin hk (thn (ha.run pos' pins s σ H _ I h) fun us s1 ⟨vs, H1, I1, r, q⟩ => ⟨I1.kIn, ?_⟩) he hpl
  have r2 : Vals (vs ++ dvs) (us ++ ds) := r.append hd
  refine wpAny_call (codeAny_mono (F.run X.A X.stack s1 H1 ⟨us, []⟩ (us ++ ds) (vs ++ dvs) cont hr I1.env0 (hb s1 us I1.kIn (by rw [← r2.length]; exact F.len _ _ _ _ q)) r2 q) fun r s' hq => ?_)
  match r, hq with
  | .ok (.ret u), hq => exact ⟨H1, s1, I1, hq⟩
/-- what the loop has at the head of a turn -/
def Turns (P : Program) (w : World) (A : Around) (outer : List Env) (H : Hp) (sc : Shared) (S L a : Addr) (g : Nat) (Q : List V → Hp → Prop) (m : Nat) (s : Shared) : Prop :=
  s.heap.IsGen a g ∧ s.heap.NoLimit ∧ (∃ mp, s.heap.Ns L mp) ∧ ∃ gs, s.gens[g]? = some gs ∧ gs.Goes (model P w) A.in1 (EndJ P w outer H sc S [L] Q) (ItemJ sc S [L] a g) m (.send .none) (s.setGen g .running)
theorem push_none : ∀ (names : List (Str × NameKind)) (h : Heap), (∀ y ∈ names, y.2 = .local) → pushCells h names = h
  | [], _, _ => rfl
  | (n, k) :: r, h, q => by
    have e : k = .local := q (n, k) List.mem_cons_self
    subst e
    unfold pushCells
    rw [if_neg (by decide)]
    exact push_none r h fun y hy => q y (List.mem_cons_of_mem _ hy)
theorem pe_lcGen {e : Expr} {tg : TGen} {scope : Scope} {p1 p2 : Pos} (h : PGenJ X k e tg) (hr : Room (k + 3) X.A) (hkind : scope.kind = .function) (hlk : scope.names.lookup x = some .local) (hnm : ∀ y ∈ scope.names, y.2 = .local ∧ scope.names.lookup y.1 = some .local) (hs : ∀ y, foldedSetIterable e X.env y = pure y := by intro _; rfl) (hdb : (x == ("__debug__" : Str)) = false := by decide) :
    PE X (.ListComp (.Name x p1) [⟨.Name x p2, e, [], 0⟩] scope pos) (tListG tg) := by
  refine ⟨fun pins s σ H Q I hq => ?_⟩
  rw [eval_ListComp]
  refine wpAny_comprehension_free (use := none) rfl hs (closure_ok fun y hy e => ?_) hkind (fun y hy e => ?_) (thn (h.run pins s σ H _ I hq) fun u s1 ⟨H1, sc, I1, a, g, c, eu, ha1, ha2, hg, hgs, hos, hb, hl, hkp, wake⟩ => ?_)
  · rw [(hnm y hy).1] at e
    cases e
  · exact (hnm y hy).2
  subst eu
  refine wpAny_pyIter_gen hg ?_
  refine wpAny_newObj_type (newEnv_comp ?_) (by show 0 ≤ sizeLine; decide)
  generalize hS : s1.heap.objs.size = S
  generalize hs2 : ({ s1 with heap := s1.heap.push { cls := .type "list", data := .seq ([] : List Value).toArray } } : Shared) = s2
  have h2 : s2.heap = s1.heap.push { cls := .type "list", data := .seq ([] : List Value).toArray } := by rw [← hs2]
  have g2 : s2.gens = s1.gens := by rw [← hs2]
  have o2 : s2.os = s1.os := by rw [← hs2]
  have z2 : s2.heap.objs.size = S + 1 := by rw [h2, Heap.size_push, hS]
  have eS2 : s2.heap.get? S = some (lstObj #[] 0) := by rw [h2, ← hS]; exact Heap.get?_push_size _ rfl
  generalize hL : s2.heap.objs.size = L at *
  have hpc : pushCells (s2.heap.push { cls := .type "dict", data := .dict #[] }) scope.names = s2.heap.push { cls := .type "dict", data := .dict #[] } := push_none _ _ fun y hy => (hnm y hy).1
  have k12 : ∀ b o, s1.heap.get? b = some o → s2.heap.get? b = some o := fun b o q => by rw [h2]; exact Heap.get?_push_of_some _ q
  generalize hce : compEnvC scope (cellsFrom (L + 1) scope.names (cloFrom X.env.cells scope.names [])) L X.env = ce
  have ceL : ce.locals = L := by rw [← hce]; rfl
  have cek : ce.kindOf x = some .local := by
    rw [← hce]
    exact lookup_relabel_local hlk
  have cef : ce.scope.kind = .function := by rw [← hce]; exact hkind
  generalize hs3 : ({ s2 with heap := pushCells (s2.heap.push { cls := .type "dict", data := .dict #[] }) scope.names } : Shared) = s3
  have h3 : s3.heap = s2.heap.push { cls := .type "dict", data := .dict #[] } := by rw [← hs3]; exact hpc
  have g3 : s3.gens = s1.gens := by rw [← hs3]; exact g2
  have o3 : s3.os = s1.os := by rw [← hs3]; exact o2
  have k23 : ∀ b o, s2.heap.get? b = some o → s3.heap.get? b = some o := fun b o q => by rw [h3]; exact Heap.get?_push_of_some _ q
  have k13 : ∀ b o, s1.heap.get? b = some o → s3.heap.get? b = some o := fun b o q => k23 b o (k12 b o q)
  have eL3 : s3.heap.get? L = some { cls := .type "dict", data := .dict #[] } := by rw [h3, ← hL]; exact Heap.get?_push_size _ rfl
  have hSL : S ≠ L := by omega
  have haS : a ≠ S := Nat.ne_of_lt (Nat.lt_of_lt_of_eq ha2 hS)
  have haL : a ≠ L := Nat.ne_of_lt (Nat.lt_trans (Nat.lt_of_lt_of_eq ha2 hS) (by omega))
  have hcS : cStatics < s1.heap.objs.size := let ⟨_, hn, _⟩ := hl; hn.lt
  have start0 : Turns X.prog X.w X.A X.stack H1 sc S L a g (fun out H2 => ∀ p, H2 p = none → Q (.ref p) (upd H2 p (.lst out))) sizeLine s3 := by
    refine ⟨hg.keeps k13, hl.keeps k13, ⟨_, _, #[], _, eL3, rfl, ?_, fun _ => rfl⟩, .fresh c, by rw [g3]; exact hgs, rfl, ?_⟩
    · exact fun z hz => by simp at hz
    · refine wake X.A.in1 S [L] _ ⟨hr.hd, ?_, ?_⟩ I1.ok.frames (by omega) (fun b hb => by rw [List.mem_singleton.mp hb]; omega) (fun z => hSL (List.mem_singleton.mp z)) (fun b o q => k13 b o q) ⟨0, k23 _ _ eS2⟩ (fun b hb => by rw [List.mem_singleton.mp hb]; exact ⟨_, eL3, fun z q => nomatch q⟩) ?_ ?_
      · have := hr.dp
        show X.A.depth + 3 * k + 5 < _
        omega
      · have := hr.un
        show X.A.units + 1 + 16 * k + 200 < _
        omega
      · show s3.os = sc.os
        rw [o3]; exact hos
      · exact allBare_setGen (s := s3) (by rw [g3]; exact hb) rfl
  have loop : codeAny (model X.prog X.w) X.A (.compLoop (.ListComp (.Name x p1) [⟨.Name x p2, e, [], 0⟩] scope pos) 0 (.ref a) (.ref S) ce) (compPost (model X.prog X.w) X.A X.xe none (EP X pins σ Q) (.ref S) L) s3 := by
    refine compLoop_any (Turns X.prog X.w X.A X.stack H1 sc S L a g (fun out H2 => ∀ p, H2 p = none → Q (.ref p) (upd H2 p (.lst out)))) ?_ sizeLine start0
    rintro m s4 ⟨t1, t2, ⟨mp, t3⟩, gs, t4, t5⟩
    have t5' : gs.Goes (model X.prog X.w) X.A.in1 (fun n z0 r s1 => ((r = .ok (.ret .none) ∨ r = .ok .next) ∧ (∃ H2 ys xs j, s1.os = sc.os ∧ AllBare s1.gens ∧ Un (frs X.stack) [] H1 H2 sc.heap s1.heap ∧ HOk X.prog X.w H2 s1.heap ∧ H2 S = none ∧ s1.heap.get? S = some (lstObj xs j) ∧ Vals ys xs.toList ∧ ys.length ≤ sizeLine ∧ (∀ p, H2 p = none → Q (.ref p) (upd H2 p (.lst ys))) ∧
        ∀ b ∈ [L], ∀ u, z0.heap.get? b = some u → s1.heap.get? b = some u ∧ H2 b = none)) ∨ ∃ e, r = .error e ∧ False) (ItemJ sc S [L] a g) m (.send .none) (s4.setGen g .running) := by
      exact t5
    obtain ⟨uL, es, ep, eL4, dL, kL, fL⟩ := id t3
    have hgl : g < s4.gens.size := (Array.getElem?_eq_some_iff.mp t4).1
    refine wpAny_gsz (n := g + 1) hgl (next_genG (A := X.A) hr.hd t2 (by have := hr.dp; omega) t1 t4 t5' (fun v s5 gs' hbare hv => ?_) (fun s5 hp h' hk => ?_) fun e s5 he => he.elim)
    · intro hsz
      obtain ⟨v1, v2, v3, v4, ⟨xs, j, v5, v6⟩, v7, v8⟩ := hv
      have eL5 : s5.heap.get? L = some uL := v7 L (List.mem_singleton.mpr rfl) uL eL4
      have nL5 : s5.heap.Ns ce.locals mp := by rw [ceL]; exact ⟨uL, es, ep, eL5, dL, kL, fL⟩
      have lg : g < s5.gens.size := by
        have q : (s5.setGen g gs').gens.size = s5.gens.size := setGen_size _ _ _
        have hsz' : g + 1 ≤ (s5.setGen g gs').gens.size := hsz
        omega
      obtain ⟨go, nm, qn, eg5, c1, c2, c3⟩ := id v4
      refine go_of (o := go) (n := "generator") eg5 c1 c2 (by decide) ?_
      refine wpAny_assign_Name (wpAny_storeName_local cek (s := s5.setGen g gs') nL5 (fun h6 n6 sb6 => ?_) (by rw [cef]; rfl))
      refine wpAny_tests_nil ?_
      rw [if_pos rfl]
      have eS6 : h6.get? S = some (lstObj xs j) := (sb6.2 S (by rw [ceL]; exact hSL)).trans v5
      refine wpAny_Name (wpAny_loadName_local cef cek (m := fun y => if y = x then some v else mp y) n6 (if_pos rfl) ?_) hdb
      refine append_at (hsz := by omega) eS6 fun h7 sb7 e7 => ?_
      have keep7 : ∀ b o, b ≠ S → b ∉ [L] → s5.heap.get? b = some o → h7.get? b = some o := fun b o h1 h2 q =>
        (sb7.2 b h1).trans ((sb6.2 b (by rw [ceL]; exact fun z => h2 (List.mem_singleton.mpr z))).trans q)
      have n7 : h7.Ns L (fun y => if y = x then some v else mp y) := by
        rw [ceL] at n6
        exact n6.sameBut sb7 (Ne.symm hSL)
      have idle : Idle S [L] v s5 (({ s5.setGen g gs' with heap := h7, toks := s5.toks + 1 } : Shared).setGen g .running) := by
        refine ⟨rfl, allBare_setGen (s := s5.setGen g gs') (allBare_setGen (s := s5) v2 hbare) rfl, keep7, fun ys i q => ?_, fun b hb u hu => ?_⟩
        · rw [v5] at q
          cases q
          exact ⟨_, e7⟩
        · rw [List.mem_singleton.mp hb]
          obtain ⟨o6, _, _, q1, q2, _⟩ := n7
          exact ⟨o6, q1, fun z q => by rw [q2] at q; cases q⟩
      have go7 := v8 _ idle
      have kg : ∀ b o, b ≠ S → b ≠ L → s5.heap.get? b = some o → h7.get? b = some o := fun b o h1 h2 q => keep7 b o h1 (fun z => h2 (List.mem_singleton.mp z)) q
      have hcs : cStatics ≠ S := Nat.ne_of_lt (Nat.lt_of_lt_of_eq hcS hS)
      have hcl : cStatics ≠ L := Nat.ne_of_lt (Nat.lt_trans (Nat.lt_of_lt_of_eq hcS hS) (by omega))
      cases m with
      | zero => exact False.elim go7
      | succ m =>
        refine ⟨m, Nat.lt_succ_self m, ?_, ?_, ⟨_, n7⟩, gs', setGen_at lg, ?_⟩
        · exact ⟨go, nm, qn, kg a go haS haL eg5, c1, c2, c3⟩
        · obtain ⟨mc, hns, hnn⟩ := v3
          exact ⟨mc, hns.at' fun o q => kg _ o hcs hcl q, hnn⟩
        · exact go7
    · intro hsz
      obtain ⟨H2, ys, xs, j, e1, e2, e3, e4, e5, e6, e7, e8, e9, e10⟩ := hp
      obtain ⟨eL5, nL⟩ := e10 L (List.mem_singleton.mpr rfl) uL eL4
      have szL : sc.heap.objs.size ≤ L := Nat.le_trans ha1 (Nat.le_of_lt (Nat.lt_trans (Nat.lt_of_lt_of_eq ha2 hS) (by omega)))
      have szS : sc.heap.objs.size ≤ S := Nat.le_trans ha1 (Nat.le_of_lt (Nat.lt_of_lt_of_eq ha2 hS))
      have I5 : Inv X pins σ (upd H2 S (.lst ys)) { s5.setGen g .finished with heap := h' } := I1.drained szS e8 (hk _ _ e6) e7 .nil e1 (allBare_setGen e2 rfl) (e3.trans (Un.kept hk)) (e4.kept hk) e5
      refine ⟨mp, ⟨uL, es, ep, hk _ _ eL5, dL, kL, fL⟩, fun h'' sb => ?_⟩
      obtain ⟨f0, f1, f2, f3, f4, f5⟩ := I1.fpOk (H' := upd H2 S (.lst ys)) (b := L) szL (by rw [upd_ne (Ne.symm hSL)]; exact nL)
      exact ⟨.ref S, upd H2 S (.lst ys), I5.turned (t' := s5.toks) (fun b o hb e => (sb.2 b hb).trans e) f0 f1 f3 f4 f5, rfl, e9 S e5⟩
  subst hce
  show codeAny _ _ (.compStart (.ListComp (.Name x p1) [⟨.Name x p2, e, [], 0⟩] scope pos) 0 (.ref a) (.ref S) (compEnvC scope (cellsFrom (L + 1) scope.names (cloFrom X.env.cells scope.names [])) L X.env)) (compPost (model X.prog X.w) X.A X.xe none (EP X pins σ Q) (.ref S) L) s3
  exact codeAny_compStart_list loop (wpAny_pyIter_gen (hg.keeps k13) loop)
end
end Zw

set_option Elab.async false
set_option linter.all false
set_option maxRecDepth 100000
set_option maxHeartbeats 1000000
/-! generator defs that a comprehension may walk, on data -/
namespace Z
open PySem PySem.Spec PyProof.Rows L2
section
variable {P : Program} {w : World} {K : PySem.W.Frag} {mg : Str → Option Value} {base : Heap} {β : Type} [Rp β]
theorem def_okJ {x qual : Str} {args : Arguments} {body : List Stmt} {scope : Scope} {dvs : List V} {kws : List (Str × V)} {f : Addr} {fd : FuncData} {N ps : List Str} {k : Nat} {G : Own → List Cell → (List β → Prop) → Prop}
    (Fn : FunD K x qual args body scope dvs kws f fd) (Sc : GScope N ps scope) (len : ∀ Γ cs R, G Γ cs R → cs.length = ps.length)
    (hb : ∀ (cdv : Value) (A : Around) (outer : List PySem.Env) (s : Shared) (H : Hp) (pn : List (Addr × Obj)), Room k (A.deeper (envOfC qual scope s.heap.objs.size f cdv)) →
      ∀ (Γ : Own) (cs : List Cell) (R : List β → Prop), G Γ cs R → ∃ t, Zw.Bj (gcxOf P w K mg base N qual scope f cdv A outer s H Zw.noX pn) body t ∧
        ∀ (Δ0 : Gh) (D : GEnds), (∀ (out : List V) (σ : L2.St) (H' : Hp) (xs : List β), R xs → Ext Δ0 H H' → All2 (fun u a => Rp.rp K Δ0 H' u a) out xs → D.nx out σ H') → WpG K Δ0 H Γ [] (env0 N cs) t D []) :
    Zw.GFnJ P w K mg base (k + 1) f fd ps (spG K G) := by
  obtain ⟨oc, od, dV, kV, doc, pm, an, cdv, ct, osl, rfl, lk, hcd, _, _⟩ := Fn.ex
  refine Zw.gfnJ_of lk hcd Sc (fun vs H Q E h => ?_) fun A outer s H vs Q pn hr h => ?_
  · obtain ⟨Γ, Δ, cs, R, g, _, _, a, _⟩ := h
    rw [All2.len a]
    exact len Γ cs R g
  · obtain ⟨Γ, Δ, cs, R, g, sa, hh, a, q⟩ := h
    obtain ⟨t, ht, hw⟩ := hb cdv A outer s H pn hr Γ cs R g
    exact ⟨t, ht, hw Δ _ (fun out σ H' xs rx e q2 => q out H' xs rx e q2) _ H ⟨Δ, sa, hh, start_ok a, fun z hz => (nomatch hz), Ext.refl hh, fun _ _ z => z, fun x n m => absurd n m⟩⟩
end
end Z

set_option Elab.async false
set_option linter.all false
set_option maxRecDepth 100000
set_option maxHeartbeats 1000000
/-! own lists lengthened by lists, turned lists, bools in lists -/
namespace Z
open PySem PySem.Spec PyProof.Rows L2
section
variable {K : PySem.W.Frag} {Δ0 : Gh} {H0 : Hp} {Γ : Own} {F : List (V × Cell)} {ρ : Z.Env} {ta tb te : TE} {tz : TS} {D : Ends} {α : Type} [Rp α] [Flat α]
theorem flat_all2 {Δ : Gh} {H : Hp} : ∀ {vs : List V} {xs : List α}, All2 (fun u a => Rp.rp K Δ H u a) vs xs → vs = xs.map Flat.val
  | [], [], _ => rfl
  | [], _ :: _, q => q.elim
  | _ :: _, [], q => q.elim
  | _ :: _, _ :: _, q => by rw [List.map_cons, Flat.iff.mp q.1, flat_all2 q.2]
/-- name.extend(list), the last of a block -/
theorem wp_extL {p : Addr} {xs : List α} {P : FL α → Prop} (o : OwnP Δ0 Γ p) (hz : ∀ ys, P ys → xs.length + ys.l.length ≤ 50000) (ho : Ev K (OwnL p xs :: Γ) ta ρ (Is (⟨p⟩ : Loc))) (h : Ev K (OwnL p xs :: Γ) te ρ P)
    (k : ∀ ys, P ys → Wp K Δ0 H0 (OwnL p (xs ++ ys.l) :: Γ) F ρ tNext D) : Wp K Δ0 H0 (OwnL p xs :: Γ) F ρ (tDrop (tBM K "list" rExtend ta (tCons te tNil))) D := fun σ H ⟨Δ, s, hh, e, f, e0, s1, s2⟩ =>
  ho Δ σ H _ s hh e fun w H1 b pb e1 r1 => by
    have eb : b = ⟨p⟩ := pb
    subst eb
    have ew : w = .ref p := r1
    subst ew
    obtain ⟨u, hu, iu⟩ := e1.2 p _ (s _ List.mem_cons_self)
    have iu' : u = HO.lst _ := iu
    subst iu'
    refine ⟨.inl ⟨rfl, _, SqL.of hu⟩, h Δ σ H1 _ s e1.2 (e.mono e1.1) fun v H2 a pa e2 r2 => ?_⟩
    have e3 := e1.trans e2
    obtain ⟨b, vs, rfl, nb, hb, q⟩ := r2
    have ev := flat_all2 q
    subst ev
    have st : Stt K Δ0 H0 (OwnL p xs :: Γ) F ρ σ H2 := ⟨Δ, s, e3.2, e.mono e3.1, fun q hq => q.2.r.mono e3.1 (f q hq), ext0 e0 s1 s2 e3, s1, s2⟩
    obtain ⟨hp, st'⟩ := own_putO (o2 := .lst ((xs ++ a.l).map Flat.val)) o st
    refine ⟨p, b, _, _, rfl, rfl, hp, hb, ?_, ?_⟩
    · rw [List.length_map, List.length_map]
      exact Nat.le_trans (hz a pa) (by decide)
    · rw [← List.map_append]
      exact k a pa σ _ st'
/-- list(name), the list one's own -/
theorem ev_lstO {p : Addr} {xs : List α} (hm : OwnL p xs ∈ Γ) (ho : Ev K Γ ta ρ (Is (⟨p⟩ : Loc))) : Ev K Γ (tCB (fun xs H Q => ∃ p ys, xs = [.ref p] ∧ (SqL K H p ys ∨ SqT K H p ys) ∧ ∀ l, H l = none → Q (.ref l) (upd H l (.lst ys))) (tCons ta tNil)) ρ (Is (⟨xs⟩ : NL α)) :=
  ev_ownL hm ho fun Δ H Q hh hp k => ⟨p, _, rfl, .inl (.inl (.inl hp)), fun l hl => k _ _ _ rfl (Ext.new hh hl _) ⟨l, _, rfl, hh.fresh hl, .inl upd_same, all2_flat xs⟩⟩
end
section
variable {K : PySem.W.Frag} {Δ0 : Gh} {H0 : Hp} {Γ : Own} {F : List (V × Cell)} {ρ : Env} {t tz : TS} {D : Ends}
/-- a, b = e1, e2, the last of a block -/
theorem wp_parL {i j : Nat} {ta : TA} {Q : List Cell → Prop} (h : EvA K Γ ta ρ Q) (hi : i < ρ.length) (hj : j < ρ.length) (k : ∀ cs, Q cs → ∃ c d : Cell, cs = [c, d] ∧ Wp K Δ0 H0 Γ F ((ρ.set i (some c)).set j (some d)) tNext D) : Wp K Δ0 H0 Γ F ρ (tPar i j ta) D := fun σ H ⟨Δ, s, hh, e, f, e0, s1, s2⟩ =>
  h Δ σ H _ s hh e fun vs H' cs pcs e1 r => by
    obtain ⟨c, d, rfl, kk⟩ := k cs pcs
    match vs, r with
    | [v, w], r => exact ⟨v, w, rfl, kk _ H' ⟨Δ, s, e1.2, ((e.mono e1.1).set hi r.1).set (by rw [List.length_set]; exact hj) r.2.1, fun q hq => q.2.r.mono e1.1 (f q hq), ext0 e0 s1 s2 e1, s1, s2⟩⟩
/-- a loop within a loop: what stays, stays behind it too -/
theorem wp_forN {wi : TI} {g : TG} {js : List Nat} {n : Nat} {st : Nat → Env → Env} (Iv : Nat → Own → Env → Prop) (S : Src K Γ wi g ρ js n st) (h0 : Iv 0 Γ ρ) (hl : ∀ i Γ' ρ', Iv i Γ' ρ' → ρ'.length = ρ.length)
    (hs : ∀ i Γ' ρ' F', i < n → Iv i Γ' ρ' → Wp K Δ0 H0 Γ' F' (st i ρ') t { D with nx := At K Δ0 H0 F' Iv (i + 1), ct := At K Δ0 H0 F' Iv (i + 1), bk := tz D })
    (hd : ∀ Γ' ρ', Iv n Γ' ρ' → Wp K Δ0 H0 Γ' F ρ' tz D) : Wp K Δ0 H0 Γ F ρ (tSeq (tFor wi g t) tz) D := fun σ H ⟨Δ, s, hh, e, f, e0, s1, s2⟩ =>
  S Δ σ H _ s hh e fun J H1 pv pc e1 rp0 hgo hyld => by
    refine ⟨fun i m σ2 H2 => m = n - i ∧ i ≤ n ∧ At K Δ0 H0 ((pv, pc) :: F) Iv i σ2 H2, ⟨n, by simp, Nat.zero_le _, Γ, ρ, h0, Δ, s, e1.2, e.mono e1.1, ?_, ext0 e0 s1 s2 e1, s1, s2⟩, ?_⟩
    · intro q hq
      rcases List.mem_cons.mp hq with z | z
      · rw [z]; exact rp0
      · exact q.2.r.mono e1.1 (f q z)
    · rintro i m σ2 H2 ⟨rfl, hi, Γ', ρ', iv, st2⟩
      obtain ⟨Δ', s', hh', e', f', e0', s1', s2'⟩ := id st2
      have rp2 : pc.rp K Δ' H2 pv := f' (pv, pc) List.mem_cons_self
      have hg := hgo Δ' H2 rp2
      by_cases hlt : i < n
      · refine .inr ⟨hg.1 i hlt, At K Δ0 H0 ((pv, pc) :: F) Iv (i + 1), fun σ3 H3 a => ⟨n - (i + 1), by omega, rfl, hlt, a⟩, fun x H3 hy => ?_⟩
        obtain ⟨e3, hput⟩ := hyld Δ' i H2 x H3 hlt hh' rp2 hy
        refine hput σ2 ρ' _ (hl i Γ' ρ' iv) (e'.mono e3.1) fun σ3 env3 _ _ => ?_
        exact hs i Γ' ρ' _ hlt iv σ3 H3 ⟨Δ', s', e3.2, env3, fun q hq => q.2.r.mono e3.1 (f' q hq), ext0 e0' s1' s2' e3, s1', s2'⟩
      · have ei : i = n := by omega
        subst ei
        exact .inl ⟨hg.2, hd Γ' ρ' iv σ2 H2 ⟨Δ', s', hh', e', fun q hq => f' q (List.mem_cons_of_mem _ hq), e0', s1', s2'⟩⟩
end
section
variable {K : PySem.W.Frag} {Γ : Own} {ρ : Z.Env} {te : TE} {α : Type} [Rp α]
/-- xs[::-1] -/
theorem all2_rev {Δ : Gh} {H : Hp} : ∀ {vs : List V} {xs : List α}, All2 (fun u a => Rp.rp K Δ H u a) vs xs → All2 (fun u a => Rp.rp K Δ H u a) vs.reverse xs.reverse
  | [], [], _ => trivial
  | [], _ :: _, q => q.elim
  | _ :: _, [], q => q.elim
  | v :: vs, x :: xs, q => by
    rw [List.reverse_cons, List.reverse_cons]
    exact All2.snoc q.1 (all2_rev q.2)
theorem ev_rev {xs : List α} (h : Ev K Γ te ρ (Is xs)) : Ev K Γ (tRevL K te) ρ (Is xs.reverse) := fun Δ σ H Q s hh e k => h Δ σ H _ s hh e fun v H1 a pa e1 r => by
  have ea : a = xs := pa
  subst ea
  obtain ⟨p, vs, rfl, n, sq, q⟩ := r
  exact ⟨p, vs, rfl, sq, fun l hl => k _ _ _ rfl (e1.trans (Ext.new e1.2 hl _)) (new_lst e1.2 hl (all2_rev q))⟩
theorem inV_bl {b : Bool} : ∀ {xs : List Bool}, inV (.bl b) (xs.map V.bl) = decide (b ∈ xs)
  | [] => rfl
  | x :: xs => by
    have ih := inV_bl (b := b) (xs := xs)
    unfold inV at ih ⊢
    rw [List.map_cons, List.any_cons, ih]
    cases b <;> cases x <;> simp [eqV]
theorem flat_bl : ∀ {xs : List Bool}, (xs.map V.bl).all flatV = true
  | [] => rfl
  | _ :: xs => by
    rw [List.map_cons, List.all_cons, flat_bl]
    rfl
theorem o2_inLB {b : Bool} {xs : List Bool} : Op2 K (rIn K false) b xs (Is (decide (b ∈ xs))) := fun Δ H v w Q hh r1 r2 k => by
  have e1 : v = .bl b := r1
  obtain ⟨p, vs, rfl, n, s, q⟩ := r2
  subst e1
  have ev := all2_bl q
  subst ev
  exact ⟨p, _, rfl, .inl s, rfl, flat_bl, k _ H _ rfl (Ext.refl hh) (by show V.bl _ = V.bl _; rw [if_neg Bool.false_ne_true, inV_bl])⟩
theorem o2_notInLB {b : Bool} {xs : List Bool} : Op2 K (rIn K true) b xs (Is (!decide (b ∈ xs))) := fun Δ H v w Q hh r1 r2 k => by
  have e1 : v = .bl b := r1
  obtain ⟨p, vs, rfl, n, s, q⟩ := r2
  subst e1
  have ev := all2_bl q
  subst ev
  exact ⟨p, _, rfl, .inl s, rfl, flat_bl, k _ H _ rfl (Ext.refl hh) (by show V.bl _ = V.bl _; rw [if_pos rfl, inV_bl])⟩
end
section
variable {K : PySem.W.Frag} {Γ : Own} {ρ : Z.Env} {te : TE} {β γ : Type} [Rp β] [Rp γ] {C : Addr} {E : XK}
/-- o.name, o told by a predicate -/
theorem ev_propP {F : Own → List Cell → (γ → Prop) → Prop} {Q : β → Prop} {Pb : γ → Prop} (hI : IsIns K C β) (h : Ev K Γ te ρ Q) (hF : ∀ b, Q b → ∃ R, F Γ [⟨b⟩] R ∧ ∀ c, R c → Pb c) : Ev K Γ (tProp C (spD K F) [] E te) ρ Pb := fun Δ σ H Q' s hh e k =>
  h Δ σ H _ s hh e fun v H1 b pb e1 r1 => by
    obtain ⟨p, dx, fs, rfl, hp⟩ := hI Δ H1 v _ r1
    obtain ⟨R, hR, q⟩ := hF b pb
    exact ⟨p, dx, fs, rfl, hp, Γ, Δ, [⟨b⟩], R, hR, s, e1.2, ⟨r1, trivial⟩, fun z H' c pc e3 r3 => k z H' c (q c pc) (e1.trans e3) r3⟩
end
section
variable {X : Cx} {K : PySem.W.Frag}
theorem hx_noX : Passes (L2.CX X.prog X.w) X Zw.noX := fun _ _ _ _ _ _ _ h => by
  obtain ⟨_, _, _, _, _, _, _, _, _, _, _, _, hW⟩ := h
  exact hW.elim
theorem hns_noX : NoStop K Zw.noX := fun _ _ _ h => h.elim
theorem pe_revK {e : Expr} {te : TE} {k : Nat} {p1 p2 p3 pos : Pos} (he : PE X e te) (h : X.K = K := by rfl) : PE X (.Subscript e (.Slice none none (some (.UnaryOp .USub (.Constant (.int 1) k p1) p2)) p3) pos) (tRevL K te) := by
  subst h
  exact pe_revL he
end
end Z

set_option Elab.async false
set_option linter.all false
set_option maxRecDepth 100000
set_option maxHeartbeats 4000000
/-! sorted(set(list of texts)) -/
namespace Zst
open PySem PySem.Spec PyProof.Rows L2
def keyX (e : Int × Value) : Str := match e.2 with
  | .str k _ => k
  | _ => Str.empty
theorem isT {P : Program} {w : World} (k : Str) (u : Tok) : (strKind P w).is k (.str k u) = true := by
  show Value.isStrOf k (.str k u) = true
  simp [Value.isStrOf]
def GoodX (w : World) (e : Int × Value) : Prop := ∃ k u, e.2 = Value.str k u ∧ e.1 = hashStr w k
/-- the set of texts at a: l its members (in any order, also twice); its table rises and can be walked -/
def SetX (w : World) (h : Heap) (a : Addr) (l : List Str) (n : Nat) : Prop :=
  ∃ o es ep t, h.get? a = some o ∧ o.ExactSet ∧ o.data = .set es ep t ∧ (∀ e ∈ es.toList, GoodX w e) ∧ (es.toList.map keyX).Nodup ∧ (∀ k, k ∈ l ↔ k ∈ es.toList.map keyX) ∧
    es.size < scanBound ∧ t.fits es.size = true ∧ es.size = n ∧ Ris t.place.toList ∧ (w.params.followText "set-order" = true ∨ t.led = true)
section
variable {P : Program} {w : World} {h h' : Heap} {a : Addr} {l : List Str} {n : Nat}
theorem SetX.keep (R : SetX w h a l n) (k : ∀ o, h.get? a = some o → h'.get? a = some o) : SetX w h' a l n := by
  obtain ⟨o, es, ep, t, ho, r⟩ := R
  exact ⟨o, es, ep, t, k o ho, r⟩
theorem SetX.like {m : List Str} (R : SetX w h a l n) (e : ∀ k, k ∈ m ↔ k ∈ l) : SetX w h a m n := by
  obtain ⟨o, es, ep, t, ho, hx, hd, g, nd, q, r⟩ := R
  exact ⟨o, es, ep, t, ho, hx, hd, g, nd, fun k => (e k).trans (q k), r⟩
theorem elemsX {xs : List (Int × Value)} (g : ∀ e ∈ xs, GoodX w e) : ElemsOf (strKind P w) xs := fun e he => by
  obtain ⟨k, u, q1, q2⟩ := g e he
  exact ⟨⟨k, by rw [q1]; exact isT k u, q2⟩, by rw [q1] <;> rfl⟩
theorem isX {e : Int × Value} (g : GoodX w e) (k : Str) : (strKind P w).is k e.2 = true ↔ keyX e = k := by
  obtain ⟨k0, u, q1, _⟩ := g
  unfold keyX
  rw [q1]
  show (Value.isStrOf k (.str k0 u) = true) ↔ k0 = k
  simp [Value.isStrOf]
theorem memX {xs : List (Int × Value)} (g : ∀ e ∈ xs, GoodX w e) (k : Str) : k ∈ xs.map keyX ↔ ∃ e ∈ xs, (strKind P w).is k e.2 = true := by
  rw [List.mem_map]
  exact ⟨fun ⟨e, he, q⟩ => ⟨e, he, (isX (g e he) k).mpr q⟩, fun ⟨e, he, q⟩ => ⟨e, he, (isX (g e he) k).mp q⟩⟩
end
section
variable {P : Program} {w : World} {A : Around} {E : Value → Shared → Prop} {s : Shared} {a : Addr} {l : List Str} {n : Nat}
theorem add_end {g : Bool → Sem Unit} (hg : ∀ (b : Bool) (z : Shared) (Q' : Unit → Shared → Prop), Q' () z → wpAny (model P w) A (g b) Q' E z)
    {o : Obj} {es : Array (Int × Value)} {ep : Nat} {t : SetTable} (ho : s.heap.get? a = some o) (hx : o.ExactSet) (hd : o.data = .set es ep t)
    {e1 : Array (Int × Value)} {t2 : SetTable} {m : List Str} (g1 : ∀ e ∈ e1.toList, GoodX w e) (nd1 : (e1.toList.map keyX).Nodup) (m1 : ∀ k, k ∈ m ↔ k ∈ e1.toList.map keyX)
    (hb1 : e1.size < scanBound) (hf2 : t2.fits e1.size = true) (hr : Ris t2.place.toList) (hl : w.params.followText "set-order" = true ∨ t2.led = true) {wd : Bool} {R : Option Bool → Shared → Prop}
    (hR : ∀ h1, Heap.SameBut a s.heap h1 → SetX w h1 a m e1.size → R (some true) { s with heap := h1 }) :
    wpAny (model P w) A (do
        storeSet a e1 t2
        if (!wd && t2.tooFull) = true then do
            g (relayAll t2 e1 (SetTable.grown e1.size)).2.2
            storeSet a (relayAll t2 e1 (SetTable.grown e1.size)).1 (relayAll t2 e1 (SetTable.grown e1.size)).2.1
            pure (some true)
          else pure (some true)) R E s := by
  refine wpAny_bind (wpAny_storeSet_of ho hd ?_ (fits_of_scanBound hb1))
  have o1 := store_at (es' := e1) (t' := t2) ho hd
  have s1 := Heap.SameBut.update s.heap a (Obj.putSet e1 t2)
  split
  · have pm := relayAll_perm t2 e1 (SetTable.grown e1.size)
    have f3 := relayAll_fits t2 e1 (SetTable.grown e1.size)
    have r3 := relayAll_ris t2 e1 (SetTable.grown e1.size)
    have l3 := relayAll_led t2 e1 (SetTable.grown e1.size)
    generalize relayAll t2 e1 (SetTable.grown e1.size) = Y at pm f3 r3 l3 ⊢
    obtain ⟨e2, t3, gv⟩ := Y
    dsimp only at pm f3 r3 l3 ⊢
    have sz : e2.size = e1.size := by rw [← Array.length_toList, pm.length_eq, Array.length_toList]
    refine wpAny_bind (hg _ _ _ ?_)
    refine wpAny_bind (wpAny_storeSet_of o1 rfl ?_ (fits_of_scanBound (by rw [sz]; exact hb1)))
    have o2 := store_at (es' := e2) (t' := t3) o1 rfl
    refine wpAny_pure (hR _ (s1.trans (Heap.SameBut.update _ a _)) ?_)
    exact ⟨_, e2, _, t3, o2, hx, rfl, fun e he => g1 e (pm.mem_iff.mp he), (pm.map keyX).nodup_iff.mpr nd1, fun k => (m1 k).trans (pm.map keyX).mem_iff.symm, by rw [sz]; exact hb1, f3, sz, r3, hl.imp id fun z => by rw [l3]; exact z⟩
  · exact wpAny_pure (hR _ s1 ⟨_, e1, _, t2, o1, hx, rfl, g1, nd1, m1, hb1, hf2, rfl, hr, hl⟩)
theorem add_hashed {k : Str} {u : Tok} {Q : Bool → Shared → Prop} (R : SetX w s.heap a l n) (room : n + 1 < scanBound)
    (hQ : ∀ h1 c, Heap.SameBut a s.heap h1 → c ≤ n + 1 → SetX w h1 a (k :: l) c → ∀ b, Q b { s with heap := h1 }) :
    wpAny (model P w) A (setAddHashed a (.str k u) ((strKind P w).hash k)) Q E s := by
  obtain ⟨o, es, ep, t, ho, hx, hd, g, nd, hm, hb, hf, hn, hr, hl⟩ := R
  have hkey : (strKind P w).is k (.str k u) = true := isT k u
  have hsc : (Value.str k u).scannable = true := rfl
  have hel : ElemsOf (strKind P w) es.toList := elemsX g
  unfold setAddHashed setAddHashedIn
  refine wpAny_holding (wpAny_bind (wpAny_setState_of ho hd hf ?_))
  dsimp only
  rw [byScan_of hsc hb hel]
  simp only [↓reduceIte]
  unfold setAddByScan
  refine wpAny_bind ?_
  refine wpAny_bind (wpAny_rule ?_)
  refine wpAny_bind (wpAny_setScan_of hkey ho hd hf hel ?_)
  cases hfi : List.findIdx? (fun e => (strKind P w).is k e.2) es.toList with
  | some j =>
    dsimp only
    obtain ⟨hj, pj, _⟩ := List.findIdx?_eq_some_iff_getElem.mp hfi
    have hkl : k ∈ l := (hm k).mpr ((memX (P := P) g k).mpr ⟨es.toList[j], List.getElem_mem hj, pj⟩)
    refine wpAny_pure (wpAny_pure ?_)
    exact hQ s.heap n (Heap.SameBut.refl a s.heap) (Nat.le_succ n) ⟨o, es, ep, t, ho, hx, hd, g, nd, fun i => by
      rw [List.mem_cons, ← hm i]
      exact ⟨fun z => z.elim (fun q => by rw [q]; exact hkl) id, .inr⟩, hb, hf, hn, hr, hl⟩ _
  | none =>
    dsimp only
    have hnk : k ∉ es.toList.map keyX := fun z => by
      obtain ⟨e, he, q⟩ := (memX (P := P) g k).mp z
      have c := List.findIdx?_eq_none_iff.mp hfi e he
      rw [q] at c
      cases c
    have hgw : ∀ (b : Bool) {z : Shared} {Q' : Unit → Shared → Prop}, Q' () z → wpAny (model P w) A (match b with | true => rule "set.scan.the-table-gave-way" | false => pure ()) Q' E z :=
      fun b z Q' q => by cases b <;> first | exact wpAny_pure q | exact wpAny_rule q
    have pm := layNew_perm t es ((strKind P w).hash k) (.str k u)
    have f1 := layNew_fits t es ((strKind P w).hash k) (.str k u)
    have r1 := layNew_ris t es ((strKind P w).hash k) (.str k u) hr
    have l1 := layNew_led t es ((strKind P w).hash k) (.str k u)
    generalize layNew t es ((strKind P w).hash k) (.str k u) = Y at pm f1 r1 l1 ⊢
    obtain ⟨e1, t1, wd, gv⟩ := Y
    dsimp only at pm f1 r1 l1 ⊢
    rw [Array.toList_push] at pm
    have pc : e1.toList.Perm (((strKind P w).hash k, Value.str k u) :: es.toList) := pm.trans (List.perm_append_singleton _ _)
    have pk : (e1.toList.map keyX).Perm (k :: es.toList.map keyX) := pc.map keyX
    have g1 : ∀ e ∈ e1.toList, GoodX w e := fun e he => by
      rcases List.mem_cons.mp (pc.mem_iff.mp he) with z | z
      · rw [z]; exact ⟨k, u, rfl, rfl⟩
      · exact g e z
    have nd1 : (e1.toList.map keyX).Nodup := pk.nodup_iff.mpr (List.nodup_cons.mpr ⟨hnk, nd⟩)
    have m1 : ∀ i, i ∈ k :: l ↔ i ∈ e1.toList.map keyX := fun i => by
      rw [pk.mem_iff, List.mem_cons, List.mem_cons, hm i]
    have sz : e1.size = n + 1 := by rw [← Array.length_toList, pc.length_eq, List.length_cons, Array.length_toList, hn]
    have hb1 : e1.size < scanBound := by rw [sz]; exact room
    have led : w.params.followText "set-order" = true ∨ t1.led = true := hl.imp id fun z => by rw [l1]; exact z
    refine wpAny_bind (hgw _ ?_)
    split
    · refine wpAny_bind ?_
      rw [hashByValue_scannable 8 hsc]
      refine wpAny_pure ?_
      refine add_end ?_ ho hx hd g1 nd1 m1 hb1 ?_ ?_ ?_ ?_
      · intro b z Q' q; cases b <;> first | exact wpAny_pure q | exact wpAny_rule q
      · first | (split <;> first | exact f1 | exact SetTable.fits_plain_off f1) | exact f1
      · first | (split <;> exact r1) | exact r1
      · first | (split <;> exact led) | exact led
      · intro h1 sb r; dsimp only; exact wpAny_pure (hQ h1 _ sb (Nat.le_of_eq sz) r _)
    · refine wpAny_bind (wpAny_pure ?_)
      simp only [↓reduceIte]
      refine add_end ?_ ho hx hd g1 nd1 m1 hb1 f1 r1 led ?_
      · intro b z Q' q; cases b <;> first | exact wpAny_pure q | exact wpAny_rule q
      · intro h1 sb r; dsimp only; exact wpAny_pure (hQ h1 _ sb (Nat.le_of_eq sz) r _)
theorem new_at {h : Heap} (ho : h.get? a = some { cls := .type "set", dict := none, data := .set #[] 0 (.fresh 0 0 (!w.params.followText "set-order")) }) : SetX w h a [] 0 := by
  refine ⟨_, #[], 0, _, ho, ⟨rfl, rfl, rfl⟩, rfl, fun e he => (by simp at he), (by simp), fun k => (by simp), (by decide), (by rfl), rfl, List.Pairwise.nil, ?_⟩
  show _ ∨ (!w.params.followText "set-order") = true
  cases w.params.followText "set-order" with
  | true => exact .inl rfl
  | false => exact .inr rfl
/-- the turns of set(..) over a walk of texts -/
theorem fill {I : Addr} {fp wr : List Addr} {G : Array GenState → Array GenState → Prop} {n : Nat} {Pv : Nat → Value → Prop} {St : Nat → Shared → Prop} {R : Result → Shared → Prop}
    (W : WalksS P w A.in1 I fp wr G n Pv St) (S : Addr) (hSf : S ∉ fp) (xs : List Str) (hn : n = xs.length) (hb : xs.length + 1 < scanBound) (hval : ∀ i v, Pv i v → ∃ k t, xs[i]? = some k ∧ v = .str k t) :
    ∀ (r i : Nat) (s : Shared), n - i = r → i ≤ n → St i s → (∃ c, c ≤ i ∧ SetX w s.heap S (xs.take i) c) →
      (∀ s' c, Moved (S :: wr) G s s' → c ≤ n → SetX w s'.heap S xs c → R (.ok (.ret .none)) s') →
      codeAny (model P w) A (.builtin "set.update.loop" ⟨[.ref S, .ref I], []⟩) R s := by
  have hSw : S ∉ wr := fun h => hSf (W.sub _ h)
  have sub : ∀ b ∈ wr, b ∈ S :: wr := fun b hb => List.mem_cons_of_mem _ hb
  intro r
  induction r with
  | zero =>
    intro i s hr hi hst ⟨c, hc, hS⟩ hR
    obtain rfl : i = n := by omega
    refine codeAny_builtin F.entry_set_update_loop ?_
    rw [Around.under_plainId F.plain_set_update_loop _]
    show wpAny _ A.in1 (pyNext (.ref I) >>= _) _ _ s
    refine wpAny_bind (W.done s _ _ hst fun s' hm => ?_)
    show wpAny _ A.in1 (ret Value.none) _ _ s'
    rw [List.take_of_length_le (by omega)] at hS
    exact wpAny_pure (hR s' c (hm.mono sub) hc (hS.keep fun o e => hm.heap S o hSw e))
  | succ r ih =>
    intro i s hr hi hst ⟨c, hc, hS⟩ hR
    have lt : i < n := by omega
    refine codeAny_builtin F.entry_set_update_loop ?_
    rw [Around.under_plainId F.plain_set_update_loop _]
    show wpAny _ A.in1 (pyNext (.ref I) >>= _) _ _ s
    refine wpAny_bind (W.item i s _ _ lt hst fun v s1 hP hst1 hm => ?_)
    obtain ⟨z, t, hz, rfl⟩ := hval i v hP
    have hS1 : SetX w s1.heap S (xs.take i) c := hS.keep fun o e => hm.heap S o hSw e
    show wpAny _ A.in1 (holding [Value.str z t] (setAdd S (.str z t)) >>= _) _ _ s1
    refine wpAny_bind (wpAny_holding ?_)
    unfold setAdd
    refine wpAny_holding ?_
    refine wpAny_bind ((strKind P w).pyHash (k := z) (isT _ _) ?_)
    refine add_hashed (s := { s1 with toks := s1.toks + 1 }) hS1 (by omega) fun h1 c1 sb hc1 hS2 b => ?_
    have hS3 : SetX w h1 S (xs.take (i + 1)) c1 := hS2.like fun k => by
      rw [List.take_add_one, hz]
      simp [List.mem_append, or_comm]
    refine wpAny_pure ⟨plainId_quiet F.plain_set_update_loop _, ih (i + 1) _ (by omega) lt (W.frame _ s1 _ _ hst1 (Nat.le_succ _) fun b hb o e => ?_) ⟨_, by omega, hS3⟩ fun s2 c2 m2 hc2 hS4 => ?_⟩
    · rw [sb.2 b (fun h : b = S => hSf (by rw [← h]; exact hb))]; exact e
    · refine hR s2 c2 (Moved.trans W.gtrans ((hm.mono sub).then_heap (Nat.le_succ _) fun b o hb e => ?_) m2) hc2 hS4
      rw [sb.2 b (fun h : b = S => hb (by rw [h]; exact List.mem_cons_self))]; exact e
end
end Zst

set_option Elab.async false
set_option linter.all false
set_option maxRecDepth 100000
set_option maxHeartbeats 4000000
/-! set(list of texts), sorted of it -/
namespace Zst
open PySem PySem.Spec PyProof.Rows L2
section
variable {P : Program} {w : World} {A : Around} {E : Value → Shared → Prop} {s : Shared}
theorem at_txt : ∀ {us : List Value} {xs : List Str}, StrsAre us xs → ∀ (i : Nat) (v : Value), us[i]? = some v → ∃ k t, xs[i]? = some k ∧ v = .str k t
  | _, _, .nil, i, v, h => by simp at h
  | _, _, .cons n t r, 0, v, h => ⟨n, t, rfl, (Option.some.inj h).symm⟩
  | _, _, .cons n t r, i + 1, v, h => at_txt r i v h
abbrev none0 (w : World) : Obj := { cls := .type "set", dict := none, data := .set #[] 0 (.fresh 0 0 (!w.params.followText "set-order")) }
theorem call_setL {q : Addr} {its : Array Value} (xs : List Str) {Q : Value → Shared → Prop} (hh : A.handled = none) (hl : s.heap.IsList q its) (hit : StrsAre its.toList xs) (hb : xs.length + 1 < scanBound)
    (h : ∀ (h1 : Heap) (tk c : Nat), SetX w h1 s.heap.objs.size xs c → c ≤ xs.length → (∀ b o, s.heap.get? b = some o → h1.get? b = some o) → Q (.ref s.heap.objs.size) { s with heap := h1, toks := tk }) :
    wpAny (model P w) A (call (.type "set") [.ref q]) Q E s := by
  have size : its.size = xs.length := by
    have e := StrsAre.len_eq hit
    rw [Array.length_toList] at e
    exact e
  obtain ⟨c, tl, hmro⟩ := F.called_set.mro
  have hmade := F.called_set.made
  have hsub := F.called_set.sub
  refine wpAny_call (codeAny_of_tree ?_)
  show wpAny _ _ (callAny (.type "set") _) _ _ _
  refine wpAny_pure ⟨Code.quiet_builtin _ (by decide +kernel), codeAny_builtin F.entry_type_call ?_⟩
  rw [Around.under_plain (weight_type_call_type "set" [.ref q] []) rfl]
  have t1 := F.called_set.notType
  have t2 := F.called_set.canCreate
  have t3 := F.typeCall_set_1 (.ref q)
  repeat (any_goals (first | assumption | wp_step))
  refine codeAny_mono (code_set_led1 (.ref q) (E := E) (Q₁ := fun obj z => obj = .ref s.heap.objs.size ∧ z = { s with heap := s.heap.push (none0 w) }) ⟨rfl, rfl⟩) fun r z hr => ?_
  match r, hr with
  | .error e, hr => exact hr
  | .ok .next, hr => exact hr.elim
  | .ok .brk, hr => exact hr.elim
  | .ok .cont, hr => exact hr.elim
  | .ok (.ret obj), hr =>
    obtain ⟨rfl, rfl⟩ := hr
    have hS : (s.heap.push (none0 w)).get? s.heap.objs.size = some (none0 w) := Heap.get?_push_size _ rfl
    have hT : Shared.TypeIs { s with heap := s.heap.push (none0 w) } (.ref s.heap.objs.size) "set" := ⟨_, hS, rfl⟩
    have hli := F.called_set.init.lookup
    have hbi := F.called_set.init.bind (.ref s.heap.objs.size)
    repeat (any_goals (first | assumption | wp_step))
    refine codeAny_mono (codeAny_call_builtin (R := wants (fun r z => r = .none ∧ ∃ h1 tk c, z = { s with heap := h1, toks := tk } ∧ SetX w h1 s.heap.objs.size xs c ∧ c ≤ xs.length ∧ (∀ b o, s.heap.get? b = some o → h1.get? b = some o)) E) F.called_set.init.plain F.entry_set_init (check_set_init_1 hT ?_)) fun r2 z2 hr2 => ?_
    · obtain ⟨ol, hol, hcl, nl, hdl⟩ := hl
      obtain ⟨ocls, odict, odata, oslots⟩ := ol
      simp only at hcl hdl
      subst hcl; subst hdl
      have hol' : (s.heap.push (none0 w)).get? q = some { cls := .type "list", dict := odict, data := .seq its nl, slots := oslots } := Heap.get?_push_of_some _ hol
      have hsls := F.sub_list_set
      have hslf := F.sub_list_frozenset
      have hne : (Value.type "list" == Value.type "dict") = false := by decide
      have hl1 : (s.heap.push (none0 w)).IsList q its := ⟨_, hol', rfl, nl, rfl⟩
      unfold Builtin.«set.__init__» noKeywords Builtin.Frozenset.updateFrom
      generalize hPI : pyIter = PI
      wp_walk
      subst hPI
      refine wpAny_pyIter_list hl1 ?_
      refine wpAny_bind (wpAny_runValue ?_)
      have below : q < s.heap.objs.size := Heap.lt_size hol
      have free : A.in1.in1.in1.handled = none := by simp [hh]
      have apart : q ≠ (s.heap.push (none0 w)).objs.size := by
        rw [Heap.size_push]; exact Nat.ne_of_lt (Nat.lt_succ_of_lt below)
      have off : s.heap.objs.size ∉ [(s.heap.push (none0 w)).objs.size, q] := by
        rw [Heap.size_push]; simp only [List.mem_cons, List.mem_singleton, List.not_mem_nil, or_false, not_or]
        exact ⟨Nat.ne_of_lt (Nat.lt_succ_self _), Nat.ne_of_gt below⟩
      have hval : ∀ (i : Nat) (v : Value), its[i]? = some v → ∃ k t, xs[i]? = some k ∧ v = .str k t := fun i v hv => at_txt hit i v (by rw [Array.getElem?_toList]; exact hv)
      refine fill ((Walks.list free _ q apart its).toS) s.heap.objs.size off xs size hb hval (its.size - 0) 0 _ (by omega) (Nat.zero_le _) ⟨⟨_, Heap.get?_push_size _ rfl, rfl, rfl⟩, (hl1.push _)⟩ ⟨0, Nat.le_refl 0, by rw [List.take_zero]; exact new_at (Heap.get?_push_of_some _ hS)⟩ fun z c' hm hc' hS' => ?_
      obtain ⟨h1, g2, d2, tk2, os2⟩ := z
      obtain rfl : g2 = s.gens := hm.gens
      obtain rfl : d2 = s.drawn := hm.drawn
      obtain rfl : os2 = s.os := hm.os
      show wpAny _ _ _ _ _ _
      refine wpAny_pure ?_
      show wpAny _ _ (ret Value.none) _ _ _
      rw [size] at hc'
      refine wpAny_pure ⟨rfl, h1, tk2, c', rfl, hS', hc', fun b o e => ?_⟩
      have b0 : b < s.heap.objs.size := Heap.lt_size e
      have b1 : b ≠ (s.heap.push (none0 w)).objs.size := by
        rw [Heap.size_push]; exact Nat.ne_of_lt (Nat.lt_succ_of_lt b0)
      exact hm.heap b o (by simp only [List.mem_cons, List.mem_singleton, List.not_mem_nil, or_false, not_or]; exact ⟨Nat.ne_of_lt b0, b1⟩) (Heap.get?_push_of_some _ (Heap.get?_push_of_some _ e))
    · match r2, hr2 with
      | .error e, hr2 => exact hr2
      | .ok .next, hr2 => exact hr2.elim
      | .ok .brk, hr2 => exact hr2.elim
      | .ok .cont, hr2 => exact hr2.elim
      | .ok (.ret r), hr2 =>
        obtain ⟨rfl, h1, tk, c', rfl, hS', hc', hk'⟩ := hr2
        repeat (any_goals (first | assumption | wp_step))
        exact h _ _ _ hS' hc' hk'
theorem strs_all : ∀ (vs : List Value), (∀ v ∈ vs, ∃ k u, v = Value.str k u) → StrsAre vs (vs.map Zs.tv)
  | vs, h => Zs.txt_tv h
end
end Zst

set_option Elab.async false
set_option linter.all false
set_option maxRecDepth 100000
set_option maxHeartbeats 4000000
/-! sorted(set(xs)), xs a list of texts -/
namespace Zst
open PySem PySem.Spec PyProof.Rows L2
section
variable {P : Program} {w : World} {A : Around} {E : Value → Shared → Prop} {s : Shared} {a : Addr}
theorem sorted_X {l : List Str} {n : Nat} {Q : Value → Shared → Prop} (R : SetX w s.heap a l n) (hh : A.handled = none) (hn1 : n ≤ sizeLine)
    (hQ : ∀ s' p (out : Array Value) (c : Nat) (ys : List Str), (∀ b o, s.heap.get? b = some o → s'.heap.get? b = some o) → s'.gens = s.gens → s'.os = s.os → s.heap.objs.size ≤ p →
      s'.heap.get? p = some (seqObj "list" out c) → StrsAre out.toList ys → ys.Nodup → Zs.Rise ys → (∀ k, k ∈ ys ↔ k ∈ l) → ys.length = n → Q (.ref p) s') :
    wpAny (model P w) A (call (.builtin "sorted") [.ref a]) Q E s := by
  obtain ⟨o, es, ep, t, ho, hx, hd, g, nd, hm, hb, hf, hn, hr, hl⟩ := R
  refine Calls.call_function_entry kind_sorted plain_sorted entry_sorted (args_sorted1 _) ?_
  unfold Builtin.«sorted»
  refine wpAny_bind (m := checkCount "sorted" 1 1 _) (wpAny_pure ?_)
  refine wpAny_bind (collect_set (A := A.in1) hh ⟨o, ho, hx.1, hd⟩ hf hb hr hl fun s1 vs k1 z1 g1 o1 pm => ?_)
  have hlen : vs.length = n := by rw [pm.length_eq, List.length_map, Array.length_toList]; exact hn
  have hI : StrsAre vs (vs.map Zs.tv) := Zs.txt_tv fun v hv => by
    obtain ⟨e, he, q⟩ := List.mem_map.mp (pm.mem_iff.mp hv)
    obtain ⟨k, u, q1, _⟩ := g e he
    exact ⟨k, u, by rw [← q]; exact q1⟩
  have pk : (vs.map Zs.tv).Perm (es.toList.map keyX) := by
    have q := pm.map Zs.tv
    rw [List.map_map] at q
    exact q
  have room : vs.length ≤ sizeLine := by rw [hlen]; exact hn1
  refine wpAny_bind (wpAny_newList ?_ room)
  have hoL : (s1.heap.push (seqObj "list" vs.toArray 0)).get? s1.heap.objs.size = some (seqObj "list" vs.toArray 0) := Heap.get?_push_size _ rfl
  refine wpAny_bind (wpAny_holding (wpAny_call_entry slot_list_sort ⟨_, hoL, rfl⟩ entry_list_sort (SrtO.list_sort_ord Zs.swo_txt hoL room (fun h2 => Zs.txt_sortable hI h2) fun out a1 a2 => ⟨_, rfl, ?_⟩) (args_list_sort _)))
  obtain ⟨c, hc⟩ := sortedHeap_at (vs := vs) (out := out.toArray) hoL
  obtain ⟨b1, b2, b3⟩ := Zs.txt_out hI a1 a2
  have pn : (out.map Zs.tv).Perm (es.toList.map keyX) := b2.trans pk
  refine wpAny_pure ⟨_, rfl, hQ _ s1.heap.objs.size out.toArray c (out.map Zs.tv) (fun b u e => ?_) g1 o1 z1 hc b1 (pn.nodup_iff.mpr nd) b3 (fun k => by rw [pn.mem_iff, ← hm k]) ?_⟩
  · have q := k1 b u e
    have lt := Heap.lt_size q
    show (sortedHeap (s1.heap.push (seqObj "list" vs.toArray 0)) s1.heap.objs.size vs out.toArray).get? b = some u
    rw [sortedHeap_old (Nat.ne_of_lt lt) (by rw [size_push']; exact Nat.lt_succ_of_lt lt)]
    exact Heap.get?_push_of_some _ q
  · rw [pn.length_eq, List.length_map, Array.length_toList]; exact hn
end
end Zst
namespace L2
open PySem PySem.Spec PyProof.Rows
/-- sorted(set(xs)): each text once, rising -/
def tSortSet (K : PySem.W.Frag) (te : TE) : TE := fun σ H Q => te σ H fun x H1 => ∃ (a : Addr) (ns : List Str), x = .ref a ∧ SqL K H1 a (ns.map V.str) ∧ ns.length ≤ 1000 ∧
  ∀ (ys : List Str) (p : Addr), ys.Nodup → (∀ k, k ∈ ys ↔ k ∈ ns) → Zs.Rise ys → H1 p = none → Q (.ref p) (upd H1 p (.lst (ys.map V.str)))
section
variable {X : Cx}
theorem pe_sortSet {e : Expr} {te : TE} {p p2 q pos : Pos} (hc : X.calm = true) (hg : Gl X "sorted") (hm : X.mg "sorted" = none) (hv : bootBuiltins "sorted" = some (.builtin "sorted")) (hg2 : Gl X "set") (hm2 : X.mg "set" = none) (he : PE X e te)
    (na : starEach [e] X.env = (false, eval e X.env) :: starEach [] X.env := by rfl) : PE X (.Call (.Name "sorted" p) [.Call (.Name "set" p2) [e] [] q] [] pos) (tSortSet X.K te) := by
  refine ⟨fun pins s σ H Q I h => ?_⟩
  refine Call_ (ld_blt I hg hm hv ?_)
  refine PyProof.Rows.callWith_builtin1 (PyProof.Rows.args_cons ?_ rfl) rfl rfl
  refine Call_ (ld_blt I hg2 hm2 boot_set ?_)
  refine PyProof.Rows.callWith_type1 (PyProof.Rows.args_cons (thn (he.run pins s σ H _ I h) fun v s1 ⟨x, H1, I1, r1, q1⟩ => PyProof.Rows.args_nil ?_) na) na rfl
  obtain ⟨a, ns, rfl, hq, hz, q1⟩ := q1
  cases r1
  obtain ⟨its, r, pl, hlz⟩ := I1.list hq
  refine Zst.call_setL (its := its.toArray) ns (I1.ok.hd hc) pl.isList r.strs (by unfold scanBound; omega) fun h1 tk c hS hcn hk => ?_
  refine PyProof.Rows.args_nil ?_
  refine Zst.sorted_X (s := { s1 with heap := h1, toks := tk }) hS (I1.ok.hd hc) (Nat.le_trans hcn (Nat.le_trans hz (by decide))) fun s' l out c2 ys k2 g2 o2 l2 e2 r2 nd rs mm hl => ?_
  have kp : ∀ b o, s1.heap.get? b = some o → s'.heap.get? b = some o := fun b o e => k2 b o (hk b o e)
  have hl2 : s1.heap.objs.size ≤ l := by
    obtain ⟨_, _, _, _, ho, _⟩ := hS
    exact Nat.le_trans (Nat.le_of_lt (Heap.lt_size ho)) l2
  have new : ObjOk X.prog X.w (upd H1 l (.lst (ys.map V.str))) s'.heap l (.lst (ys.map V.str)) := by
    refine ⟨?_, out.toList, c2, vals_of_strs r2, e2⟩
    rw [List.length_map, hl]
    exact Nat.le_trans hcn (Nat.le_trans hz (by decide))
  exact ⟨.ref l, upd H1 l (.lst (ys.map V.str)), I1.call' (ch := []) o2 (Un.laid kp hl2 (I1.hok.fresh hl2)) (I1.hok.laid kp hl2 new) (by rw [g2]; exact I1.bare) (fun b z => nomatch z), rfl, q1 ys l nd mm rs (I1.hok.fresh hl2)⟩
end
end L2

set_option Elab.async false
set_option linter.all false
set_option maxRecDepth 100000
set_option maxHeartbeats 1000000
/-! the rows of a lot in their order -/
namespace Z
open PySem PySem.Spec PyProof.Rows L2
abbrev NL' (x y : Tx) : Prop := ¬ y.s < x.s
theorem tx_anti {x y : Tx} (h1 : ¬ y.s < x.s) (h2 : ¬ x.s < y.s) : x = y := by
  cases x
  cases y
  congr 1
  exact List.le_antisymm (by simpa using h1) (by simpa using h2)
theorem pw_uniq : ∀ {a b : List Tx}, a.Nodup → b.Nodup → a.Pairwise NL' → b.Pairwise NL' → (∀ x, x ∈ a ↔ x ∈ b) → a = b
  | [], [], _, _, _, _, _ => rfl
  | [], y :: _, _, _, _, _, m => absurd ((m y).mpr List.mem_cons_self) (by simp)
  | x :: _, [], _, _, _, _, m => absurd ((m x).mp List.mem_cons_self) (by simp)
  | x :: xs, y :: ys, n1, n2, p1, p2, m => by
    rw [List.nodup_cons] at n1 n2
    rw [List.pairwise_cons] at p1 p2
    have e : x = y := by
      rcases List.mem_cons.mp ((m x).mp List.mem_cons_self) with h | h
      · exact h
      · rcases List.mem_cons.mp ((m y).mpr List.mem_cons_self) with h2 | h2
        · exact h2.symm
        · exact tx_anti (p1.1 y h2) (p2.1 x h)
    subst e
    rw [pw_uniq n1.2 n2.2 p1.2 p2.2 fun z => ⟨fun h => ?_, fun h => ?_⟩]
    · rcases List.mem_cons.mp ((m z).mp (List.mem_cons_of_mem _ h)) with q | q
      · exact absurd (q ▸ h) n1.1
      · exact q
    · rcases List.mem_cons.mp ((m z).mpr (List.mem_cons_of_mem _ h)) with q | q
      · exact absurd (q ▸ h) n2.1
      · exact q
/-- each of the rows once, in their order -/
def srt (S : List Tx) : List Tx := (onceT [] S).mergeSort fun x y => !decide (y.s < x.s)
theorem lst_total (x y : List Nat) : ¬ y < x ∨ ¬ x < y := by
  by_cases h : y < x
  · exact .inr (fun h2 => absurd (List.lt_trans h h2) (List.lt_irrefl _))
  · exact .inl h
theorem srt_perm (S : List Tx) : (srt S).Perm (onceT [] S) := List.mergeSort_perm _ _
theorem srt_mem {S : List Tx} {x : Tx} : x ∈ srt S ↔ x ∈ S := by rw [(srt_perm S).mem_iff, onceT_mem]; simp
theorem srt_nd (S : List Tx) : (srt S).Nodup := (srt_perm S).nodup_iff.mpr (onceT_nodup _ _ .nil)
theorem srt_pw (S : List Tx) : (srt S).Pairwise NL' := by
  have h := List.pairwise_mergeSort (le := fun x y : Tx => !decide (y.s < x.s)) (fun a b c h1 h2 => by
    simp only [Bool.not_eq_true', decide_eq_false_iff_not] at h1 h2 ⊢
    exact Zs.lists_tr h1 h2) (fun a b => by
    simp only [Bool.or_eq_true, Bool.not_eq_true', decide_eq_false_iff_not]
    exact lst_total a.s b.s) (onceT [] S)
  exact h.imp fun h => by simpa using h
theorem srt_of {l S : List Tx} (nd : l.Nodup) (pw : l.Pairwise NL') (m : ∀ x, x ∈ l ↔ x ∈ S) : l = srt S :=
  pw_uniq nd (srt_nd S) pw (srt_pw S) fun x => by rw [m x, srt_mem]
theorem srt_congr {S T : List Tx} (m : ∀ x, x ∈ S ↔ x ∈ T) : srt S = srt T := srt_of (srt_nd S) (srt_pw S) fun x => by rw [srt_mem, m x]
theorem srt_self {S : List Tx} : srt (srt S) = srt S := srt_congr fun x => srt_mem
theorem srt_filter {S : List Tx} {p : Tx → Bool} : (srt S).filter p = srt (S.filter p) := srt_of ((srt_nd S).filter _) ((srt_pw S).filter _) fun x => by rw [List.mem_filter, List.mem_filter, srt_mem]
theorem srt_len {S : List Tx} : (srt S).length ≤ S.length := by
  rw [(srt_perm S).length_eq]
  have := onceT_len S []
  simpa using this
theorem srt_sorted {S l : List Tx} (h : SortedT (onceT [] S) l) : l = srt S := srt_of (h.1.nodup_iff.mpr (onceT_nodup _ _ .nil)) h.2 fun x => by rw [h.1.mem_iff, onceT_mem]; simp
section
variable {K : PySem.W.Frag} {Γ : Own} {ρ : Z.Env} {ta tb te : TE}
/-- sorted(set(xs)) -/
theorem ev_sortSet {xs : List Tx} (h : Ev K Γ te ρ (Is xs)) (hz : xs.length ≤ 1000) : Ev K Γ (tSortSet K te) ρ (Is (srt xs)) := fun Δ σ H Q s hh e k => h Δ σ H _ s hh e fun v H1 a pa e1 r => by
  have ea : a = xs := pa
  subst ea
  obtain ⟨p, vs, rfl, n, sq, q⟩ := r
  have ev := all2_tx q
  subst ev
  refine ⟨p, _, rfl, sq, by rw [List.length_map]; exact hz, fun ys l nd mm rs hl => ?_⟩
  have e1' : ys = (ys.map fun z => (⟨z.cps.toList⟩ : Tx)).map fun x => (⟨x.s.toArray⟩ : Str) := by
    rw [List.map_map]
    conv => lhs; rw [← List.map_id ys]
    exact List.map_congr_left fun z _ => by cases z; rfl
  have inj : ∀ {u w : Str}, (⟨u.cps.toList⟩ : Tx) = ⟨w.cps.toList⟩ → u = w := fun {u w} z => by
    cases u
    cases w
    have := Tx.mk.inj z
    congr 1
    exact Array.toList_inj.mp this
  have es : (ys.map fun z => (⟨z.cps.toList⟩ : Tx)) = srt a := by
    refine srt_of (List.Pairwise.map _ (fun u w hne z => hne (inj z)) nd) (List.pairwise_map.mpr rs) fun x => ?_
    rw [List.mem_map]
    constructor
    · rintro ⟨z, hz, rfl⟩
      obtain ⟨x, hx, rfl⟩ := List.mem_map.mp ((mm z).mp hz)
      exact hx
    · intro hx
      exact ⟨⟨x.s.toArray⟩, (mm _).mpr (List.mem_map.mpr ⟨x, hx, rfl⟩), rfl⟩
  refine k _ _ (srt a) rfl (e1.trans (Ext.new e1.2 hl _)) (new_lst e1.2 hl ?_)
  have e2 : ys.map V.str = (srt a).map fun x => V.str ⟨x.s.toArray⟩ := by
    rw [← es]
    conv => lhs; rw [e1']
    rw [List.map_map]
    rfl
  rw [e2]
  have em : (srt a) = (srt a).map id := (List.map_id _).symm
  conv => rhs; rw [em]
  exact All2.map fun x _ => rfl
theorem all2_app {α : Type} [Rp α] {Δ : Gh} {H : Hp} : ∀ {vs ws : List V} {xs ys : List α}, All2 (fun u a => Rp.rp K Δ H u a) vs xs → All2 (fun u a => Rp.rp K Δ H u a) ws ys → All2 (fun u a => Rp.rp K Δ H u a) (vs ++ ws) (xs ++ ys)
  | [], _, [], _, _, h => h
  | [], _, _ :: _, _, q, _ => q.elim
  | _ :: _, _, [], _, q, _ => q.elim
  | _ :: _, _, _ :: _, _, q, h => ⟨q.1, all2_app q.2 h⟩
/-- t + u of tuples -/
theorem o2_catTA {α : Type} [Rp α] {x y : Tup α} (hz : x.l.length + y.l.length ≤ 100000) : Op2 K (rCatA K) x y (Is (⟨x.l ++ y.l⟩ : Tup α)) := fun Δ H v w Q hh r1 r2 k => by
  obtain ⟨p, vs, rfl, s1, _, q1⟩ := r1
  obtain ⟨q, ws, rfl, s2, _, q2⟩ := r2
  refine ⟨p, q, vs, ws, rfl, rfl, s1.seq, s2.seq, by rw [q1.len, q2.len]; exact Nat.le_trans hz (by decide), fun h => ?_, fun _ h => ?_, fun _ _ l hl => ?_⟩
  · subst h
    have e : x.l = [] := List.eq_nil_of_length_eq_zero (by rw [← q1.len]; rfl)
    exact k _ H _ rfl (Ext.refl hh) ⟨q, ws, rfl, s2, s2.seq, by rw [e]; exact q2⟩
  · subst h
    have e : y.l = [] := List.eq_nil_of_length_eq_zero (by rw [← q2.len]; rfl)
    exact k _ H _ rfl (Ext.refl hh) ⟨p, vs, rfl, s1, s1.seq, by rw [e, List.append_nil]; exact q1⟩
  · exact k _ _ _ rfl (Ext.new hh hl _) (new_tup hh hl (all2_app q1 q2))
end
end Z

set_option Elab.async false
set_option linter.all false
set_option maxRecDepth 100000
set_option maxHeartbeats 2000000
/-! list(o), o an instance whose __iter__ hands back iter(a tuple), with a __len__ -/
namespace L2
open PySem PySem.Spec PyProof.Rows
/-- the iterator at it stands ahead of item i of the tuple at t -/
def TitO (t it : Addr) (i : Nat) : HO := .ext fun h => h.IsTupleIter it t i
section
variable {X : Cx} {pins : List (Addr × Obj)} {σ : L2.St} {H : Hp} {s : Shared} {t it : Addr} {i : Nat}
theorem tit_ok {P : Program} {w : World} {H : Hp} {h : Heap} (e : h.IsTupleIter it t i) : ObjOk P w H h it (TitO t it i) := by
  have ⟨o, ho, _⟩ := e
  exact ⟨e, ⟨o, ho⟩, fun h1 h2 q k => q.at fun o e => k o e⟩
theorem tit_get (I : Inv X pins σ H s) (e : H it = some (TitO t it i)) : s.heap.IsTupleIter it t i := (I.hok it _ e).1
/-- iter(t), t a tuple -/
def rIterT (K : PySem.W.Frag) : List V → Hp → VK → Prop := fun xs H Q => ∃ (t : Addr) (zs : List V), xs = [.ref t] ∧ SqT K H t zs ∧ ∀ it, H it = none → Q (.ref it) (upd H it (TitO t it 0))
theorem call_iterT : CallR X (.builtin "iter") (rIterT X.K) := by
  intro pins s σ H xs us Q I r h
  obtain ⟨t, zs, rfl, hq, q⟩ := h
  obtain rfl := Vals.ref1 r
  obtain ⟨its, rv, pl, hz⟩ := I.tuple hq
  refine Calls.call_function_entry (by decide +kernel) (by decide +kernel) PySem.W.kdk_entry_iter (PySem.W.kdk_args_iter _) ?_
  unfold Builtin.«iter»
  refine wpAny_bind (m := someArgs "iter" 1 2 _) (wpAny_of_eq (a := [Value.ref t]) (by first | rfl | kernel_rfl!) ?_)
  show wpAny _ _ (pyIter (.ref t) >>= _) _ _ _
  refine wpAny_bind (wpAny_pyIter_tuple pl ?_)
  refine wpAny_pure ⟨_, rfl, ?_⟩
  exact ⟨.ref s.heap.objs.size, _, I.laid (t' := s.toks) (fun b u e => Heap.get?_push_of_some _ e) (Nat.le_refl _) (tit_ok ⟨_, Heap.get?_push_size _ rfl, rfl, rfl⟩), rfl, q _ (I.hok.fresh (Nat.le_refl _))⟩
end
end L2

set_option Elab.async false
set_option linter.all false
set_option maxRecDepth 100000
set_option maxHeartbeats 2000000
namespace L2
open PySem PySem.Spec PyProof.Rows
/-- tracked no more -/
def rm (H : Hp) (it : Addr) : Hp := fun b => if b = it then none else H b
theorem rm_at (H : Hp) (it : Addr) : rm H it it = none := if_pos rfl
theorem rm_ne {H : Hp} {it b : Addr} (h : b ≠ it) : rm H it b = H b := if_neg h
section
variable {X : Cx} {CX : CXT} {pins : List (Addr × Obj)} {σ : L2.St} {H : Hp} {s : Shared} {n : Nat} {C fi fl a : Addr} {fdI fdL : FuncData} {psI psL : List Str} {spI spL : Sp} {E : XK} {A1 : Around}
/-- behind the draining of a tuple's iterator -/
theorem Inv.drew {t it q : Addr} {i c : Nat} {acc : Array Value} {ys : List V} {s' : Shared} (I : Inv X pins σ H s) (e : H it = some (TitO t it i)) (eq : H q = some (.lst [])) (keep : ∀ b o, b ≠ q → b ≠ it → s.heap.get? b = some o → s'.heap.get? b = some o)
    (os : s'.os = s.os) (hb : AllBare s'.gens) (hS : s'.heap.get? q = some { cls := .type "list", dict := none, data := .seq acc c, slots := #[] }) (hv : Vals ys acc.toList) (hz : ys.length ≤ sizeLine) (there : ∃ o, s'.heap.get? it = some o) : Inv X pins σ (upd (rm H it) q (.lst ys)) s' := by
  have off : ∀ {b : Addr}, H b = none → b ≠ q ∧ b ≠ it := by
    intro b n
    constructor
    · intro z
      rw [z, eq] at n
      cases n
    · intro z
      rw [z, e] at n
      cases n
  have off2 : ∀ {b : Addr} {o : HO}, H b = some o → (∀ φ, o ≠ .ext φ) → (∀ xs, o ≠ .lst xs) → b ≠ q ∧ b ≠ it := by
    intro b o y n1 n2
    constructor
    · intro z
      rw [z, eq] at y
      exact n2 _ (Option.some.inj y).symm
    · intro z
      rw [z, e] at y
      exact n1 _ (Option.some.inj y).symm
  have at2 : ∀ {b : Addr}, b ≠ q → b ≠ it → upd (rm H it) q (.lst ys) b = H b := fun {b} n1 n2 => by rw [upd_ne n1, rm_ne n2]
  refine I.call' (ch := []) os ⟨fun b o y n _ _ => keep b o (off n).1 (off n).2 y, fun b o y n _ _ => ⟨o.slots, keep b o (off n).1 (off n).2 y⟩, fun b o y n _ => ?_, fun b o y _ => ?_, fun b xs y => ?_, fun b o u y => ?_, fun b ps y => ⟨#[], ?_⟩⟩ (fun b u y => ?_) hb fun _ z => nomatch z
  · rw [at2 (off n).1 (off n).2]; exact n
  · by_cases h1 : b = q
    · rw [h1]; exact ⟨_, hS⟩
    · by_cases h2 : b = it
      · rw [h2]; exact there
      · exact ⟨o, keep b o h1 h2 y⟩
  · have z := off2 y (fun φ z => by cases z) (fun φ z => by cases z)
    rw [at2 z.1 z.2]; exact y
  · have z := off2 y (fun φ z => by cases z) (fun φ z => by cases z)
    rw [at2 z.1 z.2]; exact y
  · have z := off2 y (fun φ z => by cases z) (fun φ z => by cases z)
    rw [at2 z.1 z.2, y]; simp
  · by_cases h1 : b = q
    · subst h1
      rw [upd_same] at y
      cases y
      exact ⟨hz, acc.toList, c, hv, by rw [hS]⟩
    · by_cases h2 : b = it
      · rw [h2, upd_ne (fun z => h1 (h2.trans z)), rm_at] at y
        cases y
      · rw [at2 h1 h2] at y
        refine (I.hok b u y).stay (fun d v hd w => ?_) (fun d w => ?_) fun d xs w => ?_
        · rcases hd with z | z
          · rw [z] at w ⊢; exact keep b v h1 h2 w
          · have z2 := off2 z (fun φ z => by cases z) (fun φ z => by cases z)
            exact keep d v z2.1 z2.2 w
        · have z := off2 w (fun φ z => by cases z) (fun φ z => by cases z)
          rw [at2 z.1 z.2]; exact w
        · have z := off2 w (fun φ z => by cases z) (fun φ z => by cases z)
          rw [at2 z.1 z.2]; exact w
/-- the turn behind a tuple's last item: the iterator stays an object -/
theorem tuple_out {P : Program} {w : World} {A : Around} {E : Value → Shared → Prop} {s : Shared} {it t : Addr} {i : Nat} {items : Array Value} {Q : Option Value → Shared → Prop} (hh : A.handled = none) (hit : s.heap.IsTupleIter it t i) (ht : s.heap.IsTuple t items) (hx : items[i]? = none)
    (hQ : ∀ h', Heap.ExtBut it s.heap h' → (∃ o, h'.get? it = some o) → Q none { s with heap := h' }) : wpAny (model P w) A (pyNext (.ref it)) Q E s := by
  obtain ⟨o, ho, hc, hd⟩ := id hit
  obtain ⟨ol, hol, _, nl, hdl⟩ := ht
  unfold pyNext
  refine wpAny_bind (wpAny_attempt (wpAny_callSpecial?_slot (name := Str.ofString "__next__") hit.typeIs slot_tupleiter_next (wpAny_call_entry slot_tupleiter_next hit.typeIs entry_tupleiter_next ?_ (args_tupleiter_next _))))
  refine wpAny_bind (m := field (.ref it) 0) (wpAny_field ho hd (x := .ref t) rfl ?_)
  change wpAny _ _ (if (Value.ref t == Value.none) = true then _ else _) _ _ s
  rw [if_neg (fun z => by cases (show false = true from z))]
  refine wpAny_bind (m := field (.ref it) 1) (wpAny_field ho hd (x := .int i 0) rfl ?_)
  refine wpAny_bind (m := seqItems? (.ref t)) (wpAny_seqItems hol hdl ?_)
  simp only [Int.toNat_natCast, hx]
  refine wpAny_bind (wpAny_rule (wpAny_bind (wpAny_setField ho hd (by simp) ?_)))
  have hu := Heap.get?_update_self (Obj.mapFields (·.setIfInBounds 0 Value.none)) ho (Obj.isFreed_of_fields (Obj.data_mapFields hd _))
  refine wpAny_bind (m := newExc (.type "StopIteration") []) ?_
  simp only [newExc, newTuple]
  refine wpAny_bind (wpAny_newObj_type (wpAny_bind (m := firstArgMember _ _) (wpAny_of_eq (a := Value.none) (by first | rfl | (simp only [firstArgMember]; rfl)) (wpAny_newObj_type ?_ (by size_fits)))) (by size_fits))
  simp only [raiseNew]
  refine wpAny_bind (wpAny_handled ?_)
  rw [show A.in1.handled = none from hh]
  refine wpAny_bind (wpAny_pure (wpAny_throw ?_))
  refine wpAny_bind (wpAny_isInstance (T := "StopIteration") (b := true) ⟨_, Heap.get?_push_size _ rfl, rfl⟩ isSubtype_stop ?_)
  exact wpAny_pure (hQ _ (((Heap.SameBut.update ..).extBut.push _).push _) ⟨_, Heap.get?_push_of_some _ (Heap.get?_push_of_some _ hu)⟩)
/-- the loop that draws a tuple's iterator into a list -/
theorem tuple_loop {P : Program} {w : World} {A : Around} {it t q : Addr} {items : Array Value} {R : Result → Shared → Prop} (hh : A.handled = none) (nt : t ≠ it) (nq : q ≠ it) (nqt : q ≠ t) (hz : items.size ≤ sizeLine) :
    ∀ (r i : Nat) (s : Shared) (acc : Array Value) (c : Nat), items.size - i = r → i ≤ items.size → s.heap.IsTupleIter it t i → s.heap.IsTuple t items → s.heap.get? q = some { cls := .type "list", dict := none, data := .seq acc c, slots := #[] } → acc.toList = items.toList.take i →
      (∀ (h' : Heap) (c' : Nat), (∀ b o, b ≠ q → b ≠ it → s.heap.get? b = some o → h'.get? b = some o) → (∃ o, h'.get? it = some o) → h'.get? q = some { cls := .type "list", dict := none, data := .seq items c', slots := #[] } → R (.ok (.ret .none)) { s with heap := h' }) →
      codeAny (model P w) A (.builtin "list.extend.loop" ⟨[.ref q, .ref it, .none], []⟩) R s := by
  intro r
  induction r with
  | zero =>
    intro i s acc c hr hi hit ht hq ha hR
    obtain rfl : i = items.size := by omega
    refine codeAny_builtin PySem.F.entry_extend_loop ?_
    rw [Around.under_plainId PySem.F.plain_extend_loop _]
    show wpAny _ A.in1 (pyNext (.ref it) >>= _) _ _ s
    refine wpAny_bind (tuple_out (A := A.in1) hh hit ht (by simp) fun h' e th => wpAny_pure ?_)
    have ea : acc = items := by
      apply Array.toList_inj.mp
      rw [ha]
      exact List.take_of_length_le (by simp)
    subst ea
    exact hR h' c (fun b o h1 h2 y => e b o h2 y) th (e q _ nq hq)
  | succ r ih =>
    intro i s acc c hr hi hit ht hq ha hR
    have lt : i < items.size := by omega
    refine codeAny_builtin PySem.F.entry_extend_loop ?_
    rw [Around.under_plainId PySem.F.plain_extend_loop _]
    show wpAny _ A.in1 (pyNext (.ref it) >>= _) _ _ s
    refine wpAny_bind (wpAny_pyNext_tuple_item hit ht (x := items[i]) (Array.getElem?_eq_getElem lt) fun h1 hit1 sb1 => ?_)
    show wpAny _ A.in1 (updateSeq q (·.push items[i]) >>= _) _ _ _
    have hq1 : h1.get? q = some { cls := .type "list", dict := none, data := .seq acc c, slots := #[] } := (sb1.2 q nq).trans hq
    have hasz : acc.size = i := by
      rw [← Array.length_toList, ha, List.length_take]
      have : items.toList.length = items.size := Array.length_toList
      omega
    refine wpAny_bind (wpAny_updateSeq hq1 rfl (wpAny_pure ⟨plainId_quiet PySem.F.plain_extend_loop _, ?_⟩) (by omega) (by show (acc.push _).size ≤ sizeLine + 1; rw [Array.size_push]; omega))
    have keep : ∀ b o, b ≠ q → h1.get? b = some o → (h1.update q (Obj.mapSeq (·.push items[i]))).get? b = some o := fun b o hb y => (Heap.get?_update_other _ _ (Ne.symm hb)).trans y
    refine ih (i + 1) _ (acc.push items[i]) _ (by omega) lt (hit1.at fun o y => keep it o (Ne.symm nq) y) ((ht.extBut sb1.extBut nt).at fun o y => keep t o (Ne.symm nqt) y) (Heap.get?_update_self _ hq1 rfl) ?_ fun h' c' k' th hq' => hR h' c' (fun b o n1 n2 y => k' b o n1 n2 (keep b o n1 ((sb1.2 b n2).trans y))) th hq'
    rw [Array.toList_push, ha, List.take_add_one]
    congr 1
    rw [Array.getElem?_toList, Array.getElem?_eq_getElem lt]
    rfl
/-- the length is asked -/
theorem own_len_hint {Q : Bool → Shared → Prop} {dx : Addr} {fs : List (Str × V)} {R : Hp → Prop} {E1 : Value → Shared → Prop} (sb : Sub X (n + 1) A1) (hs : PySem.W.findIn X.K (.ref C) "__len__" = some (some (.ref fl))) (hf : PySem.W.isFn X.K (.ref fl) = true)
    (F : FnOk X.prog X.w X.K X.mg X.base CX n fl fdL psL spL) (hb : Binds X.K fdL psL []) (hx : ∀ e s', CX X.stack H s E e s' → False) (I : Inv X pins σ H s) (ha : H a = some (.ins C dx fs))
    (h : spL [.ref a] H (fun z H' => ∃ k : Nat, k ≤ 100000 ∧ z = .int k ∧ R H') E) (hQ : ∀ b s' H', Inv X pins σ H' s' → R H' → Q b s') : wpAny (model X.prog X.w) A1 (Builtin.List.listLengthHint (.ref a)) Q E1 s := by
  obtain ⟨mA, J, _⟩ := ins_get I.hok ha
  obtain ⟨od, J, _⟩ := J.look
  obtain ⟨m, hF⟩ := I.fr
  have e0 : Env0 X.prog X.w X.K X.mg X.base A1.in1 X.stack s H := by
    have e := I.env0
    exact ⟨by show A1.frames = _; rw [sb.fr]; exact e.frames, e.mod, e.bs, e.bsz, e.funs, e.frf, e.hok, e.bare⟩
  have hl := F.len _ _ _ _ h
  have cal : wpAny (model X.prog X.w) A1 (call (.builtin "len") [.ref a]) (fun v s' => ∃ (k : Nat) (t : Tok) (H' : Hp), k ≤ 100000 ∧ v = .int k t ∧ Inv X pins σ H' s' ∧ R H') (fun _ _ => False) s := by
    refine PySem.W.len_K hF I.ok.mod.kin J hs hf (wpAny_call (codeAny_mono (F.run A1.in1 X.stack s H ⟨[.ref a], []⟩ [.ref a] [.ref a] _ E sb.room.in1 e0 (by
      have := hb s [.ref a] I.kIn (by simpa using hl)
      simpa using this) (.cons rfl .nil) h) fun r s' hq => ?_))
    match r, hq with
    | .error e, hq => exact (hx e s' hq).elim
    | .ok .next, hq => exact False.elim hq
    | .ok .brk, hq => exact False.elim hq
    | .ok .cont, hq => exact False.elim hq
    | .ok (.ret w), hq =>
      obtain ⟨z, H', I', rz, k, hk, rfl, q⟩ := I.after hq
      obtain ⟨t, rfl⟩ := (show ∃ t, w = Value.int k t from rz)
      refine ⟨⟨by omega, by omega⟩, ?_⟩
      exact ⟨k, _, H', hk, rfl, I'.kept (t' := s'.toks + 1) (fun _ _ e => e), q⟩
  unfold Builtin.List.listLengthHint
  refine wpAny_bind (wpAny_bind (J.type.here ((PySem.W.looks_findIn I.kIn hs).here ?_)))
  refine PySem.W.KFB.if_not rfl ?_
  show wpAny _ _ (rule "list.length-hint.len" >>= _) _ _ _
  refine wpAny_bind (wpAny_rule ?_)
  refine wpAny_bind (wpAny_attempt (wpAny_mono cal (fun v s' hv => ?_) fun _ _ z => z.elim))
  obtain ⟨k, t, H', hk, rfl, I', r⟩ := hv
  dsimp only
  refine wpAny_bind (wpAny_of_eq (a := some (k : Int)) (by first | rfl | kernel_rfl) ?_)
  dsimp only
  have hn : Builtin.List.listTooLong (k : Int).toNat = false := by
    unfold Builtin.List.listTooLong
    have := sizeLine_eq
    have h1 : ¬ (k : Int).toNat > sizeLine := by
      rw [Int.toNat_natCast]
      exact Nat.not_lt.mpr (Nat.le_trans hk (by decide))
    simpa using h1
  rw [if_neg (by rw [hn]; exact Bool.false_ne_true)]
  exact wpAny_pure (hQ _ s' H' I' r)
/-- list(o) -/
def rListI (K : PySem.W.Frag) (C : Addr) (spI spL : Sp) (E : XK) : List V → Hp → VK → Prop := fun xs H Q => ∃ a dx fs, xs = [.ref a] ∧ H a = some (.ins C dx fs) ∧ ∀ q, H q = none →
  spI [.ref a] (upd H q (.lst [])) (fun v H2 => ∃ it t, v = .ref it ∧ H2 it = some (TitO t it 0) ∧ (∃ dx2 fs2, H2 a = some (.ins C dx2 fs2)) ∧
    spL [.ref a] H2 (fun z H3 => ∃ k : Nat, k ≤ 100000 ∧ z = .int k ∧ ∃ ys, H3 it = some (TitO t it 0) ∧ H3 q = some (.lst []) ∧ SqT K H3 t ys ∧ ys.length ≤ 100000 ∧ Q (.ref q) (upd (rm H3 it) q (.lst ys))) E) E
theorem call_listI (hiS : PySem.W.findIn X.K (.ref C) "__iter__" = some (some (.ref fi))) (hiF : PySem.W.isFn X.K (.ref fi) = true) (FI : FnOk X.prog X.w X.K X.mg X.base CX0 n fi fdI psI spI) (bI : Binds X.K fdI psI [])
    (hlS : PySem.W.findIn X.K (.ref C) "__len__" = some (some (.ref fl))) (hlF : PySem.W.isFn X.K (.ref fl) = true) (FL : FnOk X.prog X.w X.K X.mg X.base CX0 n fl fdL psL spL) (bL : Binds X.K fdL psL []) (hr : Room (n + 4) X.A) : CallR X (.type "list") (rListI X.K C spI spL E) := by
  intro pins s σ H xs us Q I rv h
  obtain ⟨a, dx, fs, rfl, ha, hq⟩ := h
  obtain ⟨u, rfl, ru⟩ := rv.one
  cases ru
  have sb : Sub X (n + 1) X.A.in1.in1 := ⟨(hr.mono (by omega : n + 3 ≤ n + 4)).in1.in1, rfl⟩
  refine callType_codes (Q₁ := fun obj z => obj = .ref s.heap.objs.size ∧ z = { s with heap := s.heap.push { cls := .type "list", data := .seq #[] } }) PySem.F.called_list (PySem.F.typeCall_list_1 _) PySem.F.entry_list_init (code_list_new _ ⟨rfl, rfl⟩) fun obj z hz => ?_
  obtain ⟨rfl, rfl⟩ := hz
  have hS : (s.heap.push { cls := .type "list", data := .seq #[] }).get? s.heap.objs.size = some { cls := .type "list", data := .seq #[] } := Heap.get?_push_size _ rfl
  refine ⟨⟨_, hS, rfl⟩, PySem.F.args_list_init_2 _ _, ?_⟩
  have fr : H s.heap.objs.size = none := I.hok.fresh (Nat.le_refl _)
  have hsp := hq _ fr
  have I1 : Inv X pins σ (upd H s.heap.objs.size (.lst [])) { s with heap := s.heap.push { cls := .type "list", data := .seq #[] } } := I.lnew (its := []) (t' := s.toks) .nil (Nat.zero_le _)
  generalize hQS : s.heap.objs.size = q at *
  show wpAny _ _ (do let old ← Builtin.List.listItems (.ref q); Builtin.List.listUpdate (.ref q) (fun _ => #[]); letGo old.toList.reverse; Builtin.List.listExtendWith (.ref q) (.ref a) .none) _ _ _
  refine wpAny_bind ?_
  unfold Builtin.List.listItems
  refine wpAny_bind (wpAny_seqItems hS rfl (wpAny_pure ?_))
  show wpAny _ _ (updateSeq q (fun _ => #[]) >>= fun _ => letGo (#[] : Array Value).toList.reverse >>= fun _ => Builtin.List.listExtendWith (.ref q) (.ref a) .none) _ _ _
  refine wpAny_bind (wpAny_updateSeq hS rfl ?_)
  have I2 := I1.lset (f := fun _ => #[]) (its := []) (its' := []) (ys := []) (t' := s.toks) upd_same hS rfl .nil (Nat.zero_le _)
  rw [upd_upd] at I2
  refine wpAny_bind (wpAny_letGo ?_)
  have ha2 : upd H q (.lst []) a = some (.ins C dx fs) := by rw [upd_ne (ne_of_none ha fr)]; exact ha
  generalize upd H q (.lst []) = H1 at I2 ha2 hsp
  generalize ({ s with heap := _ } : Shared) = s2 at I2 ⊢
  have hne : q ≠ a := fun z => by rw [z, ha] at fr; cases fr
  obtain ⟨mA, J, _⟩ := ins_get I2.hok ha2
  obtain ⟨od, J, _⟩ := J.look
  obtain ⟨m0, hF⟩ := I2.fr
  unfold Builtin.List.listExtendWith
  refine wpAny_bind (J.type.here ?_)
  have h1 : Builtin.List.listSameRef (.ref q) (.ref a) = false := by simp [Builtin.List.listSameRef, hne]
  have h2 : (Value.ref C == Value.type "list") = false := rfl
  have h3 : (Value.ref C == Value.type "tuple") = false := rfl
  simp only [h1, h2, h3, Bool.or_false, Bool.false_eq_true, if_false]
  refine wpAny_bind (PySem.W.owit_iter hF I2.ok.mod.kin J hiS hiF ?_)
  have e0 : Env0 X.prog X.w X.K X.mg X.base X.A.in1.in1 X.stack s2 H1 := by
    have e := I2.env0
    exact ⟨e.frames, e.mod, e.bs, e.bsz, e.funs, e.frf, e.hok, e.bare⟩
  have hl := FI.len _ _ _ _ hsp
  refine wpAny_call (codeAny_mono (FI.run X.A.in1.in1 X.stack s2 H1 ⟨[.ref a], []⟩ [.ref a] [.ref a] _ E ((hr.mono (by omega : n + 2 ≤ n + 4)).in1.in1) e0 (by
    have := bI s2 [.ref a] I2.kIn (by simpa using hl)
    simpa using this) (.cons rfl .nil) hsp) fun r s3 hq3 => ?_)
  match r, hq3 with
  | .error e, hq3 => exact False.elim hq3
  | .ok .next, hq3 => exact False.elim hq3
  | .ok .brk, hq3 => exact False.elim hq3
  | .ok .cont, hq3 => exact False.elim hq3
  | .ok (.ret u), hq3 =>
    obtain ⟨v, H3, I3, rv3, it, t, rfl, hit, ⟨dx2, fs2, ha3⟩, hsl⟩ := I2.after hq3
    obtain rfl : u = Value.ref it := rv3
    have tit := tit_get I3 hit
    have hT : s3.TypeIs (.ref it) "tuple_iterator" := let ⟨o, ho, hc, _⟩ := tit; ⟨o, ho, hc⟩
    unfold PySem.W.OwitIt
    refine wpAny_specialOf hT slot_tupleiter_next.lookup ?_
    refine wpAny_bind (wpAny_holding (own_len_hint (CX := CX0) (n := n) sb hlS hlF FL bL (fun _ _ z => z.elim) I3 ha3 hsl fun b s4 H4 I4 hR => ?_))
    obtain ⟨ys, hit4, hq4, hys, hyl, hfin⟩ := hR
    have nt : t ≠ it := fun z => by
      obtain ⟨its, rt, pt, _⟩ := I4.tuple hys
      obtain ⟨o, ho, hc, _⟩ := tit_get I4 hit4
      obtain ⟨o2, ho2, hc2, _⟩ := pt
      rw [z, ho] at ho2
      cases ho2
      rw [hc] at hc2
      exact absurd (Value.type.inj hc2) (by decide)
    have nq : q ≠ it := fun z => by rw [z, hit4] at hq4; cases hq4
    have nqt : q ≠ t := fun z => by
      obtain ⟨its, rt, pt, _⟩ := I4.tuple hys
      obtain ⟨_, its2, k2, _, _, e2⟩ := I4.lstM hq4
      obtain ⟨o2, ho2, hc2, _⟩ := pt
      rw [← z, e2] at ho2
      cases ho2
      exact absurd (Value.type.inj hc2) (by decide)
    have loop : ∀ s5 : Shared, Inv X pins σ H4 s5 → codeAny (model X.prog X.w) X.A.in1 (.builtin "list.extend.loop" ⟨[.ref q, .ref it, .none], []⟩) (wants (fun r z => r = .none ∧ EP X pins σ Q (.ref q) z) X.xe) s5 := fun s5 I5 => by
      obtain ⟨its, rt, pt, hz⟩ := I5.tuple hys
      obtain ⟨_, its2, k2, r2, _, e2⟩ := I5.lstM hq4
      cases r2
      have hh : X.A.in1.in1.handled = none := hr.hd
      have tit5 := tit_get I5 hit4
      have hsz : its.toArray.size ≤ sizeLine := by rw [List.size_toArray, ← rt.length]; exact Nat.le_trans hyl (by decide)
      refine tuple_loop (A := X.A.in1) hh nt nq nqt hsz (its.toArray.size - 0) 0 s5 #[] _ rfl (Nat.zero_le _) tit5 pt e2 (by simp) fun h' c' keep th hq6 => ?_
      exact ⟨rfl, .ref q, upd (rm H4 it) q (.lst ys), I5.drew (s' := { s5 with heap := h' }) hit4 hq4 keep rfl I5.bare hq6 rt (Nat.le_trans hyl (by decide)) th, rfl, hfin⟩
    obtain ⟨_, its2, k2, r2, _, e2⟩ := I4.lstM hq4
    cases r2
    refine wpAny_ite_split (fun _ => ?_) (fun _ => wpAny_pure ⟨plainId_quiet PySem.F.plain_extend_loop _, loop s4 I4⟩)
    refine wpAny_bind (wpAny_rule ?_)
    refine wpAny_bind ?_
    show wpAny _ _ (updateSeq q (·.push .none) >>= fun _ => updateSeq q (·.pop)) _ _ _
    refine wpAny_bind (wpAny_updateSeq e2 rfl ?_)
    have I5 := I4.lset (f := (·.push Value.none)) (its' := [Value.none]) (ys := [.non]) (t' := s4.toks) hq4 e2 (by simp) (.cons rfl .nil) (by rw [List.length_singleton, sizeLine_eq]; decide)
    obtain ⟨z4, its4, k4, r4, hl4, e4⟩ := I5.lstM upd_same
    obtain ⟨u4, rfl, ru4⟩ := r4.one
    refine wpAny_updateSeq e4 rfl ?_ (by show 1 ≤ sizeLine; rw [sizeLine_eq]; decide) (by show 0 ≤ sizeLine + 1; exact Nat.zero_le _)
    have I6 := I5.lset (f := (·.pop)) (its := [u4]) (its' := []) (ys := []) (t' := s4.toks) upd_same e4 (by rfl) .nil (Nat.zero_le _)
    rw [upd_upd] at I6
    have hH : upd H4 q (.lst []) = H4 := by
      funext b
      by_cases hb : b = q
      · rw [hb, upd_same, hq4]
      · rw [upd_ne hb]
    rw [hH] at I6
    exact wpAny_pure ⟨plainId_quiet PySem.F.plain_extend_loop _, loop _ I6⟩
end
end L2

set_option Elab.async false
set_option linter.all false
set_option maxRecDepth 100000
set_option maxHeartbeats 1000000
/-! a def that hands back iter(a tuple); list(o) on data -/
namespace Z
open PySem PySem.Spec PyProof.Rows L2
/-- what a def promises, told by a relation -/
def spR (K : PySem.W.Frag) (G : Own → List Cell → (Gh → Hp → V → Hp → Prop) → Prop) : Sp := fun vs H Q _ => ∃ (Γ : Own) (Δ : Gh) (cs : List Cell) (T : Gh → Hp → V → Hp → Prop), G Γ cs T ∧ Sat Γ Δ ∧ Hold Δ H ∧ ArgsOk K Δ H vs cs ∧
  ∀ (v : V) (H' : Hp), T Δ H v H' → Q v H'
def FinR (Δ0 : Gh) (H0 : Hp) (T : Gh → Hp → V → Hp → Prop) (D : Ends) : Prop := ∀ (v : V) (H' : Hp), T Δ0 H0 v H' → D.rt v H'
section
variable {P : Program} {w : World} {K : PySem.W.Frag} {mg : Str → Option Value} {base : Heap}
theorem def_okR {x qual : Str} {args : Arguments} {body : List Stmt} {scope : Scope} {dvs : List V} {kws : List (Str × V)} {f : Addr} {fd : FuncData} {N ps : List Str} {k : Nat} {G : Own → List Cell → (Gh → Hp → V → Hp → Prop) → Prop}
    (Fn : FunD K x qual args body scope dvs kws f fd) (S : FnScope N ps scope) (len : ∀ Γ cs T, G Γ cs T → cs.length = ps.length)
    (hb : ∀ (cdv : Value) (A : Around) (outer : List PySem.Env) (s : Shared) (H : Hp) (E : XK), Room k (A.deeper (envOfC qual scope s.heap.objs.size f cdv)) →
      ∀ (Γ : Own) (cs : List Cell) (T : Gh → Hp → V → Hp → Prop), G Γ cs T → ∃ t, PSs (cxOf CX0 P w K mg base N qual scope f cdv A outer s H E).nox body t ∧
        ∀ (Δ0 : Gh) (D : Ends), FinR Δ0 H T D → Wp K Δ0 H Γ [] (env0 N cs) t D) :
    FnOk P w K mg base CX0 (k + 1) f fd ps (spR K G) := by
  refine Fn.ok S (fun vs H Q E h => ?_) (fun cdv A outer s H vs Q E hr h => ?_)
  · obtain ⟨Γ, Δ, cs, T, g, _, _, a, _⟩ := h
    rw [All2.len a]
    exact len Γ cs T g
  · obtain ⟨Γ, Δ, cs, T, g, sa, hh, a, q⟩ := h
    obtain ⟨t, ht, hw⟩ := hb cdv A outer s H E hr Γ cs T g
    refine ⟨t, ?_, hw Δ _ (fun v H' h => q v H' h) _ H ⟨Δ, sa, hh, start_ok a, fun z hz => (nomatch hz), Ext.refl hh, fun _ _ z => z, fun x n m => absurd n m⟩⟩
    first
      | exact ht
      | exact PSs.nox ht
end
section
variable {K : PySem.W.Frag} {α : Type} [Rp α]
/-- an iterator over the tuple, new -/
def TIt (K : PySem.W.Frag) (xs : Tup α) : Gh → Hp → V → Hp → Prop := fun Δ H v H' => ∃ it t, v = .ref it ∧ H it = none ∧ Δ it = none ∧ Ext Δ H H' ∧ H' it = some (TitO t it 0) ∧ Rp.rp K Δ H' (.ref t) xs
/-- return iter(xs) -/
theorem wp_retIt {Δ0 : Gh} {H0 : Hp} {Γ : Own} {F : List (V × Cell)} {ρ : Z.Env} {te : TE} {D : Ends} {xs : Tup α} (hf : FinR Δ0 H0 (TIt K xs) D) (h : Ev K Γ te ρ (Is xs)) : Wp K Δ0 H0 Γ F ρ (tRet (tCB (rIterT K) (tCons te tNil))) D := fun σ H ⟨Δ, s, hh, e, f, e0, s1, s2⟩ =>
  h Δ σ H _ s hh e fun v H1 a pa e1 r => by
    have ea : a = xs := pa
    subst ea
    obtain ⟨p, vs, rfl, st, sq, q⟩ := r
    refine ⟨p, vs, rfl, sq, fun it hit => ?_⟩
    have e2 := e1.trans (Ext.new e1.2 hit (TitO p it 0))
    have e3 := ext0 e0 s1 s2 e1
    have hn := none0 s1 (e1.2.fresh hit)
    refine hf _ _ ⟨it, p, rfl, ?_, hn, ext0 e0 s1 s2 e2, upd_same, ?_⟩
    · cases q2 : H0 it with
      | none => rfl
      | some o =>
        have := e3.1 it o hn q2
        rw [hit] at this
        cases this
    · have r2 : Rp.rp K Δ (upd H1 it (TitO p it 0)) (.ref p) a := Rp.mono (Ext.new e1.2 hit (TitO p it 0)).1 ⟨p, vs, rfl, st, sq, q⟩
      exact Rp.weak (fun x o _ hx => none0 s1 hx) r2
variable {Γ : Own} {ρ : Z.Env} {te : TE} {β : Type} [Rp β] {C : Addr} {E : XK} [Flat α]
/-- list(b) -/
theorem ev_listI {GI : Own → List Cell → (Gh → Hp → V → Hp → Prop) → Prop} {FL : Own → List Cell → (Int → Prop) → Prop} {Pb : β → Prop} {f : β → List α} (hI : IsIns K C β) (h : Ev K Γ te ρ Pb)
    (hG : ∀ b, Pb b → GI Γ [⟨b⟩] (TIt K (⟨f b⟩ : Tup α))) (hF : ∀ b, Pb b → FL Γ [⟨b⟩] (Is ((f b).length : Int))) (hz : ∀ b, Pb b → (f b).length ≤ 100000) :
    Ev K Γ (tCB (rListI K C (spR K GI) (spD K FL) E) (tCons te tNil)) ρ (fun ys : List α => ∃ b, Pb b ∧ ys = f b) := fun Δ σ H Q s hh e k =>
  h Δ σ H _ s hh e fun v H1 b pb e1 r1 => by
    obtain ⟨a, dx, fs, rfl, ha⟩ := hI Δ H1 v _ r1
    refine ⟨a, dx, fs, rfl, ha, fun q hq => ?_⟩
    have en := Ext.new e1.2 hq (.lst [])
    have nq : Δ q = none := e1.2.fresh hq
    refine ⟨Γ, Δ, [⟨b⟩], _, hG b pb, s, en.2, ⟨Rp.mono en.1 r1, trivial⟩, fun v2 H2 ht => ?_⟩
    obtain ⟨it, t, rfl, hit, nit, e2, hit2, rt⟩ := ht
    obtain ⟨a2, dx2, fs2, ea2, ha2⟩ := hI Δ H2 _ _ (Rp.mono e2.1 (Rp.mono en.1 r1))
    cases ea2
    refine ⟨it, t, rfl, hit2, ⟨dx2, fs2, ha2⟩, Γ, Δ, [⟨b⟩], Is ((f b).length : Int), hF b pb, s, e2.2, ⟨Rp.mono e2.1 (Rp.mono en.1 r1), trivial⟩, fun z H3 c pc e3 r3 => ?_⟩
    have ec : c = ((f b).length : Int) := pc
    subst ec
    have ez : z = .int ((f b).length : Int) := r3
    subst ez
    obtain ⟨p, vs, ep, st, sq, qa⟩ := Rp.mono e3.1 rt
    cases ep
    have hq3 : H3 q = some (.lst []) := e3.1 _ _ nq (e2.1 _ _ nq upd_same)
    have hne : q ≠ it := fun z => by
      rw [← z] at hit
      rw [upd_same] at hit
      cases hit
    refine ⟨(f b).length, hz b pb, rfl, vs, e3.1 _ _ nit hit2, hq3, sq, by rw [qa.len]; exact hz b pb, ?_⟩
    refine k _ _ (f b) ⟨b, pb, rfl⟩ ⟨fun x o nx hx => ?_, fun x J hx => ?_⟩ ⟨q, vs, rfl, .inl ⟨nq, .inl upd_same⟩, .inl (.inl upd_same), ?_⟩
    · have h1 := e1.1 x o nx hx
      have nxq : x ≠ q := fun z => by rw [z, hq] at h1; cases h1
      have h2 : upd H1 q (.lst []) x = some o := by rw [upd_ne nxq]; exact h1
      have nxi : x ≠ it := fun z => by rw [z, hit] at h2; cases h2
      rw [upd_ne nxq, rm_ne nxi]
      exact e3.1 x o nx (e2.1 x o nx h2)
    · have nxq : x ≠ q := fun z => by rw [z, nq] at hx; cases hx
      have nxi : x ≠ it := fun z => by rw [z, nit] at hx; cases hx
      rw [upd_ne nxq, rm_ne nxi]
      exact e3.2 x J hx
    · rw [flat_all2 qa]
      exact all2_flat _
end
end Z

set_option Elab.async false
set_option linter.all false
set_option maxRecDepth 100000
set_option maxHeartbeats 1000000
/-! str(o) by its own __str__; f-strings of ints -/
namespace L2
open PySem PySem.Spec PyProof.Rows
section
variable {X : Cx} {CX : CXT} {k : Nat} {C g : Addr} {fd : FuncData} {ps : List Str} {sp : Sp} {E : XK}
def rStrI (C : Addr) (sp : Sp) (E : XK) : List V → Hp → VK → Prop := fun xs H Q => ∃ a dx fs, xs = [.ref a] ∧ H a = some (.ins C dx fs) ∧ sp [.ref a] H (fun z H' => ∃ y : Str, z = .str y ∧ Q (.str y) H') E
theorem call_strI (hs : PySem.W.findIn X.K (.ref C) "__str__" = some (some (.ref g))) (hf : PySem.W.isFn X.K (.ref g) = true) (F : FnOk X.prog X.w X.K X.mg X.base CX k g fd ps sp) (hr : Room (k + 3) X.A) (hb : Binds X.K fd ps []) (hx : Passes CX X E) : CallR X (.type "str") (rStrI C sp E) := by
  intro pins s σ H xs us Q I r h
  obtain ⟨a, dx, fs, rfl, ha, q⟩ := h
  rw [Vals.ref1 r]
  obtain ⟨_, J1, _⟩ := ins_get I.hok ha
  obtain ⟨_, J1, _⟩ := J1.look
  have hl := F.len _ _ _ _ q
  have r1 : Room (k + 2) X.A.in1 := hr.in1
  have r2 : Room (k + 1) X.A.in1.in1 := r1.in1
  have r3 : Room k X.A.in1.in1.in1 := r2.in1
  refine PySem.W.kso_call r2.units0 I.kIn J1 hs hf (wpAny_call (codeAny_mono (F.run X.A.in1.in1 X.stack s H ⟨[.ref a], []⟩ [.ref a] [.ref a] _ E (r2.mono (by omega)) I.env0.in1.in1 (by
    have := hb s [.ref a] I.kIn (by simpa using hl)
    simpa using this) (.cons rfl .nil) q) fun r s' hq => ?_))
  cases r with
  | error e => exact hx pins σ H s e s' I hq
  | ok fl =>
    cases fl with
    | ret w =>
      obtain ⟨z, H', I', rz, y, rfl, qz⟩ := I.after hq
      obtain ⟨t, rfl⟩ := (show ∃ t, w = Value.str y t from rz)
      exact ⟨.str y, H', I', ⟨_, rfl⟩, qz⟩
    | next => exact False.elim hq
    | brk => exact False.elim hq
    | cont => exact False.elim hq
end
end L2
namespace Z
open PySem PySem.Spec PyProof.Rows L2
section
variable {K : PySem.W.Frag} {Γ : Own} {ρ : Z.Env} {te : TE} {β : Type} [Rp β] {C : Addr} {E : XK}
abbrev txS (s : Str) : Tx := ⟨s.cps.toList⟩
/-- str(b) -/
theorem ev_strI {F : Own → List Cell → (Tx → Prop) → Prop} {Pb : β → Prop} {Pc : Tx → Prop} (hI : IsIns K C β) (hb : Ev K Γ te ρ Pb) (hF : ∀ b, Pb b → ∃ R, F Γ [⟨b⟩] R ∧ ∀ c, R c → Pc c) : Ev K Γ (tCB (rStrI C (spD K F) E) (tCons te tNil)) ρ Pc := fun Δ σ H Q s hh e k =>
  hb Δ σ H _ s hh e fun u H1 b pb e1 r1 => by
    obtain ⟨q, dy, gs, rfl, hq⟩ := hI Δ H1 u _ r1
    obtain ⟨R, hR, hc⟩ := hF b pb
    exact ⟨q, dy, gs, rfl, hq, Γ, Δ, [⟨b⟩], R, hR, s, e1.2, ⟨r1, trivial⟩, fun z H' c pc e3 r3 => ⟨⟨c.s.toArray⟩, r3, k _ H' c (hc c pc) (e1.trans e3) rfl⟩⟩
/-- str(int) -/
theorem o1_strInt {i : Int} (h : i.natAbs.log2 < 1920) : Op1 K (fun xs H Q => ∃ i, xs = [.int i] ∧ i.natAbs.log2 < 1920 ∧ Q (.str (toString i)) H) i (Is (txS (toString i))) := fun Δ H v Q hh r k =>
  ⟨i, by rw [show v = .int i from r], h, k _ H _ rfl (Ext.refl hh) rfl⟩
/-- the parts of an f-string, as texts -/
inductive EvJ (K : PySem.W.Frag) (Γ : Own) (ρ : Z.Env) : List TE → List Str → Prop where
  | nil : EvJ K Γ ρ [] []
  | int {te : TE} {ts : List TE} {ys : List Str} {i : Int} (h : Ev K Γ te ρ (Is i)) (hz : i.natAbs.log2 < 1920) (r : EvJ K Γ ρ ts ys) : EvJ K Γ ρ (tFmt te :: ts) (((toString i : String) : Str) :: ys)
  | lit {x : Str} {ts : List TE} {ys : List Str} (r : EvJ K Γ ρ ts ys) : EvJ K Γ ρ (tC (.str x) :: ts) (x :: ys)
theorem evj_run {ts : List TE} {ys : List Str} (h : EvJ K Γ ρ ts ys) : ∀ (acc : Str) (Δ : Gh) (σ : L2.St) (H : Hp) (Q : Str → Hp → Prop), Sat Γ Δ → Hold Δ H → EnvOk K Δ σ H ρ → (ys.foldl (· ++ ·) acc).length ≤ sizeLine → (∀ H', Ext Δ H H' → Q (ys.foldl (· ++ ·) acc) H') → tJs ts acc σ H Q := by
  have grow : ∀ (ys : List Str) (a : Str), a.length ≤ (ys.foldl (· ++ ·) a).length := by
    intro ys
    induction ys with
    | nil => exact fun a => Nat.le_refl _
    | cons y ys ih =>
      intro a
      refine Nat.le_trans ?_ (ih (a ++ y))
      show a.cps.size ≤ (a.cps ++ y.cps).size
      rw [Array.size_append]
      omega
  induction h with
  | nil => exact fun acc Δ σ H Q s hh e hz k => k H (Ext.refl hh)
  | @int te ts ys i h hz r ih =>
    intro acc Δ σ H Q s hh e hl k
    refine h Δ σ H _ s hh e fun v H1 a pa e1 rr => ?_
    have ea : a = i := pa
    subst ea
    refine .inr ⟨a, rr, hz, _, rfl, Nat.le_trans (grow ys _) hl, ih _ Δ σ H1 Q s e1.2 (e.mono e1.1) hl fun H' e2 => k H' (e1.trans e2)⟩
  | @lit x ts ys r ih =>
    intro acc Δ σ H Q s hh e hl k
    exact ⟨x, rfl, Nat.le_trans (grow ys _) hl, ih _ Δ σ H Q s hh e hl k⟩
/-- f'..' -/
theorem ev_fstr {ts : List TE} {ys : List Str} {x : Tx} (h : EvJ K Γ ρ ts ys) (e0 : ys.foldl (· ++ ·) Str.empty = ⟨x.s.toArray⟩) (hz : x.s.length ≤ 1000) : Ev K Γ (fun σ H Q => tJs ts Str.empty σ H fun out H1 => Q (.str out) H1) ρ (Is x) := fun Δ σ H Q s hh e k =>
  evj_run h Str.empty Δ σ H _ s hh e (by rw [e0]; exact Nat.le_trans (by simpa [Str.length] using hz) (by decide)) fun H' e1 => k _ H' x rfl e1 (by rw [e0]; rfl)
end
end Z

set_option Elab.async false
set_option linter.all false
set_option maxRecDepth 100000
set_option maxHeartbeats 1000000
/-! dicts of one's own with flat keys and values: made by a comprehension, set to a name, walked by their values while locked, looked up, list(d) -/
namespace Z
open PySem PySem.Spec PyProof.Rows L2
section
variable {K : PySem.W.Frag} {Γ : Own} {ρ : Z.Env} {tk tv te ta : TE}
/-- {k: v for .. if ..} -/
theorem en_dcA {wi : TI} {g : TG} {tt : TT} {js vs : List Nat} {n : Nat} {st : Nat → Z.Env → Z.Env} {κ ν : Type} [Rp κ] [Flat κ] [Rp ν] [Flat ν] (A : Nat → List (Key × V)) (h0 : A 0 = []) (hz : ∀ i, i < n → (A i).length ≤ 50000)
    (S : Src K Γ wi g ρ js n st) (hjs : ∀ j ∈ js, j ∈ vs)
    (hs : ∀ i, i < n → ∃ b : Bool, EvT K Γ tt (st i (wipeE ρ vs)) (Is b) ∧ (b = false → A (i + 1) = A i) ∧ (b = true → ∃ (x : κ) (y : ν) (k : Key), kV k = Flat.val x ∧ Ev K Γ tk (st i (wipeE ρ vs)) (Is x) ∧ Ev K Γ tv (st i (wipeE ρ vs)) (Is y) ∧ A (i + 1) = putK (A i) k (Flat.val y))) :
    EvN K Γ (tDc wi g tt tk tv vs) ρ (ObIs (.dK (A n))) := fun Δ σ H Q s hh e k => S Δ σ H _ s hh e fun J H1 pv pc e1 rp0 hgo hyld => fun D hD => by
  have nD : Δ D = none := e1.2.fresh hD
  have eW : EnvOk K Δ (wipe σ vs) H1 (wipeE ρ vs) := (e.mono e1.1).wipe vs
  have kp : Keep (ghI Δ D (ObIs (.dK []))) H1 (upd H1 D (.dK [])) := fun a o _ q => by rw [upd_ne (ne_of_none q hD)]; exact q
  have W0 : DW K Δ H1 D pv pc (wipe σ vs) (wipeE ρ vs) (.dK (A 0)) (upd H1 D (.dK [])) := by
    rw [h0]
    exact ⟨ghI_hold (fun a J _ h => e1.2 a J h) rfl, fun a o ha n h => by rw [upd_ne ha]; exact h, pc.r.mono kp (pc.r.weak (ghI_new hD) rp0), (eW.weak (ghI_new hD)).mono kp⟩
  have wl : (wipeE ρ vs).length = ρ.length := by
    rw [← eW.1, wipe_length]
    exact e.1
  have hDH : H D = none := Ext.back hh e1 hD
  refine ⟨fun i m H2 => m = n - i ∧ i ≤ n ∧ DW K Δ H1 D pv pc (wipe σ vs) (wipeE ρ vs) (.dK (A i)) H2, ⟨n, by simp, Nat.zero_le _, W0⟩, ?_⟩
  rintro i m H2 ⟨rfl, hi, c⟩
  have hg := hgo _ H2 c.src
  by_cases hlt : i < n
  · refine .inr ⟨hg.1 i hlt, fun H3 => DW K Δ H1 D pv pc (wipe σ vs) (wipeE ρ vs) (.dK (A (i + 1))) H3, fun H' c' => ⟨n - (i + 1), by omega, rfl, hlt, c'⟩, fun x H3 hy => ?_⟩
    obtain ⟨e3, hput⟩ := hyld _ i H2 x H3 hlt c.hold c.src hy
    have c3 := c.next e3
    refine hput (wipe σ vs) (wipeE ρ vs) _ wl c3.env fun σ2 env2 hl2 hoff => ⟨wipe_off (by rw [hl2, wipe_length]) hjs hoff, ?_⟩
    obtain ⟨b, ht, hb0, hb1⟩ := hs i hlt
    have sD : Sat Γ (ghI Δ D (ObIs (.dK (A i)))) := fun q hq => ghI_sat s nD q (List.mem_cons_of_mem _ hq)
    refine ht _ σ2 H3 _ sD e3.2 env2 fun b' H4 pb e4 => ?_
    have eb : b' = b := pb
    subst eb
    have c4 := c3.next e4
    cases b' with
    | false =>
      rw [if_neg Bool.false_ne_true, hb0 rfl]
      exact c4
    | true =>
      rw [if_pos rfl]
      obtain ⟨x0, y0, k0, hk0, hkx, hvy, hA⟩ := hb1 rfl
      refine hkx _ σ2 H4 _ sD e4.2 (env2.mono e4.1) fun y H5 a pa e5 r5 => ?_
      have c5 := c4.next e5
      refine hvy _ σ2 H5 _ sD e5.2 ((env2.mono e4.1).mono e5.1) fun z H6 w pw e6 r6 => ?_
      have c6 := c5.next e6
      have ea : a = x0 := pa
      have ew : w = y0 := pw
      subst ea ew
      refine ⟨A i, k0, by rw [Flat.iff.mp r5, hk0], ghI_exact c6.hold, Nat.lt_of_le_of_lt (hz i hlt) (by decide), ?_⟩
      rw [Flat.iff.mp r6, ← hA]
      exact c6.put
  · have ei : i = n := by omega
    subst ei
    refine .inl ⟨hg.2, k D H2 _ rfl hDH nD ⟨fun a o na h => ?_, fun a J h => ?_⟩ (ghI_exact c.hold)⟩
    · have h1 := e1.1 a o na h
      exact c.keep a o (ne_of_none h1 hD) na h1
    · have hne : a ≠ D := fun z => by
        rw [z, nD] at h
        cases h
      exact c.hold a J (by rw [ghI_other hne]; exact h)
/-- a locked dict, looked at -/
structure Fz where
  p : Addr
  u : HO
instance : Rp Fz where
  rp K Δ H v a := v = .ref a.p ∧ Δ a.p = none ∧ ∃ od, H a.p = some (.frz od a.u)
  mono k h := ⟨h.1, h.2.1, let ⟨od, e⟩ := h.2.2; ⟨od, k _ _ h.2.1 e⟩⟩
  weak w h := ⟨h.1, let ⟨od, e⟩ := h.2.2; w _ _ e h.2.1, h.2.2⟩
structure Fzo where
  p : Addr
  u : HO
  od : Obj
instance : Rp Fzo where
  rp K Δ H v a := v = .ref a.p ∧ Δ a.p = none ∧ H a.p = some (.frz a.od a.u)
  mono k h := ⟨h.1, h.2.1, k _ _ h.2.1 h.2.2⟩
  weak w h := ⟨h.1, w _ _ h.2.2 h.2.1, h.2.2⟩
def unOwn (Δ : Gh) (d : Addr) : Gh := fun a => if a = d then none else Δ a
theorem unOwn_at {Δ : Gh} {d : Addr} : unOwn Δ d d = none := if_pos rfl
theorem unOwn_ne {Δ : Gh} {d a : Addr} (h : a ≠ d) : unOwn Δ d a = Δ a := if_neg h
/-- the dict locked while the expression runs -/
theorem en_lock {d : Addr} {u : HO} {i : Nat} {I : HO → Prop} (hm : Mut (some u)) (hne : ∀ q ∈ Γ, q.1 ≠ d) (hi : ρ[i]? = some (some ⟨(⟨d⟩ : Loc)⟩)) (h : EvN K Γ te (ρ.set i (some ⟨(⟨d, u⟩ : Fz)⟩)) I) : EvN K ((d, ObIs u) :: Γ) (tLockE te) ρ I := fun Δ σ H Q s hh e k => by
  have hd := s _ List.mem_cons_self
  obtain ⟨o, ho, io⟩ := hh d _ hd
  have eo : o = u := io
  subst eo
  have ilt : i < ρ.length := by
    rw [List.getElem?_eq_some_iff] at hi
    exact hi.1
  refine ⟨d, o, ho, hm, fun od => ?_⟩
  have s2 : Sat Γ (unOwn Δ d) := fun q hq => by rw [unOwn_ne (hne q hq)]; exact s q (List.mem_cons_of_mem _ hq)
  have h2 : Hold (unOwn Δ d) (upd H d (.frz od o)) := fun a J ha => by
    have ne : a ≠ d := fun z => by rw [z, unOwn_at] at ha; cases ha
    rw [unOwn_ne ne] at ha
    rw [upd_ne ne]
    exact hh a J ha
  have kp : Keep Δ H (upd H d (.frz od o)) := fun a v na q => by
    have ne : a ≠ d := fun z => by rw [z, hd] at na; cases na
    rw [upd_ne ne]
    exact q
  have wk : ∀ x o', upd H d (.frz od o) x = some o' → Δ x = none → unOwn Δ d x = none := fun x o' _ n => by
    by_cases z : x = d
    · rw [z]; exact unOwn_at
    · rw [unOwn_ne z]; exact n
  have e2 : EnvOk K (unOwn Δ d) σ (upd H d (.frz od o)) (ρ.set i (some ⟨(⟨d, o⟩ : Fz)⟩)) := by
    have e3 := ((e.mono kp).weak wk).set (c := ⟨(⟨d, o⟩ : Fz)⟩) (v := .ref d) ilt ⟨rfl, unOwn_at, od, upd_same⟩
    obtain ⟨v, hv, rv⟩ := e.2 i _ hi
    have ev : v = .ref d := rv
    subst ev
    have es : σ.set i (some (.ref d)) = σ := List.ext_getElem? fun j => by
      by_cases hj : i = j
      · subst hj
        rw [List.getElem?_set_self (by rw [e.1]; exact ilt), hv]
      · rw [List.getElem?_set_ne hj]
    rw [es] at e3
    exact e3
  refine h (unOwn Δ d) σ _ _ s2 h2 e2 fun d2 H2 o2 io2 hd2 nd2 ee ho2 => ?_
  have ne2 : d2 ≠ d := fun z => by rw [z, upd_same] at hd2; cases hd2
  refine ⟨ee.1 _ _ unOwn_at upd_same, k d2 _ o2 io2 (by rw [upd_ne ne2] at hd2; exact hd2) (by rw [unOwn_ne ne2] at nd2; exact nd2) ⟨fun a v na q => ?_, fun a J ha => ?_⟩ (by rw [upd_ne ne2]; exact ho2)⟩
  · have ne : a ≠ d := fun z => by rw [z, hd] at na; cases na
    rw [upd_ne ne]
    exact ee.1 a v (by rw [unOwn_ne ne]; exact na) (by rw [upd_ne ne]; exact q)
  · by_cases z : a = d
    · subst z
      rw [hd] at ha
      cases ha
      exact ⟨o, upd_same, rfl⟩
    · rw [upd_ne z]
      exact ee.2 a J (by rw [unOwn_ne z]; exact ha)
/-- the values of a locked dict -/
theorem src_vals {j : Nat} {d : Addr} {kvs : List (Key × V)} {ν : Type} [Rp ν] [Flat ν] {x0 : Nat → ν} (h : Ev K Γ te ρ (Is (⟨d, .dK kvs⟩ : Fz))) (hx : ∀ i, i < kvs.length → ∃ k, kvs[i]? = some (k, Flat.val (x0 i))) (hj : j < ρ.length) : Src K Γ (iVals te) (gName j) ρ [j] kvs.length (fun i ρ => ρ.set j (some ⟨x0 i⟩)) := fun Δ σ H R s hh e k =>
  h Δ σ H _ s hh e fun v H' a pa e1 r => by
    have ea : a = ⟨d, .dK kvs⟩ := pa
    subst ea
    obtain ⟨ev, n, od, hd⟩ := id r
    refine ⟨d, od, kvs, ev, hd, k _ H' v ⟨(⟨d, .dK kvs, od⟩ : Fzo)⟩ e1 ⟨ev, n, hd⟩ (fun Δ' H2 r2 => ?_) fun Δ' i H2 x H3 hi h2 r2 y => ?_⟩
    · obtain ⟨_, _, hd2⟩ := (show Rp.rp K Δ' H2 v (⟨d, .dK kvs, od⟩ : Fzo) from r2)
      exact ⟨fun i hi => ⟨hd2, hi⟩, hd2, Nat.le_refl _⟩
    · obtain ⟨rfl, kk, hy⟩ := (show H3 = H2 ∧ ∃ kk, kvs[i]? = some (kk, x) from y)
      obtain ⟨k2, hk2⟩ := hx i hi
      rw [hk2] at hy
      cases hy
      exact ⟨Ext.refl h2, fun σ' ρ' Qs hl e' qq => qq _ (e'.set (c := ⟨x0 i⟩) (by rw [hl]; exact hj) (Flat.iff.mpr rfl)) (set_off (js := [j]) (List.mem_singleton_self j)).1 (set_off (js := [j]) (List.mem_singleton_self j)).2⟩
/-- name = a new object -/
theorem wp_asgN {Δ0 : Gh} {H0 : Hp} {F : List (V × Cell)} {tz : TS} {D : Ends} {i : Nat} {I : HO → Prop} (h : EvN K Γ te ρ I) (hi : i < ρ.length)
    (k : ∀ d o, I o → OwnP Δ0 Γ d → Wp K Δ0 H0 ((d, ObIs o) :: Γ) F (ρ.set i (some ⟨(⟨d⟩ : Loc)⟩)) tz D) : Wp K Δ0 H0 Γ F ρ (tSeq (tAsg te (gName i)) tz) D := fun σ H ⟨Δ, s, hh, e, ff, e0, s1, s2⟩ =>
  h Δ σ H _ s hh e fun d H1 o io hd nd e1 hdo => by
    obtain ⟨owd, Δ', s', hh', e', ff', e0', s1', s2'⟩ := own_come (K := K) (Δ0 := Δ0) (H0 := H0) (F := F) s hh e ff e0 s1 s2 hd e1 hdo
    exact k d o io owd _ _ ⟨Δ', s', hh', e'.set (c := ⟨(⟨d⟩ : Loc)⟩) hi rfl, ff', e0', s1', s2'⟩
/-- d[x], the dict one's own -/
theorem ev_dgetO {d : Addr} {kvs : List (Key × V)} {κ ν : Type} [Rp κ] [Flat κ] [Rp ν] [Flat ν] {x : κ} {y : ν} {k0 : Key} (hm : (d, ObIs (.dK kvs)) ∈ Γ) (hk : kV k0 = Flat.val x) (hv : valV kvs k0 = some (Flat.val y)) (ho : Ev K Γ ta ρ (Is (⟨d⟩ : Loc))) (h : Ev K Γ te ρ (Is x)) : Ev K Γ (tDGet ta te) ρ (Is y) := fun Δ σ H Q s hh e k =>
  ho Δ σ H _ s hh e fun v H1 a pa e1 r1 => h Δ σ H1 _ s e1.2 (e.mono e1.1) fun w H2 b pb e2 r2 => by
    have ea : a = ⟨d⟩ := pa
    subst ea
    have ev : v = .ref d := r1
    subst ev
    have eb : b = x := pb
    subst eb
    obtain ⟨u, hu, iu⟩ := e2.2 d _ (s _ hm)
    have iu' : u = HO.dK kvs := iu
    subst iu'
    refine ⟨d, Flat.val y, rfl, ?_, k _ H2 y rfl (e1.trans e2) (Flat.iff.mpr rfl)⟩
    rw [Flat.iff.mp r2, ← hk, ← hv]
    exact DGet.k hu
/-- list(d), the dict one's own -/
theorem ev_listK {d : Addr} {kvs : List (Key × V)} {κ : Type} [Rp κ] [Flat κ] {xs : List κ} (hm : (d, ObIs (.dK kvs)) ∈ Γ) (hk : kvs.map (fun kv => kV kv.1) = xs.map Flat.val) (h : Ev K Γ te ρ (Is (⟨d⟩ : Loc))) : Ev K Γ (tCB rListD (tCons te tNil)) ρ (Is xs) := fun Δ σ H Q s hh e k =>
  h Δ σ H _ s hh e fun v H1 a pa e1 r => by
    have ea : a = ⟨d⟩ := pa
    subst ea
    have ev : v = .ref d := r
    subst ev
    obtain ⟨u, hu, iu⟩ := e1.2 d _ (s _ hm)
    have iu' : u = HO.dK kvs := iu
    subst iu'
    refine ⟨d, kvs, rfl, hu, fun q hq => k _ _ xs rfl (e1.trans (Ext.new e1.2 hq _)) (new_lst e1.2 hq ?_)⟩
    rw [hk]
    exact all2_flat xs
end
end Z
namespace L2
open PySem PySem.Spec PyProof.Rows
section
variable {X : Cx}
/-- the name is stored while the comprehension still stands -/
theorem sw_dict {kx vx : Expr} {gs : List Comprehension} {scope : Scope} {pos py : Pos} {y : Str} {l : Nat} {env : Env} (hk : env.scope.kind = .function) (hy : env.scope.names.lookup y = some .local) (hl : (py.line == pos.line) = true)
    (ha : (scope.names.any fun (n, k) => n == y && (k == .local || k == .cell)) = false) : swapsWith (.DictComp kx vx gs scope pos) (some (.Name y py)) l env = pure true := by
  have e1 : env.kindOf y = some .local := hy
  have e2 : env.blockKind = .function := by unfold Env.blockKind; rw [hk]; rfl
  unfold swapsWith
  simp only [e2, e1, ha, Expr.pos, hl]
  rfl
/-- y = {k: v for .. in .. if ..}, y a plain local name -/
theorem ps_setDc {i : Nat} {y : Str} {py : Pos} {kx vx tg iter : Expr} {ifs : List Expr} {scope : Scope} {own : List (Str × Nat)} {pos spos : Pos} {wi : TI} {g : TG} {tt : TT} {tk tv : TE} (hc : X.calm = true) (hN : X.N.Nodup) (hy : X.N[i]? = some y) (hyl : X.env.scope.names.lookup y = some .local)
    (hsw : swapsWith (.DictComp kx vx [⟨tg, iter, ifs, 0⟩] scope pos) (some (.Name y py)) spos.line X.env = pure true) (hi : PI X tg iter wi) (ok : BlkOk X.N X.env.scope scope own)
    (hg : ∀ (s : Shared) (H : Hp) (C : Addr) (cl : List (Str × Addr)) (fp : List Addr), PG (X.blk s H scope (compEnvC scope cl C X.env) fp) tg g) (ht : ∀ (s : Shared) (H : Hp) (C : Addr) (cl : List (Str × Addr)) (fp : List Addr), PTs (X.blk s H scope (compEnvC scope cl C X.env) fp) ifs tt)
    (hk : ∀ (s : Shared) (H : Hp) (C : Addr) (cl : List (Str × Addr)) (fp : List Addr), PE (X.blk s H scope (compEnvC scope cl C X.env) fp) kx tk)
    (he : ∀ (s : Shared) (H : Hp) (C : Addr) (cl : List (Str × Addr)) (fp : List Addr), PE (X.blk s H scope (compEnvC scope cl C X.env) fp) vx tv) (hs : ∀ x, foldedSetIterable iter X.env x = pure x := by intro _; rfl) :
    PS X (.Assign [.Name y py] (.DictComp kx vx [⟨tg, iter, ifs, 0⟩] scope pos) spos) (tAsg (tDc wi g tt tk tv (own.map (·.2))) (gName i)) := by
  refine ⟨fun pins s σ H D I q => ?_⟩
  have h : tDc wi g tt tk tv (own.map (·.2)) σ H (fun x H1 => gName i x σ H1 D.nx) := q
  rw [exec_Assign_Name_used _ _ _ _ hsw]
  refine wpAny_bind (wpAny_standAt (wpAny_bind ?_))
  show wpAny _ X.A (do let _ ← comprehension (.DictComp kx vx [⟨tg, iter, ifs, 0⟩] scope pos) scope X.env (firstIterPos [⟨tg, iter, ifs, 0⟩] pos) newDict false (eval iter X.env) (some (assign (.Name y py) X.env))) _ _ s
  refine wpAny_bind (thn (dc_core (Qf := fun _ s' => SP X pins D .next s') hc hN I hi ok hg ht hk he hs h fun L C s' m H' I' q2 hn f => ?_) fun _ s' z => wpAny_pure (wpAny_pure z))
  obtain ⟨f0, f1, f2, f3, f4, f5⟩ := f
  show wpAny _ _ (assign (.Name y py) X.env (.ref L)) _ _ _
  refine wpAny_assign_Name (store_ok2 (v := V.ref L) I' hN hy (.inl hyl) rfl (fun s2 I2 ⟨a, sb, ha⟩ => ?_) (.inr hyl))
  have hne : C ≠ a := by
    rcases ha with z | z
    · rw [z]
      exact f1
    · exact fun e => f4 y a z e.symm
  exact ⟨m, hn.sameBut sb hne, fun h3 sb3 => ⟨_, H', I2.turned (t' := s2.toks) (fun b o hb e => (sb3.2 b hb).trans e) f0 f1 f3 f4 f5, q2⟩⟩
/-- .. the dict that is walked locked -/
theorem ps_lockA {st : Stmt} {te : TE} {i : Nat} (h : PS X st (tAsg te (gName i))) : PS X st (tAsg (tLockE te) (gName i)) := ps_lock h
end
end L2

set_option Elab.async false
set_option linter.all false
set_option maxRecDepth 100000
set_option maxHeartbeats 1000000
/-! more of lists of one's own with plain items -/
namespace Z
open PySem PySem.Spec PyProof.Rows L2
theorem eqv_txs' (xs ys : List Tx) : PyData.eqv (Dt.d xs) (Dt.d ys) = decide (xs = ys) := eqv_txs xs ys
theorem erase_map {α β : Type} (f : α → β) : ∀ (xs : List α) (n : Nat), (xs.map f).eraseIdx n = (xs.eraseIdx n).map f
  | [], _ => rfl
  | _ :: _, 0 => rfl
  | x :: xs, n + 1 => by
    show f x :: (xs.map f).eraseIdx n = f x :: (xs.eraseIdx n).map f
    rw [erase_map f xs n]
theorem perm_erase {α : Type} : ∀ {ys : List α} {n : Nat} (h : n < ys.length), ys.Perm (ys[n] :: ys.eraseIdx n)
  | y :: ys, 0, _ => List.Perm.refl _
  | y :: ys, n + 1, h => ((perm_erase (ys := ys) (n := n) (by simpa using h)).cons y).trans (List.Perm.swap _ _ _)
section
variable {K : PySem.W.Frag} {Γ : Own} {ρ : Z.Env} {ta tb te : TE} {α : Type} [Rp α] [Flat α]
/-- xs[n], the list one's own, n some index -/
theorem ev_ixO {q : Addr} {xs : List α} (hm : OwnL q xs ∈ Γ) (ha : Ev K Γ ta ρ (Is (⟨q⟩ : Loc))) (hb : Ev K Γ tb ρ (fun r : Int => 0 ≤ r ∧ r < xs.length)) : Ev K Γ (tOp (rIxL K) ta tb) ρ (fun y => y ∈ xs) := fun Δ σ H Q s hh e k =>
  ha Δ σ H _ s hh e fun v H1 a pa e1 r1 => hb Δ σ H1 _ s e1.2 (e.mono e1.1) fun w H2 b pb e2 r2 => by
    have ea : a = ⟨q⟩ := pa
    subst ea
    have ev : v = .ref q := r1
    subst ev
    have ew : w = .int b := r2
    subst ew
    obtain ⟨u, hu, iu⟩ := e2.2 q _ (s _ hm)
    have iu' : u = HO.lst (xs.map Flat.val) := iu
    subst iu'
    have hlt : b.toNat < xs.length := by omega
    have eb : b = ((b.toNat : Nat) : Int) := (Int.toNat_of_nonneg pb.1).symm
    refine ⟨q, _, b, Flat.val xs[b.toNat], rfl, rfl, .inl (.inl hu), ?_, k _ H2 xs[b.toNat] (List.getElem_mem hlt) (e1.trans e2) (Flat.iff.mpr rfl)⟩
    have hx : (xs.map Flat.val)[b.toNat]? = some (Flat.val xs[b.toNat]) := by
      rw [List.getElem?_map, List.getElem?_eq_getElem hlt]
      rfl
    have hy := atI_nat hx
    rw [← eb] at hy
    exact hy
theorem dall_flat [Dt α] {Δ : Gh} {H : Hp} (xs : List α) : DpAll K H (xs.map Flat.val) (xs.map Dt.d) := dall (Δ := Δ) (all2_flat xs)
/-- xs != ys, the first list one's own -/
theorem ev_neO {q : Addr} {xs ys : List Tx} (hm : OwnL q xs ∈ Γ) (hx : TOk xs) (hy : TOk ys) (ha : Ev K Γ ta ρ (Is (⟨q⟩ : Loc))) (hb : Ev K Γ tb ρ (Is ys)) : Ev K Γ (tOp (rNeD K) ta tb) ρ (Is (!decide (xs = ys))) := fun Δ σ H Q s hh e k =>
  ha Δ σ H _ s hh e fun v H1 a pa e1 r1 => hb Δ σ H1 _ s e1.2 (e.mono e1.1) fun w H2 b pb e2 r2 => by
    have ea : a = ⟨q⟩ := pa
    subst ea
    have ev : v = .ref q := r1
    subst ev
    have eb : b = ys := pb
    subst eb
    obtain ⟨u, hu, iu⟩ := e2.2 q _ (s _ hm)
    have iu' : u = HO.lst (xs.map Flat.val) := iu
    subst iu'
    refine ⟨_, _, .lst (.inl (.inl hu)) (dall_flat (Δ := Δ) xs), Dt.ok r2, shaped_lS hx, shaped_lS hy, k _ H2 _ rfl (e1.trans e2) ?_⟩
    show V.bl _ = V.bl _
    congr 2
    exact (eqv_txs' xs b).symm ▸ rfl
end
section
variable {K : PySem.W.Frag} {Δ0 : Gh} {H0 : Hp} {Γ : Own} {F : List (V × Cell)} {ρ : Z.Env} {ta tb tr te : TE} {tz : TS} {D : Ends} {α : Type} [Rp α] [Flat α]
/-- a.append(b.pop(n)), both lists one's own -/
theorem wp_appPop {p q : Addr} {xs ys : List α} (o : OwnP Δ0 (OwnL q ys :: Γ) p) (o2 : OwnP Δ0 Γ q) (hz : xs.length < 50000)
    (ho : Ev K (OwnL p xs :: OwnL q ys :: Γ) ta ρ (Is (⟨p⟩ : Loc))) (hq : Ev K (OwnL p xs :: OwnL q ys :: Γ) tb ρ (Is (⟨q⟩ : Loc))) (hr : Ev K (OwnL p xs :: OwnL q ys :: Γ) tr ρ (fun r : Int => 0 ≤ r ∧ r < ys.length)) (hy : ys.length ≤ 50000)
    (k : ∀ y zs, ys.Perm (y :: zs) → OwnP Δ0 (OwnL q zs :: Γ) p → Wp K Δ0 H0 (OwnL p (xs ++ [y]) :: OwnL q zs :: Γ) F ρ tNext D) :
    Wp K Δ0 H0 (OwnL p xs :: OwnL q ys :: Γ) F ρ (tDrop (tBM K "list" rAppend ta (tCons (tBM K "list" rPopAt tb (tCons tr tNil)) tNil))) D := fun σ H ⟨Δ, s, hh, e, f, e0, s1, s2⟩ =>
  ho Δ σ H _ s hh e fun w H1 b pb e1 r1 => by
    have eb : b = ⟨p⟩ := pb
    subst eb
    have ew : w = .ref p := r1
    subst ew
    obtain ⟨u, hu, iu⟩ := e1.2 p _ (s _ List.mem_cons_self)
    have iu' : u = HO.lst _ := iu
    subst iu'
    refine ⟨.inl ⟨rfl, _, SqL.of hu⟩, hq Δ σ H1 _ s e1.2 (e.mono e1.1) fun w2 H2 b2 pb2 e2 r2 => ?_⟩
    have eb2 : b2 = ⟨q⟩ := pb2
    subst eb2
    have ew2 : w2 = .ref q := r2
    subst ew2
    obtain ⟨u2, hu2, iu2⟩ := e2.2 q _ (s _ (List.mem_cons_of_mem _ List.mem_cons_self))
    have iu2' : u2 = HO.lst _ := iu2
    subst iu2'
    refine ⟨.inl ⟨rfl, _, SqL.of hu2⟩, hr Δ σ H2 _ s e2.2 ((e.mono e1.1).mono e2.1) fun w3 H3 n pn e3 r3 => ?_⟩
    have ew3 : w3 = .int n := r3
    subst ew3
    have e4 := (e1.trans e2).trans e3
    have st : Stt K Δ0 H0 (OwnL p xs :: OwnL q ys :: Γ) F ρ σ H3 := ⟨Δ, s, e4.2, e.mono e4.1, fun q hq => q.2.r.mono e4.1 (f q hq), ext0 e0 s1 s2 e4, s1, s2⟩
    have hlt : n.toNat < ys.length := by omega
    have hpq : q ≠ p := o.ne (OwnL q ys) List.mem_cons_self
    have o3 : OwnP Δ0 (OwnL p xs :: Γ) q := ⟨o2.n0, fun z hz2 => by
      rcases List.mem_cons.mp hz2 with rfl | hz2
      · exact hpq.symm
      · exact o2.ne z hz2⟩
    obtain ⟨hq3, st2⟩ := own_putO (o2 := .lst ((ys.eraseIdx n.toNat).map Flat.val)) o3 st.swap
    have o4 : OwnP Δ0 (OwnL q (ys.eraseIdx n.toNat) :: Γ) p := ⟨o.n0, fun z hz2 => by
      rcases List.mem_cons.mp hz2 with rfl | hz2
      · exact hpq
      · exact o.ne z (List.mem_cons_of_mem _ hz2)⟩
    obtain ⟨hp3, st3⟩ := own_putO (o2 := .lst ((xs ++ [ys[n.toNat]]).map Flat.val)) o4 st2.swap
    refine ⟨q, _, n, n.toNat, Flat.val ys[n.toNat], rfl, rfl, hq3, by omega, by omega, ?_, ?_, ?_⟩
    · rw [List.length_map]
      unfold seqIndex?
      simp [show ¬ n < 0 by omega, pn.1, pn.2]
    · rw [List.getElem?_map, List.getElem?_eq_getElem hlt]
      rfl
    · have ee : (ys.map Flat.val).eraseIdx n.toNat = (ys.eraseIdx n.toNat).map Flat.val := erase_map _ _ _
      rw [ee]
      refine ⟨p, _, _, rfl, rfl, hp3, ?_, ?_⟩
      · rw [List.length_map]
        exact Nat.lt_trans hz (by decide)
      · have e5 : xs.map Flat.val ++ [Flat.val ys[n.toNat]] = (xs ++ [ys[n.toNat]]).map Flat.val := by rw [List.map_append]; rfl
        rw [e5]
        exact k _ _ (perm_erase hlt) o4 σ _ st3
/-- name.append(e), the last of a block -/
theorem wp_appL {p : Addr} {xs : List α} {P : α → Prop} (o : OwnP Δ0 Γ p) (hz : xs.length < 50000) (ho : Ev K (OwnL p xs :: Γ) ta ρ (Is (⟨p⟩ : Loc))) (h : Ev K (OwnL p xs :: Γ) te ρ P)
    (k : ∀ a, P a → Wp K Δ0 H0 (OwnL p (xs ++ [a]) :: Γ) F ρ tNext D) : Wp K Δ0 H0 (OwnL p xs :: Γ) F ρ (tDrop (tBM K "list" rAppend ta (tCons te tNil))) D := wp_app (tz := tNext) o hz ho h k
/-- a, b = list(xs), [] -/
theorem wp_parLN {i j : Nat} {xs : List α} (h : Ev K Γ te ρ (Is xs)) (hi : i < ρ.length) (hj : j < ρ.length)
    (k : ∀ q p, OwnP Δ0 Γ q → OwnP Δ0 (OwnL q xs :: Γ) p → Wp K Δ0 H0 (OwnL p ([] : List α) :: OwnL q xs :: Γ) F ((ρ.set i (some ⟨(⟨q⟩ : Loc)⟩)).set j (some ⟨(⟨p⟩ : Loc)⟩)) tz D) :
    Wp K Δ0 H0 Γ F ρ (tSeq (tPar i j (tCons (tCB (fun xs H Q => ∃ p ys, xs = [.ref p] ∧ (SqL K H p ys ∨ SqT K H p ys) ∧ ∀ l, H l = none → Q (.ref l) (upd H l (.lst ys))) (tCons te tNil)) (tCons (tLst tNil) tNil))) tz) D := fun σ H ⟨Δ, s, hh, e, f, e0, s1, s2⟩ =>
  h Δ σ H _ s hh e fun v H1 a pa e1 r => by
    have ea : a = xs := pa
    subst ea
    obtain ⟨b, vs, rfl, nb, hb, qa⟩ := r
    have ev := flat_all2 qa
    subst ev
    refine ⟨b, _, rfl, .inl hb, fun q hq => ?_⟩
    obtain ⟨oq, Δ', s', hh', e', f', e0', s1', s2'⟩ := own_newO (K := K) (o := .lst (a.map Flat.val)) s e1.2 (e.mono e1.1) (fun z hz => z.2.r.mono e1.1 (f z hz)) (ext0 e0 s1 s2 e1) s1 s2 hq
    refine ⟨by show 0 ≤ sizeLine; decide, fun p hp => ?_⟩
    obtain ⟨op, Δ2, s3, hh3, e3, f3, e03, s13, s23⟩ := own_newO (K := K) (o := .lst []) s' hh' e' f' e0' s1' s2' hp
    exact ⟨_, _, rfl, k q p oq op _ _ ⟨Δ2, s3, hh3, (e3.set (c := ⟨(⟨q⟩ : Loc)⟩) hi rfl).set (c := ⟨(⟨p⟩ : Loc)⟩) (by rw [List.length_set]; exact hj) rfl, f3, e03, s13, s23⟩⟩
/-- for .. in range(n), n some number -/
theorem wp_forR {ta : TA} {g : TG} {t : TS} {Pn : Nat → Prop} (h : EvA K Γ ta ρ (fun cs => ∃ n : Nat, cs = [⟨(n : Int)⟩] ∧ Pn n)) (hs : ∀ n, Pn n → Wp K Δ0 H0 Γ F ρ (tSeq (tFor (iRng1 (tCons (tC (.int (n : Int))) tNil)) g t) tz) D) : Wp K Δ0 H0 Γ F ρ (tSeq (tFor (iRng1 ta) g t) tz) D := fun σ H ⟨Δ, s, hh, e, f, e0, s1, s2⟩ =>
  h Δ σ H _ s hh e fun vs H1 cs pcs e1 r => by
    obtain ⟨n, rfl, pn⟩ := pcs
    match vs, r with
    | [v], r =>
      have ev : v = .int n := r.1
      subst ev
      exact hs n pn σ H1 ⟨Δ, s, e1.2, e.mono e1.1, fun q hq => q.2.r.mono e1.1 (f q hq), ext0 e0 s1 s2 e1, s1, s2⟩
end
section
variable {K : PySem.W.Frag} {Γ : Own} {ρ : Z.Env} {ta tb te : TE}
/-- x[:n] -/
theorem ev_cutTo {x : Tx} {n : Nat} (hz : x.s.length ≤ 100000) (hn : n ≤ x.s.length) (h : Ev K Γ te ρ (Is x)) (hb : Ev K Γ tb ρ (Is (n : Int))) : Ev K Γ (tSl rSlS te tNoPart (tPart tb)) ρ (Is (⟨x.s.take n⟩ : Tx)) := fun Δ σ H Q s hh e k =>
  h Δ σ H _ s hh e fun v H1 a pa e1 r1 => hb Δ σ H1 _ s e1.2 (e.mono e1.1) fun w H2 b pb e2 r2 => by
    have ea : a = x := pa
    subst ea
    have ev : v = .str (tS a) := r1
    subst ev
    have eb : b = (n : Int) := pb
    subst eb
    refine ⟨(n : Int), r2, tS a, rfl, Nat.le_trans (by simpa [Str.length] using hz) (by decide), k _ H2 _ rfl (e1.trans e2) ?_⟩
    show V.str _ = V.str _
    congr 1
    unfold cutS
    rw [HT.sIx_none, HT.sIx_nat]
    simp [Str.length, Nat.min_eq_left hn]
/-- x[n:] -/
theorem ev_cutFrom {x : Tx} {n : Nat} (hz : x.s.length ≤ 100000) (hn : n ≤ x.s.length) (h : Ev K Γ te ρ (Is x)) (hb : Ev K Γ tb ρ (Is (n : Int))) : Ev K Γ (tSl rSlS te (tPart tb) tNoPart) ρ (Is (⟨x.s.drop n⟩ : Tx)) := fun Δ σ H Q s hh e k =>
  h Δ σ H _ s hh e fun v H1 a pa e1 r1 => hb Δ σ H1 _ s e1.2 (e.mono e1.1) fun w H2 b pb e2 r2 => by
    have ea : a = x := pa
    subst ea
    have ev : v = .str (tS a) := r1
    subst ev
    have eb : b = (n : Int) := pb
    subst eb
    refine ⟨(n : Int), r2, tS a, rfl, Nat.le_trans (by simpa [Str.length] using hz) (by decide), k _ H2 _ rfl (e1.trans e2) ?_⟩
    show V.str _ = V.str _
    congr 1
    unfold cutS
    rw [HT.sIx_none, HT.sIx_nat]
    simp [Str.length, Nat.min_eq_left hn, List.take_of_length_le]
end
end Z

set_option Elab.async false
set_option linter.all false
set_option maxRecDepth 100000
set_option maxHeartbeats 2000000
/-! an own != with a value of another kind -/
namespace Zo
open PySem PySem.Spec PySem.W PyProof.Rows
section
variable {prog : Program} {w : World} {A : Around} {E : Value → Shared → Prop} {s : Shared} {K : Frag} {x C f : Addr} {ox : Obj} {od : Option Obj} {y tb : Value}
theorem own_neV {Q : Value → Shared → Prop} (X : K.In s.heap) (I : InstAt s.heap x ox C od) (J : Looks (model prog w) s.heap (typeOf y) tb) (hn : notFirst K C tb = true) (hu : A.units + 1 < cLine) (hne : findIn K (.ref C) "__ne__" = some (some (.builtin "object.__ne__"))) (he : findIn K (.ref C) "__eq__" = some (some (.ref f))) (hf : isFn K (.ref f) = true) (hm : mroIn K C (.type "object") = some true)
    (h : wpAny (model prog w) A.in1 (call (.ref f) [.ref x, y]) (fun v s' => ∃ b, v = .bool b ∧ Q (.bool (!b)) s') E s) : wpAny (model prog w) A (richCompare .NotEq (.ref x) y) Q E s := by
  have sub : Looks (model prog w) s.heap (isInstance (.ref x) (.type "object")) true := I.type.andThen (looks_mroIn X hm)
  have one : wpAny (model prog w) A (tryCompare (.ref x) "__ne__" y) (fun r s' => ∃ v, r = some v ∧ Q v s') E s := by
    unfold tryCompare
    have cal : wpAny (model prog w) A (call (.builtin "object.__ne__") [.ref x, y]) (fun v s' => ∃ b, v = .bool b ∧ Q (.bool b) s') E s := by
      refine wpAny_call (codeAny_call_builtin F.cmp_object.ne.plain F.cmpEntry_ne (check_slot F.cmpKind_ne F.cmpSplit_ne sub (F.cmpArgs_ne _ _) ?_))
      show wpAny _ _ (Builtin.«object.__ne__» ⟨[.ref x, y], []⟩) _ _ _
      unfold Builtin.«object.__ne__»
      repeat (first
        | with_reducible refine wpAny_cRoomFor (A := A.in1) (by have := hu; simp only [Around.in1] at *; omega) ?_
        | (refine wpAny_bind (m := callSpecialIfBound? (.ref x) (Str.ofString "__eq__") [y]) (ifBound_K X I he hf (wpAny_mono h (fun r s' hr => ?_) fun _ _ e => e)); obtain ⟨b, rfl, hq⟩ := hr)
        | wp_step)
      all_goals exact ⟨_, rfl, hq⟩
    refine wpAny_bind (m := callSpecialIfBound? (.ref x) (Str.ofString "__ne__") [y]) ?_
    simp only [callSpecialIfBound?, bindSpecialIfBound?]
    refine wpAny_holding (wpAny_bind (wpAny_bind (wpAny_bind (I.type.here ((looks_findIn X hne).here ?_)))))
    refine wpAny_bind (wpAny_askSetting (wpAny_ite ?_))
    have fin : wpAny (model prog w) A (call (.builtin "object.__ne__") ([.ref x] ++ [y]) >>= fun v => pure (some v)) (fun a s' => wpAny (model prog w) A (match a with
      | some .notImplemented | none => pure none
      | some v => pure (some v)) (fun r s' => ∃ v, r = some v ∧ Q v s') E s') E s := wpAny_bind (wpAny_mono cal (fun v s' hv => by obtain ⟨b, rfl, hq⟩ := hv; exact wpAny_pure (wpAny_pure ⟨_, rfl, hq⟩)) fun _ _ e => e)
    split
    · exact wpAny_bind (wpAny_of_eq (F.cmp_object.ne.bind _) (wpAny_pure fin))
    · exact wpAny_tryCatch (wpAny_bind (wpAny_of_eq (F.cmp_object.ne.bind _) (wpAny_pure fin)))
  unfold richCompare
  simp only [oneThing_ref]
  refine wpAny_holding (wpAny_bind (wpAny_cRoomFor (by omega) ?_))
  refine wpAny_bind (I.type.here (wpAny_bind (J.here ?_)))
  have fin2 : wpAny (model prog w) A (do
      match ← tryCompare (.ref x) "__ne__" y with
      | some v => pure (some v)
      | none => pure none) (fun r s' => ∃ v, r = some v ∧ Q v s') E s := wpAny_bind (wpAny_mono one (fun r s' hr => by obtain ⟨v, rfl, hq⟩ := hr; exact wpAny_pure ⟨v, rfl, hq⟩) fun _ _ e => e)
  split
  · rename_i q
    have e : subIn K tb (.ref C) = some false := by
      rcases Bool.or_eq_true_iff.mp hn with e | e
      · rw [beq_iff_eq.mp e] at q; simp at q
      · exact beq_iff_eq.mp e
    refine wpAny_bind ((looks_subIn X e).here ?_)
    simp only [Bool.false_eq_true, if_false]
    refine wpAny_bind (wpAny_mono one (fun r s' z => ?_) fun _ _ e => e)
    obtain ⟨v, rfl, hq⟩ := z
    exact wpAny_pure hq
  · refine wpAny_bind (wpAny_pure ?_)
    simp only [Bool.false_eq_true, if_false]
    refine wpAny_bind (wpAny_mono one (fun r s' z => ?_) fun _ _ e => e)
    obtain ⟨v, rfl, hq⟩ := z
    exact wpAny_pure hq
end
end Zo
namespace L2
open PySem PySem.Spec PyProof.Rows
/-- x != y, y of another kind -/
def rOwnNeV (K : PySem.W.Frag) (C : Addr) (sp : Sp) (E : XK) : R2 := fun x y H Q => ∃ a dx fs t, x = .ref a ∧ H a = some (.ins C dx fs) ∧ TyX K H y t ∧ PySem.W.notFirst K C t = true ∧ sp [x, y] H (fun z H' => ∃ r, z = .bl r ∧ Q (.bl (!r)) H') E
section
variable {X : Cx} {CX : CXT} {k : Nat} {C g : Addr} {fd : FuncData} {ps : List Str} {sp : Sp} {E : XK}
theorem op_neV (hne : PySem.W.findIn X.K (.ref C) "__ne__" = some (some (.builtin "object.__ne__"))) (hs : PySem.W.findIn X.K (.ref C) "__eq__" = some (some (.ref g))) (hf : PySem.W.isFn X.K (.ref g) = true) (hm : PySem.W.mroIn X.K C (.type "object") = some true)
    (F : FnOk X.prog X.w X.K X.mg X.base CX k g fd ps sp) (hr : Room (k + 1) X.A) (hb : Binds X.K fd ps []) (hx : Passes CX X E) : OpR X (compareOp .NotEq) (rOwnNeV X.K C sp E) := by
  intro pins s σ H x y v u Q I rx ry h
  obtain ⟨a, dx, fs, t, rfl, ha, ht, hnf, q⟩ := h
  obtain rfl : v = Value.ref a := rx
  obtain ⟨_, J1, _⟩ := ins_get I.hok ha
  obtain ⟨_, J1, _⟩ := J1.look
  obtain ⟨P, Z, hP, _⟩ := kit_of I ry ht
  have J2 := Z.ty (model X.prog X.w) s.heap I.kIn hP
  have hl := F.len _ _ _ _ q
  have r2 : Vals [V.ref a, y] [Value.ref a, u] := .cons rfl (.cons ry .nil)
  refine Zo.own_neV I.kIn J1 J2 hnf ?hu hne hs hf hm (wpAny_call (codeAny_mono (F.run X.A.in1 X.stack s H ⟨[.ref a, u], []⟩ [.ref a, u] [.ref a, y] _ E hr.in1 I.env0.in1 (by
    have := hb s [.ref a, u] I.kIn (by simpa using hl)
    simpa using this) r2 q) fun r s' hq => ?_))
  case hu =>
    have h1 := hr.un
    omega
  cases r with
  | error e => exact hx pins σ H s e s' I hq
  | ok fl =>
    cases fl with
    | ret w =>
      obtain ⟨z, H', I', rz, r, rfl, qz⟩ := I.after hq
      obtain rfl : w = Value.bool r := rz
      exact ⟨r, rfl, .bl (!r), H', I', rfl, qz⟩
    | next => exact False.elim hq
    | brk => exact False.elim hq
    | cont => exact False.elim hq
end
end L2
namespace Z
open PySem PySem.Spec PyProof.Rows L2
theorem sub_none {K : PySem.W.Frag} {C : Addr} : PySem.W.subIn K (.type "NoneType") (.ref C) = some false := by kernel_rfl
theorem sub_tup {K : PySem.W.Frag} {C : Addr} : PySem.W.subIn K (.type "tuple") (.ref C) = some false := by kernel_rfl
section
variable {K : PySem.W.Frag} {Γ : Own} {ρ : Z.Env} {ta tb te : TE} {α β : Type} [Rp α] [Rp β] {C : Addr} {E : XK}
/-- a op b, each told by a predicate -/
theorem ev_binP {γ : Type} [Rp γ] {F : Own → List Cell → (γ → Prop) → Prop} {Pa Pb : β → Prop} {Pc : γ → Prop} (hI : IsIns K C β) (ha : Ev K Γ ta ρ Pa) (hb : Ev K Γ tb ρ Pb) (hF : ∀ a b, Pa a → Pb b → ∃ R, F Γ [⟨a⟩, ⟨b⟩] R ∧ ∀ c, R c → Pc c) : Ev K Γ (tOp (rOwnI C (spD K F) E) ta tb) ρ Pc := fun Δ σ H Q s hh e k =>
  ha Δ σ H _ s hh e fun v H1 a pa e1 r1 => hb Δ σ H1 _ s e1.2 (e.mono e1.1) fun u H2 b pb e2 r2 => by
    have r1' := Rp.mono e2.1 r1
    obtain ⟨p, dx, fs, rfl, hp⟩ := hI Δ H2 v _ r1'
    obtain ⟨q, dy, gs, rfl, hq⟩ := hI Δ H2 u _ r2
    obtain ⟨R, hR, hc⟩ := hF a b pa pb
    exact ⟨p, dx, fs, q, dy, gs, rfl, rfl, hp, hq, Γ, Δ, [⟨a⟩, ⟨b⟩], R, hR, s, e2.2, ⟨r1', r2, trivial⟩, fun z H' c pc e3 r3 => k z H' c (hc c pc) (e1.trans (e2.trans e3)) r3⟩
/-- a != b -/
theorem ev_neP {F : Own → List Cell → (Bool → Prop) → Prop} {Pa Pb : β → Prop} {r : Bool} (hI : IsIns K C β) (ha : Ev K Γ ta ρ Pa) (hb : Ev K Γ tb ρ Pb) (hF : ∀ a b, Pa a → Pb b → F Γ [⟨a⟩, ⟨b⟩] (Is r)) : Ev K Γ (tOp (rOwnNe C (spD K F) E) ta tb) ρ (Is (!r)) := fun Δ σ H Q s hh e k =>
  ha Δ σ H _ s hh e fun v H1 a pa e1 r1 => hb Δ σ H1 _ s e1.2 (e.mono e1.1) fun u H2 b pb e2 r2 => by
    have r1' := Rp.mono e2.1 r1
    obtain ⟨p, dx, fs, rfl, hp⟩ := hI Δ H2 v _ r1'
    obtain ⟨q, dy, gs, rfl, hq⟩ := hI Δ H2 u _ r2
    exact ⟨p, dx, fs, q, dy, gs, rfl, rfl, hp, hq, Γ, Δ, [⟨a⟩, ⟨b⟩], Is r, hF a b pa pb, s, e2.2, ⟨r1', r2, trivial⟩, fun z H' c pc e3 r3 => ⟨c, r3, k _ H' (!c) (by rw [show c = r from pc]; rfl) (e1.trans (e2.trans e3)) rfl⟩⟩
/-- a != x, x of another kind -/
theorem ev_neV {F : Own → List Cell → (Bool → Prop) → Prop} {a : β} {x : α} {r : Bool} {t : Value} (hI : IsIns K C β) (ha : Ev K Γ ta ρ (Is a)) (hb : Ev K Γ tb ρ (Is x)) (ty : ∀ Δ H v, Rp.rp K Δ H v x → TyX K H v t) (hn : PySem.W.notFirst K C t = true) (hF : F Γ [⟨a⟩, ⟨x⟩] (Is r)) : Ev K Γ (tOp (rOwnNeV K C (spD K F) E) ta tb) ρ (Is (!r)) := fun Δ σ H Q s hh e k =>
  ha Δ σ H _ s hh e fun v H1 a' pa e1 r1 => hb Δ σ H1 _ s e1.2 (e.mono e1.1) fun u H2 x' pb e2 r2 => by
    have ea : a' = a := pa
    subst ea
    have ex : x' = x := pb
    subst ex
    have r1' := Rp.mono e2.1 r1
    obtain ⟨p, dx, fs, rfl, hp⟩ := hI Δ H2 v _ r1'
    exact ⟨p, dx, fs, t, rfl, hp, ty Δ H2 u r2, hn, Γ, Δ, [⟨a'⟩, ⟨x'⟩], Is r, hF, s, e2.2, ⟨r1', r2, trivial⟩, fun z H' c pc e3 r3 => ⟨c, r3, k _ H' (!c) (by rw [show c = r from pc]; rfl) (e1.trans (e2.trans e3)) rfl⟩⟩
end
end Z

set_option Elab.async false
set_option linter.all false
set_option maxRecDepth 100000
set_option maxHeartbeats 1000000
/-! fresh lists joined, cut, sorted, handed back -/
namespace Z
open PySem PySem.Spec PyProof.Rows L2
theorem all2_take {α : Type u1} {β : Type u2} {R : α → β → Prop} : ∀ {n : Nat} {vs : List α} {xs : List β}, All2 R vs xs → All2 R (vs.take n) (xs.take n)
  | 0, _, _, _ => by rw [List.take_zero, List.take_zero]; trivial
  | _ + 1, [], [], _ => trivial
  | _ + 1, [], _ :: _, q => q.elim
  | _ + 1, _ :: _, [], q => q.elim
  | n + 1, _ :: _, _ :: _, q => ⟨q.1, all2_take (n := n) q.2⟩
theorem all2_mapR {α : Type u1} {β : Type u2} {γ : Type u3} {R : α → β → Prop} {S : α → γ → Prop} {f : β → γ} (h : ∀ u x, R u x → S u (f x)) : ∀ {vs : List α} {xs : List β}, All2 R vs xs → All2 S vs (xs.map f)
  | [], [], _ => trivial
  | [], _ :: _, q => q.elim
  | _ :: _, [], q => q.elim
  | _ :: _, _ :: _, q => ⟨h _ _ q.1, all2_mapR h q.2⟩
section
variable {K : PySem.W.Frag} {Γ : Own} {ρ : Z.Env} {ta tb te : TE} {tl : TA} {α β : Type} [Rp α] [Rp β]
theorem new_FL {Δ : Gh} {H : Hp} {l : Addr} {vs : List V} {xs : List α} (hh : Hold Δ H) (hl : H l = none) (q : All2 (fun u a => Rp.rp K Δ H u a) vs xs) : Rp.rp K Δ (upd H l (.lst vs)) (.ref l) (⟨xs⟩ : FL α) :=
  ⟨l, vs, rfl, hh.fresh hl, upd_same, q.imp fun _ _ => Rp.mono (Ext.new hh hl _).1⟩
/-- x + y -/
theorem o2_catF {x y : FL α} (hz : x.l.length + y.l.length ≤ 100000) : Op2 K rCat x y (Is (⟨x.l ++ y.l⟩ : FL α)) := fun Δ H v w Q hh r1 r2 k => by
  obtain ⟨p, vs, rfl, n1, h1, q1⟩ := r1
  obtain ⟨q, ws, rfl, n2, h2, q2⟩ := r2
  exact ⟨p, q, vs, ws, rfl, rfl, h1, h2, by rw [q1.len, q2.len]; exact Nat.le_trans hz (by decide), fun l hl => k _ _ _ rfl (Ext.new hh hl _) (new_FL hh hl (all2_app q1 q2))⟩
/-- [a, b, ..] -/
theorem ev_lstF {xs : List α} (h : EvA K Γ tl ρ (Is (xs.map fun a => ⟨a⟩))) (hz : xs.length ≤ 100000) : Ev K Γ (tLst tl) ρ (Is (⟨xs⟩ : FL α)) := fun Δ σ H Q s hh e k => h Δ σ H _ s hh e fun vs H' cs pcs e1 r => by
  have ec : cs = xs.map fun a => ⟨a⟩ := pcs
  subst ec
  have r' := All2.of_map r
  exact ⟨Nat.le_trans (Nat.le_of_eq r'.len) (Nat.le_trans hz (by decide)), fun p hp => k _ _ ⟨xs⟩ rfl (e1.trans (Ext.new e1.2 hp _)) (new_FL e1.2 hp r')⟩
/-- xs[:n] -/
theorem ev_cutF {xs : List α} {n : Nat} (h : Ev K Γ te ρ (Is xs)) (hb : Ev K Γ tb ρ (Is (n : Int))) : Ev K Γ (tSl (rSlL K) te tNoPart (tPart tb)) ρ (Is (⟨xs.take n⟩ : FL α)) := fun Δ σ H Q s hh e k =>
  h Δ σ H _ s hh e fun v H1 a pa e1 r1 => hb Δ σ H1 _ s e1.2 (e.mono e1.1) fun w H2 b pb e2 r2 => by
    have ea : a = xs := pa
    subst ea
    have eb : b = (n : Int) := pb
    subst eb
    obtain ⟨p, vs, rfl, st, sq, q⟩ := Rp.mono e2.1 r1
    refine ⟨(n : Int), r2, p, vs, rfl, sq, fun l hl => ?_⟩
    refine k _ _ ⟨a.take n⟩ rfl ((e1.trans e2).trans (Ext.new e2.2 hl _)) ?_
    have e3 : cutV vs none (some (n : Int)) = vs.take n := by
      unfold cutV
      rw [HT.sIx_none, HT.sIx_nat]
      simp [List.take_eq_take_iff]
    rw [e3]
    exact new_FL e2.2 hl (all2_take q)
/-- sorted(set(xs)) -/
theorem ev_sortSetF {xs : List Tx} (h : Ev K Γ te ρ (Is xs)) (hz : xs.length ≤ 1000) : Ev K Γ (tSortSet K te) ρ (Is (⟨srt xs⟩ : FL Tx)) := fun Δ σ H Q s hh e k => h Δ σ H _ s hh e fun v H1 a pa e1 r => by
  have ea : a = xs := pa
  subst ea
  obtain ⟨p, vs, rfl, n, sq, q⟩ := r
  have ev := all2_tx q
  subst ev
  refine ⟨p, _, rfl, sq, by rw [List.length_map]; exact hz, fun ys l nd mm rs hl => ?_⟩
  have e1' : ys = (ys.map fun z => (⟨z.cps.toList⟩ : Tx)).map fun x => (⟨x.s.toArray⟩ : Str) := by
    rw [List.map_map]
    conv => lhs; rw [← List.map_id ys]
    exact List.map_congr_left fun z _ => by cases z; rfl
  have inj : ∀ {u w : Str}, (⟨u.cps.toList⟩ : Tx) = ⟨w.cps.toList⟩ → u = w := fun {u w} z => by
    cases u
    cases w
    have := Tx.mk.inj z
    congr 1
    exact Array.toList_inj.mp this
  have es : (ys.map fun z => (⟨z.cps.toList⟩ : Tx)) = srt a := by
    refine srt_of (List.Pairwise.map _ (fun u w hne z => hne (inj z)) nd) (List.pairwise_map.mpr rs) fun x => ?_
    rw [List.mem_map]
    constructor
    · rintro ⟨z, hz, rfl⟩
      obtain ⟨x, hx, rfl⟩ := List.mem_map.mp ((mm z).mp hz)
      exact hx
    · intro hx
      exact ⟨⟨x.s.toArray⟩, (mm _).mpr (List.mem_map.mpr ⟨x, hx, rfl⟩), rfl⟩
  refine k _ _ ⟨srt a⟩ rfl (e1.trans (Ext.new e1.2 hl _)) (new_FL e1.2 hl ?_)
  have e2 : ys.map V.str = (srt a).map fun x => V.str ⟨x.s.toArray⟩ := by
    rw [← es]
    conv => lhs; rw [e1']
    rw [List.map_map]
    rfl
  rw [e2]
  have em : (srt a) = (srt a).map id := (List.map_id _).symm
  conv => rhs; rw [em]
  exact All2.map fun x _ => rfl
/-- a fresh list read as one of other data -/
theorem ev_mapF {f : α → β} {P : FL α → Prop} (hf : ∀ Δ H v a, Rp.rp K Δ H v a → Rp.rp K Δ H v (f a)) (h : Ev K Γ te ρ P) : Ev K Γ te ρ (fun ys : FL β => ∃ xs, P xs ∧ ys = ⟨xs.l.map f⟩) := fun Δ σ H Q s hh e k =>
  h Δ σ H Q s hh e fun v H1 a pa e1 r => by
    obtain ⟨p, vs, rfl, n, hp, q⟩ := r
    exact k _ H1 ⟨a.l.map f⟩ ⟨a, pa, rfl⟩ e1 ⟨p, vs, rfl, n, hp, all2_mapR (fun u x rx => hf Δ H1 u x rx) q⟩
end
section
variable {K : PySem.W.Frag} {Δ0 : Gh} {H0 : Hp} {Γ : Own} {F : List (V × Cell)} {ρ : Z.Env} {ta tb te : TE} {tz : TS} {D : Ends} {α : Type} [Rp α] [Flat α]
/-- return name -/
theorem wp_retLF {R : FL α → Prop} {p : Addr} {xs : List α} (o : OwnP Δ0 Γ p) (hf : Fin K Δ0 H0 R D) (hr : R ⟨xs⟩) (ho : Ev K (OwnL p xs :: Γ) ta ρ (Is (⟨p⟩ : Loc))) : Wp K Δ0 H0 (OwnL p xs :: Γ) F ρ (tRet ta) D := fun σ H ⟨Δ, s, hh, e, f, e0, s1, s2⟩ =>
  ho Δ σ H _ s hh e fun w H1 b pb e1 r1 => by
    have eb : b = ⟨p⟩ := pb
    subst eb
    have ew : w = .ref p := r1
    subst ew
    obtain ⟨u, hu, iu⟩ := e1.2 p _ (s _ List.mem_cons_self)
    have iu' : u = HO.lst _ := iu
    subst iu'
    exact hf _ H1 ⟨xs⟩ hr (ext0 e0 s1 s2 e1) ⟨p, _, rfl, o.n0, hu, all2_flat xs⟩
end
end Z

set_option Elab.async false
set_option linter.all false
set_option maxRecDepth 100000
set_option maxHeartbeats 1000000
/-! f'{n:b}', and a def of one number that counts its bits, as the key of a sort -/
namespace Zk
open PySem PySem.Spec PyProof.Rows PySem.Builtin
/-- the signs of a number's bits -/
def bitL (n : Nat) : List Nat := (Nat.toDigits 2 n).map Char.toNat
theorem plainF {d : List Nat} (h : d ≠ []) : intField' { align := 62, type := some 98 } false [] d [] 4 = ⟨d.toArray⟩ := by
  cases d with
  | nil => exact absurd rfl h
  | cons c l =>
    have e1 : (0 : Nat) - (l.length + 1) = 0 := by omega
    have e2 : (-1 - 0 - ((l.length + 1 : Nat) : Int)).toNat = 0 := by omega
    have e3 : (-1 - ((l.length : Int) + 1)).toNat = 0 := by omega
    simp [intField', e1, e2, e3]
theorem gives_bits (n : Nat) (t u : Tok) : Gives (Builtin.«int.__format__» ⟨[.int (n : Int) t, .str "b" u], []⟩) (.str ⟨(bitL n).toArray⟩) := by
  have h0 : decide ((n : Int) < 0) = false := by simp
  have hd : (Nat.toDigits 2 n).map Char.toNat ≠ [] := by
    have := tDigits_len_ge 2 n
    intro z
    have z2 := congrArg List.length z
    rw [List.length_map, List.length_nil] at z2
    omega
  intro prog w A R s hq
  unfold Builtin.«int.__format__»
  simp only [selfAndOne, noKeywords, Int.intOfSelf, asInt?, asStr?, List.isEmpty_nil, if_true, pure_bind, bind_assoc, show (Value.str (Str.ofString "b") u == Value.none) = false from rfl, Bool.false_eq_true, if_false]
  refine wpAny_bind (wpAny_typeNameOf (T := "str") (typeIs_str s _ u) (by decide) fun _ => ?_)
  rw [if_neg (by decide), if_neg (by decide)]
  refine wpAny_bind (wpAny_typeNameOfCut_int ?_)
  rw [show Float.parseFormatSpec (Str.ofString "b").cps.toList "int" 62 = Except.ok { align := 62, type := some 98 } from by rfl]
  dsimp only
  show wpAny _ _ (if _ then _ else _) _ _ _
  rw [if_pos (by decide)]
  show wpAny _ _ (retStr (intField' { align := 62, type := some 98 } (decide ((n : Int) < 0)) [] ((Nat.toDigits 2 n).map Char.toNat) [] 4)) _ _ _
  rw [h0, plainF hd]
  exact Gives.tree (.str ⟨(bitL n).toArray⟩) prog w A R s hq
/-- how many bits, as the text tells it -/
def onesI (n : Nat) : Int := Txt.count ⟨(bitL n).toArray⟩ "1"
/-- return f'{x:b}'.count('1') -/
abbrev bitBody (x : Str) (p1 p2 p3 p4 p5 p6 p7 p8 p9 : Pos) (k1 k2 : Nat) : List Stmt :=
  [.Return (some (.Call (.Attribute (.JoinedStr [.FormattedValue (.Name x p1) (-1) (some (.JoinedStr [.Constant (.str "b") k1 p2] p3)) p4] p5) "count" p6) [.Constant (.str "1") k2 p7] [] p8)) p9]
open L2 in
theorem bits_call {P : Program} {w : World} {K : PySem.W.Frag} {A : Around} {s : Shared} {f : Addr} {fd : FuncData} {pa : Arguments} {sc : Scope} {n : Nat} {t : Tok} {x nm : Str} {p1 p2 p3 p4 p5 p6 p7 p8 p9 : Pos} {k1 k2 : Nat}
    (Fd : FunD K nm nm pa (bitBody x p1 p2 p3 p4 p5 p6 p7 p8 p9 k1 k2) sc [] [] f fd) (hk : sc.kind = .function) (hco : sc.isCoroutine = false) (hgen : sc.isGenerator = false) (hx : sc.names.lookup x = some .local) (hline : (p6.endLine == p8.line) = true) (hdb : (x == ("__debug__" : Str)) = false)
    (hb : BindsTo s fd ⟨[.int (n : Int) t], []⟩ [(x, .int (n : Int) t)]) (hK : K.In s.heap) (hlim : s.heap.NoLimit) (hroom : A.depth < recursionLimit) (hz : (bitL n).length ≤ sizeLine) :
    wpAny (model P w) A (call (.ref f) [.int (n : Int) t]) (PySem.W.KeyPure (.int (onesI n)) s) (fun _ _ => False) s := by
  obtain ⟨oc, od, dV, kV, doc, pm, an, cdv, ct, osl, rfl, lk, hcd, _, _⟩ := Fd.ex
  refine wpAny_call ?_
  refine codeAny_call_function hroom (hK _ _ lk) rfl hco hgen rfl (PySem.W.codeRec_of hK hcd) (hb _ _ _ _ ?_)
  refine wpAny_newFunctionEnv_cells hk (fun y hy => .inl ?_) fun env he s1 xx => ?_
  · rw [List.mem_singleton.mp hy]; exact hx
  have hk2 : env.scope.kind = .function := by rw [he]; exact hk
  have hx2 : env.kindOf x = some .local := by rw [he]; exact hx
  clear he
  refine ⟨hlim.keeps xx.toInCall.keep, codeAny_func ?_⟩
  have hm : bindL env.kindOf [(x, Value.int (n : Int) t)] (fun _ => none) x = some (.int (n : Int) t) := by
    unfold bindL bindL
    rw [if_pos hx2, if_pos rfl]
  refine wpAny_execs_cons (wpAny_Return_some ?_)
  refine wpAny_Call_method_late rfl rfl hline rfl ?_
  refine wpAny_JoinedStr_one (wpAny_FormattedValue_spec ?_)
  refine wpAny_Name (wpAny_loadName_local hk2 hx2 xx.toInCall.ns hm ?_) hdb
  refine wpAny_JoinedStr_one (Calls.Constant_str ⟨_, _, rfl, ?_⟩)
  refine wpAny_formatField_spec (T := "int") (idf := "int.__format__") (sp := "b") (x := ⟨(bitL n).toArray⟩) rfl (fun s' => typeIs_int s' _ _) F.slot_int_format F.entry_int_format (fun a b => F.args_int_format_2 _ _) (fun u => gives_bits n t u) ?_ (by decide) hz
  refine ⟨"str", "str.count", F.plainAttrs_str, F.slot_str_count, F.type_str_count, typeIs_str _ _ _, (fun a e => by cases e), ?_⟩
  refine Calls.callWith_builtin rfl (Calls.evalArgs_plain (Calls.spliced_cons (Calls.Constant_str (k := k2) (pos := p7) (Calls.spliced_nil (SC.count ?_)))))
  obtain ⟨h', tk, rfl, kp⟩ := xx.done
  exact ⟨h', _, rfl, kp, .int _ _⟩
end Zk

set_option Elab.async false
set_option linter.all false
set_option maxRecDepth 100000
set_option maxHeartbeats 1000000
/-! sorted(xs, key=f), f a def that counts bits -/
namespace L2
open PySem PySem.Spec PyProof.Rows Zk
section
variable {X : Cx}
def rSortBits (K : PySem.W.Frag) (f : Addr) : List V → List V → Hp → VK → Prop := fun vs zs H Q => ∃ (a : Addr) (ns : List Nat), vs = [V.ref a] ∧ zs = [V.ref f] ∧ SqL K H a (ns.map fun n : Nat => V.int n) ∧ (∀ n ∈ ns, (bitL n).length ≤ sizeLine) ∧
  ∀ (ns' : List Nat) (p : Addr), ns'.Perm ns → ns'.Pairwise (fun x y => onesI x ≤ onesI y) → H p = none → Q (.ref p) (upd H p (.lst (ns'.map fun n : Nat => V.int n)))
def IntOf (v : Value) (n : Nat) : Prop := ∃ t, v = .int (n : Int) t
theorem each_vals : ∀ {ns : List Nat} {us : List Value}, Vals (ns.map fun n : Nat => V.int n) us → PySem.W.EachIs IntOf us ns
  | [], _, .nil => .nil
  | _ :: _, _, .cons r h => .cons r (each_vals h)
theorem vals_each : ∀ {ns : List Nat} {us : List Value}, PySem.W.EachIs IntOf us ns → Vals (ns.map fun n : Nat => V.int n) us
  | [], _, .nil => .nil
  | _ :: _, _, .cons r h => .cons r (vals_each h)
theorem bits_le {a b : Nat} (h : PySem.W.dataLe false (fun n : Nat => PyData.int (onesI n)) a b = true) : onesI a ≤ onesI b := by
  have e : PySem.W.dataLe false (fun n : Nat => PyData.int (onesI n)) a b = !(decide (onesI b < onesI a) || (!decide (onesI a < onesI b) && false)) := rfl
  rw [e] at h
  simp at h
  exact h
theorem cr_sortBits {f : Addr} {fd : FuncData} {pa : Arguments} {sc : Scope} {x nm : Str} {p1 p2 p3 p4 p5 p6 p7 p8 p9 : Pos} {k1 k2 : Nat}
    (Fd : FunD X.K nm nm pa (bitBody x p1 p2 p3 p4 p5 p6 p7 p8 p9 k1 k2) sc [] [] f fd) (hb : Binds X.K fd [x] []) (hk : sc.kind = .function) (hco : sc.isCoroutine = false) (hgen : sc.isGenerator = false) (hx : sc.names.lookup x = some .local) (hline : (p6.endLine == p8.line) = true) (hdb : (x == ("__debug__" : Str)) = false)
    (hr : Room 2 X.A) : CallRK X (.builtin "sorted") [Str.ofString "key"] (rSortBits X.K f) := by
  intro pins s σ H vs zs us ws Q I r rz h
  obtain ⟨a, ns, rfl, rfl, hs, hz, q⟩ := h
  obtain rfl := Vals.ref1 r
  obtain ⟨w1, rfl, e1⟩ := vals1 rz
  obtain rfl : w1 = Value.ref f := e1
  obtain ⟨its, rv, hl, hzz⟩ := I.list hs
  have ev := each_vals rv
  have lim : s.heap.NoLimit := I.ok.mod.nolimit.keeps I.bk
  have dp := hr.dp
  have un := hr.un
  refine PySem.W.sorted_key_data (b := false) (fun n : Nat => PyData.int (onesI n)) hl.isList ev (fun d hd d' hd' => ?_) (.inr fun d hd => ?_) (by rw [List.length_map] at hzz; exact hzz) (fun n _ => ?_) (ksk_s1 _ _) (fun _ => ksk_l1 _ _) (fun y => ksk_t1 f y) (fun v n hv hn h tk kp => ?_) fun out c h' tk kp fresh hD hlen he => ?_
  · obtain ⟨n, _, rfl⟩ := List.mem_map.mp hd
    obtain ⟨n', _, rfl⟩ := List.mem_map.mp hd'
    rfl
  · obtain ⟨n, _, rfl⟩ := List.mem_map.mp hd
    exact ⟨(fun z => by cases z), fun xs z => by cases z⟩
  · show X.A.units + 2 + PyData.depth (.int _) < _
    show X.A.units + 2 + 0 < cLine
    omega
  · obtain ⟨t, rfl⟩ := hv
    have kin : X.K.In h := fun b o e => kp b o (I.kIn b o e)
    exact bits_call Fd hk hco hgen hx hline hdb (by simpa using hb { s with heap := h, toks := tk } [.int (n : Int) t] kin rfl) kin (lim.keeps kp) (by show X.A.depth < _; omega) (hz n hn)
  · have pm := List.mergeSort_perm ns (PySem.W.dataLe false fun n : Nat => PyData.int (onesI n))
    have T := PySem.W.sortLe_total (listOrd itemOrd) false (fun n : Nat => PySem.W.keyToks (PyData.int (onesI n)))
    refine ⟨.ref _, _, I.laid (a := s.heap.objs.size + 1) (o := .lst ((ns.mergeSort (PySem.W.dataLe false fun n : Nat => PyData.int (onesI n))).map fun n : Nat => V.int n)) (t' := tk) kp (Nat.le_succ _) ⟨?_, out, c, vals_each he, hD⟩, rfl, q _ _ pm ?_ (I.hok.fresh (Nat.le_succ _))⟩
    · rw [List.length_map, pm.length_eq]
      rw [List.length_map] at hzz
      exact hzz
    · refine List.Pairwise.imp (fun h => bits_le h) ?_
      exact List.pairwise_mergeSort (fun a b c => T.trans a b c) (fun a b => by simpa using T.total a b) ns
end
end L2

set_option Elab.async false
set_option linter.all false
set_option maxRecDepth 100000
set_option maxHeartbeats 1000000
/-! f'{n:b}' as a rule; how many bits a number has -/
namespace Zk
open PySem PyProof.Rows
/-- how many bits are 1 -/
def pc (n : Nat) : Nat := if h : n = 0 then 0 else n % 2 + pc (n / 2)
termination_by n
decreasing_by omega
theorem pc_zero : pc 0 = 0 := by rw [pc]; rfl
theorem pc_step (n : Nat) : pc n = n % 2 + pc (n / 2) := by
  by_cases h : n = 0
  · subst h
    rw [pc_zero]
  · rw [pc, dif_neg h]
theorem cnt_app (c : Nat) : ∀ (l r : List Nat), cnt c (l ++ r) = cnt c l + cnt c r
  | [], r => by rw [List.nil_append, cnt_nil]; omega
  | n :: l, r => by rw [List.cons_append, cnt_cons, cnt_cons, cnt_app c l r]; omega
theorem cnt_one (d : Nat) (h : d < 2) : cnt 49 [(Nat.digitChar d).toNat] = (d : Int) := by
  rw [cnt_cons, cnt_nil]
  match d, h with
  | 0, _ => decide
  | 1, _ => decide
theorem cnt_bits : ∀ n : Nat, cnt 49 (bitL n) = (pc n : Int) := by
  intro n
  induction n using Nat.strongRecOn with
  | ind n ih =>
    by_cases h : n < 2
    · unfold bitL
      rw [Nat.toDigits_of_lt_base h]
      show cnt 49 [(Nat.digitChar n).toNat] = _
      rw [cnt_one n h]
      match n, h with
      | 0, _ => rw [pc_zero]
      | 1, _ => rw [pc_step, show 1 / 2 = 0 from rfl, pc_zero]
    · have e : bitL n = bitL (n / 2) ++ [(Nat.digitChar (n % 2)).toNat] := by
        unfold bitL
        rw [Nat.toDigits_of_base_le (by omega) (by omega), List.map_append]
        rfl
      rw [e, cnt_app, ih (n / 2) (by omega), cnt_one _ (by omega), pc_step n]
      omega
theorem onesI_pc (n : Nat) : onesI n = (pc n : Int) := by
  unfold onesI
  rw [show (Str.ofString "1" : Str) = ⟨#[49]⟩ from rfl, count_cnt]
  exact cnt_bits n
theorem bitL_len (n k : Nat) (h : n < 2 ^ (k + 1)) : (bitL n).length ≤ k + 1 := by
  induction k generalizing n with
  | zero =>
    have h' : n < 2 := h
    unfold bitL
    rw [Nat.toDigits_of_lt_base h']
    exact Nat.le_refl _
  | succ k ih =>
    by_cases h2 : n < 2
    · unfold bitL
      rw [Nat.toDigits_of_lt_base h2]
      simp
    · have e : bitL n = bitL (n / 2) ++ [(Nat.digitChar (n % 2)).toNat] := by
        unfold bitL
        rw [Nat.toDigits_of_base_le (by omega) (by omega), List.map_append]
        rfl
      rw [e, List.length_append]
      have := ih (n / 2) (by
        have e2 : 2 ^ (k + 1 + 1) = 2 * 2 ^ (k + 1) := by rw [Nat.pow_succ]; omega
        omega)
      show (bitL (n / 2)).length + 1 ≤ _
      omega
/-- what lies within has not more bits, and as many only if it is the same -/
theorem and_half (a b : Nat) (h : a &&& b = a) : (a / 2) &&& (b / 2) = a / 2 := by
  rw [← Nat.and_div_two, h]
theorem pc_sub : ∀ (a b : Nat), a &&& b = a → pc a ≤ pc b ∧ (pc a = pc b → a = b) := by
  intro a
  induction a using Nat.strongRecOn with
  | ind a ih =>
    intro b h
    have hm : (a % 2) &&& (b % 2) = a % 2 := by rw [← Nat.and_mod_two_pow (n := 1), h]
    by_cases ha : a = 0
    · subst ha
      rw [pc_zero]
      refine ⟨Nat.zero_le _, fun e => ?_⟩
      have : ∀ b : Nat, pc b = 0 → b = 0 := by
        intro b
        induction b using Nat.strongRecOn with
        | ind b ih2 =>
          intro e
          rw [pc_step] at e
          by_cases hb : b = 0
          · exact hb
          · have := ih2 (b / 2) (by omega) (by omega)
            omega
      exact (this b e.symm).symm
    · have r := ih (a / 2) (by omega) (b / 2) (and_half a b h)
      rw [pc_step a, pc_step b]
      have h1 : a % 2 ≤ b % 2 := by
        have ha2 : a % 2 < 2 := Nat.mod_lt _ (by decide)
        have hb2 : b % 2 < 2 := Nat.mod_lt _ (by decide)
        generalize a % 2 = x at *
        generalize b % 2 = y at *
        match x, y, ha2, hb2 with
        | 0, _, _, _ => omega
        | 1, 1, _, _ => omega
        | 1, 0, _, _ => exact absurd hm (by decide)
      refine ⟨by omega, fun e => ?_⟩
      have := r.2 (by omega)
      omega
end Zk
namespace L2
open PySem PySem.Spec PyProof.Rows Zk
section
variable {X : Cx}
/-- {n:b}: the bits of a number from 0 on -/
def tFmtB (te : TE) : TE := fun σ H Q => te σ H fun x H1 => ∃ n : Nat, x = .int n ∧ (bitL n).length ≤ sizeLine ∧ Q (.str ⟨(bitL n).toArray⟩) H1
theorem pe_fmtB {e : Expr} {te : TE} {pos p2 p3 : Pos} {k : Nat} (he : PE X e te) : PE X (.FormattedValue e (-1) (some (.JoinedStr [.Constant (.str "b") k p2] p3)) pos) (tFmtB te) := by
  refine ⟨fun pins s σ H Q I h => ?_⟩
  refine wpAny_FormattedValue_spec (thn (he.run pins s σ H _ I h) fun v s1 hv => ?_)
  obtain ⟨x, H1, I1, r1, n, rfl, hz, q⟩ := hv
  obtain ⟨t, rfl⟩ := r1
  refine wpAny_JoinedStr_one (Calls.Constant_str ⟨_, _, rfl, ?_⟩)
  exact wpAny_formatField_spec (T := "int") (idf := "int.__format__") (sp := "b") (x := ⟨(bitL n).toArray⟩) rfl (fun s' => typeIs_int s' _ _) F.slot_int_format F.entry_int_format (fun a b => F.args_int_format_2 _ _) (fun u => gives_bits n t u) ⟨.str ⟨(bitL n).toArray⟩, H1, I1.tok _, ⟨_, rfl⟩, q⟩ (by decide) hz
end
end L2

set_option Elab.async false
set_option linter.all false
set_option maxRecDepth 100000
set_option maxHeartbeats 1000000
/-! loops over a list told by a predicate; a list of one's own lent to an expression; sorted by bits; list({..}) -/
namespace Z
open PySem PySem.Spec PyProof.Rows L2 Zk
section
variable {K : PySem.W.Frag} {Δ0 : Gh} {H0 : Hp} {Γ : Own} {F : List (V × Cell)} {ρ : Z.Env} {ta tb te tl : TE} {t tz : TS} {D : Ends} {α β γ : Type} [Rp α] [Rp β] [Rp γ]
/-- what is walked, told by a datum with P -/
def SrcP (K : PySem.W.Frag) (Γ : Own) (wi : TI) (g : TG) (ρ : Z.Env) (js : List Nat) {β : Type} (P : β → Prop) (n : β → Nat) (st : β → Nat → Z.Env → Z.Env) : Prop :=
  ∀ (Δ : Gh) (σ : L2.St) (H : Hp) (R : It → Hp → Prop), Sat Γ Δ → Hold Δ H → EnvOk K Δ σ H ρ →
    (∀ (b : β) (J : It) (H1 : Hp) (pv : V) (pc : Cell), P b → Ext Δ H H1 → pc.rp K Δ H1 pv →
      (∀ Δ' H2, pc.rp K Δ' H2 pv → (∀ i, i < n b → J.go i H2) ∧ J.stop (n b) H2) →
      (∀ Δ' i H2 x H3, i < n b → Hold Δ' H2 → pc.rp K Δ' H2 pv → J.yld i H2 x H3 → Ext Δ' H2 H3 ∧ ∀ (σ' : L2.St) (ρ' : Z.Env) (Qs : L2.St → Hp → Prop), ρ'.length = ρ.length → EnvOk K Δ' σ' H3 ρ' →
        (∀ σ2 : L2.St, EnvOk K Δ' σ2 H3 (st b i ρ') → σ2.length = σ'.length → (∀ k, k ∉ js → σ2[k]? = σ'[k]?) → Qs σ2 H3) → g x σ' H3 Qs) → R J H1) → wi σ H R
theorem srcP_list [Inhabited α] {j : Nat} {P : List α → Prop} (h : Ev K Γ tl ρ P) (hj : j < ρ.length) : SrcP K Γ (iList K tl) (gName j) ρ [j] P (fun xs => xs.length) (fun xs i ρ => ρ.set j (some ⟨xs.getD i default⟩)) := fun Δ σ H R s hh e k =>
  h Δ σ H _ s hh e fun v H' a pa e1 r => by
    obtain ⟨p, vs, rfl, n, sq, q⟩ := id r
    refine ⟨p, rfl, ⟨vs, sq⟩, k a _ H' (.ref p) ⟨a⟩ pa e1 r (fun Δ' H2 r2 => ?_) fun Δ' i H2 x H3 hi h2 r2 y => ?_⟩
    · obtain ⟨p', ws, e', n', sq', q'⟩ := (show Rp.rp K Δ' H2 (.ref p) a from r2)
      cases e'
      have hl := q'.len
      refine ⟨fun i hi => ⟨ws, ws[i]'(by change i < a.length at hi; omega), sq', List.getElem?_eq_getElem _⟩, ws, sq', by show ws.length ≤ a.length; omega⟩
    · obtain ⟨p', ws, e', n', sq', q'⟩ := (show Rp.rp K Δ' H2 (.ref p) a from r2)
      cases e'
      obtain ⟨rfl, hy⟩ := (show H3 = H2 ∧ ∀ zs, SqL K H2 p zs → zs[i]? = some x from y)
      obtain ⟨w, hw, rw'⟩ := q'.get (y := a.getD i default) (by rw [List.getElem?_eq_getElem hi, List.getD_eq_getElem?_getD, List.getElem?_eq_getElem hi]; rfl)
      have ew : x = w := Option.some.inj ((hy _ sq').symm.trans hw)
      subst ew
      exact ⟨Ext.refl h2, fun σ' ρ' Qs hl e' qq => qq _ (e'.set (c := ⟨a.getD i default⟩) (by rw [hl]; exact hj) rw') (set_off (js := [j]) (List.mem_singleton_self j)).1 (set_off (js := [j]) (List.mem_singleton_self j)).2⟩
/-- a loop over what a predicate tells -/
theorem wp_forP {β : Type} {P : β → Prop} {wi : TI} {g : TG} {js : List Nat} {n : β → Nat} {st : β → Nat → Z.Env → Z.Env} (Iv : β → Nat → Own → Z.Env → Prop) (S : SrcP K Γ wi g ρ js P n st) (h0 : ∀ b, P b → Iv b 0 Γ ρ) (hl : ∀ b i Γ' ρ', Iv b i Γ' ρ' → ρ'.length = ρ.length)
    (hs : ∀ b, P b → ∀ i Γ' ρ' F', i < n b → Iv b i Γ' ρ' → Wp K Δ0 H0 Γ' F' (st b i ρ') t { D with nx := At K Δ0 H0 F' (Iv b) (i + 1), ct := At K Δ0 H0 F' (Iv b) (i + 1), bk := tz D })
    (hd : ∀ b, P b → ∀ Γ' ρ' F', Iv b (n b) Γ' ρ' → Wp K Δ0 H0 Γ' F' ρ' tz D) : Wp K Δ0 H0 Γ F ρ (tSeq (tFor wi g t) tz) D := fun σ H ⟨Δ, s, hh, e, f, e0, s1, s2⟩ =>
  S Δ σ H _ s hh e fun b J H1 pv pc hb e1 rp0 hgo hyld => by
    refine ⟨fun i m σ2 H2 => m = n b - i ∧ i ≤ n b ∧ At K Δ0 H0 ((pv, pc) :: F) (Iv b) i σ2 H2, ⟨n b, by simp, Nat.zero_le _, Γ, ρ, h0 b hb, Δ, s, e1.2, e.mono e1.1, ?_, ext0 e0 s1 s2 e1, s1, s2⟩, ?_⟩
    · intro q hq
      rcases List.mem_cons.mp hq with z | z
      · rw [z]; exact rp0
      · exact q.2.r.mono e1.1 (f q z)
    · rintro i m σ2 H2 ⟨rfl, hi, Γ', ρ', iv, st2⟩
      obtain ⟨Δ', s', hh', e', f', e0', s1', s2'⟩ := id st2
      have rp2 : pc.rp K Δ' H2 pv := f' (pv, pc) List.mem_cons_self
      have hg := hgo Δ' H2 rp2
      by_cases hlt : i < n b
      · refine .inr ⟨hg.1 i hlt, At K Δ0 H0 ((pv, pc) :: F) (Iv b) (i + 1), fun σ3 H3 a => ⟨n b - (i + 1), by omega, rfl, hlt, a⟩, fun x H3 hy => ?_⟩
        obtain ⟨e3, hput⟩ := hyld Δ' i H2 x H3 hlt hh' rp2 hy
        refine hput σ2 ρ' _ (hl b i Γ' ρ' iv) (e'.mono e3.1) fun σ3 env3 _ _ => ?_
        exact hs b hb i Γ' ρ' _ hlt iv σ3 H3 ⟨Δ', s', e3.2, env3, fun q hq => q.2.r.mono e3.1 (f' q hq), ext0 e0' s1' s2' e3, s1', s2'⟩
      · have ei : i = n b := by omega
        subst ei
        exact .inl ⟨hg.2, hd b hb Γ' ρ' _ iv σ2 H2 st2⟩
/-- a list of one's own is lent to an expression with a plain answer -/
theorem ev_lend [Flat α] [Flat γ] {f : Addr} {xs : List α} {i : Nat} {P : γ → Prop} (hne : ∀ q ∈ Γ, q.1 ≠ f) (hi : ρ[i]? = some (some ⟨(⟨f⟩ : Loc)⟩)) (h : Ev K Γ te (ρ.set i (some ⟨xs⟩)) P) : Ev K (OwnL f xs :: Γ) te ρ P := fun Δ σ H Q s hh e k => by
  have hd : Δ f = some (ObIs (.lst (xs.map Flat.val))) := s _ List.mem_cons_self
  obtain ⟨o, ho, io⟩ := hh f _ hd
  have eo : o = .lst (xs.map Flat.val) := io
  subst eo
  have ilt : i < ρ.length := by
    rw [List.getElem?_eq_some_iff] at hi
    exact hi.1
  have s2 : Sat Γ (unOwn Δ f) := fun q hq => by rw [unOwn_ne (hne q hq)]; exact s q (List.mem_cons_of_mem _ hq)
  have h2 : Hold (unOwn Δ f) H := fun a J ha => by
    have ne : a ≠ f := fun z => by rw [z, unOwn_at] at ha; cases ha
    rw [unOwn_ne ne] at ha
    exact hh a J ha
  have wk : ∀ x o', H x = some o' → Δ x = none → unOwn Δ f x = none := fun x o' _ n => by
    by_cases z : x = f
    · rw [z]; exact unOwn_at
    · rw [unOwn_ne z]; exact n
  have e2 : EnvOk K (unOwn Δ f) σ H (ρ.set i (some ⟨xs⟩)) := by
    have e3 := (e.weak wk).set (c := ⟨xs⟩) (v := .ref f) ilt ⟨f, _, rfl, .inl ⟨unOwn_at, .inl ho⟩, .inl (.inl ho), all2_flat xs⟩
    obtain ⟨v, hv, rv⟩ := e.2 i _ hi
    have ev : v = .ref f := rv
    subst ev
    have es : σ.set i (some (.ref f)) = σ := List.ext_getElem? fun j => by
      by_cases hj : i = j
      · subst hj
        rw [List.getElem?_set_self (by rw [e.1]; exact ilt), hv]
      · rw [List.getElem?_set_ne hj]
    rw [es] at e3
    exact e3
  refine h (unOwn Δ f) σ H Q s2 h2 e2 fun v H' a pa ee r => k v H' a pa ⟨fun b o n q => ?_, fun b J hb => ?_⟩ (Flat.iff.mpr (Flat.iff.mp r))
  · exact ee.1 b o (wk b o q n) q
  · by_cases z : b = f
    · subst z
      rw [hd] at hb
      cases hb
      exact ⟨_, ee.1 _ _ unOwn_at ho, rfl⟩
    · exact ee.2 b J (by rw [unOwn_ne z]; exact hb)
abbrev zsI (ms : List Nat) : List Int := ms.map fun i => ((i : Nat) : Int)
/-- sorted(xs, key=f), f the def that counts bits -/
theorem ev_sortBits {f : Addr} {ms : List Nat} (h : Ev K Γ ta ρ (Is (zsI ms))) (hz : ∀ m ∈ ms, (bitL m).length ≤ sizeLine) : Ev K Γ (tCKw (rSortBits K f) (tCons ta tNil) (tCons (tC (.ref f)) tNil)) ρ (fun ys : List Int => ∃ ls : List Nat, ys = zsI ls ∧ ls.Perm ms ∧ ls.Pairwise fun x y => pc x ≤ pc y) := fun Δ σ H Q s hh e k =>
  h Δ σ H _ s hh e fun v H1 a pa e1 r => by
    have ea : a = zsI ms := pa
    subst ea
    obtain ⟨p, vs, rfl, n, sq, q⟩ := r
    have ev := all2_int q
    subst ev
    refine ⟨p, ms, rfl, rfl, ?_, hz, fun ls q hp hw hq => k _ _ (zsI ls) ⟨ls, rfl, hp, hw.imp fun h => ?_⟩ (e1.trans (Ext.new e1.2 hq _)) ?_⟩
    · rw [List.map_map] at sq
      exact sq
    · rw [onesI_pc, onesI_pc] at h
      omega
    · have e3 : (ls.map fun n : Nat => V.int n) = (zsI ls).map Flat.val := by
        rw [List.map_map]
        rfl
      rw [e3]
      exact new_lst e1.2 hq (all2_flat _)
/-- list({..}) of a new dict -/
theorem ev_listN {kvs : List (Key × V)} {κ : Type} [Rp κ] [Flat κ] {xs : List κ} (hk : kvs.map (fun kv => kV kv.1) = xs.map Flat.val) (h : EvN K Γ te ρ (ObIs (.dK kvs))) : Ev K Γ (tCB rListD (tCons te tNil)) ρ (Is xs) := fun Δ σ H Q s hh e k =>
  h Δ σ H _ s hh e fun d H1 o io hd nd e1 ho => by
    have eo : o = .dK kvs := io
    subst eo
    refine ⟨d, kvs, rfl, ho, fun q hq => k _ _ xs rfl (e1.trans (Ext.new e1.2 hq _)) (new_lst e1.2 hq ?_)⟩
    rw [hk]
    exact all2_flat xs
/-- f'{n:b}'.count('1') -/
theorem ev_countBits {m : Nat} (hz : (bitL m).length ≤ sizeLine) (h : Ev K Γ te ρ (Is (m : Int))) : Ev K Γ (tBM K "str" (fun x xs H Q => ∃ a b, x = .str a ∧ xs = [.str b] ∧ Q (.int (Txt.count a b)) H) (tFmtB te) (tCons (tC (.str "1")) tNil)) ρ (Is (pc m : Int)) := fun Δ σ H Q s hh e k =>
  h Δ σ H _ s hh e fun v H1 a pa e1 r => by
    have ea : a = (m : Int) := pa
    subst ea
    have ev : v = .int (m : Int) := r
    subst ev
    refine ⟨m, rfl, hz, rfl, _, _, rfl, rfl, k _ H1 (pc m : Int) rfl e1 ?_⟩
    show V.int (onesI m) = V.int (pc m : Int)
    rw [onesI_pc]
end
end Z

set_option Elab.async false
set_option linter.all false
set_option maxRecDepth 100000
namespace K00
open PySem PySem.Spec PyProof.Rows L2 Z
/-! ### the mathematics -/
/-- sign i of a row -/
def sg (x : Tx) (i : Nat) : Nat := x.s.getD i 0
/-- the row of n signs -/
def mk (n : Nat) (f : Nat → Nat) : Tx := ⟨(List.range n).map f⟩
/-- the places below n with p -/
def ix (n : Nat) (p : Nat → Bool) : List Int := ((List.range n).filter p).map fun i => ((i : Nat) : Int)
theorem sg_at {x : Tx} {i : Nat} (h : i < x.s.length) : x.s[i]? = some (sg x i) := by
  rw [sg, List.getD_eq_getElem?_getD, List.getElem?_eq_getElem h]
  rfl
theorem mk_len {n : Nat} {f : Nat → Nat} : (mk n f).s.length = n := by simp [mk]
theorem mk_sg {n : Nat} {f : Nat → Nat} {i : Nat} (h : i < n) : sg (mk n f) i = f i := by
  simp [sg, mk, List.getD_eq_getElem?_getD, h]
theorem mk_self (x : Tx) : mk x.s.length (sg x) = x := by
  cases x with
  | mk s =>
    unfold mk
    congr 1
    apply List.ext_getElem?
    intro i
    by_cases h : i < s.length
    · simp [h, sg]
    · rw [List.getElem?_eq_none (by simp; omega), List.getElem?_eq_none (by omega)]
theorem mk_congr {n : Nat} {f g : Nat → Nat} (h : ∀ i, i < n → f i = g i) : mk n f = mk n g := by
  unfold mk
  congr 1
  exact List.map_congr_left fun i hi => h i (List.mem_range.mp hi)
theorem ix_congr {n : Nat} {p q : Nat → Bool} (h : ∀ i, i < n → p i = q i) : ix n p = ix n q := by
  unfold ix
  congr 1
  exact List.filter_congr fun i hi => h i (List.mem_range.mp hi)
theorem map_sw (x : Tx) : (⟨x.s.map sw⟩ : Tx) = mk x.s.length fun i => sw (sg x i) := by
  conv => lhs; rw [← mk_self x]
  unfold mk
  rw [List.map_map]
  rfl
theorem flat_mk {n : Nat} {f : Nat → Nat} : (⟨(((List.range n).map fun i => (⟨[f i]⟩ : Tx)).map (·.s)).flatten⟩ : Tx) = mk n f := by
  unfold mk
  congr 1
  induction n with
  | zero => rfl
  | succ n ih => rw [List.range_succ, List.map_append, List.map_append, List.flatten_append, ih, List.map_append]; rfl
theorem flat_len {n : Nat} {f : Nat → Nat} : (((List.range n).map fun i => (⟨[f i]⟩ : Tx)).map (·.s)).flatten.length = n := by
  have h := congrArg (fun t : Tx => t.s.length) (flat_mk (n := n) (f := f))
  simp only [mk_len] at h
  exact h
/-- a row of at most nine signs -/
structure Row (x : Tx) : Prop where
  all : x.s.all isSign = true
  len : x.s.length ≤ 9
theorem Row.sg {x : Tx} (h : Row x) {i : Nat} (hi : i < x.s.length) : isSign (sg x i) = true := List.all_eq_true.mp h.all _ (by
  rw [K00.sg, List.getD_eq_getElem?_getD, List.getElem?_eq_getElem hi]
  exact List.getElem_mem hi)
theorem row_mk {n : Nat} {f : Nat → Nat} (hn : n ≤ 9) (h : ∀ i, i < n → isSign (f i) = true) : Row (mk n f) := ⟨List.all_eq_true.mpr fun c hc => by
  unfold K00.mk at hc
  obtain ⟨i, hi, rfl⟩ := List.mem_map.mp hc
  exact h i (List.mem_range.mp hi), by rw [mk_len]; exact hn⟩
/-- ascending, from l on, below n -/
def ascF (n : Int) : Int → List Int → Bool
  | _, [] => true
  | l, t :: r => (decide (l ≤ t) && decide (t ≤ n - 1)) && ascF n (t + 1) r
theorem ascF_all {n : Int} : ∀ {l : Int} {ts : List Int}, ascF n l ts = true → ∀ t ∈ ts, l ≤ t ∧ t < n
  | _, [], _, t, ht => by cases ht
  | l, t0 :: r, h, t, ht => by
    simp only [ascF, Bool.and_eq_true, decide_eq_true_eq] at h
    rcases List.mem_cons.mp ht with rfl | ht
    · omega
    · have := ascF_all h.2 t ht
      omega
/-- what is asked of the next thing -/
def nextL (l : Int) : List Int → Int
  | [] => l
  | t :: r => nextL (t + 1) r
theorem nextL_snoc (l : Int) : ∀ (ts : List Int) (t : Int), nextL l (ts ++ [t]) = t + 1
  | [], t => rfl
  | a :: r, t => nextL_snoc (a + 1) r t
theorem ascF_snoc (n : Int) : ∀ (l : Int) (ts : List Int) (t : Int), ascF n l (ts ++ [t]) = (ascF n l ts && (decide (nextL l ts ≤ t) && decide (t ≤ n - 1)))
  | l, [], t => by
    show ((decide (l ≤ t) && decide (t ≤ n - 1)) && true) = (true && (decide (l ≤ t) && decide (t ≤ n - 1)))
    rw [Bool.and_true, Bool.true_and]
  | l, a :: r, t => by
    show (_ && ascF n (a + 1) (r ++ [t])) = _
    rw [ascF_snoc n (a + 1) r t, ← Bool.and_assoc]
    rfl
theorem ascF_app {n l : Int} {ts us : List Int} (h : ascF n l ts = false) : ascF n l (ts ++ us) = false := by
  induction ts generalizing l with
  | nil => cases h
  | cons a r ih =>
    show (_ && ascF n (a + 1) (r ++ us)) = false
    have h' : (_ && ascF n (a + 1) r) = false := h
    cases hx : (decide (l ≤ a) && decide (a ≤ n - 1)) with
    | false => rfl
    | true =>
      rw [hx] at h'
      rw [ih h']
      rfl
/-- the code of a row's first i signs -/
def bitAt (i c : Nat) : Nat := if c = 43 then 2 ^ i else if c = 45 then 2 ^ (i + 9) else 0
def codeUp (x : Tx) : Nat → Nat
  | 0 => 0
  | i + 1 => codeUp x i ||| bitAt i (sg x i)
def codeT (x : Tx) : Nat := codeUp x x.s.length
def tcode (c : Nat) : Nat := c / 2 ^ 9 ||| (c &&& 511) * 2 ^ 9
/-- apart at a sign, agreeing there -/
def ap (c d : Nat) : Bool := (!decide (c = 48)) && ((!decide (d = 48)) && !decide (c = d))
def upr (x y : Tx) : Bool := decide (decide (codeT x &&& codeT y = 0) = decide (codeT x &&& tcode (codeT y) = 0))

end K00

set_option Elab.async false
set_option linter.all false
set_option maxRecDepth 100000
set_option maxHeartbeats 1000000
namespace K02
open PySem PySem.Spec PyProof.Rows L2 Z
def top (i : Nat) : Stmt := PySem.Challenge.pw_sidesigns_k02_lots_of_rows.main.body.getD i (.Pass ⟨0, 0, 0, 0⟩)
structure Txt (K : PySem.W.Frag) (mg : Str → Option Value) : Prop where
  z_abs : mg "abs" = none
  z_all : mg "all" = none
  z_any : mg "any" = none
  z_bool : mg "bool" = none
  z_enumerate : mg "enumerate" = none
  z_int : mg "int" = none
  z_isinstance : mg "isinstance" = none
  z_iter : mg "iter" = none
  z_len : mg "len" = none
  z_list : mg "list" = none
  z_max : mg "max" = none
  z_min : mg "min" = none
  z_property : mg "property" = none
  z_range : mg "range" = none
  z_repr : mg "repr" = none
  z_set : mg "set" = none
  z_sorted : mg "sorted" = none
  z_str : mg "str" = none
  z_tuple : mg "tuple" = none
  i_SHIFT : ∃ t, mg "SHIFT" = some (.int 9 t)
  i_LOW : ∃ t, mg "LOW" = some (.int 511 t)
  i_MAX_THINGS : ∃ t, mg "MAX_THINGS" = some (.int 9 t)
/-- a def without defaults -/
structure Df (K : PySem.W.Frag) (mg : Str → Option Value) (x : Str) (st : Stmt) (ps : List Str) (f : Addr) (fd : FuncData) : Prop where
  F : FunD K x x (defArgs st) (defBody st) (defScope st) [] [] f fd
  g : mg x = some (.ref f)
  b : Binds K fd ps []
theorem Df.kp {K : PySem.W.Frag} {mg : Str → Option Value} {x : Str} {st : Stmt} {ps : List Str} {f : Addr} {fd : FuncData} (D : Df K mg x st ps f fd) : PySem.W.keepIn K (.ref f) = true := D.F.kp
/-- a def whose last parameter is None by default -/
structure DfD (K : PySem.W.Frag) (mg : Str → Option Value) (x : Str) (st : Stmt) (ps : List Str) (f : Addr) (fd : FuncData) : Prop where
  F : FunD K x x (defArgs st) (defBody st) (defScope st) [V.non] [] f fd
  g : mg x = some (.ref f)
  b : Binds K fd ps []
  b1 : Binds K fd ps [Value.none]
theorem DfD.kp {K : PySem.W.Frag} {mg : Str → Option Value} {x : Str} {st : Stmt} {ps : List Str} {f : Addr} {fd : FuncData} (D : DfD K mg x st ps f fd) : PySem.W.keepIn K (.ref f) = true := D.F.kp
theorem DfD.v1 {K : PySem.W.Frag} {mg : Str → Option Value} {x : Str} {st : Stmt} {ps : List Str} {f : Addr} {fd : FuncData} (D : DfD K mg x st ps f fd) : Vals [V.non] [Value.none] := .cons rfl .nil
/-- a method -/
structure DfM (K : PySem.W.Frag) (dvs : List V) (x q : Str) (st : Stmt) (ps : List Str) (f : Addr) (fd : FuncData) : Prop where
  F : FunD K x q (defArgs st) (defBody st) (defScope st) dvs [] f fd
  b : Binds K fd ps []
abbrev s__wall : Stmt := top 0
abbrev s_InvalidNumber___init__ : Stmt := inClass (top 6) 0
abbrev s_is_integer : Stmt := top 8
abbrev s_is_between : Stmt := top 9
abbrev s_code_of : Stmt := top 13
abbrev s_mask_of : Stmt := top 14
abbrev s_has_within : Stmt := top 15
abbrev s_least_masks : Stmt := top 16
abbrev s_size_of : Stmt := top 17
abbrev s_turned_signs : Stmt := top 19
abbrev s_is_ascending : Stmt := top 21
abbrev s_is_row : Stmt := top 24
abbrev s_check_many : Stmt := top 25
abbrev s_check_row : Stmt := top 26
abbrev s_check_things : Stmt := top 27
abbrev s_check_any_row : Stmt := top 28
abbrev s_turned : Stmt := top 29
abbrev s_Lot___init__ : Stmt := inClass (top 30) 0
abbrev s_Lot_many : Stmt := inClass (top 30) 1
abbrev s_Lot_rows : Stmt := inClass (top 30) 2
abbrev s_Lot_is_even : Stmt := inClass (top 30) 3
abbrev s_Lot___len__ : Stmt := inClass (top 30) 4
abbrev s_Lot___iter__ : Stmt := inClass (top 30) 5
abbrev s_Lot___contains__ : Stmt := inClass (top 30) 6
abbrev s_Lot___eq__ : Stmt := inClass (top 30) 7
abbrev s_Lot___str__ : Stmt := inClass (top 30) 8
abbrev s_Lot___or__ : Stmt := inClass (top 30) 9
abbrev s_Lot___and__ : Stmt := inClass (top 30) 10
abbrev s_Lot___sub__ : Stmt := inClass (top 30) 11
abbrev s_Lot_least : Stmt := inClass (top 30) 12
abbrev s_Lot_with_turned : Stmt := inClass (top 30) 13
abbrev s_Lot_turned_at : Stmt := inClass (top 30) 14
abbrev s_Lot_layings : Stmt := inClass (top 30) 15
abbrev s_Lot_uprights : Stmt := inClass (top 30) 16
abbrev s__check_alike : Stmt := top 31
abbrev s__law_dice : Stmt := top 33
abbrev s__law_roll : Stmt := top 34
abbrev s__law_pick : Stmt := top 35
abbrev s__law_mixed : Stmt := top 36
abbrev s__law_flip : Stmt := top 37
abbrev s__law_turn : Stmt := top 38
abbrev s__law_turn_at : Stmt := top 39
abbrev s__law_held : Stmt := top 40
abbrev s__law_drawn_row : Stmt := top 41
abbrev s__law_drawn_rows : Stmt := top 42
abbrev s__law_least_rows : Stmt := top 43
abbrev s__law_is_lot_right : Stmt := top 44
abbrev s__law_are_two_right : Stmt := top 45
abbrev s__law_right : Stmt := top 46
abbrev s_law : Stmt := top 47
section
variable {P : Program} {w : World} {K : PySem.W.Frag} {mg : Str → Option Value} {base : Heap}
abbrev Pm (β : Type) := Own → List Cell → (β → Prop) → Prop
def F_is_integer : Pm Bool := fun _ cs R => ∃ i : Int, cs = [⟨i⟩] ∧ R = Is true
theorem sc_is_integer : FnScope ["value"] ["value"] (defScope s_is_integer) := ⟨rfl, rfl, rfl, by decide +kernel, rfl, by decide +kernel, by decide +kernel⟩
theorem ok_is_integer (T : Txt K mg) {f : Addr} {fd : FuncData} (D : Df K mg "is_integer" s_is_integer ["value"] f fd) : FnOk P w K mg base CX0 2 f fd ["value"] (spD K F_is_integer) := by
  obtain ⟨_, hI_SHIFT⟩ := T.i_SHIFT
  obtain ⟨_, hI_LOW⟩ := T.i_LOW
  obtain ⟨_, hI_MAX_THINGS⟩ := T.i_MAX_THINGS
  refine def_ok D.F sc_is_integer (fun Γ cs R g => ?len) (fun cdv A outer s H E hr Γ cs R g => ?_)
  case len => obtain ⟨i, rfl, _⟩ := g; rfl
  obtain ⟨i, rfl, rfl⟩ := g
  refine ⟨_, (pss_one (ps_ret (pe_and (pe_callB call_isK (by rfl) T.z_isinstance (by decide +kernel) (pa_cons (pv 0) (pa_cons (pe_bltn (v := .ty "int") (u := .type "int") (by rfl) T.z_int (by decide +kernel) rfl) pa_nil))) (pe_one (pe_not (pe_callB call_isK (by rfl) T.z_isinstance (by decide +kernel) (pa_cons (pv 0) (pa_cons (pe_bltn (v := .ty "bool") (u := .type "bool") (by rfl) T.z_bool (by decide +kernel) rfl) pa_nil)))))))), fun Δ0 D' hf hn => wp_ret hf ?_⟩
  exact ev_is (ev_andV (ev_isi ev_var ty_int (kit_ty (r := true) (by decide +kernel))) fun _ => ev_notV (ev_isi ev_var ty_int (kit_ty (r := false) (by decide +kernel)))) rfl
def F_is_between : Pm Bool := fun _ cs R => ∃ v l m : Int, cs = [⟨v⟩, ⟨l⟩, ⟨m⟩] ∧ R = Is (decide (l ≤ v) && decide (v ≤ m))
theorem sc_is_between : FnScope ["value", "least", "most"] ["value", "least", "most"] (defScope s_is_between) := ⟨rfl, rfl, rfl, by decide +kernel, rfl, by decide +kernel, by decide +kernel⟩
theorem ok_is_between (T : Txt K mg) {f : Addr} {fd : FuncData} (D : Df K mg "is_between" s_is_between ["value", "least", "most"] f fd) {f_is_integer : Addr} {fd_is_integer : FuncData} (D_is_integer : Df K mg "is_integer" s_is_integer ["value"] f_is_integer fd_is_integer) (G_is_integer : FnOk P w K mg base CX0 2 f_is_integer fd_is_integer ["value"] (spD K F_is_integer)) : FnOk P w K mg base CX0 3 f fd ["value", "least", "most"] (spD K F_is_between) := by
  obtain ⟨_, hI_SHIFT⟩ := T.i_SHIFT
  obtain ⟨_, hI_LOW⟩ := T.i_LOW
  obtain ⟨_, hI_MAX_THINGS⟩ := T.i_MAX_THINGS
  refine def_ok D.F sc_is_between (fun Γ cs R g => ?len) (fun cdv A outer s H E hr Γ cs R g => ?_)
  case len => obtain ⟨v, l, m, rfl, _⟩ := g; rfl
  obtain ⟨v, l, m, rfl, rfl⟩ := g
  refine ⟨_, (pss_one (ps_ret (pe_and (pe_call G_is_integer (hr.mono (by decide)) (by rfl) D_is_integer.g D_is_integer.kp D_is_integer.b .nil pass0 (pa_cons (pv 0) pa_nil)) (pe_one (pe_chain op_le op_le (pv 1) (pv 0) (pv 2)))))), fun Δ0 D' hf hn => wp_ret hf ?_⟩
  exact ev_is (ev_andV (ev_call1 (ea_1 ev_var ea_nil) ⟨v, rfl, rfl⟩) fun _ => ev_chain ev_var ev_var ev_var o2_B0 o2_B0) rfl
def F_is_row : Pm Bool := fun _ cs R => ∃ (x : Tx) (n : Int), cs = [⟨x⟩, ⟨n⟩] ∧ x.s.length ≤ 100000 ∧ R = Is (decide ((x.s.length : Int) = n) && x.s.all isSign)
theorem sc_is_row : FnScope ["value", "many"] ["value", "many"] (defScope s_is_row) := ⟨rfl, rfl, rfl, by decide +kernel, rfl, by decide +kernel, by decide +kernel⟩
theorem ok_is_row (T : Txt K mg) {f : Addr} {fd : FuncData} (D : Df K mg "is_row" s_is_row ["value", "many"] f fd) : FnOk P w K mg base CX0 2 f fd ["value", "many"] (spD K F_is_row) := by
  obtain ⟨_, hI_SHIFT⟩ := T.i_SHIFT
  obtain ⟨_, hI_LOW⟩ := T.i_LOW
  obtain ⟨_, hI_MAX_THINGS⟩ := T.i_MAX_THINGS
  refine def_ok D.F sc_is_row (fun Γ cs R g => ?len) (fun cdv A outer s H E hr Γ cs R g => ?_)
  case len => obtain ⟨x, n, rfl, _⟩ := g; rfl
  obtain ⟨x, n, rfl, hx, rfl⟩ := g
  refine ⟨_, (pss_one (ps_ret (pe_and (pe_callB call_isK (by rfl) T.z_isinstance (by decide +kernel) (pa_cons (pv 0) (pa_cons (pe_bltn (v := .ty "str") (u := .type "str") (by rfl) T.z_str (by decide +kernel) rfl) pa_nil))) (pe_and (pe_cmpR op_eq (pe_callB call_lenK (by rfl) T.z_len (by decide +kernel) (pa_cons (pv 0) pa_nil)) (pv 1) (nomark _)) (pe_one (pe_cmpR op_eq (pe_stripC (pv 0) pe_str) pe_str (nomark _))))))), fun Δ0 D' hf hn => wp_ret hf ?_⟩
  exact ev_is (ev_andV (ev_isi ev_var ty_tx (kit_ty (r := true) (by decide +kernel))) fun _ => ev_andV (ev_op1 (ev_cb ev_var (o1_lenS hx)) (ev_var (i := 1)) o2_eqI) fun _ => ev_stripEq (h := ev_var) (hz := hx)) rfl
def F_check_many : Pm Unit := fun _ cs R => ∃ n : Nat, cs = [⟨(n : Int)⟩] ∧ n ≤ 9 ∧ R = Is ()
theorem sc_check_many : FnScope ["many"] ["many"] (defScope s_check_many) := ⟨rfl, rfl, rfl, by decide +kernel, rfl, by decide +kernel, by decide +kernel⟩
theorem ok_check_many (T : Txt K mg) {f : Addr} {fd : FuncData} (D : Df K mg "check_many" s_check_many ["many"] f fd) {f_is_between : Addr} {fd_is_between : FuncData} (D_is_between : Df K mg "is_between" s_is_between ["value", "least", "most"] f_is_between fd_is_between) (G_is_between : FnOk P w K mg base CX0 3 f_is_between fd_is_between ["value", "least", "most"] (spD K F_is_between)) : FnOk P w K mg base CX0 4 f fd ["many"] (spD K F_check_many) := by
  obtain ⟨_, hI_SHIFT⟩ := T.i_SHIFT
  obtain ⟨_, hI_LOW⟩ := T.i_LOW
  obtain ⟨_, hI_MAX_THINGS⟩ := T.i_MAX_THINGS
  refine def_ok D.F sc_check_many (fun Γ cs R g => ?len) (fun cdv A outer s H E hr Γ cs R g => ?_)
  case len => obtain ⟨n, rfl, _⟩ := g; rfl
  obtain ⟨n, rfl, hn9, rfl⟩ := g
  refine ⟨_, (pss_one (ps_if (pt_not (pt_val (pe_call G_is_between (hr.mono (by decide)) (by rfl) D_is_between.g D_is_between.kp D_is_between.b .nil pass0 (pa_cons (pv 0) (pa_cons pe_int (pa_cons (pe_glob (v := .int 9) rfl hI_MAX_THINGS ⟨_, rfl⟩) pa_nil)))))) (pss_one ps_never) pss_nil)), fun Δ0 D' hf hn => ?_⟩
  refine wp_noL ?_ (et_not (et_B (ev_call1 (ea_1 ev_var (ea_1 ev_int (ea_1 ev_int ea_nil))) ⟨_, _, _, rfl, rfl⟩))) (wp_none rfl hn)
  rw [decide_eq_true (by omega), decide_eq_true (by omega)]
  rfl
end
end K02

set_option Elab.async false
set_option linter.all false
set_option maxRecDepth 100000
set_option maxHeartbeats 1000000
namespace K02
open PySem PySem.Spec PyProof.Rows L2 Z
/-- a lot: its number of signs, its rows as they came (each once), its rows in order -/
structure LotD where
  many : Nat
  known : List Tx
  rows : List Tx
instance : Rp LotD where
  rp K Δ H v L := ∃ x dx d vt, v = .ref x ∧ Δ x = none ∧ H x = some (.ins (He.ga K "Lot") dx [("_many", .int L.many), ("_known", .ref d), ("_rows", vt)]) ∧ Δ d = none ∧ H d = some (.dK (kvT L.known)) ∧ Rp.rp K Δ H vt (⟨L.rows⟩ : Tup Tx)
  mono k h := by
    obtain ⟨x, dx, d, vt, e, n, hx, nd, hd, r⟩ := h
    exact ⟨x, dx, d, vt, e, n, k _ _ n hx, nd, k _ _ nd hd, Rp.mono k r⟩
  weak w h := by
    obtain ⟨x, dx, d, vt, e, n, hx, nd, hd, r⟩ := h
    exact ⟨x, dx, d, vt, e, w _ _ hx n, hx, w _ _ hd nd, hd, Rp.weak w r⟩
/-- the class's facts -/
structure LotT (K : PySem.W.Frag) : Prop where
  cl : Cls K (He.ga K "Lot")
  na_many : NoAttr K (He.ga K "Lot") "_many"
  na_known : NoAttr K (He.ga K "Lot") "_known"
  na_rows : NoAttr K (He.ga K "Lot") "_rows"
  ca : PySem.W.findIn K (.ref (He.ga K "Lot")) "__class__" = some (some (.builtin "object.__class__"))
  cn : PySem.W.specialIn K (.builtin "object.__class__") "__get__" = some (some (.builtin "getset_descriptor.__get__"))
  ct : PySem.W.takesIn K (.builtin "object.__class__") = some true
  cm : PySem.W.mroIn K (He.ga K "Lot") (.type "object") = some true
  lo : Zo.lineOk K (He.ga K "Lot") = true
  ne : PySem.W.findIn K (.ref (He.ga K "Lot")) "__ne__" = some (some (.builtin "object.__ne__"))
  ty : PySem.W.typeIn K (.ref (He.ga K "Lot")) = some (.type "type")
  st : PySem.W.mroIn K (He.ga K "Lot") (.type "str") = some false
section
variable {P : Program} {w : World} {K : PySem.W.Frag} {mg : Str → Option Value} {base : Heap}
theorem getD_of {α : Type} {xs : List α} {d : α} {i : Nat} (h : i < xs.length) : xs[i]? = some (xs.getD i d) := by
  rw [List.getD_eq_getElem?_getD, List.getElem?_eq_getElem h]
  rfl
theorem all_true {α : Type} (xs : List α) : (((xs.filter fun _ => true).map fun _ => true).all id) = true := by
  rw [List.all_eq_true]
  intro b hb
  obtain ⟨_, _, rfl⟩ := List.mem_map.mp hb
  rfl
def F_Lot___init__ : Pm LotD := fun _ cs R => ∃ (n : Nat) (xs : Tup Tx), cs = [⟨(n : Int)⟩, ⟨xs⟩] ∧ n ≤ 9 ∧ (∀ x ∈ xs.l, x.s.length = n ∧ x.s.all isSign = true) ∧ xs.l.length ≤ 50000 ∧ R = fun L => L.many = n ∧ L.known = onceT [] xs.l ∧ SortedT (onceT [] xs.l) L.rows
theorem sc_Lot___init__ : FnScope ["self", "many", "rows", "row"] ["self", "many", "rows"] (defScope s_Lot___init__) := ⟨rfl, rfl, rfl, by decide +kernel, rfl, by decide +kernel, by decide +kernel⟩
theorem ok_Lot___init__ (T : Txt K mg) (CL : LotT K) {f : Addr} {fd : FuncData} {dvs : List V} (D : DfM K dvs "__init__" "Lot.__init__" s_Lot___init__ ["self", "many", "rows"] f fd) {f_check_many : Addr} {fd_check_many : FuncData} (D_check_many : Df K mg "check_many" s_check_many ["many"] f_check_many fd_check_many) (G_check_many : FnOk P w K mg base CX0 4 f_check_many fd_check_many ["many"] (spD K F_check_many)) {f_is_row : Addr} {fd_is_row : FuncData} (D_is_row : Df K mg "is_row" s_is_row ["value", "many"] f_is_row fd_is_row) (G_is_row : FnOk P w K mg base CX0 2 f_is_row fd_is_row ["value", "many"] (spD K F_is_row)) : FnOk P w K mg base CX0 5 f fd ["self", "many", "rows"] (spI K (He.ga K "Lot") F_Lot___init__) := by
  obtain ⟨_, hI_SHIFT⟩ := T.i_SHIFT
  obtain ⟨_, hI_LOW⟩ := T.i_LOW
  obtain ⟨_, hI_MAX_THINGS⟩ := T.i_MAX_THINGS
  refine def_okI D.F sc_Lot___init__ (fun Γ cs R g => ?len) (fun cdv A outer s H E hr Γ cs R g => ?_)
  case len => obtain ⟨n, xs, rfl, _⟩ := g; rfl
  obtain ⟨n, xs, rfl, hn9, hx, hl, rfl⟩ := g
  refine ⟨_, (pss_cons (ps_expr (pe_call G_check_many (hr.mono (by decide)) (by rfl) D_check_many.g D_check_many.kp D_check_many.b .nil pass0 (pa_cons (pv 1) pa_nil)))
      (pss_cons (ps_if (PW.pt (pw_or (pt_not (pt_val (pe_callB call_isK (by rfl) T.z_isinstance (by decide +kernel) (pa_cons (pv 2) (pa_cons (pe_bltn (v := .ty "tuple") (u := .type "tuple") (by rfl) T.z_tuple (by decide +kernel) rfl) pa_nil))))) (pw_or1 (pt_not (pt_val (pe_callB (cr_allK rfl) (by rfl) T.z_all (by decide +kernel) (pa_cons (pe_lc (own := [("row", 3)]) (g := (gName 3)) (tt := tYes) rfl sc_Lot___init__.nd (pi_tupK (pv 2)) (blkOk_by (N := ["self", "many", "rows", "row"]) (sc := defScope s_Lot___init__) (by decide +kernel)) (fun _ _ _ _ _ => (pg_name (i := 3) sc_Lot___init__.nd rfl (by first | exact .inl rfl | exact .inr rfl))) (fun _ _ _ _ _ => pts_nil) (fun _ _ _ _ _ => (pe_call G_is_row (hr.mono (by decide)) (by rfl) D_is_row.g D_is_row.kp D_is_row.b .nil pass0 (pa_cons (pv 3) (pa_cons (pv 1) pa_nil))))) pa_nil))))))) (pss_one ps_never) pss_nil)
      (pss_cons (ps_fld (pv 0) (pv 1) rfl)
      (pss_cons (ps_fld (pv 0) (pe_dc (own := [("row", 3)]) (g := (gName 3)) (tt := tYes) rfl sc_Lot___init__.nd (pi_tupK (pv 2)) (blkOk_by (N := ["self", "many", "rows", "row"]) (sc := defScope s_Lot___init__) (by decide +kernel)) (fun _ _ _ _ _ => (pg_name (i := 3) sc_Lot___init__.nd rfl (by first | exact .inl rfl | exact .inr rfl))) (fun _ _ _ _ _ => pts_nil) (fun _ _ _ _ _ => (pv 3)) (fun _ _ _ _ _ => pe_bl)) rfl)
      (pss_one (ps_fld (pv 0) (pe_callTy call_tupK (by rfl) T.z_tuple (by decide +kernel) (pa_cons (pe_callB cr_sortedT (by rfl) T.z_sorted (by decide +kernel) (pa_cons (pe_callTy (call_list_dK rfl) (by rfl) T.z_list (by decide +kernel) (pa_cons (pe_fldK (pv 0) (by rfl)) pa_nil)) pa_nil)) pa_nil)) rfl)))))), fun Δ0 H0 p dx D' hf ow => ?_⟩
  refine wp_drop (ev_call1 (ea_1 (ev_var (i := 1)) ea_nil) ⟨n, rfl, hn9, rfl⟩) ?_
  have sr : ∀ {Γ' : Own} {ρ : Z.Env} {j : Nat}, ρ[2]? = some (some ⟨xs⟩) → j < ρ.length → Src K Γ' (iTup K (tVar 2)) (gName j) ρ [j] xs.l.length (fun i ρ => ρ.set j (some ⟨xs.l.getD i ⟨[]⟩⟩)) := fun h hj => src_tup (x0 := fun i => xs.l.getD i ⟨[]⟩) (ev_var h) (fun i hi => getD_of hi) hj
  have gx : ∀ {i : Nat} {x : Tx}, xs.l[i]? = some x → xs.l.getD i ⟨[]⟩ = x := fun {i x} h => by
    rw [List.getD_eq_getElem?_getD, h]
    rfl
  refine wp_no (b := false) rfl (et_or (et_not (a := true) (et_B (ev_isi (ev_var (i := 2) (a := xs)) ty_tup (kit_ty (r := true) (by decide +kernel))))) fun _ => et_not (et_B (ev_is (ev_cb (ev_lcD (xs := xs.l) (fun _ => true) (fun _ => true) (sr rfl (ltr rfl)) hl (by decide) fun i x hi => ⟨et_yes, fun _ => ?_⟩) o1_all) (all_true xs.l)))) ?_
  · have e := gx hi
    have hm := hx x (List.mem_of_getElem? hi)
    subst e
    refine ev_is (ev_call1 (ea_1 (ev_var (i := 3)) (ea_1 (ev_var (i := 1)) ea_nil)) ⟨_, _, rfl, by omega, rfl⟩) ?_
    rw [hm.2, hm.1, decide_eq_true rfl]
    rfl
  refine wp_fld CL.cl CL.na_many (by decide) ow (ev_var (i := 1)) (ev_var (i := 0)) fun v a ha => ?_
  refine wp_fldN (I := ObIs (.dK (kvT (onceT [] xs.l)))) CL.cl CL.na_known (ltr rfl) ow (en_dc (xs := xs.l) (sr rfl (ltr rfl)) hl (by decide) (fun i x hi => by have e := gx hi; subst e; exact ev_var (i := 3)) fun i hi => ev_bl) (fun d o _ => ev_var (i := 0)) fun d o io ow2 owd => ?_
  have eo : o = HO.dK (kvT (onceT [] xs.l)) := io
  subst eo
  refine wp_fldL (P := fun t : Tup Tx => SortedT (onceT [] xs.l) t.l) CL.cl CL.na_rows (ltr rfl) ow2 (ev_tupleP (ev_cb (ev_listO (ks := onceT [] xs.l) (d := d) (by simp) (ev_fldO CL.cl CL.na_known List.mem_cons_self (by rfl) (ev_var (i := 0)))) o1_sortedT)) (ev_var (i := 0)) fun v2 t ht => ?_
  refine wp_endI (b := (⟨n, onceT [] xs.l, t.l⟩ : LotD)) hf ⟨rfl, rfl, ht⟩ fun H h1 h2 => ?_
  have ev : v = .int n := by
    have h := h2 (v, ⟨a⟩) (by simp)
    rw [show a = (n : Int) from ha] at h
    exact h
  subst ev
  obtain ⟨o1, ho1, io1⟩ := h1 (p, _) List.mem_cons_self
  obtain ⟨o2, ho2, io2⟩ := h1 (d, _) (List.mem_cons_of_mem _ List.mem_cons_self)
  exact ⟨p, dx, d, v2, rfl, ow.n0, by rw [ho1, show o1 = _ from io1]; rfl, owd.n0, by rw [ho2, show o2 = _ from io2], h2 (v2, ⟨t⟩) List.mem_cons_self⟩
end
end K02

set_option Elab.async false
set_option linter.all false
set_option maxRecDepth 100000
set_option maxHeartbeats 1000000
namespace K02
open PySem PySem.Spec PyProof.Rows L2 Z
section
variable {P : Program} {w : World} {K : PySem.W.Frag} {mg : Str → Option Value} {base : Heap}
theorem isIns_lot : IsIns K (He.ga K "Lot") LotD := fun Δ H v L r => by
  obtain ⟨x, dx, d, vt, e, n, hx, _⟩ := r
  exact ⟨x, dx, _, e, hx⟩
/-- a lot's fields -/
theorem ev_lotMany {Γ : Own} {ρ : Z.Env} {te : TE} {L : LotD} (CL : LotT K) (h : Ev K Γ te ρ (Is L)) : Ev K Γ (tFld K te "_many") ρ (Is (L.many : Int)) := fun Δ σ H Q s hh e k =>
  h Δ σ H _ s hh e fun v H1 a pa e1 r1 => by
    have ea : a = L := pa
    subst ea
    obtain ⟨x, dx, d, vt, rfl, n, hx, nd, hd, r⟩ := r1
    exact ⟨x, _, dx, _, _, rfl, hx, CL.cl, CL.na_many, rfl, k _ H1 _ rfl e1 rfl⟩
theorem ev_lotRows {Γ : Own} {ρ : Z.Env} {te : TE} {L : LotD} (CL : LotT K) (h : Ev K Γ te ρ (Is L)) : Ev K Γ (tFld K te "_rows") ρ (Is (⟨L.rows⟩ : Tup Tx)) := fun Δ σ H Q s hh e k =>
  h Δ σ H _ s hh e fun v H1 a pa e1 r1 => by
    have ea : a = L := pa
    subst ea
    obtain ⟨x, dx, d, vt, rfl, n, hx, nd, hd, r⟩ := r1
    exact ⟨x, _, dx, _, _, rfl, hx, CL.cl, CL.na_rows, rfl, k _ H1 _ rfl e1 r⟩
/-- isinstance(x, Lot), x a lot -/
theorem ev_isLot {Γ : Own} {ρ : Z.Env} {te : TE} {x : LotD} (CL : LotT K) (h : Ev K Γ te ρ (Is x)) : Ev K Γ (tCB (rIsi K) (tCons te (tCons (tC (.ref (He.ga K "Lot"))) tNil))) ρ (Is true) := fun Δ σ H Q s hh e k =>
  h Δ σ H _ s hh e fun v H' a pa e1 r => by
    obtain ⟨p, dx, fs, rfl, hp⟩ := isIns_lot Δ H' v _ r
    exact ⟨.ref p, .ref _, .ref _, .ref _, true, rfl, .own _, .base (.ins hp CL.cl CL.ca CL.cn CL.ct CL.cm), by unfold PySem.W.kitOne; rw [if_pos (by simp)], k _ H' _ rfl e1 rfl⟩
def F_Lot___len__ : Pm Int := fun _ cs R => ∃ L : LotD, cs = [⟨L⟩] ∧ R = Is (L.rows.length : Int)
theorem sc_Lot___len__ : FnScope ["self"] ["self"] (defScope s_Lot___len__) := ⟨rfl, rfl, rfl, by decide +kernel, rfl, by decide +kernel, by decide +kernel⟩
theorem ok_Lot___len__ (T : Txt K mg) (CL : LotT K) {f : Addr} {fd : FuncData} {dvs : List V} (D : DfM K dvs "__len__" "Lot.__len__" s_Lot___len__ ["self"] f fd) : FnOk P w K mg base CX0 2 f fd ["self"] (spD K F_Lot___len__) := by
  obtain ⟨_, hI_SHIFT⟩ := T.i_SHIFT
  obtain ⟨_, hI_LOW⟩ := T.i_LOW
  obtain ⟨_, hI_MAX_THINGS⟩ := T.i_MAX_THINGS
  refine def_ok D.F sc_Lot___len__ (fun Γ cs R g => ?len) (fun cdv A outer s H E hr Γ cs R g => ?_)
  case len => obtain ⟨L, rfl, _⟩ := g; rfl
  obtain ⟨L, rfl, rfl⟩ := g
  refine ⟨_, (pss_one (ps_ret (pe_callB call_lenK (by rfl) T.z_len (by decide +kernel) (pa_cons (pe_fldK (pv 0) (by rfl)) pa_nil)))), fun Δ0 D' hf hn => wp_ret hf (ev_cb (ev_lotRows CL (ev_var (i := 0))) o1_lenT)⟩
theorem kit_not {t : Value} (CL : LotT K) (hne : (t == .ref (He.ga K "Lot")) = false) (hs : PySem.W.subIn K t (.ref (He.ga K "Lot")) = some false) : PySem.W.kitOne K t (.ref (He.ga K "Lot")) = some false := by
  have h1 : (PySem.W.clsIn K (He.ga K "Lot")).isSome = true := by
    have h := CL.cm
    unfold PySem.W.mroIn at h
    cases hc : PySem.W.clsIn K (He.ga K "Lot") with
    | none => rw [hc] at h; cases h
    | some c => rfl
  unfold PySem.W.kitOne
  rw [hne, if_neg Bool.false_ne_true]
  show (if ((PySem.W.clsIn K (He.ga K "Lot")).isSome && PySem.W.typeIn K (.ref (He.ga K "Lot")) == some (.type "type")) = true then PySem.W.subIn K t (.ref (He.ga K "Lot")) else none) = some false
  rw [h1, CL.ty, if_pos (by decide +kernel), hs]
/-- isinstance(x, Lot), x of another kind -/
theorem ev_notLot {Γ : Own} {ρ : Z.Env} {te : TE} {α : Type} [Rp α] {x : α} {t : Value} (CL : LotT K) (h : Ev K Γ te ρ (Is x)) (ty : ∀ Δ H v, Rp.rp K Δ H v x → TyX K H v t) (hne : (t == .ref (He.ga K "Lot")) = false) (hs : PySem.W.subIn K t (.ref (He.ga K "Lot")) = some false) : Ev K Γ (tCB (rIsi K) (tCons te (tCons (tC (.ref (He.ga K "Lot"))) tNil))) ρ (Is false) := fun Δ σ H Q s hh e k =>
  h Δ σ H _ s hh e fun v H' a pa e1 r => by
    have ea : a = x := pa
    subst ea
    exact ⟨v, .ref _, t, .ref _, false, rfl, .own _, ty Δ H' v r, kit_not CL hne hs, k _ H' _ rfl e1 rfl⟩
def F_Lot___eq__ : Pm Bool := fun _ cs R => (∃ L M : LotD, cs = [⟨L⟩, ⟨M⟩] ∧ TOk L.rows ∧ TOk M.rows ∧ R = Is (decide (L.many = M.many) && decide (L.rows = M.rows))) ∨ (∃ L : LotD, cs = [⟨L⟩, ⟨()⟩] ∧ R = Is false) ∨ (∃ (L : LotD) (t : Tup Tx), cs = [⟨L⟩, ⟨t⟩] ∧ R = Is false)
theorem sc_Lot___eq__ : FnScope ["self", "other"] ["self", "other"] (defScope s_Lot___eq__) := ⟨rfl, rfl, rfl, by decide +kernel, rfl, by decide +kernel, by decide +kernel⟩
theorem ok_Lot___eq__ (T : Txt K mg) (CL : LotT K) (CG : mg "Lot" = some (.ref (He.ga K "Lot"))) {f : Addr} {fd : FuncData} {dvs : List V} (D : DfM K dvs "__eq__" "Lot.__eq__" s_Lot___eq__ ["self", "other"] f fd) : FnOk P w K mg base CX0 2 f fd ["self", "other"] (spD K F_Lot___eq__) := by
  obtain ⟨_, hI_SHIFT⟩ := T.i_SHIFT
  obtain ⟨_, hI_LOW⟩ := T.i_LOW
  obtain ⟨_, hI_MAX_THINGS⟩ := T.i_MAX_THINGS
  refine def_ok D.F sc_Lot___eq__ (fun Γ cs R g => ?len) (fun cdv A outer s H E hr Γ cs R g => ?_)
  case len =>
    rcases g with ⟨L, M, rfl, _⟩ | ⟨L, rfl, _⟩ | ⟨L, t, rfl, _⟩
    · rfl
    · rfl
    · rfl
  refine ⟨_, (pss_one (ps_ret (pe_and (pe_callB call_isK (by rfl) T.z_isinstance (by decide +kernel) (pa_cons (pv 1) (pa_cons (pe_glob (v := .ref (He.ga K "Lot")) (u := .ref (He.ga K "Lot")) rfl CG rfl) pa_nil))) (pe_and (pe_cmpR op_eq (pe_fldK (pv 0) (by rfl)) (pe_fldK (pv 1) (by rfl)) (nomark _)) (pe_one (pe_cmpR (op_eqK hr.units) (pe_fldK (pv 0) (by rfl)) (pe_fldK (pv 1) (by rfl)) (nomark _))))))), fun Δ0 D' hf hn => ?_⟩
  rcases g with ⟨L, M, rfl, h1, h2, rfl⟩ | ⟨L, rfl, rfl⟩ | ⟨L, t, rfl, rfl⟩
  · refine wp_ret hf (ev_is (ev_andV (ev_isLot CL (ev_var (i := 1))) fun _ => ev_andV (ev_op1 (ev_lotMany CL (ev_var (i := 0))) (ev_lotMany CL (ev_var (i := 1))) o2_eqI) fun _ => ev_op1 (ev_lotRows CL (ev_var (i := 0))) (ev_lotRows CL (ev_var (i := 1))) (o2_eqTS h1 h2)) ?_)
    rw [Bool.true_and]
    congr 1
    rw [decide_eq_decide]
    omega
  · exact wp_ret hf (ev_is (ev_andV (b := true) (ev_notLot CL (ev_var (i := 1) (a := ())) ty_non (by kernel_rfl) sub_none) fun z => by cases z) rfl)
  · exact wp_ret hf (ev_is (ev_andV (b := true) (ev_notLot CL (ev_var (i := 1) (a := t)) ty_tup (by kernel_rfl) sub_tup) fun z => by cases z) rfl)
theorem Fe1 {Γ : Own} {L M : LotD} (h1 : TOk L.rows) (h2 : TOk M.rows) : F_Lot___eq__ Γ [⟨L⟩, ⟨M⟩] (Is (decide (L.many = M.many) && decide (L.rows = M.rows))) := .inl ⟨L, M, rfl, h1, h2, rfl⟩
theorem Fe2 {Γ : Own} {L : LotD} : F_Lot___eq__ Γ [⟨L⟩, ⟨()⟩] (Is false) := .inr (.inl ⟨L, rfl, rfl⟩)
theorem Fe3 {Γ : Own} {L : LotD} {t : Tup Tx} : F_Lot___eq__ Γ [⟨L⟩, ⟨t⟩] (Is false) := .inr (.inr ⟨L, t, rfl, rfl⟩)
end
end K02

set_option Elab.async false
set_option linter.all false
set_option maxRecDepth 100000
set_option maxHeartbeats 1000000
namespace K02
open PySem PySem.Spec PyProof.Rows L2 Z
section
variable {P : Program} {w : World} {K : PySem.W.Frag} {mg : Str → Option Value} {base : Heap}
def F_Lot_many : Pm Int := fun _ cs R => ∃ L : LotD, cs = [⟨L⟩] ∧ R = Is (L.many : Int)
theorem sc_Lot_many : FnScope ["self"] ["self"] (defScope s_Lot_many) := ⟨rfl, rfl, rfl, by decide +kernel, rfl, by decide +kernel, by decide +kernel⟩
theorem ok_Lot_many (T : Txt K mg) (CL : LotT K) {f : Addr} {fd : FuncData} {dvs : List V} (D : DfM K dvs "many" "Lot.many" s_Lot_many ["self"] f fd) : FnOk P w K mg base CX0 2 f fd ["self"] (spD K F_Lot_many) := by
  obtain ⟨_, hI_SHIFT⟩ := T.i_SHIFT
  obtain ⟨_, hI_LOW⟩ := T.i_LOW
  obtain ⟨_, hI_MAX_THINGS⟩ := T.i_MAX_THINGS
  refine def_ok D.F sc_Lot_many (fun Γ cs R g => ?len) (fun cdv A outer s H E hr Γ cs R g => ?_)
  case len => obtain ⟨L, rfl, _⟩ := g; rfl
  obtain ⟨L, rfl, rfl⟩ := g
  refine ⟨_, (pss_one (ps_ret (pe_fldK (pv 0) (by rfl)))), fun Δ0 D' hf hn => wp_ret hf (ev_lotMany CL (ev_var (i := 0)))⟩
def F_Lot_rows : Pm (Tup Tx) := fun _ cs R => ∃ L : LotD, cs = [⟨L⟩] ∧ R = Is ⟨L.rows⟩
theorem sc_Lot_rows : FnScope ["self"] ["self"] (defScope s_Lot_rows) := ⟨rfl, rfl, rfl, by decide +kernel, rfl, by decide +kernel, by decide +kernel⟩
theorem ok_Lot_rows (T : Txt K mg) (CL : LotT K) {f : Addr} {fd : FuncData} {dvs : List V} (D : DfM K dvs "rows" "Lot.rows" s_Lot_rows ["self"] f fd) : FnOk P w K mg base CX0 2 f fd ["self"] (spD K F_Lot_rows) := by
  obtain ⟨_, hI_SHIFT⟩ := T.i_SHIFT
  obtain ⟨_, hI_LOW⟩ := T.i_LOW
  obtain ⟨_, hI_MAX_THINGS⟩ := T.i_MAX_THINGS
  refine def_ok D.F sc_Lot_rows (fun Γ cs R g => ?len) (fun cdv A outer s H E hr Γ cs R g => ?_)
  case len => obtain ⟨L, rfl, _⟩ := g; rfl
  obtain ⟨L, rfl, rfl⟩ := g
  refine ⟨_, (pss_one (ps_ret (pe_fldK (pv 0) (by rfl)))), fun Δ0 D' hf hn => wp_ret hf (ev_lotRows CL (ev_var (i := 0)))⟩
def F__check_alike : Pm Unit := fun _ cs R => ∃ L M : LotD, cs = [⟨L⟩, ⟨M⟩] ∧ L.many = M.many ∧ R = Is ()
theorem sc__check_alike : FnScope ["one", "other"] ["one", "other"] (defScope s__check_alike) := ⟨rfl, rfl, rfl, by decide +kernel, rfl, by decide +kernel, by decide +kernel⟩
theorem ok__check_alike (T : Txt K mg) (CL : LotT K) {f : Addr} {fd : FuncData} (D : Df K mg "_check_alike" s__check_alike ["one", "other"] f fd) {p_Lot_many f_Lot_many : Addr} {fd_Lot_many : FuncData} (CP_Lot_many : PropOf K (He.ga K "Lot") "many" p_Lot_many f_Lot_many ∧ DfM K [] "many" "Lot.many" s_Lot_many ["self"] f_Lot_many fd_Lot_many) (G_Lot_many : FnOk P w K mg base CX0 2 f_Lot_many fd_Lot_many ["self"] (spD K F_Lot_many)) : FnOk P w K mg base CX0 4 f fd ["one", "other"] (spD K F__check_alike) := by
  obtain ⟨_, hI_SHIFT⟩ := T.i_SHIFT
  obtain ⟨_, hI_LOW⟩ := T.i_LOW
  obtain ⟨_, hI_MAX_THINGS⟩ := T.i_MAX_THINGS
  refine def_ok D.F sc__check_alike (fun Γ cs R g => ?len) (fun cdv A outer s H E hr Γ cs R g => ?_)
  case len => obtain ⟨L, M, rfl, _⟩ := g; rfl
  obtain ⟨L, M, rfl, h, rfl⟩ := g
  refine ⟨_, (pss_one (ps_if (pt_cmpR op_ne (pe_prop (pv 0) CL.cl CP_Lot_many.1 G_Lot_many (hr.mono (by decide)) CP_Lot_many.2.b .nil pass0 rfl) (pe_prop (pv 1) CL.cl CP_Lot_many.1 G_Lot_many (hr.mono (by decide)) CP_Lot_many.2.b .nil pass0 rfl) (nomark _)) (pss_one ps_never) pss_nil)), fun Δ0 D' hf hn => ?_⟩
  refine wp_noL ?_ (et_test (ev_op1 (ev_prop isIns_lot (ev_var (i := 0)) ⟨L, rfl, rfl⟩) (ev_prop isIns_lot (ev_var (i := 1)) ⟨M, rfl, rfl⟩) o2_neI)) (wp_none rfl hn)
  rw [h]
  simp
end
end K02

set_option Elab.async false
set_option linter.all false
set_option maxRecDepth 100000
set_option maxHeartbeats 1000000
namespace K02
open PySem PySem.Spec PyProof.Rows L2 Z
/-- what Lot(n, xs) may be -/
def LotOf (n : Nat) (xs : List Tx) (L : LotD) : Prop := L.many = n ∧ L.known = onceT [] xs ∧ SortedT (onceT [] xs) L.rows
/-- a lot that holds together -/
structure LotOk (L : LotD) : Prop where
  m9 : L.many ≤ 9
  len : L.rows.length ≤ 50000
  rows : ∀ x ∈ L.rows, x.s.length = L.many ∧ x.s.all isSign = true
  known : ∀ x, x ∈ L.known ↔ x ∈ L.rows
section
variable {P : Program} {w : World} {K : PySem.W.Frag} {mg : Str → Option Value} {base : Heap}
theorem valV_kvT {ks : List Tx} {x : Tx} : (valV (kvT ks) (.inr (tS x) : Key)).isSome = decide (x ∈ ks) := by
  induction ks with
  | nil => rfl
  | cons y ks more =>
    by_cases h : y = x
    · subst h
      rw [decide_eq_true List.mem_cons_self]
      show (valV ((.inr (tS y), .bl true) :: kvT ks) _).isSome = true
      rw [valV_pos rfl]
      rfl
    · have hne : ¬ ((.inr (tS y), .bl true) : Key × V).1 = .inr (tS x) := fun z => h (tS_inj.mp (Sum.inr.inj z))
      show (valV ((.inr (tS y), .bl true) :: kvT ks) _).isSome = _
      rw [valV_neg hne, more]
      rw [decide_eq_decide, List.mem_cons]
      constructor
      · exact Or.inr
      · rintro (z | z)
        · exact absurd z.symm h
        · exact z
/-- row not in lot._known -/
theorem et_notKnown {Γ : Own} {ρ : Z.Env} {ta tb : TE} {x : Tx} {L : LotD} (CL : LotT K) (ha : Ev K Γ ta ρ (Is x)) (hb : Ev K Γ tb ρ (Is L)) : EvT K Γ (tB (tDNotIn ta (tFld K tb "_known"))) ρ (Is (!decide (x ∈ L.known))) := fun Δ σ H Q s hh e k =>
  ha Δ σ H _ s hh e fun v H1 a pa e1 r1 => hb Δ σ H1 _ s e1.2 (e.mono e1.1) fun u H2 b pb e2 r2 => by
    have ea : a = x := pa
    have eb : b = L := pb
    subst ea eb
    have ev : v = .str (tS a) := r1
    subst ev
    obtain ⟨p, dx, d, vt, rfl, n, hx, nd, hd, r⟩ := r2
    refine ⟨p, _, dx, _, .ref d, rfl, hx, CL.cl, CL.na_known, rfl, d, valV (kvT b.known) (.inr (tS a)), rfl, DGet.k (k := .inr (tS a)) hd, ?_⟩
    exact ⟨_, rfl, k _ H2 (by rw [valV_kvT]; rfl) (e1.trans e2)⟩
theorem ev_known {Γ : Own} {ρ : Z.Env} {ta tb : TE} {x : Tx} {L : LotD} (CL : LotT K) (ha : Ev K Γ ta ρ (Is x)) (hb : Ev K Γ tb ρ (Is L)) : Ev K Γ (tDIn ta (tFld K tb "_known")) ρ (Is (decide (x ∈ L.known))) := fun Δ σ H Q s hh e k =>
  ha Δ σ H _ s hh e fun v H1 a pa e1 r1 => hb Δ σ H1 _ s e1.2 (e.mono e1.1) fun u H2 b pb e2 r2 => by
    have ea : a = x := pa
    have eb : b = L := pb
    subst ea eb
    have ev : v = .str (tS a) := r1
    subst ev
    obtain ⟨p, dx, d, vt, rfl, n, hx, nd, hd, r⟩ := r2
    exact ⟨p, _, dx, _, .ref d, rfl, hx, CL.cl, CL.na_known, rfl, d, valV (kvT b.known) (.inr (tS a)), rfl, DGet.k (k := .inr (tS a)) hd, k _ H2 _ (show decide (a ∈ b.known) = decide (a ∈ b.known) from rfl) (e1.trans e2) (by rw [valV_kvT]; rfl)⟩
theorem et_known {Γ : Own} {ρ : Z.Env} {ta tb : TE} {x : Tx} {L : LotD} (CL : LotT K) (ha : Ev K Γ ta ρ (Is x)) (hb : Ev K Γ tb ρ (Is L)) : EvT K Γ (tB (tDIn ta (tFld K tb "_known"))) ρ (Is (decide (x ∈ L.known))) := et_B (ev_known CL ha hb)
/-- what is no text, among the values asked -/
def Odd (K : PySem.W.Frag) (Δ : Gh) (H : Hp) (v : V) : Prop := v = .non ∨ (∃ i : Int, v = .int i) ∨ (∃ t : Tup Tx, Rp.rp K Δ H v t) ∨ (∃ t : List Tx, Rp.rp K Δ H v t) ∨ (∃ p, v = .ref p ∧ Δ p = none ∧ H p = some (.dK [])) ∨ ∃ L : LotD, Rp.rp K Δ H v L
theorem Odd.mono {Δ : Gh} {H H' : Hp} {v : V} (k : Keep Δ H H') (h : Odd K Δ H v) : Odd K Δ H' v := by
  rcases h with h | h | ⟨t, h⟩ | ⟨t, h⟩ | ⟨p, h, n, e⟩ | ⟨L, h⟩
  · exact .inl h
  · exact .inr (.inl h)
  · exact .inr (.inr (.inl ⟨t, Rp.mono k h⟩))
  · exact .inr (.inr (.inr (.inl ⟨t, Rp.mono k h⟩)))
  · exact .inr (.inr (.inr (.inr (.inl ⟨p, h, n, k _ _ n e⟩))))
  · exact .inr (.inr (.inr (.inr (.inr ⟨L, Rp.mono k h⟩))))
theorem Odd.weak {Δ Δ' : Gh} {H : Hp} {v : V} (w : ∀ x o, H x = some o → Δ x = none → Δ' x = none) (h : Odd K Δ H v) : Odd K Δ' H v := by
  rcases h with h | h | ⟨t, h⟩ | ⟨t, h⟩ | ⟨p, h, n, e⟩ | ⟨L, h⟩
  · exact .inl h
  · exact .inr (.inl h)
  · exact .inr (.inr (.inl ⟨t, Rp.weak w h⟩))
  · exact .inr (.inr (.inr (.inl ⟨t, Rp.weak w h⟩)))
  · exact .inr (.inr (.inr (.inr (.inl ⟨p, h, w _ _ e n, e⟩))))
  · exact .inr (.inr (.inr (.inr (.inr ⟨L, Rp.weak w h⟩))))
/-- a text, or another value -/
structure AnyD where
  x : Option Tx
instance : Rp AnyD where
  rp K Δ H v a := match a.x with
    | some x => v = .str (tS x)
    | none => Odd K Δ H v
  mono {K Δ H H' v a} k h := match a, h with
    | ⟨some _⟩, h => h
    | ⟨none⟩, h => Odd.mono k h
  weak {K Δ Δ' H v a} w h := match a, h with
    | ⟨some _⟩, h => h
    | ⟨none⟩, h => Odd.weak w h
theorem odd_ty {Δ : Gh} {H : Hp} {v : V} (CL : LotT K) (h : Odd K Δ H v) : ∃ t, TyX K H v t ∧ PySem.W.kitOne K t (.type "str") = some false := by
  rcases h with rfl | ⟨i, rfl⟩ | ⟨t, h⟩ | ⟨t, h⟩ | ⟨p, rfl, n, e⟩ | ⟨L, h⟩
  · exact ⟨_, .base .non, kit_ty (r := false) (by decide +kernel)⟩
  · exact ⟨_, .base (.int i), kit_ty (r := false) (by decide +kernel)⟩
  · exact ⟨_, ty_tup Δ H v h, kit_ty (r := false) (by decide +kernel)⟩
  · exact ⟨_, ty_list Δ H v h, kit_ty (r := false) (by decide +kernel)⟩
  · exact ⟨_, .base (.dK e), kit_ty (r := false) (by decide +kernel)⟩
  · obtain ⟨p, dx, fs, rfl, hp⟩ := isIns_lot Δ H v _ h
    refine ⟨_, .base (.ins hp CL.cl CL.ca CL.cn CL.ct CL.cm), ?_⟩
    have e1 : (Value.ref (He.ga K "Lot") == Value.type "str") = false := by kernel_rfl
    unfold PySem.W.kitOne
    rw [e1, if_neg Bool.false_ne_true]
    show (if PySem.W.kitMeta "str" = true then PySem.W.mroIn K (He.ga K "Lot") (.type "str") else none) = some false
    rw [if_pos (by decide +kernel), CL.st]
theorem ev_isAny {Γ : Own} {ρ : Z.Env} {te : TE} {a : AnyD} (CL : LotT K) (h : Ev K Γ te ρ (Is a)) : Ev K Γ (tCB (rIsi K) (tCons te (tCons (tC (.ty "str")) tNil))) ρ (Is a.x.isSome) := fun Δ σ H Q s hh e k =>
  h Δ σ H _ s hh e fun v H' b pb e1 r => by
    have eb : b = a := pb
    subst eb
    match b, r with
    | ⟨some x⟩, r =>
      have ev : v = .str (tS x) := r
      subst ev
      exact ⟨_, .ty "str", _, .type "str", true, rfl, .ty _, .base (.str _), kit_ty (r := true) (by decide +kernel), k _ H' _ rfl e1 rfl⟩
    | ⟨none⟩, r =>
      obtain ⟨t, ht, hk⟩ := odd_ty CL (show Odd K Δ H' v from r)
      exact ⟨v, .ty "str", t, .type "str", false, rfl, .ty _, ht, hk, k _ H' _ rfl e1 rfl⟩
theorem ev_anyTx {Γ : Own} {ρ : Z.Env} {te : TE} {x : Tx} (h : Ev K Γ te ρ (Is (⟨some x⟩ : AnyD))) : Ev K Γ te ρ (Is x) := fun Δ σ H Q s hh e k =>
  h Δ σ H _ s hh e fun v H' b pb e1 r => by
    have eb : b = ⟨some x⟩ := pb
    subst eb
    exact k v H' x rfl e1 r
def F_Lot___contains__ : Pm Bool := fun _ cs R => ∃ (L : LotD) (a : AnyD), cs = [⟨L⟩, ⟨a⟩] ∧ R = Is (match a.x with
  | some x => decide (x ∈ L.known)
  | none => false)
theorem sc_Lot___contains__ : FnScope ["self", "x"] ["self", "x"] (defScope s_Lot___contains__) := ⟨rfl, rfl, rfl, by decide +kernel, rfl, by decide +kernel, by decide +kernel⟩
theorem ok_Lot___contains__ (T : Txt K mg) (CL : LotT K) {f : Addr} {fd : FuncData} {dvs : List V} (D : DfM K dvs "__contains__" "Lot.__contains__" s_Lot___contains__ ["self", "x"] f fd) : FnOk P w K mg base CX0 2 f fd ["self", "x"] (spD K F_Lot___contains__) := by
  obtain ⟨_, hI_SHIFT⟩ := T.i_SHIFT
  obtain ⟨_, hI_LOW⟩ := T.i_LOW
  obtain ⟨_, hI_MAX_THINGS⟩ := T.i_MAX_THINGS
  refine def_ok D.F sc_Lot___contains__ (fun Γ cs R g => ?len) (fun cdv A outer s H E hr Γ cs R g => ?_)
  case len => obtain ⟨L, x, rfl, _⟩ := g; rfl
  obtain ⟨L, a, rfl, rfl⟩ := g
  refine ⟨_, (pss_one (ps_ret (pe_and (pe_callB call_isK (by rfl) T.z_isinstance (by decide +kernel) (pa_cons (pv 1) (pa_cons (pe_bltn (v := .ty "str") (u := .type "str") (by rfl) T.z_str (by decide +kernel) rfl) pa_nil))) (pe_one (pe_cmp (pc_din (by exact hu_of hr) (pv 1) (by exact (pe_fldK (pv 0) (by rfl)))) (by rfl)))))), fun Δ0 D' hf hn => wp_ret hf ?_⟩
  match a with
  | ⟨some x⟩ => exact ev_is (ev_andV (ev_isAny CL (ev_var (i := 1) (a := (⟨some x⟩ : AnyD)))) fun _ => ev_known CL (ev_anyTx (ev_var (i := 1))) (ev_var (i := 0))) (Bool.true_and _)
  | ⟨none⟩ => exact ev_is (ev_andV (b := true) (ev_isAny CL (ev_var (i := 1) (a := (⟨none⟩ : AnyD)))) fun z => by cases z) rfl
def F_Lot___and__ : Pm LotD := fun _ cs R => ∃ L M : LotD, cs = [⟨L⟩, ⟨M⟩] ∧ LotOk L ∧ L.many = M.many ∧ R = LotOf L.many (L.rows.filter fun x => decide (x ∈ M.known))
theorem sc_Lot___and__ : FnScope ["self", "other", "row"] ["self", "other"] (defScope s_Lot___and__) := ⟨rfl, rfl, rfl, by decide +kernel, rfl, by decide +kernel, by decide +kernel⟩
theorem ok_Lot___and__ (T : Txt K mg) (CL : LotT K) (CG : mg "Lot" = some (.ref (He.ga K "Lot"))) {f : Addr} {fd : FuncData} {dvs : List V} (D : DfM K dvs "__and__" "Lot.__and__" s_Lot___and__ ["self", "other"] f fd) {f__check_alike : Addr} {fd__check_alike : FuncData} (D__check_alike : Df K mg "_check_alike" s__check_alike ["one", "other"] f__check_alike fd__check_alike) (G__check_alike : FnOk P w K mg base CX0 4 f__check_alike fd__check_alike ["one", "other"] (spD K F__check_alike)) {f_Lot___init__ : Addr} {fd_Lot___init__ : FuncData} {dv_Lot___init__ : List V} (CP_Lot : Mk K (He.ga K "Lot") f_Lot___init__ ∧ DfM K dv_Lot___init__ "__init__" "Lot.__init__" s_Lot___init__ ["self", "many", "rows"] f_Lot___init__ fd_Lot___init__) (G_Lot___init__ : FnOk P w K mg base CX0 5 f_Lot___init__ fd_Lot___init__ ["self", "many", "rows"] (spI K (He.ga K "Lot") F_Lot___init__)) : FnOk P w K mg base CX0 7 f fd ["self", "other"] (spD K F_Lot___and__) := by
  obtain ⟨_, hI_SHIFT⟩ := T.i_SHIFT
  obtain ⟨_, hI_LOW⟩ := T.i_LOW
  obtain ⟨_, hI_MAX_THINGS⟩ := T.i_MAX_THINGS
  refine def_ok D.F sc_Lot___and__ (fun Γ cs R g => ?len) (fun cdv A outer s H E hr Γ cs R g => ?_)
  case len => obtain ⟨L, M, rfl, _⟩ := g; rfl
  obtain ⟨L, M, rfl, hL, hm, rfl⟩ := g
  refine ⟨_, (pss_cons (ps_if (pt_not (pt_val (pe_callB call_isK (by rfl) T.z_isinstance (by decide +kernel) (pa_cons (pv 1) (pa_cons (pe_glob (v := .ref (He.ga K "Lot")) (u := .ref (He.ga K "Lot")) rfl CG rfl) pa_nil))))) (pss_one ps_never) pss_nil)
      (pss_cons (ps_expr (pe_call G__check_alike (hr.mono (by decide)) (by rfl) D__check_alike.g D__check_alike.kp D__check_alike.b .nil pass0 (pa_cons (pv 0) (pa_cons (pv 1) pa_nil))))
      (pss_one (ps_ret (pe_make CP_Lot.1 G_Lot___init__ (hr.mono (by decide)) (by rfl) CG CP_Lot.2.b .nil pass0 (pa_cons (pe_fldK (pv 0) (by rfl)) (pa_cons (pe_callTy call_tupK (by rfl) T.z_tuple (by decide +kernel) (pa_cons (pe_lc (own := [("row", 2)]) (g := (gName 2)) (tt := _) rfl sc_Lot___and__.nd (pi_tupK (pe_fldK (pv 0) (by rfl))) (blkOk_by (N := ["self", "other", "row"]) (sc := defScope s_Lot___and__) (by decide +kernel)) (fun _ _ _ _ _ => (pg_name (i := 2) sc_Lot___and__.nd rfl (by first | exact .inl rfl | exact .inr rfl))) (fun _ _ _ _ _ => (pts_one (pt_cmp (pc_din (by exact hu_of hr) (pv 2) (by exact (pe_fldK (pv 1) (by rfl)))) (by rfl)))) (fun _ _ _ _ _ => (pv 2))) pa_nil)) pa_nil))))))), fun Δ0 D' hf hn => ?_⟩
  refine wp_no (b := false) rfl (et_not (a := true) (et_B (ev_isLot CL (ev_var (i := 1) (a := M))))) ?_
  refine wp_drop (ev_call1 (ea_1 (ev_var (i := 0)) (ea_1 (ev_var (i := 1)) ea_nil)) ⟨L, M, rfl, hm, rfl⟩) ?_
  have gx : ∀ {i : Nat} {x : Tx}, L.rows[i]? = some x → L.rows.getD i ⟨[]⟩ = x := fun {i x} h => by
    rw [List.getD_eq_getElem?_getD, h]
    rfl
  have hc := ev_lcD (K := K) (Γ := Γ) (xs := L.rows) (fun x => decide (x ∈ M.known)) (fun x => x) (src_tup (x0 := fun i => L.rows.getD i ⟨[]⟩) (ev_lotRows CL (ev_var (ρ := env0 ["self", "other", "row"] [⟨L⟩, ⟨M⟩]) (i := 0) (a := L))) (fun i hi => getD_of hi) (j := 2) (ltr rfl)) hL.len (vs := [2]) (by decide) fun i x hi => ⟨et_known (x := x) CL (by rw [← gx hi]; exact ev_var (i := 2)) (ev_var (i := 1) (a := M)), fun _ => by rw [← gx hi]; exact ev_var (i := 2)⟩
  rw [show (fun x : Tx => x) = id from rfl, List.map_id] at hc
  refine wp_ret hf (ev_make (dcs := []) (fun _ _ => trivial) (ea_1 (ev_lotMany CL (ev_var (i := 0))) (ea_1 (ev_cb hc o1_tuple) ea_nil)) ⟨L.many, ⟨_⟩, rfl, hL.m9, fun x hx => hL.rows x (List.mem_filter.mp hx).1, Nat.le_trans (List.length_filter_le _ _) hL.len, rfl⟩)
def F_Lot___sub__ : Pm LotD := fun _ cs R => ∃ L M : LotD, cs = [⟨L⟩, ⟨M⟩] ∧ LotOk L ∧ L.many = M.many ∧ R = LotOf L.many (L.rows.filter fun x => !decide (x ∈ M.known))
theorem sc_Lot___sub__ : FnScope ["self", "other", "row"] ["self", "other"] (defScope s_Lot___sub__) := ⟨rfl, rfl, rfl, by decide +kernel, rfl, by decide +kernel, by decide +kernel⟩
theorem ok_Lot___sub__ (T : Txt K mg) (CL : LotT K) (CG : mg "Lot" = some (.ref (He.ga K "Lot"))) {f : Addr} {fd : FuncData} {dvs : List V} (D : DfM K dvs "__sub__" "Lot.__sub__" s_Lot___sub__ ["self", "other"] f fd) {f__check_alike : Addr} {fd__check_alike : FuncData} (D__check_alike : Df K mg "_check_alike" s__check_alike ["one", "other"] f__check_alike fd__check_alike) (G__check_alike : FnOk P w K mg base CX0 4 f__check_alike fd__check_alike ["one", "other"] (spD K F__check_alike)) {f_Lot___init__ : Addr} {fd_Lot___init__ : FuncData} {dv_Lot___init__ : List V} (CP_Lot : Mk K (He.ga K "Lot") f_Lot___init__ ∧ DfM K dv_Lot___init__ "__init__" "Lot.__init__" s_Lot___init__ ["self", "many", "rows"] f_Lot___init__ fd_Lot___init__) (G_Lot___init__ : FnOk P w K mg base CX0 5 f_Lot___init__ fd_Lot___init__ ["self", "many", "rows"] (spI K (He.ga K "Lot") F_Lot___init__)) : FnOk P w K mg base CX0 7 f fd ["self", "other"] (spD K F_Lot___sub__) := by
  obtain ⟨_, hI_SHIFT⟩ := T.i_SHIFT
  obtain ⟨_, hI_LOW⟩ := T.i_LOW
  obtain ⟨_, hI_MAX_THINGS⟩ := T.i_MAX_THINGS
  refine def_ok D.F sc_Lot___sub__ (fun Γ cs R g => ?len) (fun cdv A outer s H E hr Γ cs R g => ?_)
  case len => obtain ⟨L, M, rfl, _⟩ := g; rfl
  obtain ⟨L, M, rfl, hL, hm, rfl⟩ := g
  refine ⟨_, (pss_cons (ps_if (pt_not (pt_val (pe_callB call_isK (by rfl) T.z_isinstance (by decide +kernel) (pa_cons (pv 1) (pa_cons (pe_glob (v := .ref (He.ga K "Lot")) (u := .ref (He.ga K "Lot")) rfl CG rfl) pa_nil))))) (pss_one ps_never) pss_nil)
      (pss_cons (ps_expr (pe_call G__check_alike (hr.mono (by decide)) (by rfl) D__check_alike.g D__check_alike.kp D__check_alike.b .nil pass0 (pa_cons (pv 0) (pa_cons (pv 1) pa_nil))))
      (pss_one (ps_ret (pe_make CP_Lot.1 G_Lot___init__ (hr.mono (by decide)) (by rfl) CG CP_Lot.2.b .nil pass0 (pa_cons (pe_fldK (pv 0) (by rfl)) (pa_cons (pe_callTy call_tupK (by rfl) T.z_tuple (by decide +kernel) (pa_cons (pe_lc (own := [("row", 2)]) (g := (gName 2)) (tt := _) rfl sc_Lot___sub__.nd (pi_tupK (pe_fldK (pv 0) (by rfl))) (blkOk_by (N := ["self", "other", "row"]) (sc := defScope s_Lot___sub__) (by decide +kernel)) (fun _ _ _ _ _ => (pg_name (i := 2) sc_Lot___sub__.nd rfl (by first | exact .inl rfl | exact .inr rfl))) (fun _ _ _ _ _ => (pts_one (pt_cmp (pc_dnotin (by exact hu_of hr) (pv 2) (by exact (pe_fldK (pv 1) (by rfl)))) (by rfl)))) (fun _ _ _ _ _ => (pv 2))) pa_nil)) pa_nil))))))), fun Δ0 D' hf hn => ?_⟩
  refine wp_no (b := false) rfl (et_not (a := true) (et_B (ev_isLot CL (ev_var (i := 1) (a := M))))) ?_
  refine wp_drop (ev_call1 (ea_1 (ev_var (i := 0)) (ea_1 (ev_var (i := 1)) ea_nil)) ⟨L, M, rfl, hm, rfl⟩) ?_
  have hc := ev_lcD (K := K) (Γ := Γ) (xs := L.rows) (fun x => !decide (x ∈ M.known)) (fun x => x) (src_tup (x0 := fun i => L.rows.getD i ⟨[]⟩) (ev_lotRows CL (ev_var (ρ := env0 ["self", "other", "row"] [⟨L⟩, ⟨M⟩]) (i := 0) (a := L))) (fun i hi => getD_of hi) (j := 2) (ltr rfl)) hL.len (vs := [2]) (by decide) fun i x hi => ⟨et_notKnown (x := x) CL (by
      have e : L.rows.getD i ⟨[]⟩ = x := by
        rw [List.getD_eq_getElem?_getD, hi]
        rfl
      rw [← e]
      exact ev_var (i := 2)) (ev_var (i := 1) (a := M)), fun _ => by
      have e : L.rows.getD i ⟨[]⟩ = x := by
        rw [List.getD_eq_getElem?_getD, hi]
        rfl
      rw [← e]
      exact ev_var (i := 2)⟩
  rw [show (fun x : Tx => x) = id from rfl, List.map_id] at hc
  refine wp_ret hf (ev_make (dcs := []) (fun _ _ => trivial) (ea_1 (ev_lotMany CL (ev_var (i := 0))) (ea_1 (ev_cb hc o1_tuple) ea_nil)) ⟨L.many, ⟨_⟩, rfl, hL.m9, fun x hx => hL.rows x (List.mem_filter.mp hx).1, Nat.le_trans (List.length_filter_le _ _) hL.len, rfl⟩)
end
end K02

set_option Elab.async false
set_option linter.all false
set_option maxRecDepth 100000
set_option maxHeartbeats 1000000
namespace K02
open PySem PySem.Spec PyProof.Rows L2 Z K00
section
variable {P : Program} {w : World} {K : PySem.W.Frag} {mg : Str → Option Value} {base : Heap}
theorem len_le {x : Tx} (h : Row x) : x.s.length ≤ 100000 := Nat.le_trans h.len (by decide)
theorem or_nn (m n : Nat) : Builtin.bitOr (m : Int) (n : Int) = ((m ||| n : Nat) : Int) := by rw [Bits.bitOr_pp (Int.natCast_nonneg m) (Int.natCast_nonneg n), Int.toNat_natCast, Int.toNat_natCast]
theorem and_nn (m n : Nat) : Builtin.bitAnd (m : Int) (n : Int) = ((m &&& n : Nat) : Int) := by
  rw [bitAnd_pp (Int.natCast_nonneg m) (Int.natCast_nonneg n), Int.toNat_natCast, Int.toNat_natCast]
abbrev IvC (Γ : Own) (x : Tx) : Nat → Own → Z.Env → Prop := fun i Γ' ρ' => Γ' = Γ ∧ ∃ a b, ρ' = [some ⟨x⟩, some ⟨((codeUp x i : Nat) : Int)⟩, a, b]
def F_code_of : Pm Int := fun _ cs R => ∃ x : Tx, cs = [⟨x⟩] ∧ x.s.length ≤ 9 ∧ R = Is ((codeT x : Nat) : Int)
theorem sc_code_of : FnScope ["row", "code", "thing", "sign"] ["row"] (defScope s_code_of) := ⟨rfl, rfl, rfl, by decide +kernel, rfl, by decide +kernel, by decide +kernel⟩
theorem ok_code_of (T : Txt K mg) {f : Addr} {fd : FuncData} (D : Df K mg "code_of" s_code_of ["row"] f fd) : FnOk P w K mg base CX0 2 f fd ["row"] (spD K F_code_of) := by
  obtain ⟨_, hI_SHIFT⟩ := T.i_SHIFT
  obtain ⟨_, hI_LOW⟩ := T.i_LOW
  obtain ⟨_, hI_MAX_THINGS⟩ := T.i_MAX_THINGS
  refine def_ok D.F sc_code_of (fun Γ cs R g => ?len) (fun cdv A outer s H E hr Γ cs R g => ?_)
  case len => obtain ⟨x, rfl, _⟩ := g; rfl
  obtain ⟨x, rfl, hx, rfl⟩ := g
  refine ⟨_, (pss_cons (ps_set (i := 1) sc_code_of.nd rfl (by first | exact .inl rfl | exact .inr rfl) pe_int)
      (pss_cons (ps_for PassesOwn.never rfl (pi_enumS (by rfl) T.z_enumerate (pa_cons (pv 0) pa_nil)) (pg_tup rfl (pgs_cons (pg_name (i := 2) sc_code_of.nd rfl (by first | exact .inl rfl | exact .inr rfl)) (pgs_cons (pg_name (i := 3) sc_code_of.nd rfl (by first | exact .inl rfl | exact .inr rfl)) pgs_nil)))
        (pss_one (ps_if (pt_cmpR op_eq (pv 3) pe_str (nomark _)) (pss_one (ps_set (i := 1) sc_code_of.nd rfl (by first | exact .inl rfl | exact .inr rfl) (pe_op op_or (pv 1) (pe_op op_shl pe_int (pv 2))))) (pss_one (ps_if (pt_cmpR op_eq (pv 3) pe_str (nomark _)) (pss_one (ps_set (i := 1) sc_code_of.nd rfl (by first | exact .inl rfl | exact .inr rfl) (pe_op op_or (pv 1) (pe_op op_shl pe_int (pe_op op_add (pv 2) (pe_glob (v := .int 9) rfl hI_SHIFT ⟨_, rfl⟩)))))) pss_nil)))))
      (pss_one (ps_ret (pv 1))))), fun Δ0 D' hf hn => ?_⟩
  refine wp_asg1 ev_int (ltr rfl) ?_
  refine wp_for (IvC Γ x) (src_enumS (ea_1 ev_var ea_nil) (fun i hi => sg_at hi) (ltr rfl) (ltr rfl)) ⟨rfl, none, none, rfl⟩ (fun i Γ' ρ' h => by obtain ⟨_, a, b, rfl⟩ := h; rfl) ?_ ?_
  · rintro i Γ' ρ' F' hi ⟨rfl, a, b, rfl⟩
    refine wp_if (et_test (ev_op1 (ev_var (i := 3)) (ev_strc [43]) o2_eqS)) (fun h1 => ?_) (fun h1 => ?_)
    · have hc : sg x i = 43 := tx1.mp (of_decide_eq_true h1)
      refine wp_asgL (ev_op1 (ev_var (i := 1)) (ev_op1 ev_int (ev_var (i := 2)) (o2_I (C := CPow) ⟨by omega, by omega, by decide⟩)) o2_I0) (ltr rfl) (fun r hr => wp_turn (Iv := IvC Γ' x) ⟨rfl, some ⟨(i : Int)⟩, some ⟨(⟨[sg x i]⟩ : Tx)⟩, ?_⟩ rfl)
      have er : r = ((codeUp x (i + 1) : Nat) : Int) := by
        rw [show r = _ from hr, codeUp, bitAt, if_pos hc, Int.toNat_natCast, Int.one_mul, ← or_nn, Int.natCast_pow]
        rfl
      rw [er]
      rfl
    · have hc : sg x i ≠ 43 := fun z => of_decide_eq_false h1 (tx1.mpr z)
      refine wp_if (et_test (ev_op1 (ev_var (i := 3)) (ev_strc [45]) o2_eqS)) (fun h2 => ?_) (fun h2 => ?_)
      · have hd : sg x i = 45 := tx1.mp (of_decide_eq_true h2)
        refine wp_asgL (ev_op1 (ev_var (i := 1)) (ev_op1 ev_int (ev_op1 (ev_var (i := 2)) ev_int o2_I0) (o2_I (C := CPow) ⟨by omega, by omega, by decide⟩)) o2_I0) (ltr rfl) (fun r hr => wp_turn (Iv := IvC Γ' x) ⟨rfl, some ⟨(i : Int)⟩, some ⟨(⟨[sg x i]⟩ : Tx)⟩, ?_⟩ rfl)
        have er : r = ((codeUp x (i + 1) : Nat) : Int) := by
          rw [show r = _ from hr, codeUp, bitAt, if_neg hc, if_pos hd, Int.one_mul, ← or_nn, Int.natCast_pow]
          congr 2
        rw [er]
        rfl
      · have hd : sg x i ≠ 45 := fun z => of_decide_eq_false h2 (tx1.mpr z)
        refine wp_turn (Iv := IvC Γ' x) ⟨rfl, some ⟨(i : Int)⟩, some ⟨(⟨[sg x i]⟩ : Tx)⟩, ?_⟩ rfl
        have er : codeUp x (i + 1) = codeUp x i := by rw [codeUp, bitAt, if_neg hc, if_neg hd, Nat.or_zero]
        rw [er]
        rfl
  · rintro Γ' ρ' F' ⟨rfl, a, b, rfl⟩
    exact wp_ret hf (ev_var (i := 1))
def F_turned_signs : Pm Tx := fun _ cs R => ∃ x : Tx, cs = [⟨x⟩] ∧ Row x ∧ R = Is (mk x.s.length fun i => sw (sg x i))
theorem sc_turned_signs : FnScope ["signs"] ["signs"] (defScope s_turned_signs) := ⟨rfl, rfl, rfl, by decide +kernel, rfl, by decide +kernel, by decide +kernel⟩
theorem ok_turned_signs (T : Txt K mg) {f : Addr} {fd : FuncData} (D : Df K mg "turned_signs" s_turned_signs ["signs"] f fd) : FnOk P w K mg base CX0 2 f fd ["signs"] (spD K F_turned_signs) := by
  obtain ⟨_, hI_SHIFT⟩ := T.i_SHIFT
  obtain ⟨_, hI_LOW⟩ := T.i_LOW
  obtain ⟨_, hI_MAX_THINGS⟩ := T.i_MAX_THINGS
  refine def_ok D.F sc_turned_signs (fun Γ cs R g => ?len) (fun cdv A outer s H E hr Γ cs R g => ?_)
  case len => obtain ⟨x, rfl, _⟩ := g; rfl
  obtain ⟨x, rfl, hx, rfl⟩ := g
  refine ⟨_, (pss_one (ps_ret (pe_trS rfl (pv 0) (pe_mk (by rfl) T.z_str)))), fun Δ0 D' hf hn => wp_ret hf (ev_is (ev_tr ev_var (len_le hx)) (map_sw x))⟩
abbrev IvA (Γ : Own) (t : Tup Int) (n : Int) : Nat → Own → Z.Env → Prop := fun i Γ' ρ' => Γ' = Γ ∧ ascF n 0 (t.l.take i) = true ∧ ∃ a, ρ' = [some ⟨t⟩, some ⟨n⟩, some ⟨nextL 0 (t.l.take i)⟩, a]
def F_is_ascending : Pm Bool := fun _ cs R => ∃ (t : Tup Int) (n : Int), cs = [⟨t⟩, ⟨n⟩] ∧ R = Is (ascF n 0 t.l)
theorem sc_is_ascending : FnScope ["value", "many", "least", "thing"] ["value", "many"] (defScope s_is_ascending) := ⟨rfl, rfl, rfl, by decide +kernel, rfl, by decide +kernel, by decide +kernel⟩
theorem ok_is_ascending (T : Txt K mg) {f : Addr} {fd : FuncData} (D : Df K mg "is_ascending" s_is_ascending ["value", "many"] f fd) {f_is_between : Addr} {fd_is_between : FuncData} (D_is_between : Df K mg "is_between" s_is_between ["value", "least", "most"] f_is_between fd_is_between) (G_is_between : FnOk P w K mg base CX0 3 f_is_between fd_is_between ["value", "least", "most"] (spD K F_is_between)) : FnOk P w K mg base CX0 4 f fd ["value", "many"] (spD K F_is_ascending) := by
  obtain ⟨_, hI_SHIFT⟩ := T.i_SHIFT
  obtain ⟨_, hI_LOW⟩ := T.i_LOW
  obtain ⟨_, hI_MAX_THINGS⟩ := T.i_MAX_THINGS
  refine def_ok D.F sc_is_ascending (fun Γ cs R g => ?len) (fun cdv A outer s H E hr Γ cs R g => ?_)
  case len => obtain ⟨x, n, rfl, _⟩ := g; rfl
  obtain ⟨t, n, rfl, rfl⟩ := g
  refine ⟨_, (pss_cons (ps_if (pt_not (pt_val (pe_callB call_isK (by rfl) T.z_isinstance (by decide +kernel) (pa_cons (pv 0) (pa_cons (pe_bltn (v := .ty "tuple") (u := .type "tuple") (by rfl) T.z_tuple (by decide +kernel) rfl) pa_nil))))) (pss_one (ps_ret pe_bl)) pss_nil)
      (pss_cons (ps_set (i := 2) sc_is_ascending.nd rfl (by first | exact .inl rfl | exact .inr rfl) pe_int)
      (pss_cons (ps_for PassesOwn.never rfl (pi_tupK (pv 0)) (pg_name (i := 3) sc_is_ascending.nd rfl (by first | exact .inl rfl | exact .inr rfl))
        (pss_cons (ps_if (pt_not (pt_val (pe_call G_is_between (hr.mono (by decide)) (by rfl) D_is_between.g D_is_between.kp D_is_between.b .nil pass0 (pa_cons (pv 3) (pa_cons (pv 2) (pa_cons (pe_op op_sub (pv 1) pe_int) pa_nil)))))) (pss_one (ps_ret pe_bl)) pss_nil)
        (pss_one (ps_set (i := 2) sc_is_ascending.nd rfl (by first | exact .inl rfl | exact .inr rfl) (pe_op op_add (pv 3) pe_int)))))
      (pss_one (ps_ret pe_bl))))), fun Δ0 D' hf hn => ?_⟩
  refine wp_no rfl (et_not (et_B (ev_isi ev_var ty_tup (kit_ty (r := true) (by decide +kernel))))) ?_
  refine wp_asg1 ev_int (ltr rfl) ?_
  refine wp_for (IvA Γ t n) (src_tup (x0 := fun i => t.l.getD i 0) ev_var (fun i hi => by rw [List.getD_eq_getElem?_getD, List.getElem?_eq_getElem hi]; rfl) (ltr rfl)) ⟨rfl, rfl, none, rfl⟩ (fun i Γ' ρ' h => by obtain ⟨_, _, a, rfl⟩ := h; rfl) ?_ ?_
  · rintro i Γ' ρ' F' hi ⟨rfl, ha, a, rfl⟩
    have et : t.l.take (i + 1) = t.l.take i ++ [t.l.getD i 0] := by
      rw [List.take_add_one, List.getD_eq_getElem?_getD, List.getElem?_eq_getElem hi]
      rfl
    refine wp_when (et_not (et_B (ev_call1 (ea_1 (ev_var (i := 3)) (ea_1 (ev_var (i := 2)) (ea_1 (ev_op1 (ev_var (i := 1)) ev_int (o2_I0 (g := fun i j => i - j))) ea_nil))) ⟨_, _, _, rfl, rfl⟩))) (fun h1 => ?_) (fun h1 => ?_)
    · refine wp_ret hf (ev_is ev_bl ?_)
      have h2 : ascF n 0 (t.l.take (i + 1)) = false := by
        rw [et, ascF_snoc, ha, Bool.true_and]
        rw [Bool.not_eq_true'] at h1
        exact h1
      have h3 := ascF_app (us := t.l.drop (i + 1)) h2
      rw [List.take_append_drop] at h3
      exact h3.symm
    · refine wp_asgL (ev_op1 (ev_var (i := 3)) ev_int (o2_I0 (g := fun i j => i + j))) (ltr rfl) (fun r hr => wp_turn (Iv := IvA Γ' t n) ⟨rfl, ?_, some ⟨t.l.getD i 0⟩, ?_⟩ rfl)
      · rw [et, ascF_snoc, ha, Bool.true_and]
        rw [Bool.not_eq_false'] at h1
        exact h1
      · rw [show r = _ from hr, et, nextL_snoc]
        rfl
  · rintro Γ' ρ' F' ⟨rfl, ha, a, rfl⟩
    rw [List.take_length] at ha
    exact wp_ret hf (ev_is ev_bl ha.symm)
def F_check_row : Pm Unit := fun _ cs R => ∃ (x : Tx), cs = [⟨x⟩, ⟨(x.s.length : Int)⟩] ∧ Row x ∧ R = Is ()
theorem sc_check_row : FnScope ["row", "many"] ["row", "many"] (defScope s_check_row) := ⟨rfl, rfl, rfl, by decide +kernel, rfl, by decide +kernel, by decide +kernel⟩
theorem ok_check_row (T : Txt K mg) {f : Addr} {fd : FuncData} (D : Df K mg "check_row" s_check_row ["row", "many"] f fd) {f_is_row : Addr} {fd_is_row : FuncData} (D_is_row : Df K mg "is_row" s_is_row ["value", "many"] f_is_row fd_is_row) (G_is_row : FnOk P w K mg base CX0 2 f_is_row fd_is_row ["value", "many"] (spD K F_is_row)) : FnOk P w K mg base CX0 3 f fd ["row", "many"] (spD K F_check_row) := by
  obtain ⟨_, hI_SHIFT⟩ := T.i_SHIFT
  obtain ⟨_, hI_LOW⟩ := T.i_LOW
  obtain ⟨_, hI_MAX_THINGS⟩ := T.i_MAX_THINGS
  refine def_ok D.F sc_check_row (fun Γ cs R g => ?len) (fun cdv A outer s H E hr Γ cs R g => ?_)
  case len => obtain ⟨x, rfl, _⟩ := g; rfl
  obtain ⟨x, rfl, hx, rfl⟩ := g
  refine ⟨_, (pss_one (ps_if (pt_not (pt_val (pe_call G_is_row (hr.mono (by decide)) (by rfl) D_is_row.g D_is_row.kp D_is_row.b .nil pass0 (pa_cons (pv 0) (pa_cons (pv 1) pa_nil))))) (pss_one ps_never) pss_nil)), fun Δ0 D' hf hn => ?_⟩
  refine wp_noL ?_ (et_not (et_B (ev_call1 (ea_1 ev_var (ea_1 (ev_var (i := 1)) ea_nil)) ⟨x, _, rfl, len_le hx, rfl⟩))) (wp_none rfl hn)
  rw [hx.all, decide_eq_true rfl]
  rfl
def F_check_things : Pm Unit := fun _ cs R => ∃ (t : Tup Int) (n : Int), cs = [⟨t⟩, ⟨n⟩] ∧ ascF n 0 t.l = true ∧ R = Is ()
theorem sc_check_things : FnScope ["things", "many"] ["things", "many"] (defScope s_check_things) := ⟨rfl, rfl, rfl, by decide +kernel, rfl, by decide +kernel, by decide +kernel⟩
theorem ok_check_things (T : Txt K mg) {f : Addr} {fd : FuncData} (D : Df K mg "check_things" s_check_things ["things", "many"] f fd) {f_is_ascending : Addr} {fd_is_ascending : FuncData} (D_is_ascending : Df K mg "is_ascending" s_is_ascending ["value", "many"] f_is_ascending fd_is_ascending) (G_is_ascending : FnOk P w K mg base CX0 4 f_is_ascending fd_is_ascending ["value", "many"] (spD K F_is_ascending)) : FnOk P w K mg base CX0 5 f fd ["things", "many"] (spD K F_check_things) := by
  obtain ⟨_, hI_SHIFT⟩ := T.i_SHIFT
  obtain ⟨_, hI_LOW⟩ := T.i_LOW
  obtain ⟨_, hI_MAX_THINGS⟩ := T.i_MAX_THINGS
  refine def_ok D.F sc_check_things (fun Γ cs R g => ?len) (fun cdv A outer s H E hr Γ cs R g => ?_)
  case len => obtain ⟨x, n, rfl, _⟩ := g; rfl
  obtain ⟨t, n, rfl, ha, rfl⟩ := g
  refine ⟨_, (pss_one (ps_if (pt_not (pt_val (pe_call G_is_ascending (hr.mono (by decide)) (by rfl) D_is_ascending.g D_is_ascending.kp D_is_ascending.b .nil pass0 (pa_cons (pv 0) (pa_cons (pv 1) pa_nil))))) (pss_one ps_never) pss_nil)), fun Δ0 D' hf hn => ?_⟩
  refine wp_noL ?_ (et_not (et_B (ev_call1 (ea_1 ev_var (ea_1 (ev_var (i := 1)) ea_nil)) ⟨t, n, rfl, rfl⟩))) (wp_none rfl hn)
  rw [ha]
  rfl
def F_check_any_row : Pm Unit := fun _ cs R => ∃ (x : Tx), cs = [⟨x⟩] ∧ Row x ∧ R = Is ()
theorem sc_check_any_row : FnScope ["row"] ["row"] (defScope s_check_any_row) := ⟨rfl, rfl, rfl, by decide +kernel, rfl, by decide +kernel, by decide +kernel⟩
theorem ok_check_any_row (T : Txt K mg) {f : Addr} {fd : FuncData} (D : Df K mg "check_any_row" s_check_any_row ["row"] f fd) {f_check_row : Addr} {fd_check_row : FuncData} (D_check_row : Df K mg "check_row" s_check_row ["row", "many"] f_check_row fd_check_row) (G_check_row : FnOk P w K mg base CX0 3 f_check_row fd_check_row ["row", "many"] (spD K F_check_row)) : FnOk P w K mg base CX0 4 f fd ["row"] (spD K F_check_any_row) := by
  obtain ⟨_, hI_SHIFT⟩ := T.i_SHIFT
  obtain ⟨_, hI_LOW⟩ := T.i_LOW
  obtain ⟨_, hI_MAX_THINGS⟩ := T.i_MAX_THINGS
  refine def_ok D.F sc_check_any_row (fun Γ cs R g => ?len) (fun cdv A outer s H E hr Γ cs R g => ?_)
  case len => obtain ⟨x, rfl, _⟩ := g; rfl
  obtain ⟨x, rfl, hx, rfl⟩ := g
  refine ⟨_, (pss_cons (ps_if (PW.pt (pw_or (pt_not (pt_val (pe_callB call_isK (by rfl) T.z_isinstance (by decide +kernel) (pa_cons (pv 0) (pa_cons (pe_bltn (v := .ty "str") (u := .type "str") (by rfl) T.z_str (by decide +kernel) rfl) pa_nil))))) (pw_or1 (pt_cmpR op_gt (pe_callB call_lenK (by rfl) T.z_len (by decide +kernel) (pa_cons (pv 0) pa_nil)) (pe_glob (v := .int 9) rfl hI_MAX_THINGS ⟨_, rfl⟩) (nomark _))))) (pss_one ps_never) pss_nil)
      (pss_one (ps_expr (pe_call G_check_row (hr.mono (by decide)) (by rfl) D_check_row.g D_check_row.kp D_check_row.b .nil pass0 (pa_cons (pv 0) (pa_cons (pe_callB call_lenK (by rfl) T.z_len (by decide +kernel) (pa_cons (pv 0) pa_nil)) pa_nil)))))), fun Δ0 D' hf hn => ?_⟩
  refine wp_no ?_ (et_or (et_not (et_B (ev_isi ev_var ty_tx (kit_ty (r := true) (by decide +kernel))))) fun _ => et_test (ev_op1 (ev_cb ev_var (o1_lenS (len_le hx))) ev_int (o2_B0 (g := fun i j => decide (j < i))))) ?_
  · have := hx.len
    rw [decide_eq_false (by omega)]
    rfl
  · exact wp_dropL (ev_call1 (ea_1 ev_var (ea_1 (ev_cb ev_var (o1_lenS (len_le hx))) ea_nil)) ⟨x, rfl, hx, rfl⟩) (wp_none rfl hn)
def tnAt (x : Tx) (ts : List Int) : Tx := mk x.s.length fun i => if (i : Int) ∈ ts then sw (sg x i) else sg x i
def tn (x : Tx) : Tx := mk x.s.length fun i => sw (sg x i)
theorem tn_row {x : Tx} (h : Row x) : Row (tn x) := row_mk h.len fun i hi => by
  have q := h.sg hi
  revert q
  generalize sg x i = c
  intro q
  unfold isSign at q ⊢
  unfold sw
  simp only [Bool.or_eq_true, beq_iff_eq] at q ⊢
  split <;> (try split) <;> omega
theorem tnAt_row {x : Tx} {ts : List Int} (h : Row x) : Row (tnAt x ts) := row_mk h.len fun i hi => by
  have q := h.sg hi
  have q2 := (tn_row h).sg (i := i) (by rw [tn, mk_len]; exact hi)
  rw [tn, mk_sg hi] at q2
  split
  · exact q2
  · exact q
theorem range_at {n i x : Nat} (h : (List.range n)[i]? = some x) : x = i ∧ i < n := by
  obtain ⟨h1, h2⟩ := List.getElem?_eq_some_iff.mp h
  rw [List.getElem_range] at h2
  rw [List.length_range] at h1
  exact ⟨h2.symm, h1⟩
/-- a row made sign by sign -/
theorem ev_mk {Γ : Own} {ρ : Z.Env} {te : TE} {wi : TI} {g : TG} {js vs : List Nat} {st : Nat → Z.Env → Z.Env} {z : Str} {n : Nat} {f : Nat → Nat} (hn : n ≤ 9) (S : Src K Γ wi g ρ js n st) (hjs : ∀ j ∈ js, j ∈ vs)
    (hs : ∀ i, i < n → Ev K Γ te (st i (wipeE ρ vs)) (Is (⟨[f i]⟩ : Tx))) (hz0 : z = "" := by rfl) :
    Ev K Γ (tM1 (rJoin K) (tC (.str z)) (tLc wi g tYes te vs)) ρ (Is (mk n f)) := by
  have S' : Src K Γ wi g ρ js (List.range n).length st := by rw [List.length_range]; exact S
  have h := ev_lcD (t := tYes) (te := te) (vs := vs) (xs := List.range n) (fun _ => true) (fun i => (⟨[f i]⟩ : Tx)) S' (by rw [List.length_range]; omega) hjs fun i x hx => by
    obtain ⟨rfl, hi⟩ := range_at hx
    exact ⟨et_yes, fun _ => hs x hi⟩
  rw [List.filter_eq_self.mpr (fun _ _ => rfl)] at h
  have h2 := ev_join (z := z) hz0 h (by rw [flat_len]; omega)
  rw [flat_mk] at h2
  exact h2
/-- the places with p, as a tuple -/
theorem ev_ix {Γ : Own} {ρ : Z.Env} {te : TE} {t : TT} {wi : TI} {g : TG} {js vs : List Nat} {st : Nat → Z.Env → Z.Env} {n : Nat} {p : Nat → Bool} (hn : n ≤ 9) (S : Src K Γ wi g ρ js n st) (hjs : ∀ j ∈ js, j ∈ vs)
    (hs : ∀ i, i < n → EvT K Γ t (st i (wipeE ρ vs)) (Is (p i)) ∧ Ev K Γ te (st i (wipeE ρ vs)) (Is (i : Int))) : Ev K Γ (tLc wi g t te vs) ρ (Is (ix n p)) := by
  have S' : Src K Γ wi g ρ js (List.range n).length st := by rw [List.length_range]; exact S
  exact ev_lcD (t := t) (te := te) (vs := vs) (xs := List.range n) p (fun i => ((i : Nat) : Int)) S' (by rw [List.length_range]; omega) hjs fun i x hx => by
    obtain ⟨rfl, hi⟩ := range_at hx
    exact ⟨(hs x hi).1, fun _ => (hs x hi).2⟩
theorem row1 {x : Tx} (h : Row x) {i : Nat} (hi : i < x.s.length) {Γ : Own} {ρ : Z.Env} {ta tb : TE} (h1 : Ev K Γ ta ρ (Is x)) (h2 : Ev K Γ tb ρ (Is (i : Int))) : Ev K Γ (tOp rIxS ta tb) ρ (Is (⟨[sg x i]⟩ : Tx)) := ev_op1 h1 h2 (o2_ixS (len_le h) (sg_at hi))
def F_turned : Pm Tx := fun _ cs R => (∃ x : Tx, cs = [⟨x⟩, ⟨()⟩] ∧ Row x ∧ R = Is (tn x)) ∨ ∃ (x : Tx) (t : Tup Int), cs = [⟨x⟩, ⟨t⟩] ∧ Row x ∧ ascF x.s.length 0 t.l = true ∧ R = Is (tnAt x t.l)
theorem sc_turned : FnScope ["row", "things", "whole", "at", "sign"] ["row", "things"] (defScope s_turned) := ⟨rfl, rfl, rfl, by decide +kernel, rfl, by decide +kernel, by decide +kernel⟩
theorem ok_turned (T : Txt K mg) {f : Addr} {fd : FuncData} (D : DfD K mg "turned" s_turned ["row", "things"] f fd) {f_check_any_row : Addr} {fd_check_any_row : FuncData} (D_check_any_row : Df K mg "check_any_row" s_check_any_row ["row"] f_check_any_row fd_check_any_row) (G_check_any_row : FnOk P w K mg base CX0 4 f_check_any_row fd_check_any_row ["row"] (spD K F_check_any_row)) {f_turned_signs : Addr} {fd_turned_signs : FuncData} (D_turned_signs : Df K mg "turned_signs" s_turned_signs ["signs"] f_turned_signs fd_turned_signs) (G_turned_signs : FnOk P w K mg base CX0 2 f_turned_signs fd_turned_signs ["signs"] (spD K F_turned_signs)) {f_check_things : Addr} {fd_check_things : FuncData} (D_check_things : Df K mg "check_things" s_check_things ["things", "many"] f_check_things fd_check_things) (G_check_things : FnOk P w K mg base CX0 5 f_check_things fd_check_things ["things", "many"] (spD K F_check_things)) : FnOk P w K mg base CX0 6 f fd ["row", "things"] (spD K F_turned) := by
  obtain ⟨_, hI_SHIFT⟩ := T.i_SHIFT
  obtain ⟨_, hI_LOW⟩ := T.i_LOW
  obtain ⟨_, hI_MAX_THINGS⟩ := T.i_MAX_THINGS
  refine def_ok D.F sc_turned (fun Γ cs R g => ?len) (fun cdv A outer s H E hr Γ cs R g => ?_)
  case len =>
    rcases g with ⟨x, rfl, _⟩ | ⟨x, t, rfl, _⟩
    · rfl
    · rfl
  refine ⟨_, (pss_cons (ps_expr (pe_call G_check_any_row (hr.mono (by decide)) (by rfl) D_check_any_row.g D_check_any_row.kp D_check_any_row.b .nil pass0 (pa_cons (pv 0) pa_nil)))
      (pss_cons (ps_set (i := 2) sc_turned.nd rfl (by first | exact .inl rfl | exact .inr rfl) (pe_call G_turned_signs (hr.mono (by decide)) (by rfl) D_turned_signs.g D_turned_signs.kp D_turned_signs.b .nil pass0 (pa_cons (pv 0) pa_nil)))
      (pss_cons (ps_if (pt_cmpR op_isN (pv 1) pe_non (nomark _)) (pss_one (ps_ret (pv 2))) pss_nil)
      (pss_cons (ps_expr (pe_call G_check_things (hr.mono (by decide)) (by rfl) D_check_things.g D_check_things.kp D_check_things.b .nil pass0 (pa_cons (pv 1) (pa_cons (pe_callB call_lenK (by rfl) T.z_len (by decide +kernel) (pa_cons (pv 0) pa_nil)) pa_nil))))
      (pss_one (ps_ret (pe_joinK pe_str (pe_lc (own := [("at", 3), ("sign", 4)]) (g := (gTup K 2 (gCons (gName 3) (gCons (gName 4) gNil)))) (tt := tYes) rfl sc_turned.nd (pi_enumS (by rfl) T.z_enumerate (pa_cons (pv 0) pa_nil)) (blkOk_by (N := ["row", "things", "whole", "at", "sign"]) (sc := defScope s_turned) (by decide +kernel)) (fun _ _ _ _ _ => (pg_tup rfl (pgs_cons (pg_name (i := 3) sc_turned.nd rfl (by first | exact .inl rfl | exact .inr rfl)) (pgs_cons (pg_name (i := 4) sc_turned.nd rfl (by first | exact .inl rfl | exact .inr rfl)) pgs_nil)))) (fun _ _ _ _ _ => pts_nil) (fun _ _ _ _ _ => (pe_ifExp (pt_cmpR op_inK (pv 3) (pv 1) (by rfl)) (pe_ix ix_str (pv 2) (pv 3) (fun _ _ => rfl)) (pv 4))))))))))), fun Δ0 D' hf hn => ?_⟩
  rcases g with ⟨x, rfl, hx, rfl⟩ | ⟨x, t, rfl, hx, ha, rfl⟩
  · refine wp_drop (ev_call1 (ea_1 (ev_var (i := 0)) ea_nil) ⟨x, rfl, hx, rfl⟩) ?_
    refine wp_asg1 (ev_call1 (ea_1 (ev_var (i := 0)) ea_nil) ⟨x, rfl, hx, rfl⟩) (ltr rfl) ?_
    refine wp_when (et_test (ev_isN (b := true) (ev_var (i := 1) (a := ())) (fun Δ H v r => by rw [show v = V.non from r]; rfl))) (fun _ => wp_ret hf (ev_var (i := 2))) (fun h => by cases h)
  · refine wp_drop (ev_call1 (ea_1 (ev_var (i := 0)) ea_nil) ⟨x, rfl, hx, rfl⟩) ?_
    refine wp_asg1 (ev_call1 (ea_1 (ev_var (i := 0)) ea_nil) ⟨x, rfl, hx, rfl⟩) (ltr rfl) ?_
    refine wp_when (et_test (ev_isN (b := false) (ev_var (i := 1) (a := t)) (fun Δ H v r => by obtain ⟨p, vs, rfl, _⟩ := r; rfl))) (fun h => by cases h) (fun _ => ?_)
    refine wp_drop (ev_call1 (ea_1 (ev_var (i := 1)) (ea_1 (ev_cb (ev_var (i := 0)) (o1_lenS (len_le hx))) ea_nil)) ⟨t, _, rfl, ha, rfl⟩) ?_
    refine wp_ret hf (ev_mk hx.len (src_enumS (ea_1 (ev_var (i := 0)) ea_nil) (fun i hi => sg_at hi) (ltr rfl) (ltr rfl)) (by decide) fun i hi => ?_)
    refine ev_if (et_test (ev_op1 (ev_var (i := 3)) (ev_var (i := 1) (a := t)) o2_inT)) (fun h => ?_) (fun h => ?_)
    · rw [if_pos (of_decide_eq_true h)]
      refine ev_is (row1 (tn_row hx) (i := i) (by rw [tn, mk_len]; exact hi) (ev_var (i := 2)) (ev_var (i := 3))) ?_
      rw [tn, mk_sg hi]
    · rw [if_neg (of_decide_eq_false h)]
      exact ev_var (i := 4)
end
end K02

set_option Elab.async false
set_option linter.all false
set_option maxRecDepth 100000
set_option maxHeartbeats 1000000
namespace K02
open PySem PySem.Spec PyProof.Rows L2 Z K00
section
variable {P : Program} {w : World} {K : PySem.W.Frag} {mg : Str → Option Value} {base : Heap}
theorem fmod_nn {x t : Int} (hx : 0 ≤ x) (ht : 0 < t) : 0 ≤ x.fmod t ∧ x.fmod t < t := by
  rw [Int.fmod_eq_emod_of_nonneg x (Int.le_of_lt ht)]
  exact ⟨Int.emod_nonneg x (by omega), Int.emod_lt_of_pos x ht⟩
theorem fdiv_nn {x t : Int} (hx : 0 ≤ x) (ht : 0 < t) : 0 ≤ x.fdiv t := by
  rw [Int.fdiv_eq_ediv_of_nonneg x (Int.le_of_lt ht)]
  exact Int.ediv_nonneg hx (Int.le_of_lt ht)
def F__law_roll : Pm Int := fun Γ cs R => ∃ (p : Addr) (t : Int), cs = [⟨(⟨p⟩ : Z.Loc)⟩, ⟨t⟩] ∧ (p, DiceI) ∈ Γ ∧ 1 ≤ t ∧ t ≤ 1000000 ∧ R = fun r => 0 ≤ r ∧ r < t
theorem sc__law_roll : FnScope ["_law_dice_here", "_law_total", "_law_found", "_law_one", "_law_two"] ["_law_dice_here", "_law_total"] (defScope s__law_roll) := ⟨rfl, rfl, rfl, by decide +kernel, rfl, by decide +kernel, by decide +kernel⟩
theorem ok__law_roll (T : Txt K mg) {f : Addr} {fd : FuncData} (D : Df K mg "_law_roll" s__law_roll ["_law_dice_here", "_law_total"] f fd) : FnOk P w K mg base CX0 2 f fd ["_law_dice_here", "_law_total"] (spD K F__law_roll) := by
  obtain ⟨_, hI_SHIFT⟩ := T.i_SHIFT
  obtain ⟨_, hI_LOW⟩ := T.i_LOW
  obtain ⟨_, hI_MAX_THINGS⟩ := T.i_MAX_THINGS
  refine def_ok D.F sc__law_roll (fun Γ cs R g => ?len) (fun cdv A outer s H E hr Γ cs R g => ?_)
  case len => obtain ⟨x, n, rfl, _⟩ := g; rfl
  obtain ⟨p, t, rfl, hp, h1, h2, rfl⟩ := g
  refine ⟨_, (pss_cons (ps_if (pt_cmpR op_gt (pe_ix ix_listK (pv 0) pe_int (fun _ _ => rfl)) pe_int (nomark _)) (pss_cons (ps_set (i := 2) sc__law_roll.nd rfl (by first | exact .inl rfl | exact .inr rfl) (pe_op op_modN (pe_callTy call_int1 (by rfl) T.z_int (by decide +kernel) (pa_cons (pe_ix ix_listK (pv 0) pe_int (fun _ _ => rfl)) pa_nil)) (pv 1)))
        (pss_cons (ps_asg (pe_op op_fdivN (pe_ix ix_listK (pv 0) pe_int (fun _ _ => rfl)) (pv 1)) (pg_sub (pv 0) pe_int set_list))
        (pss_one (ps_ret (pv 2))))) pss_nil)
      (pss_cons (ps_asg (pe_op op_add (pe_ix ix_listK (pv 0) pe_int (fun _ _ => rfl)) pe_int) (pg_sub (pv 0) pe_int set_list))
      (pss_cons (ps_set (i := 3) sc__law_roll.nd rfl (by first | exact .inl rfl | exact .inr rfl) (pe_op op_modN (pe_callTy call_int1 (by rfl) T.z_int (by decide +kernel) (pa_cons (pe_op op_add (pe_ix ix_listK (pv 0) pe_int (fun _ _ => rfl)) (pe_op op_mul pe_int (pe_ix ix_listK (pv 0) pe_int (fun _ _ => rfl)))) pa_nil)) pe_int))
      (pss_cons (ps_set (i := 4) sc__law_roll.nd rfl (by first | exact .inl rfl | exact .inr rfl) (pe_op op_add (pe_op op_mul (pe_op op_modN (pe_callTy call_int1 (by rfl) T.z_int (by decide +kernel) (pa_cons (pe_op op_add (pe_op op_mul (pv 3) (pv 3)) (pe_op op_mul pe_int (pe_ix ix_listK (pv 0) pe_int (fun _ _ => rfl)))) pa_nil)) pe_int) pe_int) (pv 3)))
      (pss_one (ps_ret (pe_op op_modN (pe_callTy call_int1 (by rfl) T.z_int (by decide +kernel) (pa_cons (pe_op op_fdivN (pv 4) pe_int) pa_nil)) (pv 1)))))))), fun Δ0 D' hf hn => ?_⟩
  have d0 : ∀ {ρ : Z.Env}, ρ[0]? = some (some ⟨(⟨p⟩ : Z.Loc)⟩) → Ev K Γ (tOp (rIxL K) (tVar 0) (tC (.int 0))) ρ (fun n : Int => 0 ≤ n) := fun h => ev_dice (i := 0) hp (by decide) (ev_var h)
  have d1 : ∀ {ρ : Z.Env}, ρ[0]? = some (some ⟨(⟨p⟩ : Z.Loc)⟩) → Ev K Γ (tOp (rIxL K) (tVar 0) (tC (.int 1))) ρ (fun n : Int => 0 ≤ n) := fun h => ev_dice (i := 1) hp (by decide) (ev_var h)
  have d2 : ∀ {ρ : Z.Env}, ρ[0]? = some (some ⟨(⟨p⟩ : Z.Loc)⟩) → Ev K Γ (tOp (rIxL K) (tVar 0) (tC (.int 2))) ρ (fun n : Int => 0 ≤ n) := fun h => ev_dice (i := 2) hp (by decide) (ev_var h)
  have md : ∀ {ρ : Z.Env} {ta tb : TE} {m : Int}, 0 < m → Ev K Γ ta ρ (fun n : Int => 0 ≤ n) → Ev K Γ tb ρ (Is m) → Ev K Γ (tOp (rI (fun _ j => j ≠ 0) fun i j => .int (i.fmod j)) ta tb) ρ (fun n : Int => 0 ≤ n ∧ n < m) := fun hm ha hb =>
    ev_opP ha hb fun x y hx hy => ⟨x.fmod y, o2_I (g := Int.fmod) (by rw [show y = _ from hy]; omega), by rw [show y = _ from hy]; exact fmod_nn hx hm⟩
  have it : ∀ {ρ : Z.Env} {ta : TE}, Ev K Γ ta ρ (fun n : Int => 0 ≤ n) → Ev K Γ (tCB (fun xs H Q => (∃ i, xs = [.int i] ∧ Q (.int i) H) ∨ ∃ k, xs = [.bl k] ∧ Q (.int (if k then 1 else 0)) H) (tCons ta tNil)) ρ (fun n : Int => 0 ≤ n) := fun h => ev_cbP h fun x hx => ⟨x, o1_int, hx⟩
  refine wp_ifP (D := { D' with nx := _ }) (PB := fun _ => True) (et_test (ev_opP (d0 rfl) ev_int fun x y _ _ => ⟨decide (y < x), o2_B0 (g := fun i j => decide (j < i)), trivial⟩)) (fun _ => ?_) (fun _ => ?_)
  · refine wp_asg (md (m := t) (by omega) (it (d0 rfl)) (ev_var (i := 1))) (ltr rfl) fun a ha => ?_
    refine wp_dice (i := 0) hp (by decide) (ev_opP (d0 rfl) (ev_var (i := 1) (a := t)) fun x y hx hy => ⟨x.fdiv y, o2_I (C := CDivN) (g := Int.fdiv) (by rw [show y = t from hy]; exact ⟨by omega, by omega⟩), by rw [show y = t from hy]; exact fdiv_nn hx (by omega)⟩) (ev_var (i := 0)) ?_
    exact wp_ret hf ((ev_var (i := 2)).imp fun r hr => by rw [show r = a from hr]; exact ha)
  · refine wp_dice (i := 2) hp (by decide) (ev_opP (d2 rfl) ev_int fun x y hx hy => ⟨x + y, o2_I0 (g := fun i j => i + j), by rw [show y = _ from hy]; omega⟩) (ev_var (i := 0)) ?_
    refine wp_asg (md (m := 2305843009213693487) (by decide) (it (ev_opP (d1 rfl) (ev_opP (Pc := fun n : Int => 0 ≤ n) ev_int (d2 rfl) fun x y hx hy => ⟨x * y, o2_I (C := CMul) (g := fun i j => i * j) (.inl (by rw [show x = 104395303 from hx]; decide)), by rw [show x = 104395303 from hx]; exact Int.mul_nonneg (by decide) hy⟩) fun x y hx hy => ⟨x + y, o2_I0 (g := fun i j => i + j), Int.add_nonneg hx hy⟩)) ev_int) (ltr rfl) fun one h1' => ?_
    refine wp_asg (P := fun n : Int => 0 ≤ n) (ev_opP (ev_opP (Pc := fun n : Int => 0 ≤ n) (md (m := 2305843009213693223) (by decide) (it (ev_opP (Pc := fun n : Int => 0 ≤ n) (ev_opP (Pc := fun n : Int => 0 ≤ n) (ev_var (i := 3) (a := one)) (ev_var (i := 3) (a := one)) fun x y hx hy => ⟨x * y, o2_I (C := CMul) (g := fun i j => i * j) (.inl (by rw [show x = one from hx]; omega)), by rw [show x = one from hx, show y = one from hy]; exact Int.mul_nonneg h1'.1 h1'.1⟩) (ev_opP (Pc := fun n : Int => 0 ≤ n) ev_int (d2 rfl) fun x y hx hy => ⟨x * y, o2_I (C := CMul) (g := fun i j => i * j) (.inl (by rw [show x = 113 from hx]; decide)), by rw [show x = 113 from hx]; exact Int.mul_nonneg (by decide) hy⟩) fun x y hx hy => ⟨x + y, o2_I0 (g := fun i j => i + j), Int.add_nonneg hx hy⟩)) ev_int) ev_int fun x y hx hy => ⟨x * y, o2_I (C := CMul) (g := fun i j => i * j) (.inl (by omega)), by rw [show y = 3497861 from hy]; exact Int.mul_nonneg hx.1 (by decide)⟩) (ev_var (i := 3) (a := one)) fun x y hx hy => ⟨x + y, o2_I0 (g := fun i j => i + j), by rw [show y = one from hy]; exact Int.add_nonneg hx h1'.1⟩) (ltr rfl) fun two h2' => ?_
    exact wp_ret hf (md (m := t) (by omega) (it (ev_opP (ev_var (i := 4) (a := two)) ev_int fun x y hx hy => ⟨x.fdiv y, o2_I (C := CDivN) (g := Int.fdiv) (by rw [show y = 65536 from hy]; exact ⟨by decide, by decide⟩), by rw [show x = two from hx, show y = 65536 from hy]; exact fdiv_nn h2' (by decide)⟩)) (ev_var (i := 1)))
def F__law_dice : Own → List Cell → Prop := fun _ cs => ∃ (xs : List Int) (n : Nat), cs = [⟨xs⟩, ⟨(n : Int)⟩]
theorem abs_nn (c : Int) : 0 ≤ (if c < 0 then -c else c) := by split <;> omega
theorem sc__law_dice : FnScope ["_law_script", "_law_spot", "_law_cell", "_law_left"] ["_law_script", "_law_spot"] (defScope s__law_dice) := ⟨rfl, rfl, rfl, by decide +kernel, rfl, by decide +kernel, by decide +kernel⟩
theorem ok__law_dice (T : Txt K mg) {f : Addr} {fd : FuncData} (D : Df K mg "_law_dice" s__law_dice ["_law_script", "_law_spot"] f fd) : FnOk P w K mg base CX0 2 f fd ["_law_script", "_law_spot"] (spF K F__law_dice DiceI) := by
  obtain ⟨_, hI_SHIFT⟩ := T.i_SHIFT
  obtain ⟨_, hI_LOW⟩ := T.i_LOW
  obtain ⟨_, hI_MAX_THINGS⟩ := T.i_MAX_THINGS
  refine def_okF D.F sc__law_dice (fun Γ cs g => ?len) (fun cdv A outer s H E hr Γ cs g => ?_)
  case len => obtain ⟨xs, n, rfl⟩ := g; rfl
  obtain ⟨xs, n, rfl⟩ := g
  refine ⟨_, (pss_cons (ps_set (i := 2) sc__law_dice.nd rfl (by first | exact .inl rfl | exact .inr rfl) (pe_ifExp (pt_cmpR op_lt (pv 1) (pe_callB call_lenK (by rfl) T.z_len (by decide +kernel) (pa_cons (pv 0) pa_nil)) (nomark _)) (pe_callTy call_int1 (by rfl) T.z_int (by decide +kernel) (pa_cons (pe_ix ix_listK (pv 0) (pv 1) (fun _ _ => rfl)) pa_nil)) (pe_op op_add (pe_op op_mul pe_int (pv 1)) pe_int)))
      (pss_cons (ps_set (i := 3) sc__law_dice.nd rfl (by first | exact .inl rfl | exact .inr rfl) (pe_op op_modN (pe_callB (call_max2 rfl) (by rfl) T.z_max (by decide +kernel) (pa_cons pe_int (pa_cons (pe_op op_sub (pe_callB call_abs (by rfl) T.z_abs (by decide +kernel) (pa_cons (pv 2) pa_nil)) (pe_op op_pow pe_int pe_int)) pa_nil))) (pe_op op_mulW (pe_op op_pow pe_int pe_int) (pe_op op_pow pe_int pe_int))))
      (pss_one (ps_ret (pe_lst (pa_cons (pv 3) (pa_cons (pe_op op_add (pe_op op_add (pe_op op_add (pe_op op_mul (pe_op op_modN (pe_callB call_abs (by rfl) T.z_abs (by decide +kernel) (pa_cons (pv 2) pa_nil)) pe_int) pe_int) (pe_op op_mul pe_int (pv 1))) (pe_op op_mul pe_int (pe_callTy call_int1 (by rfl) T.z_int (by decide +kernel) (pa_cons (pe_cmpR op_lt (pv 2) pe_int (nomark _)) pa_nil)))) pe_int) (pa_cons pe_int pa_nil)))))))), fun Δ0 D' hf => ?_⟩
  refine wp_asg (P := fun _ : Int => True) (ev_if (et_test (ev_op1 (ev_var (i := 1)) (ev_cb (ev_var (i := 0) (a := xs)) o1_lenL) (o2_B0 (g := fun i j => decide (i < j))))) (fun h => (ev_cb (ev_op1 (ev_var (i := 0) (a := xs)) (ev_var (i := 1)) (o2_ixL (List.getElem?_eq_getElem (by have := of_decide_eq_true h; omega)))) o1_int).imp fun _ _ => trivial) fun _ => (ev_op1 (ev_op1 ev_int (ev_var (i := 1)) (o2_I (C := CMul) (g := fun i j => i * j) (.inl (by decide)))) ev_int (o2_I0 (g := fun i j => i + j))).imp fun _ _ => trivial) (ltr rfl) fun c _ => ?_
  refine wp_asg (P := fun n : Int => 0 ≤ n) ((ev_op1 (ev_max2 ev_int (ev_op1 (ev_cb (ev_var (i := 2)) o1_abs) (ev_op1 ev_int ev_int (o2_I (C := CPow) (g := fun i j => i ^ j.toNat) ⟨by decide, by decide, by decide⟩)) (o2_I0 (g := fun i j => i - j)))) (ev_op1 (ev_op1 ev_int ev_int (o2_I (C := CPow) (g := fun i j => i ^ j.toNat) ⟨by decide, by decide, by decide⟩)) (ev_op1 ev_int ev_int (o2_I (C := CPow) (g := fun i j => i ^ j.toNat) ⟨by decide, by decide, by decide⟩)) (o2_I (C := CMulW) (g := fun i j => i * j) (wide_mul (a := 200) (b := 200) (by decide +kernel) (by decide +kernel) (by decide) (by decide) (by decide)))) (o2_I (C := fun _ j => j ≠ 0) (g := Int.fmod) (by decide +kernel))).imp fun r hr => ?_) (ltr rfl) fun l hl => ?_
  · rw [show r = _ from hr]
    refine (fmod_nn ?_ (by decide +kernel)).1
    split <;> omega
  refine wp_ret3 hf (ea_cons (Pa := fun n : Int => 0 ≤ n) ((ev_var (i := 3) (a := l)).imp fun r hr => by rw [show r = l from hr]; exact hl) (ea_cons (Pa := fun n : Int => 0 ≤ n) (P := fun cs => ∃ b c : Int, cs = [⟨b⟩, ⟨c⟩] ∧ 0 ≤ b ∧ 0 ≤ c) ((ev_op1 (ev_op1 (ev_op1 (ev_op1 (ev_op1 (ev_cb (ev_var (i := 2) (a := c)) o1_abs) ev_int (o2_I (C := fun _ j => j ≠ 0) (g := Int.fmod) (by decide))) ev_int (o2_I (C := CMul) (g := fun i j => i * j) (.inr (by decide)))) (ev_op1 ev_int (ev_var (i := 1)) (o2_I (C := CMul) (g := fun i j => i * j) (.inl (by decide)))) (o2_I0 (g := fun i j => i + j))) (ev_op1 ev_int (ev_cb (ev_op1 (ev_var (i := 2) (a := c)) ev_int (o2_B0 (g := fun i j => decide (i < j)))) o1_intB) (o2_I (C := CMul) (g := fun i j => i * j) (.inl (by decide)))) (o2_I0 (g := fun i j => i + j))) ev_int (o2_I0 (g := fun i j => i + j))).imp fun r hr => ?_) (ea_cons (Pa := fun n : Int => 0 ≤ n) (Ps := Is []) (P := fun cs => ∃ c : Int, cs = [⟨c⟩] ∧ 0 ≤ c) (ev_int.imp fun r hr => by rw [show r = 0 from hr]; decide) ea_nil fun a cs ha hc => ⟨a, by rw [show cs = [] from hc], ha⟩) fun a cs ha hc => by obtain ⟨c, rfl, h⟩ := hc; exact ⟨a, c, rfl, ha, h⟩) fun a cs ha hc => by obtain ⟨b, c, rfl, h1, h2⟩ := hc; exact ⟨a, b, c, rfl, ha, h1, h2⟩)
  rw [show r = _ from hr]
  have h1 := (fmod_nn (t := 1152921504606846397) (abs_nn c) (by decide)).1
  have h2 : (0 : Int) ≤ if decide (c < 0) = true then 1 else 0 := by split <;> decide
  show (0 : Int) ≤ Int.fmod (if c < 0 then -c else c) 1152921504606846397 * 73 + 811 * (n : Int) + 43 * (if decide (c < 0) = true then 1 else 0) + 19
  omega
def F__law_pick : Pm Tx := fun Γ cs R => (∃ (p : Addr) (x : Tx), cs = [⟨(⟨p⟩ : Z.Loc)⟩, ⟨x⟩] ∧ (p, DiceI) ∈ Γ ∧ 1 ≤ x.s.length ∧ x.s.length ≤ 100000 ∧ R = fun y => ∃ i, i < x.s.length ∧ y = ⟨[sg x i]⟩) ∨
  ∃ (p q : Addr) (xs : List Tx), cs = [⟨(⟨p⟩ : Z.Loc)⟩, ⟨(⟨q⟩ : Z.Loc)⟩] ∧ (p, DiceI) ∈ Γ ∧ OwnL q xs ∈ Γ ∧ 1 ≤ xs.length ∧ xs.length ≤ 1000 ∧ R = fun y => y ∈ xs
theorem sc__law_pick : FnScope ["_law_dice_here", "_law_items"] ["_law_dice_here", "_law_items"] (defScope s__law_pick) := ⟨rfl, rfl, rfl, by decide +kernel, rfl, by decide +kernel, by decide +kernel⟩
theorem ok__law_pick (T : Txt K mg) {f : Addr} {fd : FuncData} (D : Df K mg "_law_pick" s__law_pick ["_law_dice_here", "_law_items"] f fd) {f__law_roll : Addr} {fd__law_roll : FuncData} (D__law_roll : Df K mg "_law_roll" s__law_roll ["_law_dice_here", "_law_total"] f__law_roll fd__law_roll) (G__law_roll : FnOk P w K mg base CX0 2 f__law_roll fd__law_roll ["_law_dice_here", "_law_total"] (spD K F__law_roll)) : FnOk P w K mg base CX0 3 f fd ["_law_dice_here", "_law_items"] (spD K F__law_pick) := by
  obtain ⟨_, hI_SHIFT⟩ := T.i_SHIFT
  obtain ⟨_, hI_LOW⟩ := T.i_LOW
  obtain ⟨_, hI_MAX_THINGS⟩ := T.i_MAX_THINGS
  refine def_ok D.F sc__law_pick (fun Γ cs R g => ?len) (fun cdv A outer s H E hr Γ cs R g => ?_)
  case len =>
    rcases g with ⟨p, x, rfl, _⟩ | ⟨p, q, xs, rfl, _⟩
    · rfl
    · rfl
  rcases g with ⟨p, x, rfl, hp, h1, h2, rfl⟩ | ⟨p, q, xs, rfl, hp, hq, h1, h2, rfl⟩
  · refine ⟨_, (pss_one (ps_ret (pe_ix ix_str (pv 1) (pe_call G__law_roll (hr.mono (by decide)) (by rfl) D__law_roll.g D__law_roll.kp D__law_roll.b .nil pass0 (pa_cons (pv 0) (pa_cons (pe_callB call_lenK (by rfl) T.z_len (by decide +kernel) (pa_cons (pv 1) pa_nil)) pa_nil))) (fun _ _ => rfl)))), fun Δ0 D' hf hn => wp_ret hf ?_⟩
    refine ev_opP (ev_var (i := 1) (a := x)) (ev_call1 (ea_1 (ev_var (i := 0)) (ea_1 (ev_cb (ev_var (i := 1)) (o1_lenS h2)) ea_nil)) ⟨p, _, rfl, hp, by omega, by omega, rfl⟩) fun a r ha hr => ⟨⟨[sg x r.toNat]⟩, ?_, r.toNat, by omega, rfl⟩
    rw [show a = x from ha]
    have e : r = ((r.toNat : Nat) : Int) := (Int.toNat_of_nonneg hr.1).symm
    rw [e, Int.toNat_natCast]
    exact o2_ixS h2 (sg_at (by omega))
  · refine ⟨_, (pss_one (ps_ret (pe_ix ix_listK (pv 1) (pe_call G__law_roll (hr.mono (by decide)) (by rfl) D__law_roll.g D__law_roll.kp D__law_roll.b .nil pass0 (pa_cons (pv 0) (pa_cons (pe_callB call_lenK (by rfl) T.z_len (by decide +kernel) (pa_cons (pv 1) pa_nil)) pa_nil))) (fun _ _ => rfl)))), fun Δ0 D' hf hn => wp_ret hf ?_⟩
    exact ev_ixO hq (ev_var (i := 1)) (ev_call1 (ea_1 (ev_var (i := 0)) (ea_1 (ev_lenO hq (ev_var (i := 1))) ea_nil)) ⟨p, _, rfl, hp, by omega, by omega, rfl⟩)
theorem Fp1 {Γ : Own} {p : Addr} {x : Tx} (hp : (p, DiceI) ∈ Γ) (h1 : 1 ≤ x.s.length) (h2 : x.s.length ≤ 100000) : F__law_pick Γ [⟨(⟨p⟩ : Z.Loc)⟩, ⟨x⟩] (fun y => ∃ i, i < x.s.length ∧ y = ⟨[sg x i]⟩) := .inl ⟨p, x, rfl, hp, h1, h2, rfl⟩
theorem Fp2 {Γ : Own} {p q : Addr} {xs : List Tx} (hp : (p, DiceI) ∈ Γ) (hq : OwnL q xs ∈ Γ) (h1 : 1 ≤ xs.length) (h2 : xs.length ≤ 1000) : F__law_pick Γ [⟨(⟨p⟩ : Z.Loc)⟩, ⟨(⟨q⟩ : Z.Loc)⟩] (fun y => y ∈ xs) := .inr ⟨p, q, xs, rfl, hp, hq, h1, h2, rfl⟩
def F__law_flip : Pm Tx := fun _ cs R => ∃ c : Nat, cs = [⟨(⟨[c]⟩ : Tx)⟩] ∧ isSign c = true ∧ R = Is ⟨[sw c]⟩
theorem sc__law_flip : FnScope ["_law_sign"] ["_law_sign"] (defScope s__law_flip) := ⟨rfl, rfl, rfl, by decide +kernel, rfl, by decide +kernel, by decide +kernel⟩
theorem ok__law_flip (T : Txt K mg) {f : Addr} {fd : FuncData} (D : Df K mg "_law_flip" s__law_flip ["_law_sign"] f fd) : FnOk P w K mg base CX0 2 f fd ["_law_sign"] (spD K F__law_flip) := by
  obtain ⟨_, hI_SHIFT⟩ := T.i_SHIFT
  obtain ⟨_, hI_LOW⟩ := T.i_LOW
  obtain ⟨_, hI_MAX_THINGS⟩ := T.i_MAX_THINGS
  refine def_ok D.F sc__law_flip (fun Γ cs R g => ?len) (fun cdv A outer s H E hr Γ cs R g => ?_)
  case len => obtain ⟨c, rfl, _⟩ := g; rfl
  obtain ⟨c, rfl, hc, rfl⟩ := g
  refine ⟨_, (pss_one (ps_ret (pe_dget (hu_of hr) (pe_disp (pps_cons pe_str pe_str (pps_cons pe_str pe_str (pps_cons pe_str pe_str pps_nil))) (by rfl) (by rfl) (fun z => by cases z) (by decide)) (pv 0) (fun _ _ => rfl)))), fun Δ0 D' hf hn => wp_ret hf (ev_flip hc (ev_var (i := 0)))⟩
def F__law_turn : Pm Tx := fun _ cs R => ∃ x : Tx, cs = [⟨x⟩] ∧ Row x ∧ R = Is (tn x)
theorem sc__law_turn : FnScope ["_law_row", "_law_sign"] ["_law_row"] (defScope s__law_turn) := ⟨rfl, rfl, rfl, by decide +kernel, rfl, by decide +kernel, by decide +kernel⟩
theorem ok__law_turn (T : Txt K mg) {f : Addr} {fd : FuncData} (D : Df K mg "_law_turn" s__law_turn ["_law_row"] f fd) {f__law_flip : Addr} {fd__law_flip : FuncData} (D__law_flip : Df K mg "_law_flip" s__law_flip ["_law_sign"] f__law_flip fd__law_flip) (G__law_flip : FnOk P w K mg base CX0 2 f__law_flip fd__law_flip ["_law_sign"] (spD K F__law_flip)) : FnOk P w K mg base CX0 3 f fd ["_law_row"] (spD K F__law_turn) := by
  obtain ⟨_, hI_SHIFT⟩ := T.i_SHIFT
  obtain ⟨_, hI_LOW⟩ := T.i_LOW
  obtain ⟨_, hI_MAX_THINGS⟩ := T.i_MAX_THINGS
  refine def_ok D.F sc__law_turn (fun Γ cs R g => ?len) (fun cdv A outer s H E hr Γ cs R g => ?_)
  case len => obtain ⟨c, rfl, _⟩ := g; rfl
  obtain ⟨x, rfl, hx, rfl⟩ := g
  refine ⟨_, (pss_one (ps_ret (pe_joinK pe_str (pe_lc (own := [("_law_sign", 1)]) (g := (gName 1)) (tt := tYes) rfl sc__law_turn.nd (pi_str (pv 0)) (blkOk_by (N := ["_law_row", "_law_sign"]) (sc := defScope s__law_turn) (by decide +kernel)) (fun _ _ _ _ _ => (pg_name (i := 1) sc__law_turn.nd rfl (by first | exact .inl rfl | exact .inr rfl))) (fun _ _ _ _ _ => pts_nil) (fun _ _ _ _ _ => (pe_call G__law_flip (hr.mono (by decide)) (by rfl) D__law_flip.g D__law_flip.kp D__law_flip.b .nil pass0 (pa_cons (pv 1) pa_nil))))))), fun Δ0 D' hf hn => wp_ret hf (ev_mk hx.len (src_str (ev_var (i := 0)) (fun i hi => sg_at hi) (ltr rfl)) (by decide) fun i hi => ?_)⟩
  exact ev_call1 (ea_1 (ev_var (i := 1)) ea_nil) ⟨_, rfl, hx.sg hi, rfl⟩
def F__law_turn_at : Pm Tx := fun _ cs R => ∃ (x : Tx) (t : Tup Int), cs = [⟨x⟩, ⟨t⟩] ∧ Row x ∧ R = Is (tnAt x t.l)
theorem sc__law_turn_at : FnScope ["_law_row", "_law_things", "_law_at", "_law_sign"] ["_law_row", "_law_things"] (defScope s__law_turn_at) := ⟨rfl, rfl, rfl, by decide +kernel, rfl, by decide +kernel, by decide +kernel⟩
theorem ok__law_turn_at (T : Txt K mg) {f : Addr} {fd : FuncData} (D : Df K mg "_law_turn_at" s__law_turn_at ["_law_row", "_law_things"] f fd) {f__law_flip : Addr} {fd__law_flip : FuncData} (D__law_flip : Df K mg "_law_flip" s__law_flip ["_law_sign"] f__law_flip fd__law_flip) (G__law_flip : FnOk P w K mg base CX0 2 f__law_flip fd__law_flip ["_law_sign"] (spD K F__law_flip)) : FnOk P w K mg base CX0 3 f fd ["_law_row", "_law_things"] (spD K F__law_turn_at) := by
  obtain ⟨_, hI_SHIFT⟩ := T.i_SHIFT
  obtain ⟨_, hI_LOW⟩ := T.i_LOW
  obtain ⟨_, hI_MAX_THINGS⟩ := T.i_MAX_THINGS
  refine def_ok D.F sc__law_turn_at (fun Γ cs R g => ?len) (fun cdv A outer s H E hr Γ cs R g => ?_)
  case len => obtain ⟨c, t, rfl, _⟩ := g; rfl
  obtain ⟨x, t, rfl, hx, rfl⟩ := g
  refine ⟨_, (pss_one (ps_ret (pe_joinK pe_str (pe_lc (own := [("_law_at", 2), ("_law_sign", 3)]) (g := (gTup K 2 (gCons (gName 2) (gCons (gName 3) gNil)))) (tt := tYes) rfl sc__law_turn_at.nd (pi_enumS (by rfl) T.z_enumerate (pa_cons (pv 0) pa_nil)) (blkOk_by (N := ["_law_row", "_law_things", "_law_at", "_law_sign"]) (sc := defScope s__law_turn_at) (by decide +kernel)) (fun _ _ _ _ _ => (pg_tup rfl (pgs_cons (pg_name (i := 2) sc__law_turn_at.nd rfl (by first | exact .inl rfl | exact .inr rfl)) (pgs_cons (pg_name (i := 3) sc__law_turn_at.nd rfl (by first | exact .inl rfl | exact .inr rfl)) pgs_nil)))) (fun _ _ _ _ _ => pts_nil) (fun _ _ _ _ _ => (pe_ifExp (pt_cmpR op_inK (pv 2) (pv 1) (by rfl)) (pe_call G__law_flip (hr.mono (by decide)) (by rfl) D__law_flip.g D__law_flip.kp D__law_flip.b .nil pass0 (pa_cons (pv 3) pa_nil)) (pv 3))))))), fun Δ0 D' hf hn => wp_ret hf (ev_mk hx.len (src_enumS (ea_1 (ev_var (i := 0)) ea_nil) (fun i hi => sg_at hi) (ltr rfl) (ltr rfl)) (by decide) fun i hi => ?_)⟩
  refine ev_if (et_test (ev_op1 (ev_var (i := 2)) (ev_var (i := 1) (a := t)) o2_inT)) (fun h => ?_) (fun h => ?_)
  · rw [if_pos (of_decide_eq_true h)]
    exact ev_call1 (ea_1 (ev_var (i := 3)) ea_nil) ⟨_, rfl, hx.sg hi, rfl⟩
  · rw [if_neg (of_decide_eq_false h)]
    exact ev_var (i := 3)
def hasI (x : Tx) : List Int := ix x.s.length fun i => !decide (sg x i = 48)
theorem tx_ne {a b : Nat} : (!decide ((⟨[a]⟩ : Tx) = ⟨[b]⟩)) = !decide (a = b) := by rw [decide_eq_decide.mpr tx1]
def F__law_held : Pm (Tup Int) := fun _ cs R => ∃ (x : Tx), cs = [⟨x⟩] ∧ Row x ∧ R = Is ⟨hasI x⟩
theorem sc__law_held : FnScope ["_law_row", "_law_at", "_law_sign"] ["_law_row"] (defScope s__law_held) := ⟨rfl, rfl, rfl, by decide +kernel, rfl, by decide +kernel, by decide +kernel⟩
theorem ok__law_held (T : Txt K mg) {f : Addr} {fd : FuncData} (D : Df K mg "_law_held" s__law_held ["_law_row"] f fd) : FnOk P w K mg base CX0 2 f fd ["_law_row"] (spD K F__law_held) := by
  obtain ⟨_, hI_SHIFT⟩ := T.i_SHIFT
  obtain ⟨_, hI_LOW⟩ := T.i_LOW
  obtain ⟨_, hI_MAX_THINGS⟩ := T.i_MAX_THINGS
  refine def_ok D.F sc__law_held (fun Γ cs R g => ?len) (fun cdv A outer s H E hr Γ cs R g => ?_)
  case len => obtain ⟨x, rfl, _⟩ := g; rfl
  obtain ⟨x, rfl, hx, rfl⟩ := g
  refine ⟨_, (pss_one (ps_ret (pe_callTy call_tupK (by rfl) T.z_tuple (by decide +kernel) (pa_cons (pe_lc (own := [("_law_at", 1), ("_law_sign", 2)]) (g := (gTup K 2 (gCons (gName 1) (gCons (gName 2) gNil)))) (tt := _) rfl sc__law_held.nd (pi_enumS (by rfl) T.z_enumerate (pa_cons (pv 0) pa_nil)) (blkOk_by (N := ["_law_row", "_law_at", "_law_sign"]) (sc := defScope s__law_held) (by decide +kernel)) (fun _ _ _ _ _ => (pg_tup rfl (pgs_cons (pg_name (i := 1) sc__law_held.nd rfl (by first | exact .inl rfl | exact .inr rfl)) (pgs_cons (pg_name (i := 2) sc__law_held.nd rfl (by first | exact .inl rfl | exact .inr rfl)) pgs_nil)))) (fun _ _ _ _ _ => (pts_one (pt_cmpR op_ne (pv 2) pe_str (nomark _)))) (fun _ _ _ _ _ => (pv 1))) pa_nil)))), fun Δ0 D' hf hn => ?_⟩
  exact wp_ret hf (ev_cb (ev_ix hx.len (src_enumS (ea_1 (ev_var (i := 0)) ea_nil) (fun i hi => sg_at hi) (ltr rfl) (ltr rfl)) (by decide) fun i hi => ⟨et_is (et_test (ev_op1 (ev_var (i := 2)) (ev_strc [48]) o2_neS)) tx_ne, ev_var (i := 1)⟩) o1_tuple)
theorem flat_signs : ∀ {xs : List Tx}, (∀ y ∈ xs, ∃ c, isSign c = true ∧ y = (⟨[c]⟩ : Tx)) → ((xs.map (·.s)).flatten).length = xs.length ∧ ((xs.map (·.s)).flatten).all isSign = true
  | [], _ => ⟨rfl, rfl⟩
  | x :: xs, h => by
    obtain ⟨c, hc, rfl⟩ := h x List.mem_cons_self
    obtain ⟨h1, h2⟩ := flat_signs fun y hy => h y (List.mem_cons_of_mem _ hy)
    constructor
    · simp only [List.map_cons, List.flatten_cons, List.length_append, List.length_cons, List.length_nil, h1]
      omega
    · simp only [List.map_cons, List.flatten_cons, List.all_append, h2, List.all_cons, hc]
      rfl
abbrev DR (n : Nat) : Tx → Prop := fun x => Row x ∧ x.s.length = n
def F__law_drawn_row : Pm Tx := fun Γ cs R => ∃ (p : Addr) (n : Nat), cs = [⟨(⟨p⟩ : Z.Loc)⟩, ⟨(n : Int)⟩] ∧ (p, DiceI) ∈ Γ ∧ n ≤ 9 ∧ R = DR n
theorem sgi3 {i : Nat} (hi : i < 3) : isSign (sg (⟨[43, 45, 48]⟩ : Tx) i) = true := by
  match i, hi with
  | 0, _ => rfl
  | 1, _ => rfl
  | 2, _ => rfl
theorem sc__law_drawn_row : FnScope ["_law_dice_here", "_law_size", "_law_at"] ["_law_dice_here", "_law_size"] (defScope s__law_drawn_row) := ⟨rfl, rfl, rfl, by decide +kernel, rfl, by decide +kernel, by decide +kernel⟩
theorem ok__law_drawn_row (T : Txt K mg) {f : Addr} {fd : FuncData} (D : Df K mg "_law_drawn_row" s__law_drawn_row ["_law_dice_here", "_law_size"] f fd) {f__law_pick : Addr} {fd__law_pick : FuncData} (D__law_pick : Df K mg "_law_pick" s__law_pick ["_law_dice_here", "_law_items"] f__law_pick fd__law_pick) (G__law_pick : FnOk P w K mg base CX0 3 f__law_pick fd__law_pick ["_law_dice_here", "_law_items"] (spD K F__law_pick)) : FnOk P w K mg base CX0 4 f fd ["_law_dice_here", "_law_size"] (spD K F__law_drawn_row) := by
  obtain ⟨_, hI_SHIFT⟩ := T.i_SHIFT
  obtain ⟨_, hI_LOW⟩ := T.i_LOW
  obtain ⟨_, hI_MAX_THINGS⟩ := T.i_MAX_THINGS
  refine def_ok D.F sc__law_drawn_row (fun Γ cs R g => ?len) (fun cdv A outer s H E hr Γ cs R g => ?_)
  case len => obtain ⟨x, n, rfl, _⟩ := g; rfl
  obtain ⟨p, n, rfl, hp, hn9, rfl⟩ := g
  refine ⟨_, (pss_one (ps_ret (pe_joinK pe_str (pe_lc (own := [("_law_at", 2)]) (g := (gName 2)) (tt := tYes) rfl sc__law_drawn_row.nd (pi_range1 (by rfl) T.z_range (pa_cons (pv 1) pa_nil)) (blkOk_by (N := ["_law_dice_here", "_law_size", "_law_at"]) (sc := defScope s__law_drawn_row) (by decide +kernel)) (fun _ _ _ _ _ => (pg_name (i := 2) sc__law_drawn_row.nd rfl (by first | exact .inl rfl | exact .inr rfl))) (fun _ _ _ _ _ => pts_nil) (fun _ _ _ _ _ => (pe_call G__law_pick (hr.mono (by decide)) (by rfl) D__law_pick.g D__law_pick.kp D__law_pick.b .nil pass0 (pa_cons (pv 0) (pa_cons pe_str pa_nil)))))))), fun Δ0 D' hf hn => wp_ret hf ?_⟩
  refine (ev_joinP rfl (ev_lc (fun i (acc : List Tx) => acc.length = i ∧ ∀ y ∈ acc, ∃ c, isSign c = true ∧ y = (⟨[c]⟩ : Tx)) (src_rng1 (n := n) (ea_1 (ev_var (i := 1)) ea_nil) (by omega) (ltr rfl)) (by omega) (by decide) ⟨rfl, fun y hy => by cases hy⟩ fun i acc hi ⟨h1, h2⟩ => ⟨_, et_yes, fun h => (by cases h), fun _ => ⟨_, ev_call1 (ea_1 (ev_var (i := 0)) (ea_1 (ev_strc [43, 45, 48]) ea_nil)) (Fp1 hp (by decide) (by decide)), fun b hb => ?_⟩⟩) fun xs h => ?_).imp fun x h => ?_
  · obtain ⟨j, hj, rfl⟩ := hb
    refine ⟨by rw [List.length_append, h1]; rfl, fun y hy => ?_⟩
    rcases List.mem_append.mp hy with hy | hy
    · exact h2 y hy
    · rw [List.mem_singleton.mp hy]
      exact ⟨_, sgi3 hj, rfl⟩
  · rw [(flat_signs h.2).1]
    omega
  · obtain ⟨xs, ⟨h1, h2⟩, rfl⟩ := h
    obtain ⟨q1, q2⟩ := flat_signs h2
    exact ⟨⟨q2, by show _ ≤ 9; rw [q1]; omega⟩, by show _ = n; rw [q1]; exact h1⟩
end
end K02

set_option Elab.async false
set_option linter.all false
set_option maxRecDepth 100000
set_option maxHeartbeats 1000000
namespace K02
open PySem PySem.Spec PyProof.Rows L2 Z K00
theorem revInd {α : Type} {P : List α → Prop} (l : List α) (nil : P []) (snoc : ∀ (l : List α) (x : α), P l → P (l ++ [x])) : P l := by
  have h : ∀ k : List α, P k.reverse := by
    intro k
    induction k with
    | nil => exact nil
    | cons a k ih => rw [List.reverse_cons]; exact snoc _ _ ih
  have := h l.reverse
  rw [List.reverse_reverse] at this
  exact this
/-- the things of a row, as bits -/
def maskN (c : Nat) : Nat := (c / 2 ^ 9 ||| c) &&& 511
/-- some of the masks lies within -/
def anyIn (m : Nat) (ms : List Nat) : Bool := ms.any fun o => decide (o &&& m = o)
/-- one after the other, those are kept in which none of the kept ones lies -/
def lmS (acc : List Nat) (m : Nat) : List Nat := if anyIn m acc = true then acc else acc ++ [m]
def lmA (ls : List Nat) : List Nat := ls.foldl lmS []
theorem lmA_snoc (l : List Nat) (x : Nat) : lmA (l ++ [x]) = lmS (lmA l) x := by unfold lmA; rw [List.foldl_append]; rfl
theorem lmA_len : ∀ l : List Nat, (lmA l).length ≤ l.length := by
  intro l
  induction l using revInd with
  | nil => exact Nat.le_refl _
  | snoc l x ih =>
    rw [lmA_snoc]
    unfold lmS
    split
    · rw [List.length_append]; omega
    · rw [List.length_append, List.length_append]
      show _ + 1 ≤ _ + 1
      omega
theorem anyIn_iff {m : Nat} {ms : List Nat} : anyIn m ms = true ↔ ∃ p ∈ ms, p &&& m = p := by
  unfold anyIn
  rw [List.any_eq_true]
  exact ⟨fun ⟨p, h, e⟩ => ⟨p, h, of_decide_eq_true e⟩, fun ⟨p, h, e⟩ => ⟨p, h, decide_eq_true e⟩⟩
theorem lmA_up {l : List Nat} {x p : Nat} (h : p ∈ lmA l) : p ∈ lmA (l ++ [x]) := by
  rw [lmA_snoc]
  unfold lmS
  split
  · exact h
  · exact List.mem_append_left _ h
theorem lmA_ex : ∀ (l : List Nat), ∀ o ∈ l, ∃ p ∈ lmA l, p &&& o = p := by
  intro l
  induction l using revInd with
  | nil => intro o h; cases h
  | snoc l x ih =>
    intro o h
    rcases List.mem_append.mp h with h | h
    · obtain ⟨p, hp, e⟩ := ih o h
      exact ⟨p, lmA_up hp, e⟩
    · rw [List.mem_singleton.mp h, lmA_snoc]
      unfold lmS
      split
      · next ha => exact anyIn_iff.mp ha
      · exact ⟨x, List.mem_append_right _ List.mem_cons_self, Nat.and_self x⟩
theorem and_tr {a b c : Nat} (h1 : a &&& b = a) (h2 : b &&& c = b) : a &&& c = a := by
  rw [← h1, Nat.and_assoc, h2]
theorem lmA_mem : ∀ (l : List Nat), l.Pairwise (fun x y => Zk.pc x ≤ Zk.pc y) → ∀ m, m ∈ lmA l ↔ (m ∈ l ∧ ∀ o ∈ l, o &&& m = o → o = m) := by
  intro l
  induction l using revInd with
  | nil =>
    intro _ m
    exact ⟨(fun h => by cases h), fun h => by cases h.1⟩
  | snoc l x ih =>
    intro hp m
    obtain ⟨hp1, _, hp2⟩ := List.pairwise_append.mp hp
    have ih := ih hp1
    have up : ∀ m, m ∈ l → (∀ o ∈ l, o &&& m = o → o = m) → ∀ o ∈ l ++ [x], o &&& m = o → o = m := fun m hm h o ho e => by
      rcases List.mem_append.mp ho with z | z
      · exact h o z e
      · rw [List.mem_singleton.mp z] at e ⊢
        have h1 := hp2 m hm x List.mem_cons_self
        have h2 := Zk.pc_sub x m e
        exact h2.2 (by omega)
    rw [lmA_snoc]
    unfold lmS
    split
    · next ha =>
      obtain ⟨p, hpm, ep⟩ := anyIn_iff.mp ha
      constructor
      · intro h
        obtain ⟨h1, h2⟩ := (ih m).mp h
        exact ⟨List.mem_append_left _ h1, up m h1 h2⟩
      · rintro ⟨h1, h2⟩
        rcases List.mem_append.mp h1 with z | z
        · exact (ih m).mpr ⟨z, fun o ho => h2 o (List.mem_append_left _ ho)⟩
        · have em := List.mem_singleton.mp z
          have := h2 p (List.mem_append_left _ ((ih p).mp hpm).1) (by rw [em]; exact ep)
          rw [← this]
          exact hpm
    · next ha =>
      rw [List.mem_append]
      constructor
      · rintro (h | h)
        · obtain ⟨h1, h2⟩ := (ih m).mp h
          exact ⟨List.mem_append_left _ h1, up m h1 h2⟩
        · have em := List.mem_singleton.mp h
          subst em
          refine ⟨List.mem_append_right _ h, fun o ho e => ?_⟩
          rcases List.mem_append.mp ho with z | z
          · obtain ⟨p, hpm, ep⟩ := lmA_ex l o z
            exact absurd (anyIn_iff.mpr ⟨p, hpm, and_tr ep e⟩) ha
          · exact List.mem_singleton.mp z
      · rintro ⟨h1, h2⟩
        rcases List.mem_append.mp h1 with z | z
        · exact .inl ((ih m).mpr ⟨z, fun o ho => h2 o (List.mem_append_left _ ho)⟩)
        · exact .inr z
/-- those other than 0 in which no other one lies -/
def IsLM (ms ls : List Nat) : Prop := ∀ m, m ∈ ls ↔ (m ∈ ms ∧ m ≠ 0 ∧ ∀ o ∈ ms, o ≠ 0 → o &&& m = o → o = m)
theorem isLM {ms ls : List Nat} (hp : ls.Perm (ms.filter fun m => !decide (m = 0))) (hw : ls.Pairwise fun x y => Zk.pc x ≤ Zk.pc y) : IsLM ms (lmA ls) := fun m => by
  have hm : ∀ o, o ∈ ls ↔ (o ∈ ms ∧ o ≠ 0) := fun o => by
    rw [hp.mem_iff, List.mem_filter]
    simp
  rw [lmA_mem ls hw m, hm]
  constructor
  · rintro ⟨⟨h1, h2⟩, h3⟩
    exact ⟨h1, h2, fun o ho o0 e => h3 o ((hm o).mpr ⟨ho, o0⟩) e⟩
  · rintro ⟨h1, h2, h3⟩
    exact ⟨⟨h1, h2⟩, fun o ho e => h3 o ((hm o).mp ho).1 ((hm o).mp ho).2 e⟩
abbrev zs (ms : List Nat) : List Int := ms.map fun i => ((i : Nat) : Int)
section
variable {P : Program} {w : World} {K : PySem.W.Frag} {mg : Str → Option Value} {base : Heap}
def F_mask_of : Pm Int := fun _ cs R => ∃ c : Nat, cs = [⟨(c : Int)⟩] ∧ R = Is ((maskN c : Nat) : Int)
theorem sc_mask_of : FnScope ["code"] ["code"] (defScope s_mask_of) := ⟨rfl, rfl, rfl, by decide +kernel, rfl, by decide +kernel, by decide +kernel⟩
theorem ok_mask_of (T : Txt K mg) {f : Addr} {fd : FuncData} (D : Df K mg "mask_of" s_mask_of ["code"] f fd) : FnOk P w K mg base CX0 2 f fd ["code"] (spD K F_mask_of) := by
  obtain ⟨_, hI_SHIFT⟩ := T.i_SHIFT
  obtain ⟨_, hI_LOW⟩ := T.i_LOW
  obtain ⟨_, hI_MAX_THINGS⟩ := T.i_MAX_THINGS
  refine def_ok D.F sc_mask_of (fun Γ cs R g => ?len) (fun cdv A outer s H E hr Γ cs R g => ?_)
  case len => obtain ⟨x, rfl, _⟩ := g; rfl
  obtain ⟨c, rfl, rfl⟩ := g
  refine ⟨_, (pss_one (ps_ret (pe_op op_and (pe_op op_or (pe_op op_shr (pv 0) (pe_glob (v := .int 9) rfl hI_SHIFT ⟨_, rfl⟩)) (pv 0)) (pe_glob (v := .int 511) rfl hI_LOW ⟨_, rfl⟩)))), fun Δ0 D' hf hn => wp_ret hf ?_⟩
  refine ev_is (ev_op1 (ev_op1 (ev_op1 ev_var ev_int (o2_I (g := fun i j => i / 2 ^ j.toNat) (by decide))) ev_var (o2_I0 (g := Builtin.bitOr))) ev_int (o2_I0 (g := Builtin.bitAnd))) ?_
  have e1 : (c : Int) / 2 ^ (9 : Int).toNat = ((c / 2 ^ 9 : Nat) : Int) := by norm_cast
  rw [e1, or_nn, show (511 : Int) = ((511 : Nat) : Int) from rfl, and_nn]
  rfl
def F_size_of : Pm Int := fun _ cs R => ∃ m : Nat, cs = [⟨(m : Int)⟩] ∧ m < 1048576 ∧ R = Is ((Zk.pc m : Nat) : Int)
theorem bit_line {m : Nat} (h : m < 1048576) : (Zk.bitL m).length ≤ sizeLine := Nat.le_trans (Zk.bitL_len m 19 h) (by decide)
theorem sc_size_of : FnScope ["mask"] ["mask"] (defScope s_size_of) := ⟨rfl, rfl, rfl, by decide +kernel, rfl, by decide +kernel, by decide +kernel⟩
theorem ok_size_of (T : Txt K mg) {f : Addr} {fd : FuncData} (D : Df K mg "size_of" s_size_of ["mask"] f fd) : FnOk P w K mg base CX0 2 f fd ["mask"] (spD K F_size_of) := by
  obtain ⟨_, hI_SHIFT⟩ := T.i_SHIFT
  obtain ⟨_, hI_LOW⟩ := T.i_LOW
  obtain ⟨_, hI_MAX_THINGS⟩ := T.i_MAX_THINGS
  refine def_ok D.F sc_size_of (fun Γ cs R g => ?len) (fun cdv A outer s H E hr Γ cs R g => ?_)
  case len => obtain ⟨m, rfl, _⟩ := g; rfl
  obtain ⟨m, rfl, hm, rfl⟩ := g
  exact ⟨_, (pss_one (ps_ret (pe_bm PySem.F.plainAttrs_str PySem.F.slot_str_count PySem.F.type_str_count mt_count (pe_joined1 (pe_fmtB (pv 0))) (pa_cons pe_str pa_nil)))), fun Δ0 D' hf hn => wp_ret hf (ev_countBits (bit_line hm) ev_var)⟩
abbrev IvH (Γ : Own) (m : Nat) (ms : List Nat) : Nat → Own → Z.Env → Prop := fun i Γ' ρ' => Γ' = Γ ∧ anyIn m (ms.take i) = false ∧ ∃ a, ρ' = [some ⟨(m : Int)⟩, some ⟨zs ms⟩, a]
def F_has_within : Pm Bool := fun _ cs R => ∃ (m : Nat) (ms : List Nat), cs = [⟨(m : Int)⟩, ⟨zs ms⟩] ∧ R = Is (anyIn m ms)
theorem sc_has_within : FnScope ["whole", "parts", "part"] ["whole", "parts"] (defScope s_has_within) := ⟨rfl, rfl, rfl, by decide +kernel, rfl, by decide +kernel, by decide +kernel⟩
theorem ok_has_within (T : Txt K mg) {f : Addr} {fd : FuncData} (D : Df K mg "has_within" s_has_within ["whole", "parts"] f fd) : FnOk P w K mg base CX0 2 f fd ["whole", "parts"] (spD K F_has_within) := by
  obtain ⟨_, hI_SHIFT⟩ := T.i_SHIFT
  obtain ⟨_, hI_LOW⟩ := T.i_LOW
  obtain ⟨_, hI_MAX_THINGS⟩ := T.i_MAX_THINGS
  refine def_ok D.F sc_has_within (fun Γ cs R g => ?len) (fun cdv A outer s H E hr Γ cs R g => ?_)
  case len => obtain ⟨m, ms, rfl, _⟩ := g; rfl
  obtain ⟨m, ms, rfl, rfl⟩ := g
  refine ⟨_, (pss_cons (ps_for PassesOwn.never rfl (pi_listK (pv 1)) (pg_name (i := 2) sc_has_within.nd rfl (by first | exact .inl rfl | exact .inr rfl))
        (pss_one (ps_if (pt_cmpR op_eq (pe_op op_and (pv 2) (pv 0)) (pv 2) (nomark _)) (pss_one (ps_ret pe_bl)) pss_nil)))
      (pss_one (ps_ret pe_bl))), fun Δ0 D' hf hn => ?_⟩
  have hz : (zs ms).length = ms.length := List.length_map ..
  refine wp_for (IvH Γ m ms) (src_list (xs := zs ms) (x0 := fun i => ((ms.getD i 0 : Nat) : Int)) (ev_var (i := 1)) (fun i hi => ?_) (j := 2) (ltr rfl)) ⟨rfl, rfl, none, rfl⟩ (fun i Γ' ρ' h => by obtain ⟨_, _, a, rfl⟩ := h; rfl) ?_ ?_
  · rw [hz] at hi
    rw [List.getElem?_map, getD_of (d := 0) hi]
    rfl
  · rintro i Γ' ρ' F' hi ⟨rfl, ha, a, rfl⟩
    rw [hz] at hi
    have et : ms.take (i + 1) = ms.take i ++ [ms.getD i 0] := by
      rw [List.take_add_one, getD_of (d := 0) hi]
      rfl
    have one : anyIn m (ms.take (i + 1)) = decide (ms.getD i 0 &&& m = ms.getD i 0) := by
      unfold anyIn at ha ⊢
      rw [et, List.any_append, ha]
      simp
    refine wp_when (et_is (et_test (ev_op1 (ev_op1 (ev_var (i := 2)) (ev_var (i := 0) (a := (m : Int))) (o2_I0 (g := Builtin.bitAnd))) (ev_var (i := 2)) o2_eqI)) (b := anyIn m (ms.take (i + 1))) ?_) (fun h1 => ?_) (fun h1 => ?_)
    · rw [one, and_nn]
      exact decide_eq_decide.mpr Int.ofNat_inj
    · refine wp_ret hf (ev_is ev_bl ?_)
      unfold anyIn at h1 ⊢
      rw [← List.take_append_drop (i + 1) ms, List.any_append, h1]
      rfl
    · exact wp_turn (Iv := IvH Γ' m ms) ⟨rfl, h1, some ⟨((ms.getD i 0 : Nat) : Int)⟩, rfl⟩ rfl
  · rintro Γ' ρ' F' ⟨rfl, ha, a, rfl⟩
    rw [hz, List.take_length] at ha
    exact wp_ret hf (ev_is ev_bl ha.symm)
def F_least_masks : Pm (List Int) := fun _ cs R => ∃ (ms : List Nat), cs = [⟨zs ms⟩] ∧ ms.length ≤ 50000 ∧ (∀ m ∈ ms, m < 1048576) ∧ R = fun ys => ∃ ls : List Nat, ys = zs ls ∧ IsLM ms ls
abbrev IvLm (Γ : Own) (Δ0 : Gh) (ms : List Nat) (ys : List Int) : Nat → Own → Z.Env → Prop := fun i Γ' ρ' => ∃ (f : Addr) (ls : List Nat) (a b : Option Cell), ys = zs ls ∧ Γ' = OwnL f (zs (lmA (ls.take i))) :: Γ ∧ OwnP Δ0 Γ f ∧ ρ' = [some ⟨zs ms⟩, some ⟨(⟨f⟩ : Z.Loc)⟩, a, b]
theorem sc_least_masks : FnScope ["masks", "least", "mask", "one"] ["masks"] (defScope s_least_masks) := ⟨rfl, rfl, rfl, by decide +kernel, rfl, by decide +kernel, by decide +kernel⟩
theorem ok_least_masks (T : Txt K mg) {f : Addr} {fd : FuncData} (D : Df K mg "least_masks" s_least_masks ["masks"] f fd) {f_size_of : Addr} {fd_size_of : FuncData} (D_size_of : Df K mg "size_of" s_size_of ["mask"] f_size_of fd_size_of) (G_size_of : FnOk P w K mg base CX0 2 f_size_of fd_size_of ["mask"] (spD K F_size_of)) {f_has_within : Addr} {fd_has_within : FuncData} (D_has_within : Df K mg "has_within" s_has_within ["whole", "parts"] f_has_within fd_has_within) (G_has_within : FnOk P w K mg base CX0 2 f_has_within fd_has_within ["whole", "parts"] (spD K F_has_within)) : FnOk P w K mg base CX0 5 f fd ["masks"] (spD K F_least_masks) := by
  obtain ⟨_, hI_SHIFT⟩ := T.i_SHIFT
  obtain ⟨_, hI_LOW⟩ := T.i_LOW
  obtain ⟨_, hI_MAX_THINGS⟩ := T.i_MAX_THINGS
  refine def_ok D.F sc_least_masks (fun Γ cs R g => ?len) (fun cdv A outer s H E hr Γ cs R g => ?_)
  case len => obtain ⟨ms, rfl, _⟩ := g; rfl
  obtain ⟨ms, rfl, hl, hb, rfl⟩ := g
  refine ⟨_, (pss_cons (ps_set (i := 1) sc_least_masks.nd rfl (by first | exact .inl rfl | exact .inr rfl) (pe_lst pa_nil))
      (pss_cons (ps_for PassesOwn.never rfl (pi_listK (pe_callBK (cr_sortBits D_size_of.F D_size_of.b rfl rfl rfl (by decide +kernel) rfl rfl (hr.mono (by decide))) (by rfl) T.z_sorted (by decide +kernel) (pa_cons (pe_lc (own := [("one", 3)]) (g := (gName 3)) (tt := _) rfl sc_least_masks.nd (pi_listK (pv 0)) (blkOk_by (N := ["masks", "least", "mask", "one"]) (sc := defScope s_least_masks) (by decide +kernel)) (fun _ _ _ _ _ => (pg_name (i := 3) sc_least_masks.nd rfl (by first | exact .inl rfl | exact .inr rfl))) (fun _ _ _ _ _ => (pts_one (pt_cmpR op_ne (pv 3) pe_int (nomark _)))) (fun _ _ _ _ _ => (pv 3))) pa_nil) (pk_cons (pe_glob (v := .ref f_size_of) (u := .ref f_size_of) (by rfl) D_size_of.g rfl) pk_nil))) (pg_name (i := 2) sc_least_masks.nd rfl (by first | exact .inl rfl | exact .inr rfl))
        (pss_one (ps_if (pt_not (pt_val (pe_call G_has_within (hr.mono (by decide)) (by rfl) D_has_within.g D_has_within.kp D_has_within.b .nil pass0 (pa_cons (pv 2) (pa_cons (pv 1) pa_nil))))) (pss_one (ps_expr (pe_bm PySem.F.plainAttrs_list PySem.F.slot_list_append PySem.F.type_list_append mt_append (pv 1) (pa_cons (pv 2) pa_nil)))) pss_nil)))
      (pss_one (ps_ret (pv 1))))), fun Δ0 D' hf hn => ?_⟩
  have hz : (zs ms).length = ms.length := List.length_map ..
  have gx : ∀ {i : Nat} {x : Nat}, ms[i]? = some x → ms.getD i 0 = x := fun {i x} h => by
    rw [List.getD_eq_getElem?_getD, h]
    rfl
  refine wp_newL (α := Int) (ltr rfl) fun f of => ?_
  have S : Src K (OwnL f ([] : List Int) :: Γ) (iList K (tVar 0)) (gName 3) [some ⟨zs ms⟩, some ⟨(⟨f⟩ : Z.Loc)⟩, none, none] [3] ms.length (fun i ρ => ρ.set 3 (some ⟨((ms.getD i 0 : Nat) : Int)⟩)) := by
    rw [← hz]
    exact src_list (xs := zs ms) (x0 := fun i => ((ms.getD i 0 : Nat) : Int)) (ev_var (i := 0)) (fun i hi => by
      rw [hz] at hi
      rw [List.getElem?_map, getD_of (d := 0) hi]
      rfl) (ltr rfl)
  have hc := ev_lcD (K := K) (xs := ms) (te := tVar 3) (t := tTest (tOp rNe (tVar 3) (tC (.int 0)))) (fun m => !decide (m = 0)) (fun m => ((m : Nat) : Int)) S hl (vs := [3]) (by decide) fun i x hi => by
    have e := gx hi
    subst e
    refine ⟨et_is (et_test (ev_op1 (ev_var (i := 3) (a := ((ms.getD i 0 : Nat) : Int))) ev_int o2_neI)) ?_, fun _ => ev_var (i := 3)⟩
    congr 1
    exact decide_eq_decide.mpr (by omega)
  refine wp_forP (β := List Int) (IvLm Γ Δ0 ms) (srcP_list (ev_sortBits (f := _) hc fun m hm => bit_line (hb m (List.mem_filter.mp hm).1)) (j := 2) (ltr rfl)) ?_ (fun b i Γ' ρ' h => by obtain ⟨f, ls, a, b, _, _, _, rfl⟩ := h; rfl) ?_ ?_
  · rintro ys ⟨ls, rfl, _, _⟩
    exact ⟨f, ls, none, none, rfl, rfl, of, rfl⟩
  · rintro ys ⟨ls0, rfl, hp, hw⟩ i Γ' ρ' F' hi ⟨f, ls, a, b, e0, rfl, of, rfl⟩
    have el : ls0 = ls := by
      have e1 : Function.Injective (fun i : Nat => (i : Int)) := fun x y h => Int.ofNat_inj.mp h
      exact (List.map_inj_right (fun x y h => e1 h)).mp e0
    subst el
    have hi' : i < ls0.length := by
      change i < (zs ls0).length at hi
      rw [List.length_map] at hi
      exact hi
    have ex : (zs ls0).getD i default = ((ls0.getD i 0 : Nat) : Int) := by
      rw [List.getD_eq_getElem?_getD, List.getElem?_map, getD_of (d := 0) hi']
      rfl
    have et : ls0.take (i + 1) = ls0.take i ++ [ls0.getD i 0] := by
      rw [List.take_add_one, getD_of (d := 0) hi']
      rfl
    have hlen : (lmA (ls0.take i)).length < 50000 := by
      have h1 := lmA_len (ls0.take i)
      have h2 := hp.length_eq
      have h3 := List.length_filter_le (fun m => !decide (m = 0)) ms
      rw [List.length_take] at h1
      omega
    show Wp K Δ0 H _ F' [some ⟨zs ms⟩, some ⟨(⟨f⟩ : Z.Loc)⟩, some ⟨(zs ls0).getD i default⟩, b] _ _
    rw [ex]
    refine wp_if (et_not (et_B (ev_lend (i := 1) of.ne rfl (ev_call1 (ea_1 (ev_var (i := 2)) (ea_1 (ev_var (i := 1)) ea_nil)) ⟨ls0.getD i 0, lmA (ls0.take i), rfl, rfl⟩)))) (fun h1 => ?_) (fun h1 => ?_)
    · have h2 : anyIn (ls0.getD i 0) (lmA (ls0.take i)) = false := by simpa using h1
      refine wp_appL of (by rw [List.length_map]; exact hlen) (ev_var (i := 1)) (ev_var (i := 2)) fun y hy => ?_
      refine wp_turn (Iv := IvLm Γ Δ0 ms (zs ls0)) ⟨f, ls0, _, _, rfl, ?_, of, rfl⟩ rfl
      rw [et, lmA_snoc, lmS, h2, if_neg Bool.false_ne_true, show y = _ from hy]
      unfold zs
      rw [List.map_append]
      rfl
    · have h2 : anyIn (ls0.getD i 0) (lmA (ls0.take i)) = true := by simpa using h1
      refine wp_turn (Iv := IvLm Γ Δ0 ms (zs ls0)) ⟨f, ls0, _, _, rfl, ?_, of, rfl⟩ rfl
      rw [et, lmA_snoc, lmS, if_pos h2]
  · rintro ys ⟨ls0, rfl, hp, hw⟩ Γ' ρ' F' ⟨f, ls, a, b, e0, rfl, of, rfl⟩
    have el : ls0 = ls := by
      have e1 : Function.Injective (fun i : Nat => (i : Int)) := fun x y h => Int.ofNat_inj.mp h
      exact (List.map_inj_right (fun x y h => e1 h)).mp e0
    subst el
    rw [List.length_map, List.take_length]
    exact wp_retL of hf ⟨_, rfl, isLM hp hw⟩ (ev_var (i := 1))
end
end K02

set_option Elab.async false
set_option linter.all false
set_option maxRecDepth 100000
set_option maxHeartbeats 1000000
namespace K02
open PySem PySem.Spec PyProof.Rows L2 Z K00
/-- rows of n signs -/
def RowsN (n : Nat) (S : List Tx) : Prop := ∀ x ∈ S, x.s.length = n ∧ x.s.all isSign = true
/-- a lot of the rows S -/
structure LotIs (n : Nat) (S : List Tx) (L : LotD) : Prop where
  m : L.many = n
  r : L.rows = srt S
  k : ∀ x, x ∈ L.known ↔ x ∈ S
theorem LotOf.is {n : Nat} {S : List Tx} {L : LotD} (h : LotOf n S L) : LotIs n S L := ⟨h.1, srt_sorted h.2.2, fun x => by rw [h.2.1, onceT_mem]; simp⟩
theorem LotIs.congr {n : Nat} {S T : List Tx} {L : LotD} (h : LotIs n S L) (m : ∀ x, x ∈ S ↔ x ∈ T) : LotIs n T L := ⟨h.m, by rw [h.r, srt_congr m], fun x => by rw [h.k, m]⟩
theorem LotIs.ok {n : Nat} {S : List Tx} {L : LotD} (h : LotIs n S L) (h9 : n ≤ 9) (hl : S.length ≤ 50000) (hr : RowsN n S) : LotOk L := ⟨by rw [h.m]; exact h9, by rw [h.r]; exact Nat.le_trans srt_len hl, fun x hx => by rw [h.m]; exact hr x (srt_mem.mp (h.r ▸ hx)), fun x => by rw [h.r, srt_mem, h.k]⟩
theorem LotOk.row {L : LotD} (h : LotOk L) {x : Tx} (hx : x ∈ L.rows) : Row x := ⟨(h.rows x hx).2, by rw [(h.rows x hx).1]; exact h.m9⟩
theorem getL {xs : List Tx} {i : Nat} {x : Tx} (h : xs[i]? = some x) : xs.getD i ⟨[]⟩ = x := by
  rw [List.getD_eq_getElem?_getD, h]
  rfl
theorem fmap_true {α β : Type} (xs : List α) (f : α → β) : (xs.filter fun _ => true).map f = xs.map f := by rw [List.filter_eq_self.mpr (fun _ _ => rfl)]
def lotText (a b : Nat) : Tx := ⟨((toString (a : Int) : String) : Str).cps.toList ++ (" rows of " : Str).cps.toList ++ ((toString (b : Int) : String) : Str).cps.toList ++ (" signs" : Str).cps.toList⟩
theorem tx_ok {x : Tx} (h : Row x) : PyData.canLay0 (Dt.d x) = true := by
  show (x.s.toArray.all fun c => decide (c < 0x110000)) = true
  rw [List.all_toArray, List.all_eq_true]
  intro c hc
  have q := List.all_eq_true.mp h.all c hc
  unfold isSign at q
  simp only [Bool.or_eq_true, beq_iff_eq] at q
  have : c < 0x110000 := by omega
  simpa using this
section
variable {P : Program} {w : World} {K : PySem.W.Frag} {mg : Str → Option Value} {base : Heap}
theorem dv_non2 : ∀ (Δ : Gh) (H : Hp), ArgsOk K Δ H [V.non] [⟨()⟩] := fun _ _ => ⟨rfl, trivial⟩
theorem Ft1 {Γ : Own} {x : Tx} (h : Row x) : F_turned Γ ([⟨x⟩] ++ [⟨()⟩]) (Is (tn x)) := .inl ⟨x, rfl, h, rfl⟩
theorem Ft2 {Γ : Own} {x : Tx} {t : Tup Int} (h : Row x) (ha : ascF x.s.length 0 t.l = true) : F_turned Γ [⟨x⟩, ⟨t⟩] (Is (tnAt x t.l)) := .inr ⟨x, t, rfl, h, ha, rfl⟩
theorem ev_call1D {β : Type} [Rp β] {Γ : Own} {ρ : Z.Env} {Pb : β → Prop} {F : Own → List Cell → (β → Prop) → Prop} {E : XK} {ta : TA} {cs : List Cell} (ha : EvA K Γ ta ρ (Is cs)) (hf : F Γ (cs ++ [⟨()⟩]) Pb) : Ev K Γ (tCall (spD K F) [V.non] E ta) ρ Pb := ev_callD dv_non2 ha fun cs' e => by rw [show cs' = cs from e]; exact hf
theorem src_rows {Γ : Own} {ρ : Z.Env} {L : LotD} {te : TE} {j : Nat} (CL : LotT K) (h : Ev K Γ te ρ (Is L)) (hj : j < ρ.length) : Src K Γ (iTup K (tFld K te "_rows")) (gName j) ρ [j] L.rows.length (fun i ρ => ρ.set j (some ⟨L.rows.getD i ⟨[]⟩⟩)) :=
  src_tup (x0 := fun i => L.rows.getD i ⟨[]⟩) (ev_lotRows CL h) (fun i hi => getD_of hi) hj
def F_Lot_is_even : Pm Bool := fun _ cs R => ∃ L : LotD, cs = [⟨L⟩] ∧ LotOk L ∧ R = Is (L.rows.all fun x => decide (tn x ∈ L.known))
theorem sc_Lot_is_even : FnScope ["self", "row"] ["self"] (defScope s_Lot_is_even) := ⟨rfl, rfl, rfl, by decide +kernel, rfl, by decide +kernel, by decide +kernel⟩
theorem ok_Lot_is_even (T : Txt K mg) (CL : LotT K) {f : Addr} {fd : FuncData} {dvs : List V} (D : DfM K dvs "is_even" "Lot.is_even" s_Lot_is_even ["self"] f fd) {f_turned : Addr} {fd_turned : FuncData} (D_turned : DfD K mg "turned" s_turned ["row", "things"] f_turned fd_turned) (G_turned : FnOk P w K mg base CX0 6 f_turned fd_turned ["row", "things"] (spD K F_turned)) : FnOk P w K mg base CX0 7 f fd ["self"] (spD K F_Lot_is_even) := by
  obtain ⟨_, hI_SHIFT⟩ := T.i_SHIFT
  obtain ⟨_, hI_LOW⟩ := T.i_LOW
  obtain ⟨_, hI_MAX_THINGS⟩ := T.i_MAX_THINGS
  refine def_ok D.F sc_Lot_is_even (fun Γ cs R g => ?len) (fun cdv A outer s H E hr Γ cs R g => ?_)
  case len => obtain ⟨L, rfl, _⟩ := g; rfl
  obtain ⟨L, rfl, hL, rfl⟩ := g
  refine ⟨_, (pss_one (ps_ret (pe_callB (cr_allK rfl) (by rfl) T.z_all (by decide +kernel) (pa_cons (pe_lc (own := [("row", 1)]) (g := (gName 1)) (tt := tYes) rfl sc_Lot_is_even.nd (pi_tupK (pe_fldK (pv 0) (by rfl))) (blkOk_by (N := ["self", "row"]) (sc := defScope s_Lot_is_even) (by decide +kernel)) (fun _ _ _ _ _ => (pg_name (i := 1) sc_Lot_is_even.nd rfl (by first | exact .inl rfl | exact .inr rfl))) (fun _ _ _ _ _ => pts_nil) (fun _ _ _ _ _ => (pe_cmp (pc_din (by exact hu_of hr) (pe_call G_turned (hr.mono (by decide)) (by rfl) D_turned.g D_turned.kp D_turned.b1 D_turned.v1 pass0 (pa_cons (pv 1) pa_nil)) (by exact (pe_fldK (pv 0) (by rfl)))) (by rfl)))) pa_nil)))), fun Δ0 D' hf hn => wp_ret hf ?_⟩
  refine ev_is (ev_cb (ev_lcD (xs := L.rows) (fun _ => true) (fun x => decide (tn x ∈ L.known)) (src_rows CL (ev_var (i := 0)) (ltr rfl)) hL.len (by decide) fun i x hi => ⟨et_yes, fun _ => ?_⟩) o1_all) ?_
  · have e := getL hi
    subst e
    exact ev_known CL (x := tn (L.rows.getD i ⟨[]⟩)) (ev_call1D (ea_1 (ev_var (i := 1) (a := L.rows.getD i ⟨[]⟩)) ea_nil) (Ft1 (hL.row (List.mem_of_getElem? hi)))) (ev_var (i := 0))
  · rw [List.filter_eq_self.mpr (fun _ _ => rfl), List.all_map]
    rfl
def F_Lot___iter__ (K : PySem.W.Frag) : Own → List Cell → (Gh → Hp → V → Hp → Prop) → Prop := fun _ cs T => ∃ L : LotD, cs = [⟨L⟩] ∧ T = TIt K (⟨L.rows⟩ : Tup Tx)
theorem sc_Lot___iter__ : FnScope ["self"] ["self"] (defScope s_Lot___iter__) := ⟨rfl, rfl, rfl, by decide +kernel, rfl, by decide +kernel, by decide +kernel⟩
theorem ok_Lot___iter__ (T : Txt K mg) (CL : LotT K) {f : Addr} {fd : FuncData} {dvs : List V} (D : DfM K dvs "__iter__" "Lot.__iter__" s_Lot___iter__ ["self"] f fd) : FnOk P w K mg base CX0 2 f fd ["self"] (spR K (F_Lot___iter__ K)) := by
  obtain ⟨_, hI_SHIFT⟩ := T.i_SHIFT
  obtain ⟨_, hI_LOW⟩ := T.i_LOW
  obtain ⟨_, hI_MAX_THINGS⟩ := T.i_MAX_THINGS
  refine def_okR D.F sc_Lot___iter__ (fun Γ cs R g => ?len) (fun cdv A outer s H E hr Γ cs R g => ?_)
  case len => obtain ⟨L, rfl, _⟩ := g; rfl
  obtain ⟨L, rfl, rfl⟩ := g
  refine ⟨_, (pss_one (ps_ret (pe_callB call_iterT (by rfl) T.z_iter (by decide +kernel) (pa_cons (pe_fldK (pv 0) (by rfl)) pa_nil)))), fun Δ0 D' hf => wp_retIt hf (ev_lotRows CL (ev_var (i := 0)))⟩
theorem str_small : ∀ a : Fin 21, (((toString ((a.val : Nat) : Int) : String) : Str).cps.toList).length ≤ 2 := by decide +kernel
def F_Lot___str__ : Pm Tx := fun _ cs R => ∃ L : LotD, cs = [⟨L⟩] ∧ L.many ≤ 9 ∧ L.rows.length ≤ 20 ∧ R = Is (lotText L.rows.length L.many)
theorem sc_Lot___str__ : FnScope ["self"] ["self"] (defScope s_Lot___str__) := ⟨rfl, rfl, rfl, by decide +kernel, rfl, by decide +kernel, by decide +kernel⟩
theorem ok_Lot___str__ (T : Txt K mg) (CL : LotT K) {f : Addr} {fd : FuncData} {dvs : List V} (D : DfM K dvs "__str__" "Lot.__str__" s_Lot___str__ ["self"] f fd) : FnOk P w K mg base CX0 2 f fd ["self"] (spD K F_Lot___str__) := by
  obtain ⟨_, hI_SHIFT⟩ := T.i_SHIFT
  obtain ⟨_, hI_LOW⟩ := T.i_LOW
  obtain ⟨_, hI_MAX_THINGS⟩ := T.i_MAX_THINGS
  refine def_ok D.F sc_Lot___str__ (fun Γ cs R g => ?len) (fun cdv A outer s H E hr Γ cs R g => ?_)
  case len => obtain ⟨L, rfl, _⟩ := g; rfl
  obtain ⟨L, rfl, h9, h20, rfl⟩ := g
  refine ⟨_, (pss_one (ps_ret (pe_joined (.cons (pe_fmt (pe_callB call_lenK (by rfl) T.z_len (by decide +kernel) (pa_cons (pe_fldK (pv 0) (by rfl)) pa_nil))) (.cons pe_str (.cons (pe_fmt (pe_fldK (pv 0) (by rfl))) (.cons pe_str .nil))))))), fun Δ0 D' hf hn => wp_ret hf (ev_fstr (.int (ev_cb (ev_lotRows CL (ev_var (i := 0) (a := L))) o1_lenT) ?_ (.lit (.int (ev_lotMany CL (ev_var (i := 0) (a := L))) ?_ (.lit .nil)))) ?_ ?_)⟩
  · rw [Int.natAbs_natCast]
    exact Nat.lt_of_le_of_lt (Nat.log2_le_self _) (by show L.rows.length < _; omega)
  · rw [Int.natAbs_natCast]
    exact Nat.lt_of_le_of_lt (Nat.log2_le_self _) (by omega)
  · show Str.mk (((((#[] : Array Nat) ++ _) ++ _) ++ _) ++ _) = Str.mk _
    congr 1
    apply Array.toList_inj.mp
    simp [lotText]
  · have h1 := str_small ⟨L.rows.length, by omega⟩
    have h2 := str_small ⟨L.many, by omega⟩
    have h3 : (" rows of " : Str).cps.toList.length = 9 := by decide +kernel
    have h4 : (" signs" : Str).cps.toList.length = 6 := by decide +kernel
    unfold lotText
    simp only [List.length_append, h3, h4]
    simp only at h1 h2
    omega
def F_Lot___or__ : Pm LotD := fun _ cs R => ∃ L M : LotD, cs = [⟨L⟩, ⟨M⟩] ∧ LotOk L ∧ LotOk M ∧ L.many = M.many ∧ L.rows.length + M.rows.length ≤ 50000 ∧ R = LotOf L.many (L.rows ++ M.rows)
theorem sc_Lot___or__ : FnScope ["self", "other"] ["self", "other"] (defScope s_Lot___or__) := ⟨rfl, rfl, rfl, by decide +kernel, rfl, by decide +kernel, by decide +kernel⟩
theorem ok_Lot___or__ (T : Txt K mg) (CL : LotT K) (CG : mg "Lot" = some (.ref (He.ga K "Lot"))) {f : Addr} {fd : FuncData} {dvs : List V} (D : DfM K dvs "__or__" "Lot.__or__" s_Lot___or__ ["self", "other"] f fd) {f__check_alike : Addr} {fd__check_alike : FuncData} (D__check_alike : Df K mg "_check_alike" s__check_alike ["one", "other"] f__check_alike fd__check_alike) (G__check_alike : FnOk P w K mg base CX0 4 f__check_alike fd__check_alike ["one", "other"] (spD K F__check_alike)) {f_Lot___init__ : Addr} {fd_Lot___init__ : FuncData} {dv_Lot___init__ : List V} (CP_Lot : Mk K (He.ga K "Lot") f_Lot___init__ ∧ DfM K dv_Lot___init__ "__init__" "Lot.__init__" s_Lot___init__ ["self", "many", "rows"] f_Lot___init__ fd_Lot___init__) (G_Lot___init__ : FnOk P w K mg base CX0 5 f_Lot___init__ fd_Lot___init__ ["self", "many", "rows"] (spI K (He.ga K "Lot") F_Lot___init__)) : FnOk P w K mg base CX0 7 f fd ["self", "other"] (spD K F_Lot___or__) := by
  obtain ⟨_, hI_SHIFT⟩ := T.i_SHIFT
  obtain ⟨_, hI_LOW⟩ := T.i_LOW
  obtain ⟨_, hI_MAX_THINGS⟩ := T.i_MAX_THINGS
  refine def_ok D.F sc_Lot___or__ (fun Γ cs R g => ?len) (fun cdv A outer s H E hr Γ cs R g => ?_)
  case len => obtain ⟨L, M, rfl, _⟩ := g; rfl
  obtain ⟨L, M, rfl, hL, hM, hm, hz, rfl⟩ := g
  refine ⟨_, (pss_cons (ps_if (pt_not (pt_val (pe_callB call_isK (by rfl) T.z_isinstance (by decide +kernel) (pa_cons (pv 1) (pa_cons (pe_glob (v := .ref (He.ga K "Lot")) (u := .ref (He.ga K "Lot")) rfl CG rfl) pa_nil))))) (pss_one ps_never) pss_nil)
      (pss_cons (ps_expr (pe_call G__check_alike (hr.mono (by decide)) (by rfl) D__check_alike.g D__check_alike.kp D__check_alike.b .nil pass0 (pa_cons (pv 0) (pa_cons (pv 1) pa_nil))))
      (pss_one (ps_ret (pe_make CP_Lot.1 G_Lot___init__ (hr.mono (by decide)) (by rfl) CG CP_Lot.2.b .nil pass0 (pa_cons (pe_fldK (pv 0) (by rfl)) (pa_cons (pe_op op_catA (pe_fldK (pv 0) (by rfl)) (pe_fldK (pv 1) (by rfl))) pa_nil))))))), fun Δ0 D' hf hn => ?_⟩
  refine wp_no (b := false) rfl (et_not (a := true) (et_B (ev_isLot CL (ev_var (i := 1) (a := M))))) ?_
  refine wp_drop (ev_call1 (ea_1 (ev_var (i := 0)) (ea_1 (ev_var (i := 1)) ea_nil)) ⟨L, M, rfl, hm, rfl⟩) ?_
  refine wp_ret hf (ev_make (dcs := []) (fun _ _ => trivial) (ea_1 (ev_lotMany CL (ev_var (i := 0))) (ea_1 (ev_op1 (ev_lotRows CL (ev_var (i := 0) (a := L))) (ev_lotRows CL (ev_var (i := 1) (a := M))) (o2_catTA (Nat.le_trans hz (by decide)))) ea_nil)) ⟨L.many, ⟨_⟩, rfl, hL.m9, fun x hx => ?_, ?_, rfl⟩)
  · rcases List.mem_append.mp hx with h | h
    · exact hL.rows x h
    · rw [hm]
      exact hM.rows x h
  · rw [List.length_append]
    exact hz
def F_Lot_with_turned : Pm LotD := fun _ cs R => ∃ L : LotD, cs = [⟨L⟩] ∧ LotOk L ∧ L.rows.length ≤ 20000 ∧ R = LotOf L.many (L.rows ++ L.rows.map tn)
theorem sc_Lot_with_turned : FnScope ["self", "row"] ["self"] (defScope s_Lot_with_turned) := ⟨rfl, rfl, rfl, by decide +kernel, rfl, by decide +kernel, by decide +kernel⟩
theorem ok_Lot_with_turned (T : Txt K mg) (CL : LotT K) (CG : mg "Lot" = some (.ref (He.ga K "Lot"))) {f : Addr} {fd : FuncData} {dvs : List V} (D : DfM K dvs "with_turned" "Lot.with_turned" s_Lot_with_turned ["self"] f fd) {f_Lot___init__ : Addr} {fd_Lot___init__ : FuncData} {dv_Lot___init__ : List V} (CP_Lot : Mk K (He.ga K "Lot") f_Lot___init__ ∧ DfM K dv_Lot___init__ "__init__" "Lot.__init__" s_Lot___init__ ["self", "many", "rows"] f_Lot___init__ fd_Lot___init__) (G_Lot___init__ : FnOk P w K mg base CX0 5 f_Lot___init__ fd_Lot___init__ ["self", "many", "rows"] (spI K (He.ga K "Lot") F_Lot___init__)) {f_turned : Addr} {fd_turned : FuncData} (D_turned : DfD K mg "turned" s_turned ["row", "things"] f_turned fd_turned) (G_turned : FnOk P w K mg base CX0 6 f_turned fd_turned ["row", "things"] (spD K F_turned)) : FnOk P w K mg base CX0 7 f fd ["self"] (spD K F_Lot_with_turned) := by
  obtain ⟨_, hI_SHIFT⟩ := T.i_SHIFT
  obtain ⟨_, hI_LOW⟩ := T.i_LOW
  obtain ⟨_, hI_MAX_THINGS⟩ := T.i_MAX_THINGS
  refine def_ok D.F sc_Lot_with_turned (fun Γ cs R g => ?len) (fun cdv A outer s H E hr Γ cs R g => ?_)
  case len => obtain ⟨L, rfl, _⟩ := g; rfl
  obtain ⟨L, rfl, hL, hz, rfl⟩ := g
  refine ⟨_, (pss_one (ps_ret (pe_make CP_Lot.1 G_Lot___init__ (hr.mono (by decide)) (by rfl) CG CP_Lot.2.b .nil pass0 (pa_cons (pe_fldK (pv 0) (by rfl)) (pa_cons (pe_op op_catA (pe_fldK (pv 0) (by rfl)) (pe_callTy call_tupK (by rfl) T.z_tuple (by decide +kernel) (pa_cons (pe_lc (own := [("row", 1)]) (g := (gName 1)) (tt := tYes) rfl sc_Lot_with_turned.nd (pi_tupK (pe_fldK (pv 0) (by rfl))) (blkOk_by (N := ["self", "row"]) (sc := defScope s_Lot_with_turned) (by decide +kernel)) (fun _ _ _ _ _ => (pg_name (i := 1) sc_Lot_with_turned.nd rfl (by first | exact .inl rfl | exact .inr rfl))) (fun _ _ _ _ _ => pts_nil) (fun _ _ _ _ _ => (pe_call G_turned (hr.mono (by decide)) (by rfl) D_turned.g D_turned.kp D_turned.b1 D_turned.v1 pass0 (pa_cons (pv 1) pa_nil)))) pa_nil))) pa_nil))))), fun Δ0 D' hf hn => ?_⟩
  have hc := fun E : XK => ev_is (ev_lcD (K := K) (Γ := Γ) (xs := L.rows) (fun _ => true) tn (src_rows CL (ev_var (ρ := env0 ["self", "row"] [⟨L⟩]) (i := 0)) (j := 1) (ltr rfl)) hL.len (vs := [1]) (by decide) fun i x hi => ⟨et_yes, fun _ => by
    have e := getL hi
    subst e
    exact ev_call1D (E := E) (ea_1 (ev_var (i := 1) (a := L.rows.getD i ⟨[]⟩)) ea_nil) (Ft1 (hL.row (List.mem_of_getElem? hi)))⟩) (fmap_true _ _)
  refine wp_ret hf (ev_make (dcs := []) (fun _ _ => trivial) (ea_1 (ev_lotMany CL (ev_var (i := 0))) (ea_1 (ev_op1 (ev_lotRows CL (ev_var (i := 0) (a := L))) (ev_cb (hc _) o1_tuple) (o2_catTA ?_)) ea_nil)) ⟨L.many, ⟨_⟩, rfl, hL.m9, fun x hx => ?_, ?_, rfl⟩)
  · show L.rows.length + (L.rows.map tn).length ≤ _
    rw [List.length_map]
    omega
  · rcases List.mem_append.mp hx with h | h
    · exact hL.rows x h
    · obtain ⟨y, hy, rfl⟩ := List.mem_map.mp h
      exact ⟨by rw [tn, mk_len]; exact (hL.rows y hy).1, (tn_row (hL.row hy)).all⟩
  · show (L.rows ++ L.rows.map tn).length ≤ _
    rw [List.length_append, List.length_map]
    omega
def F_Lot_turned_at : Pm LotD := fun _ cs R => ∃ (L : LotD) (t : Tup Int), cs = [⟨L⟩, ⟨t⟩] ∧ LotOk L ∧ ascF L.many 0 t.l = true ∧ R = LotOf L.many (L.rows.map fun x => tnAt x t.l)
theorem sc_Lot_turned_at : FnScope ["self", "things", "row"] ["self", "things"] (defScope s_Lot_turned_at) := ⟨rfl, rfl, rfl, by decide +kernel, rfl, by decide +kernel, by decide +kernel⟩
theorem ok_Lot_turned_at (T : Txt K mg) (CL : LotT K) (CG : mg "Lot" = some (.ref (He.ga K "Lot"))) {f : Addr} {fd : FuncData} {dvs : List V} (D : DfM K dvs "turned_at" "Lot.turned_at" s_Lot_turned_at ["self", "things"] f fd) {f_check_things : Addr} {fd_check_things : FuncData} (D_check_things : Df K mg "check_things" s_check_things ["things", "many"] f_check_things fd_check_things) (G_check_things : FnOk P w K mg base CX0 5 f_check_things fd_check_things ["things", "many"] (spD K F_check_things)) {f_Lot___init__ : Addr} {fd_Lot___init__ : FuncData} {dv_Lot___init__ : List V} (CP_Lot : Mk K (He.ga K "Lot") f_Lot___init__ ∧ DfM K dv_Lot___init__ "__init__" "Lot.__init__" s_Lot___init__ ["self", "many", "rows"] f_Lot___init__ fd_Lot___init__) (G_Lot___init__ : FnOk P w K mg base CX0 5 f_Lot___init__ fd_Lot___init__ ["self", "many", "rows"] (spI K (He.ga K "Lot") F_Lot___init__)) {f_turned : Addr} {fd_turned : FuncData} (D_turned : DfD K mg "turned" s_turned ["row", "things"] f_turned fd_turned) (G_turned : FnOk P w K mg base CX0 6 f_turned fd_turned ["row", "things"] (spD K F_turned)) : FnOk P w K mg base CX0 7 f fd ["self", "things"] (spD K F_Lot_turned_at) := by
  obtain ⟨_, hI_SHIFT⟩ := T.i_SHIFT
  obtain ⟨_, hI_LOW⟩ := T.i_LOW
  obtain ⟨_, hI_MAX_THINGS⟩ := T.i_MAX_THINGS
  refine def_ok D.F sc_Lot_turned_at (fun Γ cs R g => ?len) (fun cdv A outer s H E hr Γ cs R g => ?_)
  case len => obtain ⟨L, t, rfl, _⟩ := g; rfl
  obtain ⟨L, t, rfl, hL, ha, rfl⟩ := g
  refine ⟨_, (pss_cons (ps_expr (pe_call G_check_things (hr.mono (by decide)) (by rfl) D_check_things.g D_check_things.kp D_check_things.b .nil pass0 (pa_cons (pv 1) (pa_cons (pe_fldK (pv 0) (by rfl)) pa_nil))))
      (pss_one (ps_ret (pe_make CP_Lot.1 G_Lot___init__ (hr.mono (by decide)) (by rfl) CG CP_Lot.2.b .nil pass0 (pa_cons (pe_fldK (pv 0) (by rfl)) (pa_cons (pe_callTy call_tupK (by rfl) T.z_tuple (by decide +kernel) (pa_cons (pe_lc (own := [("row", 2)]) (g := (gName 2)) (tt := tYes) rfl sc_Lot_turned_at.nd (pi_tupK (pe_fldK (pv 0) (by rfl))) (blkOk_by (N := ["self", "things", "row"]) (sc := defScope s_Lot_turned_at) (by decide +kernel)) (fun _ _ _ _ _ => (pg_name (i := 2) sc_Lot_turned_at.nd rfl (by first | exact .inl rfl | exact .inr rfl))) (fun _ _ _ _ _ => pts_nil) (fun _ _ _ _ _ => (pe_call G_turned (hr.mono (by decide)) (by rfl) D_turned.g D_turned.kp D_turned.b .nil pass0 (pa_cons (pv 2) (pa_cons (pv 1) pa_nil))))) pa_nil)) pa_nil)))))), fun Δ0 D' hf hn => ?_⟩
  refine wp_drop (ev_call1 (ea_1 (ev_var (i := 1)) (ea_1 (ev_lotMany CL (ev_var (i := 0))) ea_nil)) ⟨t, _, rfl, ha, rfl⟩) ?_
  have hc := fun E : XK => ev_is (ev_lcD (K := K) (Γ := Γ) (xs := L.rows) (fun _ => true) (fun x => tnAt x t.l) (src_rows CL (ev_var (ρ := env0 ["self", "things", "row"] [⟨L⟩, ⟨t⟩]) (i := 0)) (j := 2) (ltr rfl)) hL.len (vs := [2]) (by decide) fun i x hi => ⟨et_yes, fun _ => by
    have e := getL hi
    subst e
    have hm := List.mem_of_getElem? hi
    exact ev_call1 (E := E) (ea_1 (ev_var (i := 2) (a := L.rows.getD i ⟨[]⟩)) (ea_1 (ev_var (i := 1) (a := t)) ea_nil)) (Ft2 (hL.row hm) (by rw [(hL.rows _ hm).1]; exact ha))⟩) (fmap_true _ _)
  refine wp_ret hf (ev_make (dcs := []) (fun _ _ => trivial) (ea_1 (ev_lotMany CL (ev_var (i := 0))) (ea_1 (ev_cb (hc _) o1_tuple) ea_nil)) ⟨L.many, ⟨_⟩, rfl, hL.m9, fun x hx => ?_, ?_, rfl⟩)
  · obtain ⟨y, hy, rfl⟩ := List.mem_map.mp hx
    exact ⟨by rw [tnAt, mk_len]; exact (hL.rows y hy).1, (tnAt_row (hL.row hy)).all⟩
  · show (L.rows.map _).length ≤ _
    rw [List.length_map]
    exact hL.len
end
end K02

set_option Elab.async false
set_option linter.all false
set_option maxRecDepth 100000
set_option maxHeartbeats 1000000
namespace K02
open PySem PySem.Spec PyProof.Rows L2 Z K00
section
variable {P : Program} {w : World} {K : PySem.W.Frag} {mg : Str → Option Value} {base : Heap}
theorem et_andI {Γ : Own} {ρ : Z.Env} {t u : TT} {a : Bool} {P2 : Bool → Prop} (h1 : EvT K Γ t ρ (Is a)) (h2 : a = true → EvT K Γ u ρ P2) : EvT K Γ (tAnd t u) ρ (fun b => b = true → a = true) := fun Δ σ H Q s hh e k => h1 Δ σ H _ s hh e fun c H' pc e1 => by
  have ec : c = a := pc
  subst ec
  cases c with
  | false => exact k false H' (fun z => z) e1
  | true => exact h2 rfl Δ σ H' _ s e1.2 (e.mono e1.1) fun b H2 _ e2 => k b H2 (fun _ => rfl) (e1.trans e2)
theorem ev_ifP {α : Type} [Rp α] {Γ : Own} {ρ : Z.Env} {t : TT} {ta tb : TE} {Pb : Bool → Prop} {Pa : α → Prop} (h : EvT K Γ t ρ Pb) (h1 : Pb true → Ev K Γ ta ρ Pa) (h2 : Pb false → Ev K Γ tb ρ Pa) : Ev K Γ (tIf t ta tb) ρ Pa := fun Δ σ H Q s hh e k => h Δ σ H _ s hh e fun c H' pc e1 => by
  cases c with
  | true => exact h1 pc Δ σ H' _ s e1.2 (e.mono e1.1) fun v H2 a pa e2 => k v H2 a pa (e1.trans e2)
  | false => exact h2 pc Δ σ H' _ s e1.2 (e.mono e1.1) fun v H2 a pa e2 => k v H2 a pa (e1.trans e2)
/-- if c: name = e -/
theorem wp_whenA {α : Type} [Rp α] {Δ0 : Gh} {H0 : Hp} {Γ : Own} {F : List (V × Cell)} {ρ : Z.Env} {c : TT} {te : TE} {tz : TS} {D : Ends} {i : Nat} {Pb : Bool → Prop} {Pa : α → Prop} {x : α} (hx : ρ[i]? = some (some ⟨x⟩)) (h : EvT K Γ c ρ Pb) (he : Pb true → Ev K Γ te ρ Pa) (h0 : Pb false → Pa x)
    (k : ∀ a, Pa a → Wp K Δ0 H0 Γ F (ρ.set i (some ⟨a⟩)) tz D) : Wp K Δ0 H0 Γ F ρ (tSeq (tIfS c (tAsg te (gName i)) tNext) tz) D :=
  wp_ifP (D := { D with nx := tz D }) h (fun hb => wp_asgL (he hb) (by rw [List.getElem?_eq_some_iff] at hx; exact hx.1) fun a ha => fun σ H st => k a ha σ H st) (fun hb => fun σ H st => by
    have e : ρ.set i (some ⟨x⟩) = ρ := List.ext_getElem? fun j => by
      by_cases hj : i = j
      · subst hj
        rw [List.getElem?_set_self (by rw [List.getElem?_eq_some_iff] at hx; exact hx.1), hx]
      · rw [List.getElem?_set_ne hj]
    have := k x (h0 hb) σ H
    rw [e] at this
    exact this st)
def F__law_mixed : Pm (List Tx) := fun Γ cs R => ∃ (p : Addr) (xs : List Tx), cs = [⟨(⟨p⟩ : Z.Loc)⟩, ⟨xs⟩] ∧ (p, DiceI) ∈ Γ ∧ xs.length ≤ 1000 ∧ R = fun ys => ys.Perm xs
abbrev IvM (Γ : Own) (Δ0 : Gh) (p : Addr) (xs : List Tx) : Nat → Own → Z.Env → Prop := fun i Γ' ρ' => ∃ (q f : Addr) (ws zs : List Tx) (a : Option Cell), Γ' = OwnL f zs :: OwnL q ws :: Γ ∧ OwnP Δ0 (OwnL q ws :: Γ) f ∧ OwnP Δ0 Γ q ∧ zs.length = i ∧ xs.Perm (zs ++ ws) ∧ ρ' = [some ⟨(⟨p⟩ : Z.Loc)⟩, some ⟨xs⟩, some ⟨(⟨q⟩ : Z.Loc)⟩, some ⟨(⟨f⟩ : Z.Loc)⟩, a]
theorem sc__law_mixed : FnScope ["_law_dice_here", "_law_items", "_law_left", "_law_found", "_law_turn_here"] ["_law_dice_here", "_law_items"] (defScope s__law_mixed) := ⟨rfl, rfl, rfl, by decide +kernel, rfl, by decide +kernel, by decide +kernel⟩
theorem ok__law_mixed (T : Txt K mg) {f : Addr} {fd : FuncData} (D : Df K mg "_law_mixed" s__law_mixed ["_law_dice_here", "_law_items"] f fd) {f__law_roll : Addr} {fd__law_roll : FuncData} (D__law_roll : Df K mg "_law_roll" s__law_roll ["_law_dice_here", "_law_total"] f__law_roll fd__law_roll) (G__law_roll : FnOk P w K mg base CX0 2 f__law_roll fd__law_roll ["_law_dice_here", "_law_total"] (spD K F__law_roll)) : FnOk P w K mg base CX0 3 f fd ["_law_dice_here", "_law_items"] (spD K F__law_mixed) := by
  obtain ⟨_, hI_SHIFT⟩ := T.i_SHIFT
  obtain ⟨_, hI_LOW⟩ := T.i_LOW
  obtain ⟨_, hI_MAX_THINGS⟩ := T.i_MAX_THINGS
  refine def_ok D.F sc__law_mixed (fun Γ cs R g => ?len) (fun cdv A outer s H E hr Γ cs R g => ?_)
  case len => obtain ⟨p, xs, rfl, _⟩ := g; rfl
  obtain ⟨p, xs, rfl, hp, hz, rfl⟩ := g
  refine ⟨_, (pss_cons (ps_par (i := 2) (j := 3) (by rfl) sc__law_mixed.nd rfl rfl (by decide) rfl rfl (pa_cons (pe_callTy call_lstK (by rfl) T.z_list (by decide +kernel) (pa_cons (pv 1) pa_nil)) (pa_cons (pe_lst pa_nil) pa_nil)) (by kernel_rfl))
      (pss_cons (ps_for PassesOwn.never rfl (pi_range1 (by rfl) T.z_range (pa_cons (pe_callB call_lenK (by rfl) T.z_len (by decide +kernel) (pa_cons (pv 1) pa_nil)) pa_nil)) (pg_name (i := 4) sc__law_mixed.nd rfl (by first | exact .inl rfl | exact .inr rfl))
        (pss_one (ps_expr (pe_bm PySem.F.plainAttrs_list PySem.F.slot_list_append PySem.F.type_list_append mt_append (pv 3) (pa_cons (pe_bm PySem.F.plainAttrs_list PySem.F.slot_list_pop PySem.F.type_list_pop mt_popAt (pv 2) (pa_cons (pe_call G__law_roll (hr.mono (by decide)) (by rfl) D__law_roll.g D__law_roll.kp D__law_roll.b .nil pass0 (pa_cons (pv 0) (pa_cons (pe_callB call_lenK (by rfl) T.z_len (by decide +kernel) (pa_cons (pv 2) pa_nil)) pa_nil))) pa_nil)) pa_nil)))))
      (pss_one (ps_ret (pv 3))))), fun Δ0 D' hf hn => ?_⟩
  refine wp_parLN (xs := xs) (ev_var (i := 1)) (ltr rfl) (ltr rfl) fun q f oq of => ?_
  refine wp_for (IvM Γ Δ0 p xs) (src_rng1 (n := xs.length) (ea_1 (ev_cb (ev_var (i := 1) (a := xs)) o1_lenL) ea_nil) (by omega) (ltr rfl)) ⟨q, f, xs, [], none, rfl, of, oq, rfl, List.Perm.refl _, rfl⟩ (fun i Γ' ρ' h => by obtain ⟨q, f, ws, zs, a, _, _, _, _, _, rfl⟩ := h; rfl) ?_ ?_
  · rintro i Γ' ρ' F' hi ⟨q, f, ws, zs, a, rfl, of, oq, hl, hpm, rfl⟩
    have hw : xs.length = zs.length + ws.length := by rw [hpm.length_eq, List.length_append]
    refine wp_appPop of oq (by omega) (ev_var (i := 3)) (ev_var (i := 2)) (ev_call1 (ea_1 (ev_var (i := 0)) (ea_1 (ev_lenO (List.mem_cons_of_mem _ List.mem_cons_self) (ev_var (i := 2))) ea_nil)) ⟨p, _, rfl, List.mem_cons_of_mem _ (List.mem_cons_of_mem _ hp), by omega, by omega, rfl⟩) (by omega) fun y ws' hy of' => ?_
    refine wp_turn (Iv := IvM Γ Δ0 p xs) ⟨q, f, ws', zs ++ [y], _, rfl, of', oq, by rw [List.length_append, hl]; rfl, hpm.trans ?_, rfl⟩ rfl
    rw [List.append_assoc]
    exact hy.append_left zs
  · rintro Γ' ρ' F' ⟨q, f, ws, zs, a, rfl, of, oq, hl, hpm, rfl⟩
    have hw : xs.length = zs.length + ws.length := by rw [hpm.length_eq, List.length_append]
    have e0 : ws = [] := List.eq_nil_of_length_eq_zero (by omega)
    subst e0
    rw [List.append_nil] at hpm
    exact wp_retL of hf hpm.symm (ev_var (i := 3))
def F__law_drawn_rows : Pm (FL Tx) := fun Γ cs R => ∃ (p : Addr) (n : Nat), cs = [⟨(⟨p⟩ : Z.Loc)⟩, ⟨(n : Int)⟩] ∧ (p, DiceI) ∈ Γ ∧ n ≤ 9 ∧ R = fun xs => xs.l.length ≤ 8 ∧ ∀ x ∈ xs.l, DR n x
abbrev IvD (Γ : Own) (Δ0 : Gh) (p : Addr) (n : Nat) : Nat → Own → Z.Env → Prop := fun i Γ' ρ' => ∃ (f : Addr) (zs : List Tx) (a b c d : Option Cell), Γ' = OwnL f zs :: Γ ∧ OwnP Δ0 Γ f ∧ zs.length = i ∧ (∀ x ∈ zs, DR n x) ∧ ρ' = [some ⟨(⟨p⟩ : Z.Loc)⟩, some ⟨(n : Int)⟩, some ⟨(⟨f⟩ : Z.Loc)⟩, a, b, c, d]
theorem cut_row {n : Nat} {x : Tx} (h : DR n x) {r : Nat} (hr : r < n) : DR n ⟨(x.s.take r ++ [48]) ++ x.s.drop (r + 1)⟩ := by
  obtain ⟨hx, hl⟩ := h
  have hlen : ((x.s.take r ++ [48]) ++ x.s.drop (r + 1)).length = n := by
    simp only [List.length_append, List.length_take, List.length_drop, List.length_singleton]
    omega
  refine ⟨⟨?_, by show ((x.s.take r ++ [48]) ++ x.s.drop (r + 1)).length ≤ 9; rw [hlen, ← hl]; exact hx.len⟩, hlen⟩
  rw [List.all_append, List.all_append]
  have ha := List.all_eq_true.mp hx.all
  have h1 : (x.s.take r).all isSign = true := List.all_eq_true.mpr fun c hc => ha c (List.mem_of_mem_take hc)
  have h2 : (x.s.drop (r + 1)).all isSign = true := List.all_eq_true.mpr fun c hc => ha c (List.mem_of_mem_drop hc)
  rw [h1, h2]
  rfl
theorem sc__law_drawn_rows : FnScope ["_law_dice_here", "_law_size", "_law_found", "_law_at", "_law_row", "_law_way", "_law_spot"] ["_law_dice_here", "_law_size"] (defScope s__law_drawn_rows) := ⟨rfl, rfl, rfl, by decide +kernel, rfl, by decide +kernel, by decide +kernel⟩
theorem ok__law_drawn_rows (T : Txt K mg) {f : Addr} {fd : FuncData} (D : Df K mg "_law_drawn_rows" s__law_drawn_rows ["_law_dice_here", "_law_size"] f fd) {f__law_roll : Addr} {fd__law_roll : FuncData} (D__law_roll : Df K mg "_law_roll" s__law_roll ["_law_dice_here", "_law_total"] f__law_roll fd__law_roll) (G__law_roll : FnOk P w K mg base CX0 2 f__law_roll fd__law_roll ["_law_dice_here", "_law_total"] (spD K F__law_roll)) {f__law_pick : Addr} {fd__law_pick : FuncData} (D__law_pick : Df K mg "_law_pick" s__law_pick ["_law_dice_here", "_law_items"] f__law_pick fd__law_pick) (G__law_pick : FnOk P w K mg base CX0 3 f__law_pick fd__law_pick ["_law_dice_here", "_law_items"] (spD K F__law_pick)) {f__law_drawn_row : Addr} {fd__law_drawn_row : FuncData} (D__law_drawn_row : Df K mg "_law_drawn_row" s__law_drawn_row ["_law_dice_here", "_law_size"] f__law_drawn_row fd__law_drawn_row) (G__law_drawn_row : FnOk P w K mg base CX0 4 f__law_drawn_row fd__law_drawn_row ["_law_dice_here", "_law_size"] (spD K F__law_drawn_row)) {f__law_turn : Addr} {fd__law_turn : FuncData} (D__law_turn : Df K mg "_law_turn" s__law_turn ["_law_row"] f__law_turn fd__law_turn) (G__law_turn : FnOk P w K mg base CX0 3 f__law_turn fd__law_turn ["_law_row"] (spD K F__law_turn)) : FnOk P w K mg base CX0 5 f fd ["_law_dice_here", "_law_size"] (spD K F__law_drawn_rows) := by
  obtain ⟨_, hI_SHIFT⟩ := T.i_SHIFT
  obtain ⟨_, hI_LOW⟩ := T.i_LOW
  obtain ⟨_, hI_MAX_THINGS⟩ := T.i_MAX_THINGS
  refine def_ok D.F sc__law_drawn_rows (fun Γ cs R g => ?len) (fun cdv A outer s H E hr Γ cs R g => ?_)
  case len => obtain ⟨p, n, rfl, _⟩ := g; rfl
  obtain ⟨p, n, rfl, hp, hn9, rfl⟩ := g
  refine ⟨_, (pss_cons (ps_set (i := 2) sc__law_drawn_rows.nd rfl (by first | exact .inl rfl | exact .inr rfl) (pe_lst pa_nil))
      (pss_cons (ps_for PassesOwn.never rfl (pi_range1 (by rfl) T.z_range (pa_cons (pe_call G__law_roll (hr.mono (by decide)) (by rfl) D__law_roll.g D__law_roll.kp D__law_roll.b .nil pass0 (pa_cons (pv 0) (pa_cons pe_int pa_nil))) pa_nil)) (pg_name (i := 3) sc__law_drawn_rows.nd rfl (by first | exact .inl rfl | exact .inr rfl))
        (pss_cons (ps_set (i := 4) sc__law_drawn_rows.nd rfl (by first | exact .inl rfl | exact .inr rfl) (pe_ifExp (PW.pt (pw_and (pt_cmpR (op_neK hr.units) (pv 2) (pe_lst pa_nil) (nomark _)) (pw_and1 (pt_cmpR op_eq (pe_call G__law_roll (hr.mono (by decide)) (by rfl) D__law_roll.g D__law_roll.kp D__law_roll.b .nil pass0 (pa_cons (pv 0) (pa_cons pe_int pa_nil))) pe_int (nomark _))))) (pe_call G__law_pick (hr.mono (by decide)) (by rfl) D__law_pick.g D__law_pick.kp D__law_pick.b .nil pass0 (pa_cons (pv 0) (pa_cons (pv 2) pa_nil))) (pe_call G__law_drawn_row (hr.mono (by decide)) (by rfl) D__law_drawn_row.g D__law_drawn_row.kp D__law_drawn_row.b .nil pass0 (pa_cons (pv 0) (pa_cons (pv 1) pa_nil)))))
        (pss_cons (ps_set (i := 5) sc__law_drawn_rows.nd rfl (by first | exact .inl rfl | exact .inr rfl) (pe_call G__law_roll (hr.mono (by decide)) (by rfl) D__law_roll.g D__law_roll.kp D__law_roll.b .nil pass0 (pa_cons (pv 0) (pa_cons pe_int pa_nil))))
        (pss_cons (ps_if (pt_cmpR op_eq (pv 5) pe_int (nomark _)) (pss_one (ps_set (i := 4) sc__law_drawn_rows.nd rfl (by first | exact .inl rfl | exact .inr rfl) (pe_call G__law_turn (hr.mono (by decide)) (by rfl) D__law_turn.g D__law_turn.kp D__law_turn.b .nil pass0 (pa_cons (pv 4) pa_nil)))) pss_nil)
        (pss_cons (ps_if (PW.pt (pw_and (pt_cmpR op_eq (pv 5) pe_int (nomark _)) (pw_and1 (pt_cmpR op_gt (pv 1) pe_int (nomark _))))) (pss_cons (ps_set (i := 6) sc__law_drawn_rows.nd rfl (by first | exact .inl rfl | exact .inr rfl) (pe_call G__law_roll (hr.mono (by decide)) (by rfl) D__law_roll.g D__law_roll.kp D__law_roll.b .nil pass0 (pa_cons (pv 0) (pa_cons (pv 1) pa_nil))))
          (pss_one (ps_set (i := 4) sc__law_drawn_rows.nd rfl (by first | exact .inl rfl | exact .inr rfl) (pe_op op_add_str (pe_op op_add_str (pe_slice sl_str (pv 4) po_none (po_some (pv 6))) pe_str) (pe_slice sl_str (pv 4) (po_some (pe_op op_add (pv 6) pe_int)) po_none))))) pss_nil)
        (pss_one (ps_expr (pe_bm PySem.F.plainAttrs_list PySem.F.slot_list_append PySem.F.type_list_append mt_append (pv 2) (pa_cons (pv 4) pa_nil)))))))))
      (pss_one (ps_ret (pv 2))))), fun Δ0 D' hf hn => ?_⟩
  refine wp_newL (α := Tx) (ltr rfl) fun f of => ?_
  refine wp_forR (Pn := fun m => m ≤ 8) (ea_cons (Ps := Is []) (ev_call1 (ea_1 (ev_var (i := 0)) (ea_1 ev_int ea_nil)) ⟨p, 9, rfl, List.mem_cons_of_mem _ hp, by decide, by decide, rfl⟩) ea_nil fun r cs hr hc => ⟨r.toNat, by rw [show cs = [] from hc, Int.toNat_of_nonneg hr.1], by omega⟩) fun m hm => ?_
  refine wp_for (IvD Γ Δ0 p n) (src_rng1 (n := m) (ea_1 ev_int ea_nil) (by omega) (ltr rfl)) ⟨f, [], none, none, none, none, rfl, of, rfl, fun x hx => (by cases hx), rfl⟩ (fun i Γ' ρ' h => by obtain ⟨f, zs, a, b, c, d, _, _, _, _, rfl⟩ := h; rfl) ?_ ?_
  · rintro i Γ' ρ' F' hi ⟨f, zs, a, b, c, d, rfl, of, hl, hz, rfl⟩
    have hp2 : (p, DiceI) ∈ OwnL f zs :: Γ := List.mem_cons_of_mem _ hp
    have tok : TOk zs := fun x hx => tx_ok (hz x hx).1
    refine wp_asg (P := DR n) (ev_ifP (et_andI (et_test (ev_neO (xs := zs) (ys := []) List.mem_cons_self tok (fun x hx => by cases hx) (ev_var (i := 2)) (ev_lst (xs := []) ea_nil (by decide)))) fun _ => et_eqP (ev_call1 (ea_1 (ev_var (i := 0)) (ea_1 ev_int ea_nil)) ⟨p, 3, rfl, hp2, by decide, by decide, rfl⟩) ev_int) (fun h => ?_) (fun _ => ev_call1 (ea_1 (ev_var (i := 0)) (ea_1 (ev_var (i := 1)) ea_nil)) ⟨p, n, rfl, hp2, hn9, rfl⟩)) (ltr rfl) fun row hrow => ?_
    · have h0 : zs ≠ [] := by simpa using h rfl
      exact (ev_call1 (ea_1 (ev_var (i := 0)) (ea_1 (ev_var (i := 2)) ea_nil)) (Fp2 hp2 List.mem_cons_self (List.length_pos_iff.mpr h0) (by omega))).imp fun y hy => hz y hy
    refine wp_asg (ev_call1 (ea_1 (ev_var (i := 0)) (ea_1 ev_int ea_nil)) ⟨p, 4, rfl, hp2, by decide, by decide, rfl⟩) (ltr rfl) fun way hway => ?_
    have fin : ∀ (D2 : Ends) (row : Tx) (x6 : Option Cell), DR n row → D2.nx = At K Δ0 H F' (IvD Γ Δ0 p n) (i + 1) → Wp K Δ0 H (OwnL f zs :: Γ) F' [some ⟨(⟨p⟩ : Z.Loc)⟩, some ⟨(n : Int)⟩, some ⟨(⟨f⟩ : Z.Loc)⟩, some ⟨(i : Int)⟩, some ⟨row⟩, some ⟨way⟩, x6] (tDrop (tBM K "list" rAppend (tVar 2) (tCons (tVar 4) tNil))) D2 := fun D2 row x6 hrow hnx => wp_appL of (by omega) (ev_var (i := 2)) (ev_var (i := 4) (a := row)) fun y hy => wp_turn (Iv := IvD Γ Δ0 p n) ⟨f, zs ++ [y], _, _, _, _, rfl, of, by rw [List.length_append, hl]; rfl, fun x hx => by
      rcases List.mem_append.mp hx with h | h
      · exact hz x h
      · rw [List.mem_singleton.mp h, show y = row from hy]
        exact hrow, rfl⟩ hnx
    refine wp_whenA (i := 4) (x := row) (Pa := DR n) rfl (et_test (ev_op1 (ev_var (i := 5) (a := way)) ev_int o2_eqI)) (fun _ => (ev_call1 (ea_1 (ev_var (i := 4) (a := row)) ea_nil) ⟨row, rfl, hrow.1, rfl⟩).imp fun r hr => by
      rw [show r = tn row from hr]
      exact ⟨tn_row hrow.1, by rw [tn, mk_len]; exact hrow.2⟩) (fun _ => hrow) fun row hrow => ?_
    refine wp_when (et_and (et_test (ev_op1 (ev_var (i := 5) (a := way)) ev_int o2_eqI)) fun _ => et_test (ev_op1 (ev_var (i := 1) (a := (n : Int))) ev_int (o2_B0 (g := fun i j => decide (j < i))))) (fun h1 => by
      have hn0 : (0 : Int) < (n : Int) := by
        rw [Bool.and_eq_true] at h1
        exact of_decide_eq_true h1.2
      refine wp_asg (ev_call1 (ea_1 (ev_var (i := 0)) (ea_1 (ev_var (i := 1)) ea_nil)) ⟨p, _, rfl, hp2, by omega, by omega, rfl⟩) (ltr rfl) fun spot hs => ?_
      have es : spot = ((spot.toNat : Nat) : Int) := (Int.toNat_of_nonneg hs.1).symm
      have hl2 := hrow.2
      have h100 : row.s.length ≤ 100000 := by omega
      have hdr : DR n ⟨(row.s.take spot.toNat ++ [48]) ++ row.s.drop (spot.toNat + 1)⟩ := cut_row hrow (by omega)
      rw [es]
      refine wp_asgL (ev_op1 (ev_op1 (ev_cutTo h100 (n := spot.toNat) (by omega) (ev_var (i := 4) (a := row)) (ev_var (i := 6))) (ev_strc [48]) (o2_addS ?_)) (ev_cutFrom h100 (n := spot.toNat + 1) (by omega) (ev_var (i := 4) (a := row)) (ev_is (ev_op1 (ev_var (i := 6) (a := ((spot.toNat : Nat) : Int))) ev_int (o2_I0 (g := fun i j => i + j))) (by omega))) (o2_addS ?_)) (ltr rfl) fun r hr => ?_
      · show (row.s.take spot.toNat).length + 1 ≤ _
        rw [List.length_take]
        omega
      · show (row.s.take spot.toNat ++ [48]).length + (row.s.drop (spot.toNat + 1)).length ≤ _
        rw [List.length_append, List.length_take, List.length_drop, List.length_singleton]
        omega
      · exact fun σ H2 st => fin _ r _ (by rw [show r = _ from hr]; exact hdr) rfl σ H2 st) (fun _ => fin _ row _ hrow rfl)
  · rintro Γ' ρ' F' ⟨f, zs, a, b, c, d, rfl, of, hl, hz, rfl⟩
    exact wp_retLF of hf ⟨by show zs.length ≤ 8; omega, hz⟩ (ev_var (i := 2))
end
end K02

set_option Elab.async false
set_option linter.all false
set_option maxRecDepth 100000
set_option maxHeartbeats 1000000
namespace K02
open PySem PySem.Spec PyProof.Rows L2 Z K00
theorem tb_code (x : Tx) : ∀ (n j : Nat), n ≤ 9 → (codeUp x n).testBit j = ((decide (j < n) && decide (sg x j = 43)) || (decide (9 ≤ j) && (decide (j - 9 < n) && decide (sg x (j - 9) = 45))))
  | 0, j, _ => by simp [codeUp]
  | n + 1, j, h => by
    rw [codeUp, Nat.testBit_or, tb_code x n j (by omega), bitAt]
    by_cases h1 : sg x n = 43
    · rw [if_pos h1, Nat.testBit_two_pow]
      by_cases e : n = j
      · subst e
        simp [h1]
      · have e1 : decide (j < n + 1) = decide (j < n) := decide_eq_decide.mpr ⟨fun _ => by omega, fun _ => by omega⟩
        rw [e1, decide_eq_false e, Bool.or_false]
        by_cases e2 : j - 9 = n
        · have e3 : ¬ (sg x (j - 9) = 45) := by rw [e2, h1]; decide
          rw [decide_eq_false e3]
          simp
        · have e3 : decide (j - 9 < n + 1) = decide (j - 9 < n) := decide_eq_decide.mpr ⟨fun _ => by omega, fun _ => by omega⟩
          rw [e3]
    · rw [if_neg h1]
      by_cases h2 : sg x n = 45
      · rw [if_pos h2, Nat.testBit_two_pow]
        have e0 : (decide (j < n + 1) && decide (sg x j = 43)) = (decide (j < n) && decide (sg x j = 43)) := by
          by_cases e : j = n
          · subst e
            simp [h1]
          · have e1 : decide (j < n + 1) = decide (j < n) := decide_eq_decide.mpr ⟨fun _ => by omega, fun _ => by omega⟩
            rw [e1]
        rw [e0]
        by_cases e : n + 9 = j
        · subst e
          simp [h2]
        · rw [decide_eq_false e, Bool.or_false]
          by_cases e9 : 9 ≤ j
          · have e1 : decide (j - 9 < n + 1) = decide (j - 9 < n) := decide_eq_decide.mpr ⟨fun _ => by omega, fun _ => by omega⟩
            rw [e1]
          · rw [decide_eq_false e9]
            simp
      · rw [if_neg h2, Nat.zero_testBit, Bool.or_false]
        have e0 : (decide (j < n + 1) && decide (sg x j = 43)) = (decide (j < n) && decide (sg x j = 43)) := by
          by_cases e : j = n
          · subst e
            simp [h1]
          · have e1 : decide (j < n + 1) = decide (j < n) := decide_eq_decide.mpr ⟨fun _ => by omega, fun _ => by omega⟩
            rw [e1]
        have e5 : (decide (j - 9 < n + 1) && decide (sg x (j - 9) = 45)) = (decide (j - 9 < n) && decide (sg x (j - 9) = 45)) := by
          by_cases e : j - 9 = n
          · rw [e]
            simp [h2]
          · have e1 : decide (j - 9 < n + 1) = decide (j - 9 < n) := decide_eq_decide.mpr ⟨fun _ => by omega, fun _ => by omega⟩
            rw [e1]
        rw [e0, e5]
def maskT (x : Tx) : Nat := maskN (codeT x)
theorem tb_mask {x : Tx} (h : Row x) (i : Nat) : (maskT x).testBit i = (decide (i < x.s.length) && !decide (sg x i = 48)) := by
  have h9 := h.len
  have e511 : (511 : Nat) = 2 ^ 9 - 1 := rfl
  unfold maskT maskN
  rw [e511, Nat.testBit_and, Nat.testBit_or, Nat.testBit_div_two_pow, Nat.testBit_two_pow_sub_one, codeT, tb_code x _ _ h9, tb_code x _ _ h9]
  by_cases hi : i < x.s.length
  · have sx := h.sg hi
    unfold isSign at sx
    simp only [Bool.or_eq_true, beq_iff_eq] at sx
    have h1 : ¬ (9 + i < x.s.length) := by omega
    have h2 : i < 9 := by omega
    have h3 : ¬ (9 ≤ i) := by omega
    have h4 : ¬ (i + 9 < x.s.length) := by omega
    rcases sx with (sx | sx) | sx <;> simp [hi, h1, h2, h3, h4, sx]
  · have h1 : ¬ (9 + i < x.s.length) := by omega
    have h4 : ¬ (i + 9 < x.s.length) := by omega
    by_cases h2 : i < 9
    · have h3 : ¬ (9 ≤ i) := by omega
      simp [hi, h1, h2, h3, h4]
    · simp [hi, h1, h2, h4]
theorem ix_mem {n : Nat} {p : Nat → Bool} {t : Int} : t ∈ ix n p ↔ ∃ i, i < n ∧ p i = true ∧ t = (i : Int) := by
  unfold ix
  rw [List.mem_map]
  constructor
  · rintro ⟨i, hi, rfl⟩
    rw [List.mem_filter, List.mem_range] at hi
    exact ⟨i, hi.1, hi.2, rfl⟩
  · rintro ⟨i, h1, h2, rfl⟩
    exact ⟨i, List.mem_filter.mpr ⟨List.mem_range.mpr h1, h2⟩, rfl⟩
theorem ix_succ {n : Nat} {p : Nat → Bool} : ix (n + 1) p = ix n p ++ (if p n = true then [(n : Int)] else []) := by
  unfold ix
  rw [List.range_succ, List.filter_append, List.map_append]
  congr 1
  by_cases h : p n = true
  · rw [if_pos h, List.filter_cons_of_pos h]
    rfl
  · rw [if_neg h, List.filter_cons_of_neg h]
    rfl
theorem ix_le {p q : Nat → Bool} : ∀ {n : Nat}, (∀ i, i < n → p i = true → q i = true) → (ix n p).length ≤ (ix n q).length ∧ ((ix n p).length = (ix n q).length → ∀ i, i < n → p i = q i)
  | 0, _ => ⟨Nat.le_refl _, fun _ i h => absurd h (by omega)⟩
  | n + 1, h => by
    obtain ⟨h1, h2⟩ := ix_le (n := n) fun i hi => h i (by omega)
    rw [ix_succ, ix_succ, List.length_append, List.length_append]
    have hn := h n (by omega)
    by_cases hp : p n = true
    · have hq := hn hp
      rw [if_pos hp, if_pos hq]
      refine ⟨by simp only [List.length_singleton]; omega, fun e i hi => ?_⟩
      by_cases ei : i = n
      · rw [ei, hp, hq]
      · exact h2 (by simp only [List.length_singleton] at e; omega) i (by omega)
    · rw [if_neg hp]
      by_cases hq : q n = true
      · rw [if_pos hq]
        refine ⟨by simp only [List.length_singleton, List.length_nil]; omega, fun e => ?_⟩
        simp only [List.length_singleton, List.length_nil] at e
        omega
      · rw [if_neg hq]
        refine ⟨by simp only [List.length_nil]; omega, fun e i hi => ?_⟩
        by_cases ei : i = n
        · rw [ei, Bool.eq_false_iff.mpr hp, Bool.eq_false_iff.mpr hq]
        · exact h2 (by simp only [List.length_nil] at e; omega) i (by omega)
/-- what of the rows stays in least() -/
def lst (S : List Tx) (x : Tx) : Bool := !decide (maskT x = 0) && !(S.any fun y => !decide (maskT y = 0) && (!decide (maskT y = maskT x) && decide (maskT y &&& maskT x = maskT y)))
/-- as the law tells it -/
def lstL (S : List Tx) (x : Tx) : Bool := !decide (hasI x = []) && !((S.filter fun y => !decide (hasI y = []) && decide ((hasI y).length < (hasI x).length)).any fun y => (hasI y).all fun t => decide (t ∈ hasI x))
theorem mask_zero {x : Tx} (h : Row x) : maskT x = 0 ↔ hasI x = [] := by
  constructor
  · intro e
    rw [List.eq_nil_iff_forall_not_mem]
    intro t ht
    obtain ⟨i, hi, hp, _⟩ := ix_mem.mp ht
    have q := tb_mask h i
    rw [e, Nat.zero_testBit, hp, decide_eq_true hi] at q
    cases q
  · intro e
    apply Nat.eq_of_testBit_eq
    intro i
    rw [tb_mask h, Nat.zero_testBit]
    by_cases hi : i < x.s.length
    · by_cases hp : sg x i = 48
      · simp [hp]
      · have : (i : Int) ∈ hasI x := ix_mem.mpr ⟨i, hi, by simp [hp], rfl⟩
        rw [e] at this
        cases this
    · simp [hi]
theorem mask_sub {x y : Tx} (hx : Row x) (hy : Row y) (hl : y.s.length = x.s.length) : maskT y &&& maskT x = maskT y ↔ ∀ i, i < x.s.length → (!decide (sg y i = 48)) = true → (!decide (sg x i = 48)) = true := by
  constructor
  · intro e i hi hp
    have q := congrArg (fun t => Nat.testBit t i) e
    simp only [Nat.testBit_and] at q
    rw [tb_mask hx, tb_mask hy, hl, decide_eq_true hi, hp] at q
    simpa using q
  · intro q
    apply Nat.eq_of_testBit_eq
    intro i
    rw [Nat.testBit_and, tb_mask hx, tb_mask hy, hl]
    by_cases hi : i < x.s.length
    · have := q i hi
      rw [decide_eq_true hi]
      revert this
      cases (!decide (sg y i = 48)) <;> cases (!decide (sg x i = 48)) <;> simp
    · simp [hi]
theorem mask_eq {x y : Tx} (hx : Row x) (hy : Row y) (hl : y.s.length = x.s.length) : maskT y = maskT x ↔ ∀ i, i < x.s.length → (!decide (sg y i = 48)) = (!decide (sg x i = 48)) := by
  constructor
  · intro e i hi
    have q : (maskT y).testBit i = (maskT x).testBit i := congrArg (fun t => Nat.testBit t i) e
    rw [tb_mask hx, tb_mask hy, hl, decide_eq_true hi] at q
    simpa using q
  · intro q
    apply Nat.eq_of_testBit_eq
    intro i
    rw [tb_mask hx, tb_mask hy, hl]
    by_cases hi : i < x.s.length
    · rw [q i hi]
    · simp [hi]
theorem lst_pair {x y : Tx} (hx : Row x) (hy : Row y) (hl : y.s.length = x.s.length) : (!decide (maskT y = 0) && (!decide (maskT y = maskT x) && decide (maskT y &&& maskT x = maskT y))) = ((!decide (hasI y = []) && decide ((hasI y).length < (hasI x).length)) && (hasI y).all fun t => decide (t ∈ hasI x)) := by
  rw [decide_eq_decide.mpr (mask_zero hy)]
  cases (!decide (hasI y = [])) with
  | false => rfl
  | true =>
    rw [Bool.true_and, Bool.true_and]
    have sub : ((hasI y).all fun t => decide (t ∈ hasI x)) = decide (maskT y &&& maskT x = maskT y) := by
      rw [Bool.eq_iff_iff, List.all_eq_true, decide_eq_true_eq, mask_sub hx hy hl]
      constructor
      · intro q i hi hp
        have := of_decide_eq_true (q (i : Int) (ix_mem.mpr ⟨i, by rw [hl]; exact hi, hp, rfl⟩))
        obtain ⟨j, hj, hpj, e⟩ := ix_mem.mp this
        have : i = j := by omega
        subst this
        exact hpj
      · intro q t ht
        obtain ⟨i, hi, hp, rfl⟩ := ix_mem.mp ht
        exact decide_eq_true (ix_mem.mpr ⟨i, by rw [← hl]; exact hi, q i (by rw [← hl]; exact hi) hp, rfl⟩)
    rw [sub]
    by_cases hs : maskT y &&& maskT x = maskT y
    · rw [decide_eq_true hs, Bool.and_true, Bool.and_true]
      have hh := (mask_sub hx hy hl).mp hs
      have hq := ix_le (n := x.s.length) (p := fun i => !decide (sg y i = 48)) (q := fun i => !decide (sg x i = 48)) hh
      have ey : hasI y = ix x.s.length fun i => !decide (sg y i = 48) := by unfold hasI; rw [hl]
      rw [← ey] at hq
      change (hasI y).length ≤ (hasI x).length ∧ ((hasI y).length = (hasI x).length → _) at hq
      by_cases em : maskT y = maskT x
      · rw [decide_eq_true em]
        have h2 := (mask_eq hx hy hl).mp em
        have e3 : hasI y = hasI x := by
          rw [ey]
          exact ix_congr h2
        rw [e3, decide_eq_false (Nat.lt_irrefl _)]
        rfl
      · rw [decide_eq_false em]
        have h3 : (hasI y).length ≠ (hasI x).length := fun z => em ((mask_eq hx hy hl).mpr (hq.2 z))
        rw [decide_eq_true (by omega)]
        rfl
    · rw [decide_eq_false hs, Bool.and_false, Bool.and_false]
theorem lst_eq {n : Nat} {S : List Tx} {x : Tx} (h9 : n ≤ 9) (hS : RowsN n S) (hx : x ∈ S) : lst S x = lstL S x := by
  have row : ∀ y ∈ S, Row y := fun y hy => ⟨(hS y hy).2, by rw [(hS y hy).1]; exact h9⟩
  unfold lst lstL
  rw [decide_eq_decide.mpr (mask_zero (row x hx)), List.any_filter]
  congr 2
  rw [Bool.eq_iff_iff, List.any_eq_true, List.any_eq_true]
  constructor
  · rintro ⟨y, hy, q⟩
    exact ⟨y, hy, by rw [← lst_pair (row x hx) (row y hy) (by rw [(hS y hy).1, (hS x hx).1])]; exact q⟩
  · rintro ⟨y, hy, q⟩
    exact ⟨y, hy, by rw [lst_pair (row x hx) (row y hy) (by rw [(hS y hy).1, (hS x hx).1])]; exact q⟩
theorem lst_congr {S T : List Tx} (m : ∀ x, x ∈ S ↔ x ∈ T) (x : Tx) : lst S x = lst T x := by
  unfold lst
  congr 2
  rw [Bool.eq_iff_iff, List.any_eq_true, List.any_eq_true]
  exact ⟨fun ⟨y, hy, q⟩ => ⟨y, (m y).mp hy, q⟩, fun ⟨y, hy, q⟩ => ⟨y, (m y).mpr hy, q⟩⟩
/-- the masks, each once -/
def addN (ks : List Nat) (m : Nat) : List Nat := if m ∈ ks then ks else ks ++ [m]
def kindsUp (f : Nat → Nat) : Nat → List Nat
  | 0 => []
  | i + 1 => addN (kindsUp f i) (f i)
theorem kinds_mem {f : Nat → Nat} {m : Nat} : ∀ {n : Nat}, m ∈ kindsUp f n ↔ ∃ i, i < n ∧ f i = m
  | 0 => by simp [kindsUp]
  | n + 1 => by
    have ih := kinds_mem (f := f) (m := m) (n := n)
    rw [kindsUp]
    unfold addN
    split
    · next hm =>
      rw [ih]
      constructor
      · rintro ⟨i, hi, e⟩
        exact ⟨i, by omega, e⟩
      · rintro ⟨i, hi, e⟩
        by_cases z : i = n
        · rw [z] at e
          rw [e] at hm
          exact ih.mp hm
        · exact ⟨i, by omega, e⟩
    · next hm =>
      rw [List.mem_append, List.mem_singleton, ih]
      constructor
      · rintro (⟨i, hi, e⟩ | e)
        · exact ⟨i, by omega, e⟩
        · exact ⟨n, by omega, e.symm⟩
      · rintro ⟨i, hi, e⟩
        by_cases z : i = n
        · exact .inr (by rw [← e, z])
        · exact .inl ⟨i, by omega, e⟩
theorem kinds_len {f : Nat → Nat} : ∀ {n : Nat}, (kindsUp f n).length ≤ n
  | 0 => Nat.le_refl _
  | n + 1 => by
    have ih := kinds_len (f := f) (n := n)
    rw [kindsUp]
    unfold addN
    split
    · omega
    · rw [List.length_append, List.length_singleton]
      omega
def kvN (ks : List Nat) : List (Key × V) := ks.map fun (m : Nat) => (.inl ((m : Nat) : Int), .bl true)
theorem putK_kvN {ks : List Nat} {m : Nat} : putK (kvN ks) (.inl (m : Int)) (.bl true) = kvN (addN ks m) := by
  have ha : ((kvN ks).any fun kv => decide (kv.1 = (.inl (m : Int) : Key))) = decide (m ∈ ks) := by
    rw [Bool.eq_iff_iff, List.any_eq_true, decide_eq_true_eq]
    unfold kvN
    constructor
    · rintro ⟨kv, hk, e⟩
      obtain ⟨y, hy, rfl⟩ := List.mem_map.mp hk
      have e2 : (y : Int) = (m : Int) := Sum.inl.inj (of_decide_eq_true e)
      have : y = m := by omega
      rw [← this]
      exact hy
    · intro h
      exact ⟨_, List.mem_map.mpr ⟨m, h, rfl⟩, decide_eq_true rfl⟩
  unfold putK addN
  rw [ha]
  by_cases h : m ∈ ks
  · rw [if_pos (decide_eq_true h), if_pos h]
    unfold kvN
    rw [List.map_map]
    refine List.map_congr_left fun y _ => ?_
    show (if (Sum.inl (y : Int) : Key) = Sum.inl (m : Int) then _ else _) = _
    split
    · rfl
    · rfl
  · rw [if_neg (by rw [decide_eq_true_eq]; exact h), if_neg h]
    unfold kvN
    rw [List.map_append]
    rfl
def kvM (xs : List Tx) : List (Key × V) := xs.map fun x => (.inr (tS x), .int (maskT x : Int))
theorem putK_kvM {xs : List Tx} {x : Tx} (h : x ∉ xs) : putK (kvM xs) (.inr (tS x)) (.int (maskT x : Int)) = kvM (xs ++ [x]) := by
  have ha : ((kvM xs).any fun kv => decide (kv.1 = (.inr (tS x) : Key))) = false := by
    rw [List.any_eq_false]
    intro kv hk
    obtain ⟨y, hy, rfl⟩ := List.mem_map.mp hk
    intro e
    have e2 : tS y = tS x := Sum.inr.inj (of_decide_eq_true e)
    exact h (tS_inj.mp e2 ▸ hy)
  unfold putK
  rw [ha, if_neg Bool.false_ne_true]
  unfold kvM
  rw [List.map_append]
  rfl
theorem valV_kvM {xs : List Tx} {x : Tx} (h : x ∈ xs) : valV (kvM xs) (.inr (tS x) : Key) = some (.int (maskT x : Int)) := by
  induction xs with
  | nil => cases h
  | cons y ys ih =>
    by_cases e : y = x
    · subst e
      exact valV_pos rfl
    · show valV ((.inr (tS y), .int (maskT y : Int)) :: kvM ys) _ = _
      rw [valV_neg (fun z => e (tS_inj.mp (Sum.inr.inj z)))]
      refine ih ?_
      rcases List.mem_cons.mp h with z | z
      · exact absurd z.symm e
      · exact z
theorem mask_small (x : Tx) : maskT x < 1048576 := by
  unfold maskT maskN
  have h : (codeT x / 2 ^ 9 ||| codeT x) &&& 511 ≤ 511 := Nat.and_le_right
  omega
theorem kept_eq {S : List Tx} {x : Tx} {ls : List Nat} (hx : x ∈ S) (h : IsLM (kindsUp (fun i => maskT (S.getD i ⟨[]⟩)) S.length) ls) : decide (maskT x ∈ ls) = lst S x := by
  have hk : ∀ m, m ∈ kindsUp (fun i => maskT (S.getD i ⟨[]⟩)) S.length ↔ ∃ y ∈ S, maskT y = m := fun m => by
    rw [kinds_mem]
    constructor
    · rintro ⟨i, hi, e⟩
      exact ⟨S.getD i ⟨[]⟩, List.mem_of_getElem? (getD_of hi), e⟩
    · rintro ⟨y, hy, e⟩
      obtain ⟨i, hi, ei⟩ := List.getElem_of_mem hy
      refine ⟨i, hi, ?_⟩
      rw [List.getD_eq_getElem?_getD, List.getElem?_eq_getElem hi]
      rw [← e, ← ei]
      rfl
  rw [Bool.eq_iff_iff, decide_eq_true_eq, h (maskT x), hk]
  unfold lst
  have e1 : (!decide (maskT x = 0)) = true ↔ maskT x ≠ 0 := by simp
  rw [Bool.and_eq_true, Bool.not_eq_true' (b := List.any _ _), List.any_eq_false, e1]
  constructor
  · rintro ⟨_, h0, q⟩
    refine ⟨h0, fun y hy z => ?_⟩
    rw [Bool.and_eq_true, Bool.and_eq_true, Bool.not_eq_true', Bool.not_eq_true', decide_eq_false_iff_not, decide_eq_false_iff_not, decide_eq_true_eq] at z
    exact z.2.1 (q (maskT y) ((hk _).mpr ⟨y, hy, rfl⟩) z.1 z.2.2)
  · rintro ⟨h0, q⟩
    refine ⟨⟨x, hx, rfl⟩, h0, fun o ho o0 e => ?_⟩
    obtain ⟨y, hy, rfl⟩ := (hk o).mp ho
    have z := q y hy
    by_cases ne : maskT y = maskT x
    · exact ne
    · exact absurd (by rw [Bool.and_eq_true, Bool.and_eq_true, Bool.not_eq_true', Bool.not_eq_true', decide_eq_false_iff_not, decide_eq_false_iff_not, decide_eq_true_eq]; exact ⟨o0, ne, e⟩) z
end K02

set_option Elab.async false
set_option linter.all false
set_option maxRecDepth 100000
set_option maxHeartbeats 1000000
namespace K02
open PySem PySem.Spec PyProof.Rows L2 Z K00
section
variable {P : Program} {w : World} {K : PySem.W.Frag} {mg : Str → Option Value} {base : Heap}
theorem fmap_id {α : Type} (xs : List α) (p : α → Bool) : (xs.filter p).map (fun x => x) = xs.filter p := List.map_id' _
theorem any_map_id {α : Type} (xs : List α) (f : α → Bool) : (((xs.filter fun _ => true).map f).any id) = xs.any f := by
  rw [List.filter_eq_self.mpr (fun _ _ => rfl), List.any_map]
  rfl
theorem all_map_id {α : Type} (xs : List α) (f : α → Bool) : (((xs.filter fun _ => true).map f).all id) = xs.all f := by
  rw [List.filter_eq_self.mpr (fun _ _ => rfl), List.all_map]
  rfl
theorem getD_is {α : Type} {xs : List α} {i : Nat} {x d : α} (h : xs[i]? = some x) : xs.getD i d = x := by
  rw [List.getD_eq_getElem?_getD, h]
  rfl
theorem o1_any {bs : List Bool} : Op1 K (rAny K) bs (Is (bs.any id)) := fun Δ H v Q hh r k => by
  obtain ⟨p, vs, rfl, n, s, q⟩ := r
  have e := all2_bl q
  subst e
  exact ⟨p, bs, rfl, s, k _ H _ rfl (Ext.refl hh) rfl⟩
def F__law_least_rows : Pm (List Tx) := fun _ cs R => ∃ (n : Nat) (xs : List Tx), cs = [⟨xs⟩] ∧ n ≤ 9 ∧ RowsN n xs ∧ xs.length ≤ 1000 ∧ R = Is ((srt xs).filter (lstL xs))
abbrev IvE (Γ : Own) (Δ0 : Gh) (xs : List Tx) : Nat → Own → Z.Env → Prop := fun i Γ' ρ' => ∃ (f : Addr) (a b c : Option Cell), Γ' = OwnL f (((srt xs).take i).filter (lstL xs)) :: Γ ∧ OwnP Δ0 Γ f ∧ ρ' = [some ⟨xs⟩, some ⟨(⟨f⟩ : Z.Loc)⟩, a, b, c, none, none]
theorem sc__law_least_rows : FnScope ["_law_rows", "_law_found", "_law_row", "_law_things", "_law_less", "_law_one", "_law_thing"] ["_law_rows"] (defScope s__law_least_rows) := ⟨rfl, rfl, rfl, by decide +kernel, rfl, by decide +kernel, by decide +kernel⟩
theorem ok__law_least_rows (T : Txt K mg) {f : Addr} {fd : FuncData} (D : Df K mg "_law_least_rows" s__law_least_rows ["_law_rows"] f fd) {f__law_held : Addr} {fd__law_held : FuncData} (D__law_held : Df K mg "_law_held" s__law_held ["_law_row"] f__law_held fd__law_held) (G__law_held : FnOk P w K mg base CX0 2 f__law_held fd__law_held ["_law_row"] (spD K F__law_held)) : FnOk P w K mg base CX0 3 f fd ["_law_rows"] (spD K F__law_least_rows) := by
  obtain ⟨_, hI_SHIFT⟩ := T.i_SHIFT
  obtain ⟨_, hI_LOW⟩ := T.i_LOW
  obtain ⟨_, hI_MAX_THINGS⟩ := T.i_MAX_THINGS
  refine def_ok D.F sc__law_least_rows (fun Γ cs R g => ?len) (fun cdv A outer s H E hr Γ cs R g => ?_)
  case len => obtain ⟨n, xs, rfl, _⟩ := g; rfl
  obtain ⟨n, xs, rfl, hn9, hS, hz, rfl⟩ := g
  have row : ∀ y ∈ xs, Row y := fun y hy => ⟨(hS y hy).2, by rw [(hS y hy).1]; exact hn9⟩
  refine ⟨_, (pss_cons (ps_set (i := 1) sc__law_least_rows.nd rfl (by first | exact .inl rfl | exact .inr rfl) (pe_lst pa_nil))
      (pss_cons (ps_for PassesOwn.never rfl (pi_listK (pe_sortSet (by rfl) (by rfl) T.z_sorted (by decide +kernel) (by rfl) T.z_set (pv 0))) (pg_name (i := 2) sc__law_least_rows.nd rfl (by first | exact .inl rfl | exact .inr rfl))
        (pss_cons (ps_set (i := 3) sc__law_least_rows.nd rfl (by first | exact .inl rfl | exact .inr rfl) (pe_call G__law_held (hr.mono (by decide)) (by rfl) D__law_held.g D__law_held.kp D__law_held.b .nil pass0 (pa_cons (pv 2) pa_nil)))
        (pss_cons (ps_setLc (i := 4) (own := [("_law_one", 5)]) (g := (gName 5)) (tt := _) rfl sc__law_least_rows.nd rfl rfl (sw_true rfl rfl rfl (by decide +kernel)) (pi_listK (pv 0)) (blkOk_by (N := ["_law_rows", "_law_found", "_law_row", "_law_things", "_law_less", "_law_one", "_law_thing"]) (sc := defScope s__law_least_rows) (by decide +kernel)) (fun _ _ _ _ _ => (pg_name (i := 5) sc__law_least_rows.nd rfl (by first | exact .inl rfl | exact .inr rfl))) (fun _ _ _ _ _ => (pts_one (PW.pt (pw_and (pt_cmpR (op_neK hr.units) (pe_call G__law_held (hr.mono (by decide)) (by rfl) D__law_held.g D__law_held.kp D__law_held.b .nil pass0 (pa_cons (pv 5) pa_nil)) (pe_tup pa_nil) (nomark _)) (pw_and1 (pt_cmpR op_lt (pe_callB call_lenK (by rfl) T.z_len (by decide +kernel) (pa_cons (pe_call G__law_held (hr.mono (by decide)) (by rfl) D__law_held.g D__law_held.kp D__law_held.b .nil pass0 (pa_cons (pv 5) pa_nil)) pa_nil)) (pe_callB call_lenK (by rfl) T.z_len (by decide +kernel) (pa_cons (pv 3) pa_nil)) (nomark _))))))) (fun _ _ _ _ _ => (pv 5)))
        (pss_one (ps_if (PW.pt (pw_and (pt_cmpR (op_neK hr.units) (pv 3) (pe_tup pa_nil) (nomark _)) (pw_and1 (pt_not (pt_val (pe_callB (cr_any rfl) (by rfl) T.z_any (by decide +kernel) (pa_cons (pe_lc (own := [("_law_one", 5)]) (g := (gName 5)) (tt := tYes) rfl sc__law_least_rows.nd (pi_listK (pv 4)) (blkOk_by (N := ["_law_rows", "_law_found", "_law_row", "_law_things", "_law_less", "_law_one", "_law_thing"]) (sc := defScope s__law_least_rows) (by decide +kernel)) (fun _ _ _ _ _ => (pg_name (i := 5) sc__law_least_rows.nd rfl (by first | exact .inl rfl | exact .inr rfl))) (fun _ _ _ _ _ => pts_nil) (fun _ _ _ _ _ => (pe_callB (cr_allK rfl) (by rfl) T.z_all (by decide +kernel) (pa_cons (pe_lc (own := [("_law_thing", 6)]) (g := (gName 6)) (tt := tYes) rfl sc__law_least_rows.nd (pi_tupK (pe_call G__law_held (hr.mono (by decide)) (by rfl) D__law_held.g D__law_held.kp D__law_held.b .nil pass0 (pa_cons (pv 5) pa_nil))) (blkOk_by (N := ["_law_rows", "_law_found", "_law_row", "_law_things", "_law_less", "_law_one", "_law_thing"]) (sc := _) (by kernel_rfl)) (fun _ _ _ _ _ => (pg_name (i := 6) sc__law_least_rows.nd rfl (by first | exact .inl rfl | exact .inr rfl))) (fun _ _ _ _ _ => pts_nil) (fun _ _ _ _ _ => (pe_cmpR op_inK (pv 6) (pv 3) (by rfl)))) pa_nil)))) pa_nil))))))) (pss_one (ps_expr (pe_bm PySem.F.plainAttrs_list PySem.F.slot_list_append PySem.F.type_list_append mt_append (pv 1) (pa_cons (pv 2) pa_nil)))) pss_nil)))))
      (pss_one (ps_ret (pv 1))))), fun Δ0 D' hf hn => ?_⟩
  refine wp_newL (α := Tx) (ltr rfl) fun f of => ?_
  refine wp_for (IvE Γ Δ0 xs) (src_list (xs := srt xs) (x0 := fun i => (srt xs).getD i ⟨[]⟩) (ev_sortSet (ev_var (i := 0) (a := xs)) hz) (fun i hi => getD_of hi) (j := 2) (ltr rfl)) ⟨f, none, none, none, rfl, of, rfl⟩ (fun i Γ' ρ' h => by obtain ⟨f, a, b, c, _, _, rfl⟩ := h; rfl) ?_ ?_
  · rintro i Γ' ρ' F' hi ⟨f, a, b, c, rfl, of, rfl⟩
    have hx : (srt xs)[i]? = some ((srt xs).getD i ⟨[]⟩) := getD_of hi
    generalize (srt xs).getD i ⟨[]⟩ = x at hx ⊢
    have hm : x ∈ xs := srt_mem.mp (List.mem_of_getElem? hx)
    have et : (srt xs).take (i + 1) = (srt xs).take i ++ [x] := by rw [List.take_add_one, hx]; rfl
    refine wp_asg1 (a := (⟨hasI x⟩ : Tup Int)) (ev_call1 (ea_1 (ev_var (i := 2) (a := x)) ea_nil) ⟨x, rfl, row x hm, rfl⟩) (ltr rfl) ?_
    refine wp_asg1 (a := xs.filter fun y => !decide (hasI y = []) && decide ((hasI y).length < (hasI x).length)) (ev_is (ev_lcD (xs := xs) (fun y => !decide (hasI y = []) && decide ((hasI y).length < (hasI x).length)) (fun y => y) (src_list (x0 := fun i => xs.getD i ⟨[]⟩) (ev_var (i := 0) (a := xs)) (fun i hi => getD_of hi) (j := 5) (ltr rfl)) (by omega) (by decide) fun j y hy => ⟨?_, fun _ => by rw [← getD_is (d := ⟨[]⟩) hy]; exact ev_var (i := 5)⟩) (fmap_id _ _)) (ltr rfl) ?_
    · have e := getD_is (d := ⟨[]⟩) hy
      subst e
      have hy' := row _ (List.mem_of_getElem? hy)
      refine et_is (et_and (et_test (ev_op1 (ev_call1 (ea_1 (ev_var (i := 5) (a := xs.getD j ⟨[]⟩)) ea_nil) ⟨_, rfl, hy', rfl⟩) (ev_tupN (xs := ([] : List Int)) ea_nil (by decide)) o2_neT)) fun _ => et_test (ev_op1 (ev_cb (ev_call1 (ea_1 (ev_var (i := 5) (a := xs.getD j ⟨[]⟩)) ea_nil) ⟨_, rfl, hy', rfl⟩) o1_lenT) (ev_cb (ev_var (i := 3) (a := (⟨hasI x⟩ : Tup Int))) o1_lenT) (o2_B0 (g := fun i j => decide (i < j))))) ?_
      congr 1
      exact decide_eq_decide.mpr (by show ((hasI _).length : Int) < ((hasI x).length : Int) ↔ _; omega)
    refine wp_if (b := lstL xs x) (et_is (et_and (et_test (ev_op1 (ev_var (i := 3) (a := (⟨hasI x⟩ : Tup Int))) (ev_tupN (xs := ([] : List Int)) ea_nil (by decide)) o2_neT)) fun _ => et_not (et_test (ev_is (ev_cb (ev_lcD (xs := xs.filter fun y => !decide (hasI y = []) && decide ((hasI y).length < (hasI x).length)) (fun _ => true) (fun y => (hasI y).all fun t => decide (t ∈ hasI x)) (src_list (x0 := fun i => (xs.filter fun y => !decide (hasI y = []) && decide ((hasI y).length < (hasI x).length)).getD i ⟨[]⟩) (ev_var (i := 4)) (fun i hi => getD_of hi) (j := 5) (ltr rfl)) (Nat.le_trans (List.length_filter_le _ _) (by omega)) (by decide) fun j y hy => ⟨et_yes, fun _ => ?_⟩) o1_any) (any_map_id _ _)))) rfl) (fun h1 => ?_) (fun h1 => ?_)
    · have e := getD_is (d := ⟨[]⟩) hy
      subst e
      have hy' := row _ (List.mem_filter.mp (List.mem_of_getElem? hy)).1
      generalize (xs.filter fun y => !decide (hasI y = []) && decide ((hasI y).length < (hasI x).length)).getD j ⟨[]⟩ = y at hy hy' ⊢
      have hn9' : (hasI y).length ≤ 50000 := by
        unfold hasI ix
        rw [List.length_map]
        refine Nat.le_trans (List.length_filter_le _ _) ?_
        rw [List.length_range]
        exact Nat.le_trans hy'.len (by decide)
      exact ev_is (ev_cb (ev_lcD (xs := hasI y) (fun _ => true) (fun t => decide (t ∈ hasI x)) (src_tup (xs := ⟨hasI y⟩) (x0 := fun i => (hasI y).getD i 0) (ev_call1 (ea_1 (ev_var (i := 5) (a := y)) ea_nil) ⟨_, rfl, hy', rfl⟩) (fun i hi => getD_of hi) (j := 6) (ltr rfl)) hn9' (by decide) fun l t ht => ⟨et_yes, fun _ => by
        have e := getD_is (d := 0) ht
        subst e
        exact ev_op1 (ev_var (i := 6)) (ev_var (i := 3) (a := (⟨hasI x⟩ : Tup Int))) o2_inT⟩) o1_all) (all_map_id _ _)
    · refine wp_appL of ?_ (ev_var (i := 1)) (ev_var (i := 2) (a := x)) fun y hy => wp_turn (Iv := IvE Γ Δ0 xs) ⟨f, _, _, _, ?_, of, rfl⟩ rfl
      · refine Nat.lt_of_le_of_lt (Nat.le_trans (List.length_filter_le _ _) (Nat.le_trans (List.length_take_le' ..) srt_len)) (by omega)
      · rw [et, List.filter_append, show y = x from hy, List.filter_cons_of_pos h1]
        rfl
    · refine wp_turn (Iv := IvE Γ Δ0 xs) ⟨f, _, _, _, ?_, of, rfl⟩ rfl
      rw [et, List.filter_append, List.filter_cons_of_neg (by rw [h1]; exact Bool.false_ne_true), List.filter_nil, List.append_nil]
  · rintro Γ' ρ' F' ⟨f, a, b, c, rfl, of, rfl⟩
    rw [List.take_length]
    exact wp_retL of hf rfl (ev_var (i := 1))
end
end K02

set_option Elab.async false
set_option linter.all false
set_option maxRecDepth 100000
set_option maxHeartbeats 1000000
namespace K02
open PySem PySem.Spec PyProof.Rows L2 Z K00
section
variable {P : Program} {w : World} {K : PySem.W.Frag} {mg : Str → Option Value} {base : Heap}
theorem o2_inLI {i : Int} {xs : List Int} : Op2 K (rIn K false) i xs (Is (decide (i ∈ xs))) := fun Δ H v w Q hh r1 r2 k => by
  have e1 : v = .int i := r1
  obtain ⟨p, vs, rfl, n, s, q⟩ := r2
  subst e1
  have ev := all2_int q
  subst ev
  exact ⟨p, _, rfl, .inl s, rfl, flat_int, k _ H _ rfl (Ext.refl hh) (by show V.bl _ = V.bl _; rw [if_neg Bool.false_ne_true, inV_int])⟩
theorem mem_zs {m : Nat} {ms : List Nat} : decide ((m : Int) ∈ zs ms) = decide (m ∈ ms) := by
  rw [decide_eq_decide, List.mem_map]
  constructor
  · rintro ⟨y, hy, e⟩
    have : y = m := by omega
    exact this ▸ hy
  · intro h
    exact ⟨m, h, rfl⟩
theorem mem_zs' {m : Nat} {ls : List Nat} : decide ((m : Int) ∈ (ls.map fun i => ((i : Nat) : Int))) = decide (m ∈ ls) := mem_zs
def F_Lot_least : Pm LotD := fun _ cs R => ∃ L : LotD, cs = [⟨L⟩] ∧ LotOk L ∧ L.rows.Nodup ∧ R = LotOf L.many (L.rows.filter (lst L.rows))
theorem sc_Lot_least : FnScope ["self", "masks", "least", "row", "mask"] ["self"] (defScope s_Lot_least) := ⟨rfl, rfl, rfl, by decide +kernel, rfl, by decide +kernel, by decide +kernel⟩
theorem ok_Lot_least (T : Txt K mg) (CL : LotT K) (CG : mg "Lot" = some (.ref (He.ga K "Lot"))) {f : Addr} {fd : FuncData} {dvs : List V} (D : DfM K dvs "least" "Lot.least" s_Lot_least ["self"] f fd) {f_least_masks : Addr} {fd_least_masks : FuncData} (D_least_masks : Df K mg "least_masks" s_least_masks ["masks"] f_least_masks fd_least_masks) (G_least_masks : FnOk P w K mg base CX0 5 f_least_masks fd_least_masks ["masks"] (spD K F_least_masks)) {f_Lot___init__ : Addr} {fd_Lot___init__ : FuncData} {dv_Lot___init__ : List V} (CP_Lot : Mk K (He.ga K "Lot") f_Lot___init__ ∧ DfM K dv_Lot___init__ "__init__" "Lot.__init__" s_Lot___init__ ["self", "many", "rows"] f_Lot___init__ fd_Lot___init__) (G_Lot___init__ : FnOk P w K mg base CX0 5 f_Lot___init__ fd_Lot___init__ ["self", "many", "rows"] (spI K (He.ga K "Lot") F_Lot___init__)) {f_mask_of : Addr} {fd_mask_of : FuncData} (D_mask_of : Df K mg "mask_of" s_mask_of ["code"] f_mask_of fd_mask_of) (G_mask_of : FnOk P w K mg base CX0 2 f_mask_of fd_mask_of ["code"] (spD K F_mask_of)) {f_code_of : Addr} {fd_code_of : FuncData} (D_code_of : Df K mg "code_of" s_code_of ["row"] f_code_of fd_code_of) (G_code_of : FnOk P w K mg base CX0 2 f_code_of fd_code_of ["row"] (spD K F_code_of)) : FnOk P w K mg base CX0 7 f fd ["self"] (spD K F_Lot_least) := by
  obtain ⟨_, hI_SHIFT⟩ := T.i_SHIFT
  obtain ⟨_, hI_LOW⟩ := T.i_LOW
  obtain ⟨_, hI_MAX_THINGS⟩ := T.i_MAX_THINGS
  refine def_ok D.F sc_Lot_least (fun Γ cs R g => ?len) (fun cdv A outer s H E hr Γ cs R g => ?_)
  case len => obtain ⟨L, rfl, _⟩ := g; rfl
  obtain ⟨L, rfl, hL, nd, rfl⟩ := g
  refine ⟨_, (pss_cons (ps_set (i := 1) sc_Lot_least.nd rfl (by first | exact .inl rfl | exact .inr rfl) (pe_dc (own := [("row", 3)]) (g := (gName 3)) (tt := tYes) rfl sc_Lot_least.nd (pi_tupK (pe_fldK (pv 0) (by rfl))) (blkOk_by (N := ["self", "masks", "least", "row", "mask"]) (sc := defScope s_Lot_least) (by decide +kernel)) (fun _ _ _ _ _ => (pg_name (i := 3) sc_Lot_least.nd rfl (by first | exact .inl rfl | exact .inr rfl))) (fun _ _ _ _ _ => pts_nil) (fun _ _ _ _ _ => (pv 3)) (fun _ _ _ _ _ => (pe_call G_mask_of (hr.mono (by decide)) (by rfl) D_mask_of.g D_mask_of.kp D_mask_of.b .nil pass0 (pa_cons (pe_call G_code_of (hr.mono (by decide)) (by rfl) D_code_of.g D_code_of.kp D_code_of.b .nil pass0 (pa_cons (pv 3) pa_nil)) pa_nil)))))
      (pss_cons (ps_set (i := 2) sc_Lot_least.nd rfl (by first | exact .inl rfl | exact .inr rfl) (pe_call G_least_masks (hr.mono (by decide)) (by rfl) D_least_masks.g D_least_masks.kp D_least_masks.b .nil pass0 (pa_cons (pe_callTy (call_list_dK rfl) (by rfl) T.z_list (by decide +kernel) (pa_cons (pe_lock (pe_dc (own := [("mask", 4)]) (g := (gName 4)) (tt := tYes) rfl sc_Lot_least.nd (pi_values (pv 1)) (blkOk_by (N := ["self", "masks", "least", "row", "mask"]) (sc := defScope s_Lot_least) (by decide +kernel)) (fun _ _ _ _ _ => (pg_name (i := 4) sc_Lot_least.nd rfl (by first | exact .inl rfl | exact .inr rfl))) (fun _ _ _ _ _ => pts_nil) (fun _ _ _ _ _ => (pv 4)) (fun _ _ _ _ _ => pe_bl))) pa_nil)) pa_nil)))
      (pss_one (ps_ret (pe_make CP_Lot.1 G_Lot___init__ (hr.mono (by decide)) (by rfl) CG CP_Lot.2.b .nil pass0 (pa_cons (pe_fldK (pv 0) (by rfl)) (pa_cons (pe_callTy call_tupK (by rfl) T.z_tuple (by decide +kernel) (pa_cons (pe_lc (own := [("row", 3)]) (g := (gName 3)) (tt := _) rfl sc_Lot_least.nd (pi_tupK (pe_fldK (pv 0) (by rfl))) (blkOk_by (N := ["self", "masks", "least", "row", "mask"]) (sc := defScope s_Lot_least) (by decide +kernel)) (fun _ _ _ _ _ => (pg_name (i := 3) sc_Lot_least.nd rfl (by first | exact .inl rfl | exact .inr rfl))) (fun _ _ _ _ _ => (pts_one (pt_cmpR op_inK (pe_dget (hu_of hr) (pv 1) (pv 3) (fun _ _ => rfl)) (pv 2) (by rfl)))) (fun _ _ _ _ _ => (pv 3))) pa_nil)) pa_nil))))))), fun Δ0 D' hf hn => ?_⟩
  have em : (kvM L.rows).length = L.rows.length := by unfold kvM; rw [List.length_map]
  refine wp_asgN (I := ObIs (.dK (kvM L.rows))) (ρ := env0 ["self", "masks", "least", "row", "mask"] [⟨L⟩]) ?_ (ltr rfl) fun d o io od => ?_
  · have h := fun (E : XK) (E2 : XK) => en_dcA (K := K) (Γ := Γ) (κ := Tx) (ν := Int) (tt := tYes) (tv := tCall (spD K F_mask_of) [] E (tCons (tCall (spD K F_code_of) [] E2 (tCons (tVar 3) tNil)) tNil)) (tk := tVar 3) (fun i => kvM (L.rows.take i)) rfl (n := L.rows.length) (fun i hi => by unfold kvM; rw [List.length_map]; exact Nat.le_trans (List.length_take_le ..) (Nat.le_trans (Nat.le_of_lt hi) hL.len)) (src_rows CL (ev_var (ρ := env0 ["self", "masks", "least", "row", "mask"] [⟨L⟩]) (i := 0) (a := L)) (j := 3) (ltr rfl)) (vs := [3]) (by decide) fun i hi => ⟨true, et_yes, fun z => (by cases z), fun _ => ?_⟩
    · have e := h
      simp only [List.take_length] at e
      exact e _ _
    · have hx : L.rows[i]? = some (L.rows.getD i ⟨[]⟩) := getD_of hi
      have hr := hL.row (List.mem_of_getElem? hx)
      refine ⟨L.rows.getD i ⟨[]⟩, (maskT (L.rows.getD i ⟨[]⟩) : Int), .inr (tS (L.rows.getD i ⟨[]⟩)), rfl, ev_var (i := 3), ev_call1 (ea_1 (ev_call1 (ea_1 (ev_var (i := 3)) ea_nil) ⟨_, rfl, hr.len, rfl⟩) ea_nil) ⟨_, rfl, rfl⟩, ?_⟩
      have ni : L.rows.getD i ⟨[]⟩ ∉ L.rows.take i := fun z => by
        obtain ⟨j, hj, ej⟩ := List.getElem_of_mem z
        rw [List.length_take] at hj
        rw [List.getElem_take] at ej
        rw [List.getD_eq_getElem?_getD, List.getElem?_eq_getElem hi] at ej
        have := (List.getElem_inj nd).mp ej
        omega
      show kvM (L.rows.take (i + 1)) = putK (kvM (L.rows.take i)) (.inr (tS (L.rows.getD i ⟨[]⟩))) (.int (maskT (L.rows.getD i ⟨[]⟩) : Int))
      rw [putK_kvM ni, List.take_add_one, hx]
      rfl
  have eo : o = HO.dK (kvM L.rows) := io
  subst eo
  have hne : ∀ q ∈ Γ, q.1 ≠ d := od.ne
  refine wp_asg (P := fun ys : List Int => ∃ ls : List Nat, ys = zs ls ∧ IsLM (kindsUp (fun i => maskT (L.rows.getD i ⟨[]⟩)) L.rows.length) ls) (ev_call1 (ea_1 (ev_listN (xs := zs (kindsUp (fun i => maskT (L.rows.getD i ⟨[]⟩)) L.rows.length)) (kvs := kvN (kindsUp (fun i => maskT (L.rows.getD i ⟨[]⟩)) L.rows.length)) ?_ (en_lock (i := 1) trivial hne rfl ?_)) ea_nil) ⟨_, rfl, Nat.le_trans kinds_len hL.len, fun m hm => ?_, rfl⟩) (ltr rfl) ?_
  · unfold kvN zs
    rw [List.map_map, List.map_map]
    rfl
  · have h := en_dcA (K := K) (Γ := Γ) (κ := Int) (ν := Bool) (tt := tYes) (tv := tC (.bl true)) (tk := tVar 4) (fun i => kvN (kindsUp (fun i => maskT (L.rows.getD i ⟨[]⟩)) i)) rfl (n := (kvM L.rows).length) (fun i hi => by
      rw [em] at hi
      unfold kvN
      rw [List.length_map]
      exact Nat.le_trans kinds_len (Nat.le_trans (Nat.le_of_lt hi) hL.len)) (src_vals (x0 := fun i => (maskT (L.rows.getD i ⟨[]⟩) : Int)) (ev_var (ρ := (env0 ["self", "masks", "least", "row", "mask"] [⟨L⟩]).set 1 (some ⟨(⟨d, HO.dK (kvM L.rows)⟩ : Fz)⟩)) (i := 1)) (fun i hi => ⟨.inr (tS (L.rows.getD i ⟨[]⟩)), by
        rw [em] at hi
        unfold kvM
        rw [List.getElem?_map, getD_of (d := ⟨[]⟩) hi]
        rfl⟩) (j := 4) (ltr rfl)) (vs := [4]) (by decide) fun i hi => ⟨true, et_yes, fun z => (by cases z), fun z => ⟨(maskT (L.rows.getD i ⟨[]⟩) : Int), true, .inl (maskT (L.rows.getD i ⟨[]⟩) : Int), rfl, ev_var (i := 4), ev_bl, ?_⟩⟩
    · rw [em] at h
      exact h
    · show kvN (kindsUp _ (i + 1)) = _
      rw [kindsUp]
      exact putK_kvN.symm
  · obtain ⟨i, _, e⟩ := kinds_mem.mp hm
    rw [← e]
    exact mask_small _
  rintro _ ⟨ls, rfl, hls⟩
  have hc := ev_lcD (K := K) (Γ := (d, ObIs (.dK (kvM L.rows))) :: Γ) (t := tTest (tOp (rIn K false) (tDGet (tVar 1) (tVar 3)) (tVar 2))) (te := tVar 3) (xs := L.rows) (fun x => decide (maskT x ∈ ls)) (fun x => x) (src_rows CL (ev_var (ρ := [some ⟨L⟩, some ⟨(⟨d⟩ : Z.Loc)⟩, some ⟨zs ls⟩, none, none]) (i := 0) (a := L)) (j := 3) (ltr rfl)) hL.len (vs := [3]) (by decide) fun i x hi => by
    have e := getL hi
    subst e
    refine ⟨et_is (et_test (ev_op1 (ev_dgetO (κ := Tx) (ν := Int) (x := L.rows.getD i ⟨[]⟩) (y := (maskT (L.rows.getD i ⟨[]⟩) : Int)) (k0 := .inr (tS (L.rows.getD i ⟨[]⟩))) List.mem_cons_self rfl (valV_kvM (List.mem_of_getElem? hi)) (ev_var (i := 1)) (ev_var (i := 3))) (ev_var (i := 2)) o2_inLI)) mem_zs, fun _ => ev_var (i := 3)⟩
  have ef : (L.rows.filter fun x => decide (maskT x ∈ ls)) = L.rows.filter (lst L.rows) := List.filter_congr fun x hx => kept_eq hx hls
  rw [ef, show (fun x : Tx => x) = id from rfl, List.map_id] at hc
  refine wp_ret hf (ev_make (dcs := []) (fun _ _ => trivial) (ea_1 (ev_lotMany CL (ev_var (i := 0))) (ea_1 (ev_cb hc o1_tuple) ea_nil)) ⟨L.many, ⟨_⟩, rfl, hL.m9, fun x hx => hL.rows x (List.mem_filter.mp hx).1, Nat.le_trans (List.length_filter_le _ _) hL.len, rfl⟩)
end
end K02

set_option Elab.async false
set_option linter.all false
set_option maxRecDepth 100000
set_option maxHeartbeats 1000000
namespace K02
open PySem PySem.Spec PyProof.Rows L2 Z K00
section
variable {α : Type} [Rp α] [Dt α]
theorem lay_all : ∀ {xs : List α}, (∀ x ∈ xs, PyData.canLay0 (Dt.d x) = true ∧ PyData.depth (Dt.d x) ≤ 5) → PyData.canLayAll0 (xs.map Dt.d) = true ∧ PyData.depthAll (xs.map Dt.d) ≤ 5
  | [], _ => by simp [PyData.canLayAll0, PyData.depthAll]
  | x :: xs, h => by
    have more := lay_all (xs := xs) fun y hy => h y (List.mem_cons_of_mem _ hy)
    have h1 := h x List.mem_cons_self
    rw [List.map_cons, PyData.canLayAll0, PyData.depthAll, more.1, h1.1]
    exact ⟨rfl, by omega⟩
theorem shaped_L {xs : List α} (h : ∀ x ∈ xs, PyData.canLay0 (Dt.d x) = true ∧ PyData.depth (Dt.d x) ≤ 5) : SeqAt.shaped (Dt.d xs) = true := by
  have q := lay_all h
  unfold SeqAt.shaped
  show (PyData.canLay0 (.list _) && decide (PyData.depth (.list _) ≤ 64)) = true
  rw [PyData.canLay0, PyData.depth, q.1, decide_eq_true (by omega)]
  rfl
theorem lay_tup {xs : Tup Tx} (h : TOk xs.l) : PyData.canLay0 (Dt.d xs) = true ∧ PyData.depth (Dt.d xs) ≤ 5 := by
  show PyData.canLay0 (.tuple _) = true ∧ PyData.depth (.tuple _) ≤ 5
  rw [PyData.canLay0, PyData.depth, (lay_txs h).1, (lay_txs h).2]
  exact ⟨rfl, by omega⟩
theorem lay_lst {xs : List Tx} (h : TOk xs) : PyData.canLay0 (Dt.d xs) = true ∧ PyData.depth (Dt.d xs) ≤ 5 := by
  show PyData.canLay0 (.list _) = true ∧ PyData.depth (.list _) ≤ 5
  rw [PyData.canLay0, PyData.depth, (lay_txs h).1, (lay_txs h).2]
  exact ⟨rfl, by omega⟩
theorem lay_tx {x : Tx} (h : PyData.canLay0 (Dt.d x) = true) : PyData.canLay0 (Dt.d x) = true ∧ PyData.depth (Dt.d x) ≤ 5 := ⟨h, Nat.zero_le _⟩
theorem lay_int {x : Int} : PyData.canLay0 (Dt.d x) = true ∧ PyData.depth (Dt.d x) ≤ 5 := ⟨rfl, Nat.zero_le _⟩
theorem lay_bl {x : Bool} : PyData.canLay0 (Dt.d x) = true ∧ PyData.depth (Dt.d x) ≤ 5 := ⟨rfl, Nat.zero_le _⟩
variable {K : PySem.W.Frag}
theorem canLay_of {d : PyData} (h : SeqAt.shaped d = true) : PyData.canLay0 d = true := by
  unfold SeqAt.shaped at h
  rw [Bool.and_eq_true] at h
  exact h.1
theorem o2_neSame {x : α} (h : SeqAt.shaped (Dt.d x) = true) : Op2 K (rNeD K) x x (Is false) := by
  have q := o2_neD (K := K) h h
  rw [SeqAt.eqv_refl _ (canLay_of h)] at q
  exact q
theorem o2_eqSame {x : α} (h : SeqAt.shaped (Dt.d x) = true) : Op2 K (rEqD K) x x (Is true) := by
  have q := o2_eqD (K := K) h h
  rw [SeqAt.eqv_refl _ (canLay_of h)] at q
  exact q
end
section
variable {K : PySem.W.Frag} {Γ : Own} {ρ : Z.Env} {ta tb te : TE} {tl : TA}
theorem o2_neLB {x y : List Bool} : Op2 K (rNeD K) x y (Is (!decide (x = y))) := by
  rw [← eqv_bls x y]
  exact o2_neD shaped_lB shaped_lB
theorem inV_tx {x : Tx} : ∀ {xs : List Tx}, inV (.str (tS x)) ((xs.map fun x => (⟨x.s.toArray⟩ : Str)).map V.str) = decide (x ∈ xs)
  | [] => rfl
  | y :: ys => by
    have ih := inV_tx (x := x) (xs := ys)
    unfold inV at ih ⊢
    rw [List.map_cons, List.map_cons, List.any_cons, ih]
    by_cases h : x = y
    · subst h
      simp [eqV]
    · have h2 : ¬ tS x = tS y := fun z => h (tS_inj.mp z)
      have h3 : ¬ tS y = tS x := fun z => h2 z.symm
      simp [eqV, h, h2, h3]
theorem flat_tx : ∀ {xs : List Tx}, ((xs.map fun x => (⟨x.s.toArray⟩ : Str)).map V.str).all flatV = true
  | [] => rfl
  | _ :: xs => by
    rw [List.map_cons, List.map_cons, List.all_cons, flat_tx]
    rfl
theorem o2_inLS {x : Tx} {xs : List Tx} : Op2 K (rIn K false) x xs (Is (decide (x ∈ xs))) := fun Δ H v w Q hh r1 r2 k => by
  have e1 : v = .str (tS x) := r1
  obtain ⟨p, vs, rfl, n, s, q⟩ := r2
  subst e1
  have ev := all2_tx q
  subst ev
  exact ⟨p, _, rfl, .inl s, rfl, flat_tx, k _ H _ rfl (Ext.refl hh) (by show V.bl _ = V.bl _; rw [if_neg Bool.false_ne_true, inV_tx])⟩
theorem o2_notInLS {x : Tx} {xs : List Tx} : Op2 K (rIn K true) x xs (Is (!decide (x ∈ xs))) := fun Δ H v w Q hh r1 r2 k => by
  have e1 : v = .str (tS x) := r1
  obtain ⟨p, vs, rfl, n, s, q⟩ := r2
  subst e1
  have ev := all2_tx q
  subst ev
  exact ⟨p, _, rfl, .inl s, rfl, flat_tx, k _ H _ rfl (Ext.refl hh) (by show V.bl _ = V.bl _; rw [if_pos rfl, inV_tx])⟩
/-- a fresh list, as a list -/
theorem ev_fl {α : Type} [Rp α] {xs : List α} (h : Ev K Γ te ρ (Is (⟨xs⟩ : FL α))) : Ev K Γ te ρ (Is xs) := ev_ofFL (h.imp fun y hy => by rw [show y = ⟨xs⟩ from hy]; rfl)
/-- told data, the items by f, chosen by p: a fresh list -/
theorem ev_lcDF {β : Type} [Rp β] {t : TT} {wi : TI} {g : TG} {js vs : List Nat} {τ : Type} {xs : List τ} {st : Nat → Z.Env → Z.Env} (p : τ → Bool) (f : τ → β) (S : Src K Γ wi g ρ js xs.length st) (hn : xs.length ≤ 50000) (hjs : ∀ j ∈ js, j ∈ vs)
    (hs : ∀ i x, xs[i]? = some x → EvT K Γ t (st i (wipeE ρ vs)) (Is (p x)) ∧ (p x = true → Ev K Γ te (st i (wipeE ρ vs)) (Is (f x)))) :
    Ev K Γ (tLc wi g t te vs) ρ (Is (⟨(xs.filter p).map f⟩ : FL β)) := by
  refine (ev_lcF (fun i acc => acc = ((xs.take i).filter p).map f) S hn hjs rfl fun i acc hi e => ?_).imp fun a h => by
    cases a
    show _ = _
    congr 1
    exact h.trans (by rw [List.take_length])
  have hx : xs[i]? = some xs[i] := List.getElem?_eq_getElem hi
  have et : xs.take (i + 1) = xs.take i ++ [xs[i]] := by rw [List.take_add_one, hx]; rfl
  obtain ⟨h1, h2⟩ := hs i _ hx
  refine ⟨_, h1, fun q => ?_, fun q => ⟨_, h2 (show true = _ from q).symm, fun b hb => ?_⟩⟩
  · have q' : p xs[i] = false := (show false = _ from q).symm
    rw [et, List.filter_append, List.filter_cons, q', e]
    simp
  · have q' : p xs[i] = true := (show true = _ from q).symm
    rw [et, List.filter_append, List.filter_cons, q', e, show b = f xs[i] from hb]
    simp
/-- Lot(n, rows) -/
theorem ev_lotNew {E : XK} {n : Nat} {xs : List Tx} (ha : EvA K Γ tl ρ (Is [⟨(n : Int)⟩, ⟨(⟨xs⟩ : Tup Tx)⟩])) (h9 : n ≤ 9) (hr : RowsN n xs) (hz : xs.length ≤ 50000) : Ev K Γ (tMake (He.ga K "Lot") (spI K (He.ga K "Lot") F_Lot___init__) [] E tl) ρ (LotIs n xs) :=
  (ev_make (F := F_Lot___init__) (Pb := LotOf n xs) (dvs := []) (dcs := []) (fun _ _ => trivial) ha ⟨n, ⟨xs⟩, rfl, h9, hr, hz, rfl⟩).imp fun _ h => h.is
/-- Lot(n) -/
theorem ev_lotEmpty {E : XK} {n : Nat} {a : Addr} (kt : KT K a []) (ha : EvA K Γ tl ρ (Is [⟨(n : Int)⟩])) (h9 : n ≤ 9) : Ev K Γ (tMake (He.ga K "Lot") (spI K (He.ga K "Lot") F_Lot___init__) [.ref a] E tl) ρ (LotIs n []) :=
  (ev_make (F := F_Lot___init__) (Pb := LotOf n []) (dvs := [.ref a]) (dcs := [⟨(⟨[]⟩ : Tup Tx)⟩]) (fun Δ H => ⟨⟨a, [], rfl, .inr kt, .inr kt, trivial⟩, trivial⟩) ha ⟨n, ⟨[]⟩, rfl, h9, (fun x hx => by cases hx), by decide, rfl⟩).imp fun _ h => h.is
theorem isInsM_lot {m : Str} (h1 : (m == ("_many" : Str)) = false) (h2 : (m == ("_known" : Str)) = false) (h3 : (m == ("_rows" : Str)) = false) : IsInsM K (He.ga K "Lot") m LotD := fun Δ H v L r => by
  obtain ⟨x, dx, d, vt, e, n, hx, _⟩ := r
  exact ⟨x, dx, _, e, hx, by simp only [List.lookup, h1, h2, h3]⟩
/-- a text, or another value -/
theorem ev_tx {x : Tx} (h : Ev K Γ te ρ (Is x)) : Ev K Γ te ρ (Is (⟨some x⟩ : AnyD)) := fun Δ σ H Q s hh e k => h Δ σ H Q s hh e fun v H' a pa e1 r => by
  have ea : a = x := pa
  subst ea
  exact k v H' ⟨some a⟩ rfl e1 r
theorem ev_odd {α : Type} [Rp α] {P : α → Prop} (hp : ∀ (Δ : Gh) (H : Hp) (v : V) (a : α), Rp.rp K Δ H v a → Odd K Δ H v) (h : Ev K Γ te ρ P) : Ev K Γ te ρ (Is (⟨none⟩ : AnyD)) := fun Δ σ H Q s hh e k => h Δ σ H Q s hh e fun v H' a pa e1 r => k v H' ⟨none⟩ rfl e1 (hp Δ H' v a r)
theorem ev_dict0 : Ev K Γ tDNewK ρ (Is (⟨none⟩ : AnyD)) := fun Δ σ H Q s hh e k => fun p hp => k _ _ ⟨none⟩ rfl (Ext.new hh hp _) (.inr (.inr (.inr (.inr (.inl ⟨p, rfl, hh.fresh hp, upd_same⟩)))))
end
end K02

set_option Elab.async false
set_option linter.all false
set_option maxRecDepth 100000
set_option maxHeartbeats 2000000
namespace K02
open PySem PySem.Spec PyProof.Rows L2 Z K00
abbrev U5 := Int ⊕ (Tup Tx ⊕ (List Tx ⊕ Tx))
def rep5 (n : Nat) (D : List Tx) : List U5 := [.inl (n : Int), .inr (.inl ⟨D⟩), .inr (.inr (.inl D)), .inl (D.length : Int), .inr (.inr (.inr (lotText D.length n)))]
theorem text_ok : ∀ (a : Fin 21) (b : Fin 10), PyData.canLay0 (Dt.d (lotText a.val b.val)) = true := by decide +kernel
theorem shaped5 {n : Nat} {D : List Tx} (h9 : n ≤ 9) (hl : D.length ≤ 20) (tok : TOk D) : SeqAt.shaped (Dt.d (rep5 n D)) = true := by
  refine shaped_L fun x hx => ?_
  unfold rep5 at hx
  simp only [List.mem_cons, List.not_mem_nil, or_false] at hx
  rcases hx with rfl | rfl | rfl | rfl | rfl
  · exact lay_int
  · exact lay_tup (xs := ⟨D⟩) tok
  · exact lay_lst tok
  · exact lay_int
  · exact lay_tx (text_ok ⟨D.length, by omega⟩ ⟨n, by omega⟩)
def rep (n c : Nat) : Tx := ⟨List.replicate n c⟩
def lits (n : Nat) : List AnyD := [⟨some ⟨[]⟩⟩, ⟨some (rep n 48)⟩, ⟨some (rep n 120)⟩, ⟨none⟩, ⟨none⟩, ⟨none⟩, ⟨none⟩, ⟨none⟩, ⟨none⟩, ⟨none⟩, ⟨some (rep 10 43)⟩]
theorem tok_srt {n : Nat} {S : List Tx} (h9 : n ≤ 9) (h : RowsN n S) : TOk (srt S) := fun x hx => tx_ok ⟨(h x (srt_mem.mp hx)).2, by rw [(h x (srt_mem.mp hx)).1]; exact h9⟩
theorem rows_row {n : Nat} {S : List Tx} (h9 : n ≤ 9) (h : RowsN n S) {x : Tx} (hx : x ∈ S) : Row x := ⟨(h x hx).2, by rw [(h x hx).1]; exact h9⟩
theorem rows_srt {n : Nat} {S : List Tx} (h : RowsN n S) : RowsN n (srt S) := fun x hx => h x (srt_mem.mp hx)
section
variable {P : Program} {w : World} {K : PySem.W.Frag} {mg : Str → Option Value} {base : Heap}
theorem log_small {n : Nat} (h : n ≤ 20) : ((n : Int)).natAbs.log2 < 1920 := by
  rw [Int.natAbs_natCast]
  exact Nat.lt_of_le_of_lt (Nat.log2_le_self _) (by omega)
theorem len_small {n : Nat} (h : n ≤ 20) : (txS ((toString (n : Int) : String) : Str)).s.length ≤ 2 := str_small ⟨n, by omega⟩
theorem ascF_le' {n m : Int} (h : n ≤ m) : ∀ {l : Int} {ts : List Int}, ascF n l ts = true → ascF m l ts = true
  | _, [], _ => rfl
  | l, t :: r, q => by
    simp only [ascF, Bool.and_eq_true, decide_eq_true_eq] at q ⊢
    exact ⟨⟨q.1.1, by omega⟩, ascF_le' h q.2⟩
theorem nextL_le' {n : Int} : ∀ {l : Int} {ts : List Int}, l ≤ n → ascF n l ts = true → nextL l ts ≤ n
  | _, [], h, _ => h
  | l, t :: r, h, q => by
    simp only [ascF, Bool.and_eq_true, decide_eq_true_eq] at q
    exact nextL_le' (l := t + 1) (by omega) q.2
/-- one == other, two lots -/
theorem eq_lots {n : Nat} {S T : List Tx} {L M : LotD} (hL : LotIs n S L) (hM : LotIs n T M) : (decide (L.many = M.many) && decide (L.rows = M.rows)) = decide (srt S = srt T) := by
  rw [hL.m, hM.m, decide_eq_true rfl, Bool.true_and, hL.r, hM.r]
def askL (L : LotD) (a : AnyD) : Bool := match a.x with
  | some x => decide (x ∈ L.known)
  | none => false
def askD (D : List Tx) (a : AnyD) : Bool := a.x.isSome && (match a.x with
  | some x => decide (x ∈ D)
  | none => false)
theorem ask_eq {n : Nat} {S : List Tx} {L : LotD} (h : LotIs n S L) (a : AnyD) : askL L a = askD (srt S) a := by
  match a with
  | ⟨some x⟩ =>
    show decide (x ∈ L.known) = (true && decide (x ∈ srt S))
    rw [Bool.true_and]
    exact decide_eq_decide.mpr (by rw [h.k, srt_mem])
  | ⟨none⟩ => rfl
def F__law_is_lot_right : Pm Bool := fun Γ cs R => ∃ (p : Addr) (n : Nat) (xs : List Tx), cs = [⟨(⟨p⟩ : Z.Loc)⟩, ⟨(n : Int)⟩, ⟨(⟨xs⟩ : FL Tx)⟩] ∧ (p, DiceI) ∈ Γ ∧ n ≤ 9 ∧ RowsN n xs ∧ xs.length ≤ 11 ∧ R = Is true
theorem sc__law_is_lot_right : FnScope ["_law_dice_here", "_law_size", "_law_rows", "_law_lot", "_law_due", "_law_values", "_law_things", "_law_told", "_law_turned", "_law_at", "_law_value", "_law_thing", "_law_row"] ["_law_dice_here", "_law_size", "_law_rows"] (defScope s__law_is_lot_right) := ⟨rfl, rfl, rfl, by decide +kernel, rfl, by decide +kernel, by decide +kernel⟩
theorem ok__law_is_lot_right (T : Txt K mg) (CL : LotT K) (CG : mg "Lot" = some (.ref (He.ga K "Lot"))) {f : Addr} {fd : FuncData} (D : Df K mg "_law_is_lot_right" s__law_is_lot_right ["_law_dice_here", "_law_size", "_law_rows"] f fd) {f_Lot___iter__ : Addr} {fd_Lot___iter__ : FuncData} (CM_Lot___iter__ : Meth K (He.ga K "Lot") "__iter__" f_Lot___iter__ ∧ DfM K [] "__iter__" "Lot.__iter__" s_Lot___iter__ ["self"] f_Lot___iter__ fd_Lot___iter__) (G_Lot___iter__ : FnOk P w K mg base CX0 2 f_Lot___iter__ fd_Lot___iter__ ["self"] (spR K (F_Lot___iter__ K))) {f_Lot___len__ : Addr} {fd_Lot___len__ : FuncData} (CM_Lot___len__ : Meth K (He.ga K "Lot") "__len__" f_Lot___len__ ∧ DfM K [] "__len__" "Lot.__len__" s_Lot___len__ ["self"] f_Lot___len__ fd_Lot___len__) (G_Lot___len__ : FnOk P w K mg base CX0 2 f_Lot___len__ fd_Lot___len__ ["self"] (spD K F_Lot___len__)) {f_Lot___str__ : Addr} {fd_Lot___str__ : FuncData} (CM_Lot___str__ : Meth K (He.ga K "Lot") "__str__" f_Lot___str__ ∧ DfM K [] "__str__" "Lot.__str__" s_Lot___str__ ["self"] f_Lot___str__ fd_Lot___str__) (G_Lot___str__ : FnOk P w K mg base CX0 2 f_Lot___str__ fd_Lot___str__ ["self"] (spD K F_Lot___str__)) {f_Lot___contains__ : Addr} {fd_Lot___contains__ : FuncData} (CM_Lot___contains__ : Meth K (He.ga K "Lot") "__contains__" f_Lot___contains__ ∧ DfM K [] "__contains__" "Lot.__contains__" s_Lot___contains__ ["self", "x"] f_Lot___contains__ fd_Lot___contains__) (G_Lot___contains__ : FnOk P w K mg base CX0 2 f_Lot___contains__ fd_Lot___contains__ ["self", "x"] (spD K F_Lot___contains__)) {f_Lot___eq__ : Addr} {fd_Lot___eq__ : FuncData} (CM_Lot___eq__ : Meth K (He.ga K "Lot") "__eq__" f_Lot___eq__ ∧ DfM K [] "__eq__" "Lot.__eq__" s_Lot___eq__ ["self", "other"] f_Lot___eq__ fd_Lot___eq__) (G_Lot___eq__ : FnOk P w K mg base CX0 2 f_Lot___eq__ fd_Lot___eq__ ["self", "other"] (spD K F_Lot___eq__)) {f_Lot_least : Addr} {fd_Lot_least : FuncData} (CM_Lot_least : Meth K (He.ga K "Lot") "least" f_Lot_least ∧ DfM K [] "least" "Lot.least" s_Lot_least ["self"] f_Lot_least fd_Lot_least) (G_Lot_least : FnOk P w K mg base CX0 7 f_Lot_least fd_Lot_least ["self"] (spD K F_Lot_least)) {f_Lot_with_turned : Addr} {fd_Lot_with_turned : FuncData} (CM_Lot_with_turned : Meth K (He.ga K "Lot") "with_turned" f_Lot_with_turned ∧ DfM K [] "with_turned" "Lot.with_turned" s_Lot_with_turned ["self"] f_Lot_with_turned fd_Lot_with_turned) (G_Lot_with_turned : FnOk P w K mg base CX0 7 f_Lot_with_turned fd_Lot_with_turned ["self"] (spD K F_Lot_with_turned)) {f_Lot_turned_at : Addr} {fd_Lot_turned_at : FuncData} (CM_Lot_turned_at : Meth K (He.ga K "Lot") "turned_at" f_Lot_turned_at ∧ DfM K [] "turned_at" "Lot.turned_at" s_Lot_turned_at ["self", "things"] f_Lot_turned_at fd_Lot_turned_at) (G_Lot_turned_at : FnOk P w K mg base CX0 7 f_Lot_turned_at fd_Lot_turned_at ["self", "things"] (spD K F_Lot_turned_at)) {f_Lot___init__ : Addr} {fd_Lot___init__ : FuncData} {dv_Lot___init__ : List V} (CP_Lot : Mk K (He.ga K "Lot") f_Lot___init__ ∧ DfM K dv_Lot___init__ "__init__" "Lot.__init__" s_Lot___init__ ["self", "many", "rows"] f_Lot___init__ fd_Lot___init__) (G_Lot___init__ : FnOk P w K mg base CX0 5 f_Lot___init__ fd_Lot___init__ ["self", "many", "rows"] (spI K (He.ga K "Lot") F_Lot___init__)) {p_Lot_rows f_Lot_rows : Addr} {fd_Lot_rows : FuncData} (CP_Lot_rows : PropOf K (He.ga K "Lot") "rows" p_Lot_rows f_Lot_rows ∧ DfM K [] "rows" "Lot.rows" s_Lot_rows ["self"] f_Lot_rows fd_Lot_rows) (G_Lot_rows : FnOk P w K mg base CX0 2 f_Lot_rows fd_Lot_rows ["self"] (spD K F_Lot_rows)) {p_Lot_many f_Lot_many : Addr} {fd_Lot_many : FuncData} (CP_Lot_many : PropOf K (He.ga K "Lot") "many" p_Lot_many f_Lot_many ∧ DfM K [] "many" "Lot.many" s_Lot_many ["self"] f_Lot_many fd_Lot_many) (G_Lot_many : FnOk P w K mg base CX0 2 f_Lot_many fd_Lot_many ["self"] (spD K F_Lot_many)) {f__law_drawn_row : Addr} {fd__law_drawn_row : FuncData} (D__law_drawn_row : Df K mg "_law_drawn_row" s__law_drawn_row ["_law_dice_here", "_law_size"] f__law_drawn_row fd__law_drawn_row) (G__law_drawn_row : FnOk P w K mg base CX0 4 f__law_drawn_row fd__law_drawn_row ["_law_dice_here", "_law_size"] (spD K F__law_drawn_row)) {f__law_least_rows : Addr} {fd__law_least_rows : FuncData} (D__law_least_rows : Df K mg "_law_least_rows" s__law_least_rows ["_law_rows"] f__law_least_rows fd__law_least_rows) (G__law_least_rows : FnOk P w K mg base CX0 3 f__law_least_rows fd__law_least_rows ["_law_rows"] (spD K F__law_least_rows)) {p_Lot_is_even f_Lot_is_even : Addr} {fd_Lot_is_even : FuncData} (CP_Lot_is_even : PropOf K (He.ga K "Lot") "is_even" p_Lot_is_even f_Lot_is_even ∧ DfM K [] "is_even" "Lot.is_even" s_Lot_is_even ["self"] f_Lot_is_even fd_Lot_is_even) (G_Lot_is_even : FnOk P w K mg base CX0 7 f_Lot_is_even fd_Lot_is_even ["self"] (spD K F_Lot_is_even)) {f__law_roll : Addr} {fd__law_roll : FuncData} (D__law_roll : Df K mg "_law_roll" s__law_roll ["_law_dice_here", "_law_total"] f__law_roll fd__law_roll) (G__law_roll : FnOk P w K mg base CX0 2 f__law_roll fd__law_roll ["_law_dice_here", "_law_total"] (spD K F__law_roll)) {f__law_turn : Addr} {fd__law_turn : FuncData} (D__law_turn : Df K mg "_law_turn" s__law_turn ["_law_row"] f__law_turn fd__law_turn) (G__law_turn : FnOk P w K mg base CX0 3 f__law_turn fd__law_turn ["_law_row"] (spD K F__law_turn)) {f__law_turn_at : Addr} {fd__law_turn_at : FuncData} (D__law_turn_at : Df K mg "_law_turn_at" s__law_turn_at ["_law_row", "_law_things"] f__law_turn_at fd__law_turn_at) (G__law_turn_at : FnOk P w K mg base CX0 3 f__law_turn_at fd__law_turn_at ["_law_row", "_law_things"] (spD K F__law_turn_at)) : FnOk P w K mg base CX0 14 f fd ["_law_dice_here", "_law_size", "_law_rows"] (spD K F__law_is_lot_right) := by
  obtain ⟨_, hI_SHIFT⟩ := T.i_SHIFT
  obtain ⟨_, hI_LOW⟩ := T.i_LOW
  obtain ⟨_, hI_MAX_THINGS⟩ := T.i_MAX_THINGS
  refine def_ok D.F sc__law_is_lot_right (fun Γ cs R g => ?len) (fun cdv A outer s H E hr Γ cs R g => ?_)
  case len => obtain ⟨p, n, xs, rfl, _⟩ := g; rfl
  obtain ⟨p, n, xs, rfl, hp, h9, hS, h11, rfl⟩ := g
  refine ⟨_, (pss_cons (ps_asg (pe_tup (pa_cons (pe_make CP_Lot.1 G_Lot___init__ (hr.mono (by decide)) (by rfl) CG CP_Lot.2.b .nil pass0 (pa_cons (pv 1) (pa_cons (pe_callTy call_tupK (by rfl) T.z_tuple (by decide +kernel) (pa_cons (pv 2) pa_nil)) pa_nil))) (pa_cons (pe_sortSet (by rfl) (by rfl) T.z_sorted (by decide +kernel) (by rfl) T.z_set (pv 2)) pa_nil))) (pg_tup rfl (pgs_cons (pg_name (i := 3) sc__law_is_lot_right.nd rfl (by first | exact .inl rfl | exact .inr rfl)) (pgs_cons (pg_name (i := 4) sc__law_is_lot_right.nd rfl (by first | exact .inl rfl | exact .inr rfl)) pgs_nil))) (by kernel_rfl) (by kernel_rfl))
      (pss_cons (ps_if (pt_cmpR (op_neK hr.units) (pe_lst (pa_cons (pe_prop (pv 3) CL.cl CP_Lot_many.1 G_Lot_many (hr.mono (by decide)) CP_Lot_many.2.b .nil pass0 rfl) (pa_cons (pe_prop (pv 3) CL.cl CP_Lot_rows.1 G_Lot_rows (hr.mono (by decide)) CP_Lot_rows.2.b .nil pass0 rfl) (pa_cons (pe_callTy (call_listI (n := 2) (E := fun _ _ _ => False) CM_Lot___iter__.1.at_ CM_Lot___iter__.1.fn (G_Lot___iter__.mono (by decide)) CM_Lot___iter__.2.b CM_Lot___len__.1.at_ CM_Lot___len__.1.fn (G_Lot___len__.mono (by decide)) CM_Lot___len__.2.b (hr.mono (by decide))) (by rfl) T.z_list (by decide +kernel) (pa_cons (pv 3) pa_nil)) (pa_cons (pe_callB (call_lenI (by first | exact CM_Lot___len__.1.at_ | (rw [show dunder _ = ("__len__" : Str) from by decide +kernel]; exact CM_Lot___len__.1.at_)) CM_Lot___len__.1.fn G_Lot___len__ (hr.mono (by decide)) CM_Lot___len__.2.b pass0) (by rfl) T.z_len (by decide +kernel) (pa_cons (pv 3) pa_nil)) (pa_cons (pe_callTy (call_strI (by first | exact CM_Lot___str__.1.at_ | (rw [show dunder _ = ("__str__" : Str) from by decide +kernel]; exact CM_Lot___str__.1.at_)) CM_Lot___str__.1.fn G_Lot___str__ (hr.mono (by decide)) CM_Lot___str__.2.b pass0) (by rfl) T.z_str (by decide +kernel) (pa_cons (pv 3) pa_nil)) pa_nil)))))) (pe_lst (pa_cons (pv 1) (pa_cons (pe_callTy call_tupK (by rfl) T.z_tuple (by decide +kernel) (pa_cons (pv 4) pa_nil)) (pa_cons (pv 4) (pa_cons (pe_callB call_lenK (by rfl) T.z_len (by decide +kernel) (pa_cons (pv 4) pa_nil)) (pa_cons (pe_op op_add_str (pe_op op_add_str (pe_op op_add_str (pe_callTy call_str_int (by rfl) T.z_str (by decide +kernel) (pa_cons (pe_callB call_lenK (by rfl) T.z_len (by decide +kernel) (pa_cons (pv 4) pa_nil)) pa_nil)) pe_str) (pe_callTy call_str_int (by rfl) T.z_str (by decide +kernel) (pa_cons (pv 1) pa_nil))) pe_str) pa_nil)))))) (nomark _)) (pss_one (ps_ret pe_bl)) pss_nil)
      (pss_cons (ps_set (i := 5) sc__law_is_lot_right.nd rfl (by first | exact .inl rfl | exact .inr rfl) (pe_op op_cat (pe_lc (own := [("_law_at", 9)]) (g := (gName 9)) (tt := tYes) rfl sc__law_is_lot_right.nd (pi_range1 (by rfl) T.z_range (pa_cons pe_int pa_nil)) (blkOk_by (N := ["_law_dice_here", "_law_size", "_law_rows", "_law_lot", "_law_due", "_law_values", "_law_things", "_law_told", "_law_turned", "_law_at", "_law_value", "_law_thing", "_law_row"]) (sc := defScope s__law_is_lot_right) (by decide +kernel)) (fun _ _ _ _ _ => (pg_name (i := 9) sc__law_is_lot_right.nd rfl (by first | exact .inl rfl | exact .inr rfl))) (fun _ _ _ _ _ => pts_nil) (fun _ _ _ _ _ => (pe_call G__law_drawn_row (hr.mono (by decide)) (by rfl) D__law_drawn_row.g D__law_drawn_row.kp D__law_drawn_row.b .nil pass0 (pa_cons (pv 0) (pa_cons (pv 1) pa_nil))))) (pe_lst (pa_cons pe_str (pa_cons (pe_op op_mulS pe_str (pv 1)) (pa_cons (pe_op op_mulS pe_str (pv 1)) (pa_cons pe_non (pa_cons pe_int (pa_cons (pe_callTy call_tupK (by rfl) T.z_tuple (by decide +kernel) (pa_cons (pv 4) pa_nil)) (pa_cons (pe_tup pa_nil) (pa_cons (pe_lst pa_nil) (pa_cons pe_dnewK (pa_cons (pv 3) (pa_cons (pe_op op_mulS pe_str pe_int) pa_nil))))))))))))))
      (pss_cons (ps_if (pt_cmpR (op_neK hr.units) (pe_lc (own := [("_law_value", 10)]) (g := (gName 10)) (tt := tYes) rfl sc__law_is_lot_right.nd (pi_listK (pe_op op_cat (pv 5) (pv 4))) (blkOk_by (N := ["_law_dice_here", "_law_size", "_law_rows", "_law_lot", "_law_due", "_law_values", "_law_things", "_law_told", "_law_turned", "_law_at", "_law_value", "_law_thing", "_law_row"]) (sc := defScope s__law_is_lot_right) (by decide +kernel)) (fun _ _ _ _ _ => (pg_name (i := 10) sc__law_is_lot_right.nd rfl (by first | exact .inl rfl | exact .inr rfl))) (fun _ _ _ _ _ => pts_nil) (fun _ _ _ _ _ => (pe_cmpR (op_inI (by first | exact CM_Lot___contains__.1.at_ | (rw [show dunder _ = ("__contains__" : Str) from by decide +kernel]; exact CM_Lot___contains__.1.at_)) CM_Lot___contains__.1.fn G_Lot___contains__ (hr.mono (by decide)) CM_Lot___contains__.2.b pass0) (pv 10) (pv 3) (by rfl)))) (pe_lc (own := [("_law_value", 10)]) (g := (gName 10)) (tt := tYes) rfl sc__law_is_lot_right.nd (pi_listK (pe_op op_cat (pv 5) (pv 4))) (blkOk_by (N := ["_law_dice_here", "_law_size", "_law_rows", "_law_lot", "_law_due", "_law_values", "_law_things", "_law_told", "_law_turned", "_law_at", "_law_value", "_law_thing", "_law_row"]) (sc := defScope s__law_is_lot_right) (by decide +kernel)) (fun _ _ _ _ _ => (pg_name (i := 10) sc__law_is_lot_right.nd rfl (by first | exact .inl rfl | exact .inr rfl))) (fun _ _ _ _ _ => pts_nil) (fun _ _ _ _ _ => (pe_and (pe_callB call_isK (by rfl) T.z_isinstance (by decide +kernel) (pa_cons (pv 10) (pa_cons (pe_bltn (v := .ty "str") (u := .type "str") (by rfl) T.z_str (by decide +kernel) rfl) pa_nil))) (pe_one (pe_cmpR op_inK (pv 10) (pv 4) (by rfl)))))) (nomark _)) (pss_one (ps_ret pe_bl)) pss_nil)
      (pss_cons (ps_set (i := 6) sc__law_is_lot_right.nd rfl (by first | exact .inl rfl | exact .inr rfl) (pe_callTy call_tupK (by rfl) T.z_tuple (by decide +kernel) (pa_cons (pe_lc (own := [("_law_thing", 11)]) (g := (gName 11)) (tt := _) rfl sc__law_is_lot_right.nd (pi_range1 (by rfl) T.z_range (pa_cons (pv 1) pa_nil)) (blkOk_by (N := ["_law_dice_here", "_law_size", "_law_rows", "_law_lot", "_law_due", "_law_values", "_law_things", "_law_told", "_law_turned", "_law_at", "_law_value", "_law_thing", "_law_row"]) (sc := defScope s__law_is_lot_right) (by decide +kernel)) (fun _ _ _ _ _ => (pg_name (i := 11) sc__law_is_lot_right.nd rfl (by first | exact .inl rfl | exact .inr rfl))) (fun _ _ _ _ _ => (pts_one (pt_cmpR op_eq (pe_call G__law_roll (hr.mono (by decide)) (by rfl) D__law_roll.g D__law_roll.kp D__law_roll.b .nil pass0 (pa_cons (pv 0) (pa_cons pe_int pa_nil))) pe_int (nomark _)))) (fun _ _ _ _ _ => (pv 11))) pa_nil)))
      (pss_cons (ps_set (i := 7) sc__law_is_lot_right.nd rfl (by first | exact .inl rfl | exact .inr rfl) (pe_lst (pa_cons (pe_prop (pe_meth0 (pv 3) CL.cl CM_Lot_least.1 G_Lot_least (hr.mono (by decide)) CM_Lot_least.2.b .nil pass0) CL.cl CP_Lot_rows.1 G_Lot_rows (hr.mono (by decide)) CP_Lot_rows.2.b .nil pass0 rfl) (pa_cons (pe_prop (pe_meth0 (pv 3) CL.cl CM_Lot_with_turned.1 G_Lot_with_turned (hr.mono (by decide)) CM_Lot_with_turned.2.b .nil pass0) CL.cl CP_Lot_rows.1 G_Lot_rows (hr.mono (by decide)) CP_Lot_rows.2.b .nil pass0 rfl) (pa_cons (pe_prop (pe_meth (pv 3) CL.cl CM_Lot_turned_at.1 G_Lot_turned_at (hr.mono (by decide)) CM_Lot_turned_at.2.b .nil pass0 (pa_cons (pv 6) pa_nil)) CL.cl CP_Lot_rows.1 G_Lot_rows (hr.mono (by decide)) CP_Lot_rows.2.b .nil pass0 rfl) pa_nil)))))
      (pss_cons (ps_set (i := 8) sc__law_is_lot_right.nd rfl (by first | exact .inl rfl | exact .inr rfl) (pe_sortSet (by rfl) (by rfl) T.z_sorted (by decide +kernel) (by rfl) T.z_set (pe_op op_cat (pv 4) (pe_lc (own := [("_law_row", 12)]) (g := (gName 12)) (tt := tYes) rfl sc__law_is_lot_right.nd (pi_listK (pv 4)) (blkOk_by (N := ["_law_dice_here", "_law_size", "_law_rows", "_law_lot", "_law_due", "_law_values", "_law_things", "_law_told", "_law_turned", "_law_at", "_law_value", "_law_thing", "_law_row"]) (sc := defScope s__law_is_lot_right) (by decide +kernel)) (fun _ _ _ _ _ => (pg_name (i := 12) sc__law_is_lot_right.nd rfl (by first | exact .inl rfl | exact .inr rfl))) (fun _ _ _ _ _ => pts_nil) (fun _ _ _ _ _ => (pe_call G__law_turn (hr.mono (by decide)) (by rfl) D__law_turn.g D__law_turn.kp D__law_turn.b .nil pass0 (pa_cons (pv 12) pa_nil)))))))
      (pss_cons (ps_if (pt_cmpR (op_neK hr.units) (pv 7) (pe_lst (pa_cons (pe_callTy call_tupK (by rfl) T.z_tuple (by decide +kernel) (pa_cons (pe_call G__law_least_rows (hr.mono (by decide)) (by rfl) D__law_least_rows.g D__law_least_rows.kp D__law_least_rows.b .nil pass0 (pa_cons (pv 2) pa_nil)) pa_nil)) (pa_cons (pe_callTy call_tupK (by rfl) T.z_tuple (by decide +kernel) (pa_cons (pv 8) pa_nil)) (pa_cons (pe_callTy call_tupK (by rfl) T.z_tuple (by decide +kernel) (pa_cons (pe_sortSet (by rfl) (by rfl) T.z_sorted (by decide +kernel) (by rfl) T.z_set (pe_lc (own := [("_law_row", 12)]) (g := (gName 12)) (tt := tYes) rfl sc__law_is_lot_right.nd (pi_listK (pv 4)) (blkOk_by (N := ["_law_dice_here", "_law_size", "_law_rows", "_law_lot", "_law_due", "_law_values", "_law_things", "_law_told", "_law_turned", "_law_at", "_law_value", "_law_thing", "_law_row"]) (sc := defScope s__law_is_lot_right) (by decide +kernel)) (fun _ _ _ _ _ => (pg_name (i := 12) sc__law_is_lot_right.nd rfl (by first | exact .inl rfl | exact .inr rfl))) (fun _ _ _ _ _ => pts_nil) (fun _ _ _ _ _ => (pe_call G__law_turn_at (hr.mono (by decide)) (by rfl) D__law_turn_at.g D__law_turn_at.kp D__law_turn_at.b .nil pass0 (pa_cons (pv 12) (pa_cons (pv 6) pa_nil)))))) pa_nil)) pa_nil)))) (nomark _)) (pss_one (ps_ret pe_bl)) pss_nil)
      (pss_one (ps_ret (pe_and (pe_cmpR op_eq (pe_callB call_reprB (by rfl) T.z_repr (by decide +kernel) (pa_cons (pe_prop (pv 3) CL.cl CP_Lot_is_even.1 G_Lot_is_even (hr.mono (by decide)) CP_Lot_is_even.2.b .nil pass0 rfl) pa_nil)) (pe_callB call_reprB (by rfl) T.z_repr (by decide +kernel) (pa_cons (pe_cmpR (op_eqK hr.units) (pv 8) (pv 4) (nomark _)) pa_nil)) (nomark _)) (pe_and (pe_cmpR (op_eqI (by first | exact CM_Lot___eq__.1.at_ | (rw [show dunder _ = ("__eq__" : Str) from by decide +kernel]; exact CM_Lot___eq__.1.at_)) CM_Lot___eq__.1.fn G_Lot___eq__ (hr.mono (by decide)) CM_Lot___eq__.2.b pass0) (pv 3) (pe_make CP_Lot.1 G_Lot___init__ (hr.mono (by decide)) (by rfl) CG CP_Lot.2.b .nil pass0 (pa_cons (pv 1) (pa_cons (pe_callTy call_tupK (by rfl) T.z_tuple (by decide +kernel) (pa_cons (pe_revK (pv 2)) pa_nil)) pa_nil))) (nomark _)) (pe_one (pe_cmpR (op_eqI (by first | exact CM_Lot___eq__.1.at_ | (rw [show dunder _ = ("__eq__" : Str) from by decide +kernel]; exact CM_Lot___eq__.1.at_)) CM_Lot___eq__.1.fn G_Lot___eq__ (hr.mono (by decide)) CM_Lot___eq__.2.b pass0) (pe_meth (pv 3) CL.cl CM_Lot_turned_at.1 G_Lot_turned_at (hr.mono (by decide)) CM_Lot_turned_at.2.b .nil pass0 (pa_cons (pe_tup pa_nil) pa_nil)) (pv 3) (nomark _))))))))))))))), fun Δ0 D' hf hn => ?_⟩
  have hlen : (srt xs).length ≤ 11 := Nat.le_trans srt_len h11
  have tok := tok_srt h9 hS
  refine wp_tup2 (Q := fun cs => ∃ L, LotIs n xs L ∧ cs = [⟨L⟩, ⟨(⟨srt xs⟩ : FL Tx)⟩]) (ea_cons (Ps := Is [⟨(⟨srt xs⟩ : FL Tx)⟩]) (ev_lotNew (ea_1 (ev_var (i := 1)) (ea_1 (ev_cb (ev_fl (ev_var (i := 2))) o1_tuple) ea_nil)) h9 hS (by omega)) (ea_1 (ev_sortSetF (ev_fl (ev_var (i := 2))) (by omega)) ea_nil) fun L cs hL hc => ⟨L, hL, by rw [show cs = _ from hc]⟩) (ltr rfl) (ltr rfl) fun cs hcs => ?_
  obtain ⟨L, hL, rfl⟩ := hcs
  refine ⟨_, _, rfl, ?_⟩
  have ok : LotOk L := hL.ok h9 (by omega) hS
  have nd : L.rows.Nodup := by rw [hL.r]; exact srt_nd xs
  have h20 : L.rows.length ≤ 20 := by rw [hL.r]; omega
  refine wp_no (b := false) rfl (et_test (ev_op1 (ev_lst (xs := rep5 n (srt xs)) (ea_1 (ev_inl (ev_is (ev_prop isIns_lot (ev_var (i := 3) (a := L)) ⟨L, rfl, rfl⟩) (by rw [hL.m]))) (ea_1 (ev_inr (ev_inl (ev_is (ev_prop isIns_lot (ev_var (i := 3) (a := L)) ⟨L, rfl, rfl⟩) (by rw [hL.r])))) (ea_1 (ev_inr (ev_inr (ev_inl ((ev_listI (Pb := Is L) (f := fun b => b.rows) isIns_lot (ev_var (i := 3)) (fun b hb => ⟨b, rfl, rfl⟩) (fun b hb => ⟨b, rfl, rfl⟩) (fun b hb => by rw [show b = L from hb]; omega)).imp fun ys hy => ?_)))) (ea_1 (ev_inl (ev_is (ev_lenI isIns_lot (ev_var (i := 3) (a := L)) (n := L.rows.length) (by omega) ⟨L, rfl, rfl⟩) (by rw [hL.r]))) (ea_1 (ev_inr (ev_inr (ev_inr (ev_strI (Pb := Is L) isIns_lot (ev_var (i := 3)) fun b hb => ⟨Is (lotText L.rows.length L.many), ⟨L, by rw [show b = L from hb], by rw [hL.m]; exact h9, h20, rfl⟩, fun c hc => ?_⟩)))) ea_nil))))) (by show 5 ≤ 100000; decide)) (ev_lst (xs := rep5 n (srt xs)) (ea_1 (ev_inl (ev_var (i := 1))) (ea_1 (ev_inr (ev_inl (ev_cb (ev_fl (ev_var (i := 4))) o1_tuple))) (ea_1 (ev_inr (ev_inr (ev_inl (ev_fl (ev_var (i := 4)))))) (ea_1 (ev_inl (ev_cb (ev_fl (ev_var (i := 4) (a := (⟨srt xs⟩ : FL Tx)))) o1_lenL)) (ea_1 (ev_inr (ev_inr (ev_inr (ev_op1 (ev_op1 (ev_op1 (ev_cb (ev_cb (ev_fl (ev_var (i := 4) (a := (⟨srt xs⟩ : FL Tx)))) o1_lenL) (o1_strInt ?_)) ev_str (o2_addS ?_)) (ev_cb (ev_var (i := 1) (a := (n : Int))) (o1_strInt ?_)) (o2_addS ?_)) ev_str (o2_addS ?_))))) ea_nil))))) (by show 5 ≤ 100000; decide)) (o2_neSame (shaped5 h9 (by omega) tok)))) ?_
  · show ys = srt xs
    obtain ⟨b, hb, rfl⟩ := hy
    rw [show b = L from hb, hL.r]
  · rw [show c = _ from hc, hL.r, hL.m]
    rfl
  · exact log_small (n := (srt xs).length) (by omega)
  · have h1 := len_small (n := (srt xs).length) (by omega)
    have h3 : (" rows of " : Str).cps.toList.length = 9 := by decide +kernel
    exact Nat.le_trans (Nat.add_le_add h1 (Nat.le_of_eq h3)) (by decide)
  · exact log_small (n := n) (by omega)
  · have h1 := len_small (n := (srt xs).length) (by omega)
    have h2 := len_small (n := n) (by omega)
    have h3 : (" rows of " : Str).cps.toList.length = 9 := by decide +kernel
    show List.length (_ ++ _) + _ ≤ _
    rw [List.length_append, h3]
    omega
  · have h1 := len_small (n := (srt xs).length) (by omega)
    have h2 := len_small (n := n) (by omega)
    have h3 : (" rows of " : Str).cps.toList.length = 9 := by decide +kernel
    have h4 : (" signs" : Str).cps.toList.length = 6 := by decide +kernel
    show List.length ((_ ++ _) ++ _) + _ ≤ _
    rw [List.length_append, List.length_append, h3, h4]
    omega
  refine wp_asg (P := fun ys : FL AnyD => ys.l.length ≤ 20) (ev_opP (r := rCat) (Pa := fun ys : FL AnyD => ys.l.length = 4) (Pb := Is (⟨lits n⟩ : FL AnyD)) (Pc := fun ys : FL AnyD => ys.l.length ≤ 20) ((ev_mapF (f := fun x : Tx => (⟨some x⟩ : AnyD)) (fun _ _ _ _ r => r) (ev_lcF (fun i (acc : List Tx) => acc.length = i) (src_rng1 (n := 4) (ea_1 (ev_int (i := ((4 : Nat) : Int))) ea_nil) (by decide) (ltr rfl)) (by decide) (by decide) rfl fun i acc hi hacc => ⟨_, et_yes, fun z => (by cases z), fun _ => ⟨_, ev_call1 (ea_1 (ev_var (i := 0)) (ea_1 (ev_var (i := 1)) ea_nil)) ⟨p, n, rfl, hp, h9, rfl⟩, fun b hb => by rw [List.length_append, hacc]; rfl⟩⟩)).imp fun ys hy => ?_) (ev_lstF (xs := lits n) (ea_1 (ev_tx (ev_strc [])) (ea_1 (ev_tx (ev_op1 (ev_strc [48]) (ev_var (i := 1)) (o2_mulS rfl (by omega)))) (ea_1 (ev_tx (ev_op1 (ev_strc [120]) (ev_var (i := 1)) (o2_mulS rfl (by omega)))) (ea_1 (ev_odd (fun _ _ _ _ r => .inl r) ev_non) (ea_1 (ev_odd (fun _ _ _ a r => .inr (.inl ⟨a, r⟩)) ev_int) (ea_1 (ev_odd (fun _ _ _ a r => .inr (.inr (.inl ⟨a, r⟩))) (ev_cb (ev_fl (ev_var (i := 4) (a := (⟨srt xs⟩ : FL Tx)))) o1_tuple)) (ea_1 (ev_odd (fun _ _ _ a r => .inr (.inr (.inl ⟨a, r⟩))) (ev_tupN (xs := ([] : List Tx)) ea_nil (by decide))) (ea_1 (ev_odd (fun _ _ _ a r => .inr (.inr (.inr (.inl ⟨a, r⟩)))) (ev_lst (xs := ([] : List Tx)) ea_nil (by decide))) (ea_1 ev_dict0 (ea_1 (ev_odd (fun _ _ _ a r => .inr (.inr (.inr (.inr (.inr ⟨a, r⟩))))) (ev_var (i := 3) (a := L))) (ea_1 (ev_tx (ev_op1 (ev_strc [43]) (ev_int (i := ((10 : Nat) : Int))) (o2_mulS rfl (by decide)))) ea_nil))))))))))) (by show 11 ≤ 100000; decide)) fun x y hx hy => ⟨⟨x.l ++ y.l⟩, o2_catF ?_, ?_⟩) (ltr rfl) fun vals hvals => ?_
  · obtain ⟨zs, hz, rfl⟩ := hy
    show (zs.l.map _).length = 4
    rw [List.length_map]
    exact hz
  · rw [hx, show y = _ from hy]
    show 4 + 11 ≤ 100000
    decide
  · show (x.l ++ y.l).length ≤ 20
    rw [List.length_append, hx, show y = _ from hy]
    show 4 + 11 ≤ 20
    decide
  have zsrc : ∀ {ρ : Z.Env}, ρ[5]? = some (some ⟨vals⟩) → ρ[4]? = some (some ⟨(⟨srt xs⟩ : FL Tx)⟩) → 10 < ρ.length → Src K Γ (iList K (tOp rCat (tVar 5) (tVar 4))) (gName 10) ρ [10] (vals.l ++ (srt xs).map fun x => (⟨some x⟩ : AnyD)).length (fun i ρ => ρ.set 10 (some ⟨(vals.l ++ (srt xs).map fun x => (⟨some x⟩ : AnyD)).getD i ⟨none⟩⟩)) := fun h5 h4 hl => src_list (x0 := fun i => (vals.l ++ (srt xs).map fun x => (⟨some x⟩ : AnyD)).getD i ⟨none⟩) (ev_fl (ev_op1 (x := vals) (y := (⟨(srt xs).map fun x => (⟨some x⟩ : AnyD)⟩ : FL AnyD)) (ev_var h5) ((ev_mapF (f := fun x : Tx => (⟨some x⟩ : AnyD)) (fun _ _ _ _ r => r) (ev_var h4)).imp fun ys hy => by
      obtain ⟨zs, hz, rfl⟩ := hy
      rw [show zs = _ from hz]
      rfl) (o2_catF (by show vals.l.length + ((srt xs).map _).length ≤ _; rw [List.length_map]; omega)))) (fun i hi => getD_of hi) hl
  have zlen : (vals.l ++ (srt xs).map fun x => (⟨some x⟩ : AnyD)).length ≤ 50000 := by
    rw [List.length_append, List.length_map]
    omega
  have same : ∀ zs : List AnyD, (zs.filter fun _ => true).map (askL L) = (zs.filter fun _ => true).map (askD (srt xs)) := fun zs => List.map_congr_left fun a _ => ask_eq hL a
  refine wp_no ?_ (et_test (ev_op1 (ev_lcD (xs := vals.l ++ (srt xs).map fun x => (⟨some x⟩ : AnyD)) (fun _ => true) (askL L) (zsrc rfl rfl (ltr rfl)) zlen (by decide) fun i a ha => ⟨et_yes, fun _ => ?_⟩) (ev_lcD (xs := vals.l ++ (srt xs).map fun x => (⟨some x⟩ : AnyD)) (fun _ => true) (askD (srt xs)) (zsrc rfl rfl (ltr rfl)) zlen (by decide) fun i a ha => ⟨et_yes, fun _ => ?_⟩) o2_neLB)) ?_
  · rw [same, decide_eq_true rfl]
    rfl
  · have e := getD_is (d := (⟨none⟩ : AnyD)) ha
    subst e
    exact ev_inI (neg := false) isIns_lot (ev_var (i := 10)) (ev_var (i := 3) (a := L)) ⟨L, _, rfl, rfl⟩
  · have e := getD_is (d := (⟨none⟩ : AnyD)) ha
    generalize (vals.l ++ (srt xs).map fun x => (⟨some x⟩ : AnyD)).getD i ⟨none⟩ = b at e ⊢
    subst e
    match b with
    | ⟨some x⟩ => exact ev_andV (ev_isAny CL (ev_var (i := 10) (a := (⟨some x⟩ : AnyD)))) fun _ => ev_op1 (ev_anyTx (ev_var (i := 10) (a := (⟨some x⟩ : AnyD)))) (ev_fl (ev_var (i := 4) (a := (⟨srt xs⟩ : FL Tx)))) o2_inLS
    | ⟨none⟩ => exact ev_andV (ev_isAny CL (ev_var (i := 10) (a := (⟨none⟩ : AnyD)))) fun z => by cases z
  refine wp_asg (P := fun t : Tup Int => ascF n 0 t.l = true) (ev_tupleP (ev_lc (fun i (acc : List Int) => ascF i 0 acc = true) (src_rng1 (n := n) (ea_1 (ev_var (i := 1)) ea_nil) (by omega) (ltr rfl)) (by omega) (by decide) rfl fun i acc hi h1 => ⟨_, et_eqP (ev_call1 (ea_1 (ev_var (i := 0)) (ea_1 ev_int ea_nil)) ⟨p, 2, rfl, hp, by decide, by decide, rfl⟩) ev_int, fun _ => ascF_le' (by omega) h1, fun _ => ⟨_, ev_var (i := 11), fun b hb => ?_⟩⟩)) (ltr rfl) fun th hth => ?_
  · rw [show b = (i : Int) from hb, ascF_snoc, ascF_le' (by omega) h1, decide_eq_true (nextL_le' (by omega) h1), decide_eq_true (by omega)]
    rfl
  have ha : ascF L.many 0 th.l = true := by rw [hL.m]; exact hth
  refine wp_asg1 (a := ([⟨srt (L.rows.filter (lst L.rows))⟩, ⟨srt (L.rows ++ L.rows.map tn)⟩, ⟨srt (L.rows.map fun x => tnAt x th.l)⟩] : List (Tup Tx))) (ev_lst (ea_1 (ev_propP (Q := LotIs L.many (L.rows.filter (lst L.rows))) isIns_lot ((ev_meth (isInsM_lot (by decide +kernel) (by decide +kernel) (by decide +kernel)) (ev_var (i := 3) (a := L)) ea_nil ⟨L, rfl, ok, nd, rfl⟩).imp fun M hM => LotOf.is hM) fun M hM => ⟨_, ⟨M, rfl, rfl⟩, fun c hc => by rw [show c = _ from hc, hM.r]; rfl⟩) (ea_1 (ev_propP (Q := LotIs L.many (L.rows ++ L.rows.map tn)) isIns_lot ((ev_meth (isInsM_lot (by decide +kernel) (by decide +kernel) (by decide +kernel)) (ev_var (i := 3) (a := L)) ea_nil ⟨L, rfl, ok, by omega, rfl⟩).imp fun M hM => LotOf.is hM) fun M hM => ⟨_, ⟨M, rfl, rfl⟩, fun c hc => by rw [show c = _ from hc, hM.r]; rfl⟩) (ea_1 (ev_propP (Q := LotIs L.many (L.rows.map fun x => tnAt x th.l)) isIns_lot ((ev_meth (isInsM_lot (by decide +kernel) (by decide +kernel) (by decide +kernel)) (ev_var (i := 3) (a := L)) (ea_1 (ev_var (i := 6) (a := th)) ea_nil) ⟨L, th, rfl, ok, ha, rfl⟩).imp fun M hM => LotOf.is hM) fun M hM => ⟨_, ⟨M, rfl, rfl⟩, fun c hc => by rw [show c = _ from hc, hM.r]; rfl⟩) ea_nil))) (by show 3 ≤ 100000; decide)) (ltr rfl) ?_
  have hrow : ∀ x ∈ srt xs, Row x := fun x hx => rows_row h9 hS (srt_mem.mp hx)
  refine wp_asg1 (a := (⟨srt (srt xs ++ (srt xs).map tn)⟩ : FL Tx)) (ev_sortSetF (ev_fl (ev_op1 (x := (⟨srt xs⟩ : FL Tx)) (y := (⟨(srt xs).map tn⟩ : FL Tx)) (ev_var (i := 4)) (ev_is (ev_lcDF (xs := srt xs) (fun _ => true) tn (src_list (x0 := fun i => (srt xs).getD i ⟨[]⟩) (ev_fl (ev_var (i := 4) (a := (⟨srt xs⟩ : FL Tx)))) (fun i hi => getD_of hi) (j := 12) (ltr rfl)) (by omega) (by decide) fun i x hx => ⟨et_yes, fun _ => ?_⟩) (by rw [fmap_true])) (o2_catF ?_))) ?_) (ltr rfl) ?_
  · have e := getD_is (d := (⟨[]⟩ : Tx)) hx
    subst e
    exact ev_call1 (ea_1 (ev_var (i := 12) (a := (srt xs).getD i ⟨[]⟩)) ea_nil) ⟨_, rfl, hrow _ (List.mem_of_getElem? hx), rfl⟩
  · show (srt xs).length + ((srt xs).map tn).length ≤ _
    rw [List.length_map]
    omega
  · show (srt xs ++ (srt xs).map tn).length ≤ _
    rw [List.length_append, List.length_map]
    omega
  have eA : (srt xs).filter (lstL xs) = srt (L.rows.filter (lst L.rows)) := by
    rw [hL.r, ← srt_filter, srt_self]
    exact List.filter_congr fun x hx => by rw [lst_congr (T := xs) (fun x => srt_mem), lst_eq h9 hS (srt_mem.mp hx)]
  have r1 : RowsN n (L.rows.filter (lst L.rows)) := fun x hx => by
    rw [← hL.m]
    exact ok.rows x (List.mem_filter.mp hx).1
  have r2 : RowsN n (L.rows ++ L.rows.map tn) := fun x hx => by
    rw [← hL.m]
    rcases List.mem_append.mp hx with h | h
    · exact ok.rows x h
    · obtain ⟨y, hy, rfl⟩ := List.mem_map.mp h
      exact ⟨by rw [tn, mk_len]; exact (ok.rows y hy).1, (tn_row (ok.row hy)).all⟩
  have r3 : ∀ ts : List Int, RowsN n (L.rows.map fun x => tnAt x ts) := fun ts x hx => by
    rw [← hL.m]
    obtain ⟨y, hy, rfl⟩ := List.mem_map.mp hx
    exact ⟨by rw [tnAt, mk_len]; exact (ok.rows y hy).1, (tnAt_row (ok.row hy)).all⟩
  refine wp_no (b := false) rfl (et_test (ev_op1 (x := ([⟨srt (L.rows.filter (lst L.rows))⟩, ⟨srt (L.rows ++ L.rows.map tn)⟩, ⟨srt (L.rows.map fun x => tnAt x th.l)⟩] : List (Tup Tx))) (ev_var (i := 7)) (ev_lst (xs := ([⟨srt (L.rows.filter (lst L.rows))⟩, ⟨srt (L.rows ++ L.rows.map tn)⟩, ⟨srt (L.rows.map fun x => tnAt x th.l)⟩] : List (Tup Tx))) (ea_1 (ev_is (ev_cb (ev_call1 (ea_1 (ev_fl (ev_var (i := 2) (a := (⟨xs⟩ : FL Tx)))) ea_nil) ⟨n, xs, rfl, h9, hS, by omega, rfl⟩) o1_tuple) (by rw [eA])) (ea_1 (ev_is (ev_cb (ev_fl (ev_var (i := 8) (a := (⟨srt (srt xs ++ (srt xs).map tn)⟩ : FL Tx)))) o1_tuple) (by rw [hL.r])) (ea_1 (ev_is (ev_cb (ev_sortSet (ev_is (ev_lcD (xs := srt xs) (fun _ => true) (fun x => tnAt x th.l) (src_list (x0 := fun i => (srt xs).getD i ⟨[]⟩) (ev_fl (ev_var (i := 4) (a := (⟨srt xs⟩ : FL Tx)))) (fun i hi => getD_of hi) (j := 12) (ltr rfl)) (by omega) (by decide) fun i x hx => ⟨et_yes, fun _ => ?_⟩) (fmap_true _ _)) ?_) o1_tuple) (by rw [hL.r])) ea_nil))) (by show 3 ≤ 100000; decide)) (o2_neSame (shaped_L fun t ht => ?_)))) ?_
  · have e := getD_is (d := (⟨[]⟩ : Tx)) hx
    subst e
    exact ev_call1 (ea_1 (ev_var (i := 12) (a := (srt xs).getD i ⟨[]⟩)) (ea_1 (ev_var (i := 6) (a := th)) ea_nil)) ⟨_, th, rfl, hrow _ (List.mem_of_getElem? hx), rfl⟩
  · rw [List.length_map]
    omega
  · simp only [List.mem_cons, List.not_mem_nil, or_false] at ht
    rcases ht with rfl | rfl | rfl
    · exact lay_tup (xs := ⟨_⟩) (tok_srt h9 r1)
    · exact lay_tup (xs := ⟨_⟩) (tok_srt h9 r2)
    · exact lay_tup (xs := ⟨_⟩) (tok_srt h9 (r3 th.l))
  have tL : TOk L.rows := by rw [hL.r]; exact tok
  have even : (L.rows.all fun x => decide (tn x ∈ L.known)) = decide (srt (srt xs ++ (srt xs).map tn) = srt xs) := by
    rw [Bool.eq_iff_iff, List.all_eq_true, decide_eq_true_eq, hL.r]
    constructor
    · intro h
      refine (srt_congr (T := xs) fun x => ?_)
      rw [List.mem_append, srt_mem]
      constructor
      · rintro (q | q)
        · exact q
        · obtain ⟨y, hy, rfl⟩ := List.mem_map.mp q
          exact (hL.k _).mp (of_decide_eq_true (h y hy))
      · exact .inl
    · intro h x hx
      refine decide_eq_true ((hL.k _).mpr (srt_mem.mp ?_))
      rw [← h, srt_mem, List.mem_append]
      exact .inr (List.mem_map.mpr ⟨x, hx, rfl⟩)
  have tA : TOk (srt (srt xs ++ (srt xs).map tn)) := by
    rw [← hL.r]
    exact tok_srt h9 r2
  have e0 : (L.rows.map fun x => tnAt x []) = L.rows := by
    conv => rhs; rw [← List.map_id L.rows]
    exact List.map_congr_left fun x _ => by
      show tnAt x [] = x
      have : tnAt x [] = mk x.s.length (sg x) := mk_congr fun i _ => if_neg (by simp)
      rw [this, mk_self]
  refine wp_ret hf (ev_is (ev_andV (a := true) (b := true) (ev_is (ev_op1 (ev_cb (ev_prop isIns_lot (ev_var (i := 3) (a := L)) ⟨L, rfl, ok, rfl⟩) o1_reprB) (ev_cb (ev_op1 (ev_fl (ev_var (i := 8) (a := (⟨srt (srt xs ++ (srt xs).map tn)⟩ : FL Tx)))) (ev_fl (ev_var (i := 4) (a := (⟨srt xs⟩ : FL Tx)))) (o2_eqLS tA tok)) o1_reprB) o2_eqS) (by rw [even]; exact decide_eq_true rfl)) fun _ => ev_is (ev_andV (a := true) (b := true) (ev_binP (Pa := Is L) (Pb := LotIs n xs.reverse) isIns_lot (ev_var (i := 3)) (ev_lotNew (ea_1 (ev_var (i := 1)) (ea_1 (ev_cb (ev_rev (ev_fl (ev_var (i := 2) (a := (⟨xs⟩ : FL Tx))))) o1_tuple) ea_nil)) h9 (fun x hx => hS x (List.mem_reverse.mp hx)) (by rw [List.length_reverse]; omega)) fun a b hA hB => ⟨_, Fe1 (by rw [show a = L from hA]; exact tL) (by rw [hB.r]; exact tok_srt h9 fun x hx => hS x (List.mem_reverse.mp hx)), fun c hc => ?_⟩) fun _ => ev_binP (Pa := LotIs n (L.rows.map fun x => tnAt x [])) (Pb := Is L) isIns_lot ((ev_meth (isInsM_lot (by decide +kernel) (by decide +kernel) (by decide +kernel)) (ev_var (i := 3) (a := L)) (ea_1 (ev_tupN (xs := ([] : List Int)) ea_nil (by decide)) ea_nil) ⟨L, ⟨[]⟩, rfl, ok, rfl, rfl⟩).imp fun M hM => by rw [← hL.m]; exact LotOf.is hM) (ev_var (i := 3)) fun a b hA hB => ⟨_, Fe1 (by rw [hA.r]; exact tok_srt h9 (r3 [])) (by rw [show b = L from hB]; exact tL), fun c hc => ?_⟩) rfl) rfl)
  · show c = true
    rw [show c = _ from hc, show a = L from hA, eq_lots hL hB]
    exact decide_eq_true (srt_congr fun x => List.mem_reverse.symm)
  · show c = true
    rw [show c = _ from hc, show b = L from hB, eq_lots hA hL, e0, hL.r]
    exact decide_eq_true srt_self
end
end K02

set_option Elab.async false
set_option linter.all false
set_option maxRecDepth 100000
set_option maxHeartbeats 2000000
namespace K02
open PySem PySem.Spec PyProof.Rows L2 Z K00
section
variable {P : Program} {w : World} {K : PySem.W.Frag} {mg : Str → Option Value} {base : Heap}
/-- a lot well made -/
structure LotW (n : Nat) (S : List Tx) (L : LotD) : Prop where
  i : LotIs n S L
  o : LotOk L
theorem LotIs.well {n : Nat} {S : List Tx} {L : LotD} (h : LotIs n S L) (h9 : n ≤ 9) (hl : S.length ≤ 50000) (hr : RowsN n S) : LotW n S L := ⟨h, h.ok h9 hl hr⟩
theorem LotW.tok {n : Nat} {S : List Tx} {L : LotD} (h : LotW n S L) : TOk L.rows := fun x hx => tx_ok (h.o.row hx)
theorem LotW.rn {n : Nat} {S : List Tx} {L : LotD} (h : LotW n S L) : RowsN n S := fun x hx => by
  rw [← h.i.m]
  exact h.o.rows x (by rw [h.i.r]; exact srt_mem.mpr hx)
def inB (T : List Tx) (x : Tx) : Bool := decide (x ∈ T)
theorem rn_filter {n : Nat} {S : List Tx} {p : Tx → Bool} (h : RowsN n S) : RowsN n (S.filter p) := fun x hx => h x (List.mem_filter.mp hx).1
theorem rn_app {n : Nat} {S T : List Tx} (h : RowsN n S) (h2 : RowsN n T) : RowsN n (S ++ T) := fun x hx => (List.mem_append.mp hx).elim (h x) (h2 x)
variable {Γ : Own} {ρ : Z.Env} {ta tb : TE} {E : XK} {n : Nat} {S T : List Tx}
/-- one | other -/
theorem ev_orL (h9 : n ≤ 9) (hz : S.length + T.length ≤ 50000) (ha : Ev K Γ ta ρ (LotW n S)) (hb : Ev K Γ tb ρ (LotW n T)) : Ev K Γ (tOp (rOwnI (He.ga K "Lot") (spD K F_Lot___or__) E) ta tb) ρ (LotW n (S ++ T)) :=
  ev_binP isIns_lot ha hb fun a b hA hB => ⟨_, ⟨a, b, rfl, hA.o, hB.o, by rw [hA.i.m, hB.i.m], by
    rw [hA.i.r, hB.i.r]
    exact Nat.le_trans (Nat.add_le_add srt_len srt_len) hz, rfl⟩, fun c hc => by
    have h := (LotOf.is hc).congr (T := S ++ T) fun x => by rw [List.mem_append, List.mem_append, hA.i.r, hB.i.r, srt_mem, srt_mem]
    rw [hA.i.m] at h
    exact h.well h9 (by rw [List.length_append]; exact hz) (rn_app hA.rn hB.rn)⟩
/-- one & other -/
theorem ev_andL (h9 : n ≤ 9) (hz : S.length ≤ 50000) (ha : Ev K Γ ta ρ (LotW n S)) (hb : Ev K Γ tb ρ (LotW n T)) : Ev K Γ (tOp (rOwnI (He.ga K "Lot") (spD K F_Lot___and__) E) ta tb) ρ (LotW n (S.filter (inB T))) :=
  ev_binP isIns_lot ha hb fun a b hA hB => ⟨_, ⟨a, b, rfl, hA.o, by rw [hA.i.m, hB.i.m], rfl⟩, fun c hc => by
    have h := (LotOf.is hc).congr (T := S.filter (inB T)) fun x => by
      rw [List.mem_filter, List.mem_filter, hA.i.r, srt_mem]
      show _ ∧ decide (x ∈ b.known) = true ↔ _ ∧ decide (x ∈ T) = true
      rw [decide_eq_decide.mpr (hB.i.k x)]
    rw [hA.i.m] at h
    exact h.well h9 (Nat.le_trans (List.length_filter_le _ _) hz) (rn_filter hA.rn)⟩
/-- one - other -/
theorem ev_subL (h9 : n ≤ 9) (hz : S.length ≤ 50000) (ha : Ev K Γ ta ρ (LotW n S)) (hb : Ev K Γ tb ρ (LotW n T)) : Ev K Γ (tOp (rOwnI (He.ga K "Lot") (spD K F_Lot___sub__) E) ta tb) ρ (LotW n (S.filter fun x => !inB T x)) :=
  ev_binP isIns_lot ha hb fun a b hA hB => ⟨_, ⟨a, b, rfl, hA.o, by rw [hA.i.m, hB.i.m], rfl⟩, fun c hc => by
    have h := (LotOf.is hc).congr (T := S.filter fun x => !inB T x) fun x => by
      rw [List.mem_filter, List.mem_filter, hA.i.r, srt_mem]
      show _ ∧ (!decide (x ∈ b.known)) = true ↔ _ ∧ (!decide (x ∈ T)) = true
      rw [decide_eq_decide.mpr (hB.i.k x)]
    rw [hA.i.m] at h
    exact h.well h9 (Nat.le_trans (List.length_filter_le _ _) hz) (rn_filter hA.rn)⟩
/-- one == other, one != other -/
theorem ev_eqL (ha : Ev K Γ ta ρ (LotW n S)) (hb : Ev K Γ tb ρ (LotW n T)) : Ev K Γ (tOp (rOwnI (He.ga K "Lot") (spD K F_Lot___eq__) E) ta tb) ρ (Is (decide (srt S = srt T))) :=
  ev_binP isIns_lot ha hb fun a b hA hB => ⟨_, Fe1 hA.tok hB.tok, fun c hc => by
    show c = _
    rw [show c = _ from hc, eq_lots hA.i hB.i]⟩
theorem ev_neL (ha : Ev K Γ ta ρ (LotW n S)) (hb : Ev K Γ tb ρ (LotW n T)) : Ev K Γ (tOp (rOwnNe (He.ga K "Lot") (spD K F_Lot___eq__) E) ta tb) ρ (Is (!decide (srt S = srt T))) :=
  ev_neP isIns_lot ha hb fun a b hA hB => by
    rw [← eq_lots hA.i hB.i]
    exact Fe1 hA.tok hB.tok
/-- one.rows -/
theorem ev_rowsL (ha : Ev K Γ ta ρ (LotW n S)) : Ev K Γ (tProp (He.ga K "Lot") (spD K F_Lot_rows) [] E ta) ρ (Is (⟨srt S⟩ : Tup Tx)) :=
  ev_propP isIns_lot ha fun b hb => ⟨_, ⟨b, rfl, rfl⟩, fun c hc => by
    show c = _
    rw [show c = _ from hc, hb.i.r]⟩
theorem ev_unl {α β : Type} [Rp α] [Rp β] {te : TE} {x : α} (h : Ev K Γ te ρ (Is (.inl x : α ⊕ β))) : Ev K Γ te ρ (Is x) := fun Δ σ H Q s hh e k => h Δ σ H Q s hh e fun v H' a pa e1 r => by
  have ea : a = .inl x := pa
  subst ea
  exact k v H' x rfl e1 r
theorem ev_unr {α β : Type} [Rp α] [Rp β] {te : TE} {x : β} (h : Ev K Γ te ρ (Is (.inr x : α ⊕ β))) : Ev K Γ te ρ (Is x) := fun Δ σ H Q s hh e k => h Δ σ H Q s hh e fun v H' a pa e1 r => by
  have ea : a = .inr x := pa
  subst ea
  exact k v H' x rfl e1 r
theorem ev_inlP {α β : Type} [Rp α] [Rp β] {te : TE} {P : α → Prop} {Q : α ⊕ β → Prop} (h : Ev K Γ te ρ P) (q : ∀ a, P a → Q (.inl a)) : Ev K Γ te ρ Q := fun Δ σ H R s hh e k => h Δ σ H R s hh e fun v H' a pa e1 r => k v H' (.inl a) (q a pa) e1 r
theorem ev_inrP {α β : Type} [Rp α] [Rp β] {te : TE} {P : β → Prop} {Q : α ⊕ β → Prop} (h : Ev K Γ te ρ P) (q : ∀ a, P a → Q (.inr a)) : Ev K Γ te ρ Q := fun Δ σ H R s hh e k => h Δ σ H R s hh e fun v H' a pa e1 r => k v H' (.inr a) (q a pa) e1 r
theorem ty_lot (CL : LotT K) {M : LotD} : ∀ Δ H v, Rp.rp K Δ H v M → TyX K H v (.ref (He.ga K "Lot")) := fun Δ H v r => by
  obtain ⟨p, dx, fs, rfl, hp⟩ := isIns_lot Δ H v _ r
  exact .base (.ins hp CL.cl CL.ca CL.cn CL.ct CL.cm)
theorem nf_self {C : Addr} : PySem.W.notFirst K C (.ref C) = true := by simp [PySem.W.notFirst]
theorem nf_none {C : Addr} : PySem.W.notFirst K C (.type "NoneType") = true := by
  unfold PySem.W.notFirst
  rw [sub_none]
  simp
theorem nf_tup {C : Addr} : PySem.W.notFirst K C (.type "tuple") = true := by
  unfold PySem.W.notFirst
  rw [sub_tup]
  simp
def TOLD (xs ys : List Tx) : List (Tup Tx) := [⟨srt (xs ++ ys)⟩, ⟨(srt xs).filter (inB ys)⟩, ⟨(srt xs).filter fun x => !inB ys x⟩]
def F__law_are_two_right : Pm Bool := fun _ cs R => ∃ (n : Nat) (xs ys : List Tx), cs = [⟨(n : Int)⟩, ⟨(⟨xs⟩ : FL Tx)⟩, ⟨(⟨ys⟩ : FL Tx)⟩] ∧ n ≤ 9 ∧ RowsN n xs ∧ RowsN n ys ∧ xs.length ≤ 11 ∧ ys.length ≤ 11 ∧ R = Is true
theorem sc__law_are_two_right : FnScope ["_law_size", "_law_one", "_law_other", "_law_first", "_law_second", "_law_told", "_law_both", "_law_wide", "_law_row"] ["_law_size", "_law_one", "_law_other"] (defScope s__law_are_two_right) := ⟨rfl, rfl, rfl, by decide +kernel, rfl, by decide +kernel, by decide +kernel⟩
theorem ok__law_are_two_right (T : Txt K mg) (CL : LotT K) (CG : mg "Lot" = some (.ref (He.ga K "Lot"))) {f : Addr} {fd : FuncData} (D : Df K mg "_law_are_two_right" s__law_are_two_right ["_law_size", "_law_one", "_law_other"] f fd) {f_Lot___or__ : Addr} {fd_Lot___or__ : FuncData} (CM_Lot___or__ : Meth K (He.ga K "Lot") "__or__" f_Lot___or__ ∧ DfM K [] "__or__" "Lot.__or__" s_Lot___or__ ["self", "other"] f_Lot___or__ fd_Lot___or__) (G_Lot___or__ : FnOk P w K mg base CX0 7 f_Lot___or__ fd_Lot___or__ ["self", "other"] (spD K F_Lot___or__)) {f_Lot___and__ : Addr} {fd_Lot___and__ : FuncData} (CM_Lot___and__ : Meth K (He.ga K "Lot") "__and__" f_Lot___and__ ∧ DfM K [] "__and__" "Lot.__and__" s_Lot___and__ ["self", "other"] f_Lot___and__ fd_Lot___and__) (G_Lot___and__ : FnOk P w K mg base CX0 7 f_Lot___and__ fd_Lot___and__ ["self", "other"] (spD K F_Lot___and__)) {f_Lot___sub__ : Addr} {fd_Lot___sub__ : FuncData} (CM_Lot___sub__ : Meth K (He.ga K "Lot") "__sub__" f_Lot___sub__ ∧ DfM K [] "__sub__" "Lot.__sub__" s_Lot___sub__ ["self", "other"] f_Lot___sub__ fd_Lot___sub__) (G_Lot___sub__ : FnOk P w K mg base CX0 7 f_Lot___sub__ fd_Lot___sub__ ["self", "other"] (spD K F_Lot___sub__)) {f_Lot___eq__ : Addr} {fd_Lot___eq__ : FuncData} (CM_Lot___eq__ : Meth K (He.ga K "Lot") "__eq__" f_Lot___eq__ ∧ DfM K [] "__eq__" "Lot.__eq__" s_Lot___eq__ ["self", "other"] f_Lot___eq__ fd_Lot___eq__) (G_Lot___eq__ : FnOk P w K mg base CX0 2 f_Lot___eq__ fd_Lot___eq__ ["self", "other"] (spD K F_Lot___eq__)) {f_Lot___init__ : Addr} {fd_Lot___init__ : FuncData} {dv_Lot___init__ : List V} (CP_Lot : Mk K (He.ga K "Lot") f_Lot___init__ ∧ DfM K dv_Lot___init__ "__init__" "Lot.__init__" s_Lot___init__ ["self", "many", "rows"] f_Lot___init__ fd_Lot___init__) (G_Lot___init__ : FnOk P w K mg base CX0 5 f_Lot___init__ fd_Lot___init__ ["self", "many", "rows"] (spI K (He.ga K "Lot") F_Lot___init__)) {a_Lot : Addr} (CB_Lot : Binds K fd_Lot___init__ ["self", "many", "rows"] [.ref a_Lot] ∧ KT K a_Lot []) {p_Lot_rows f_Lot_rows : Addr} {fd_Lot_rows : FuncData} (CP_Lot_rows : PropOf K (He.ga K "Lot") "rows" p_Lot_rows f_Lot_rows ∧ DfM K [] "rows" "Lot.rows" s_Lot_rows ["self"] f_Lot_rows fd_Lot_rows) (G_Lot_rows : FnOk P w K mg base CX0 2 f_Lot_rows fd_Lot_rows ["self"] (spD K F_Lot_rows)) : FnOk P w K mg base CX0 14 f fd ["_law_size", "_law_one", "_law_other"] (spD K F__law_are_two_right) := by
  obtain ⟨_, hI_SHIFT⟩ := T.i_SHIFT
  obtain ⟨_, hI_LOW⟩ := T.i_LOW
  obtain ⟨_, hI_MAX_THINGS⟩ := T.i_MAX_THINGS
  refine def_ok D.F sc__law_are_two_right (fun Γ cs R g => ?len) (fun cdv A outer s H E hr Γ cs R g => ?_)
  case len => obtain ⟨n, xs, ys, rfl, _⟩ := g; rfl
  obtain ⟨n, xs, ys, rfl, h9, hX, hY, hx11, hy11, rfl⟩ := g
  refine ⟨_, (pss_cons (ps_par (i := 3) (j := 4) (by rfl) sc__law_are_two_right.nd rfl rfl (by decide) rfl rfl (pa_cons (pe_make CP_Lot.1 G_Lot___init__ (hr.mono (by decide)) (by rfl) CG CP_Lot.2.b .nil pass0 (pa_cons (pv 0) (pa_cons (pe_callTy call_tupK (by rfl) T.z_tuple (by decide +kernel) (pa_cons (pv 1) pa_nil)) pa_nil))) (pa_cons (pe_make CP_Lot.1 G_Lot___init__ (hr.mono (by decide)) (by rfl) CG CP_Lot.2.b .nil pass0 (pa_cons (pv 0) (pa_cons (pe_callTy call_tupK (by rfl) T.z_tuple (by decide +kernel) (pa_cons (pv 2) pa_nil)) pa_nil))) pa_nil)) (by kernel_rfl))
      (pss_cons (ps_set (i := 5) sc__law_are_two_right.nd rfl (by first | exact .inl rfl | exact .inr rfl) (pe_lst (pa_cons (pe_prop (pe_op (op_binI CL.lo (by first | exact CM_Lot___or__.1.at_ | (rw [show dunder _ = ("__or__" : Str) from by decide +kernel]; exact CM_Lot___or__.1.at_)) CM_Lot___or__.1.fn G_Lot___or__ (hr.mono (by decide)) CM_Lot___or__.2.b pass0) (pv 3) (pv 4)) CL.cl CP_Lot_rows.1 G_Lot_rows (hr.mono (by decide)) CP_Lot_rows.2.b .nil pass0 rfl) (pa_cons (pe_prop (pe_op (op_binI CL.lo (by first | exact CM_Lot___and__.1.at_ | (rw [show dunder _ = ("__and__" : Str) from by decide +kernel]; exact CM_Lot___and__.1.at_)) CM_Lot___and__.1.fn G_Lot___and__ (hr.mono (by decide)) CM_Lot___and__.2.b pass0) (pv 3) (pv 4)) CL.cl CP_Lot_rows.1 G_Lot_rows (hr.mono (by decide)) CP_Lot_rows.2.b .nil pass0 rfl) (pa_cons (pe_prop (pe_op (op_binI CL.lo (by first | exact CM_Lot___sub__.1.at_ | (rw [show dunder _ = ("__sub__" : Str) from by decide +kernel]; exact CM_Lot___sub__.1.at_)) CM_Lot___sub__.1.fn G_Lot___sub__ (hr.mono (by decide)) CM_Lot___sub__.2.b pass0) (pv 3) (pv 4)) CL.cl CP_Lot_rows.1 G_Lot_rows (hr.mono (by decide)) CP_Lot_rows.2.b .nil pass0 rfl) pa_nil)))))
      (pss_cons (ps_setLc (i := 6) (own := [("_law_row", 8)]) (g := (gName 8)) (tt := _) rfl sc__law_are_two_right.nd rfl rfl (sw_true rfl rfl rfl (by decide +kernel)) (pi_listK (pe_sortSet (by rfl) (by rfl) T.z_sorted (by decide +kernel) (by rfl) T.z_set (pv 1))) (blkOk_by (N := ["_law_size", "_law_one", "_law_other", "_law_first", "_law_second", "_law_told", "_law_both", "_law_wide", "_law_row"]) (sc := defScope s__law_are_two_right) (by decide +kernel)) (fun _ _ _ _ _ => (pg_name (i := 8) sc__law_are_two_right.nd rfl (by first | exact .inl rfl | exact .inr rfl))) (fun _ _ _ _ _ => (pts_one (pt_cmpR op_inK (pv 8) (pv 2) (by rfl)))) (fun _ _ _ _ _ => (pv 8)))
      (pss_cons (ps_if (pt_cmpR (op_neK hr.units) (pv 5) (pe_lst (pa_cons (pe_callTy call_tupK (by rfl) T.z_tuple (by decide +kernel) (pa_cons (pe_sortSet (by rfl) (by rfl) T.z_sorted (by decide +kernel) (by rfl) T.z_set (pe_op op_cat (pv 1) (pv 2))) pa_nil)) (pa_cons (pe_callTy call_tupK (by rfl) T.z_tuple (by decide +kernel) (pa_cons (pv 6) pa_nil)) (pa_cons (pe_callTy call_tupK (by rfl) T.z_tuple (by decide +kernel) (pa_cons (pe_lc (own := [("_law_row", 8)]) (g := (gName 8)) (tt := _) rfl sc__law_are_two_right.nd (pi_listK (pe_sortSet (by rfl) (by rfl) T.z_sorted (by decide +kernel) (by rfl) T.z_set (pv 1))) (blkOk_by (N := ["_law_size", "_law_one", "_law_other", "_law_first", "_law_second", "_law_told", "_law_both", "_law_wide", "_law_row"]) (sc := defScope s__law_are_two_right) (by decide +kernel)) (fun _ _ _ _ _ => (pg_name (i := 8) sc__law_are_two_right.nd rfl (by first | exact .inl rfl | exact .inr rfl))) (fun _ _ _ _ _ => (pts_one (pt_cmpR op_notInK (pv 8) (pv 2) (by rfl)))) (fun _ _ _ _ _ => (pv 8))) pa_nil)) pa_nil)))) (nomark _)) (pss_one (ps_ret pe_bl)) pss_nil)
      (pss_cons (ps_if (PW.pt (pw_or (pt_cmpR op_ne (pe_cmpR (op_eqI (by first | exact CM_Lot___eq__.1.at_ | (rw [show dunder _ = ("__eq__" : Str) from by decide +kernel]; exact CM_Lot___eq__.1.at_)) CM_Lot___eq__.1.fn G_Lot___eq__ (hr.mono (by decide)) CM_Lot___eq__.2.b pass0) (pv 3) (pv 4) (nomark _)) (pe_cmpR (op_eqK hr.units) (pe_sortSet (by rfl) (by rfl) T.z_sorted (by decide +kernel) (by rfl) T.z_set (pv 1)) (pe_sortSet (by rfl) (by rfl) T.z_sorted (by decide +kernel) (by rfl) T.z_set (pv 2)) (nomark _)) (nomark _)) (pw_or1 (pt_cmpR op_ne (pe_cmpR ((fun a b c d e f => op_neI CL.ne a b CL.cm c d e f) (by first | exact CM_Lot___eq__.1.at_ | (rw [show dunder _ = ("__eq__" : Str) from by decide +kernel]; exact CM_Lot___eq__.1.at_)) CM_Lot___eq__.1.fn G_Lot___eq__ (hr.mono (by decide)) CM_Lot___eq__.2.b pass0) (pv 3) (pv 4) (nomark _)) (pe_cmpR (op_neK hr.units) (pe_prop (pv 3) CL.cl CP_Lot_rows.1 G_Lot_rows (hr.mono (by decide)) CP_Lot_rows.2.b .nil pass0 rfl) (pe_prop (pv 4) CL.cl CP_Lot_rows.1 G_Lot_rows (hr.mono (by decide)) CP_Lot_rows.2.b .nil pass0 rfl) (nomark _)) (nomark _))))) (pss_one (ps_ret pe_bl)) pss_nil)
      (pss_cons (ps_if (PW.pt (pw_or (pt_cmpR ((fun a b c d e f => op_neI CL.ne a b CL.cm c d e f) (by first | exact CM_Lot___eq__.1.at_ | (rw [show dunder _ = ("__eq__" : Str) from by decide +kernel]; exact CM_Lot___eq__.1.at_)) CM_Lot___eq__.1.fn G_Lot___eq__ (hr.mono (by decide)) CM_Lot___eq__.2.b pass0) (pe_op (op_binI CL.lo (by first | exact CM_Lot___or__.1.at_ | (rw [show dunder _ = ("__or__" : Str) from by decide +kernel]; exact CM_Lot___or__.1.at_)) CM_Lot___or__.1.fn G_Lot___or__ (hr.mono (by decide)) CM_Lot___or__.2.b pass0) (pe_op (op_binI CL.lo (by first | exact CM_Lot___and__.1.at_ | (rw [show dunder _ = ("__and__" : Str) from by decide +kernel]; exact CM_Lot___and__.1.at_)) CM_Lot___and__.1.fn G_Lot___and__ (hr.mono (by decide)) CM_Lot___and__.2.b pass0) (pv 3) (pv 4)) (pe_op (op_binI CL.lo (by first | exact CM_Lot___sub__.1.at_ | (rw [show dunder _ = ("__sub__" : Str) from by decide +kernel]; exact CM_Lot___sub__.1.at_)) CM_Lot___sub__.1.fn G_Lot___sub__ (hr.mono (by decide)) CM_Lot___sub__.2.b pass0) (pv 3) (pv 4))) (pv 3) (nomark _)) (pw_or1 (pt_cmpR ((fun a b c d e f => op_neI CL.ne a b CL.cm c d e f) (by first | exact CM_Lot___eq__.1.at_ | (rw [show dunder _ = ("__eq__" : Str) from by decide +kernel]; exact CM_Lot___eq__.1.at_)) CM_Lot___eq__.1.fn G_Lot___eq__ (hr.mono (by decide)) CM_Lot___eq__.2.b pass0) (pe_op (op_binI CL.lo (by first | exact CM_Lot___sub__.1.at_ | (rw [show dunder _ = ("__sub__" : Str) from by decide +kernel]; exact CM_Lot___sub__.1.at_)) CM_Lot___sub__.1.fn G_Lot___sub__ (hr.mono (by decide)) CM_Lot___sub__.2.b pass0) (pe_op (op_binI CL.lo (by first | exact CM_Lot___or__.1.at_ | (rw [show dunder _ = ("__or__" : Str) from by decide +kernel]; exact CM_Lot___or__.1.at_)) CM_Lot___or__.1.fn G_Lot___or__ (hr.mono (by decide)) CM_Lot___or__.2.b pass0) (pv 3) (pv 4)) (pv 4)) (pe_op (op_binI CL.lo (by first | exact CM_Lot___sub__.1.at_ | (rw [show dunder _ = ("__sub__" : Str) from by decide +kernel]; exact CM_Lot___sub__.1.at_)) CM_Lot___sub__.1.fn G_Lot___sub__ (hr.mono (by decide)) CM_Lot___sub__.2.b pass0) (pv 3) (pv 4)) (nomark _))))) (pss_one (ps_ret pe_bl)) pss_nil)
      (pss_cons (ps_set (i := 7) sc__law_are_two_right.nd rfl (by first | exact .inl rfl | exact .inr rfl) (pe_ifExp (pt_cmpR op_lt (pv 0) pe_int (nomark _)) (pe_make CP_Lot.1 G_Lot___init__ (hr.mono (by decide)) (by rfl) CG CP_Lot.2.b .nil pass0 (pa_cons (pe_op op_add (pv 0) pe_int) (pa_cons (pe_callTy call_tupK (by rfl) T.z_tuple (by decide +kernel) (pa_cons (pe_lc (own := [("_law_row", 8)]) (g := (gName 8)) (tt := tYes) rfl sc__law_are_two_right.nd (pi_listK (pv 1)) (blkOk_by (N := ["_law_size", "_law_one", "_law_other", "_law_first", "_law_second", "_law_told", "_law_both", "_law_wide", "_law_row"]) (sc := defScope s__law_are_two_right) (by decide +kernel)) (fun _ _ _ _ _ => (pg_name (i := 8) sc__law_are_two_right.nd rfl (by first | exact .inl rfl | exact .inr rfl))) (fun _ _ _ _ _ => pts_nil) (fun _ _ _ _ _ => (pe_op op_add_str (pv 8) pe_str))) pa_nil)) pa_nil))) pe_non))
      (pss_one (ps_ret (pe_and (pe_cmpR ((fun a b c d e f => op_neV CL.ne a b CL.cm c d e f) (by first | exact CM_Lot___eq__.1.at_ | (rw [show dunder _ = ("__eq__" : Str) from by decide +kernel]; exact CM_Lot___eq__.1.at_)) CM_Lot___eq__.1.fn G_Lot___eq__ (hr.mono (by decide)) CM_Lot___eq__.2.b pass0) (pv 3) (pv 7) (nomark _)) (pe_and (pe_cmpR ((fun a b c d e f => op_neV CL.ne a b CL.cm c d e f) (by first | exact CM_Lot___eq__.1.at_ | (rw [show dunder _ = ("__eq__" : Str) from by decide +kernel]; exact CM_Lot___eq__.1.at_)) CM_Lot___eq__.1.fn G_Lot___eq__ (hr.mono (by decide)) CM_Lot___eq__.2.b pass0) (pv 3) (pe_callTy call_tupK (by rfl) T.z_tuple (by decide +kernel) (pa_cons (pv 1) pa_nil)) (nomark _)) (pe_and (pe_cmpR (op_eqI (by first | exact CM_Lot___eq__.1.at_ | (rw [show dunder _ = ("__eq__" : Str) from by decide +kernel]; exact CM_Lot___eq__.1.at_)) CM_Lot___eq__.1.fn G_Lot___eq__ (hr.mono (by decide)) CM_Lot___eq__.2.b pass0) (pe_make (dvs := [.ref a_Lot]) CP_Lot.1 G_Lot___init__ (hr.mono (by decide)) (by rfl) CG CB_Lot.1 (.cons rfl .nil) pass0 (pa_cons (pv 0) pa_nil)) (pe_make CP_Lot.1 G_Lot___init__ (hr.mono (by decide)) (by rfl) CG CP_Lot.2.b .nil pass0 (pa_cons (pv 0) (pa_cons (pe_tup pa_nil) pa_nil))) (nomark _)) (pe_one (pe_cmpR (op_eqI (by first | exact CM_Lot___eq__.1.at_ | (rw [show dunder _ = ("__eq__" : Str) from by decide +kernel]; exact CM_Lot___eq__.1.at_)) CM_Lot___eq__.1.fn G_Lot___eq__ (hr.mono (by decide)) CM_Lot___eq__.2.b pass0) (pe_op (op_binI CL.lo (by first | exact CM_Lot___sub__.1.at_ | (rw [show dunder _ = ("__sub__" : Str) from by decide +kernel]; exact CM_Lot___sub__.1.at_)) CM_Lot___sub__.1.fn G_Lot___sub__ (hr.mono (by decide)) CM_Lot___sub__.2.b pass0) (pv 3) (pv 3)) (pe_make (dvs := [.ref a_Lot]) CP_Lot.1 G_Lot___init__ (hr.mono (by decide)) (by rfl) CG CB_Lot.1 (.cons rfl .nil) pass0 (pa_cons (pv 0) pa_nil)) (nomark _))))))))))))))), fun Δ0 D' hf hn => ?_⟩
  have hlx : (srt xs).length ≤ 11 := Nat.le_trans srt_len hx11
  have hly : (srt ys).length ≤ 11 := Nat.le_trans srt_len hy11
  have tX := tok_srt h9 hX
  have tY := tok_srt h9 hY
  refine wp_par (Q := fun cs => ∃ L M, LotW n xs L ∧ LotW n ys M ∧ cs = [⟨L⟩, ⟨M⟩]) (ea_cons (Ps := fun cs => ∃ M, LotW n ys M ∧ cs = [⟨M⟩]) ((ev_lotNew (ea_1 (ev_var (i := 0)) (ea_1 (ev_cb (ev_fl (ev_var (i := 1))) o1_tuple) ea_nil)) h9 hX (by omega)).imp fun L h => h.well h9 (by omega) hX) (ea_cons (Ps := Is []) ((ev_lotNew (ea_1 (ev_var (i := 0)) (ea_1 (ev_cb (ev_fl (ev_var (i := 2))) o1_tuple) ea_nil)) h9 hY (by omega)).imp fun L h => h.well h9 (by omega) hY) ea_nil fun M cs hM hc => ⟨M, hM, by rw [show cs = [] from hc]⟩) fun L cs hL hc => by
    obtain ⟨M, hM, rfl⟩ := hc
    exact ⟨L, M, hL, hM, rfl⟩) (ltr rfl) (ltr rfl) fun cs hcs => ?_
  obtain ⟨L, M, hL, hM, rfl⟩ := hcs
  refine ⟨_, _, rfl, ?_⟩
  have vL : ∀ {ρ : Z.Env} {Γ : Own}, ρ[3]? = some (some ⟨L⟩) → Ev K Γ (tVar 3) ρ (LotW n xs) := fun h => (ev_var h).imp fun b hb => by rw [show b = L from hb]; exact hL
  have vM : ∀ {ρ : Z.Env} {Γ : Own}, ρ[4]? = some (some ⟨M⟩) → Ev K Γ (tVar 4) ρ (LotW n ys) := fun h => (ev_var h).imp fun b hb => by rw [show b = M from hb]; exact hM
  refine wp_asg1 (a := TOLD xs ys) (ev_lst (xs := TOLD xs ys) (ea_1 (ev_rowsL (ev_orL h9 (by omega) (vL rfl) (vM rfl))) (ea_1 (ev_is (ev_rowsL (ev_andL h9 (by omega) (vL rfl) (vM rfl))) (by rw [srt_filter])) (ea_1 (ev_is (ev_rowsL (ev_subL h9 (by omega) (vL rfl) (vM rfl))) (by rw [srt_filter])) ea_nil))) (by show 3 ≤ 100000; decide)) (ltr rfl) ?_
  have srcX : ∀ {ρ : Z.Env} {Γ : Own}, ρ[1]? = some (some ⟨(⟨xs⟩ : FL Tx)⟩) → 8 < ρ.length → Src K Γ (iList K (tSortSet K (tVar 1))) (gName 8) ρ [8] (srt xs).length (fun i ρ => ρ.set 8 (some ⟨(srt xs).getD i ⟨[]⟩⟩)) := fun h hl => src_list (x0 := fun i => (srt xs).getD i ⟨[]⟩) (ev_sortSet (ev_fl (ev_var h)) (by omega)) (fun i hi => getD_of hi) hl
  refine wp_asg1 (a := (srt xs).filter (inB ys)) (ev_is (ev_lcD (xs := srt xs) (inB ys) (fun x => x) (srcX rfl (ltr rfl)) (by omega) (by decide) fun i x hx => ⟨?_, fun _ => by rw [← getD_is (d := (⟨[]⟩ : Tx)) hx]; exact ev_var (i := 8)⟩) (fmap_id _ _)) (ltr rfl) ?_
  · have e := getD_is (d := (⟨[]⟩ : Tx)) hx
    subst e
    exact et_test (ev_op1 (ev_var (i := 8) (a := (srt xs).getD i ⟨[]⟩)) (ev_fl (ev_var (i := 2) (a := (⟨ys⟩ : FL Tx)))) o2_inLS)
  refine wp_no (b := false) rfl (et_test (ev_op1 (x := TOLD xs ys) (ev_var (i := 5)) (ev_lst (xs := TOLD xs ys) (ea_1 (ev_cb (ev_sortSet (ev_fl (ev_op1 (ev_var (i := 1) (a := (⟨xs⟩ : FL Tx))) (ev_var (i := 2) (a := (⟨ys⟩ : FL Tx))) (o2_catF ?_))) ?_) o1_tuple) (ea_1 (ev_cb (ev_var (i := 6)) o1_tuple) (ea_1 (ev_cb (ev_is (ev_lcD (xs := srt xs) (fun x => !inB ys x) (fun x => x) (srcX rfl (ltr rfl)) (by omega) (by decide) fun i x hx => ⟨?_, fun _ => by rw [← getD_is (d := (⟨[]⟩ : Tx)) hx]; exact ev_var (i := 8)⟩) (fmap_id _ _)) o1_tuple) ea_nil))) (by show 3 ≤ 100000; decide)) (o2_neSame (shaped_L fun t ht => ?_)))) ?_
  · show xs.length + ys.length ≤ _
    omega
  · show (xs ++ ys).length ≤ _
    rw [List.length_append]
    omega
  · have e := getD_is (d := (⟨[]⟩ : Tx)) hx
    subst e
    exact et_test (ev_op1 (ev_var (i := 8) (a := (srt xs).getD i ⟨[]⟩)) (ev_fl (ev_var (i := 2) (a := (⟨ys⟩ : FL Tx)))) o2_notInLS)
  · unfold TOLD at ht
    simp only [List.mem_cons, List.not_mem_nil, or_false] at ht
    rcases ht with rfl | rfl | rfl
    · exact lay_tup (xs := ⟨_⟩) (tok_srt h9 (rn_app hX hY))
    · exact lay_tup (xs := ⟨_⟩) fun x hx => tX x (List.mem_filter.mp hx).1
    · exact lay_tup (xs := ⟨_⟩) fun x hx => tX x (List.mem_filter.mp hx).1
  refine wp_no ?_ (et_or (et_test (ev_op1 (ev_eqL (vL rfl) (vM rfl)) (ev_op1 (ev_sortSet (ev_fl (ev_var (i := 1) (a := (⟨xs⟩ : FL Tx)))) (by omega)) (ev_sortSet (ev_fl (ev_var (i := 2) (a := (⟨ys⟩ : FL Tx)))) (by omega)) (o2_eqLS tX tY)) o2_neB)) fun _ => et_test (ev_op1 (ev_neL (vL rfl) (vM rfl)) (ev_op1 (ev_rowsL (vL rfl)) (ev_rowsL (vM rfl)) (o2_neTS tX tY)) o2_neB)) ?_
  · simp
  refine wp_no ?_ (et_or (et_test (ev_neL (ev_orL h9 ?_ (ev_andL h9 (by omega) (vL rfl) (vM rfl)) (ev_subL h9 (by omega) (vL rfl) (vM rfl))) (vL rfl))) fun _ => et_test (ev_neL (ev_subL h9 ?_ (ev_orL h9 (by omega) (vL rfl) (vM rfl)) (vM rfl)) (ev_subL h9 (by omega) (vL rfl) (vM rfl)))) ?_
  · have e1 : srt (xs.filter (inB ys) ++ xs.filter fun x => !inB ys x) = srt xs := srt_congr fun x => by
      rw [List.mem_append, List.mem_filter, List.mem_filter]
      cases inB ys x <;> simp
    have e2 : srt ((xs ++ ys).filter fun x => !inB ys x) = srt (xs.filter fun x => !inB ys x) := srt_congr fun x => by
      rw [List.mem_filter, List.mem_filter, List.mem_append]
      by_cases h : x ∈ ys
      · simp [inB, h]
      · simp [inB, h]
    rw [e1, e2, decide_eq_true rfl, decide_eq_true rfl]
    rfl
  · have h1 := List.length_filter_le (inB ys) xs
    have h2 := List.length_filter_le (fun x => !inB ys x) xs
    omega
  · rw [List.length_append]
    omega
  refine wp_asg (P := fun z : LotD ⊕ Unit => ∀ N, z = .inl N → LotW (n + 1) (xs.map fun x => ⟨x.s ++ [48]⟩) N) (ev_if (et_test (ev_op1 (ev_var (i := 0) (a := (n : Int))) ev_int (o2_B0 (g := fun i j => decide (i < j))))) (fun h => ?_) (fun h => ev_inrP ev_non fun a _ N hN => by cases hN)) (ltr rfl) fun z hz => ?_
  · have hn9 : n < 9 := by
      have := of_decide_eq_true h
      omega
    have hW : RowsN (n + 1) (xs.map fun x => (⟨x.s ++ [48]⟩ : Tx)) := fun x hx => by
      obtain ⟨y, hy, rfl⟩ := List.mem_map.mp hx
      refine ⟨by show (y.s ++ [48]).length = n + 1; rw [List.length_append, (hX y hy).1]; rfl, ?_⟩
      show (y.s ++ [48]).all isSign = true
      rw [List.all_append, (hX y hy).2]
      rfl
    have hWl : (xs.map fun x => (⟨x.s ++ [48]⟩ : Tx)).length ≤ 50000 := by
      rw [List.length_map]
      omega
    refine ev_inlP ((ev_lotNew (n := n + 1) (ea_1 (ev_is (ev_op1 (ev_var (i := 0) (a := (n : Int))) ev_int (o2_I0 (g := fun i j => i + j))) (by omega)) (ea_1 (ev_cb (ev_is (ev_lcD (xs := xs) (fun _ => true) (fun x => (⟨x.s ++ [48]⟩ : Tx)) (src_list (x0 := fun i => xs.getD i ⟨[]⟩) (ev_fl (ev_var (i := 1) (a := (⟨xs⟩ : FL Tx)))) (fun i hi => getD_of hi) (j := 8) (ltr rfl)) (by omega) (by decide) fun i x hx => ⟨et_yes, fun _ => ?_⟩) (fmap_true _ _)) o1_tuple) ea_nil)) (by omega) hW hWl).imp fun N h => h.well (by omega) hWl hW) fun a ha N hN => by cases hN; exact ha
    have e := getD_is (d := (⟨[]⟩ : Tx)) hx
    subst e
    exact ev_op1 (ev_var (i := 8) (a := xs.getD i ⟨[]⟩)) (ev_strc [48]) (o2_addS (by rw [(hX _ (List.mem_of_getElem? hx)).1]; show n + 1 ≤ _; omega))
  refine wp_ret hf (ev_is (ev_andV (a := true) (b := true) ?_ fun _ => ev_is (ev_andV (a := true) (b := true) (ev_neV (r := false) isIns_lot (ev_var (i := 3) (a := L)) (ev_cb (ev_fl (ev_var (i := 1) (a := (⟨xs⟩ : FL Tx)))) o1_tuple) ty_tup nf_tup Fe3) fun _ => ev_is (ev_andV (a := true) (b := true) (ev_is (ev_eqL (n := n) (S := []) (T := []) ((ev_lotEmpty CB_Lot.2 (ea_1 (ev_var (i := 0)) ea_nil) h9).imp fun N h => h.well h9 (by decide) fun x hx => by cases hx) ((ev_lotNew (ea_1 (ev_var (i := 0)) (ea_1 (ev_tupN (xs := ([] : List Tx)) ea_nil (by decide)) ea_nil)) h9 (fun x hx => by cases hx) (by decide)).imp fun N h => h.well h9 (by decide) fun x hx => by cases hx)) (decide_eq_true rfl)) fun _ => ev_is (ev_eqL (ev_subL h9 (by omega) (vL rfl) (vL rfl)) ((ev_lotEmpty CB_Lot.2 (ea_1 (ev_var (i := 0)) ea_nil) h9).imp fun N h => h.well h9 (by decide) fun x hx => by cases hx)) ?_) rfl) rfl) rfl)
  · match z, hz with
    | .inl N, hz =>
      have hN := hz N rfl
      refine ev_is (ev_neV (r := false) isIns_lot (ev_var (i := 3) (a := L)) (ev_unl (ev_var (i := 7) (a := (.inl N : LotD ⊕ Unit)))) (ty_lot CL) nf_self ?_) rfl
      have e : (decide (L.many = N.many) && decide (L.rows = N.rows)) = false := by
        rw [hL.i.m, hN.i.m, decide_eq_false (by omega)]
        rfl
      rw [← e]
      exact Fe1 hL.tok hN.tok
    | .inr (), _ => exact ev_neV (r := false) isIns_lot (ev_var (i := 3) (a := L)) (ev_unr (ev_var (i := 7) (a := (.inr () : LotD ⊕ Unit)))) ty_non nf_none Fe2
  · have e : srt (xs.filter fun x => !inB xs x) = srt [] := srt_congr fun x => by
      rw [List.mem_filter]
      by_cases h : x ∈ xs <;> simp [inB, h]
    rw [e]
    exact decide_eq_true rfl
end
end K02

set_option Elab.async false
set_option linter.all false
set_option maxRecDepth 100000
set_option maxHeartbeats 2000000
namespace K02
open PySem PySem.Spec PyProof.Rows L2 Z K00
section
variable {P : Program} {w : World} {K : PySem.W.Frag} {mg : Str → Option Value} {base : Heap}
/-- xs[:n], xs told by a predicate -/
theorem ev_cutFP {α : Type} [Rp α] {Γ : Own} {ρ : Z.Env} {te tb : TE} {n : Nat} {Q : List α → Prop} (h : Ev K Γ te ρ Q) (hb : Ev K Γ tb ρ (Is (n : Int))) : Ev K Γ (tSl (rSlL K) te tNoPart (tPart tb)) ρ (fun ys : FL α => ∃ xs, Q xs ∧ ys = ⟨xs.take n⟩) := fun Δ σ H R s hh e k =>
  h Δ σ H _ s hh e fun v H1 a pa e1 r1 => hb Δ σ H1 _ s e1.2 (e.mono e1.1) fun w H2 b pb e2 r2 => by
    have eb : b = (n : Int) := pb
    subst eb
    obtain ⟨p, vs, rfl, st, sq, q⟩ := Rp.mono e2.1 r1
    refine ⟨(n : Int), r2, p, vs, rfl, sq, fun l hl => ?_⟩
    refine k _ _ ⟨a.take n⟩ ⟨a, pa, rfl⟩ ((e1.trans e2).trans (Ext.new e2.2 hl _)) ?_
    have e3 : cutV vs none (some (n : Int)) = vs.take n := by
      unfold cutV
      rw [HT.sIx_none, HT.sIx_nat]
      simp [List.take_eq_take_iff]
    rw [e3]
    exact new_FL e2.2 hl (all2_take q)
/-- b.m(), b told by a predicate -/
theorem ev_methP {β γ : Type} [Rp β] [Rp γ] {Γ : Own} {ρ : Z.Env} {te : TE} {C : Addr} {E : XK} {m : Str} {F : Own → List Cell → (γ → Prop) → Prop} {Q : β → Prop} {Pb : γ → Prop} (hI : IsInsM K C m β) (h : Ev K Γ te ρ Q) (hF : ∀ b, Q b → ∃ R, F Γ [⟨b⟩] R ∧ ∀ c, R c → Pb c) : Ev K Γ (tMeth C m (spD K F) [] E te tNil) ρ Pb := fun Δ σ H Q' s hh e k =>
  h Δ σ H _ s hh e fun v H1 b pb e1 r1 => by
    obtain ⟨p, dx, fs, rfl, hp, hm⟩ := hI Δ H1 v _ r1
    obtain ⟨R, hR, hc⟩ := hF b pb
    exact ⟨p, dx, fs, rfl, hp, hm, Γ, Δ, [⟨b⟩], R, hR, s, e1.2, ⟨r1, trivial⟩, fun z H' c pc e3 r3 => k z H' c (hc c pc) (e1.trans e3) r3⟩
/-- len(b), b told by a predicate -/
theorem ev_lenP {β : Type} [Rp β] {Γ : Own} {ρ : Z.Env} {te : TE} {C : Addr} {E : XK} {F : Own → List Cell → (Int → Prop) → Prop} {Q : β → Prop} {n : Nat} (hI : IsIns K C β) (hn : n ≤ 100000000) (hb : Ev K Γ te ρ Q) (hF : ∀ b, Q b → F Γ [⟨b⟩] (Is (n : Int))) : Ev K Γ (tCB (rLenI C (spD K F) E) (tCons te tNil)) ρ (Is (n : Int)) := fun Δ σ H Q' s hh e k =>
  hb Δ σ H _ s hh e fun u H1 b pb e1 r1 => by
    obtain ⟨q, dy, gs, rfl, hq⟩ := hI Δ H1 u _ r1
    exact ⟨q, dy, gs, rfl, hq, Γ, Δ, [⟨b⟩], Is (n : Int), hF b pb, s, e1.2, ⟨r1, trivial⟩, fun z H' c pc e3 r3 => ⟨n, hn, by rw [show z = .int c from r3, show c = (n : Int) from pc], k _ H' (n : Int) rfl (e1.trans e3) rfl⟩⟩
def F__law_right : Pm Bool := fun Γ cs R => ∃ p : Addr, cs = [⟨(⟨p⟩ : Z.Loc)⟩] ∧ (p, DiceI) ∈ Γ ∧ R = Is true
theorem rowsN_of {n : Nat} {xs : List Tx} (h : ∀ x ∈ xs, DR n x) : RowsN n xs := fun x hx => ⟨(h x hx).2, (h x hx).1.all⟩
theorem sc__law_right : FnScope ["_law_dice_here", "_law_size", "_law_one", "_law_other"] ["_law_dice_here"] (defScope s__law_right) := ⟨rfl, rfl, rfl, by decide +kernel, rfl, by decide +kernel, by decide +kernel⟩
theorem ok__law_right (T : Txt K mg) {f : Addr} {fd : FuncData} (D : Df K mg "_law_right" s__law_right ["_law_dice_here"] f fd) {f__law_roll : Addr} {fd__law_roll : FuncData} (D__law_roll : Df K mg "_law_roll" s__law_roll ["_law_dice_here", "_law_total"] f__law_roll fd__law_roll) (G__law_roll : FnOk P w K mg base CX0 2 f__law_roll fd__law_roll ["_law_dice_here", "_law_total"] (spD K F__law_roll)) {f__law_drawn_rows : Addr} {fd__law_drawn_rows : FuncData} (D__law_drawn_rows : Df K mg "_law_drawn_rows" s__law_drawn_rows ["_law_dice_here", "_law_size"] f__law_drawn_rows fd__law_drawn_rows) (G__law_drawn_rows : FnOk P w K mg base CX0 5 f__law_drawn_rows fd__law_drawn_rows ["_law_dice_here", "_law_size"] (spD K F__law_drawn_rows)) {f__law_are_two_right : Addr} {fd__law_are_two_right : FuncData} (D__law_are_two_right : Df K mg "_law_are_two_right" s__law_are_two_right ["_law_size", "_law_one", "_law_other"] f__law_are_two_right fd__law_are_two_right) (G__law_are_two_right : FnOk P w K mg base CX0 14 f__law_are_two_right fd__law_are_two_right ["_law_size", "_law_one", "_law_other"] (spD K F__law_are_two_right)) {f__law_mixed : Addr} {fd__law_mixed : FuncData} (D__law_mixed : Df K mg "_law_mixed" s__law_mixed ["_law_dice_here", "_law_items"] f__law_mixed fd__law_mixed) (G__law_mixed : FnOk P w K mg base CX0 3 f__law_mixed fd__law_mixed ["_law_dice_here", "_law_items"] (spD K F__law_mixed)) {f__law_is_lot_right : Addr} {fd__law_is_lot_right : FuncData} (D__law_is_lot_right : Df K mg "_law_is_lot_right" s__law_is_lot_right ["_law_dice_here", "_law_size", "_law_rows"] f__law_is_lot_right fd__law_is_lot_right) (G__law_is_lot_right : FnOk P w K mg base CX0 14 f__law_is_lot_right fd__law_is_lot_right ["_law_dice_here", "_law_size", "_law_rows"] (spD K F__law_is_lot_right)) : FnOk P w K mg base CX0 15 f fd ["_law_dice_here"] (spD K F__law_right) := by
  obtain ⟨_, hI_SHIFT⟩ := T.i_SHIFT
  obtain ⟨_, hI_LOW⟩ := T.i_LOW
  obtain ⟨_, hI_MAX_THINGS⟩ := T.i_MAX_THINGS
  refine def_ok D.F sc__law_right (fun Γ cs R g => ?len) (fun cdv A outer s H E hr Γ cs R g => ?_)
  case len => obtain ⟨p, rfl, _⟩ := g; rfl
  obtain ⟨p, rfl, hp, rfl⟩ := g
  refine ⟨_, (pss_cons (ps_set (i := 1) sc__law_right.nd rfl (by first | exact .inl rfl | exact .inr rfl) (pe_call G__law_roll (hr.mono (by decide)) (by rfl) D__law_roll.g D__law_roll.kp D__law_roll.b .nil pass0 (pa_cons (pv 0) (pa_cons pe_int pa_nil))))
      (pss_cons (ps_set (i := 2) sc__law_right.nd rfl (by first | exact .inl rfl | exact .inr rfl) (pe_call G__law_drawn_rows (hr.mono (by decide)) (by rfl) D__law_drawn_rows.g D__law_drawn_rows.kp D__law_drawn_rows.b .nil pass0 (pa_cons (pv 0) (pa_cons (pv 1) pa_nil))))
      (pss_cons (ps_set (i := 3) sc__law_right.nd rfl (by first | exact .inl rfl | exact .inr rfl) (pe_op op_cat (pe_slice sl_list (pe_call G__law_mixed (hr.mono (by decide)) (by rfl) D__law_mixed.g D__law_mixed.kp D__law_mixed.b .nil pass0 (pa_cons (pv 0) (pa_cons (pv 2) pa_nil))) po_none (po_some pe_int)) (pe_call G__law_drawn_rows (hr.mono (by decide)) (by rfl) D__law_drawn_rows.g D__law_drawn_rows.kp D__law_drawn_rows.b .nil pass0 (pa_cons (pv 0) (pa_cons (pv 1) pa_nil)))))
      (pss_cons (ps_if (PW.pt (pw_or (pt_not (pt_val (pe_call G__law_is_lot_right (hr.mono (by decide)) (by rfl) D__law_is_lot_right.g D__law_is_lot_right.kp D__law_is_lot_right.b .nil pass0 (pa_cons (pv 0) (pa_cons (pv 1) (pa_cons (pv 2) pa_nil)))))) (pw_or1 (pt_not (pt_val (pe_call G__law_is_lot_right (hr.mono (by decide)) (by rfl) D__law_is_lot_right.g D__law_is_lot_right.kp D__law_is_lot_right.b .nil pass0 (pa_cons (pv 0) (pa_cons (pv 1) (pa_cons (pv 3) pa_nil))))))))) (pss_one (ps_ret pe_bl)) pss_nil)
      (pss_one (ps_ret (pe_and (pe_call G__law_are_two_right (hr.mono (by decide)) (by rfl) D__law_are_two_right.g D__law_are_two_right.kp D__law_are_two_right.b .nil pass0 (pa_cons (pv 1) (pa_cons (pv 2) (pa_cons (pv 3) pa_nil)))) (pe_one (pe_call G__law_are_two_right (hr.mono (by decide)) (by rfl) D__law_are_two_right.g D__law_are_two_right.kp D__law_are_two_right.b .nil pass0 (pa_cons (pv 1) (pa_cons (pv 2) (pa_cons (pv 2) pa_nil)))))))))))), fun Δ0 D' hf hn => ?_⟩
  refine wp_asg (ev_call1 (ea_1 (ev_var (i := 0)) (ea_1 ev_int ea_nil)) ⟨p, 10, rfl, hp, by decide, by decide, rfl⟩) (ltr rfl) fun r hr => ?_
  obtain ⟨n, rfl⟩ : ∃ n : Nat, r = (n : Int) := ⟨r.toNat, (Int.toNat_of_nonneg hr.1).symm⟩
  have h9 : n ≤ 9 := by have := hr.2; omega
  refine wp_asg (ev_call1 (ea_1 (ev_var (i := 0)) (ea_1 (ev_var (i := 1)) ea_nil)) ⟨p, n, rfl, hp, h9, rfl⟩) (ltr rfl) fun one h1 => ?_
  obtain ⟨xs⟩ := one
  have h8 : xs.length ≤ 8 := h1.1
  have hX : RowsN n xs := rowsN_of h1.2
  refine wp_asg (P := fun zs : FL Tx => zs.l.length ≤ 11 ∧ RowsN n zs.l) (ev_opP (r := rCat) (Pa := fun ys : FL Tx => ∃ us : List Tx, us.Perm xs ∧ ys = ⟨us.take 3⟩) (Pb := fun ys : FL Tx => ys.l.length ≤ 8 ∧ ∀ x ∈ ys.l, DR n x) (ev_cutFP (n := 3) (ev_call1 (ea_1 (ev_var (i := 0)) (ea_1 (ev_fl (ev_var (i := 2) (a := (⟨xs⟩ : FL Tx)))) ea_nil)) ⟨p, xs, rfl, hp, by omega, rfl⟩) (ev_int (i := ((3 : Nat) : Int)))) (ev_call1 (ea_1 (ev_var (i := 0)) (ea_1 (ev_var (i := 1)) ea_nil)) ⟨p, n, rfl, hp, h9, rfl⟩) fun a b hA hB => ⟨⟨a.l ++ b.l⟩, o2_catF ?_, ?_, ?_⟩) (ltr rfl) fun other ho => ?_
  · obtain ⟨us, hu, rfl⟩ := hA
    have hb := hB.1
    show (us.take 3).length + b.l.length ≤ _
    rw [List.length_take]
    omega
  · obtain ⟨us, hu, rfl⟩ := hA
    have hb := hB.1
    show (us.take 3 ++ b.l).length ≤ _
    rw [List.length_append, List.length_take]
    omega
  · obtain ⟨us, hu, rfl⟩ := hA
    exact rn_app (fun x hx => hX x (hu.mem_iff.mp (List.mem_of_mem_take hx))) (rowsN_of hB.2)
  obtain ⟨ys⟩ := other
  have hY : RowsN n ys := ho.2
  have hy : ys.length ≤ 11 := ho.1
  refine wp_no (b := false) rfl (et_or (a := false) (b := false) (et_not (a := true) (et_test (ev_call1 (ea_1 (ev_var (i := 0)) (ea_1 (ev_var (i := 1)) (ea_1 (ev_var (i := 2) (a := (⟨xs⟩ : FL Tx))) ea_nil))) ⟨p, n, xs, rfl, hp, h9, hX, by omega, rfl⟩))) fun _ => et_not (a := true) (et_test (ev_call1 (ea_1 (ev_var (i := 0)) (ea_1 (ev_var (i := 1)) (ea_1 (ev_var (i := 3) (a := (⟨ys⟩ : FL Tx))) ea_nil))) ⟨p, n, ys, rfl, hp, h9, hY, hy, rfl⟩))) ?_
  exact wp_ret hf (ev_is (ev_andV (a := true) (b := true) (ev_call1 (ea_1 (ev_var (i := 1)) (ea_1 (ev_var (i := 2) (a := (⟨xs⟩ : FL Tx))) (ea_1 (ev_var (i := 3) (a := (⟨ys⟩ : FL Tx))) ea_nil))) ⟨n, xs, ys, rfl, h9, hX, hY, by omega, hy, rfl⟩) fun _ => ev_call1 (ea_1 (ev_var (i := 1)) (ea_1 (ev_var (i := 2) (a := (⟨xs⟩ : FL Tx))) (ea_1 (ev_var (i := 2) (a := (⟨xs⟩ : FL Tx))) ea_nil))) ⟨n, xs, xs, rfl, h9, hX, hX, by omega, by omega, rfl⟩) rfl)
def S0 : List Tx := [⟨[43, 45, 48]⟩, ⟨[48, 43, 45]⟩, ⟨[43, 45, 48]⟩, ⟨[43, 48, 45]⟩]
def D0 : List Tx := [⟨[43, 45, 48]⟩, ⟨[43, 48, 45]⟩, ⟨[48, 43, 45]⟩]
def S1 : List Tx := [⟨[43, 43]⟩, ⟨[43, 48]⟩]
def D1 : List Tx := [⟨[43, 48]⟩]
def S2 : List Tx := [⟨[]⟩]
theorem srt_by {l S : List Tx} (h : l.Nodup ∧ l.Pairwise (fun x y => ¬ y.s < x.s) ∧ (∀ x ∈ l, x ∈ S) ∧ ∀ x ∈ S, x ∈ l) : srt S = l := (srt_of h.1 h.2.1 fun x => ⟨h.2.2.1 x, h.2.2.2 x⟩).symm
theorem srt0 : srt S0 = D0 := srt_by (by unfold S0 D0; decide +kernel)
theorem srt1 : srt S1 = S1 := srt_by (by unfold S1; decide +kernel)
theorem srt1' : srt D1 = D1 := srt_by (by unfold D1; decide +kernel)
theorem srt2 : srt S2 = S2 := srt_by (by unfold S2; decide +kernel)
abbrev U4 := Tx ⊕ (Tup Tx ⊕ (Bool ⊕ Int))
def txt0 : Tx := lotText 3 3
def WANT : List U4 := [.inl txt0, .inr (.inl ⟨D0⟩), .inr (.inr (.inl false)), .inr (.inr (.inr 6)), .inr (.inr (.inl true)), .inr (.inl ⟨D1⟩)]
theorem rn0 : RowsN 3 S0 := by unfold RowsN S0; decide +kernel
theorem rn1 : RowsN 2 S1 := by unfold RowsN S1; decide +kernel
theorem rn2 : RowsN 0 S2 := by unfold RowsN S2; decide +kernel
theorem least0 : D0.filter (lst D0) = D0 := by decide +kernel
theorem least1 : S1.filter (lst S1) = D1 := by decide +kernel
theorem len0 : (onceT [] (D0 ++ D0.map tn)).length = 6 := by decide +kernel
theorem even0 : (D0.all fun x => decide (tn x ∈ S0)) = false := by decide +kernel
theorem even2 : (S2.all fun x => decide (tn x ∈ S2)) = true := by decide +kernel
theorem even_of {n : Nat} {S D : List Tx} {L : LotD} (h : LotW n S L) (e : srt S = D) : (L.rows.all fun x => decide (tn x ∈ L.known)) = D.all fun x => decide (tn x ∈ S) := by
  rw [h.i.r, e]
  congr 1
  funext x
  exact decide_eq_decide.mpr (h.i.k _)
theorem nd_of {n : Nat} {S : List Tx} {L : LotD} (h : LotW n S L) : L.rows.Nodup := by rw [h.i.r]; exact srt_nd S
theorem shaped4 : SeqAt.shaped (Dt.d WANT) = true := by
  refine shaped_L fun x hx => ?_
  unfold WANT at hx
  simp only [List.mem_cons, List.not_mem_nil, or_false] at hx
  rcases hx with rfl | rfl | rfl | rfl | rfl | rfl
  · exact lay_tx (text_ok ⟨3, by decide⟩ ⟨3, by decide⟩)
  · exact lay_tup (xs := ⟨D0⟩) (by rw [← srt0]; exact tok_srt (by decide) rn0)
  · exact lay_bl
  · exact lay_int
  · exact lay_bl
  · exact lay_tup (xs := ⟨D1⟩) (by rw [← srt1']; exact tok_srt (n := 2) (by decide) (by unfold RowsN D1; decide +kernel))
def F_law : Pm Bool := fun _ cs R => ∃ (xs : List Int), cs = [⟨xs⟩] ∧ R = Is true
abbrev IvL (Γ : Own) (xs : List Int) : Nat → Own → Z.Env → Prop := fun i Γ' ρ' => Γ' = Γ ∧ ∃ a, ρ' = [some ⟨xs⟩, a, none, none]
theorem sc_law : FnScope ["_law_script", "_law_spot", "_law_lot", "_law_told"] ["_law_script"] (defScope s_law) := ⟨rfl, rfl, rfl, by decide +kernel, rfl, by decide +kernel, by decide +kernel⟩
theorem ok_law (T : Txt K mg) (CL : LotT K) (CG : mg "Lot" = some (.ref (He.ga K "Lot"))) {f : Addr} {fd : FuncData} (D : Df K mg "law" s_law ["_law_script"] f fd) {f_Lot___str__ : Addr} {fd_Lot___str__ : FuncData} (CM_Lot___str__ : Meth K (He.ga K "Lot") "__str__" f_Lot___str__ ∧ DfM K [] "__str__" "Lot.__str__" s_Lot___str__ ["self"] f_Lot___str__ fd_Lot___str__) (G_Lot___str__ : FnOk P w K mg base CX0 2 f_Lot___str__ fd_Lot___str__ ["self"] (spD K F_Lot___str__)) {f_Lot___len__ : Addr} {fd_Lot___len__ : FuncData} (CM_Lot___len__ : Meth K (He.ga K "Lot") "__len__" f_Lot___len__ ∧ DfM K [] "__len__" "Lot.__len__" s_Lot___len__ ["self"] f_Lot___len__ fd_Lot___len__) (G_Lot___len__ : FnOk P w K mg base CX0 2 f_Lot___len__ fd_Lot___len__ ["self"] (spD K F_Lot___len__)) {f_Lot_with_turned : Addr} {fd_Lot_with_turned : FuncData} (CM_Lot_with_turned : Meth K (He.ga K "Lot") "with_turned" f_Lot_with_turned ∧ DfM K [] "with_turned" "Lot.with_turned" s_Lot_with_turned ["self"] f_Lot_with_turned fd_Lot_with_turned) (G_Lot_with_turned : FnOk P w K mg base CX0 7 f_Lot_with_turned fd_Lot_with_turned ["self"] (spD K F_Lot_with_turned)) {f_Lot_least : Addr} {fd_Lot_least : FuncData} (CM_Lot_least : Meth K (He.ga K "Lot") "least" f_Lot_least ∧ DfM K [] "least" "Lot.least" s_Lot_least ["self"] f_Lot_least fd_Lot_least) (G_Lot_least : FnOk P w K mg base CX0 7 f_Lot_least fd_Lot_least ["self"] (spD K F_Lot_least)) {f_Lot___eq__ : Addr} {fd_Lot___eq__ : FuncData} (CM_Lot___eq__ : Meth K (He.ga K "Lot") "__eq__" f_Lot___eq__ ∧ DfM K [] "__eq__" "Lot.__eq__" s_Lot___eq__ ["self", "other"] f_Lot___eq__ fd_Lot___eq__) (G_Lot___eq__ : FnOk P w K mg base CX0 2 f_Lot___eq__ fd_Lot___eq__ ["self", "other"] (spD K F_Lot___eq__)) {f_Lot___init__ : Addr} {fd_Lot___init__ : FuncData} {dv_Lot___init__ : List V} (CP_Lot : Mk K (He.ga K "Lot") f_Lot___init__ ∧ DfM K dv_Lot___init__ "__init__" "Lot.__init__" s_Lot___init__ ["self", "many", "rows"] f_Lot___init__ fd_Lot___init__) (G_Lot___init__ : FnOk P w K mg base CX0 5 f_Lot___init__ fd_Lot___init__ ["self", "many", "rows"] (spI K (He.ga K "Lot") F_Lot___init__)) {p_Lot_rows f_Lot_rows : Addr} {fd_Lot_rows : FuncData} (CP_Lot_rows : PropOf K (He.ga K "Lot") "rows" p_Lot_rows f_Lot_rows ∧ DfM K [] "rows" "Lot.rows" s_Lot_rows ["self"] f_Lot_rows fd_Lot_rows) (G_Lot_rows : FnOk P w K mg base CX0 2 f_Lot_rows fd_Lot_rows ["self"] (spD K F_Lot_rows)) {p_Lot_is_even f_Lot_is_even : Addr} {fd_Lot_is_even : FuncData} (CP_Lot_is_even : PropOf K (He.ga K "Lot") "is_even" p_Lot_is_even f_Lot_is_even ∧ DfM K [] "is_even" "Lot.is_even" s_Lot_is_even ["self"] f_Lot_is_even fd_Lot_is_even) (G_Lot_is_even : FnOk P w K mg base CX0 7 f_Lot_is_even fd_Lot_is_even ["self"] (spD K F_Lot_is_even)) {f__law_right : Addr} {fd__law_right : FuncData} (D__law_right : Df K mg "_law_right" s__law_right ["_law_dice_here"] f__law_right fd__law_right) (G__law_right : FnOk P w K mg base CX0 15 f__law_right fd__law_right ["_law_dice_here"] (spD K F__law_right)) {f__law_dice : Addr} {fd__law_dice : FuncData} (D__law_dice : Df K mg "_law_dice" s__law_dice ["_law_script", "_law_spot"] f__law_dice fd__law_dice) (G__law_dice : FnOk P w K mg base CX0 2 f__law_dice fd__law_dice ["_law_script", "_law_spot"] (spF K F__law_dice DiceI)) : FnOk P w K mg base CX0 16 f fd ["_law_script"] (spD K F_law) := by
  obtain ⟨_, hI_SHIFT⟩ := T.i_SHIFT
  obtain ⟨_, hI_LOW⟩ := T.i_LOW
  obtain ⟨_, hI_MAX_THINGS⟩ := T.i_MAX_THINGS
  refine def_ok D.F sc_law (fun Γ cs R g => ?len) (fun cdv A outer s H E hr Γ cs R g => ?_)
  case len => obtain ⟨xs, rfl, _⟩ := g; rfl
  obtain ⟨xs, rfl, rfl⟩ := g
  refine ⟨_, (pss_cons (ps_for PassesOwn.never rfl (pi_range1 (by rfl) T.z_range (pa_cons (pe_callB (call_max2 rfl) (by rfl) T.z_max (by decide +kernel) (pa_cons pe_int (pa_cons (pe_callB (call_min2 rfl) (by rfl) T.z_min (by decide +kernel) (pa_cons pe_int (pa_cons (pe_callB call_lenK (by rfl) T.z_len (by decide +kernel) (pa_cons (pv 0) pa_nil)) pa_nil))) pa_nil))) pa_nil)) (pg_name (i := 1) sc_law.nd rfl (by first | exact .inl rfl | exact .inr rfl))
        (pss_one (ps_if (pt_not (pt_val (pe_call G__law_right (hr.mono (by decide)) (by rfl) D__law_right.g D__law_right.kp D__law_right.b .nil pass0 (pa_cons (pe_call G__law_dice (hr.mono (by decide)) (by rfl) D__law_dice.g D__law_dice.kp D__law_dice.b .nil pass0 (pa_cons (pv 0) (pa_cons (pv 1) pa_nil))) pa_nil)))) (pss_one (ps_ret pe_bl)) pss_nil)))
      (pss_cons (ps_set (i := 2) sc_law.nd rfl (by first | exact .inl rfl | exact .inr rfl) (pe_make CP_Lot.1 G_Lot___init__ (hr.mono (by decide)) (by rfl) CG CP_Lot.2.b .nil pass0 (pa_cons pe_int (pa_cons (pe_tup (pa_cons pe_str (pa_cons pe_str (pa_cons pe_str (pa_cons pe_str pa_nil))))) pa_nil))))
      (pss_cons (ps_set (i := 3) sc_law.nd rfl (by first | exact .inl rfl | exact .inr rfl) (pe_lst (pa_cons (pe_callTy (call_strI (by first | exact CM_Lot___str__.1.at_ | (rw [show dunder _ = ("__str__" : Str) from by decide +kernel]; exact CM_Lot___str__.1.at_)) CM_Lot___str__.1.fn G_Lot___str__ (hr.mono (by decide)) CM_Lot___str__.2.b pass0) (by rfl) T.z_str (by decide +kernel) (pa_cons (pv 2) pa_nil)) (pa_cons (pe_prop (pv 2) CL.cl CP_Lot_rows.1 G_Lot_rows (hr.mono (by decide)) CP_Lot_rows.2.b .nil pass0 rfl) (pa_cons (pe_prop (pv 2) CL.cl CP_Lot_is_even.1 G_Lot_is_even (hr.mono (by decide)) CP_Lot_is_even.2.b .nil pass0 rfl) (pa_cons (pe_callB (call_lenI (by first | exact CM_Lot___len__.1.at_ | (rw [show dunder _ = ("__len__" : Str) from by decide +kernel]; exact CM_Lot___len__.1.at_)) CM_Lot___len__.1.fn G_Lot___len__ (hr.mono (by decide)) CM_Lot___len__.2.b pass0) (by rfl) T.z_len (by decide +kernel) (pa_cons (pe_meth0 (pv 2) CL.cl CM_Lot_with_turned.1 G_Lot_with_turned (hr.mono (by decide)) CM_Lot_with_turned.2.b .nil pass0) pa_nil)) (pa_cons (pe_cmpR (op_eqI (by first | exact CM_Lot___eq__.1.at_ | (rw [show dunder _ = ("__eq__" : Str) from by decide +kernel]; exact CM_Lot___eq__.1.at_)) CM_Lot___eq__.1.fn G_Lot___eq__ (hr.mono (by decide)) CM_Lot___eq__.2.b pass0) (pe_meth0 (pv 2) CL.cl CM_Lot_least.1 G_Lot_least (hr.mono (by decide)) CM_Lot_least.2.b .nil pass0) (pv 2) (nomark _)) (pa_cons (pe_prop (pe_meth0 (pe_make CP_Lot.1 G_Lot___init__ (hr.mono (by decide)) (by rfl) CG CP_Lot.2.b .nil pass0 (pa_cons pe_int (pa_cons (pe_tup (pa_cons pe_str (pa_cons pe_str pa_nil))) pa_nil))) CL.cl CM_Lot_least.1 G_Lot_least (hr.mono (by decide)) CM_Lot_least.2.b .nil pass0) CL.cl CP_Lot_rows.1 G_Lot_rows (hr.mono (by decide)) CP_Lot_rows.2.b .nil pass0 rfl) pa_nil))))))))
      (pss_one (ps_ret (pe_and (pe_cmpR (op_eqK hr.units) (pv 3) (pe_lst (pa_cons pe_str (pa_cons (pe_tup (pa_cons pe_str (pa_cons pe_str (pa_cons pe_str pa_nil)))) (pa_cons pe_bl (pa_cons pe_int (pa_cons pe_bl (pa_cons (pe_tup (pa_cons pe_str pa_nil)) pa_nil))))))) (nomark _)) (pe_one (pe_prop (pe_make CP_Lot.1 G_Lot___init__ (hr.mono (by decide)) (by rfl) CG CP_Lot.2.b .nil pass0 (pa_cons pe_int (pa_cons (pe_tup (pa_cons pe_str pa_nil)) pa_nil))) CL.cl CP_Lot_is_even.1 G_Lot_is_even (hr.mono (by decide)) CP_Lot_is_even.2.b .nil pass0 rfl)))))))), fun Δ0 D' hf hn => ?_⟩
  obtain ⟨n, hn5, en⟩ : ∃ n : Nat, n ≤ 5 ∧ (if (if (xs.length : Int) < 5 then (xs.length : Int) else 5) > 1 then (if (xs.length : Int) < 5 then (xs.length : Int) else 5) else 1) = (n : Int) := by
    refine ⟨(if (if (xs.length : Int) < 5 then (xs.length : Int) else 5) > 1 then (if (xs.length : Int) < 5 then (xs.length : Int) else 5) else 1).toNat, ?_, ?_⟩
    · split <;> (try split) <;> omega
    · rw [Int.toNat_of_nonneg]
      split <;> (try split) <;> omega
  refine wp_for (IvL Γ xs) (src_rng1 (n := n) (ea_1 (ev_is (ev_max2 ev_int (ev_min2 ev_int (ev_cb (ev_var (i := 0) (a := xs)) o1_lenL))) en) ea_nil) (by omega) (ltr rfl)) ⟨rfl, none, rfl⟩ (fun i Γ' ρ' h => by obtain ⟨_, a, rfl⟩ := h; rfl) ?_ ?_
  · rintro i Γ' ρ' F' hi ⟨rfl, a, rfl⟩
    exact wp_noL (b := false) rfl (et_not (a := true) (et_B (ev_callF (ea_1 (ev_var (i := 0) (a := xs)) (ea_1 (ev_var (i := 1)) ea_nil)) ⟨xs, i, rfl⟩ fun p => ⟨p, rfl, List.mem_cons_self, rfl⟩))) (wp_turn (Iv := IvL Γ' xs) ⟨rfl, some ⟨(i : Int)⟩, rfl⟩ rfl)
  · rintro Γ' ρ' F' ⟨rfl, a, rfl⟩
    refine wp_asg (P := LotW 3 S0) ((ev_lotNew (ea_1 (ev_int (i := ((3 : Nat) : Int))) (ea_1 (ev_tupN (xs := S0) (ea_1 (ev_strc [43, 45, 48]) (ea_1 (ev_strc [48, 43, 45]) (ea_1 (ev_strc [43, 45, 48]) (ea_1 (ev_strc [43, 48, 45]) ea_nil)))) (by decide)) ea_nil)) (by decide) rn0 (by decide)).imp fun L h => h.well (by decide) (by decide) rn0) (ltr rfl) fun L hL => ?_
    have hr : L.rows = D0 := by rw [hL.i.r, srt0]
    have mk1 : ∀ {Γ : Own} {ρ : Z.Env} {E : XK}, Ev K Γ (tMake (He.ga K "Lot") (spI K (He.ga K "Lot") F_Lot___init__) [] E (tCons (tC (.int 2)) (tCons (tTup (tCons (tC (.str "++")) (tCons (tC (.str "+0")) tNil))) tNil))) ρ (LotW 2 S1) := fun {Γ ρ E} => (ev_lotNew (ea_1 (ev_int (i := ((2 : Nat) : Int))) (ea_1 (ev_tupN (xs := S1) (ea_1 (ev_strc [43, 43]) (ea_1 (ev_strc [43, 48]) ea_nil)) (by decide)) ea_nil)) (by decide) rn1 (by decide)).imp fun L h => h.well (by decide) (by decide) rn1
    refine wp_asg1 (a := WANT) (ev_lst (xs := WANT) (ea_1 (ev_inl (ev_strI (Pb := Is L) (Pc := Is txt0) isIns_lot (ev_var (i := 2)) fun b hb => ⟨Is (lotText L.rows.length L.many), ⟨L, by rw [show b = L from hb], hL.o.m9, by rw [hr]; decide, rfl⟩, fun c hc => by show c = _; rw [show c = _ from hc, hr, hL.i.m]; rfl⟩)) (ea_1 (ev_inr (ev_inl (ev_is (ev_prop isIns_lot (ev_var (i := 2) (a := L)) ⟨L, rfl, rfl⟩) (by rw [hr])))) (ea_1 (ev_inr (ev_inr (ev_inl (ev_is (ev_prop isIns_lot (ev_var (i := 2) (a := L)) ⟨L, rfl, hL.o, rfl⟩) (by rw [even_of hL srt0, even0]))))) (ea_1 (ev_inr (ev_inr (ev_inr (ev_lenP (n := 6) (Q := LotIs 3 (D0 ++ D0.map tn)) isIns_lot (by decide) ((ev_meth (isInsM_lot (by decide +kernel) (by decide +kernel) (by decide +kernel)) (ev_var (i := 2) (a := L)) ea_nil ⟨L, rfl, hL.o, by rw [hr]; decide, rfl⟩).imp fun M hM => by have h := LotOf.is hM; rw [hr, hL.i.m] at h; exact h) fun b hb => ⟨b, rfl, ?_⟩)))) (ea_1 (ev_inr (ev_inr (ev_inl (ev_binP (Pa := LotIs 3 D0) (Pb := Is L) isIns_lot ((ev_meth (isInsM_lot (by decide +kernel) (by decide +kernel) (by decide +kernel)) (ev_var (i := 2) (a := L)) ea_nil ⟨L, rfl, hL.o, nd_of hL, rfl⟩).imp fun M hM => by have h := LotOf.is hM; rw [hr, hL.i.m, least0] at h; exact h) (ev_var (i := 2)) fun a b hA hB => ⟨_, Fe1 (by rw [hA.r, ← srt0, srt_self]; exact tok_srt (by decide) rn0) (by rw [show b = L from hB]; exact hL.tok), fun c hc => ?_⟩)))) (ea_1 (ev_inr (ev_inl (ev_propP (Q := LotIs 2 D1) isIns_lot (ev_methP (Q := LotW 2 S1) (isInsM_lot (by decide +kernel) (by decide +kernel) (by decide +kernel)) mk1 fun b hb => ⟨_, ⟨b, rfl, hb.o, nd_of hb, rfl⟩, fun M hM => by have h := LotOf.is hM; rw [hb.i.r, hb.i.m, srt1, least1] at h; exact h⟩) fun b hb => ⟨_, ⟨b, rfl, rfl⟩, fun c hc => by show c = _; rw [show c = _ from hc, hb.r, srt1']⟩))) ea_nil)))))) (by decide)) (ltr rfl) ?_
    · rw [hb.r, (srt_perm _).length_eq, len0]
    · show c = true
      rw [show c = _ from hc, show b = L from hB, eq_lots hA hL.i, ← srt0]
      exact decide_eq_true srt_self
    refine wp_ret hf (ev_is (ev_andV (a := true) (b := true) (ev_op1 (x := WANT) (ev_var (i := 3)) (ev_lst (xs := WANT) (ea_1 (ev_inl (ev_is ev_str (by decide +kernel))) (ea_1 (ev_inr (ev_inl (ev_tupN (xs := D0) (ea_1 (ev_strc [43, 45, 48]) (ea_1 (ev_strc [43, 48, 45]) (ea_1 (ev_strc [48, 43, 45]) ea_nil))) (by decide)))) (ea_1 (ev_inr (ev_inr (ev_inl ev_bl))) (ea_1 (ev_inr (ev_inr (ev_inr ev_int))) (ea_1 (ev_inr (ev_inr (ev_inl ev_bl))) (ea_1 (ev_inr (ev_inl (ev_tupN (xs := D1) (ea_1 (ev_strc [43, 48]) ea_nil) (by decide)))) ea_nil)))))) (by decide)) (o2_eqSame shaped4)) fun _ => ev_propP (Q := LotW 0 S2) isIns_lot ((ev_lotNew (ea_1 (ev_int (i := ((0 : Nat) : Int))) (ea_1 (ev_tupN (xs := S2) (ea_1 (ev_strc []) ea_nil) (by decide)) ea_nil)) (by decide) rn2 (by decide)).imp fun L h => h.well (by decide) (by decide) rn2) fun b hb => ⟨_, ⟨b, rfl, hb.o, rfl⟩, fun c hc => ?_⟩) rfl)
    show c = true
    rw [show c = _ from hc, even_of hb srt2, even2]
end
end K02

set_option Elab.async false
set_option linter.all false
set_option maxRecDepth 100000
set_option maxHeartbeats 0
namespace Hd
open PySem PySem.Spec PyProof.Rows L2
def top (i : Nat) : Stmt := PySem.Challenge.pw_sidesigns_k02_lots_of_rows.main.body.getD i (.Pass ⟨0, 0, 0, 0⟩)
abbrev s_wall : Stmt := top 0
def d_wall : He.DefD := ⟨("_wall", none), "_wall", "_wall", defArgs s_wall, defBody s_wall, defScope s_wall, [], []⟩
abbrev s_InvalidNumber_init : Stmt := inClass (top 6) 0
def d_InvalidNumber_init : He.DefD := ⟨("InvalidNumber", some "__init__"), "__init__", "InvalidNumber.__init__", defArgs s_InvalidNumber_init, defBody s_InvalidNumber_init, defScope s_InvalidNumber_init, [], []⟩
abbrev s_is_integer : Stmt := top 8
def d_is_integer : He.DefD := ⟨("is_integer", none), "is_integer", "is_integer", defArgs s_is_integer, defBody s_is_integer, defScope s_is_integer, [], []⟩
abbrev s_is_between : Stmt := top 9
def d_is_between : He.DefD := ⟨("is_between", none), "is_between", "is_between", defArgs s_is_between, defBody s_is_between, defScope s_is_between, [], []⟩
abbrev s_code_of : Stmt := top 13
def d_code_of : He.DefD := ⟨("code_of", none), "code_of", "code_of", defArgs s_code_of, defBody s_code_of, defScope s_code_of, [], []⟩
abbrev s_mask_of : Stmt := top 14
def d_mask_of : He.DefD := ⟨("mask_of", none), "mask_of", "mask_of", defArgs s_mask_of, defBody s_mask_of, defScope s_mask_of, [], []⟩
abbrev s_has_within : Stmt := top 15
def d_has_within : He.DefD := ⟨("has_within", none), "has_within", "has_within", defArgs s_has_within, defBody s_has_within, defScope s_has_within, [], []⟩
abbrev s_least_masks : Stmt := top 16
def d_least_masks : He.DefD := ⟨("least_masks", none), "least_masks", "least_masks", defArgs s_least_masks, defBody s_least_masks, defScope s_least_masks, [], []⟩
abbrev s_size_of : Stmt := top 17
def d_size_of : He.DefD := ⟨("size_of", none), "size_of", "size_of", defArgs s_size_of, defBody s_size_of, defScope s_size_of, [], []⟩
abbrev s_turned_signs : Stmt := top 19
def d_turned_signs : He.DefD := ⟨("turned_signs", none), "turned_signs", "turned_signs", defArgs s_turned_signs, defBody s_turned_signs, defScope s_turned_signs, [], []⟩
abbrev s_is_ascending : Stmt := top 21
def d_is_ascending : He.DefD := ⟨("is_ascending", none), "is_ascending", "is_ascending", defArgs s_is_ascending, defBody s_is_ascending, defScope s_is_ascending, [], []⟩
abbrev s_is_row : Stmt := top 24
def d_is_row : He.DefD := ⟨("is_row", none), "is_row", "is_row", defArgs s_is_row, defBody s_is_row, defScope s_is_row, [], []⟩
abbrev s_check_many : Stmt := top 25
def d_check_many : He.DefD := ⟨("check_many", none), "check_many", "check_many", defArgs s_check_many, defBody s_check_many, defScope s_check_many, [], []⟩
abbrev s_check_row : Stmt := top 26
def d_check_row : He.DefD := ⟨("check_row", none), "check_row", "check_row", defArgs s_check_row, defBody s_check_row, defScope s_check_row, [], []⟩
abbrev s_check_things : Stmt := top 27
def d_check_things : He.DefD := ⟨("check_things", none), "check_things", "check_things", defArgs s_check_things, defBody s_check_things, defScope s_check_things, [], []⟩
abbrev s_check_any_row : Stmt := top 28
def d_check_any_row : He.DefD := ⟨("check_any_row", none), "check_any_row", "check_any_row", defArgs s_check_any_row, defBody s_check_any_row, defScope s_check_any_row, [], []⟩
abbrev s_turned : Stmt := top 29
def d_turned : He.DefD := ⟨("turned", none), "turned", "turned", defArgs s_turned, defBody s_turned, defScope s_turned, [.non], []⟩
abbrev s_Lot_init : Stmt := inClass (top 30) 0
def d_Lot_init : He.DefD := ⟨("Lot", some "__init__"), "__init__", "Lot.__init__", defArgs s_Lot_init, defBody s_Lot_init, defScope s_Lot_init, [.adr (He.dflAt ("Lot", some "__init__") 0)], []⟩
abbrev s_Lot_many : Stmt := inClass (top 30) 1
def d_Lot_many : Zh.GetD := ⟨"Lot", "many", "Lot.many", defArgs s_Lot_many, defBody s_Lot_many, defScope s_Lot_many⟩
abbrev s_Lot_rows : Stmt := inClass (top 30) 2
def d_Lot_rows : Zh.GetD := ⟨"Lot", "rows", "Lot.rows", defArgs s_Lot_rows, defBody s_Lot_rows, defScope s_Lot_rows⟩
abbrev s_Lot_is_even : Stmt := inClass (top 30) 3
def d_Lot_is_even : Zh.GetD := ⟨"Lot", "is_even", "Lot.is_even", defArgs s_Lot_is_even, defBody s_Lot_is_even, defScope s_Lot_is_even⟩
abbrev s_Lot_len : Stmt := inClass (top 30) 4
def d_Lot_len : He.DefD := ⟨("Lot", some "__len__"), "__len__", "Lot.__len__", defArgs s_Lot_len, defBody s_Lot_len, defScope s_Lot_len, [], []⟩
abbrev s_Lot_iter : Stmt := inClass (top 30) 5
def d_Lot_iter : He.DefD := ⟨("Lot", some "__iter__"), "__iter__", "Lot.__iter__", defArgs s_Lot_iter, defBody s_Lot_iter, defScope s_Lot_iter, [], []⟩
abbrev s_Lot_contains : Stmt := inClass (top 30) 6
def d_Lot_contains : He.DefD := ⟨("Lot", some "__contains__"), "__contains__", "Lot.__contains__", defArgs s_Lot_contains, defBody s_Lot_contains, defScope s_Lot_contains, [], []⟩
abbrev s_Lot_eq : Stmt := inClass (top 30) 7
def d_Lot_eq : He.DefD := ⟨("Lot", some "__eq__"), "__eq__", "Lot.__eq__", defArgs s_Lot_eq, defBody s_Lot_eq, defScope s_Lot_eq, [], []⟩
abbrev s_Lot_str : Stmt := inClass (top 30) 8
def d_Lot_str : He.DefD := ⟨("Lot", some "__str__"), "__str__", "Lot.__str__", defArgs s_Lot_str, defBody s_Lot_str, defScope s_Lot_str, [], []⟩
abbrev s_Lot_or : Stmt := inClass (top 30) 9
def d_Lot_or : He.DefD := ⟨("Lot", some "__or__"), "__or__", "Lot.__or__", defArgs s_Lot_or, defBody s_Lot_or, defScope s_Lot_or, [], []⟩
abbrev s_Lot_and : Stmt := inClass (top 30) 10
def d_Lot_and : He.DefD := ⟨("Lot", some "__and__"), "__and__", "Lot.__and__", defArgs s_Lot_and, defBody s_Lot_and, defScope s_Lot_and, [], []⟩
abbrev s_Lot_sub : Stmt := inClass (top 30) 11
def d_Lot_sub : He.DefD := ⟨("Lot", some "__sub__"), "__sub__", "Lot.__sub__", defArgs s_Lot_sub, defBody s_Lot_sub, defScope s_Lot_sub, [], []⟩
abbrev s_Lot_least : Stmt := inClass (top 30) 12
def d_Lot_least : He.DefD := ⟨("Lot", some "least"), "least", "Lot.least", defArgs s_Lot_least, defBody s_Lot_least, defScope s_Lot_least, [], []⟩
abbrev s_Lot_with_turned : Stmt := inClass (top 30) 13
def d_Lot_with_turned : He.DefD := ⟨("Lot", some "with_turned"), "with_turned", "Lot.with_turned", defArgs s_Lot_with_turned, defBody s_Lot_with_turned, defScope s_Lot_with_turned, [], []⟩
abbrev s_Lot_turned_at : Stmt := inClass (top 30) 14
def d_Lot_turned_at : He.DefD := ⟨("Lot", some "turned_at"), "turned_at", "Lot.turned_at", defArgs s_Lot_turned_at, defBody s_Lot_turned_at, defScope s_Lot_turned_at, [], []⟩
abbrev s_Lot_layings : Stmt := inClass (top 30) 15
def d_Lot_layings : He.DefD := ⟨("Lot", some "layings"), "layings", "Lot.layings", defArgs s_Lot_layings, defBody s_Lot_layings, defScope s_Lot_layings, [], []⟩
abbrev s_Lot_uprights : Stmt := inClass (top 30) 16
def d_Lot_uprights : He.DefD := ⟨("Lot", some "uprights"), "uprights", "Lot.uprights", defArgs s_Lot_uprights, defBody s_Lot_uprights, defScope s_Lot_uprights, [], []⟩
abbrev s_check_alike : Stmt := top 31
def d_check_alike : He.DefD := ⟨("_check_alike", none), "_check_alike", "_check_alike", defArgs s_check_alike, defBody s_check_alike, defScope s_check_alike, [], []⟩
abbrev s_law_dice : Stmt := top 33
def d_law_dice : He.DefD := ⟨("_law_dice", none), "_law_dice", "_law_dice", defArgs s_law_dice, defBody s_law_dice, defScope s_law_dice, [], []⟩
abbrev s_law_roll : Stmt := top 34
def d_law_roll : He.DefD := ⟨("_law_roll", none), "_law_roll", "_law_roll", defArgs s_law_roll, defBody s_law_roll, defScope s_law_roll, [], []⟩
abbrev s_law_pick : Stmt := top 35
def d_law_pick : He.DefD := ⟨("_law_pick", none), "_law_pick", "_law_pick", defArgs s_law_pick, defBody s_law_pick, defScope s_law_pick, [], []⟩
abbrev s_law_mixed : Stmt := top 36
def d_law_mixed : He.DefD := ⟨("_law_mixed", none), "_law_mixed", "_law_mixed", defArgs s_law_mixed, defBody s_law_mixed, defScope s_law_mixed, [], []⟩
abbrev s_law_flip : Stmt := top 37
def d_law_flip : He.DefD := ⟨("_law_flip", none), "_law_flip", "_law_flip", defArgs s_law_flip, defBody s_law_flip, defScope s_law_flip, [], []⟩
abbrev s_law_turn : Stmt := top 38
def d_law_turn : He.DefD := ⟨("_law_turn", none), "_law_turn", "_law_turn", defArgs s_law_turn, defBody s_law_turn, defScope s_law_turn, [], []⟩
abbrev s_law_turn_at : Stmt := top 39
def d_law_turn_at : He.DefD := ⟨("_law_turn_at", none), "_law_turn_at", "_law_turn_at", defArgs s_law_turn_at, defBody s_law_turn_at, defScope s_law_turn_at, [], []⟩
abbrev s_law_held : Stmt := top 40
def d_law_held : He.DefD := ⟨("_law_held", none), "_law_held", "_law_held", defArgs s_law_held, defBody s_law_held, defScope s_law_held, [], []⟩
abbrev s_law_drawn_row : Stmt := top 41
def d_law_drawn_row : He.DefD := ⟨("_law_drawn_row", none), "_law_drawn_row", "_law_drawn_row", defArgs s_law_drawn_row, defBody s_law_drawn_row, defScope s_law_drawn_row, [], []⟩
abbrev s_law_drawn_rows : Stmt := top 42
def d_law_drawn_rows : He.DefD := ⟨("_law_drawn_rows", none), "_law_drawn_rows", "_law_drawn_rows", defArgs s_law_drawn_rows, defBody s_law_drawn_rows, defScope s_law_drawn_rows, [], []⟩
abbrev s_law_least_rows : Stmt := top 43
def d_law_least_rows : He.DefD := ⟨("_law_least_rows", none), "_law_least_rows", "_law_least_rows", defArgs s_law_least_rows, defBody s_law_least_rows, defScope s_law_least_rows, [], []⟩
abbrev s_law_is_lot_right : Stmt := top 44
def d_law_is_lot_right : He.DefD := ⟨("_law_is_lot_right", none), "_law_is_lot_right", "_law_is_lot_right", defArgs s_law_is_lot_right, defBody s_law_is_lot_right, defScope s_law_is_lot_right, [], []⟩
abbrev s_law_are_two_right : Stmt := top 45
def d_law_are_two_right : He.DefD := ⟨("_law_are_two_right", none), "_law_are_two_right", "_law_are_two_right", defArgs s_law_are_two_right, defBody s_law_are_two_right, defScope s_law_are_two_right, [], []⟩
abbrev s_law_right : Stmt := top 46
def d_law_right : He.DefD := ⟨("_law_right", none), "_law_right", "_law_right", defArgs s_law_right, defBody s_law_right, defScope s_law_right, [], []⟩
abbrev s_law : Stmt := top 47
def d_law : He.DefD := ⟨("law", none), "law", "law", defArgs s_law, defBody s_law, defScope s_law, [], []⟩
def fn : List He.DefD := [d_wall, d_InvalidNumber_init, d_is_integer, d_is_between, d_code_of, d_mask_of, d_has_within, d_least_masks, d_size_of, d_turned_signs, d_is_ascending, d_is_row, d_check_many, d_check_row, d_check_things, d_check_any_row, d_turned, d_Lot_init, d_Lot_len, d_Lot_iter, d_Lot_contains, d_Lot_eq, d_Lot_str, d_Lot_or, d_Lot_and, d_Lot_sub, d_Lot_least, d_Lot_with_turned, d_Lot_turned_at, d_Lot_layings, d_Lot_uprights, d_check_alike, d_law_dice, d_law_roll, d_law_pick, d_law_mixed, d_law_flip, d_law_turn, d_law_turn_at, d_law_held, d_law_drawn_row, d_law_drawn_rows, d_law_least_rows, d_law_is_lot_right, d_law_are_two_right, d_law_right, d_law]
def gs : List Zh.GetD := [d_Lot_many, d_Lot_rows, d_Lot_is_even]
def ts : List (PySem.W.Frag → Bool) := [fun K => Zo.lineOk K (He.ga K "Lot"), fun K => decide (PySem.W.findIn K (.ref (He.ga K "Lot")) "__ne__" = some (some (.builtin "object.__ne__"))), fun K => decide (PySem.W.mroIn K (He.ga K "Lot") (.type "object") = some true), fun K => decide (PySem.W.findIn K (.ref (He.ga K "Lot")) "__class__" = some (some (.builtin "object.__class__"))), fun K => decide (PySem.W.specialIn K (.builtin "object.__class__") "__get__" = some (some (.builtin "getset_descriptor.__get__"))), fun K => decide (PySem.W.takesIn K (.builtin "object.__class__") = some true), fun K => decide (PySem.W.typeIn K (.ref (He.ga K "Lot")) = some (.type "type")), fun K => decide (PySem.W.mroIn K (He.ga K "Lot") (.type "str") = some false), fun K => Zh.emptyT K (He.dflAt ("Lot", some "__init__") 0 K)]
def fa : List He.Fa := [.glo "_wall", .glo "is_integer", .glo "is_between", .glo "code_of", .glo "mask_of", .glo "has_within", .glo "least_masks", .glo "size_of", .glo "turned_signs", .glo "is_ascending", .glo "is_row", .glo "check_many", .glo "check_row", .glo "check_things", .glo "check_any_row", .glo "turned", .glo "_check_alike", .glo "_law_dice", .glo "_law_roll", .glo "_law_pick", .glo "_law_mixed", .glo "_law_flip", .glo "_law_turn", .glo "_law_turn_at", .glo "_law_held", .glo "_law_drawn_row", .glo "_law_drawn_rows", .glo "_law_least_rows", .glo "_law_is_lot_right", .glo "_law_are_two_right", .glo "_law_right", .glo "law", .int "SHIFT" 9, .int "LOW" 511, .int "MAX_THINGS" 9, .free "IndexError", .free "NotImplemented", .free "ValueError", .free "abs", .free "all", .free "any", .free "bool", .free "enumerate", .free "int", .free "isinstance", .free "iter", .free "len", .free "list", .free "max", .free "min", .free "property", .free "range", .free "repr", .free "set", .free "sorted", .free "str", .free "tuple", .glo "SignsError", .glo "InvalidRow", .glo "InvalidLot", .glo "InvalidOperation", .glo "InvalidNumber", .glo "Lot", .cls "Lot", .mkr "Lot", .noat "Lot" "_known", .noat "Lot" "_many", .noat "Lot" "_rows", .meth "Lot" "__init__", .meth "Lot" "__len__", .meth "Lot" "__iter__", .meth "Lot" "__contains__", .meth "Lot" "__eq__", .meth "Lot" "__str__", .meth "Lot" "__or__", .meth "Lot" "__and__", .meth "Lot" "__sub__", .meth "Lot" "least", .meth "Lot" "with_turned", .meth "Lot" "turned_at", .meth "Lot" "layings", .meth "Lot" "uprights"]
def names : List PySem.Str := (["_wall", "SignsError", "InvalidRow", "InvalidLot", "InvalidOperation", "InvalidNumber", "is_integer", "is_between", "SHIFT", "LOW", "code_of", "mask_of", "has_within", "least_masks", "size_of", "turned_signs", "is_ascending", "MAX_THINGS", "is_row", "check_many", "check_row", "check_things", "check_any_row", "turned", "Lot", "_check_alike", "_law_dice", "_law_roll", "_law_pick", "_law_mixed"] : List PySem.Str) ++ (["_law_flip", "_law_turn", "_law_turn_at", "_law_held", "_law_drawn_row", "_law_drawn_rows", "_law_least_rows", "_law_is_lot_right", "_law_are_two_right", "_law_right"] : List PySem.Str)
abbrev R : PySem.W.OpenRow := PySem.W.OpenLaw.row PySem.Challenge.rw_sidesigns_k02_lots_of_rows
abbrev hk : PySem.W.Hook := Zh.hookP 5 fa fn gs ts
def ob (s : PySem.W.SharedT) : Zh.AlP := Zh.obsPG 5 fa fn gs ts (HandSHeadRun.getT s)
theorem ob_eq (s : PySem.W.SharedT) : ob s = hk.obs s.abs := Zh.obsPG_eq (HandSHeadRun.getT_eq s)
theorem run (w : World) : HandSHeadRun.RunEq R (PySem.W.view R.prog [47]) hk ob 9000 names w := by
  intro os
  kernel_rfl
end Hd

set_option Elab.async false
set_option linter.all false
set_option maxRecDepth 100000
set_option maxHeartbeats 0
namespace K02
open PySem PySem.Spec PyProof.Rows L2 Z
theorem all2_ints {K : PySem.W.Frag} {Δ : Gh} {H : Hp} : ∀ ns : List Int, All2 (fun (u : V) (a : Int) => Rp.rp K Δ H u a) (ns.map V.int) ns
  | [] => trivial
  | _ :: ns => ⟨rfl, all2_ints ns⟩
theorem start_law {K : PySem.W.Frag} {H : Hp} {a : Addr} {ns : List Int} (hS : SqL K H a (ns.map V.int)) : spD K F_law [.ref a] H (fun v _ => v = .bl true) fun _ _ _ => False := by
  refine ⟨[], fun _ => none, [⟨ns⟩], Is true, ⟨ns, rfl, rfl⟩, fun p hp => (nomatch hp), fun a I h => (nomatch h), ⟨⟨a, ns.map V.int, rfl, ?_, hS, ?_⟩, trivial⟩, fun v H' b hb _ r => ?_⟩
  · rcases hS with h | h
    · exact .inl ⟨rfl, h⟩
    · exact .inr h
  · exact all2_ints ns
  · rw [show v = .bl b from r, show b = true from hb]
theorem facts {P : Program} {w : World} {K : PySem.W.Frag} {h : Heap} {mg : Str → Option Value} {f : Addr} (X : K.In h) (G : h.Ns mainGlobals mg) (hfa : mg ("law" : Str) = some (.ref f)) (c : Zh.SaysP Hd.fa Hd.fn Hd.gs Hd.ts K) :
    ∃ fd : FuncData, (∀ (s : Shared) (v : Value), BindsTo s fd ⟨[v], []⟩ [("_law_script", v)]) ∧ ∀ base : Heap, K.In base → base.Ns mainGlobals mg → FnOk P w K mg base CX0 16 f fd ["_law_script"] (spD K F_law) := by
  have T : Txt K mg := ⟨He.free_ok X G (c.d.fact 38 (f := .free "abs") rfl), He.free_ok X G (c.d.fact 39 (f := .free "all") rfl), He.free_ok X G (c.d.fact 40 (f := .free "any") rfl), He.free_ok X G (c.d.fact 41 (f := .free "bool") rfl), He.free_ok X G (c.d.fact 42 (f := .free "enumerate") rfl), He.free_ok X G (c.d.fact 43 (f := .free "int") rfl), He.free_ok X G (c.d.fact 44 (f := .free "isinstance") rfl), He.free_ok X G (c.d.fact 45 (f := .free "iter") rfl), He.free_ok X G (c.d.fact 46 (f := .free "len") rfl), He.free_ok X G (c.d.fact 47 (f := .free "list") rfl), He.free_ok X G (c.d.fact 48 (f := .free "max") rfl), He.free_ok X G (c.d.fact 49 (f := .free "min") rfl), He.free_ok X G (c.d.fact 50 (f := .free "property") rfl), He.free_ok X G (c.d.fact 51 (f := .free "range") rfl), He.free_ok X G (c.d.fact 52 (f := .free "repr") rfl), He.free_ok X G (c.d.fact 53 (f := .free "set") rfl), He.free_ok X G (c.d.fact 54 (f := .free "sorted") rfl), He.free_ok X G (c.d.fact 55 (f := .free "str") rfl), He.free_ok X G (c.d.fact 56 (f := .free "tuple") rfl), He.int_ok X G (c.d.fact 32 (f := .int "SHIFT" 9) rfl), He.int_ok X G (c.d.fact 33 (f := .int "LOW" 511) rfl), He.int_ok X G (c.d.fact 34 (f := .int "MAX_THINGS" 9) rfl)⟩
  have CL : LotT K := ⟨He.cls_ok (c.d.fact 63 (f := .cls "Lot") rfl), He.noat_ok (c.d.fact 66 (f := .noat "Lot" "_many") rfl), He.noat_ok (c.d.fact 65 (f := .noat "Lot" "_known") rfl), He.noat_ok (c.d.fact 67 (f := .noat "Lot" "_rows") rfl), of_decide_eq_true (c.test 3), of_decide_eq_true (c.test 4), of_decide_eq_true (c.test 5), of_decide_eq_true (c.test 2), c.test 0, of_decide_eq_true (c.test 1), of_decide_eq_true (c.test 6), of_decide_eq_true (c.test 7)⟩
  have CG : mg "Lot" = some (.ref (He.ga K "Lot")) := He.glo_ok X G (c.d.fact 62 (f := .glo "Lot") rfl)
  obtain ⟨fd_Lot___str__, F_Lot___str__'⟩ := c.d.def_ 22 (d := Hd.d_Lot_str) rfl
  have B_Lot___str__ : Binds K fd_Lot___str__ ["self"] [] := F_Lot___str__'.bindsN fun _ _ _ _ _ _ us hl => match us, hl with | [_], _ => rfl
  have D_Lot___str__ : DfM K _ "__str__" "Lot.__str__" s_Lot___str__ ["self"] _ fd_Lot___str__ := ⟨F_Lot___str__', B_Lot___str__⟩
  obtain ⟨fd_Lot___len__, F_Lot___len__'⟩ := c.d.def_ 18 (d := Hd.d_Lot_len) rfl
  have B_Lot___len__ : Binds K fd_Lot___len__ ["self"] [] := F_Lot___len__'.bindsN fun _ _ _ _ _ _ us hl => match us, hl with | [_], _ => rfl
  have D_Lot___len__ : DfM K _ "__len__" "Lot.__len__" s_Lot___len__ ["self"] _ fd_Lot___len__ := ⟨F_Lot___len__', B_Lot___len__⟩
  obtain ⟨fd_is_integer, F_is_integer'⟩ := c.d.def_ 2 (d := Hd.d_is_integer) rfl
  have D_is_integer : Df K mg "is_integer" s_is_integer ["value"] _ fd_is_integer := ⟨F_is_integer', He.glo_ok X G (c.d.fact 1 (f := .glo "is_integer") rfl), F_is_integer'.bindsN fun _ _ _ _ _ _ us hl => match us, hl with | [_], _ => rfl⟩
  obtain ⟨fd_is_between, F_is_between'⟩ := c.d.def_ 3 (d := Hd.d_is_between) rfl
  have D_is_between : Df K mg "is_between" s_is_between ["value", "least", "most"] _ fd_is_between := ⟨F_is_between', He.glo_ok X G (c.d.fact 2 (f := .glo "is_between") rfl), F_is_between'.bindsN fun _ _ _ _ _ _ us hl => match us, hl with | [_,_,_], _ => rfl⟩
  obtain ⟨fd_check_many, F_check_many'⟩ := c.d.def_ 12 (d := Hd.d_check_many) rfl
  have D_check_many : Df K mg "check_many" s_check_many ["many"] _ fd_check_many := ⟨F_check_many', He.glo_ok X G (c.d.fact 11 (f := .glo "check_many") rfl), F_check_many'.bindsN fun _ _ _ _ _ _ us hl => match us, hl with | [_], _ => rfl⟩
  obtain ⟨fd_is_row, F_is_row'⟩ := c.d.def_ 11 (d := Hd.d_is_row) rfl
  have D_is_row : Df K mg "is_row" s_is_row ["value", "many"] _ fd_is_row := ⟨F_is_row', He.glo_ok X G (c.d.fact 10 (f := .glo "is_row") rfl), F_is_row'.bindsN fun _ _ _ _ _ _ us hl => match us, hl with | [_,_], _ => rfl⟩
  obtain ⟨fd_Lot___init__, F_Lot___init__'⟩ := c.d.def_ 17 (d := Hd.d_Lot_init) rfl
  have B_Lot___init__ : Binds K fd_Lot___init__ ["self", "many", "rows"] [] := by
    obtain ⟨ds, v, h⟩ := FunD.binds1 (ps := ["self", "many", "rows"]) F_Lot___init__' 3 1 (fun z => by cases z) rfl fun T kV doc pm an cdv ct us its hl hi => match us, hl, its, hi with
      | [_,_,_], _, [_], _ => ⟨_, rfl, rfl⟩
    cases v
    exact h
  have B1_Lot___init__ : ∃ a, Binds K fd_Lot___init__ ["self", "many", "rows"] [.ref a] ∧ KT K a [] := by
    obtain ⟨ds, v, h⟩ := FunD.binds1 (ps := ["self", "many", "rows"]) F_Lot___init__' 2 0 (fun z => by cases z) rfl fun T kV doc pm an cdv ct us its hl hi => match us, hl, its, hi with
      | [_,_], _, [_], _ => ⟨_, rfl, rfl⟩
    cases v with
    | cons r t =>
      cases t
      cases r
      exact ⟨_, h, Zh.emptyT_kt (c.test 8)⟩
  obtain ⟨a_Lot, CB_Lot⟩ := B1_Lot___init__
  have D_Lot___init__ : DfM K _ "__init__" "Lot.__init__" s_Lot___init__ ["self", "many", "rows"] _ fd_Lot___init__ := ⟨F_Lot___init__', B_Lot___init__⟩
  obtain ⟨fd_check_row, F_check_row'⟩ := c.d.def_ 13 (d := Hd.d_check_row) rfl
  have D_check_row : Df K mg "check_row" s_check_row ["row", "many"] _ fd_check_row := ⟨F_check_row', He.glo_ok X G (c.d.fact 12 (f := .glo "check_row") rfl), F_check_row'.bindsN fun _ _ _ _ _ _ us hl => match us, hl with | [_,_], _ => rfl⟩
  obtain ⟨fd_check_any_row, F_check_any_row'⟩ := c.d.def_ 15 (d := Hd.d_check_any_row) rfl
  have D_check_any_row : Df K mg "check_any_row" s_check_any_row ["row"] _ fd_check_any_row := ⟨F_check_any_row', He.glo_ok X G (c.d.fact 14 (f := .glo "check_any_row") rfl), F_check_any_row'.bindsN fun _ _ _ _ _ _ us hl => match us, hl with | [_], _ => rfl⟩
  obtain ⟨fd_turned_signs, F_turned_signs'⟩ := c.d.def_ 9 (d := Hd.d_turned_signs) rfl
  have D_turned_signs : Df K mg "turned_signs" s_turned_signs ["signs"] _ fd_turned_signs := ⟨F_turned_signs', He.glo_ok X G (c.d.fact 8 (f := .glo "turned_signs") rfl), F_turned_signs'.bindsN fun _ _ _ _ _ _ us hl => match us, hl with | [_], _ => rfl⟩
  obtain ⟨fd_is_ascending, F_is_ascending'⟩ := c.d.def_ 10 (d := Hd.d_is_ascending) rfl
  have D_is_ascending : Df K mg "is_ascending" s_is_ascending ["value", "many"] _ fd_is_ascending := ⟨F_is_ascending', He.glo_ok X G (c.d.fact 9 (f := .glo "is_ascending") rfl), F_is_ascending'.bindsN fun _ _ _ _ _ _ us hl => match us, hl with | [_,_], _ => rfl⟩
  obtain ⟨fd_check_things, F_check_things'⟩ := c.d.def_ 14 (d := Hd.d_check_things) rfl
  have D_check_things : Df K mg "check_things" s_check_things ["things", "many"] _ fd_check_things := ⟨F_check_things', He.glo_ok X G (c.d.fact 13 (f := .glo "check_things") rfl), F_check_things'.bindsN fun _ _ _ _ _ _ us hl => match us, hl with | [_,_], _ => rfl⟩
  obtain ⟨fd_turned, F_turned'⟩ := c.d.def_ 16 (d := Hd.d_turned) rfl
  have bT0_turned : Binds K fd_turned ["row", "things"] [] := by
    obtain ⟨ds, v, h⟩ := FunD.binds1 (ps := ["row", "things"]) F_turned' 2 1 (fun z => by cases z) rfl fun T kV doc pm an cdv ct us its hl hi => match us, hl, its, hi with
      | [_,_], _, [_], _ => ⟨_, rfl, rfl⟩
    cases v
    exact h
  have bT1_turned : Binds K fd_turned ["row", "things"] [Value.none] := by
    obtain ⟨ds, v, h⟩ := FunD.binds1 (ps := ["row", "things"]) F_turned' 1 0 (fun z => by cases z) rfl fun T kV doc pm an cdv ct us its hl hi => match us, hl, its, hi with
      | [_], _, [_], _ => ⟨_, rfl, rfl⟩
    cases v with
    | cons r t =>
      cases t
      cases r
      exact h
  have D_turned : DfD K mg "turned" s_turned ["row", "things"] _ fd_turned := ⟨F_turned', He.glo_ok X G (c.d.fact 15 (f := .glo "turned") rfl), bT0_turned, bT1_turned⟩
  obtain ⟨fd_Lot_with_turned, F_Lot_with_turned'⟩ := c.d.def_ 27 (d := Hd.d_Lot_with_turned) rfl
  have B_Lot_with_turned : Binds K fd_Lot_with_turned ["self"] [] := F_Lot_with_turned'.bindsN fun _ _ _ _ _ _ us hl => match us, hl with | [_], _ => rfl
  have D_Lot_with_turned : DfM K _ "with_turned" "Lot.with_turned" s_Lot_with_turned ["self"] _ fd_Lot_with_turned := ⟨F_Lot_with_turned', B_Lot_with_turned⟩
  obtain ⟨fd_size_of, F_size_of'⟩ := c.d.def_ 8 (d := Hd.d_size_of) rfl
  have D_size_of : Df K mg "size_of" s_size_of ["mask"] _ fd_size_of := ⟨F_size_of', He.glo_ok X G (c.d.fact 7 (f := .glo "size_of") rfl), F_size_of'.bindsN fun _ _ _ _ _ _ us hl => match us, hl with | [_], _ => rfl⟩
  obtain ⟨fd_has_within, F_has_within'⟩ := c.d.def_ 6 (d := Hd.d_has_within) rfl
  have D_has_within : Df K mg "has_within" s_has_within ["whole", "parts"] _ fd_has_within := ⟨F_has_within', He.glo_ok X G (c.d.fact 5 (f := .glo "has_within") rfl), F_has_within'.bindsN fun _ _ _ _ _ _ us hl => match us, hl with | [_,_], _ => rfl⟩
  obtain ⟨fd_least_masks, F_least_masks'⟩ := c.d.def_ 7 (d := Hd.d_least_masks) rfl
  have D_least_masks : Df K mg "least_masks" s_least_masks ["masks"] _ fd_least_masks := ⟨F_least_masks', He.glo_ok X G (c.d.fact 6 (f := .glo "least_masks") rfl), F_least_masks'.bindsN fun _ _ _ _ _ _ us hl => match us, hl with | [_], _ => rfl⟩
  obtain ⟨fd_mask_of, F_mask_of'⟩ := c.d.def_ 5 (d := Hd.d_mask_of) rfl
  have D_mask_of : Df K mg "mask_of" s_mask_of ["code"] _ fd_mask_of := ⟨F_mask_of', He.glo_ok X G (c.d.fact 4 (f := .glo "mask_of") rfl), F_mask_of'.bindsN fun _ _ _ _ _ _ us hl => match us, hl with | [_], _ => rfl⟩
  obtain ⟨fd_code_of, F_code_of'⟩ := c.d.def_ 4 (d := Hd.d_code_of) rfl
  have D_code_of : Df K mg "code_of" s_code_of ["row"] _ fd_code_of := ⟨F_code_of', He.glo_ok X G (c.d.fact 3 (f := .glo "code_of") rfl), F_code_of'.bindsN fun _ _ _ _ _ _ us hl => match us, hl with | [_], _ => rfl⟩
  obtain ⟨fd_Lot_least, F_Lot_least'⟩ := c.d.def_ 26 (d := Hd.d_Lot_least) rfl
  have B_Lot_least : Binds K fd_Lot_least ["self"] [] := F_Lot_least'.bindsN fun _ _ _ _ _ _ us hl => match us, hl with | [_], _ => rfl
  have D_Lot_least : DfM K _ "least" "Lot.least" s_Lot_least ["self"] _ fd_Lot_least := ⟨F_Lot_least', B_Lot_least⟩
  obtain ⟨fd_Lot___eq__, F_Lot___eq__'⟩ := c.d.def_ 21 (d := Hd.d_Lot_eq) rfl
  have B_Lot___eq__ : Binds K fd_Lot___eq__ ["self", "other"] [] := F_Lot___eq__'.bindsN fun _ _ _ _ _ _ us hl => match us, hl with | [_,_], _ => rfl
  have D_Lot___eq__ : DfM K _ "__eq__" "Lot.__eq__" s_Lot___eq__ ["self", "other"] _ fd_Lot___eq__ := ⟨F_Lot___eq__', B_Lot___eq__⟩
  obtain ⟨P_Lot_rows, fd_Lot_rows, F_Lot_rows'⟩ := c.get 1 (d := Hd.d_Lot_rows) rfl
  have D_Lot_rows : DfM K [] "rows" "Lot.rows" s_Lot_rows ["self"] _ fd_Lot_rows := ⟨F_Lot_rows', F_Lot_rows'.bindsN fun _ _ _ _ _ _ us hl => match us, hl with | [_], _ => rfl⟩
  obtain ⟨P_Lot_is_even, fd_Lot_is_even, F_Lot_is_even'⟩ := c.get 2 (d := Hd.d_Lot_is_even) rfl
  have D_Lot_is_even : DfM K [] "is_even" "Lot.is_even" s_Lot_is_even ["self"] _ fd_Lot_is_even := ⟨F_Lot_is_even', F_Lot_is_even'.bindsN fun _ _ _ _ _ _ us hl => match us, hl with | [_], _ => rfl⟩
  obtain ⟨fd__law_roll, F__law_roll'⟩ := c.d.def_ 33 (d := Hd.d_law_roll) rfl
  have D__law_roll : Df K mg "_law_roll" s__law_roll ["_law_dice_here", "_law_total"] _ fd__law_roll := ⟨F__law_roll', He.glo_ok X G (c.d.fact 18 (f := .glo "_law_roll") rfl), F__law_roll'.bindsN fun _ _ _ _ _ _ us hl => match us, hl with | [_,_], _ => rfl⟩
  obtain ⟨fd__law_pick, F__law_pick'⟩ := c.d.def_ 34 (d := Hd.d_law_pick) rfl
  have D__law_pick : Df K mg "_law_pick" s__law_pick ["_law_dice_here", "_law_items"] _ fd__law_pick := ⟨F__law_pick', He.glo_ok X G (c.d.fact 19 (f := .glo "_law_pick") rfl), F__law_pick'.bindsN fun _ _ _ _ _ _ us hl => match us, hl with | [_,_], _ => rfl⟩
  obtain ⟨fd__law_drawn_row, F__law_drawn_row'⟩ := c.d.def_ 40 (d := Hd.d_law_drawn_row) rfl
  have D__law_drawn_row : Df K mg "_law_drawn_row" s__law_drawn_row ["_law_dice_here", "_law_size"] _ fd__law_drawn_row := ⟨F__law_drawn_row', He.glo_ok X G (c.d.fact 25 (f := .glo "_law_drawn_row") rfl), F__law_drawn_row'.bindsN fun _ _ _ _ _ _ us hl => match us, hl with | [_,_], _ => rfl⟩
  obtain ⟨fd__law_flip, F__law_flip'⟩ := c.d.def_ 36 (d := Hd.d_law_flip) rfl
  have D__law_flip : Df K mg "_law_flip" s__law_flip ["_law_sign"] _ fd__law_flip := ⟨F__law_flip', He.glo_ok X G (c.d.fact 21 (f := .glo "_law_flip") rfl), F__law_flip'.bindsN fun _ _ _ _ _ _ us hl => match us, hl with | [_], _ => rfl⟩
  obtain ⟨fd__law_turn, F__law_turn'⟩ := c.d.def_ 37 (d := Hd.d_law_turn) rfl
  have D__law_turn : Df K mg "_law_turn" s__law_turn ["_law_row"] _ fd__law_turn := ⟨F__law_turn', He.glo_ok X G (c.d.fact 22 (f := .glo "_law_turn") rfl), F__law_turn'.bindsN fun _ _ _ _ _ _ us hl => match us, hl with | [_], _ => rfl⟩
  obtain ⟨fd__law_drawn_rows, F__law_drawn_rows'⟩ := c.d.def_ 41 (d := Hd.d_law_drawn_rows) rfl
  have D__law_drawn_rows : Df K mg "_law_drawn_rows" s__law_drawn_rows ["_law_dice_here", "_law_size"] _ fd__law_drawn_rows := ⟨F__law_drawn_rows', He.glo_ok X G (c.d.fact 26 (f := .glo "_law_drawn_rows") rfl), F__law_drawn_rows'.bindsN fun _ _ _ _ _ _ us hl => match us, hl with | [_,_], _ => rfl⟩
  obtain ⟨P_Lot_many, fd_Lot_many, F_Lot_many'⟩ := c.get 0 (d := Hd.d_Lot_many) rfl
  have D_Lot_many : DfM K [] "many" "Lot.many" s_Lot_many ["self"] _ fd_Lot_many := ⟨F_Lot_many', F_Lot_many'.bindsN fun _ _ _ _ _ _ us hl => match us, hl with | [_], _ => rfl⟩
  obtain ⟨fd__check_alike, F__check_alike'⟩ := c.d.def_ 31 (d := Hd.d_check_alike) rfl
  have D__check_alike : Df K mg "_check_alike" s__check_alike ["one", "other"] _ fd__check_alike := ⟨F__check_alike', He.glo_ok X G (c.d.fact 16 (f := .glo "_check_alike") rfl), F__check_alike'.bindsN fun _ _ _ _ _ _ us hl => match us, hl with | [_,_], _ => rfl⟩
  obtain ⟨fd_Lot___or__, F_Lot___or__'⟩ := c.d.def_ 23 (d := Hd.d_Lot_or) rfl
  have B_Lot___or__ : Binds K fd_Lot___or__ ["self", "other"] [] := F_Lot___or__'.bindsN fun _ _ _ _ _ _ us hl => match us, hl with | [_,_], _ => rfl
  have D_Lot___or__ : DfM K _ "__or__" "Lot.__or__" s_Lot___or__ ["self", "other"] _ fd_Lot___or__ := ⟨F_Lot___or__', B_Lot___or__⟩
  obtain ⟨fd_Lot___and__, F_Lot___and__'⟩ := c.d.def_ 24 (d := Hd.d_Lot_and) rfl
  have B_Lot___and__ : Binds K fd_Lot___and__ ["self", "other"] [] := F_Lot___and__'.bindsN fun _ _ _ _ _ _ us hl => match us, hl with | [_,_], _ => rfl
  have D_Lot___and__ : DfM K _ "__and__" "Lot.__and__" s_Lot___and__ ["self", "other"] _ fd_Lot___and__ := ⟨F_Lot___and__', B_Lot___and__⟩
  obtain ⟨fd_Lot___sub__, F_Lot___sub__'⟩ := c.d.def_ 25 (d := Hd.d_Lot_sub) rfl
  have B_Lot___sub__ : Binds K fd_Lot___sub__ ["self", "other"] [] := F_Lot___sub__'.bindsN fun _ _ _ _ _ _ us hl => match us, hl with | [_,_], _ => rfl
  have D_Lot___sub__ : DfM K _ "__sub__" "Lot.__sub__" s_Lot___sub__ ["self", "other"] _ fd_Lot___sub__ := ⟨F_Lot___sub__', B_Lot___sub__⟩
  obtain ⟨fd__law_are_two_right, F__law_are_two_right'⟩ := c.d.def_ 44 (d := Hd.d_law_are_two_right) rfl
  have D__law_are_two_right : Df K mg "_law_are_two_right" s__law_are_two_right ["_law_size", "_law_one", "_law_other"] _ fd__law_are_two_right := ⟨F__law_are_two_right', He.glo_ok X G (c.d.fact 29 (f := .glo "_law_are_two_right") rfl), F__law_are_two_right'.bindsN fun _ _ _ _ _ _ us hl => match us, hl with | [_,_,_], _ => rfl⟩
  obtain ⟨fd__law_mixed, F__law_mixed'⟩ := c.d.def_ 35 (d := Hd.d_law_mixed) rfl
  have D__law_mixed : Df K mg "_law_mixed" s__law_mixed ["_law_dice_here", "_law_items"] _ fd__law_mixed := ⟨F__law_mixed', He.glo_ok X G (c.d.fact 20 (f := .glo "_law_mixed") rfl), F__law_mixed'.bindsN fun _ _ _ _ _ _ us hl => match us, hl with | [_,_], _ => rfl⟩
  obtain ⟨fd_Lot___iter__, F_Lot___iter__'⟩ := c.d.def_ 19 (d := Hd.d_Lot_iter) rfl
  have B_Lot___iter__ : Binds K fd_Lot___iter__ ["self"] [] := F_Lot___iter__'.bindsN fun _ _ _ _ _ _ us hl => match us, hl with | [_], _ => rfl
  have D_Lot___iter__ : DfM K _ "__iter__" "Lot.__iter__" s_Lot___iter__ ["self"] _ fd_Lot___iter__ := ⟨F_Lot___iter__', B_Lot___iter__⟩
  obtain ⟨fd_Lot___contains__, F_Lot___contains__'⟩ := c.d.def_ 20 (d := Hd.d_Lot_contains) rfl
  have B_Lot___contains__ : Binds K fd_Lot___contains__ ["self", "x"] [] := F_Lot___contains__'.bindsN fun _ _ _ _ _ _ us hl => match us, hl with | [_,_], _ => rfl
  have D_Lot___contains__ : DfM K _ "__contains__" "Lot.__contains__" s_Lot___contains__ ["self", "x"] _ fd_Lot___contains__ := ⟨F_Lot___contains__', B_Lot___contains__⟩
  obtain ⟨fd_Lot_turned_at, F_Lot_turned_at'⟩ := c.d.def_ 28 (d := Hd.d_Lot_turned_at) rfl
  have B_Lot_turned_at : Binds K fd_Lot_turned_at ["self", "things"] [] := F_Lot_turned_at'.bindsN fun _ _ _ _ _ _ us hl => match us, hl with | [_,_], _ => rfl
  have D_Lot_turned_at : DfM K _ "turned_at" "Lot.turned_at" s_Lot_turned_at ["self", "things"] _ fd_Lot_turned_at := ⟨F_Lot_turned_at', B_Lot_turned_at⟩
  obtain ⟨fd__law_held, F__law_held'⟩ := c.d.def_ 39 (d := Hd.d_law_held) rfl
  have D__law_held : Df K mg "_law_held" s__law_held ["_law_row"] _ fd__law_held := ⟨F__law_held', He.glo_ok X G (c.d.fact 24 (f := .glo "_law_held") rfl), F__law_held'.bindsN fun _ _ _ _ _ _ us hl => match us, hl with | [_], _ => rfl⟩
  obtain ⟨fd__law_least_rows, F__law_least_rows'⟩ := c.d.def_ 42 (d := Hd.d_law_least_rows) rfl
  have D__law_least_rows : Df K mg "_law_least_rows" s__law_least_rows ["_law_rows"] _ fd__law_least_rows := ⟨F__law_least_rows', He.glo_ok X G (c.d.fact 27 (f := .glo "_law_least_rows") rfl), F__law_least_rows'.bindsN fun _ _ _ _ _ _ us hl => match us, hl with | [_], _ => rfl⟩
  obtain ⟨fd__law_turn_at, F__law_turn_at'⟩ := c.d.def_ 38 (d := Hd.d_law_turn_at) rfl
  have D__law_turn_at : Df K mg "_law_turn_at" s__law_turn_at ["_law_row", "_law_things"] _ fd__law_turn_at := ⟨F__law_turn_at', He.glo_ok X G (c.d.fact 23 (f := .glo "_law_turn_at") rfl), F__law_turn_at'.bindsN fun _ _ _ _ _ _ us hl => match us, hl with | [_,_], _ => rfl⟩
  obtain ⟨fd__law_is_lot_right, F__law_is_lot_right'⟩ := c.d.def_ 43 (d := Hd.d_law_is_lot_right) rfl
  have D__law_is_lot_right : Df K mg "_law_is_lot_right" s__law_is_lot_right ["_law_dice_here", "_law_size", "_law_rows"] _ fd__law_is_lot_right := ⟨F__law_is_lot_right', He.glo_ok X G (c.d.fact 28 (f := .glo "_law_is_lot_right") rfl), F__law_is_lot_right'.bindsN fun _ _ _ _ _ _ us hl => match us, hl with | [_,_,_], _ => rfl⟩
  obtain ⟨fd__law_right, F__law_right'⟩ := c.d.def_ 45 (d := Hd.d_law_right) rfl
  have D__law_right : Df K mg "_law_right" s__law_right ["_law_dice_here"] _ fd__law_right := ⟨F__law_right', He.glo_ok X G (c.d.fact 30 (f := .glo "_law_right") rfl), F__law_right'.bindsN fun _ _ _ _ _ _ us hl => match us, hl with | [_], _ => rfl⟩
  obtain ⟨fd__law_dice, F__law_dice'⟩ := c.d.def_ 32 (d := Hd.d_law_dice) rfl
  have D__law_dice : Df K mg "_law_dice" s__law_dice ["_law_script", "_law_spot"] _ fd__law_dice := ⟨F__law_dice', He.glo_ok X G (c.d.fact 17 (f := .glo "_law_dice") rfl), F__law_dice'.bindsN fun _ _ _ _ _ _ us hl => match us, hl with | [_,_], _ => rfl⟩
  obtain ⟨fd_law, F_law'⟩ := c.d.def_ 46 (d := Hd.d_law) rfl
  have e := hfa.symm.trans (He.glo_ok X G (c.d.fact 31 (f := .glo "law") rfl))
  cases e
  have b := FunD.bindsA (ps := ["_law_script"]) F_law' fun _ _ _ _ _ _ us hl => match us, hl with | [_], _ => rfl
  have D_law : Df K mg "law" s_law ["_law_script"] _ fd_law := ⟨F_law', hfa, F_law'.bindsN fun _ _ _ _ _ _ us hl => match us, hl with | [_], _ => rfl⟩
  refine ⟨fd_law, fun s v => b s [v] rfl, fun base _ _ => ?_⟩
  have G_Lot___str__ := ok_Lot___str__ (P := P) (w := w) (base := base) T CL D_Lot___str__
  have G_Lot___len__ := ok_Lot___len__ (P := P) (w := w) (base := base) T CL D_Lot___len__
  have G_is_integer := ok_is_integer (P := P) (w := w) (base := base) T D_is_integer
  have G_is_between := ok_is_between (P := P) (w := w) (base := base) T D_is_between D_is_integer G_is_integer
  have G_check_many := ok_check_many (P := P) (w := w) (base := base) T D_check_many D_is_between G_is_between
  have G_is_row := ok_is_row (P := P) (w := w) (base := base) T D_is_row
  have G_Lot___init__ := ok_Lot___init__ (P := P) (w := w) (base := base) T CL D_Lot___init__ D_check_many G_check_many D_is_row G_is_row
  have G_check_row := ok_check_row (P := P) (w := w) (base := base) T D_check_row D_is_row G_is_row
  have G_check_any_row := ok_check_any_row (P := P) (w := w) (base := base) T D_check_any_row D_check_row G_check_row
  have G_turned_signs := ok_turned_signs (P := P) (w := w) (base := base) T D_turned_signs
  have G_is_ascending := ok_is_ascending (P := P) (w := w) (base := base) T D_is_ascending D_is_between G_is_between
  have G_check_things := ok_check_things (P := P) (w := w) (base := base) T D_check_things D_is_ascending G_is_ascending
  have G_turned := ok_turned (P := P) (w := w) (base := base) T D_turned D_check_any_row G_check_any_row D_turned_signs G_turned_signs D_check_things G_check_things
  have G_Lot_with_turned := ok_Lot_with_turned (P := P) (w := w) (base := base) T CL CG D_Lot_with_turned ⟨He.mkr_ok (c.d.fact 64 (f := .mkr "Lot") rfl), D_Lot___init__⟩ G_Lot___init__ D_turned G_turned
  have G_size_of := ok_size_of (P := P) (w := w) (base := base) T D_size_of
  have G_has_within := ok_has_within (P := P) (w := w) (base := base) T D_has_within
  have G_least_masks := ok_least_masks (P := P) (w := w) (base := base) T D_least_masks D_size_of G_size_of D_has_within G_has_within
  have G_mask_of := ok_mask_of (P := P) (w := w) (base := base) T D_mask_of
  have G_code_of := ok_code_of (P := P) (w := w) (base := base) T D_code_of
  have G_Lot_least := ok_Lot_least (P := P) (w := w) (base := base) T CL CG D_Lot_least D_least_masks G_least_masks ⟨He.mkr_ok (c.d.fact 64 (f := .mkr "Lot") rfl), D_Lot___init__⟩ G_Lot___init__ D_mask_of G_mask_of D_code_of G_code_of
  have G_Lot___eq__ := ok_Lot___eq__ (P := P) (w := w) (base := base) T CL CG D_Lot___eq__
  have G_Lot_rows := ok_Lot_rows (P := P) (w := w) (base := base) T CL D_Lot_rows
  have G_Lot_is_even := ok_Lot_is_even (P := P) (w := w) (base := base) T CL D_Lot_is_even D_turned G_turned
  have G__law_roll := ok__law_roll (P := P) (w := w) (base := base) T D__law_roll
  have G__law_pick := ok__law_pick (P := P) (w := w) (base := base) T D__law_pick D__law_roll G__law_roll
  have G__law_drawn_row := ok__law_drawn_row (P := P) (w := w) (base := base) T D__law_drawn_row D__law_pick G__law_pick
  have G__law_flip := ok__law_flip (P := P) (w := w) (base := base) T D__law_flip
  have G__law_turn := ok__law_turn (P := P) (w := w) (base := base) T D__law_turn D__law_flip G__law_flip
  have G__law_drawn_rows := ok__law_drawn_rows (P := P) (w := w) (base := base) T D__law_drawn_rows D__law_roll G__law_roll D__law_pick G__law_pick D__law_drawn_row G__law_drawn_row D__law_turn G__law_turn
  have G_Lot_many := ok_Lot_many (P := P) (w := w) (base := base) T CL D_Lot_many
  have G__check_alike := ok__check_alike (P := P) (w := w) (base := base) T CL D__check_alike ⟨P_Lot_many, D_Lot_many⟩ G_Lot_many
  have G_Lot___or__ := ok_Lot___or__ (P := P) (w := w) (base := base) T CL CG D_Lot___or__ D__check_alike G__check_alike ⟨He.mkr_ok (c.d.fact 64 (f := .mkr "Lot") rfl), D_Lot___init__⟩ G_Lot___init__
  have G_Lot___and__ := ok_Lot___and__ (P := P) (w := w) (base := base) T CL CG D_Lot___and__ D__check_alike G__check_alike ⟨He.mkr_ok (c.d.fact 64 (f := .mkr "Lot") rfl), D_Lot___init__⟩ G_Lot___init__
  have G_Lot___sub__ := ok_Lot___sub__ (P := P) (w := w) (base := base) T CL CG D_Lot___sub__ D__check_alike G__check_alike ⟨He.mkr_ok (c.d.fact 64 (f := .mkr "Lot") rfl), D_Lot___init__⟩ G_Lot___init__
  have G__law_are_two_right := ok__law_are_two_right (P := P) (w := w) (base := base) T CL CG D__law_are_two_right ⟨He.meth_ok (c.d.fact 74 (f := .meth "Lot" "__or__") rfl), D_Lot___or__⟩ G_Lot___or__ ⟨He.meth_ok (c.d.fact 75 (f := .meth "Lot" "__and__") rfl), D_Lot___and__⟩ G_Lot___and__ ⟨He.meth_ok (c.d.fact 76 (f := .meth "Lot" "__sub__") rfl), D_Lot___sub__⟩ G_Lot___sub__ ⟨He.meth_ok (c.d.fact 72 (f := .meth "Lot" "__eq__") rfl), D_Lot___eq__⟩ G_Lot___eq__ ⟨He.mkr_ok (c.d.fact 64 (f := .mkr "Lot") rfl), D_Lot___init__⟩ G_Lot___init__ CB_Lot ⟨P_Lot_rows, D_Lot_rows⟩ G_Lot_rows
  have G__law_mixed := ok__law_mixed (P := P) (w := w) (base := base) T D__law_mixed D__law_roll G__law_roll
  have G_Lot___iter__ := ok_Lot___iter__ (P := P) (w := w) (base := base) T CL D_Lot___iter__
  have G_Lot___contains__ := ok_Lot___contains__ (P := P) (w := w) (base := base) T CL D_Lot___contains__
  have G_Lot_turned_at := ok_Lot_turned_at (P := P) (w := w) (base := base) T CL CG D_Lot_turned_at D_check_things G_check_things ⟨He.mkr_ok (c.d.fact 64 (f := .mkr "Lot") rfl), D_Lot___init__⟩ G_Lot___init__ D_turned G_turned
  have G__law_held := ok__law_held (P := P) (w := w) (base := base) T D__law_held
  have G__law_least_rows := ok__law_least_rows (P := P) (w := w) (base := base) T D__law_least_rows D__law_held G__law_held
  have G__law_turn_at := ok__law_turn_at (P := P) (w := w) (base := base) T D__law_turn_at D__law_flip G__law_flip
  have G__law_is_lot_right := ok__law_is_lot_right (P := P) (w := w) (base := base) T CL CG D__law_is_lot_right ⟨He.meth_ok (c.d.fact 70 (f := .meth "Lot" "__iter__") rfl), D_Lot___iter__⟩ G_Lot___iter__ ⟨He.meth_ok (c.d.fact 69 (f := .meth "Lot" "__len__") rfl), D_Lot___len__⟩ G_Lot___len__ ⟨He.meth_ok (c.d.fact 73 (f := .meth "Lot" "__str__") rfl), D_Lot___str__⟩ G_Lot___str__ ⟨He.meth_ok (c.d.fact 71 (f := .meth "Lot" "__contains__") rfl), D_Lot___contains__⟩ G_Lot___contains__ ⟨He.meth_ok (c.d.fact 72 (f := .meth "Lot" "__eq__") rfl), D_Lot___eq__⟩ G_Lot___eq__ ⟨He.meth_ok (c.d.fact 77 (f := .meth "Lot" "least") rfl), D_Lot_least⟩ G_Lot_least ⟨He.meth_ok (c.d.fact 78 (f := .meth "Lot" "with_turned") rfl), D_Lot_with_turned⟩ G_Lot_with_turned ⟨He.meth_ok (c.d.fact 79 (f := .meth "Lot" "turned_at") rfl), D_Lot_turned_at⟩ G_Lot_turned_at ⟨He.mkr_ok (c.d.fact 64 (f := .mkr "Lot") rfl), D_Lot___init__⟩ G_Lot___init__ ⟨P_Lot_rows, D_Lot_rows⟩ G_Lot_rows ⟨P_Lot_many, D_Lot_many⟩ G_Lot_many D__law_drawn_row G__law_drawn_row D__law_least_rows G__law_least_rows ⟨P_Lot_is_even, D_Lot_is_even⟩ G_Lot_is_even D__law_roll G__law_roll D__law_turn G__law_turn D__law_turn_at G__law_turn_at
  have G__law_right := ok__law_right (P := P) (w := w) (base := base) T D__law_right D__law_roll G__law_roll D__law_drawn_rows G__law_drawn_rows D__law_are_two_right G__law_are_two_right D__law_mixed G__law_mixed D__law_is_lot_right G__law_is_lot_right
  have G__law_dice := ok__law_dice (P := P) (w := w) (base := base) T D__law_dice
  exact ok_law T CL CG D_law ⟨He.meth_ok (c.d.fact 73 (f := .meth "Lot" "__str__") rfl), D_Lot___str__⟩ G_Lot___str__ ⟨He.meth_ok (c.d.fact 69 (f := .meth "Lot" "__len__") rfl), D_Lot___len__⟩ G_Lot___len__ ⟨He.meth_ok (c.d.fact 78 (f := .meth "Lot" "with_turned") rfl), D_Lot_with_turned⟩ G_Lot_with_turned ⟨He.meth_ok (c.d.fact 77 (f := .meth "Lot" "least") rfl), D_Lot_least⟩ G_Lot_least ⟨He.meth_ok (c.d.fact 72 (f := .meth "Lot" "__eq__") rfl), D_Lot___eq__⟩ G_Lot___eq__ ⟨He.mkr_ok (c.d.fact 64 (f := .mkr "Lot") rfl), D_Lot___init__⟩ G_Lot___init__ ⟨P_Lot_rows, D_Lot_rows⟩ G_Lot_rows ⟨P_Lot_is_even, D_Lot_is_even⟩ G_Lot_is_even D__law_right G__law_right D__law_dice G__law_dice
end K02
open PySem PySem.W PySem.Calls PyProof.Rows
theorem PySem.Challenge.cw_sidesigns_k02_lots_of_rows_holds : PySem.Challenge.rw_sidesigns_k02_lots_of_rows.Holds := by
  w_on; o_law
  refine HandSHeadRun.head_any (r := OpenLaw.row PySem.Challenge.rw_sidesigns_k02_lots_of_rows) (q := view (OpenLaw.row PySem.Challenge.rw_sidesigns_k02_lots_of_rows).prog [47]) (H := Hd.hk) (ob := Hd.ob) (M := 9000) (loose := Hd.names) (d := HandSHeadRun.topDef (OpenLaw.row PySem.Challenge.rw_sidesigns_k02_lots_of_rows).prog 47) (kwd := []) Hd.ob_eq
    (by kernel_rfl) (fun s => by kernel_rfl) Hd.run (by kernel_rfl) (by kernel_rfl) (by kernel_rfl) (by rfl) (by first | assumption | decide +kernel) (by decide +kernel) ⟨rfl, rfl, rfl, rfl, rfl, by decide +kernel⟩ ?hw ?hc
  case hw => w_witness2
  case hc =>
    refine L2.walk_ofE (l := PySem.Challenge.rw_sidesigns_k02_lots_of_rows) (n := 63) (k := 16) (x := "_law_script") (CX := L2.CX0) rfl (by decide) (by kernel_rfl) ⟨rfl, by decide, by decide⟩ ?F (fun _ _ _ _ z => z)
    intro w mg fa h Y G hmg0
    obtain ⟨K, KX, c⟩ := Y
    have hmg : mg ("law" : PySem.Str) = some (.ref fa) := by
      have e : (HandSHeadRun.topDef (OpenLaw.row PySem.Challenge.rw_sidesigns_k02_lots_of_rows).prog 47).name = ("law" : PySem.Str) := by kernel_rfl
      rw [← e]
      exact hmg0
    obtain ⟨fd, hb, hF⟩ := K02.facts (P := (PySem.Challenge.rw_sidesigns_k02_lots_of_rows).prog) (w := w) KX G hmg c
    refine ⟨K, fd, Z.spD K K02.F_law, KX, hb, fun H a ns hl _ hS => ?_, hF⟩
    exact K02.start_law hS


