import PyProof.Rows.All
import HandS.Property
import HandS.HeadHook2
import Wide.All
import OpenK.AllK
import Wide.FinOn
import KE.GoesEnum
import KE.GoesZip
import HandS.ForMost
import HandS.Defaults
import HandS.ExpandTabs
import HandS.Translate
import HandS.Wide
import HandS.IsInst
import HandS.NoneIn
import HandS.StrMore
import HandS.Evl
import HandS.SortInts
import HandS.DictComp
import HandS.Conv
import HandS.HeadHook1
import HandS.OwnEq
import PyProof.InstNe
import HandS.SlotsOwn
import PyProof.FString3
import PyProof.Rows.StrIntSpec
import KE.SortKeyHeap
import HandS.Base
import HandS.Call
import HandS.List
import HandS.Text
import HandS.GenYield
import HandS.GenList
import HandS.GenCall
import HandS.Style
import HandS.Set
import HandS.SetFor
import HandS.SetTxt0
import HandS.Strs
import HandS.TupAny
import HandS.OwnIter
import HandS.IterNext
import HandS.FStr
import KE.KCallOwn
import HandS.SortKw
import PyProof.Rows.RegReprOcc
import HandS.SetKeys
import HandS.WordsDict
import KE.KStateDown
import Lean
import HandS.Head0
import HandS.Head1
import HandS.Head2
import HandS.HeadEnd
import PySem.Challenge.RW_sidesigns_k03_whole_layings_and_uprights
set_option Elab.async false
set_option linter.all false
set_option maxRecDepth 100000
set_option maxHeartbeats 1000000
/-! the head tells properties too -/
namespace Zh
open PySem PySem.Spec PyProof.Rows L2 He
/-- where the getter of x's property m stands -/
def pg (K : PySem.W.Frag) (x m : Str) : Addr := match PySem.W.recIn K (ma K (ga K x) m) "property" with
  | some (.ref g :: _) => g
  | _ => 0
/-- a function that stands at a -/
def lookW (K : PySem.W.Frag) (a : Addr) : FnW := match K.lookup a with
  | some ⟨_, _, .func fd, _⟩ => some (fd.name, fd.qualname, fd.params, fd.body, fd.scope, fd.globals, fd.closure, fd.builtins)
  | _ => none
structure GetD where
  cls : Str
  m : Str
  qual : Str
  params : Arguments
  body : List Stmt
  scope : Scope
def GetD.val (d : GetD) : FnW := some (d.m, d.qual, d.params, .stmts d.body, d.scope, mainGlobals, [], builtinsNs)
/-- keys of the property -/
def propB (K : PySem.W.Frag) (x m : Str) : Bool := decide (PySem.W.findIn K (.ref (ga K x)) m = some (some (.ref (ma K (ga K x) m)))) &&
  (decide (PySem.W.specialIn K (.ref (ma K (ga K x) m)) "__get__" = some (some (.builtin "property.__get__"))) && (decide (PySem.W.takesIn K (.ref (ma K (ga K x) m)) = some true) &&
  (match PySem.W.recIn K (ma K (ga K x) m) "property" with
    | some (.ref _ :: _) => true
    | _ => false)))
/-- the code and the defaults (none) of the function at a -/
def bareB (K : PySem.W.Frag) (a : Addr) (q : Str) : Bool := PySem.W.keepIn K (.ref a) && (match K.lookup a with
  | some ⟨_, _, .func fd, _⟩ => PySem.W.codeIn K fd.code q && (dflB K fd.defaults [] && kwdB K fd.kwdefaults [])
  | _ => false)
def GetD.ok (K : PySem.W.Frag) (d : GetD) : Bool := propB K d.cls d.m && bareB K (pg K d.cls d.m) d.qual
theorem both {a b : Bool} (h : (a && b) = true) : a = true ∧ b = true := by
  cases a <;> cases b <;> first | exact ⟨rfl, rfl⟩ | cases h
theorem prop_ok {K : PySem.W.Frag} {x m : Str} (h : propB K x m = true) : PropOf K (ga K x) m (ma K (ga K x) m) (pg K x m) := by
  obtain ⟨h1, h⟩ := both h
  obtain ⟨h2, h⟩ := both h
  obtain ⟨h3, h4⟩ := both h
  refine ⟨of_decide_eq_true h1, of_decide_eq_true h2, of_decide_eq_true h3, ?_⟩
  unfold pg
  split at h4
  · rename_i g r e
    rw [e]
    exact ⟨r, rfl⟩
  · cases h4
theorem GetD.funD {K : PySem.W.Frag} {d : GetD} (e : lookW K (pg K d.cls d.m) = d.val) (c : bareB K (pg K d.cls d.m) d.qual = true) : ∃ fd, FunD K d.m d.qual d.params d.body d.scope [] [] (pg K d.cls d.m) fd := by
  obtain ⟨kp, k⟩ := both c
  unfold lookW at e
  revert e k
  generalize hq : K.lookup (pg K d.cls d.m) = r
  intro e k
  match r, hq, e, k with
  | some ⟨oc, od, .func ⟨n1, n2, n3, n4, n5, n6, n7, n8, n9, n10, n11, n12, n13, n14, n15⟩, osl⟩, hq, e, k =>
    obtain ⟨k1, k2⟩ := both k
    obtain ⟨k3, k4⟩ := both k2
    unfold GetD.val at e
    simp only [Option.some.injEq, Prod.mk.injEq] at e
    obtain ⟨e1, e2, e3, e4, e5, e6, e7, e8⟩ := e
    subst e1 e2 e3 e4 e5 e6 e7 e8
    exact ⟨_, ⟨oc, od, n8, n9, n10, n11, n12, n13, n14, osl, rfl, hq, k1, dflB_ok k3, kwdB_ok k4⟩, kp⟩
abbrev AlP : Type := AlD × Bool × List FnW
def obsP (fa : List Fa) (fn : List DefD) (gs : List GetD) (ts : List (PySem.W.Frag → Bool)) (K : PySem.W.Frag) : AlP := (obsD fa fn K, ((gs.all fun d => d.ok K) && ts.all fun t => t K), gs.map fun d => lookW K (pg K d.cls d.m))
def valP (fn : List DefD) (gs : List GetD) : AlP := (valD fn, true, gs.map GetD.val)
def SaysP (fa : List Fa) (fn : List DefD) (gs : List GetD) (ts : List (PySem.W.Frag → Bool)) (K : PySem.W.Frag) : Prop := obsP fa fn gs ts K = valP fn gs
def obsPG (n : Nat) (fa : List Fa) (fn : List DefD) (gs : List GetD) (ts : List (PySem.W.Frag → Bool)) (g : Addr → Option Obj) : AlP := obsP fa fn gs ts (frG g (asD g n))
def hookP (n : Nat) (fa : List Fa) (fn : List DefD) (gs : List GetD) (ts : List (PySem.W.Frag → Bool)) : PySem.W.Hook where
  α := AlP
  obs := fun s => obsPG n fa fn gs ts s.heap.get?
  val := fun _ => valP fn gs
  says := fun _ h => ∃ K : PySem.W.Frag, K.In h ∧ SaysP fa fn gs ts K
  of := fun _ _ e => ⟨_, frG_in, e⟩
  keeps := fun _ _ _ ⟨K, hK, c⟩ k => ⟨K, PySem.W.Frag.In.keeps hK k, c⟩
theorem obsPG_eq {n : Nat} {fa : List Fa} {fn : List DefD} {gs : List GetD} {ts : List (PySem.W.Frag → Bool)} {g : Addr → Option Obj} {s : Shared} (h : ∀ a, g a = s.heap.get? a) : obsPG n fa fn gs ts g = (hookP n fa fn gs ts).obs s := by
  rw [show g = s.heap.get? from funext h]
  rfl
section
variable {fa : List Fa} {fn : List DefD} {gs : List GetD} {ts : List (PySem.W.Frag → Bool)} {K : PySem.W.Frag}
theorem SaysP.d (c : SaysP fa fn gs ts K) : SaysD fa fn K := congrArg (fun z : AlP => z.1) c
theorem SaysP.get (c : SaysP fa fn gs ts K) (i : Nat) {d : GetD} (h : gs[i]? = some d := by rfl) : PropOf K (ga K d.cls) d.m (ma K (ga K d.cls) d.m) (pg K d.cls d.m) ∧ ∃ fd, FunD K d.m d.qual d.params d.body d.scope [] [] (pg K d.cls d.m) fd := by
  have h1 : (gs.all fun d => d.ok K) = true := (both (show ((gs.all fun d => d.ok K) && ts.all fun t => t K) = true from congrArg (fun z : AlP => z.2.1) c)).1
  have h2 : gs.map (fun d => lookW K (pg K d.cls d.m)) = gs.map GetD.val := congrArg (fun z : AlP => z.2.2) c
  obtain ⟨h3, h4⟩ := both (List.all_eq_true.mp h1 d (List.mem_of_getElem? h))
  have h5 := congrArg (fun l => l[i]?) h2
  simp only [List.getElem?_map, h, Option.map_some, Option.some.injEq] at h5
  exact ⟨prop_ok h3, GetD.funD h5 h4⟩
theorem SaysP.test (c : SaysP fa fn gs ts K) (i : Nat) {t : PySem.W.Frag → Bool} (h : ts[i]? = some t := by rfl) : t K = true := by
  have h1 : (ts.all fun t => t K) = true := (both (show ((gs.all fun d => d.ok K) && ts.all fun t => t K) = true from congrArg (fun z : AlP => z.2.1) c)).2
  exact List.all_eq_true.mp h1 t (List.mem_of_getElem? h)
end
end Zh

set_option Elab.async false
set_option linter.all false
set_option maxRecDepth 100000
set_option maxHeartbeats 4000000
/-! walks over enumerate(text), enumerate(tuple), zip(text, text) -/
namespace Z
open PySem PySem.Spec PyProof.Rows L2
/-- the signs of a text, as values -/
def signs (x : Str) : List V := x.cps.toList.map fun c => V.str ⟨#[c]⟩
theorem signs_len (x : Str) : (signs x).length = x.cps.size := by unfold signs; simp
/-- enumerate(text): a new pair each -/
def ItEs (x : Str) : It :=
  ⟨fun i _ => i < x.cps.size, fun i H v H' => ∃ T c, v = .ref T ∧ H T = none ∧ H' = upd H T (.tup [.int (i : Nat), .str ⟨#[c]⟩]) ∧ x.cps[i]? = some c, fun i _ => x.cps.size ≤ i⟩
theorem turn_enumS {P : Program} {w : World} {K : PySem.W.Frag} {elts : List Expr} {kk : Nat} {tpos : Pos} (x : Str) (t : Tok) (e it : Addr) :
    Turn P w K (.Tuple elts kk tpos) (ItEs x) [e, it] e (fun i h => i ≤ x.cps.size ∧ (∃ old, IsEnum h e it ((i : Nat) : Int) old) ∧ h.IsStrIter it (strIterType x) x t i ∧ e ≠ it) where
  mem := by simp
  obj := fun i h st b hb => by
    obtain ⟨_, ⟨old, he⟩, ⟨o, ho, hc, hd⟩, _⟩ := st
    have e' : b = e ∨ b = it := by simpa using hb
    rcases e' with z | z
    · rw [z]; exact ⟨_, he, fun v q => nomatch q⟩
    · rw [z]; exact ⟨o, ho, fun v q => by rw [hd] at q; cases q⟩
  keep := fun i h h' st k => by
    obtain ⟨hn, ⟨old, he⟩, ⟨o, ho, r⟩, hne⟩ := st
    exact ⟨hn, ⟨old, k e (by simp) _ he⟩, ⟨o, k it (by simp) o ho, r⟩, hne⟩
  item := by
    intro X hP hw hK hc i pins s σ H E I hf st hg
    subst hP hw hK
    obtain ⟨hn, ⟨old, he⟩, hit, hne⟩ := st
    have hg : i < x.cps.size := hg
    have hel : e < s.heap.objs.size := Heap.lt_size he
    have hil : it < s.heap.objs.size := by obtain ⟨_, q, _⟩ := hit; exact Heap.lt_size q
    have D := Draws.text (prog := X.prog) (w := X.w) (A := X.A.in1) (I.ok.hd hc) it x t
    refine wpAny_pyNext_enum_itemD D he hit hg hne (by simpa using hne) fun u h' tk hu ho hit' hT hsz hk => ?_
    obtain ⟨c, u', hcx, rfl⟩ := hu
    refine ⟨_, rfl, wpAny_letOwnedTupleGo_enum (s := { s with heap := h', toks := tk + 1 }) ho fun h'' he' sb => ?_⟩
    have hT2 : h''.get? s.heap.objs.size = some { cls := .type "tuple", data := .seq #[.int i tk, .str ⟨#[c]⟩ u'] } := (sb.2 _ (Nat.ne_of_gt hel)).trans hT
    have new : ObjOk X.prog X.w (upd H s.heap.objs.size (.tup [.int (i : Nat), .str ⟨#[c]⟩])) h'' s.heap.objs.size (.tup [.int (i : Nat), .str ⟨#[c]⟩]) :=
      ⟨by show 2 ≤ sizeLine; decide, [.int i tk, .str ⟨#[c]⟩ u'], .cons ⟨_, rfl⟩ (.cons ⟨_, rfl⟩ .nil), ⟨_, hT2, rfl, _, rfl⟩⟩
    have I1 : Inv X pins σ (upd H s.heap.objs.size (.tup [.int (i : Nat), .str ⟨#[c]⟩])) { s with heap := h'', toks := tk + 1 } :=
      I.turnedNew (ch := [e, it]) (fun b ob hb q => (sb.2 b (fun z => hb (by simp [z]))).trans (hk b ob (fun z => hb (by simp [z])) (fun z => hb (by simp [z])) q)) hf (Nat.le_refl _) new
    refine ⟨.ref s.heap.objs.size, _, I1, rfl, ⟨_, c, rfl, I.hok.fresh (Nat.le_refl _), rfl, hcx⟩, ⟨hg, ⟨.str ⟨#[c]⟩ u', ?_⟩, ?_, hne⟩, fun b hb => ?_⟩
    · have e1 : ((i + 1 : Nat) : Int) = (i : Int) + 1 := by omega
      rw [e1]; exact he'
    · obtain ⟨o, ho', r⟩ := hit'
      exact ⟨o, (sb.2 it (Ne.symm hne)).trans ho', r⟩
    · have hb' : b < s.heap.objs.size := by
        have e' : b = e ∨ b = it := by simpa using hb
        rcases e' with z | z
        · rw [z]; exact hel
        · rw [z]; exact hil
      rw [upd_ne (Nat.ne_of_lt hb')]
      exact (hf b hb).1
  done := by
    intro X hP hw hK hc i pins s σ H E I hf st hg
    subst hP hw hK
    obtain ⟨hn, ⟨old, he⟩, hit, hne⟩ := st
    have hg : x.cps.size ≤ i := hg
    have ei : i = x.cps.size := by omega
    subst ei
    obtain ⟨f0, f1, f2, f3, f4, f5⟩ := hf it (by simp)
    have D := Draws.text (prog := X.prog) (w := X.w) (A := X.A.in1) (I.ok.hd hc) it x t
    exact wpAny_pyNext_enum_endD D he hit fun h' eb => ⟨rfl, I.turned (t' := s.toks) (fun b o hb q => eb b o hb q) f0 f1 f3 f4 f5⟩
  self := fun A i s Q E st h => let ⟨_, ⟨_, he⟩, _⟩ := st; wpAny_pyIter_enum he h
def iEnumS (ta : TA) : TI := fun σ H R => ta σ H fun vs H1 => ∃ x, vs = [.str x] ∧ R (ItEs x) H1
theorem pi_enumS {X : Cx} {e : Expr} {ta : TA} {p pos tpos : Pos} {elts : List Expr} {kk : Nat} (hg : Gl X "enumerate") (hm : X.mg "enumerate" = none) (ha : PA X [e] ta) (hs : starEach [e] X.env = [(false, eval e X.env)] := by rfl) :
    PI X (.Tuple elts kk tpos) (.Call (.Name "enumerate" p) [e] [] pos) (iEnumS ta) := by
  refine ⟨fun pins s σ H R I h => ?_⟩
  refine Call_ (ld_blt I hg hm boot_enumerate (PyProof.Rows.callWith_type1 (thn (ha.run pos pins s σ H _ I h) fun us s1 ⟨vs, H1, I1, r1, q1⟩ => ?_) hs rfl))
  obtain ⟨x, ex, q⟩ := q1
  subst ex
  cases r1 with
  | cons r rr =>
    cases rr
    obtain ⟨t, rfl⟩ := r
    refine call_enumerate_str fun h' he hit hsz hk => wpAny_pyIter_enum he ?_
    have I2 : Inv X pins σ H1 { s1 with heap := h' } := I1.kept (t' := s1.toks) hk
    refine ⟨s1.heap.objs.size + 1, [s1.heap.objs.size + 1, s1.heap.objs.size], _, _, H1, rfl, I2, turn_enumS x t (s1.heap.objs.size + 1) s1.heap.objs.size, ⟨Nat.zero_le _, ⟨.none, he⟩, hit, Nat.succ_ne_self _⟩, fun b hb => ?_, q⟩
    have e' : b = s1.heap.objs.size + 1 ∨ b = s1.heap.objs.size := by simpa using hb
    have hle : s1.heap.objs.size ≤ b := by
      rcases e' with z | z
      · rw [z]; exact Nat.le_add_right _ _
      · rw [z]; exact Nat.le_refl _
    exact I1.fpOk hle (I1.hok.fresh hle)
/-- enumerate(tuple): a new pair each -/
def ItEt (K : PySem.W.Frag) (a : Addr) : It :=
  ⟨fun i H => ∃ xs x, SqT K H a xs ∧ xs[i]? = some x, fun i H v H' => ∃ T x, v = .ref T ∧ H T = none ∧ H' = upd H T (.tup [.int (i : Nat), x]) ∧ ∀ xs, SqT K H a xs → xs[i]? = some x, fun i H => ∃ xs, SqT K H a xs ∧ xs.length = i⟩
theorem ne_tuple {h : Heap} {e it a : Addr} {i : Int} {old : Value} {its : Array Value} (he : IsEnum h e it i old) (ht : h.IsTuple a its) : e ≠ a := by
  intro z
  subst z
  obtain ⟨o, ho, hc, _⟩ := ht
  rw [he] at ho
  cases ho
  exact absurd hc (by intro h; injection h with h; exact absurd h (by decide))
theorem turn_enumT {P : Program} {w : World} {K : PySem.W.Frag} {elts : List Expr} {kk : Nat} {tpos : Pos} (a e it : Addr) :
    Turn P w K (.Tuple elts kk tpos) (ItEt K a) [e, it] e (fun i h => (∃ old, IsEnum h e it ((i : Nat) : Int) old) ∧ h.IsTupleIter it a i ∧ e ≠ it ∧ a ≠ it) where
  mem := by simp
  obj := fun i h st b hb => by
    obtain ⟨⟨old, he⟩, ⟨o, ho, hc, hd⟩, _⟩ := st
    have e' : b = e ∨ b = it := by simpa using hb
    rcases e' with z | z
    · rw [z]; exact ⟨_, he, fun v q => nomatch q⟩
    · rw [z]; exact ⟨o, ho, fun v q => by rw [hd] at q; cases q⟩
  keep := fun i h h' st k => by
    obtain ⟨⟨old, he⟩, hi, hne⟩ := st
    exact ⟨⟨old, k e (by simp) _ he⟩, hi.at fun o q => k it (by simp) o q, hne⟩
  item := by
    intro X hP hw hK hc i pins s σ H E I hf st hg
    subst hP hw hK
    obtain ⟨⟨old, he⟩, hit, hne, hna⟩ := st
    obtain ⟨xs, x, hq, hx⟩ := hg
    obtain ⟨its, rv, p, hz⟩ := I.tuple hq
    obtain ⟨u, hu, ru⟩ := rv.get hx
    have hlt : i < its.toArray.size := by
      have q := (List.getElem?_eq_some_iff.mp hu).1
      simpa using q
    have hel : e < s.heap.objs.size := Heap.lt_size he
    have hil : it < s.heap.objs.size := by obtain ⟨_, q, _⟩ := hit; exact Heap.lt_size q
    have hea : e ≠ a := ne_tuple he p
    have D := Draws.tuple (prog := X.prog) (w := X.w) (A := X.A.in1) (I.ok.hd hc) it a hna its.toArray
    refine wpAny_pyNext_enum_itemD D he ⟨hit, p⟩ hlt hne (by simp [hne, hea]) fun u1 h' tk hu1 ho hit' hT hsz hk => ?_
    have hu2 : its[i]? = some u1 := by simpa using hu1
    rw [hu] at hu2
    cases hu2
    refine ⟨_, rfl, wpAny_letOwnedTupleGo_enum (s := { s with heap := h', toks := tk + 1 }) ho fun h'' he' sb => ?_⟩
    have hT2 : h''.get? s.heap.objs.size = some { cls := .type "tuple", data := .seq #[.int i tk, u] } := (sb.2 _ (Nat.ne_of_gt hel)).trans hT
    have new : ObjOk X.prog X.w (upd H s.heap.objs.size (.tup [.int (i : Nat), x])) h'' s.heap.objs.size (.tup [.int (i : Nat), x]) :=
      ⟨by show 2 ≤ sizeLine; decide, [.int i tk, u], .cons ⟨_, rfl⟩ (.cons ru .nil), ⟨_, hT2, rfl, _, rfl⟩⟩
    have I1 : Inv X pins σ (upd H s.heap.objs.size (.tup [.int (i : Nat), x])) { s with heap := h'', toks := tk + 1 } :=
      I.turnedNew (ch := [e, it]) (fun b ob hb q => (sb.2 b (fun z => hb (by simp [z]))).trans (hk b ob (fun z => hb (by simp [z])) (fun z => hb (by simp [z])) q)) hf (Nat.le_refl _) new
    refine ⟨.ref s.heap.objs.size, _, I1, rfl, ⟨_, x, rfl, I.hok.fresh (Nat.le_refl _), rfl, fun ys hy => by rw [I.tuple_inj hy hq]; exact hx⟩, ⟨⟨u, ?_⟩, hit'.1.at fun o q => (sb.2 it (Ne.symm hne)).trans q, hne, hna⟩, fun b hb => ?_⟩
    · have e1 : ((i + 1 : Nat) : Int) = (i : Int) + 1 := by omega
      rw [e1]; exact he'
    · have hb' : b < s.heap.objs.size := by
        have e' : b = e ∨ b = it := by simpa using hb
        rcases e' with z | z
        · rw [z]; exact hel
        · rw [z]; exact hil
      rw [upd_ne (Nat.ne_of_lt hb')]
      exact (hf b hb).1
  done := by
    intro X hP hw hK hc i pins s σ H E I hf st hg
    subst hP hw hK
    obtain ⟨⟨old, he⟩, hit, hne, hna⟩ := st
    obtain ⟨xs, hq, hx⟩ := hg
    obtain ⟨its, rv, p, hz⟩ := I.tuple hq
    obtain ⟨f0, f1, f2, f3, f4, f5⟩ := hf it (by simp)
    have hl := rv.length
    have D := Draws.tuple (prog := X.prog) (w := X.w) (A := X.A.in1) (I.ok.hd hc) it a hna its.toArray
    have hi : i = its.toArray.size := by simp; omega
    rw [hi] at hit
    exact wpAny_pyNext_enum_endD D he ⟨hit, p⟩ fun h' eb => ⟨rfl, I.turned (t' := s.toks) (fun b o hb q => eb b o hb q) f0 f1 f3 f4 f5⟩
  self := fun A i s Q E st h => let ⟨⟨_, he⟩, _⟩ := st; wpAny_pyIter_enum he h
set_option maxHeartbeats 1000000 in
theorem meets_enumerate_newB0 {v : Value} {o : Obj} {H : Heap → Prop} (B : Begins v o H) :
    Meets (Builtin.«enumerate.__new__» ⟨[.type "enumerate", v], []⟩) (fun _ R s => H s.heap ∧
      R (.ok (.ret (.ref (s.heap.push o).objs.size))) { s with heap := (s.heap.push o).push { cls := .type "enumerate", data := .fields #[.none, .bool false, .ref s.heap.objs.size, rawInt 0, .none, .none] } }) :=
  .of_wp fun prog w A R s h => by
    obtain ⟨hp, g, d, tk, os⟩ := s; obtain ⟨h1, h⟩ := h
    have hsub := sub_enumerate
    have q1 : ∀ {A' : Around} {E : Value → Shared → Prop} {Q : Value → Shared → Prop}, Q (.ref hp.objs.size) ⟨hp.push o, g, d, tk, os⟩ → wpAny (model prog w) A' (pyIter v) Q E ⟨hp, g, d, tk, os⟩ :=
      fun q => B.iter prog w _ _ ⟨hp, g, d, tk, os⟩ _ h1 q
    wp_walk using q1
    refine wpAny_stack_any fun st => wpAny_pure ?_
    split
    · rename_i c _ _ _ _ _
      cases (c == Value.type "enumerate")
      · wp_walk using q1
        exact ⟨_, rfl, h⟩
      · wp_walk using q1
        exact ⟨_, rfl, h⟩
    · wp_walk using q1
      exact ⟨_, rfl, h⟩
theorem enum_begins0 {prog : Program} {w : World} {A : Around} {E : Value → Shared → Prop} {s : Shared} {v : Value} {o : Obj} {H : Heap → Prop} {Q : Value → Shared → Prop} (B : Begins v o H) (h1 : H s.heap)
    (h : ∀ h', IsEnum h' (s.heap.objs.size + 1) s.heap.objs.size 0 .none → h'.get? s.heap.objs.size = some o → h'.objs.size = s.heap.objs.size + 2 →
      (∀ b o, s.heap.get? b = some o → h'.get? b = some o) → Q (.ref (s.heap.objs.size + 1)) { s with heap := h' }) :
    wpAny (model prog w) A (call (.type "enumerate") [v]) Q E s := by
  refine callType_new F.called_enumerate (by decide) (F.typeCall_enumerate_1 _) (F.newCall_enumerate_1 _) (fun obj => F.args_object_init_2 obj _) F.entry_enumerate_new
    (meets_enumerate_newB0 B) ⟨h1, ?_⟩
  have hz : (s.heap.push o).objs.size = s.heap.objs.size + 1 := Heap.size_push ..
  show _ ∧ _
  rw [hz]
  have he : IsEnum ((s.heap.push o).push { cls := .type "enumerate", data := .fields #[.none, .bool false, .ref s.heap.objs.size, rawInt 0, .none, .none] }) (s.heap.objs.size + 1) s.heap.objs.size 0 .none := by
    have := Heap.get?_push_size (s.heap.push o) (o := { cls := .type "enumerate", data := .fields #[.none, .bool false, .ref s.heap.objs.size, rawInt 0, .none, .none] }) rfl
    rw [hz] at this; exact this
  refine ⟨⟨_, he, rfl⟩, h _ he (Heap.get?_push_of_some _ (Heap.get?_push_size _ B.free)) (by rw [Heap.size_push, hz]) fun b o x => Heap.get?_push_of_some _ (Heap.get?_push_of_some _ x)⟩
def iEnumT (K : PySem.W.Frag) (ta : TA) : TI := fun σ H R => ta σ H fun vs H1 => ∃ a xs, vs = [.ref a] ∧ SqT K H1 a xs ∧ R (ItEt K a) H1
theorem pi_enumT {X : Cx} {e : Expr} {ta : TA} {p pos tpos : Pos} {elts : List Expr} {kk : Nat} (hg : Gl X "enumerate") (hm : X.mg "enumerate" = none) (ha : PA X [e] ta) (hs : starEach [e] X.env = [(false, eval e X.env)] := by rfl) :
    PI X (.Tuple elts kk tpos) (.Call (.Name "enumerate" p) [e] [] pos) (iEnumT X.K ta) := by
  refine ⟨fun pins s σ H R I h => ?_⟩
  refine Call_ (ld_blt I hg hm boot_enumerate (PyProof.Rows.callWith_type1 (thn (ha.run pos pins s σ H _ I h) fun us s1 ⟨vs, H1, I1, r1, q1⟩ => ?_) hs rfl))
  obtain ⟨a, xs, ex, hq, q⟩ := q1
  subst ex
  cases r1 with
  | cons r rr =>
    cases rr
    cases r
    obtain ⟨its, rv, p', hz⟩ := I1.tuple hq
    have hlt : a < s1.heap.objs.size := by obtain ⟨_, q, _⟩ := p'; exact Heap.lt_size q
    refine enum_begins0 (begins_tuple a its.toArray) p' fun h' he hit hsz hk => wpAny_pyIter_enum he ?_
    have I2 : Inv X pins σ H1 { s1 with heap := h' } := I1.kept (t' := s1.toks) hk
    refine ⟨s1.heap.objs.size + 1, [s1.heap.objs.size + 1, s1.heap.objs.size], _, _, H1, rfl, I2, turn_enumT a (s1.heap.objs.size + 1) s1.heap.objs.size, ⟨⟨.none, he⟩, ⟨_, hit, rfl, rfl⟩, Nat.succ_ne_self _, Nat.ne_of_lt hlt⟩, fun b hb => ?_, q⟩
    have e' : b = s1.heap.objs.size + 1 ∨ b = s1.heap.objs.size := by simpa using hb
    have hle : s1.heap.objs.size ≤ b := by
      rcases e' with z | z
      · rw [z]; exact Nat.le_add_right _ _
      · rw [z]; exact Nat.le_refl _
    exact I1.fpOk hle (I1.hok.fresh hle)
/-- zip(text, text): a new pair each -/
def ItZs (x y : Str) : It :=
  ⟨fun i _ => i < min x.cps.size y.cps.size, fun i H v H' => ∃ T c d, v = .ref T ∧ H T = none ∧ H' = upd H T (.tup [.str ⟨#[c]⟩, .str ⟨#[d]⟩]) ∧ x.cps[i]? = some c ∧ y.cps[i]? = some d, fun i _ => min x.cps.size y.cps.size ≤ i⟩
theorem turn_zipS {P : Program} {w : World} {K : PySem.W.Frag} {elts : List Expr} {kk : Nat} {tpos : Pos} {x y : Str} {t1 t2 : Tok} {z TI TO i1 i2 : Addr} (S : ZipSep2 z TI TO i1 i2 [i1] [i2]) :
    Turn P w K (.Tuple elts kk tpos) (ItZs x y) [z, TI, TO, i1, i2] z (fun i h => i ≤ min x.cps.size y.cps.size ∧ IsZip h z TI TO .none ∧ IsTupOf2 h TI (.ref i1) (.ref i2) ∧ (∃ a b, IsTupOf2 h TO a b) ∧ h.IsStrIter i1 (strIterType x) x t1 i ∧ h.IsStrIter i2 (strIterType y) y t2 i) where
  mem := by simp
  obj := fun i h st c hc => by
    obtain ⟨_, hz, hTI, ⟨x, y, hTO⟩, ⟨o1, e1, _, d1⟩, ⟨o2, e2, _, d2⟩⟩ := st
    have e' : c = z ∨ c = TI ∨ c = TO ∨ c = i1 ∨ c = i2 := by simpa using hc
    rcases e' with q | q | q | q | q
    · rw [q]; exact ⟨_, hz, fun v q => nomatch q⟩
    · rw [q]; exact ⟨_, hTI, fun v q => nomatch q⟩
    · rw [q]; exact ⟨_, hTO, fun v q => nomatch q⟩
    · rw [q]; exact ⟨o1, e1, fun v q => by rw [d1] at q; cases q⟩
    · rw [q]; exact ⟨o2, e2, fun v q => by rw [d2] at q; cases q⟩
  keep := fun i h h' st k => by
    obtain ⟨hn, hz, hTI, ⟨x, y, hTO⟩, ⟨o1, e1, r1⟩, ⟨o2, e2, r2⟩⟩ := st
    exact ⟨hn, k z (by simp) _ hz, k TI (by simp) _ hTI, ⟨x, y, k TO (by simp) _ hTO⟩, ⟨o1, k i1 (by simp) _ e1, r1⟩, ⟨o2, k i2 (by simp) _ e2, r2⟩⟩
  item := by
    intro X hP hw hK hc i pins s σ H E I hf st hg
    subst hP hw hK
    obtain ⟨hn, hz, hTI, ⟨x0, y0, hTO⟩, h1, h2⟩ := st
    have hg : i < min x.cps.size y.cps.size := hg
    have D1 := Draws.text (prog := X.prog) (w := X.w) (A := X.A.in1) (I.ok.hd hc) i1 x t1
    have D2 := Draws.text (prog := X.prog) (w := X.w) (A := X.A.in1) (I.ok.hd hc) i2 y t2
    have hzl : z < s.heap.objs.size := Heap.lt_size hz
    refine wpAny_pyNext_zipD2_item S D1 D2 hz hTI hTO h1 h2 (Nat.lt_of_lt_of_le hg (Nat.min_le_left _ _)) (Nat.lt_of_lt_of_le hg (Nat.min_le_right _ _)) fun u1 u2 h' tk p1 p2 z' TO' h1' h2' hT hsz hk => ?_
    obtain ⟨c, q1, hcx, rfl⟩ := p1
    obtain ⟨d, q2, hdx, rfl⟩ := p2
    refine ⟨_, rfl, wpAny_letOwnedTupleGo_zip (s := { s with heap := h', toks := tk }) z' fun h'' z'' sb => ?_⟩
    have hT2 : h''.get? s.heap.objs.size = some { cls := .type "tuple", data := .seq #[.str ⟨#[c]⟩ q1, .str ⟨#[d]⟩ q2] } := (sb.2 _ (Nat.ne_of_gt hzl)).trans hT
    have new : ObjOk X.prog X.w (upd H s.heap.objs.size (.tup [.str ⟨#[c]⟩, .str ⟨#[d]⟩])) h'' s.heap.objs.size (.tup [.str ⟨#[c]⟩, .str ⟨#[d]⟩]) :=
      ⟨by show 2 ≤ sizeLine; decide, [.str ⟨#[c]⟩ q1, .str ⟨#[d]⟩ q2], .cons ⟨_, rfl⟩ (.cons ⟨_, rfl⟩ .nil), ⟨_, hT2, rfl, _, rfl⟩⟩
    have I1 : Inv X pins σ (upd H s.heap.objs.size (.tup [.str ⟨#[c]⟩, .str ⟨#[d]⟩])) { s with heap := h'', toks := tk } :=
      I.turnedNew (ch := [z, TI, TO, i1, i2]) (fun c o hb q => (sb.2 c (fun q' => hb (by simp [q']))).trans (hk c o (fun q' => hb (by simp [q'])) (fun q' => hb (by simp [q'])) (fun q' => hb (by simp [q'])) (fun q' => hb (by simp [q'])) q)) hf (Nat.le_refl _) new
    refine ⟨.ref s.heap.objs.size, _, I1, rfl, ⟨_, c, d, rfl, I.hok.fresh (Nat.le_refl _), rfl, hcx, hdx⟩, ⟨hg, z'', ?_, ⟨.str ⟨#[c]⟩ q1, .str ⟨#[d]⟩ q2, ?_⟩, ?_, ?_⟩, fun c hcm => ?_⟩
    · exact (sb.2 _ S.TIz).trans (hk _ _ S.TIz S.TITO S.TIi1 S.TIi2 hTI)
    · exact (sb.2 _ S.TOz).trans TO'
    · obtain ⟨o, ho, r⟩ := h1'
      exact ⟨o, (sb.2 _ (Ne.symm S.zi1)).trans ho, r⟩
    · obtain ⟨o, ho, r⟩ := h2'
      exact ⟨o, (sb.2 _ (Ne.symm S.zi2)).trans ho, r⟩
    · have hlt : c < s.heap.objs.size := by
        have e' : c = z ∨ c = TI ∨ c = TO ∨ c = i1 ∨ c = i2 := by simpa using hcm
        rcases e' with q | q | q | q | q
        · rw [q]; exact hzl
        · rw [q]; exact Heap.lt_size hTI
        · rw [q]; exact Heap.lt_size hTO
        · rw [q]; obtain ⟨_, e1, _⟩ := h1; exact Heap.lt_size e1
        · rw [q]; obtain ⟨_, e2, _⟩ := h2; exact Heap.lt_size e2
      rw [upd_ne (Nat.ne_of_lt hlt)]
      exact (hf c hcm).1
  done := by
    intro X hP hw hK hc i pins s σ H E I hf st hg
    subst hP hw hK
    obtain ⟨hn, hz, hTI, ⟨x0, y0, hTO⟩, h1, h2⟩ := st
    have hg : min x.cps.size y.cps.size ≤ i := hg
    have D1 := Draws.text (prog := X.prog) (w := X.w) (A := X.A.in1) (I.ok.hd hc) i1 x t1
    have D2 := Draws.text (prog := X.prog) (w := X.w) (A := X.A.in1) (I.ok.hd hc) i2 y t2
    exact wpAny_pyNext_zipD2_end S D1 D2 hz hTI hTO h1 h2 (by omega) (by omega) (by omega) fun h' tk hk => ⟨rfl, I.turnedL (t' := tk) (ch := [z, TI, TO, i1, i2]) (fun c o hb q =>
      hk c o (fun q' => hb (by simp [q'])) (fun q' => hb (by simp [q'])) (fun q' => hb (by simp [q'])) (fun q' => hb (by simp [q'])) q) hf⟩
  self := fun A i s Q E st h => wpAny_pyIter_zip st.2.1 h
def iZipS (ta : TA) : TI := fun σ H R => ta σ H fun vs H1 => ∃ x y, vs = [.str x, .str y] ∧ R (ItZs x y) H1
theorem pi_zipS {X : Cx} {e e2 : Expr} {ta : TA} {p pos tpos : Pos} {elts : List Expr} {kk : Nat} (hg : Gl X "zip") (hm : X.mg "zip" = none) (ha : PA X [e, e2] ta)
    (hs : starEach [e, e2] X.env = (false, eval e X.env) :: starEach [e2] X.env := by rfl) (hpl : (backTo pos (starEach [e2] X.env)).any (·.1) = false := by rfl) :
    PI X (.Tuple elts kk tpos) (.Call (.Name "zip" p) [e, e2] [] pos) (iZipS ta) := by
  refine ⟨fun pins s σ H R I h => ?_⟩
  refine Call_ (ld_blt I hg hm PyProof.Rows.boot_zip (PyProof.Rows.callWith_type1 (thn (ha.run pos pins s σ H _ I h) fun us s1 ⟨vs, H1, I1, r1, q1⟩ => ?_) hs hpl))
  obtain ⟨x, y, ex, q⟩ := q1
  subst ex
  cases r1 with
  | cons r rr =>
    cases rr with
    | cons r' rr =>
      cases rr
      obtain ⟨t1, rfl⟩ := r
      obtain ⟨t2, rfl⟩ := r'
      refine zip_begins2 (begins_text x t1) (begins_text y t2) trivial trivial fun h' hz hTI hTO h1 h2 hsz hk => wpAny_pyIter_zip hz ?_
      have I2 : Inv X pins σ H1 { s1 with heap := h' } := I1.kept (t' := s1.toks) hk
      have S : ZipSep2 (s1.heap.objs.size + 4) (s1.heap.objs.size + 2) (s1.heap.objs.size + 3) s1.heap.objs.size (s1.heap.objs.size + 1) [s1.heap.objs.size] [s1.heap.objs.size + 1] := zip_sep2 (by simp) (by simp)
      refine ⟨s1.heap.objs.size + 4, [s1.heap.objs.size + 4, s1.heap.objs.size + 2, s1.heap.objs.size + 3, s1.heap.objs.size, s1.heap.objs.size + 1], _, _, H1, rfl, I2, turn_zipS (t1 := t1) (t2 := t2) S, ⟨Nat.zero_le _, hz, hTI, ⟨_, _, hTO⟩, ⟨_, h1, rfl, rfl⟩, ⟨_, h2, rfl, rfl⟩⟩, fun c hcm => ?_, q⟩
      have e' : c = s1.heap.objs.size + 4 ∨ c = s1.heap.objs.size + 2 ∨ c = s1.heap.objs.size + 3 ∨ c = s1.heap.objs.size ∨ c = s1.heap.objs.size + 1 := by simpa using hcm
      have hle : s1.heap.objs.size ≤ c := by
        rcases e' with z | z | z | z | z
        · rw [z]; exact Nat.le_add_right _ _
        · rw [z]; exact Nat.le_add_right _ _
        · rw [z]; exact Nat.le_add_right _ _
        · rw [z]; exact Nat.le_refl _
        · rw [z]; exact Nat.le_add_right _ _
      exact I1.fpOk hle (I1.hok.fresh hle)
end Z

set_option Elab.async false
set_option linter.all false
set_option maxRecDepth 100000
set_option maxHeartbeats 4000000
/-! s.translate(str.maketrans("+-", "-+")) -/
namespace Z
open PySem PySem.Spec PyProof.Rows L2
theorem cls_mk (K : PySem.W.Frag) : PySem.W.findCls K (.type "str") (.type "type") (Str.ofString "maketrans") = some (.val (.builtin "str.maketrans")) := by
  first
    | kernel_rfl
    | rfl
section
variable {prog : Program} {w : World} {A : Around} {E : Value → Shared → Prop} {s : Shared}
theorem getm_mk {K : PySem.W.Frag} {pl : Sem Bool} {Q : Value × List Value → Shared → Prop} (X : K.In s.heap) (h : Q (.builtin "str.maketrans", []) { s with toks := s.toks + 1 }) :
    wpAny (model prog w) A (getMethod (.type "str") (Str.ofString "maketrans") pl) Q E s := by
  have hstub : opaqueClassAbove (.type "str") = pure none := by unfold opaqueClassAbove; dsimp only; rw [show Manifest.isStub "str" = false by decide +kernel]; all_goals rfl
  have ht : typeOf (.type "str") = pure (.type "type") := by first | rfl | kernel_rfl
  have L0 : PySem.W.Looks (model prog w) s.heap (typeOf (.type "str")) (.type "type") := PySem.W.Looks.of_pure ht
  have hg : PySem.W.findIn K (.type "type") "__getattribute__" = some (some (.builtin "type.__getattribute__")) := PySem.W.type_tga
  unfold getMethod specialOf
  refine wpAny_bind (wpAny_bind (L0.here ((PySem.W.looks_findIn X hg).here ?_)))
  dsimp only
  rw [if_pos PySem.W.canon_tga]
  refine wpAny_bind (wpAny_mono (Q := fun v => Q (v, [])) (E := E) ?_ (fun _ _ z => wpAny_pure z) fun _ _ z => z)
  have LO : PySem.W.Looks (model prog w) s.heap (opaqueClassAbove (.type "str")) none := PySem.W.Looks.of_pure hstub
  refine PySem.W.cls_open X LO L0 hg (PySem.W.looks_hook X (r := none) (by rfl)) (by show PySem.W.subIn K _ _ = _; rfl) (cls_mk K) ?_
  show wpAny _ _ (ret _) _ _ _
  exact wpAny_pure (wpAny_pure h)
theorem entry_mk : entryFor table "str.maketrans" = some Builtin.«str.maketrans» := entryFor_of_tree (by kernel_rfl)
/-- the swap of 43 and 45 -/
def swp : List (Key × Value) → Prop := fun kvs => ∃ a b : Tok, kvs = [(.inl 43, .int 45 a), (.inl 45, .int 43 b)]
theorem run_mk (t1 t2 : Tok) : MeetsIn prog w (Builtin.«str.maketrans» ⟨[.str "+-" t1, .str "-+" t2], []⟩) (fun A R s =>
    ∀ h' tk kvs, swp kvs → h'.DictOf (mixKind prog w) s.heap.objs.size kvs → (∀ b o, s.heap.get? b = some o → h'.get? b = some o) → R (.ok (.ret (.ref s.heap.objs.size))) { s with heap := h', toks := tk }) := by
  refine .of_wp fun A R s h => ?_
  obtain ⟨hp, g, d, tk, os⟩ := s
  unfold Builtin.«str.maketrans»
  refine wpAny_bind (wpAny_of_eq (a := ()) (by first | rfl | kernel_rfl) ?_)
  refine wpAny_bind (wpAny_of_eq (a := ()) (by first | rfl | kernel_rfl) ?_)
  dsimp only
  refine wpAny_bind (wpAny_of_eq (a := some (Str.ofString "-+")) (by first | rfl | kernel_rfl) ?_)
  refine wpAny_bind (wpAny_of_eq (a := none) (by first | rfl | kernel_rfl) ?_)
  unfold newDict
  refine wpAny_bind (wpAny_newObj_type ?_)
  dsimp only
  have hD0 : (hp.push { cls := .type "dict", data := .dict #[] }).DictOf (mixKind prog w) hp.objs.size [] := Heap.DictOf.new hp
  refine wpAny_bind (wpAny_holding ?_)
  refine wpAny_bind (wpAny_of_eq (a := some (Str.ofString "+-")) (by first | rfl | kernel_rfl) ?_)
  dsimp only
  refine PySem.W.KFB.if_not (by decide +kernel) ?_
  rw [show (Str.ofString "+-").cps.toList.zip (Str.ofString "-+").cps.toList = [(43, 45), (45, 43)] by decide +kernel]
  simp only [List.forIn_cons, List.forIn_nil, bind_assoc, pure_bind]
  refine wpAny_bind (wpAny_mkInt ?_)
  refine wpAny_bind (wpAny_mkInt ?_)
  refine wpAny_bind (wpAny_dictSet_pairs (knd := mixKind prog w) (k := .inl 43) (kV_is (k := .inl 43) ⟨_, rfl⟩) hD0 (fun h1 hd1 sb1 => ?_) (by decide))
  dsimp only at hd1 sb1 ⊢
  refine wpAny_bind (wpAny_mkInt ?_)
  refine wpAny_bind (wpAny_mkInt ?_)
  have e1 : stored ([] : List (Key × Value)) (.inl 43) (.int (45 : Nat) (tk + 1)) = [(.inl 43, .int (45 : Nat) (tk + 1))] := rfl
  rw [e1] at hd1
  refine wpAny_bind (wpAny_dictSet_pairs (knd := mixKind prog w) (k := .inl 45) (kV_is (k := .inl 45) ⟨_, rfl⟩) hd1 (fun h2 hd2 sb2 => ?_) (by show 1 ≤ sizeLine; decide))
  dsimp only at hd2 sb2 ⊢
  refine wpAny_bind (wpAny_of_eq (a := PUnit.unit) (by first | rfl | kernel_rfl) ?_)
  refine wpAny_pure (wpAny_pure ⟨_, rfl, h h2 _ _ ⟨_, _, rfl⟩ hd2 fun b o z => ?_⟩)
  have hb : b ≠ hp.objs.size := Nat.ne_of_lt (Heap.lt_size z)
  exact (sb2.2 b hb).trans ((sb1.2 b hb).trans (Heap.get?_push_of_some _ z))
theorem plain_mk : plainId "str.maketrans" = true := by decide +kernel
theorem check_mk (t1 t2 : Tok) : checkBuiltinCall "str.maketrans" ⟨[.str "+-" t1, .str "-+" t2], []⟩ = pure () := by first | kernel_rfl | rfl
theorem call_mk {t1 t2 : Tok} {Q : Value → Shared → Prop}
    (h : ∀ h' tk kvs, swp kvs → h'.DictOf (mixKind prog w) s.heap.objs.size kvs → (∀ b o, s.heap.get? b = some o → h'.get? b = some o) → Q (.ref s.heap.objs.size) { s with heap := h', toks := tk }) :
    wpAny (model prog w) A (call (.builtin "str.maketrans") [.str "+-" t1, .str "-+" t2]) Q E s :=
  wpAny_call (codeAny_call_builtin plain_mk entry_mk (wpAny_of_eq (a := ()) (check_mk t1 t2) (run_mk t1 t2 A (wants Q E) s h)))
end
/-- the table of the swap -/
def swpV : List (Key × V) := [(.inl 43, .int 45), (.inl 45, .int 43)]
def tMk : TE := fun _ H Q => ∀ p, H p = none → Q (.ref p) (upd H p (.dK swpV))
section
variable {X : Cx}
theorem pe_mk {pl : Sem Bool} {e1 e2 : Expr} {p apos pos j1 p1 j2 p2} (hg : Gl X "str") (hm : X.mg "str" = none)
    (h1 : e1 = .Constant (.str "+-") j1 p1 := by rfl) (h2 : e2 = .Constant (.str "-+") j2 p2 := by rfl)
    (he : eval (.Call (.Attribute (.Name "str" p) "maketrans" apos) [e1, e2] [] pos) X.env = (do
      let ov ← eval (.Name "str" p) X.env
      standAt apos.atName
      let (f, first) ← holding [ov] (getMethod ov "maketrans" pl)
      callWith pos f first (backTo pos (starEach [e1, e2] X.env)) (backToKw pos (keywordEach [] X.env))) := by rfl)
    (hs : starEach [e1, e2] X.env = (false, eval e1 X.env) :: starEach [e2] X.env := by rfl) (hs2 : starEach [e2] X.env = (false, eval e2 X.env) :: starEach [] X.env := by rfl)
    (hpl : (backTo pos (starEach [e2] X.env)).any (·.1) = false := by rfl) : PE X (.Call (.Attribute (.Name "str" p) "maketrans" apos) [e1, e2] [] pos) tMk := by
  subst h1 h2
  refine ⟨fun pins s σ H Q I h => ?_⟩
  refine PySem.W.methodCall_KW (ld_blt I hg hm PyProof.Rows.boot_str ?_ (by decide) (by decide)) he
  refine getm_mk I.kIn ?_
  have I1 : Inv X pins σ H { s with toks := s.toks + 1 } := I.tok _
  have ha : PA X [.Constant (.str "+-") j1 p1, .Constant (.str "-+") j2 p2] (tCons (tC (.str "+-")) (tCons (tC (.str "-+")) tNil)) := pa_cons pe_str (pa_cons pe_str pa_nil)
  show wpAny _ _ (callWith pos (.builtin "str.maketrans") [] (backTo pos (starEach [.Constant (.str "+-") j1 p1, .Constant (.str "-+") j2 p2] X.env)) []) _ _ _
  refine PyProof.Rows.callWith_builtin1 (thn (ha.run pos pins _ σ H (fun vs H1 => H1 = H ∧ vs = [.str "+-", .str "-+"]) I1 ⟨rfl, rfl⟩) fun us s1 ⟨vs, H1, I2, r, e1, e2⟩ => ?_) hs hpl
  subst e1 e2
  obtain ⟨u, w', rfl, ⟨t, rfl⟩, ⟨t', rfl⟩⟩ := vals2 r
  refine call_mk fun h' tk kvs ⟨a, b, ek⟩ hD hk => ?_
  subst ek
  have hsys : (s1.heap.objs.size == sysModules) = false := beq_eq_false_iff_ne.mpr (Ne.symm (Nat.ne_of_lt I2.big))
  have rel : KV swpV [(.inl 43, .int 45 a), (.inl 45, .int 43 b)] := .cons ⟨rfl, _, rfl⟩ (.cons ⟨rfl, _, rfl⟩ .nil)
  exact ⟨.ref s1.heap.objs.size, _, I2.laid (t' := tk) (o := .dK swpV) hk (Nat.le_refl _) (dk_new (by show 2 ≤ sizeLine; decide) hsys rel hD), rfl, h _ (I2.hok.fresh (Nat.le_refl _))⟩
end
/-- a sign, swapped -/
def sw (c : Nat) : Nat := if c = 43 then 45 else if c = 45 then 43 else c
end Z

set_option Elab.async false
set_option linter.all false
set_option maxRecDepth 100000
set_option maxHeartbeats 4000000
namespace Z
open PySem PySem.Spec PyProof.Rows L2
open PySem.Builtin PySem.Builtin.Str
theorem sw_43 : sw 43 = 45 := rfl
theorem sw_45 : sw 45 = 43 := rfl
theorem sw_no {c : Nat} (h1 : c ≠ 43) (h2 : c ≠ 45) : sw c = c := by unfold sw; rw [if_neg h1, if_neg h2]
theorem mapOfK {prog : Program} {w : World} {h h' : Heap} {a : Addr} {f : Key → Option Value} (m : h.MapOf (mixKind prog w) a f) (k : ∀ b o, h.get? b = some o → h'.get? b = some o) : h'.MapOf (mixKind prog w) a f := by
  obtain ⟨o, es, ep, ho, r⟩ := m
  exact ⟨o, es, ep, k _ _ ho, r⟩
def TellsS (f : Key → Option Value) : Prop := (∃ t, f (.inl 43) = some (.int 45 t)) ∧ (∃ t, f (.inl 45) = some (.int 43 t)) ∧ ∀ c : Nat, c ≠ 43 → c ≠ 45 → f (.inl (c : Int)) = none
section
variable {prog : Program} {w : World} {A : Around} {E : Value → Shared → Prop} {s : Shared} {d : Addr} {c : Nat}
theorem wpAny_tlS {f : Key → Option Value} {Q : Mapped → Shared → Prop} (hh : A.handled = none) (hd : (d == sysModules) = false) (hm : s.heap.MapOf (mixKind prog w) d f) (hk : TellsS f)
    (h1 : c = 43 → ∀ h' k, (∀ b o, s.heap.get? b = some o → h'.get? b = some o) → Q (.char 45) { s with heap := h', toks := k })
    (h3 : c = 45 → ∀ h' k, (∀ b o, s.heap.get? b = some o → h'.get? b = some o) → Q (.char 43) { s with heap := h', toks := k })
    (h2 : c ≠ 43 → c ≠ 45 → ∀ h' k, (∀ b o, s.heap.get? b = some o → h'.get? b = some o) → Q .keep { s with heap := h', toks := k }) : wpAny (model prog w) A (tableLookup (.ref d) c) Q E s := by
  unfold tableLookup
  refine wpAny_bind (wpAny_attempt (wpAny_bind (wpAny_mkInt ?_)))
  obtain ⟨⟨t, k1⟩, ⟨t', k2⟩, k3⟩ := hk
  by_cases c1 : c = 43
  · subst c1
    refine wpAny_getItem_of (knd := mixKind prog w) (k := .inl 43) (kV_is (k := .inl 43) ⟨_, rfl⟩) hm k1 ?_
    show wpAny _ _ (do let o ← asInt? (Value.int 45 t); _) _ _ _
    refine wpAny_bind (wpAny_of_eq (a := some 45) rfl ?_)
    show wpAny _ _ (if (decide ((45 : Int) < 0) || decide ((45 : Int) > 0x10FFFF)) = true then _ else pure (Mapped.char (45 : Int).toNat)) _ _ _
    rw [if_neg (by decide)]
    exact wpAny_pure (h1 rfl s.heap _ fun _ _ e => e)
  · by_cases c2 : c = 45
    · subst c2
      refine wpAny_getItem_of (knd := mixKind prog w) (k := .inl 45) (kV_is (k := .inl 45) ⟨_, rfl⟩) hm k2 ?_
      show wpAny _ _ (do let o ← asInt? (Value.int 43 t'); _) _ _ _
      refine wpAny_bind (wpAny_of_eq (a := some 43) rfl ?_)
      show wpAny _ _ (if (decide ((43 : Int) < 0) || decide ((43 : Int) > 0x10FFFF)) = true then _ else pure (Mapped.char (43 : Int).toNat)) _ _ _
      rw [if_neg (by decide)]
      exact wpAny_pure (h3 rfl s.heap _ fun _ _ e => e)
    · refine wpAny_getItem_missing_of (knd := mixKind prog w) (k := .inl (c : Int)) (kV_is (k := .inl (c : Int)) ⟨_, rfl⟩) hd hh hm (k3 c c1 c2) fun h' e hx => ?_
      show wpAny _ _ (do let b ← isInstance (.ref e) (.type "LookupError"); _) _ _ _
      obtain ⟨ob, t, ho, hc, _⟩ := hx.there
      refine wpAny_bind (wpAny_isInstance (T := "KeyError") (b := true) ⟨ob, ho, hc⟩ key_is_lookup ?_)
      show wpAny _ _ (if true = true then (do rule "str.translate.not-in-table"; pure Mapped.keep) else _) _ _ _
      rw [if_pos rfl]
      exact wpAny_bind (wpAny_rule (wpAny_pure (h2 c1 c2 h' _ hx.keeps)))
end
theorem pieces_sw : ∀ (l : List Nat) (acc : Array Nat), List.foldl (fun acc (p : Str) => acc ++ p.cps) acc (l.map fun c => (⟨#[sw c]⟩ : Str)) = acc ++ (l.map sw).toArray
  | [], acc => by
    show acc = acc ++ #[]
    rw [Array.append_empty]
  | c :: l, acc => by
    rw [List.map_cons, List.foldl_cons, pieces_sw l]
    apply Array.toList_inj.mp
    simp
def TrS (x : List Nat) (fast0 : Bool) (s : Shared) (rest : List Nat) (st : List Str × Nat × Bool × List (Nat × Option Nat) × Bool) (s' : Shared) : Prop :=
  ∃ (past : List Nat) (pieces : List Str) (known : List (Nat × Option Nat)) (h' : Heap) (k : Nat), x = past ++ rest ∧ st = (pieces, past.length, fast0, known, false) ∧ pieces.reverse = past.map (fun c => (⟨#[sw c]⟩ : Str)) ∧
    (∀ c a, List.lookup c known = some a → a = some (sw c)) ∧ s' = { s with heap := h', toks := k } ∧ ∀ b o, s.heap.get? b = some o → h'.get? b = some o
theorem TrS.next {x : List Nat} {fast0 : Bool} {s : Shared} {rest past : List Nat} {c : Nat} {pieces : List Str} {known : List (Nat × Option Nat)} {h' : Heap} {k : Nat} (h1 : x = past ++ c :: rest)
    (h3 : pieces.reverse = past.map (fun c => (⟨#[sw c]⟩ : Str))) (h4 : ∀ c a, List.lookup c known = some a → a = some (sw c)) (h6 : ∀ b o, s.heap.get? b = some o → h'.get? b = some o) :
    TrS x fast0 s rest (⟨#[sw c]⟩ :: pieces, past.length + 1, fast0, known, false) { s with heap := h', toks := k } := by
  refine ⟨past ++ [c], ⟨#[sw c]⟩ :: pieces, known, h', k, ?_, ?_, ?_, h4, rfl, h6⟩
  · rw [h1, List.append_assoc] <;> rfl
  · rw [List.length_append] <;> rfl
  · rw [List.reverse_cons, h3, List.map_append] <;> rfl
theorem meets_tr {prog : Program} {w : World} (x : List Nat) (t : Tok) (d : Addr) (hd : (d == sysModules) = false) (hz : x.length ≤ 16000000) : MeetsIn prog w («str.translate» ⟨[.str (SX.S x) t, .ref d], []⟩) (fun A R s =>
    A.handled = none ∧ (∃ f, s.heap.MapOf (mixKind prog w) d f ∧ TellsS f) ∧ ∀ (v : Value) (h' : Heap) (k : Nat), (∀ b o, s.heap.get? b = some o → h'.get? b = some o) → (∃ t', v = .str (SX.S (x.map sw)) t') → R (.ok (.ret v)) { s with heap := h', toks := k }) := by
  refine .of_wp fun A R s h => ?_
  obtain ⟨hh, ⟨f, hm, hk⟩, h⟩ := h
  have hh1 : A.in1.handled = none := hh
  show wpAny _ _ (if ((SX.S x).length == 0) = true then (do rule "str.translate.empty"; ret (.str (SX.S x) t)) else (do
    let st ← forIn (SX.S x).cps (([], 0, (SX.S x).cps.all fun y => decide (y < 128), [], false) : List Str × Nat × Bool × List (Nat × Option Nat) × Bool) _
    _)) _ _ s
  by_cases h0 : ((SX.S x).length == 0) = true
  · rw [if_pos h0]
    have hx : x = [] := by
      rw [beq_iff_eq, SX.S_len] at h0
      exact List.eq_nil_of_length_eq_zero h0
    subst hx
    exact wpAny_bind (wpAny_rule (wpAny_pure ⟨_, rfl, h _ s.heap s.toks (fun _ _ e => e) ⟨t, rfl⟩⟩))
  · rw [if_neg h0]
    generalize ((SX.S x).cps.all fun y => decide (y < 128)) = fast0
    refine wpAny_bind (MeetsSeq2.wpAny_forIn_array _ (TrS x fast0 s) _ (fun c rest st s' hI => ?turn) (fun st s' hI => ?fin) (SX.S x).cps ([], 0, fast0, [], false) ?h0)
    case h0 =>
      refine ⟨[], [], [], s.heap, s.toks, ?_, rfl, rfl, fun c a z => ?_, rfl, fun _ _ e => e⟩
      · show x = [] ++ x.toArray.toList
        rw [List.toList_toArray, List.nil_append]
      · rw [List.lookup_nil] at z
        cases z
    case turn =>
      obtain ⟨past, pieces, known, h', k, e1, e2, e3, e4, e5, e6⟩ := hI
      subst e2
      subst e5
      have hpl : past.length ≤ 16000000 := by
        have q := congrArg List.length e1
        rw [List.length_append] at q
        omega
      have hm' : ({ s with heap := h', toks := k } : Shared).heap.MapOf (mixKind prog w) d f := mapOfK hm e6
      show wpAny _ _ (if tooLong past.length = true then _ else (if fast0 = true then _ else _)) _ _ _
      rw [show tooLong past.length = false from PyProof.Rows.short24 (by omega), if_neg Bool.false_ne_true]
      cases fast0 with
      | true =>
        rw [if_pos rfl]
        cases hl : List.lookup c known with
        | some a =>
          have ha := e4 c a hl
          subst ha
          refine wpAny_bind (wpAny_pure ?_)
          exact wpAny_pure (TrS.next e1 e3 e4 e6)
        | none =>
          have new : ∀ b, b = some (sw c) → ∀ c' a, List.lookup c' ((c, b) :: known) = some a → a = some (sw c') := fun b hb c' a z => by
            rcases lookup_new z with ⟨q1, q2⟩ | q
            · rw [q2, hb, q1]
            · exact e4 c' a q
          refine wpAny_bind (wpAny_tlS hh1 hd hm' hk (fun hw h2 k2 k3 => ?_) (fun hw h2 k2 k3 => ?_) (fun hw hw2 h2 k2 k3 => ?_))
          · subst hw
            refine wpAny_bind (wpAny_pure ?_)
            refine wpAny_pure ?_
            exact TrS.next (c := 43) (fast0 := true) (k := k2) (known := (43, some 45) :: known) e1 e3 (new (some 45) rfl) (fun b o z => k3 b o (e6 b o z))
          · subst hw
            refine wpAny_bind (wpAny_pure ?_)
            refine wpAny_pure ?_
            exact TrS.next (c := 45) (fast0 := true) (k := k2) (known := (45, some 43) :: known) e1 e3 (new (some 43) rfl) (fun b o z => k3 b o (e6 b o z))
          · have e : sw c = c := sw_no hw hw2
            refine wpAny_bind (wpAny_pure ?_)
            refine wpAny_pure ?_
            have q := TrS.next (fast0 := true) (k := k2) (known := (c, some c) :: known) e1 e3 (new (some c) (by rw [e])) (fun b o z => k3 b o (e6 b o z))
            rw [e] at q
            exact q
      | false =>
        rw [if_neg Bool.false_ne_true]
        show wpAny _ _ (if false = true then _ else _) _ _ _
        rw [if_neg Bool.false_ne_true]
        refine wpAny_bind (wpAny_tlS hh1 hd hm' hk (fun hw h2 k2 k3 => ?_) (fun hw h2 k2 k3 => ?_) (fun hw hw2 h2 k2 k3 => ?_))
        · subst hw
          refine wpAny_pure ?_
          exact TrS.next (c := 43) (fast0 := false) (k := k2) e1 e3 e4 (fun b o z => k3 b o (e6 b o z))
        · subst hw
          refine wpAny_pure ?_
          exact TrS.next (c := 45) (fast0 := false) (k := k2) e1 e3 e4 (fun b o z => k3 b o (e6 b o z))
        · have e : sw c = c := sw_no hw hw2
          refine wpAny_pure ?_
          have q := TrS.next (fast0 := false) (k := k2) e1 e3 e4 (fun b o z => k3 b o (e6 b o z))
          rw [e] at q
          exact q
    case fin =>
      obtain ⟨past, pieces, known, h', k, e1, e2, e3, e4, e5, e6⟩ := hI
      subst e2
      subst e5
      have ex : x = past := by rw [e1, List.append_nil]
      show wpAny _ _ (if tooLong past.length = true then _ else retStr { cps := List.foldl (fun acc (p : Str) => acc ++ p.cps) #[] pieces.reverse }) _ _ _
      rw [show tooLong past.length = false from PyProof.Rows.short24 (by rw [← ex]; omega), if_neg Bool.false_ne_true, e3, pieces_sw, ← ex]
      have ev : (⟨#[] ++ (x.map sw).toArray⟩ : Str) = SX.S (x.map sw) := by
        rw [Array.empty_append] <;> rfl
      rw [ev]
      exact wpAny_bind (wpAny_mkStr (wpAny_pure ⟨_, rfl, h _ h' _ e6 ⟨_, rfl⟩⟩) (by rw [SX.S_len, List.length_map, sizeLine_eq]; omega))
section
variable {X : Cx}
theorem swp_of {vs : List (Key × Value)} (r : KV swpV vs) : ∃ a b : Tok, vs = [(.inl 43, .int 45 a), (.inl 45, .int 43 b)] := by
  cases r with
  | cons r1 r2 =>
    cases r2 with
    | cons r3 r4 =>
      cases r4
      rename_i p q
      obtain ⟨p1, p2⟩ := p
      obtain ⟨q1, q2⟩ := q
      obtain ⟨e1, t1, e2⟩ := r1
      obtain ⟨e3, t2, e4⟩ := r3
      cases e1; cases e2; cases e3; cases e4
      exact ⟨t1, t2, rfl⟩
/-- x.translate(the swap) -/
theorem mt_trS (hc : X.calm = true) : MtR X "str.translate" (fun x xs H Q => ∃ (t : List Nat) (d : Addr), x = .str (SX.S t) ∧ xs = [.ref d] ∧ H d = some (.dK swpV) ∧ t.length ≤ 16000000 ∧ Q (.str (SX.S (t.map sw))) H) := by
  intro pins s σ H x xs v us Q I rx rs h
  obtain ⟨a, d, rfl, rfl, hd, h3, h⟩ := h
  obtain ⟨t, rfl⟩ := rx
  cases rs with
  | cons r1 rs =>
    cases rs
    cases r1
    obtain ⟨_, hsys, vs, rel, dd⟩ := dk_of I.hok hd
    obtain ⟨ta, tb, rfl⟩ := swp_of rel
    refine call_meetsIn F.slot_str_translate (typeIs_str _ _ _) F.entry_str_translate (F.args_str_translate_2 _ _) (meets_tr a t d hsys h3) ⟨I.ok.hd hc, ⟨_, dd.mapOf, ⟨ta, rfl⟩, ⟨tb, rfl⟩, fun c c1 c2 => ?_⟩, ?_⟩
    · have z1 : decide ((Sum.inl 43 : Key) = Sum.inl (c : Int)) = false := decide_eq_false (fun z => c1 (by have := Sum.inl.inj z; omega))
      have z2 : decide ((Sum.inl 45 : Key) = Sum.inl (c : Int)) = false := decide_eq_false (fun z => c2 (by have := Sum.inl.inj z; omega))
      unfold valueAt
      rw [List.find?_cons, z1, List.find?_cons, z2] <;> rfl
    · intro v h' k hk ⟨t', e⟩
      subst e
      exact ⟨.str _, H, I.kept (t' := k) hk, ⟨t', rfl⟩, h⟩
end
end Z

set_option Elab.async false
set_option linter.all false
set_option maxRecDepth 100000
set_option maxHeartbeats 1000000
/-! Readings told by data: what a name holds is told by a datum of plain Lean, whatever stands where in memory. -/
namespace Z
open PySem PySem.Spec PyProof.Rows L2

/-! ### cells that may change: each with what stays true of it -/
abbrev Gh := Addr → Option (HO → Prop)
def Hold (Δ : Gh) (H : Hp) : Prop := ∀ a I, Δ a = some I → ∃ o, H a = some o ∧ I o
def Keep (Δ : Gh) (H H' : Hp) : Prop := ∀ a o, Δ a = none → H a = some o → H' a = some o
def Ext (Δ : Gh) (H H' : Hp) : Prop := Keep Δ H H' ∧ Hold Δ H'
abbrev Own := List (Addr × (HO → Prop))
def Sat (Γ : Own) (Δ : Gh) : Prop := ∀ p ∈ Γ, Δ p.1 = some p.2
theorem Keep.refl (Δ : Gh) (H : Hp) : Keep Δ H H := fun _ _ _ h => h
theorem Keep.trans {Δ : Gh} {H H1 H2 : Hp} (a : Keep Δ H H1) (b : Keep Δ H1 H2) : Keep Δ H H2 := fun x o n h => b x o n (a x o n h)
theorem Ext.refl {Δ : Gh} {H : Hp} (h : Hold Δ H) : Ext Δ H H := ⟨Keep.refl Δ H, h⟩
theorem Ext.trans {Δ : Gh} {H H1 H2 : Hp} (a : Ext Δ H H1) (b : Ext Δ H1 H2) : Ext Δ H H2 := ⟨a.1.trans b.1, b.2⟩
/-- a fresh cell is none of the changing ones -/
theorem Hold.fresh {Δ : Gh} {H : Hp} (h : Hold Δ H) {p : Addr} (hp : H p = none) : Δ p = none := by
  cases e : Δ p with
  | none => rfl
  | some I =>
    obtain ⟨o, ho, _⟩ := h p I e
    rw [hp] at ho
    cases ho
theorem Hold.new {Δ : Gh} {H : Hp} (h : Hold Δ H) {p : Addr} (hp : H p = none) (o : HO) : Hold Δ (upd H p o) := fun a I e => by
  obtain ⟨u, hu, iu⟩ := h a I e
  exact ⟨u, by rw [upd_ne (ne_of_none hu hp)]; exact hu, iu⟩
theorem Ext.new {Δ : Gh} {H : Hp} (h : Hold Δ H) {p : Addr} (hp : H p = none) (o : HO) : Ext Δ H (upd H p o) :=
  ⟨fun a u _ e => by rw [upd_ne (ne_of_none e hp)]; exact e, h.new hp o⟩
/-- what is fresh later was fresh before -/
theorem Ext.back {Δ : Gh} {H H' : Hp} (h : Hold Δ H) (e : Ext Δ H H') {p : Addr} (hp : H' p = none) : H p = none := by
  cases q : H p with
  | none => rfl
  | some o =>
    have hn := e.2.fresh hp
    rw [e.1 p o hn q] at hp
    cases hp
theorem Ext.same {Δ : Gh} {H H' : Hp} (h : Hold Δ H) (s : Same H H') : Ext Δ H H' := ⟨fun a o _ q => s a o q, fun a I e => by
  obtain ⟨o, ho, io⟩ := h a I e
  exact ⟨o, s a o ho, io⟩⟩

/-! ### data -/
/-- which value of the heap bears a datum -/
class Rp (α : Type) where
  rp : PySem.W.Frag → Gh → Hp → V → α → Prop
  mono : ∀ {K : PySem.W.Frag} {Δ : Gh} {H H' : Hp} {v : V} {a : α}, Keep Δ H H' → rp K Δ H v a → rp K Δ H' v a
  weak : ∀ {K : PySem.W.Frag} {Δ Δ' : Gh} {H : Hp} {v : V} {a : α}, (∀ x o, H x = some o → Δ x = none → Δ' x = none) → rp K Δ H v a → rp K Δ' H v a
/-- a text, by its codes -/
structure Tx where
  s : List Nat
  deriving DecidableEq
/-- a tuple of any length -/
structure Tup (α : Type) where
  l : List α
/-- an object at a told place -/
structure Loc where
  p : Addr
instance : Rp Int := ⟨fun _ _ _ v a => v = .int a, fun _ h => h, fun _ h => h⟩
instance : Rp Bool := ⟨fun _ _ _ v a => v = .bl a, fun _ h => h, fun _ h => h⟩
instance : Rp Unit := ⟨fun _ _ _ v _ => v = .non, fun _ h => h, fun _ h => h⟩
instance : Rp Tx := ⟨fun _ _ _ v a => v = .str ⟨a.s.toArray⟩, fun _ h => h, fun _ h => h⟩
instance : Rp Loc := ⟨fun _ _ _ v a => v = .ref a.p, fun _ h => h, fun _ h => h⟩
universe u1 u2 u3
/-- members, one by one -/
def All2 {α : Type u1} {β : Type u2} (R : α → β → Prop) : List α → List β → Prop
  | [], [] => True
  | x :: xs, y :: ys => R x y ∧ All2 R xs ys
  | _, _ => False
theorem All2.imp {α : Type u1} {β : Type u2} {R S : α → β → Prop} (h : ∀ x y, R x y → S x y) : ∀ {xs : List α} {ys : List β}, All2 R xs ys → All2 S xs ys
  | [], [], _ => trivial
  | [], _ :: _, q => q.elim
  | _ :: _, [], q => q.elim
  | _ :: _, _ :: _, q => ⟨h _ _ q.1, All2.imp h q.2⟩
theorem All2.len {α : Type u1} {β : Type u2} {R : α → β → Prop} : ∀ {xs : List α} {ys : List β}, All2 R xs ys → xs.length = ys.length
  | [], [], _ => rfl
  | [], _ :: _, q => q.elim
  | _ :: _, [], q => q.elim
  | _ :: xs, _ :: ys, q => by rw [List.length_cons, List.length_cons, All2.len q.2]
theorem All2.get {α : Type u1} {β : Type u2} {R : α → β → Prop} : ∀ {xs : List α} {ys : List β} {i : Nat} {y : β}, All2 R xs ys → ys[i]? = some y → ∃ x, xs[i]? = some x ∧ R x y
  | [], [], _, _, _, e => by simp at e
  | [], _ :: _, _, _, q, _ => q.elim
  | _ :: _, [], _, _, q, _ => q.elim
  | x :: _, y :: _, 0, _, q, e => by
    have e' : y = _ := Option.some.inj e
    subst e'
    exact ⟨x, rfl, q.1⟩
  | _ :: xs, _ :: ys, i + 1, y, q, e => All2.get (xs := xs) (ys := ys) (i := i) q.2 e
theorem All2.getL {α : Type u1} {β : Type u2} {R : α → β → Prop} : ∀ {xs : List α} {ys : List β} {i : Nat} {x : α}, All2 R xs ys → xs[i]? = some x → ∃ y, ys[i]? = some y ∧ R x y
  | [], [], _, _, _, e => by simp at e
  | [], _ :: _, _, _, q, _ => q.elim
  | _ :: _, [], _, _, q, _ => q.elim
  | x :: _, y :: _, 0, _, q, e => by
    have e' : x = _ := Option.some.inj e
    subst e'
    exact ⟨y, rfl, q.1⟩
  | _ :: xs, _ :: ys, i + 1, x, q, e => All2.getL (xs := xs) (ys := ys) (i := i) q.2 e
theorem All2.snoc {α : Type u1} {β : Type u2} {R : α → β → Prop} {x : α} {y : β} (r : R x y) : ∀ {xs : List α} {ys : List β}, All2 R xs ys → All2 R (xs ++ [x]) (ys ++ [y])
  | [], [], _ => ⟨r, trivial⟩
  | [], _ :: _, q => q.elim
  | _ :: _, [], q => q.elim
  | _ :: _, _ :: _, q => ⟨q.1, All2.snoc r q.2⟩
theorem All2.map {α : Type u1} {β : Type u2} {γ : Type u3} {R : α → β → Prop} {f : γ → α} {g : γ → β} : ∀ {xs : List γ}, (∀ x ∈ xs, R (f x) (g x)) → All2 R (xs.map f) (xs.map g)
  | [], _ => trivial
  | _ :: xs, h => ⟨h _ List.mem_cons_self, All2.map fun x hx => h x (List.mem_cons_of_mem _ hx)⟩
/-- a list, a tuple of the written part -/
def KL (K : PySem.W.Frag) (p : Addr) (xs : List V) : Prop := ∃ (o : Obj) (its : Array Value) (n : Nat), K.lookup p = some o ∧ o.cls = .type "list" ∧ o.dict = none ∧ o.data = .seq its n ∧ its.size ≤ sizeLine ∧ Vals xs its.toList
def KT (K : PySem.W.Frag) (p : Addr) (xs : List V) : Prop := ∃ (o : Obj) (its : Array Value) (n : Nat), K.lookup p = some o ∧ o.cls = .type "tuple" ∧ o.data = .seq its n ∧ its.size ≤ sizeLine ∧ Vals xs its.toList
/-- a list, a tuple that stays as it is -/
def StL (K : PySem.W.Frag) (Δ : Gh) (H : Hp) (p : Addr) (xs : List V) : Prop := (Δ p = none ∧ Rd H p (.lst xs)) ∨ KL K p xs
def StT (K : PySem.W.Frag) (Δ : Gh) (H : Hp) (p : Addr) (xs : List V) : Prop := (Δ p = none ∧ Rd H p (.tup xs)) ∨ KT K p xs
section
variable {K : PySem.W.Frag} {Δ Δ' : Gh} {H H' : Hp} {p : Addr} {xs : List V}
theorem StL.seq (h : StL K Δ H p xs) : SqL K H p xs := h.elim (fun h => .inl h.2) .inr
theorem StT.seq (h : StT K Δ H p xs) : SqT K H p xs := h.elim (fun h => .inl h.2) .inr
theorem rd_mono {o : HO} (k : Keep Δ H H') (n : Δ p = none) (h : Rd H p o) : Rd H' p o := h.elim (fun h => .inl (k _ _ n h)) fun ⟨u, h⟩ => .inr ⟨u, k _ _ n h⟩
theorem rd_some {o : HO} (h : Rd H p o) : ∃ u, H p = some u := h.elim (fun h => ⟨_, h⟩) fun ⟨u, h⟩ => ⟨_, h⟩
theorem StL.mono (k : Keep Δ H H') (h : StL K Δ H p xs) : StL K Δ H' p xs := h.elim (fun h => .inl ⟨h.1, rd_mono k h.1 h.2⟩) .inr
theorem StT.mono (k : Keep Δ H H') (h : StT K Δ H p xs) : StT K Δ H' p xs := h.elim (fun h => .inl ⟨h.1, rd_mono k h.1 h.2⟩) .inr
theorem StL.weak (w : ∀ x o, H x = some o → Δ x = none → Δ' x = none) (h : StL K Δ H p xs) : StL K Δ' H p xs := h.elim (fun h => .inl ⟨let ⟨u, hu⟩ := rd_some h.2; w p u hu h.1, h.2⟩) .inr
theorem StT.weak (w : ∀ x o, H x = some o → Δ x = none → Δ' x = none) (h : StT K Δ H p xs) : StT K Δ' H p xs := h.elim (fun h => .inl ⟨let ⟨u, hu⟩ := rd_some h.2; w p u hu h.1, h.2⟩) .inr
end
section
variable {α β : Type} [Rp α] [Rp β]
instance : Rp (List α) where
  rp K Δ H v xs := ∃ p vs, v = .ref p ∧ StL K Δ H p vs ∧ SqL K H p vs ∧ All2 (fun u a => Rp.rp K Δ H u a) vs xs
  mono k h := by
    obtain ⟨p, vs, e, n, s, q⟩ := h
    exact ⟨p, vs, e, n.mono k, (n.mono k).seq, q.imp fun _ _ => Rp.mono k⟩
  weak w h := by
    obtain ⟨p, vs, e, n, s, q⟩ := h
    exact ⟨p, vs, e, n.weak w, s, q.imp fun _ _ => Rp.weak w⟩
instance : Rp (Tup α) where
  rp K Δ H v xs := ∃ p vs, v = .ref p ∧ StT K Δ H p vs ∧ SqT K H p vs ∧ All2 (fun u a => Rp.rp K Δ H u a) vs xs.l
  mono k h := by
    obtain ⟨p, vs, e, n, s, q⟩ := h
    exact ⟨p, vs, e, n.mono k, (n.mono k).seq, q.imp fun _ _ => Rp.mono k⟩
  weak w h := by
    obtain ⟨p, vs, e, n, s, q⟩ := h
    exact ⟨p, vs, e, n.weak w, s, q.imp fun _ _ => Rp.weak w⟩
instance : Rp (α × β) where
  rp K Δ H v x := ∃ p a b, v = .ref p ∧ StT K Δ H p [a, b] ∧ SqT K H p [a, b] ∧ Rp.rp K Δ H a x.1 ∧ Rp.rp K Δ H b x.2
  mono k h := by
    obtain ⟨p, a, b, e, n, s, q, r⟩ := h
    exact ⟨p, a, b, e, n.mono k, (n.mono k).seq, Rp.mono k q, Rp.mono k r⟩
  weak w h := by
    obtain ⟨p, a, b, e, n, s, q, r⟩ := h
    exact ⟨p, a, b, e, n.weak w, s, Rp.weak w q, Rp.weak w r⟩
end

/-! ### names -/
structure Cell where
  {α : Type}
  [r : Rp α]
  val : α
def Cell.rp (c : Cell) (K : PySem.W.Frag) (Δ : Gh) (H : Hp) (v : V) : Prop := c.r.rp K Δ H v c.val
abbrev Env := List (Option Cell)
def EnvOk (K : PySem.W.Frag) (Δ : Gh) (σ : L2.St) (H : Hp) (ρ : Env) : Prop := σ.length = ρ.length ∧ ∀ (i : Nat) (c : Cell), ρ[i]? = some (some c) → ∃ v, σ[i]? = some (some v) ∧ c.rp K Δ H v
section
variable {K : PySem.W.Frag} {Δ Δ' : Gh} {σ : L2.St} {H H' : Hp} {ρ : Env}
theorem EnvOk.mono (k : Keep Δ H H') (h : EnvOk K Δ σ H ρ) : EnvOk K Δ σ H' ρ := ⟨h.1, fun i c e => by
  obtain ⟨v, e1, e2⟩ := h.2 i c e
  exact ⟨v, e1, c.r.mono k e2⟩⟩
theorem EnvOk.weak (w : ∀ x o, H x = some o → Δ x = none → Δ' x = none) (h : EnvOk K Δ σ H ρ) : EnvOk K Δ' σ H ρ := ⟨h.1, fun i c e => by
  obtain ⟨v, e1, e2⟩ := h.2 i c e
  exact ⟨v, e1, c.r.weak w e2⟩⟩
theorem EnvOk.set {i : Nat} {c : Cell} {v : V} (h : EnvOk K Δ σ H ρ) (hi : i < ρ.length) (hv : c.rp K Δ H v) : EnvOk K Δ (σ.set i (some v)) H (ρ.set i (some c)) := by
  refine ⟨by rw [List.length_set, List.length_set]; exact h.1, fun j d e => ?_⟩
  by_cases hj : i = j
  · subst hj
    rw [List.getElem?_set_self hi] at e
    cases e
    exact ⟨v, List.getElem?_set_self (by rw [h.1]; exact hi), hv⟩
  · rw [List.getElem?_set_ne hj] at e ⊢
    exact h.2 j d e
theorem EnvOk.drop {i : Nat} (h : EnvOk K Δ σ H ρ) : EnvOk K Δ (σ.set i none) H (ρ.set i none) := by
  refine ⟨by rw [List.length_set, List.length_set]; exact h.1, fun j d e => ?_⟩
  by_cases hj : i = j
  · subst hj
    by_cases hi : i < ρ.length
    · rw [List.getElem?_set_self hi] at e
      cases e
    · rw [List.getElem?_eq_none (by rw [List.length_set]; omega)] at e
      cases e
  · rw [List.getElem?_set_ne hj] at e ⊢
    exact h.2 j d e
def wipeE (ρ : Env) : List Nat → Env
  | [] => ρ
  | v :: vs => (wipeE ρ vs).set v none
theorem EnvOk.wipe (h : EnvOk K Δ σ H ρ) : ∀ vs : List Nat, EnvOk K Δ (L2.wipe σ vs) H (wipeE ρ vs)
  | [] => h
  | v :: vs => (EnvOk.wipe h vs).drop
end

/-! ### expressions -/
/-- the datum is just this -/
def Is {α : Type u1} (a : α) : α → Prop := fun x => x = a
def Ev (K : PySem.W.Frag) (Γ : Own) (te : TE) (ρ : Env) {α : Type} [Rp α] (P : α → Prop) : Prop :=
  ∀ (Δ : Gh) (σ : L2.St) (H : Hp) (Q : VK), Sat Γ Δ → Hold Δ H → EnvOk K Δ σ H ρ → (∀ v H' a, P a → Ext Δ H H' → Rp.rp K Δ H' v a → Q v H') → te σ H Q
def EvT (K : PySem.W.Frag) (Γ : Own) (t : TT) (ρ : Env) (P : Bool → Prop) : Prop :=
  ∀ (Δ : Gh) (σ : L2.St) (H : Hp) (Q : Bool → Hp → Prop), Sat Γ Δ → Hold Δ H → EnvOk K Δ σ H ρ → (∀ b H', P b → Ext Δ H H' → Q b H') → t σ H Q
def ArgsOk (K : PySem.W.Frag) (Δ : Gh) (H : Hp) : List V → List Cell → Prop := All2 fun (v : V) (c : Cell) => c.rp K Δ H v
def EvA (K : PySem.W.Frag) (Γ : Own) (t : TA) (ρ : Env) (P : List Cell → Prop) : Prop :=
  ∀ (Δ : Gh) (σ : L2.St) (H : Hp) (Q : List V → Hp → Prop), Sat Γ Δ → Hold Δ H → EnvOk K Δ σ H ρ → (∀ vs H' cs, P cs → Ext Δ H H' → ArgsOk K Δ H' vs cs → Q vs H') → t σ H Q
section
variable {K : PySem.W.Frag} {Γ : Own} {ρ : Env} {ta tb tc te : TE} {t u : TT} {α β γ : Type} [Rp α] [Rp β] [Rp γ] {Pa : α → Prop} {Pb : β → Prop} {Pc : γ → Prop}
theorem Ev.imp {P P' : α → Prop} (h : Ev K Γ te ρ P) (q : ∀ a, P a → P' a) : Ev K Γ te ρ P' := fun Δ σ H Q s hh e k => h Δ σ H Q s hh e fun v H' a p => k v H' a (q a p)
theorem EvT.imp {P P' : Bool → Prop} (h : EvT K Γ t ρ P) (q : ∀ a, P a → P' a) : EvT K Γ t ρ P' := fun Δ σ H Q s hh e k => h Δ σ H Q s hh e fun b H' p => k b H' (q b p)
theorem ev_is {a b : α} (h : Ev K Γ te ρ (Is a)) (e : a = b) : Ev K Γ te ρ (Is b) := e ▸ h
theorem et_is {a b : Bool} (h : EvT K Γ t ρ (Is a)) (e : a = b) : EvT K Γ t ρ (Is b) := e ▸ h
theorem ev_var {i : Nat} {a : α} (h : ρ[i]? = some (some ⟨a⟩) := by rfl) : Ev K Γ (tVar i) ρ (Is a) := fun Δ σ H Q s hh e k => by
  obtain ⟨v, h1, h2⟩ := e.2 i _ h
  exact ⟨v, h1, k v H a rfl (Ext.refl hh) h2⟩
theorem ev_int {i : Int} : Ev K Γ (tC (.int i)) ρ (Is i) := fun Δ σ H Q s hh e k => k _ H i rfl (Ext.refl hh) rfl
theorem ev_bl {b : Bool} : Ev K Γ (tC (.bl b)) ρ (Is b) := fun Δ σ H Q s hh e k => k _ H b rfl (Ext.refl hh) rfl
theorem ev_non : Ev K Γ (tC .non) ρ (Is ()) := fun Δ σ H Q s hh e k => k _ H () rfl (Ext.refl hh) rfl
theorem ev_str {x : Str} : Ev K Γ (tC (.str x)) ρ (Is (⟨x.cps.toList⟩ : Tx)) := fun Δ σ H Q s hh e k => k _ H _ rfl (Ext.refl hh) rfl
/-- a two-place operation on data -/
def Op2 (K : PySem.W.Frag) (r : R2) (x : α) (y : β) (P : γ → Prop) : Prop :=
  ∀ (Δ : Gh) (H : Hp) (v w : V) (Q : VK), Hold Δ H → Rp.rp K Δ H v x → Rp.rp K Δ H w y → (∀ u H' c, P c → Ext Δ H H' → Rp.rp K Δ H' u c → Q u H') → r v w H Q
theorem ev_op {r : R2} (ha : Ev K Γ ta ρ Pa) (hb : Ev K Γ tb ρ Pb) (hr : ∀ x y, Pa x → Pb y → Op2 K r x y Pc) : Ev K Γ (tOp r ta tb) ρ Pc := fun Δ σ H Q s hh e k =>
  ha Δ σ H _ s hh e fun v H1 x px e1 r1 => hb Δ σ H1 _ s e1.2 (e.mono e1.1) fun w H2 y py e2 r2 =>
    hr x y px py Δ H2 v w Q e2.2 (Rp.mono e2.1 r1) r2 fun z H3 c pc e3 r3 => k z H3 c pc (e1.trans (e2.trans e3)) r3
theorem ev_op1 {r : R2} {x : α} {y : β} (ha : Ev K Γ ta ρ (Is x)) (hb : Ev K Γ tb ρ (Is y)) (hr : Op2 K r x y Pc) : Ev K Γ (tOp r ta tb) ρ Pc :=
  ev_op ha hb fun x' y' e1 e2 => by rw [show x' = x from e1, show y' = y from e2]; exact hr
theorem o2_I0 {g : Int → Int → Int} {x y : Int} : Op2 K (rI0 fun i j => .int (g i j)) x y (Is (g x y)) := fun Δ H v w Q hh r1 r2 k => ⟨x, y, r1, r2, k _ H _ rfl (Ext.refl hh) rfl⟩
theorem o2_B0 {g : Int → Int → Bool} {x y : Int} : Op2 K (rI0 fun i j => .bl (g i j)) x y (Is (g x y)) := fun Δ H v w Q hh r1 r2 k => ⟨x, y, r1, r2, k _ H _ rfl (Ext.refl hh) rfl⟩
theorem o2_I {C : Int → Int → Prop} {g : Int → Int → Int} {x y : Int} (c : C x y) : Op2 K (rI C fun i j => .int (g i j)) x y (Is (g x y)) := fun Δ H v w Q hh r1 r2 k => ⟨x, y, r1, r2, c, k _ H _ rfl (Ext.refl hh) rfl⟩
theorem dec_tx {x y : Tx} : decide (V.str ⟨x.s.toArray⟩ = V.str ⟨y.s.toArray⟩) = decide (x = y) := by
  rw [decide_eq_decide]
  constructor
  · intro h
    injection h with h
    injection h with h
    have h2 := congrArg Array.toList h
    cases x
    cases y
    simpa using h2
  · intro h
    rw [h]
theorem o2_eqS {x y : Tx} : Op2 K rEq x y (Is (decide (x = y))) := fun Δ H v w Q hh r1 r2 k => by
  have e1 : v = .str ⟨x.s.toArray⟩ := r1
  have e2 : w = .str ⟨y.s.toArray⟩ := r2
  subst e1 e2
  exact ⟨rfl, k _ H _ rfl (Ext.refl hh) (congrArg V.bl dec_tx)⟩
theorem o2_neS {x y : Tx} : Op2 K rNe x y (Is (!decide (x = y))) := fun Δ H v w Q hh r1 r2 k => by
  have e1 : v = .str ⟨x.s.toArray⟩ := r1
  have e2 : w = .str ⟨y.s.toArray⟩ := r2
  subst e1 e2
  exact ⟨rfl, k _ H _ rfl (Ext.refl hh) (congrArg (fun b => V.bl (!b)) dec_tx)⟩
theorem o2_eqI {x y : Int} : Op2 K rEq x y (Is (decide (x = y))) := fun Δ H v w Q hh r1 r2 k => by
  have e1 : v = .int x := r1
  have e2 : w = .int y := r2
  subst e1 e2
  refine ⟨rfl, k _ H _ rfl (Ext.refl hh) (congrArg V.bl ?_)⟩
  rw [decide_eq_decide]
  exact ⟨fun h => V.int.inj h, fun h => by rw [h]⟩
theorem o2_neI {x y : Int} : Op2 K rNe x y (Is (!decide (x = y))) := fun Δ H v w Q hh r1 r2 k => by
  have e1 : v = .int x := r1
  have e2 : w = .int y := r2
  subst e1 e2
  refine ⟨rfl, k _ H _ rfl (Ext.refl hh) (congrArg (fun b => V.bl (!b)) ?_)⟩
  rw [decide_eq_decide]
  exact ⟨fun h => V.int.inj h, fun h => by rw [h]⟩
theorem o2_eqB {x y : Bool} : Op2 K rEq x y (Is (decide (x = y))) := fun Δ H v w Q hh r1 r2 k => by
  have e1 : v = .bl x := r1
  have e2 : w = .bl y := r2
  subst e1 e2
  refine ⟨rfl, k _ H _ rfl (Ext.refl hh) (congrArg V.bl ?_)⟩
  rw [decide_eq_decide]
  exact ⟨fun h => V.bl.inj h, fun h => by rw [h]⟩
theorem o2_neB {x y : Bool} : Op2 K rNe x y (Is (!decide (x = y))) := fun Δ H v w Q hh r1 r2 k => by
  have e1 : v = .bl x := r1
  have e2 : w = .bl y := r2
  subst e1 e2
  refine ⟨rfl, k _ H _ rfl (Ext.refl hh) (congrArg (fun b => V.bl (!b)) ?_)⟩
  rw [decide_eq_decide]
  exact ⟨fun h => V.bl.inj h, fun h => by rw [h]⟩
theorem cp_at {x : Tx} {i : Nat} {c : Nat} (h : x.s[i]? = some c) : atI (⟨x.s.toArray⟩ : Str).cps.toList (i : Int) = some c := atI_nat (by simpa using h)
/-- row[i] -/
theorem o2_ixS {x : Tx} {i : Nat} {c : Nat} (hz : x.s.length ≤ 100000) (h : x.s[i]? = some c) : Op2 K rIxS x (i : Int) (Is (⟨[c]⟩ : Tx)) := fun Δ H v w Q hh r1 r2 k => by
  have e1 : v = .str ⟨x.s.toArray⟩ := r1
  have e2 : w = .int i := r2
  subst e1 e2
  refine ⟨_, _, c, rfl, rfl, ?_, cp_at h, k _ H _ rfl (Ext.refl hh) rfl⟩
  show x.s.toArray.size ≤ sizeLine
  rw [List.size_toArray]
  exact Nat.le_trans hz (by decide)
theorem o2_ixL {xs : List α} {i : Nat} {a : α} (h : xs[i]? = some a) : Op2 K (rIxL K) xs (i : Int) (Is a) := fun Δ H v w Q hh r1 r2 k => by
  obtain ⟨p, vs, rfl, n, s, q⟩ := r1
  have e2 : w = .int i := r2
  subst e2
  obtain ⟨u, hu, ru⟩ := q.get h
  exact ⟨p, vs, i, u, rfl, rfl, s, atI_nat hu, k u H a rfl (Ext.refl hh) ru⟩
theorem o2_ixT {xs : Tup α} {i : Nat} {a : α} (h : xs.l[i]? = some a) : Op2 K (rIxT K) xs (i : Int) (Is a) := fun Δ H v w Q hh r1 r2 k => by
  obtain ⟨p, vs, rfl, n, s, q⟩ := r1
  have e2 : w = .int i := r2
  subst e2
  obtain ⟨u, hu, ru⟩ := q.get h
  exact ⟨p, vs, i, u, rfl, rfl, s, atI_nat hu, k u H a rfl (Ext.refl hh) ru⟩
theorem o2_ixP0 {x : α × β} : Op2 K (rIxT K) x (0 : Int) (Is x.1) := fun Δ H v w Q hh r1 r2 k => by
  obtain ⟨p, a, b, rfl, n, s, q, q2⟩ := r1
  have e2 : w = .int 0 := r2
  subst e2
  exact ⟨p, _, _, a, rfl, rfl, s, atI_nat (j := 0) rfl, k a H _ rfl (Ext.refl hh) q⟩
theorem o2_ixP1 {x : α × β} : Op2 K (rIxT K) x (1 : Int) (Is x.2) := fun Δ H v w Q hh r1 r2 k => by
  obtain ⟨p, a, b, rfl, n, s, q, q2⟩ := r1
  have e2 : w = .int 1 := r2
  subst e2
  exact ⟨p, _, _, b, rfl, rfl, s, atI_nat (j := 1) rfl, k b H _ rfl (Ext.refl hh) q2⟩
theorem all2_int {Δ : Gh} {H : Hp} : ∀ {vs : List V} {xs : List Int}, All2 (fun u a => Rp.rp K Δ H u a) vs xs → vs = xs.map V.int
  | [], [], _ => rfl
  | [], _ :: _, q => q.elim
  | _ :: _, [], q => q.elim
  | v :: vs, x :: xs, q => by
    have e : v = .int x := q.1
    rw [List.map_cons, e, all2_int q.2]
theorem all2_bl {Δ : Gh} {H : Hp} : ∀ {vs : List V} {xs : List Bool}, All2 (fun u a => Rp.rp K Δ H u a) vs xs → vs = xs.map V.bl
  | [], [], _ => rfl
  | [], _ :: _, q => q.elim
  | _ :: _, [], q => q.elim
  | v :: vs, x :: xs, q => by
    have e : v = .bl x := q.1
    rw [List.map_cons, e, all2_bl q.2]
theorem all2_tx {Δ : Gh} {H : Hp} : ∀ {vs : List V} {xs : List Tx}, All2 (fun u a => Rp.rp K Δ H u a) vs xs → vs = (xs.map fun x => (⟨x.s.toArray⟩ : Str)).map V.str
  | [], [], _ => rfl
  | [], _ :: _, q => q.elim
  | _ :: _, [], q => q.elim
  | v :: vs, x :: xs, q => by
    have e : v = .str ⟨x.s.toArray⟩ := q.1
    rw [List.map_cons, List.map_cons, e, all2_tx q.2]
theorem inV_int {i : Int} : ∀ {xs : List Int}, inV (.int i) (xs.map V.int) = decide (i ∈ xs)
  | [] => rfl
  | x :: xs => by
    have ih := inV_int (i := i) (xs := xs)
    unfold inV at ih ⊢
    rw [List.map_cons, List.any_cons, ih]
    by_cases h : i = x
    · subst h
      simp [eqV]
    · have h' : ¬ x = i := fun z => h z.symm
      simp [eqV, h, h']
theorem flat_int : ∀ {xs : List Int}, (xs.map V.int).all flatV = true
  | [] => rfl
  | _ :: xs => by
    rw [List.map_cons, List.all_cons, flat_int]
    rfl
/-- i in t -/
theorem o2_inT {i : Int} {xs : Tup Int} : Op2 K (rIn K false) i xs (Is (decide (i ∈ xs.l))) := fun Δ H v w Q hh r1 r2 k => by
  have e1 : v = .int i := r1
  obtain ⟨p, vs, rfl, n, s, q⟩ := r2
  subst e1
  have ev := all2_int q
  subst ev
  exact ⟨p, _, rfl, .inr s, rfl, flat_int, k _ H _ rfl (Ext.refl hh) (by show V.bl _ = V.bl _; rw [if_neg Bool.false_ne_true, inV_int])⟩
/-! tests -/
theorem et_test {Pb : Bool → Prop} (h : Ev K Γ te ρ Pb) : EvT K Γ (tTest te) ρ Pb := fun Δ σ H Q s hh e k => h Δ σ H _ s hh e fun v H' b pb e1 r1 => ⟨b, r1, k b H' pb e1⟩
theorem et_B {Pb : Bool → Prop} (h : Ev K Γ te ρ Pb) : EvT K Γ (tB te) ρ Pb := fun Δ σ H Q s hh e k => h Δ σ H _ s hh e fun v H' b pb e1 r1 => ⟨b, r1, k b H' pb e1⟩
theorem et_not {a : Bool} (h : EvT K Γ t ρ (Is a)) : EvT K Γ (tNot t) ρ (Is (!a)) := fun Δ σ H Q s hh e k => h Δ σ H _ s hh e fun b H' pb e1 => k _ H' (by rw [show b = a from pb]; rfl) e1
theorem et_and {a b : Bool} (h1 : EvT K Γ t ρ (Is a)) (h2 : a = true → EvT K Γ u ρ (Is b)) : EvT K Γ (tAnd t u) ρ (Is (a && b)) := fun Δ σ H Q s hh e k => h1 Δ σ H _ s hh e fun c H' pc e1 => by
  have ec : c = a := pc
  subst ec
  cases c with
  | true => exact iteT (h2 rfl Δ σ H' Q s e1.2 (e.mono e1.1) fun d H2 pd e2 => k d H2 pd (e1.trans e2))
  | false => exact iteF (k false H' rfl e1)
theorem et_or {a b : Bool} (h1 : EvT K Γ t ρ (Is a)) (h2 : a = false → EvT K Γ u ρ (Is b)) : EvT K Γ (tOr t u) ρ (Is (a || b)) := fun Δ σ H Q s hh e k => h1 Δ σ H _ s hh e fun c H' pc e1 => by
  have ec : c = a := pc
  subst ec
  cases c with
  | true => exact iteT (k true H' rfl e1)
  | false => exact iteF (h2 rfl Δ σ H' Q s e1.2 (e.mono e1.1) fun d H2 pd e2 => k d H2 pd (e1.trans e2))
theorem ev_andV {a b : Bool} (h1 : Ev K Γ ta ρ (Is a)) (h2 : a = true → Ev K Γ tb ρ (Is b)) : Ev K Γ (tAndV ta tb) ρ (Is (a && b)) := fun Δ σ H Q s hh e k => h1 Δ σ H _ s hh e fun v H' c pc e1 r1 => by
  have ec : c = a := pc
  subst ec
  refine ⟨c, r1, ?_⟩
  cases c with
  | true => exact iteT (h2 rfl Δ σ H' Q s e1.2 (e.mono e1.1) fun d H2 x pd e2 r2 => k d H2 x pd (e1.trans e2) r2)
  | false => exact iteF (k _ H' false rfl e1 rfl)
theorem ev_orV {a b : Bool} (h1 : Ev K Γ ta ρ (Is a)) (h2 : a = false → Ev K Γ tb ρ (Is b)) : Ev K Γ (tOrV ta tb) ρ (Is (a || b)) := fun Δ σ H Q s hh e k => h1 Δ σ H _ s hh e fun v H' c pc e1 r1 => by
  have ec : c = a := pc
  subst ec
  refine ⟨c, r1, ?_⟩
  cases c with
  | true => exact iteT (k _ H' true rfl e1 rfl)
  | false => exact iteF (h2 rfl Δ σ H' Q s e1.2 (e.mono e1.1) fun d H2 x pd e2 r2 => k d H2 x pd (e1.trans e2) r2)
theorem ev_notV {a : Bool} (h1 : Ev K Γ ta ρ (Is a)) : Ev K Γ (tNotV ta) ρ (Is (!a)) := fun Δ σ H Q s hh e k => h1 Δ σ H _ s hh e fun v H' c pc e1 r1 => ⟨c, r1, k _ H' (!c) (by rw [show c = a from pc]; rfl) e1 rfl⟩
theorem ev_if {b : Bool} (h : EvT K Γ t ρ (Is b)) (h1 : b = true → Ev K Γ ta ρ Pa) (h2 : b = false → Ev K Γ tb ρ Pa) : Ev K Γ (tIf t ta tb) ρ Pa := fun Δ σ H Q s hh e k => h Δ σ H _ s hh e fun c H' pc e1 => by
  have ec : c = b := pc
  subst ec
  cases c with
  | true => exact iteT (h1 rfl Δ σ H' Q s e1.2 (e.mono e1.1) fun d H2 x pd e2 r2 => k d H2 x pd (e1.trans e2) r2)
  | false => exact iteF (h2 rfl Δ σ H' Q s e1.2 (e.mono e1.1) fun d H2 x pd e2 r2 => k d H2 x pd (e1.trans e2) r2)
/-- a < b < c -/
theorem ev_chain {r r' : R2} {a b : Bool} {x : α} {y : β} {z : γ} (ha : Ev K Γ ta ρ (Is x)) (hb : Ev K Γ tb ρ (Is y)) (hc : Ev K Γ tc ρ (Is z)) (h1 : Op2 K r x y (Is a)) (h2 : Op2 K r' y z (Is b)) : Ev K Γ (tChain r r' ta tb tc) ρ (Is (a && b)) := fun Δ σ H Q s hh e k =>
  ha Δ σ H _ s hh e fun v H1 x' px e1 r1 => hb Δ σ H1 _ s e1.2 (e.mono e1.1) fun w H2 y' py e2 r2 => by
    have ex : x' = x := px
    have ey : y' = y := py
    subst ex ey
    refine h1 Δ H2 v w _ e2.2 (Rp.mono e2.1 r1) r2 fun u H3 c pc e3 r3 => ?_
    have ec : c = a := pc
    subst ec
    refine ⟨c, r3, ?_⟩
    cases c with
    | true =>
      refine iteT (hc Δ σ H3 _ s e3.2 (e.mono (e1.trans (e2.trans e3)).1) fun q H4 z' pz e4 r4 => ?_)
      have ez : z' = z := pz
      subst ez
      exact h2 Δ H4 w q Q e4.2 (Rp.mono (e3.trans e4).1 r2) r4 fun d H5 x5 p5 e5 r5 => k d H5 x5 p5 (e1.trans (e2.trans (e3.trans (e4.trans e5)))) r5
    | false => exact iteF (k _ H3 false rfl (e1.trans (e2.trans e3)) rfl)
/-! arguments, displays -/
theorem ea_nil : EvA K Γ tNil ρ (Is ([] : List Cell)) := fun Δ σ H Q s hh e k => k [] H [] rfl (Ext.refl hh) trivial
theorem ea_cons {tr : TA} {Ps : List Cell → Prop} {P : List Cell → Prop} (h : Ev K Γ ta ρ Pa) (hr : EvA K Γ tr ρ Ps) (hp : ∀ a cs, Pa a → Ps cs → P (⟨a⟩ :: cs)) : EvA K Γ (tCons ta tr) ρ P := fun Δ σ H Q s hh e k =>
  h Δ σ H _ s hh e fun v H1 a pa e1 r1 => hr Δ σ H1 _ s e1.2 (e.mono e1.1) fun vs H2 cs pcs e2 r2 => k (v :: vs) H2 (⟨a⟩ :: cs) (hp a cs pa pcs) (e1.trans e2) ⟨Rp.mono e2.1 r1, r2⟩
theorem ea_1 {tr : TA} {a : α} {cs : List Cell} (h : Ev K Γ ta ρ (Is a)) (hr : EvA K Γ tr ρ (Is cs)) : EvA K Γ (tCons ta tr) ρ (Is (⟨a⟩ :: cs)) := ea_cons h hr fun a' cs' e1 e2 => by
  show _ = _
  rw [show a' = a from e1, show cs' = cs from e2]
end
end Z

set_option Elab.async false
set_option linter.all false
set_option maxRecDepth 100000
set_option maxHeartbeats 1000000
namespace Z
open PySem PySem.Spec PyProof.Rows L2
universe v1 v2
section
variable {K : PySem.W.Frag} {Γ : Own} {ρ : Env} {ta tb tc te : TE} {t u : TT} {α β γ : Type} [Rp α] [Rp β] [Rp γ] {Pa : α → Prop} {Pb : β → Prop} {Pc : γ → Prop}
/-! ### displays, calls -/
theorem All2.of_map {α : Type v1} {β : Type v2} {γ : Type} {R : α → β → Prop} {f : γ → β} : ∀ {xs : List α} {ys : List γ}, All2 R xs (ys.map f) → All2 (fun x y => R x (f y)) xs ys
  | [], [], _ => trivial
  | [], _ :: _, q => q.elim
  | _ :: _, [], q => q.elim
  | _ :: xs, _ :: ys, q => ⟨q.1, All2.of_map (xs := xs) (ys := ys) q.2⟩
theorem new_lst {Δ : Gh} {H : Hp} {p : Addr} {vs : List V} {xs : List α} (hh : Hold Δ H) (hp : H p = none) (q : All2 (fun u a => Rp.rp K Δ H u a) vs xs) : Rp.rp K Δ (upd H p (.lst vs)) (.ref p) xs :=
  ⟨p, vs, rfl, .inl ⟨hh.fresh hp, .inl upd_same⟩, .inl (.inl upd_same), q.imp fun _ _ => Rp.mono (Ext.new hh hp _).1⟩
theorem new_tup {Δ : Gh} {H : Hp} {p : Addr} {vs : List V} {xs : List α} (hh : Hold Δ H) (hp : H p = none) (q : All2 (fun u a => Rp.rp K Δ H u a) vs xs) : Rp.rp K Δ (upd H p (.tup vs)) (.ref p) (⟨xs⟩ : Tup α) :=
  ⟨p, vs, rfl, .inl ⟨hh.fresh hp, .inl upd_same⟩, .inl (.inl upd_same), q.imp fun _ _ => Rp.mono (Ext.new hh hp _).1⟩
theorem ev_lst {ta : TA} {xs : List α} (h : EvA K Γ ta ρ (Is (xs.map fun a => ⟨a⟩))) (hz : xs.length ≤ 100000) : Ev K Γ (tLst ta) ρ (Is xs) := fun Δ σ H Q s hh e k => h Δ σ H _ s hh e fun vs H' cs pcs e1 r => by
  have ec : cs = xs.map fun a => ⟨a⟩ := pcs
  subst ec
  have r' := All2.of_map r
  exact ⟨Nat.le_trans (Nat.le_of_eq r'.len) (Nat.le_trans hz (by decide)), fun p hp => k _ _ xs rfl (e1.trans (Ext.new e1.2 hp _)) (new_lst e1.2 hp r')⟩
theorem ev_tupN {ta : TA} {xs : List α} (h : EvA K Γ ta ρ (Is (xs.map fun a => ⟨a⟩))) (hz : xs.length ≤ 100000) : Ev K Γ (tTup ta) ρ (Is (⟨xs⟩ : Tup α)) := fun Δ σ H Q s hh e k => h Δ σ H _ s hh e fun vs H' cs pcs e1 r => by
  have ec : cs = xs.map fun a => ⟨a⟩ := pcs
  subst ec
  have r' := All2.of_map r
  exact ⟨Nat.le_trans (Nat.le_of_eq r'.len) (Nat.le_trans hz (by decide)), fun p hp => k _ _ ⟨xs⟩ rfl (e1.trans (Ext.new e1.2 hp _)) (new_tup e1.2 hp r')⟩
theorem ev_tup2 {ta : TA} {x : α} {y : β} (h : EvA K Γ ta ρ (Is [⟨x⟩, ⟨y⟩])) : Ev K Γ (tTup ta) ρ (Is (x, y)) := fun Δ σ H Q s hh e k => h Δ σ H _ s hh e fun vs H' cs pcs e1 r => by
  have ec : cs = [⟨x⟩, ⟨y⟩] := pcs
  subst ec
  match vs, r with
  | [v, w], r => exact ⟨by show 2 ≤ sizeLine; decide, fun p hp => k _ _ (x, y) rfl (e1.trans (Ext.new e1.2 hp _)) ⟨p, v, w, rfl, .inl ⟨e1.2.fresh hp, .inl upd_same⟩, .inl (.inl upd_same), Rp.mono (Ext.new e1.2 hp _).1 r.1, Rp.mono (Ext.new e1.2 hp _).1 r.2.1⟩⟩
/-- what a def promises: of the owned cells and the arguments' data, some datum with P -/
def spD (K : PySem.W.Frag) {β : Type} [Rp β] (F : Own → List Cell → (β → Prop) → Prop) : Sp := fun vs H Q _ => ∃ (Γ : Own) (Δ : Gh) (cs : List Cell) (P : β → Prop), F Γ cs P ∧ Sat Γ Δ ∧ Hold Δ H ∧ ArgsOk K Δ H vs cs ∧
  ∀ (v : V) (H' : Hp) (b : β), P b → Ext Δ H H' → Rp.rp K Δ H' v b → Q v H'
theorem All2.app {α : Type v1} {β : Type v2} {R : α → β → Prop} : ∀ {xs : List α} {ys : List β} {xs' : List α} {ys' : List β}, All2 R xs ys → All2 R xs' ys' → All2 R (xs ++ xs') (ys ++ ys')
  | [], [], _, _, _, h => h
  | [], _ :: _, _, _, q, _ => q.elim
  | _ :: _, [], _, _, q, _ => q.elim
  | _ :: _, _ :: _, _, _, q, h => ⟨q.1, All2.app q.2 h⟩
theorem ev_call {F : Own → List Cell → (β → Prop) → Prop} {E : XK} {ta : TA} {Pcs : List Cell → Prop} (ha : EvA K Γ ta ρ Pcs) (hf : ∀ cs, Pcs cs → F Γ cs Pb) : Ev K Γ (tCall (spD K F) [] E ta) ρ Pb := fun Δ σ H Q s hh e k =>
  ha Δ σ H _ s hh e fun vs H' cs pcs e1 r => ⟨Γ, Δ, cs, Pb, hf cs pcs, s, e1.2, by rw [List.append_nil]; exact r, fun v H2 b pb e2 r2 => k v H2 b pb (e1.trans e2) r2⟩
theorem ev_callD {F : Own → List Cell → (β → Prop) → Prop} {E : XK} {ta : TA} {Pcs : List Cell → Prop} {dvs : List V} {dcs : List Cell} (hd : ∀ Δ H, ArgsOk K Δ H dvs dcs) (ha : EvA K Γ ta ρ Pcs) (hf : ∀ cs, Pcs cs → F Γ (cs ++ dcs) Pb) : Ev K Γ (tCall (spD K F) dvs E ta) ρ Pb := fun Δ σ H Q s hh e k =>
  ha Δ σ H _ s hh e fun vs H' cs pcs e1 r => ⟨Γ, Δ, cs ++ dcs, Pb, hf cs pcs, s, e1.2, All2.app r (hd Δ H'), fun v H2 b pb e2 r2 => k v H2 b pb (e1.trans e2) r2⟩
theorem ev_call1 {F : Own → List Cell → (β → Prop) → Prop} {E : XK} {ta : TA} {cs : List Cell} (ha : EvA K Γ ta ρ (Is cs)) (hf : F Γ cs Pb) : Ev K Γ (tCall (spD K F) [] E ta) ρ Pb := ev_call ha fun cs' e => by rw [show cs' = cs from e]; exact hf
/-- a built-in's call, by its data -/
def Op1 (K : PySem.W.Frag) (r : List V → Hp → VK → Prop) (x : α) (P : γ → Prop) : Prop :=
  ∀ (Δ : Gh) (H : Hp) (v : V) (Q : VK), Hold Δ H → Rp.rp K Δ H v x → (∀ u H' c, P c → Ext Δ H H' → Rp.rp K Δ H' u c → Q u H') → r [v] H Q
theorem ev_cb1 {r : List V → Hp → VK → Prop} (ha : Ev K Γ ta ρ Pa) (hr : ∀ x, Pa x → Op1 K r x Pc) : Ev K Γ (tCB r (tCons ta tNil)) ρ Pc := fun Δ σ H Q s hh e k =>
  ha Δ σ H _ s hh e fun v H1 x px e1 r1 => hr x px Δ H1 v Q e1.2 r1 fun u H2 c pc e2 r2 => k u H2 c pc (e1.trans e2) r2
theorem ev_cb {r : List V → Hp → VK → Prop} {x : α} (ha : Ev K Γ ta ρ (Is x)) (hr : Op1 K r x Pc) : Ev K Γ (tCB r (tCons ta tNil)) ρ Pc := ev_cb1 ha fun x' e => by rw [show x' = x from e]; exact hr
theorem o1_lenS {x : Tx} (hz : x.s.length ≤ 100000) : Op1 K (fun xs H Q => ∃ x n, xs = [x] ∧ LenV K x H n ∧ Q (.int n) H) x (Is (x.s.length : Int)) := fun Δ H v Q hh r k => by
  have e : v = .str ⟨x.s.toArray⟩ := r
  subst e
  refine ⟨_, x.s.length, rfl, ⟨?_, ?_⟩, k _ H _ rfl (Ext.refl hh) rfl⟩
  · show x.s.toArray.size ≤ sizeLine
    rw [List.size_toArray]
    exact Nat.le_trans hz (by decide)
  · show x.s.length = x.s.toArray.size
    rw [List.size_toArray]
theorem o1_lenL {xs : List α} : Op1 K (fun xs H Q => ∃ x n, xs = [x] ∧ LenV K x H n ∧ Q (.int n) H) xs (Is (xs.length : Int)) := fun Δ H v Q hh r k => by
  obtain ⟨p, vs, rfl, n, s, q⟩ := r
  exact ⟨_, xs.length, rfl, .inl ⟨vs, s, q.len.symm⟩, k _ H _ rfl (Ext.refl hh) rfl⟩
theorem o1_lenT {xs : Tup α} : Op1 K (fun xs H Q => ∃ x n, xs = [x] ∧ LenV K x H n ∧ Q (.int n) H) xs (Is (xs.l.length : Int)) := fun Δ H v Q hh r k => by
  obtain ⟨p, vs, rfl, n, s, q⟩ := r
  exact ⟨_, xs.l.length, rfl, .inr ⟨vs, s, q.len.symm⟩, k _ H _ rfl (Ext.refl hh) rfl⟩
theorem o1_all {bs : List Bool} : Op1 K (rAll K) bs (Is (bs.all id)) := fun Δ H v Q hh r k => by
  obtain ⟨p, vs, rfl, n, s, q⟩ := r
  have e := all2_bl q
  subst e
  exact ⟨p, bs, rfl, s, k _ H _ rfl (Ext.refl hh) rfl⟩

/-! ### what is walked -/
/-- wi, walked with the target g, has n turns; turn i makes st i of the names (the slots js alone) -/
def Src (K : PySem.W.Frag) (Γ : Own) (wi : TI) (g : TG) (ρ : Env) (js : List Nat) (n : Nat) (st : Nat → Env → Env) : Prop :=
  ∀ (Δ : Gh) (σ : L2.St) (H : Hp) (R : It → Hp → Prop), Sat Γ Δ → Hold Δ H → EnvOk K Δ σ H ρ →
    (∀ (J : It) (H1 : Hp) (pv : V) (pc : Cell), Ext Δ H H1 → pc.rp K Δ H1 pv →
      (∀ Δ' H2, pc.rp K Δ' H2 pv → (∀ i, i < n → J.go i H2) ∧ J.stop n H2) →
      (∀ Δ' i H2 x H3, i < n → Hold Δ' H2 → pc.rp K Δ' H2 pv → J.yld i H2 x H3 → Ext Δ' H2 H3 ∧ ∀ (σ' : L2.St) (ρ' : Env) (Qs : L2.St → Hp → Prop), ρ'.length = ρ.length → EnvOk K Δ' σ' H3 ρ' →
        (∀ σ2 : L2.St, EnvOk K Δ' σ2 H3 (st i ρ') → σ2.length = σ'.length → (∀ k, k ∉ js → σ2[k]? = σ'[k]?) → Qs σ2 H3) → g x σ' H3 Qs) → R J H1) → wi σ H R
theorem set_off {σ : L2.St} {j : Nat} {v : Option V} {js : List Nat} (h : j ∈ js) : (σ.set j v).length = σ.length ∧ ∀ k, k ∉ js → (σ.set j v)[k]? = σ[k]? :=
  ⟨List.length_set, fun k hk => List.getElem?_set_ne fun e => hk (by rw [← e]; exact h)⟩
theorem src_rng1 {ta : TA} {j : Nat} {n : Nat} (h : EvA K Γ ta ρ (Is [⟨(n : Int)⟩])) (hn : n ≤ 100000) (hj : j < ρ.length) : Src K Γ (iRng1 ta) (gName j) ρ [j] n (fun i ρ => ρ.set j (some ⟨(i : Int)⟩)) := fun Δ σ H R s hh e k =>
  h Δ σ H _ s hh e fun vs H' cs pcs e1 r => by
    have ec : cs = [⟨(n : Int)⟩] := pcs
    subst ec
    match vs, r with
    | [v], r =>
      have ev : v = .int n := r.1
      subst ev
      refine ⟨n, rfl, by omega, by omega, k _ H' .non ⟨()⟩ e1 rfl (fun Δ' H2 _ => ⟨fun i hi => by show i < (n : Int).toNat; omega, by show (n : Int).toNat ≤ n; omega⟩) fun Δ' i H2 x H3 hi h2 _ y => ?_⟩
      obtain ⟨rfl, rfl⟩ := (show H3 = H2 ∧ x = V.int (0 + (i : Int)) from y)
      refine ⟨Ext.refl h2, fun σ' ρ' Qs hl e' q => ?_⟩
      rw [Int.zero_add]
      exact q _ (e'.set (c := ⟨(i : Int)⟩) (by rw [hl]; exact hj) rfl) (set_off (js := [j]) (List.mem_singleton_self j)).1 (set_off (js := [j]) (List.mem_singleton_self j)).2
theorem src_list {tl : TE} {j : Nat} {xs : List α} {x0 : Nat → α} (h : Ev K Γ tl ρ (Is xs)) (hx : ∀ i, i < xs.length → xs[i]? = some (x0 i)) (hj : j < ρ.length) : Src K Γ (iList K tl) (gName j) ρ [j] xs.length (fun i ρ => ρ.set j (some ⟨x0 i⟩)) := fun Δ σ H R s hh e k =>
  h Δ σ H _ s hh e fun v H' a pa e1 r => by
    have ea : a = xs := pa
    subst ea
    obtain ⟨p, vs, rfl, n, sq, q⟩ := id r
    refine ⟨p, rfl, ⟨vs, sq⟩, k _ H' (.ref p) ⟨a⟩ e1 r (fun Δ' H2 r2 => ?_) fun Δ' i H2 x H3 hi h2 r2 y => ?_⟩
    · obtain ⟨p', ws, e', n', sq', q'⟩ := (show Rp.rp K Δ' H2 (.ref p) a from r2)
      cases e'
      have hl := q'.len
      refine ⟨fun i hi => ⟨ws, ws[i], sq', List.getElem?_eq_getElem (by omega)⟩, ws, sq', by omega⟩
    · obtain ⟨p', ws, e', n', sq', q'⟩ := (show Rp.rp K Δ' H2 (.ref p) a from r2)
      cases e'
      obtain ⟨rfl, hy⟩ := (show H3 = H2 ∧ ∀ zs, SqL K H2 p zs → zs[i]? = some x from y)
      obtain ⟨w, hw, rw'⟩ := q'.get (hx i hi)
      have ew : x = w := Option.some.inj ((hy _ sq').symm.trans hw)
      subst ew
      exact ⟨Ext.refl h2, fun σ' ρ' Qs hl e' qq => qq _ (e'.set (c := ⟨x0 i⟩) (by rw [hl]; exact hj) rw') (set_off (js := [j]) (List.mem_singleton_self j)).1 (set_off (js := [j]) (List.mem_singleton_self j)).2⟩
theorem src_tup {tl : TE} {j : Nat} {xs : Tup α} {x0 : Nat → α} (h : Ev K Γ tl ρ (Is xs)) (hx : ∀ i, i < xs.l.length → xs.l[i]? = some (x0 i)) (hj : j < ρ.length) : Src K Γ (iTup K tl) (gName j) ρ [j] xs.l.length (fun i ρ => ρ.set j (some ⟨x0 i⟩)) := fun Δ σ H R s hh e k =>
  h Δ σ H _ s hh e fun v H' a pa e1 r => by
    have ea : a = xs := pa
    subst ea
    obtain ⟨p, vs, rfl, n, sq, q⟩ := id r
    refine ⟨p, rfl, ⟨vs, sq⟩, k _ H' (.ref p) ⟨a⟩ e1 r (fun Δ' H2 r2 => ?_) fun Δ' i H2 x H3 hi h2 r2 y => ?_⟩
    · obtain ⟨p', ws, e', n', sq', q'⟩ := (show Rp.rp K Δ' H2 (.ref p) a from r2)
      cases e'
      have hl := q'.len
      refine ⟨fun i hi => ⟨ws, ws[i], sq', List.getElem?_eq_getElem (by omega)⟩, ws, sq', by omega⟩
    · obtain ⟨p', ws, e', n', sq', q'⟩ := (show Rp.rp K Δ' H2 (.ref p) a from r2)
      cases e'
      obtain ⟨rfl, hy⟩ := (show H3 = H2 ∧ ∀ zs, SqT K H2 p zs → zs[i]? = some x from y)
      obtain ⟨w, hw, rw'⟩ := q'.get (hx i hi)
      have ew : x = w := Option.some.inj ((hy _ sq').symm.trans hw)
      subst ew
      exact ⟨Ext.refl h2, fun σ' ρ' Qs hl e' qq => qq _ (e'.set (c := ⟨x0 i⟩) (by rw [hl]; exact hj) rw') (set_off (js := [j]) (List.mem_singleton_self j)).1 (set_off (js := [j]) (List.mem_singleton_self j)).2⟩
theorem args1 {Δ : Gh} {H : Hp} {vs : List V} {c : Cell} (r : ArgsOk K Δ H vs [c]) : ∃ v, vs = [v] ∧ c.rp K Δ H v := by
  unfold ArgsOk at r
  cases vs with
  | nil => exact r.elim
  | cons v vs =>
    cases vs with
    | nil => exact ⟨v, rfl, r.1⟩
    | cons w ws => exact r.2.elim
/-- two names of a pair that was just made -/
theorem pair_put {Δ' : Gh} {H2 H3 : Hp} {T : Addr} {a b : V} {ca cb : Cell} {ja jb : Nat} {σ' : L2.St} {ρ' : Env} {Qs : L2.St → Hp → Prop} (e3 : H3 = upd H2 T (.tup [a, b])) (ha : ca.rp K Δ' H3 a) (hb : cb.rp K Δ' H3 b) (hja : ja < ρ'.length) (hjb : jb < ρ'.length)
    (e' : EnvOk K Δ' σ' H3 ρ') (q : ∀ σ2 : L2.St, EnvOk K Δ' σ2 H3 ((ρ'.set ja (some ca)).set jb (some cb)) → σ2.length = σ'.length → (∀ k, k ∉ [ja, jb] → σ2[k]? = σ'[k]?) → Qs σ2 H3) :
    gTup K 2 (gCons (gName ja) (gCons (gName jb) gNil)) (.ref T) σ' H3 Qs := by
  refine ⟨T, [a, b], rfl, .inl (.inl (by rw [e3]; exact upd_same)), rfl, a, [b], rfl, b, [], rfl, rfl, ?_⟩
  refine q _ ((e'.set hja ha).set (by rw [List.length_set]; exact hjb) hb) (by rw [List.length_set, List.length_set]) fun k hk => ?_
  have h1 : ja ≠ k := fun z => hk (by simp [z])
  have h2 : jb ≠ k := fun z => hk (by simp [z])
  rw [List.getElem?_set_ne h2, List.getElem?_set_ne h1]
theorem src_enumS {ta : TA} {ja jb : Nat} {x : Tx} {c0 : Nat → Nat} (h : EvA K Γ ta ρ (Is [⟨x⟩])) (hx : ∀ i, i < x.s.length → x.s[i]? = some (c0 i)) (hja : ja < ρ.length) (hjb : jb < ρ.length) :
    Src K Γ (iEnumS ta) (gTup K 2 (gCons (gName ja) (gCons (gName jb) gNil))) ρ [ja, jb] x.s.length (fun i ρ => (ρ.set ja (some ⟨(i : Int)⟩)).set jb (some ⟨(⟨[c0 i]⟩ : Tx)⟩)) := fun Δ σ H R s hh e k =>
  h Δ σ H _ s hh e fun vs H' cs pcs e1 r => by
    have ec : cs = [⟨x⟩] := pcs
    subst ec
    match vs, r with
    | [v], r =>
      have ev : v = .str ⟨x.s.toArray⟩ := r.1
      subst ev
      refine ⟨_, rfl, k _ H' .non ⟨()⟩ e1 rfl (fun Δ' H2 _ => ⟨fun i hi => by show i < x.s.toArray.size; simpa using hi, by show x.s.toArray.size ≤ x.s.length; simp⟩) fun Δ' i H2 y H3 hi h2 _ yy => ?_⟩
      obtain ⟨T, c, rfl, hT, e3, hc⟩ := (show ∃ T c, y = .ref T ∧ H2 T = none ∧ H3 = upd H2 T (.tup [.int (i : Nat), .str ⟨#[c]⟩]) ∧ x.s.toArray[i]? = some c from yy)
      have ec2 : c = c0 i := by
        have q1 : x.s[i]? = some c := by simpa using hc
        exact Option.some.inj (q1.symm.trans (hx i hi))
      subst ec2
      refine ⟨by rw [e3]; exact Ext.new h2 hT _, fun σ' ρ' Qs hl e' q => ?_⟩
      exact pair_put (ca := ⟨(i : Int)⟩) (cb := ⟨(⟨[c0 i]⟩ : Tx)⟩) e3 rfl rfl (by rw [hl]; exact hja) (by rw [hl]; exact hjb) e' q
theorem src_zipS {ta : TA} {ja jb : Nat} {x y : Tx} {c0 d0 : Nat → Nat} (h : EvA K Γ ta ρ (Is [⟨x⟩, ⟨y⟩])) (hl : x.s.length = y.s.length) (hx : ∀ i, i < x.s.length → x.s[i]? = some (c0 i) ∧ y.s[i]? = some (d0 i)) (hja : ja < ρ.length) (hjb : jb < ρ.length) :
    Src K Γ (iZipS ta) (gTup K 2 (gCons (gName ja) (gCons (gName jb) gNil))) ρ [ja, jb] x.s.length (fun i ρ => (ρ.set ja (some ⟨(⟨[c0 i]⟩ : Tx)⟩)).set jb (some ⟨(⟨[d0 i]⟩ : Tx)⟩)) := fun Δ σ H R s hh e k =>
  h Δ σ H _ s hh e fun vs H' cs pcs e1 r => by
    have ec : cs = [⟨x⟩, ⟨y⟩] := pcs
    subst ec
    match vs, r with
    | [v, w], r =>
      have ev : v = .str ⟨x.s.toArray⟩ := r.1
      have ew : w = .str ⟨y.s.toArray⟩ := r.2.1
      subst ev ew
      refine ⟨_, _, rfl, k _ H' .non ⟨()⟩ e1 rfl (fun Δ' H2 _ => ⟨fun i hi => ?_, ?_⟩) fun Δ' i H2 z H3 hi h2 _ yy => ?_⟩
      · show i < min x.s.toArray.size y.s.toArray.size
        rw [List.size_toArray, List.size_toArray]
        omega
      · show min x.s.toArray.size y.s.toArray.size ≤ x.s.length
        rw [List.size_toArray, List.size_toArray]
        omega
      obtain ⟨T, c, d, rfl, hT, e3, hc, hd⟩ := (show ∃ T c d, z = .ref T ∧ H2 T = none ∧ H3 = upd H2 T (.tup [.str ⟨#[c]⟩, .str ⟨#[d]⟩]) ∧ x.s.toArray[i]? = some c ∧ y.s.toArray[i]? = some d from yy)
      have ec2 : c = c0 i := by
        have q1 : x.s[i]? = some c := by simpa using hc
        exact Option.some.inj (q1.symm.trans (hx i hi).1)
      have ed2 : d = d0 i := by
        have q1 : y.s[i]? = some d := by simpa using hd
        exact Option.some.inj (q1.symm.trans (hx i hi).2)
      subst ec2 ed2
      refine ⟨by rw [e3]; exact Ext.new h2 hT _, fun σ' ρ' Qs hl e' q => ?_⟩
      exact pair_put (ca := ⟨(⟨[c0 i]⟩ : Tx)⟩) (cb := ⟨(⟨[d0 i]⟩ : Tx)⟩) e3 rfl rfl (by rw [hl]; exact hja) (by rw [hl]; exact hjb) e' q
theorem src_enumT {ta : TA} {ja jb : Nat} {xs : Tup α} {x0 : Nat → α} (h : EvA K Γ ta ρ (Is [⟨xs⟩])) (hx : ∀ i, i < xs.l.length → xs.l[i]? = some (x0 i)) (hja : ja < ρ.length) (hjb : jb < ρ.length) :
    Src K Γ (iEnumT K ta) (gTup K 2 (gCons (gName ja) (gCons (gName jb) gNil))) ρ [ja, jb] xs.l.length (fun i ρ => (ρ.set ja (some ⟨(i : Int)⟩)).set jb (some ⟨x0 i⟩)) := fun Δ σ H R s hh e k =>
  h Δ σ H _ s hh e fun vs H' cs pcs e1 r => by
    have ec : cs = [⟨xs⟩] := pcs
    subst ec
    obtain ⟨v, rfl, r0⟩ := args1 r
    · have r0 : Rp.rp K Δ H' v xs := r0
      obtain ⟨p, ws, rfl, n, sq, q⟩ := id r0
      refine ⟨p, ws, rfl, sq, k _ H' (.ref p) ⟨xs⟩ e1 r0 (fun Δ' H2 r2 => ?_) fun Δ' i H2 y H3 hi h2 r2 yy => ?_⟩
      · obtain ⟨p', ws, e', n', sq', q'⟩ := (show Rp.rp K Δ' H2 (.ref p) xs from r2)
        cases e'
        have hl := q'.len
        refine ⟨fun i hi => ⟨ws, ws[i], sq', List.getElem?_eq_getElem (by omega)⟩, ws, sq', by omega⟩
      · obtain ⟨p', ws, e', n', sq', q'⟩ := (show Rp.rp K Δ' H2 (.ref p) xs from r2)
        cases e'
        obtain ⟨T, x, rfl, hT, e3, hy⟩ := (show ∃ T x, y = .ref T ∧ H2 T = none ∧ H3 = upd H2 T (.tup [.int (i : Nat), x]) ∧ ∀ zs, SqT K H2 p zs → zs[i]? = some x from yy)
        obtain ⟨w, hw, rw'⟩ := q'.get (hx i hi)
        have ew : x = w := Option.some.inj ((hy _ sq').symm.trans hw)
        subst ew
        refine ⟨by rw [e3]; exact Ext.new h2 hT _, fun σ' ρ' Qs hl e' q => ?_⟩
        have hb : Rp.rp K Δ' H3 x (x0 i) := by
          subst e3
          exact Rp.mono (Ext.new h2 hT _).1 rw'
        exact pair_put (ca := ⟨(i : Int)⟩) (cb := ⟨x0 i⟩) (a := .int (i : Nat)) (b := x) e3 (show V.int (i : Nat) = V.int (i : Int) from rfl) hb (by rw [hl]; exact hja) (by rw [hl]; exact hjb) e' q
end
end Z

set_option Elab.async false
set_option linter.all false
set_option maxRecDepth 100000
set_option maxHeartbeats 1000000
namespace Z
open PySem PySem.Spec PyProof.Rows L2
section
variable {K : PySem.W.Frag} {Γ : Own} {ρ : Env} {ta tb tc te : TE} {t u : TT} {α β γ : Type} [Rp α] [Rp β] [Rp γ] {Pa : α → Prop} {Pb : β → Prop} {Pc : γ → Prop}
/-! ### comprehensions -/
theorem wipe_get (σ : L2.St) (k : Nat) : ∀ vs : List Nat, (wipe σ vs)[k]? = if k ∈ vs then (if k < σ.length then some none else none) else σ[k]?
  | [] => by simp [wipe]
  | v :: vs => by
    have ih := wipe_get σ k vs
    show ((wipe σ vs).set v none)[k]? = _
    by_cases h : v = k
    · subst h
      rw [List.getElem?_set]
      simp [wipe_length]
    · rw [List.getElem?_set_ne h, ih]
      have h' : ¬ k = v := fun z => h z.symm
      simp [h']
theorem wipe_off {σ σ2 : L2.St} {vs js : List Nat} (hl : σ2.length = σ.length) (hjs : ∀ j ∈ js, j ∈ vs) (h : ∀ k, k ∉ js → σ2[k]? = (wipe σ vs)[k]?) : wipe σ2 vs = wipe σ vs := by
  apply List.ext_getElem?
  intro k
  rw [wipe_get, wipe_get]
  by_cases hk : k ∈ vs
  · rw [if_pos hk, if_pos hk, hl]
  · rw [if_neg hk, if_neg hk, h k (fun z => hk (hjs k z)), wipe_get, if_neg hk]
def ghD (Δ : Gh) (D : Addr) (vs : List V) : Gh := fun a => if a = D then some (fun o => o = .lst vs) else Δ a
theorem ghD_sat {Δ : Gh} {D : Addr} {vs : List V} (s : Sat Γ Δ) (n : Δ D = none) : Sat Γ (ghD Δ D vs) := fun p hp => by
  have e := s p hp
  have hne : p.1 ≠ D := fun z => by
    rw [z, n] at e
    cases e
  show (if p.1 = D then _ else Δ p.1) = _
  rw [if_neg hne]
  exact e
theorem ghD_weak {Δ : Gh} {D : Addr} {vs : List V} {H : Hp} : ∀ x o, H x = some o → ghD Δ D vs x = none → Δ x = none := fun x o _ e => by
  have e' : (if x = D then some (fun o => o = HO.lst vs) else Δ x) = none := e
  by_cases h : x = D
  · rw [if_pos h] at e'
    cases e'
  · rw [if_neg h] at e'
    exact e'
/-- a fresh cell taken as one that changes -/
theorem ghD_new {Δ : Gh} {D : Addr} {vs : List V} {H : Hp} (hD : H D = none) : ∀ x o, H x = some o → Δ x = none → ghD Δ D vs x = none := fun x o hx e => by
  have hne : x ≠ D := ne_of_none hx hD
  show (if x = D then some (fun o => o = HO.lst vs) else Δ x) = none
  rw [if_neg hne]
  exact e
theorem gh_swap {Δ : Gh} {D : Addr} {vs ws : List V} {H : Hp} : ∀ x o, H x = some o → ghD Δ D vs x = none → ghD Δ D ws x = none := fun x o _ e => by
  have e' : (if x = D then some (fun o => o = HO.lst vs) else Δ x) = none := e
  show (if x = D then some (fun o => o = HO.lst ws) else Δ x) = none
  by_cases h : x = D
  · rw [if_pos h] at e'
    cases e'
  · rw [if_neg h] at e' ⊢
    exact e'
/-- the new list grows: all else stays -/
theorem gh_put {Δ : Gh} {H : Hp} {D : Addr} {vs ws : List V} (hh : Hold (ghD Δ D vs) H) : Hold (ghD Δ D ws) (upd H D (.lst ws)) ∧ Keep (ghD Δ D vs) H (upd H D (.lst ws)) := by
  constructor
  · intro a I e
    have e' : (if a = D then some (fun o => o = HO.lst ws) else Δ a) = some I := e
    by_cases h : a = D
    · rw [if_pos h] at e'
      cases e'
      exact ⟨_, by rw [h]; exact upd_same, rfl⟩
    · rw [if_neg h] at e'
      have e2 : ghD Δ D vs a = some I := by
        show (if a = D then _ else Δ a) = _
        rw [if_neg h]
        exact e'
      obtain ⟨o, ho, io⟩ := hh a I e2
      exact ⟨o, by rw [upd_ne h]; exact ho, io⟩
  · intro a o n e
    have hne : a ≠ D := fun z => by
      have n' : (if a = D then some (fun o => o = HO.lst vs) else Δ a) = none := n
      rw [if_pos z] at n'
      cases n'
    rw [upd_ne hne]
    exact e
theorem gh_first {Δ : Gh} {H : Hp} {D : Addr} {ws : List V} (hh : Hold Δ H) (hD : H D = none) : Hold (ghD Δ D ws) (upd H D (.lst ws)) ∧ Keep Δ H (upd H D (.lst ws)) := by
  refine ⟨fun a I e => ?_, (Ext.new hh hD _).1⟩
  have e' : (if a = D then some (fun o => o = HO.lst ws) else Δ a) = some I := e
  by_cases h : a = D
  · rw [if_pos h] at e'
    cases e'
    exact ⟨_, by rw [h]; exact upd_same, rfl⟩
  · rw [if_neg h] at e'
    obtain ⟨o, ho, io⟩ := hh a I e'
    exact ⟨o, by rw [upd_ne h]; exact ho, io⟩
theorem gh_last {Δ : Gh} {H : Hp} {D : Addr} {ws : List V} (n : Δ D = none) (hh : Hold (ghD Δ D ws) H) : Hold Δ H := fun a I e => by
  have hne : a ≠ D := fun z => by
    rw [z, n] at e
    cases e
  refine hh a I ?_
  show (if a = D then _ else Δ a) = _
  rw [if_neg hne]
  exact e
/-- how things stand ahead of turn i of a comprehension: the list made so far at D bears acc -/
structure CW (K : PySem.W.Frag) (Δ : Gh) (H1 : Hp) (D : Addr) (pv : V) (pc : Cell) (σw : L2.St) (ρw : Env) (vs : List V) (acc : List β) (H : Hp) : Prop where
  at_ : H D = some (.lst vs)
  hold : Hold (ghD Δ D vs) H
  keep : ∀ a o, a ≠ D → Δ a = none → H1 a = some o → H a = some o
  src : pc.rp K (ghD Δ D vs) H pv
  env : EnvOk K (ghD Δ D vs) σw H ρw
  els : All2 (fun u a => Rp.rp K (ghD Δ D vs) H u a) vs acc
theorem CW.next {Δ : Gh} {H1 H H' : Hp} {D : Addr} {pv : V} {pc : Cell} {σw : L2.St} {ρw : Env} {vs : List V} {acc : List β} (c : CW K Δ H1 D pv pc σw ρw vs acc H) (e : Ext (ghD Δ D vs) H H') (hD : H' D = some (.lst vs)) : CW K Δ H1 D pv pc σw ρw vs acc H' where
  at_ := hD
  hold := e.2
  keep a o ha n h := e.1 a o (by show (if a = D then _ else Δ a) = none; rw [if_neg ha]; exact n) (c.keep a o ha n h)
  src := pc.r.mono e.1 c.src
  env := c.env.mono e.1
  els := c.els.imp fun _ _ => Rp.mono e.1
theorem CW.put {Δ : Gh} {H1 H : Hp} {D : Addr} {pv : V} {pc : Cell} {σw : L2.St} {ρw : Env} {vs : List V} {acc : List β} {v : V} {b : β} (c : CW K Δ H1 D pv pc σw ρw vs acc H) (r : Rp.rp K (ghD Δ D vs) H v b) : CW K Δ H1 D pv pc σw ρw (vs ++ [v]) (acc ++ [b]) (upd H D (.lst (vs ++ [v]))) := by
  have g := gh_put (ws := vs ++ [v]) c.hold
  refine ⟨upd_same, g.1, fun a o ha n h => by rw [upd_ne ha]; exact c.keep a o ha n h, ?_, ?_, ?_⟩
  · exact pc.r.weak gh_swap (pc.r.mono g.2 c.src)
  · exact (c.env.mono g.2).weak gh_swap
  · exact All2.snoc (Rp.weak gh_swap (Rp.mono g.2 r)) (c.els.imp fun _ _ q => Rp.weak gh_swap (Rp.mono g.2 q))
theorem exact_at {Δ : Gh} {H : Hp} {D : Addr} {vs : List V} (hh : Hold (ghD Δ D vs) H) : H D = some (.lst vs) := by
  obtain ⟨o, ho, io⟩ := hh D (fun o => o = .lst vs) (by show (if D = D then _ else Δ D) = _; rw [if_pos rfl])
  rw [ho, show o = HO.lst vs from io]
/-- a list that stands in the heap, open to change -/
structure FL (α : Type) where
  l : List α
instance {α : Type} [Rp α] : Rp (FL α) where
  rp K Δ H v xs := ∃ p vs, v = .ref p ∧ Δ p = none ∧ H p = some (.lst vs) ∧ All2 (fun u a => Rp.rp K Δ H u a) vs xs.l
  mono k h := by
    obtain ⟨p, vs, e, n, r, q⟩ := h
    exact ⟨p, vs, e, n, k _ _ n r, q.imp fun _ _ => Rp.mono k⟩
  weak w h := by
    obtain ⟨p, vs, e, n, r, q⟩ := h
    exact ⟨p, vs, e, w _ _ r n, r, q.imp fun _ _ => Rp.weak w⟩
theorem ev_ofFL {te : TE} {P : List β → Prop} (h : Ev K Γ te ρ (fun y : FL β => P y.l)) : Ev K Γ te ρ P := fun Δ σ H Q s hh e k => h Δ σ H Q s hh e fun v H' a pa e1 r => by
  obtain ⟨p, vs, rfl, n, hr, q⟩ := r
  exact k _ H' a.l pa e1 ⟨p, vs, rfl, .inl ⟨n, .inl hr⟩, .inl (.inl hr), q⟩
theorem ev_lcF {wi : TI} {g : TG} {js vs : List Nat} {n : Nat} {st : Nat → Env → Env} (Iv : Nat → List β → Prop) (S : Src K Γ wi g ρ js n st) (hn : n ≤ 50000) (hjs : ∀ j ∈ js, j ∈ vs) (h0 : Iv 0 [])
    (hs : ∀ i acc, i < n → Iv i acc → ∃ PB : Bool → Prop, EvT K Γ t (st i (wipeE ρ vs)) PB ∧ (PB false → Iv (i + 1) acc) ∧ (PB true → ∃ PV : β → Prop, Ev K Γ te (st i (wipeE ρ vs)) PV ∧ ∀ b, PV b → Iv (i + 1) (acc ++ [b]))) :
    Ev K Γ (tLc wi g t te vs) ρ (fun y : FL β => Iv n y.l) := fun Δ σ H Q s hh e k => S Δ σ H _ s hh e fun J H1 pv pc e1 rp0 hgo hyld => fun D hD => by
  have nD : Δ D = none := e1.2.fresh hD
  have eW : EnvOk K Δ (wipe σ vs) H1 (wipeE ρ vs) := (e.mono e1.1).wipe vs
  have g0 := gh_first (ws := []) e1.2 hD
  have kp : Keep (ghD Δ D []) H1 (upd H1 D (.lst [])) := fun a o _ q => by rw [upd_ne (ne_of_none q hD)]; exact q
  have W0 : CW (β := β) K Δ H1 D pv pc (wipe σ vs) (wipeE ρ vs) [] [] (upd H1 D (.lst [])) :=
    ⟨upd_same, g0.1, fun a o ha n h => by rw [upd_ne ha]; exact h, pc.r.mono kp (pc.r.weak (ghD_new hD) rp0), (eW.weak (ghD_new hD)).mono kp, trivial⟩
  have wl : (wipeE ρ vs).length = ρ.length := by
    rw [← eW.1, wipe_length]
    exact e.1
  refine ⟨fun i m H2 => m = n - i ∧ i ≤ n ∧ ∃ vs' acc, CW K Δ H1 D pv pc (wipe σ vs) (wipeE ρ vs) vs' acc H2 ∧ acc.length ≤ i ∧ Iv i acc, ⟨n, by simp, Nat.zero_le _, [], [], W0, Nat.le_refl _, h0⟩, ?_⟩
  rintro i m H2 ⟨rfl, hi, vs', acc, c, hl, iv⟩
  have hg := hgo _ H2 c.src
  by_cases hlt : i < n
  · refine .inr ⟨hg.1 i hlt, fun H3 => ∃ vs' acc, CW K Δ H1 D pv pc (wipe σ vs) (wipeE ρ vs) vs' acc H3 ∧ acc.length ≤ i + 1 ∧ Iv (i + 1) acc, fun H' ⟨v', a', c', l', iv'⟩ => ⟨n - (i + 1), by omega, rfl, hlt, v', a', c', l', iv'⟩, fun x H3 hy => ?_⟩
    obtain ⟨e3, hput⟩ := hyld _ i H2 x H3 hlt c.hold c.src hy
    have c3 := c.next e3 (exact_at e3.2)
    refine hput (wipe σ vs) (wipeE ρ vs) _ wl c3.env fun σ2 env2 hl2 hoff => ⟨wipe_off (by rw [hl2, wipe_length]) hjs hoff, ?_⟩
    obtain ⟨PB, hT, hF, hV⟩ := hs i acc hlt iv
    refine hT (ghD Δ D vs') σ2 H3 _ (ghD_sat s nD) e3.2 env2 fun b H4 pb e4 => ?_
    have c4 := c3.next e4 (exact_at e4.2)
    cases b with
    | false => exact iteF ⟨vs', acc, c4, by omega, hF pb⟩
    | true =>
      obtain ⟨PV, hE, hb⟩ := hV pb
      refine iteT (hE (ghD Δ D vs') σ2 H4 _ (ghD_sat s nD) e4.2 (env2.mono e4.1) fun y H5 b pb' e5 r5 => ?_)
      have c5 := c4.next e5 (exact_at e5.2)
      have hlen : vs'.length < sizeLine := Nat.lt_of_le_of_lt (m := 50000) (by rw [c5.els.len]; omega) (by decide)
      exact ⟨vs', c5.at_, hlen, vs' ++ [y], acc ++ [b], c5.put r5, by rw [List.length_append]; show acc.length + 1 ≤ i + 1; omega, hb b pb'⟩
  · have ei : i = n := by omega
    subst ei
    refine .inl ⟨hg.2, k (.ref D) H2 ⟨acc⟩ iv ⟨fun a o na h => ?_, gh_last nD c.hold⟩ ⟨D, vs', rfl, nD, c.at_, c.els.imp fun _ _ => Rp.weak ghD_weak⟩⟩
    have h1 := e1.1 a o na h
    exact c.keep a o (ne_of_none h1 hD) na h1
theorem ev_lc {wi : TI} {g : TG} {js vs : List Nat} {n : Nat} {st : Nat → Env → Env} (Iv : Nat → List β → Prop) (S : Src K Γ wi g ρ js n st) (hn : n ≤ 50000) (hjs : ∀ j ∈ js, j ∈ vs) (h0 : Iv 0 [])
    (hs : ∀ i acc, i < n → Iv i acc → ∃ PB : Bool → Prop, EvT K Γ t (st i (wipeE ρ vs)) PB ∧ (PB false → Iv (i + 1) acc) ∧ (PB true → ∃ PV : β → Prop, Ev K Γ te (st i (wipeE ρ vs)) PV ∧ ∀ b, PV b → Iv (i + 1) (acc ++ [b]))) :
    Ev K Γ (tLc wi g t te vs) ρ (Iv n) := ev_ofFL (ev_lcF Iv S hn hjs h0 hs)
/-- the comprehension of told data: the items by f, chosen by p -/
theorem ev_lcD {wi : TI} {g : TG} {js vs : List Nat} {τ : Type} {xs : List τ} {st : Nat → Env → Env} (p : τ → Bool) (f : τ → β) (S : Src K Γ wi g ρ js xs.length st) (hn : xs.length ≤ 50000) (hjs : ∀ j ∈ js, j ∈ vs)
    (hs : ∀ i x, xs[i]? = some x → EvT K Γ t (st i (wipeE ρ vs)) (Is (p x)) ∧ (p x = true → Ev K Γ te (st i (wipeE ρ vs)) (Is (f x)))) :
    Ev K Γ (tLc wi g t te vs) ρ (Is ((xs.filter p).map f)) := by
  refine (ev_lc (fun i acc => acc = ((xs.take i).filter p).map f) S hn hjs rfl fun i acc hi e => ?_).imp fun a h => by
    show a = _
    rw [h, List.take_length]
  have hx : xs[i]? = some xs[i] := List.getElem?_eq_getElem hi
  have et : xs.take (i + 1) = xs.take i ++ [xs[i]] := by rw [List.take_add_one, hx]; rfl
  obtain ⟨h1, h2⟩ := hs i _ hx
  refine ⟨_, h1, fun q => ?_, fun q => ⟨_, h2 (show true = _ from q).symm, fun b hb => ?_⟩⟩
  · have q' : p xs[i] = false := (show false = _ from q).symm
    rw [et, List.filter_append, List.filter_cons, q', e]
    simp
  · have q' : p xs[i] = true := (show true = _ from q).symm
    rw [et, List.filter_append, List.filter_cons, q', e, show b = f xs[i] from hb]
    simp
theorem et_yes : EvT K Γ tYes ρ (Is true) := fun Δ σ H Q s hh e k => k true H rfl (Ext.refl hh)
end
end Z

set_option Elab.async false
set_option linter.all false
set_option maxRecDepth 100000
set_option maxHeartbeats 1000000
namespace Z
open PySem PySem.Spec PyProof.Rows L2
/-! ### statements -/
/-- how things stand within a def: Δ0, H0 at its entry; Γ what it owns; F data that stay; ρ its names -/
def Stt (K : PySem.W.Frag) (Δ0 : Gh) (H0 : Hp) (Γ : Own) (F : List (V × Cell)) (ρ : Env) (σ : L2.St) (H : Hp) : Prop :=
  ∃ Δ : Gh, Sat Γ Δ ∧ Hold Δ H ∧ EnvOk K Δ σ H ρ ∧ (∀ f ∈ F, f.2.rp K Δ H f.1) ∧ Ext Δ0 H0 H ∧ (∀ x I, Δ0 x = some I → Δ x = some I) ∧ (∀ x, Δ0 x = none → Δ x ≠ none → H0 x = none)
def Wp (K : PySem.W.Frag) (Δ0 : Gh) (H0 : Hp) (Γ : Own) (F : List (V × Cell)) (ρ : Env) (t : TS) (D : Ends) : Prop := ∀ σ H, Stt K Δ0 H0 Γ F ρ σ H → t D σ H
/-- what is wanted of what is handed back -/
def Fin (K : PySem.W.Frag) (Δ0 : Gh) (H0 : Hp) {β : Type} [Rp β] (R : β → Prop) (D : Ends) : Prop := ∀ v H' b, R b → Ext Δ0 H0 H' → Rp.rp K Δ0 H' v b → D.rt v H'
section
variable {K : PySem.W.Frag} {Δ0 : Gh} {H0 : Hp} {Γ : Own} {F : List (V × Cell)} {ρ : Env} {ta tb tc te : TE} {c : TT} {t u tz : TS} {D : Ends} {α β γ : Type} [Rp α] [Rp β] [Rp γ] {P : α → Prop} {R : β → Prop}
theorem ext0 {Δ : Gh} {H H' : Hp} (e0 : Ext Δ0 H0 H) (s1 : ∀ x I, Δ0 x = some I → Δ x = some I) (s2 : ∀ x, Δ0 x = none → Δ x ≠ none → H0 x = none) (e : Ext Δ H H') : Ext Δ0 H0 H' := by
  refine ⟨fun a o n h => ?_, fun a I q => e.2 a I (s1 a I q)⟩
  have n' : Δ a = none := by
    cases q : Δ a with
    | none => rfl
    | some I =>
      rw [s2 a n (by rw [q]; exact fun z => by cases z)] at h
      cases h
  exact e.1 a o n' (e0.1 a o n h)
theorem none0 {Δ : Gh} (s1 : ∀ x I, Δ0 x = some I → Δ x = some I) {x : Addr} (n : Δ x = none) : Δ0 x = none := by
  cases q : Δ0 x with
  | none => rfl
  | some I =>
    rw [s1 x I q] at n
    cases n
theorem wp_asg {i : Nat} (h : Ev K Γ te ρ P) (hi : i < ρ.length) (k : ∀ a, P a → Wp K Δ0 H0 Γ F (ρ.set i (some ⟨a⟩)) tz D) : Wp K Δ0 H0 Γ F ρ (tSeq (tAsg te (gName i)) tz) D := fun σ H ⟨Δ, s, hh, e, f, e0, s1, s2⟩ =>
  h Δ σ H _ s hh e fun v H' a pa e1 r1 => k a pa _ H' ⟨Δ, s, e1.2, (e.mono e1.1).set (c := ⟨a⟩) hi r1, fun q hq => q.2.r.mono e1.1 (f q hq), ext0 e0 s1 s2 e1, s1, s2⟩
theorem wp_asg1 {i : Nat} {a : α} (h : Ev K Γ te ρ (Is a)) (hi : i < ρ.length) (k : Wp K Δ0 H0 Γ F (ρ.set i (some ⟨a⟩)) tz D) : Wp K Δ0 H0 Γ F ρ (tSeq (tAsg te (gName i)) tz) D :=
  wp_asg h hi fun b e => by rw [show b = a from e]; exact k
/-- the same as the last of a block -/
theorem wp_asgL {i : Nat} (h : Ev K Γ te ρ P) (hi : i < ρ.length) (k : ∀ a, P a → Wp K Δ0 H0 Γ F (ρ.set i (some ⟨a⟩)) tNext D) : Wp K Δ0 H0 Γ F ρ (tAsg te (gName i)) D := fun σ H ⟨Δ, s, hh, e, f, e0, s1, s2⟩ =>
  h Δ σ H _ s hh e fun v H' a pa e1 r1 => k a pa _ H' ⟨Δ, s, e1.2, (e.mono e1.1).set (c := ⟨a⟩) hi r1, fun q hq => q.2.r.mono e1.1 (f q hq), ext0 e0 s1 s2 e1, s1, s2⟩
theorem wp_ret (hf : Fin K Δ0 H0 R D) (h : Ev K Γ te ρ R) : Wp K Δ0 H0 Γ F ρ (tRet te) D := fun σ H ⟨Δ, s, hh, e, f, e0, s1, s2⟩ =>
  h Δ σ H _ s hh e fun v H' a pa e1 r1 => hf v H' a pa (ext0 e0 s1 s2 e1) (Rp.weak (fun x o _ n => none0 s1 n) r1)
theorem wp_drop (h : Ev K Γ te ρ P) (k : Wp K Δ0 H0 Γ F ρ tz D) : Wp K Δ0 H0 Γ F ρ (tSeq (tDrop te) tz) D := fun σ H ⟨Δ, s, hh, e, f, e0, s1, s2⟩ =>
  h Δ σ H _ s hh e fun v H' a pa e1 r1 => k _ H' ⟨Δ, s, e1.2, e.mono e1.1, fun q hq => q.2.r.mono e1.1 (f q hq), ext0 e0 s1 s2 e1, s1, s2⟩
theorem wp_dropL (h : Ev K Γ te ρ P) (k : Wp K Δ0 H0 Γ F ρ tNext D) : Wp K Δ0 H0 Γ F ρ (tDrop te) D := fun σ H ⟨Δ, s, hh, e, f, e0, s1, s2⟩ =>
  h Δ σ H _ s hh e fun v H' a pa e1 r1 => k _ H' ⟨Δ, s, e1.2, e.mono e1.1, fun q hq => q.2.r.mono e1.1 (f q hq), ext0 e0 s1 s2 e1, s1, s2⟩
theorem wp_ifP {PB : Bool → Prop} (h : EvT K Γ c ρ PB) (h1 : PB true → Wp K Δ0 H0 Γ F ρ t D) (h2 : PB false → Wp K Δ0 H0 Γ F ρ u D) : Wp K Δ0 H0 Γ F ρ (tIfS c t u) D := fun σ H ⟨Δ, s, hh, e, f, e0, s1, s2⟩ =>
  h Δ σ H _ s hh e fun b H' pb e1 => by
    have st : Stt K Δ0 H0 Γ F ρ σ H' := ⟨Δ, s, e1.2, e.mono e1.1, fun q hq => q.2.r.mono e1.1 (f q hq), ext0 e0 s1 s2 e1, s1, s2⟩
    cases b with
    | true => exact iteT (h1 pb σ H' st)
    | false => exact iteF (h2 pb σ H' st)
theorem wp_if {b : Bool} (h : EvT K Γ c ρ (Is b)) (h1 : b = true → Wp K Δ0 H0 Γ F ρ t D) (h2 : b = false → Wp K Δ0 H0 Γ F ρ u D) : Wp K Δ0 H0 Γ F ρ (tIfS c t u) D := wp_ifP h (fun e => h1 (show true = b from e).symm) fun e => h2 (show false = b from e).symm
/-- if c: t, then the rest -/
theorem wp_when {b : Bool} (h : EvT K Γ c ρ (Is b)) (h1 : b = true → Wp K Δ0 H0 Γ F ρ t { D with nx := tz D }) (h2 : b = false → Wp K Δ0 H0 Γ F ρ tz D) : Wp K Δ0 H0 Γ F ρ (tSeq (tIfS c t tNext) tz) D := wp_if (D := { D with nx := tz D }) h h1 h2
theorem wp_ifs {b : Bool} (h : EvT K Γ c ρ (Is b)) (h1 : b = true → Wp K Δ0 H0 Γ F ρ t { D with nx := tz D }) (h2 : b = false → Wp K Δ0 H0 Γ F ρ u { D with nx := tz D }) : Wp K Δ0 H0 Γ F ρ (tSeq (tIfS c t u) tz) D := wp_if (D := { D with nx := tz D }) h h1 h2
/-- the raise of a way that is not gone -/
theorem wp_no {b : Bool} (hb : b = false) (h : EvT K Γ c ρ (Is b)) (h2 : Wp K Δ0 H0 Γ F ρ tz D) : Wp K Δ0 H0 Γ F ρ (tSeq (tIfS c t tNext) tz) D := wp_when h (fun e => by rw [hb] at e; cases e) fun _ => h2
theorem wp_noL {b : Bool} (hb : b = false) (h : EvT K Γ c ρ (Is b)) (h2 : Wp K Δ0 H0 Γ F ρ tNext D) : Wp K Δ0 H0 Γ F ρ (tIfS c t tNext) D := wp_if h (fun e => by rw [hb] at e; cases e) fun _ => h2
/-- a, b = e1, e2 -/
theorem wp_par {i j : Nat} {ta : TA} {Q : List Cell → Prop} (h : EvA K Γ ta ρ Q) (hi : i < ρ.length) (hj : j < ρ.length) (k : ∀ cs, Q cs → ∃ c d : Cell, cs = [c, d] ∧ Wp K Δ0 H0 Γ F ((ρ.set i (some c)).set j (some d)) tz D) : Wp K Δ0 H0 Γ F ρ (tSeq (tPar i j ta) tz) D := fun σ H ⟨Δ, s, hh, e, f, e0, s1, s2⟩ =>
  h Δ σ H _ s hh e fun vs H' cs pcs e1 r => by
    obtain ⟨c, d, rfl, kk⟩ := k cs pcs
    match vs, r with
    | [v, w], r => exact ⟨v, w, rfl, kk _ H' ⟨Δ, s, e1.2, ((e.mono e1.1).set hi r.1).set (by rw [List.length_set]; exact hj) r.2.1, fun q hq => q.2.r.mono e1.1 (f q hq), ext0 e0 s1 s2 e1, s1, s2⟩⟩
/-- a loop: Iv tells what may stand ahead of turn i -/
def At (K : PySem.W.Frag) (Δ0 : Gh) (H0 : Hp) (F : List (V × Cell)) (Iv : Nat → Own → Env → Prop) (i : Nat) : L2.St → Hp → Prop := fun σ H => ∃ Γ ρ, Iv i Γ ρ ∧ Stt K Δ0 H0 Γ F ρ σ H
theorem wp_for {wi : TI} {g : TG} {js : List Nat} {n : Nat} {st : Nat → Env → Env} (Iv : Nat → Own → Env → Prop) (S : Src K Γ wi g ρ js n st) (h0 : Iv 0 Γ ρ) (hl : ∀ i Γ' ρ', Iv i Γ' ρ' → ρ'.length = ρ.length)
    (hs : ∀ i Γ' ρ' F', i < n → Iv i Γ' ρ' → Wp K Δ0 H0 Γ' F' (st i ρ') t { D with nx := At K Δ0 H0 F' Iv (i + 1), ct := At K Δ0 H0 F' Iv (i + 1), bk := tz D })
    (hd : ∀ Γ' ρ' F', Iv n Γ' ρ' → Wp K Δ0 H0 Γ' F' ρ' tz D) : Wp K Δ0 H0 Γ F ρ (tSeq (tFor wi g t) tz) D := fun σ H ⟨Δ, s, hh, e, f, e0, s1, s2⟩ =>
  S Δ σ H _ s hh e fun J H1 pv pc e1 rp0 hgo hyld => by
    refine ⟨fun i m σ2 H2 => m = n - i ∧ i ≤ n ∧ At K Δ0 H0 ((pv, pc) :: F) Iv i σ2 H2, ⟨n, by simp, Nat.zero_le _, Γ, ρ, h0, Δ, s, e1.2, e.mono e1.1, ?_, ext0 e0 s1 s2 e1, s1, s2⟩, ?_⟩
    · intro q hq
      rcases List.mem_cons.mp hq with z | z
      · rw [z]; exact rp0
      · exact q.2.r.mono e1.1 (f q z)
    · rintro i m σ2 H2 ⟨rfl, hi, Γ', ρ', iv, st2⟩
      obtain ⟨Δ', s', hh', e', f', e0', s1', s2'⟩ := id st2
      have rp2 : pc.rp K Δ' H2 pv := f' (pv, pc) List.mem_cons_self
      have hg := hgo Δ' H2 rp2
      by_cases hlt : i < n
      · refine .inr ⟨hg.1 i hlt, At K Δ0 H0 ((pv, pc) :: F) Iv (i + 1), fun σ3 H3 a => ⟨n - (i + 1), by omega, rfl, hlt, a⟩, fun x H3 hy => ?_⟩
        obtain ⟨e3, hput⟩ := hyld Δ' i H2 x H3 hlt hh' rp2 hy
        refine hput σ2 ρ' _ (hl i Γ' ρ' iv) (e'.mono e3.1) fun σ3 env3 _ _ => ?_
        exact hs i Γ' ρ' _ hlt iv σ3 H3 ⟨Δ', s', e3.2, env3, fun q hq => q.2.r.mono e3.1 (f' q hq), ext0 e0' s1' s2' e3, s1', s2'⟩
      · have ei : i = n := by omega
        subst ei
        exact .inl ⟨hg.2, hd Γ' ρ' _ iv σ2 H2 st2⟩
/-- behind the last turn's body -/
theorem wp_turn {Iv : Nat → Own → Env → Prop} {i : Nat} (hiv : Iv i Γ ρ) (e : D.nx = At K Δ0 H0 F Iv i) : Wp K Δ0 H0 Γ F ρ tNext D := fun σ H st => by
  show D.nx σ H
  rw [e]
  exact ⟨Γ, ρ, hiv, st⟩
/-- x = a list of one's own: from here on its cell is owned, its members told -/
def LstIs (vs : List V) : HO → Prop := fun o => o = .lst vs
theorem wp_end {D : Ends} (h : ∀ H', Ext Δ0 H0 H' → D.nx = D.nx → ∀ σ, D.nx σ H') : Wp K Δ0 H0 Γ F ρ tNext D := fun σ H ⟨Δ, s, hh, e, f, e0, s1, s2⟩ => h H e0 rfl σ
end
/-! ### a def -/
section
variable {P : Program} {w : World} {K : PySem.W.Frag} {mg : Str → Option Value} {base : Heap} {β : Type} [Rp β]
def env0 (N : List Str) (cs : List Cell) : Env := cs.map some ++ List.replicate (N.length - cs.length) none
theorem start_ok {Δ : Gh} {H : Hp} {N : List Str} {vs : List V} {cs : List Cell} (h : ArgsOk K Δ H vs cs) : EnvOk K Δ (L2.start N vs) H (env0 N cs) := by
  have hl := All2.len h
  refine ⟨by unfold L2.start env0; rw [List.length_append, List.length_append, List.length_map, List.length_map, List.length_replicate, List.length_replicate, hl], fun i c e => ?_⟩
  unfold env0 at e
  unfold L2.start
  by_cases hi : i < cs.length
  · rw [List.getElem?_append_left (by rw [List.length_map]; exact hi), List.getElem?_map] at e
    cases q : cs[i]? with
    | none => rw [q] at e; cases e
    | some d =>
      rw [q] at e
      have ed : d = c := Option.some.inj (Option.some.inj e)
      subst ed
      obtain ⟨v, hv, rv⟩ := All2.get h q
      exact ⟨v, by rw [List.getElem?_append_left (by rw [List.length_map, hl]; exact hi), List.getElem?_map, hv]; rfl, rv⟩
  · rw [List.getElem?_append_right (by rw [List.length_map]; omega)] at e
    obtain ⟨_, e2⟩ := List.getElem?_eq_some_iff.mp e
    rw [List.getElem_replicate] at e2
    cases e2
/-- a def's promise from its body's term and the body's walk -/
theorem def_ok {x qual : Str} {args : Arguments} {body : List Stmt} {scope : Scope} {dvs : List V} {kws : List (Str × V)} {f : Addr} {fd : FuncData} {N ps : List Str} {k : Nat} {G : Own → List Cell → (β → Prop) → Prop}
    (Fn : FunD K x qual args body scope dvs kws f fd) (S : FnScope N ps scope) (len : ∀ Γ cs R, G Γ cs R → cs.length = ps.length)
    (hb : ∀ (cdv : Value) (A : Around) (outer : List PySem.Env) (s : Shared) (H : Hp) (E : XK), Room k (A.deeper (envOfC qual scope s.heap.objs.size f cdv)) →
      ∀ (Γ : Own) (cs : List Cell) (R : β → Prop), G Γ cs R → ∃ t, PSs (cxOf CX0 P w K mg base N qual scope f cdv A outer s H E).nox body t ∧
        ∀ (Δ0 : Gh) (D : Ends), Fin K Δ0 H R D → (∀ b : β, R b → (∀ H', Rp.rp K Δ0 H' .non b) → ∀ σ H', Ext Δ0 H H' → D.nx σ H') → Wp K Δ0 H Γ [] (env0 N cs) t D) :
    FnOk P w K mg base CX0 (k + 1) f fd ps (spD K G) := by
  refine Fn.ok S (fun vs H Q E h => ?_) (fun cdv A outer s H vs Q E hr h => ?_)
  · obtain ⟨Γ, Δ, cs, R, g, _, _, a, _⟩ := h
    rw [All2.len a]
    exact len Γ cs R g
  · obtain ⟨Γ, Δ, cs, R, g, sa, hh, a, q⟩ := h
    obtain ⟨t, ht, hw⟩ := hb cdv A outer s H E hr Γ cs R g
    refine ⟨t, ?_, hw Δ _ (fun v H' b pb e r => q v H' b pb e r) (fun b rb hb' σ H' e => q .non H' b rb e (hb' H')) _ H ⟨Δ, sa, hh, start_ok a, fun z hz => (nomatch hz), Ext.refl hh, fun _ _ z => z, fun x n m => absurd n m⟩⟩
    first
      | exact ht
      | exact PSs.nox ht
end
end Z

set_option Elab.async false
set_option linter.all false
set_option maxRecDepth 100000
set_option maxHeartbeats 1000000
namespace Z
open PySem PySem.Spec PyProof.Rows L2
/-! ### further rules -/
section
variable {X : Cx}
theorem call_reprB : CallR X (.builtin "repr") (fun xs H Q => ∃ b, xs = [.bl b] ∧ Q (.str (if b then "True" else "False")) H) := by
  intro pins s σ H xs us Q I r h
  obtain ⟨b, rfl, q⟩ := h
  obtain ⟨u, rfl, r1⟩ := vals1 r
  cases r1
  exact PySem.P.repr_of_bool ⟨.str _, H, I.tok _, ⟨_, rfl⟩, q⟩
def rMulS : R2 := fun x y H Q => ∃ z i, x = .str z ∧ y = .int i ∧ MulOk z i ∧ Q (.str (PySem.Txt.mul z i)) H
theorem op_mulS : OpR X (binaryOp .Mult) rMulS := by
  intro pins s σ H x y v u Q I rx ry h
  obtain ⟨z, i, rfl, rfl, hm, q⟩ := h
  obtain ⟨t, rfl⟩ := rx
  obtain ⟨t', rfl⟩ := ry
  exact PySem.SB.mul hm fun t2 k => ⟨.str _, H, I.tok k, ⟨t2, rfl⟩, q⟩
theorem pe_trS {o : Expr} {to te : TE} {e : Expr} {apos pos : Pos} (hc : X.calm = true) (ho : PE X o to) (he : PE X e te) (hs : starEach [e] X.env = [(false, eval e X.env)] := by rfl) (hbase : attributeBase o "translate" X.env (eval o X.env) = eval o X.env := by rfl) (hline : (apos.endLine == pos.line) = true := by rfl) :
    PE X (.Call (.Attribute o "translate" apos) [e] [] pos) (tM1 (fun x xs H Q => ∃ (t : List Nat) (d : Addr), x = .str (SX.S t) ∧ xs = [.ref d] ∧ H d = some (.dK swpV) ∧ t.length ≤ 16000000 ∧ Q (.str (SX.S (t.map sw))) H) to te) :=
  pe_m1 F.slot_str_translate F.type_str_translate (mt_trS hc) ho he hs hbase hline
theorem pe_stripC {o : Expr} {to te : TE} {e : Expr} {apos pos : Pos} (ho : PE X o to) (he : PE X e te) (hs : starEach [e] X.env = [(false, eval e X.env)] := by rfl) (hbase : attributeBase o "strip" X.env (eval o X.env) = eval o X.env := by rfl) (hline : (apos.endLine == pos.line) = true := by rfl) :
    PE X (.Call (.Attribute o "strip" apos) [e] [] pos) (tM1 (fun x xs H Q => ∃ a b, x = .str a ∧ xs = [.str b] ∧ a.length ≤ sizeLine ∧ Q (.str (PySem.Txt.stripChars a b)) H) to te) :=
  pe_m1 F.slot_str_strip F.type_str_strip mt_stripChars ho he hs hbase hline
end
end Z

set_option Elab.async false
set_option linter.all false
set_option maxRecDepth 100000
set_option maxHeartbeats 1000000
namespace Z
open PySem PySem.Spec PyProof.Rows L2
section
variable {K : PySem.W.Frag} {Γ : Own} {ρ : Env} {ta tb tc te : TE} {t u : TT} {α β γ : Type} [Rp α] [Rp β] [Rp γ] {Pa : α → Prop} {Pb : β → Prop} {Pc : γ → Prop}
/-! ### texts -/
theorem joinL_flat : ∀ ps : List (List Nat), TL.joinL [] ps = ps.flatten
  | [] => rfl
  | [p] => by simp [TL.joinL]
  | p :: q :: r => by
    show p ++ ([] ++ TL.joinL [] (q :: r)) = _
    rw [joinL_flat (q :: r), List.nil_append, List.flatten_cons, List.flatten_cons, List.flatten_cons]
theorem join_tx (xs : List Tx) : PySem.Txt.join Str.empty (xs.map fun x => (⟨x.s.toArray⟩ : Str)) = ⟨((xs.map (·.s)).flatten).toArray⟩ := by
  rw [TL.join_eq]
  have h := TL.tl_join Str.empty (xs.map fun x => (⟨x.s.toArray⟩ : Str))
  rw [show TL.tl Str.empty = [] from rfl, joinL_flat, List.map_map] at h
  have e : (xs.map (TL.tl ∘ fun x => (⟨x.s.toArray⟩ : Str))) = xs.map (·.s) := List.map_congr_left fun x _ => by show x.s.toArray.toList = x.s; simp
  rw [e] at h
  generalize PySem.Str.join Str.empty _ = z at h
  cases z
  have h' := congrArg List.toArray h
  simpa using h'
def rJoin (K : PySem.W.Frag) : V → List V → Hp → VK → Prop := fun x xs H Q => ∃ a p, ∃ ys : List Str, x = .str a ∧ xs = [.ref p] ∧ (SqL K H p (ys.map V.str) ∨ SqT K H p (ys.map V.str)) ∧
  (ys.map (·.length)).sum + ys.length * a.length ≤ 16777216 ∧ Q (.str (PySem.Txt.join a ys)) H
theorem sum_len (xs : List Tx) : ((xs.map fun x => (⟨x.s.toArray⟩ : Str)).map (·.length)).sum = ((xs.map (·.s)).flatten).length := by
  induction xs with
  | nil => rfl
  | cons x xs ih =>
    rw [List.map_cons, List.map_cons, List.sum_cons, ih, List.map_cons, List.flatten_cons, List.length_append]
    have e : (⟨x.s.toArray⟩ : Str).length = x.s.length := by show x.s.toArray.size = _; simp
    rw [e]
/-- "".join(texts) -/
theorem ev_join1 {xs : List Tx} (h : Ev K Γ te ρ (Is xs)) (hz : ((xs.map (·.s)).flatten).length ≤ 100000) : Ev K Γ (tM1 (rJoin K) (tC (.str "")) te) ρ (Is (⟨(xs.map (·.s)).flatten⟩ : Tx)) := fun Δ σ H Q s hh e k =>
  ⟨⟨_, rfl⟩, h Δ σ H _ s hh e fun v H' a pa e1 r => by
    have ea : a = xs := pa
    subst ea
    obtain ⟨p, vs, rfl, n, sq, q⟩ := r
    have ev := all2_tx q
    subst ev
    refine ⟨Str.empty, p, _, rfl, rfl, .inl sq, ?_, k _ H' _ rfl e1 (by show V.str _ = V.str _; rw [join_tx])⟩
    rw [sum_len]
    have e0 : Str.empty.length = 0 := rfl
    rw [e0]
    omega⟩
theorem ev_join {xs : List Tx} {z : Str} (hz0 : z = "" := by rfl) (h : Ev K Γ te ρ (Is xs)) (hz : ((xs.map (·.s)).flatten).length ≤ 100000) : Ev K Γ (tM1 (rJoin K) (tC (.str z)) te) ρ (Is (⟨(xs.map (·.s)).flatten⟩ : Tx)) := by
  subst hz0
  exact ev_join1 h hz
/-- the same of a drawn list -/
theorem ev_joinP {P : List Tx → Prop} {z : Str} (hz0 : z = "" := by rfl) (h : Ev K Γ te ρ P) (hz : ∀ xs, P xs → ((xs.map (·.s)).flatten).length ≤ 100000) : Ev K Γ (tM1 (rJoin K) (tC (.str z)) te) ρ (fun x : Tx => ∃ xs, P xs ∧ x = ⟨(xs.map (·.s)).flatten⟩) := by
  subst hz0
  exact fun Δ σ H Q s hh e k =>
    ⟨⟨_, rfl⟩, h Δ σ H _ s hh e fun v H' a pa e1 r => by
      obtain ⟨p, vs, rfl, n, sq, q⟩ := r
      have ev := all2_tx q
      subst ev
      refine ⟨Str.empty, p, _, rfl, rfl, .inl sq, ?_, k _ H' _ ⟨a, pa, rfl⟩ e1 (by show V.str _ = V.str _; rw [join_tx])⟩
      rw [sum_len]
      have e0 : Str.empty.length = 0 := rfl
      rw [e0]
      have := hz a pa
      omega⟩
def isSign (c : Nat) : Bool := c == 43 || c == 45 || c == 48
theorem contains_sign (c : Nat) : (Str.ofString "+-0").cps.contains c = isSign c := by
  have e : (Str.ofString "+-0").cps = #[43, 45, 48] := by decide +kernel
  rw [e]
  unfold isSign
  simp [Array.contains, Bool.or_assoc, eq_comm, BEq.comm]
theorem takeWhile_all {p : Nat → Bool} : ∀ {l : List Nat}, (l.takeWhile p).length = l.length → l.all p = true
  | [], _ => rfl
  | x :: l, h => by
    rw [List.takeWhile_cons] at h
    cases hp : p x with
    | true =>
      rw [hp] at h
      simp at h
      rw [List.all_cons, hp, takeWhile_all (by simpa using h)]
      try rfl
    | false =>
      rw [hp] at h
      simp at h
theorem all_takeWhile {p : Nat → Bool} : ∀ {l : List Nat}, l.all p = true → l.takeWhile p = l
  | [], _ => rfl
  | x :: l, h => by
    rw [List.all_cons, Bool.and_eq_true] at h
    rw [List.takeWhile_cons, h.1, if_pos rfl, all_takeWhile h.2]
theorem drop_take {p : Nat → Bool} : ∀ l : List Nat, l = l.takeWhile p ++ l.drop (l.takeWhile p).length
  | [] => rfl
  | x :: l => by
    rw [List.takeWhile_cons]
    split
    · rw [List.cons_append, List.length_cons, List.drop_succ_cons, ← drop_take l]
    · rfl
theorem take_goes {p : Nat → Bool} : ∀ l : List Nat, (l.takeWhile p).all p = true
  | [] => rfl
  | x :: l => by
    rw [List.takeWhile_cons]
    split
    · rename_i h
      rw [List.all_cons, h, take_goes l]
      rfl
    · rfl
theorem takeWhile_le {p : Nat → Bool} : ∀ (l : List Nat), (l.takeWhile p).length ≤ l.length
  | [] => Nat.le_refl _
  | x :: l => by
    rw [List.takeWhile_cons]
    split
    · have := takeWhile_le (p := p) l
      simp only [List.length_cons]
      omega
    · simp
/-- nothing is left of a row alone -/
theorem strip_nil (l : List Nat) : (PySem.Txt.stripChars ⟨l.toArray⟩ "+-0" = Str.empty) ↔ l.all isSign = true := by
  have hc : (fun c => (Str.ofString "+-0").cps.contains c) = isSign := funext contains_sign
  have hg : (Str.ofString "+-0").cps.contains = isSign := hc
  unfold PySem.Txt.stripChars PySem.Txt.stripBy
  rw [hg]
  have hlen : (⟨l.toArray⟩ : Str).length = l.length := by show l.toArray.size = _; simp
  have lo : PySem.stripLo isSign true ⟨l.toArray⟩ = (l.takeWhile isSign).length := by unfold PySem.stripLo; simp
  constructor
  · intro h
    split at h
    · rename_i hs
      unfold PySem.stripSame at hs
      rw [lo, Bool.and_eq_true] at hs
      have hl : l = [] := by
        have h2 : l.toArray = #[] := congrArg Str.cps h
        simpa using h2
      subst hl
      rfl
    · have hcps := congrArg Str.cps h
      unfold PySem.stripped at hcps
      have h2 : ((⟨l.toArray⟩ : Str).cps.extract (PySem.stripLo isSign true ⟨l.toArray⟩) (PySem.stripHi isSign true ⟨l.toArray⟩ (PySem.stripLo isSign true ⟨l.toArray⟩))).size = 0 := by
        have : (PySem.Builtin.Str.strSub (⟨l.toArray⟩ : Str) (PySem.stripLo isSign true ⟨l.toArray⟩) (PySem.stripHi isSign true ⟨l.toArray⟩ (PySem.stripLo isSign true ⟨l.toArray⟩))).cps = #[] := hcps
        exact congrArg Array.size this
      rw [Array.size_extract, lo] at h2
      have hi : PySem.stripHi isSign true ⟨l.toArray⟩ (l.takeWhile isSign).length = l.length - ((l.drop (l.takeWhile isSign).length).reverse.takeWhile isSign).length := by
        unfold PySem.stripHi
        rw [if_pos rfl, hlen]
      rw [hi] at h2
      have hsz : (⟨l.toArray⟩ : Str).cps.size = l.length := by simp
      rw [hsz] at h2
      have t1 := takeWhile_le (p := isSign) l
      have t2 := takeWhile_le (p := isSign) ((l.drop (l.takeWhile isSign).length).reverse)
      rw [List.length_reverse, List.length_drop] at t2
      -- the tail's own signs end at the first bad one
      have key : (l.takeWhile isSign).length = l.length ∨ ((l.drop (l.takeWhile isSign).length).reverse.takeWhile isSign).length < l.length - (l.takeWhile isSign).length := by
        by_cases hq : (l.takeWhile isSign).length = l.length
        · exact .inl hq
        · right
          have hne : ((l.drop (l.takeWhile isSign).length).reverse.takeWhile isSign).length ≠ (l.drop (l.takeWhile isSign).length).reverse.length := by
            intro hh
            have ha := takeWhile_all hh
            rw [List.all_reverse] at ha
            have hcat := drop_take (p := isSign) l
            have hall : l.all isSign = true := by
              rw [hcat, List.all_append, ha]
              rw [take_goes l]
              try rfl
            have := all_takeWhile hall
            exact hq (by rw [this])
          rw [List.length_reverse, List.length_drop] at hne
          omega
      rcases key with q | q
      · exact takeWhile_all q
      · omega
  · intro h
    have ht := all_takeWhile h
    split
    · rename_i hs
      unfold PySem.stripSame at hs
      rw [lo, Bool.and_eq_true, ht] at hs
      have h0 : l.length = 0 := by simpa using hs.1
      have hl := List.eq_nil_of_length_eq_zero h0
      subst hl
      rfl
    · unfold PySem.stripped
      show (⟨l.toArray.extract _ _⟩ : Str) = _
      rw [lo, ht]
      have : l.toArray.extract l.length (PySem.stripHi isSign true ⟨l.toArray⟩ l.length) = #[] := by
        apply Array.eq_empty_of_size_eq_zero
        rw [Array.size_extract]
        unfold PySem.stripHi
        rw [if_pos rfl, hlen]
        simp
      rw [this]
      rfl

def rStrip : V → List V → Hp → VK → Prop := fun x xs H Q => ∃ a b, x = .str a ∧ xs = [.str b] ∧ a.length ≤ sizeLine ∧ Q (.str (PySem.Txt.stripChars a b)) H
/-- x.strip("+-0"), told by what is left -/
theorem ev_strip {x : Tx} {z : Str} (hz0 : z = "+-0" := by rfl) (h : Ev K Γ ta ρ (Is x)) (hz : x.s.length ≤ 100000) :
    Ev K Γ (tM1 (fun x xs H Q => ∃ a b, x = .str a ∧ xs = [.str b] ∧ a.length ≤ sizeLine ∧ Q (.str (PySem.Txt.stripChars a b)) H) ta (tC (.str z))) ρ (fun y : Tx => y.s = [] ↔ x.s.all isSign = true) := by
  subst hz0
  exact fun Δ σ H Q s hh e k => h Δ σ H _ s hh e fun v H' a pa e1 r => by
    have ea : a = x := pa
    subst ea
    have ev : v = .str ⟨a.s.toArray⟩ := r
    subst ev
    refine ⟨⟨_, rfl⟩, _, _, rfl, rfl, ?_, k _ H' ⟨(PySem.Txt.stripChars ⟨a.s.toArray⟩ "+-0").cps.toList⟩ ?_ e1 rfl⟩
    · show a.s.toArray.size ≤ sizeLine
      rw [List.size_toArray]
      exact Nat.le_trans hz (by decide)
    · rw [← strip_nil]
      constructor
      · intro q
        generalize PySem.Txt.stripChars ⟨a.s.toArray⟩ "+-0" = y at q
        cases y with
        | mk c =>
          have q' : c.toList = [] := q
          have : c = #[] := by simpa using q'
          rw [this]
          rfl
      · intro q
        rw [q]
        rfl
/-- x.translate(the swap) -/
theorem ev_tr {x : Tx} (h : Ev K Γ ta ρ (Is x)) (hz : x.s.length ≤ 100000) :
    Ev K Γ (tM1 (fun x xs H Q => ∃ (t : List Nat) (d : Addr), x = .str (SX.S t) ∧ xs = [.ref d] ∧ H d = some (.dK swpV) ∧ t.length ≤ 16000000 ∧ Q (.str (SX.S (t.map sw))) H) ta tMk) ρ (Is (⟨x.s.map sw⟩ : Tx)) := fun Δ σ H Q s hh e k =>
  h Δ σ H _ s hh e fun v H' a pa e1 r => by
    have ea : a = x := pa
    subst ea
    have ev : v = .str ⟨a.s.toArray⟩ := r
    subst ev
    refine ⟨⟨_, rfl⟩, fun p hp => ⟨a.s, p, rfl, rfl, upd_same, by omega, k _ _ ⟨a.s.map sw⟩ rfl (e1.trans (Ext.new e1.2 hp _)) rfl⟩⟩
/-! ### built-in calls -/
theorem o1_abs {i : Int} : Op1 K (fun xs H Q => ∃ i, xs = [.int i] ∧ Q (.int (if i < 0 then -i else i)) H) i (Is (if i < 0 then -i else i)) := fun Δ H v Q hh r k => by
  have e : v = .int i := r
  subst e
  exact ⟨i, rfl, k _ H _ rfl (Ext.refl hh) rfl⟩
theorem o1_int {i : Int} : Op1 K (fun xs H Q => (∃ i, xs = [.int i] ∧ Q (.int i) H) ∨ ∃ k, xs = [.bl k] ∧ Q (.int (if k then 1 else 0)) H) i (Is i) := fun Δ H v Q hh r k => by
  have e : v = .int i := r
  subst e
  exact .inl ⟨i, rfl, k _ H _ rfl (Ext.refl hh) rfl⟩
theorem o1_intB {b : Bool} : Op1 K (fun xs H Q => (∃ i, xs = [.int i] ∧ Q (.int i) H) ∨ ∃ k, xs = [.bl k] ∧ Q (.int (if k then 1 else 0)) H) b (Is (if b then (1 : Int) else 0)) := fun Δ H v Q hh r k => by
  have e : v = .bl b := r
  subst e
  exact .inr ⟨b, rfl, k _ H _ rfl (Ext.refl hh) rfl⟩
def rB (b : Bool) : Tx := ⟨(Str.ofString (if b then "True" else "False")).cps.toList⟩
theorem o1_reprB {b : Bool} : Op1 K (fun xs H Q => ∃ b, xs = [.bl b] ∧ Q (.str (if b then "True" else "False")) H) b (Is (rB b)) := fun Δ H v Q hh r k => by
  have e : v = .bl b := r
  subst e
  refine ⟨b, rfl, k _ H _ rfl (Ext.refl hh) ?_⟩
  cases b <;> rfl
theorem o1_tuple {xs : List α} : Op1 K (fun xs H Q => ∃ p ys, xs = [.ref p] ∧ ((SqL K H p ys ∧ ∀ l, H l = none → Q (.ref l) (upd H l (.tup ys))) ∨ (SqT K H p ys ∧ Q (.ref p) H))) xs (Is (⟨xs⟩ : Tup α)) := fun Δ H v Q hh r k => by
  obtain ⟨p, vs, rfl, n, s, q⟩ := r
  exact ⟨p, vs, rfl, .inl ⟨s, fun l hl => k _ _ ⟨xs⟩ rfl (Ext.new hh hl _) (new_tup hh hl q)⟩⟩
/-- tuple(a drawn list) -/
theorem ev_tupleP {P : List α → Prop} (h : Ev K Γ te ρ P) : Ev K Γ (tCB (fun xs H Q => ∃ p ys, xs = [.ref p] ∧ ((SqL K H p ys ∧ ∀ l, H l = none → Q (.ref l) (upd H l (.tup ys))) ∨ (SqT K H p ys ∧ Q (.ref p) H))) (tCons te tNil)) ρ (fun t : Tup α => P t.l) :=
  ev_cb1 h fun x px => fun Δ H v Q hh r k => o1_tuple Δ H v Q hh r fun u H' c pc => k u H' c (by rw [show c = ⟨x⟩ from pc]; exact px)
/-- isinstance(x, T) -/
theorem ev_isi {c : String} {tn : String} {x : α} {b : Bool} (h : Ev K Γ te ρ (Is x)) (ty : ∀ Δ H v, Rp.rp K Δ H v x → TyX K H v (.type tn)) (hb : PySem.W.kitOne K (.type tn) (.type c) = some b) :
    Ev K Γ (tCB (rIsi K) (tCons te (tCons (tC (.ty c)) tNil))) ρ (Is b) := fun Δ σ H Q s hh e k =>
  h Δ σ H _ s hh e fun v H' a pa e1 r => by
    have ea : a = x := pa
    subst ea
    exact ⟨v, .ty c, _, _, b, rfl, .ty c, ty Δ H' v r, hb, k _ H' _ rfl e1 rfl⟩
theorem ty_tx {x : Tx} : ∀ Δ H v, Rp.rp K Δ H v x → TyX K H v (.type "str") := fun Δ H v r => by
  have e : v = .str ⟨x.s.toArray⟩ := r
  subst e
  exact .base (.str _)
theorem ty_int {x : Int} : ∀ Δ H v, Rp.rp K Δ H v x → TyX K H v (.type "int") := fun Δ H v r => by
  have e : v = .int x := r
  subst e
  exact .base (.int _)
theorem ty_bl {x : Bool} : ∀ Δ H v, Rp.rp K Δ H v x → TyX K H v (.type "bool") := fun Δ H v r => by
  have e : v = .bl x := r
  subst e
  exact .base (.bl _)
theorem ty_tup {x : Tup α} : ∀ Δ H v, Rp.rp K Δ H v x → TyX K H v (.type "tuple") := fun Δ H v r => by
  obtain ⟨p, vs, rfl, n, s, q⟩ := r
  rcases n with ⟨_, n | ⟨o, n⟩⟩ | ⟨o, its, m, e, c, _⟩
  · exact .base (.tup n)
  · exact .fTuple n
  · exact .kTuple e c
theorem ty_list {x : List α} : ∀ Δ H v, Rp.rp K Δ H v x → TyX K H v (.type "list") := fun Δ H v r => by
  obtain ⟨p, vs, rfl, n, s, q⟩ := r
  rcases n with ⟨_, n | ⟨o, n⟩⟩ | ⟨o, its, m, e, c, _⟩
  · exact .base (.lst n)
  · exact .base (.frz n)
  · exact .kList e c
theorem ty_non {x : Unit} : ∀ Δ H v, Rp.rp K Δ H v x → TyX K H v (.type "NoneType") := fun Δ H v r => by
  have e : v = .non := r
  subst e
  exact .base .non
/-- x is None, for a datum that is or is not -/
theorem ev_isN {x : α} {b : Bool} (h : Ev K Γ te ρ (Is x)) (hb : ∀ Δ H v, Rp.rp K Δ H v x → decide (v = .non) = b) : Ev K Γ (tOp (fun x y H Q => y = .non ∧ Q (.bl (decide (x = .non))) H) te (tC .non)) ρ (Is b) := fun Δ σ H Q s hh e k =>
  h Δ σ H _ s hh e fun v H' a pa e1 r => ⟨rfl, k _ H' b rfl e1 (by
    have ea : a = x := pa
    subst ea
    show V.bl _ = V.bl _
    rw [hb Δ H' v r])⟩
/-- '0' * n -/
theorem mul_tx (c : Nat) (n : Nat) : PySem.Txt.mul ⟨#[c]⟩ (n : Int) = ⟨(List.replicate n c).toArray⟩ := by
  unfold PySem.Txt.mul
  split
  · rename_i h
    have : n = 0 := by omega
    subst this
    rfl
  · split
    · rename_i h1 h2
      have h3 : n = 1 := by
        simp [Str.length] at h2
        omega
      subst h3
      rfl
    · show (⟨_⟩ : Str) = _
      have key : ∀ (m : Nat) (acc : Array Nat), (List.replicate m (#[c] : Array Nat)).foldl (· ++ ·) acc = acc ++ (List.replicate m c).toArray := by
        intro m
        induction m with
        | zero => intro acc; simp
        | succ m ih =>
          intro acc
          rw [List.replicate_succ, List.foldl_cons, ih, List.replicate_succ]
          apply Array.toList_inj.mp
          simp
      rw [show ((n : Int)).toNat = n from Int.toNat_natCast n, key n #[], Array.empty_append]
theorem o2_mulS {c : Nat} {x : Tx} {n : Nat} (hx : x = ⟨[c]⟩) (hn : n ≤ 10000) : Op2 K rMulS x (n : Int) (Is (⟨List.replicate n c⟩ : Tx)) := fun Δ H v w Q hh r1 r2 k => by
  subst hx
  have e1 : v = .str ⟨#[c]⟩ := r1
  have e2 : w = .int n := r2
  subst e1 e2
  refine ⟨_, _, rfl, rfl, ⟨?_, ?_, ?_⟩, k _ H _ rfl (Ext.refl hh) ?_⟩
  · have h1 : ¬ ((n : Int) < -(2 ^ 63 : Int)) := by omega
    have h2 : ¬ ((n : Int) ≥ 2 ^ 63) := by omega
    rw [decide_eq_false h1, decide_eq_false h2]
    rfl
  · intro h1 _
    have hl : (⟨#[c]⟩ : Str).length = 1 := rfl
    rw [hl]
    have : (1 : Int) ≤ (2 ^ 63 - 1) / (n : Int) := by
      rw [Int.le_ediv_iff_mul_le (by omega)]
      omega
    omega
  · intro h1 _
    have hl : (⟨#[c]⟩ : Str).length = 1 := rfl
    rw [hl]
    exact PyProof.Rows.short24 (by omega)
  · show V.str _ = V.str _
    rw [mul_tx]
theorem o2_addS {x y : Tx} (hz : x.s.length + y.s.length ≤ 100000) : Op2 K (fun x y H Q => ∃ i j, x = .str i ∧ y = .str j ∧ i.length + j.length ≤ sizeLine ∧ Q (.str (i ++ j)) H) x y (Is (⟨x.s ++ y.s⟩ : Tx)) := fun Δ H v w Q hh r1 r2 k => by
  have e1 : v = .str ⟨x.s.toArray⟩ := r1
  have e2 : w = .str ⟨y.s.toArray⟩ := r2
  subst e1 e2
  refine ⟨_, _, rfl, rfl, ?_, k _ H _ rfl (Ext.refl hh) ?_⟩
  · show x.s.toArray.size + y.s.toArray.size ≤ sizeLine
    rw [List.size_toArray, List.size_toArray]
    exact Nat.le_trans hz (by decide)
  · show V.str ⟨x.s.toArray ++ y.s.toArray⟩ = V.str ⟨(x.s ++ y.s).toArray⟩
    simp
end
end Z

set_option Elab.async false
set_option linter.all false
set_option maxRecDepth 100000
set_option maxHeartbeats 1000000
namespace Z
open PySem PySem.Spec PyProof.Rows L2
section
variable {K : PySem.W.Frag} {Γ : Own} {ρ : Env} {ta tb tc te : TE} {t u : TT} {α β γ : Type} [Rp α] [Rp β] [Rp γ] {Pa : α → Prop} {Pb : β → Prop} {Pc : γ → Prop}
theorem src_str {tl : TE} {j : Nat} {x : Tx} {c0 : Nat → Nat} (h : Ev K Γ tl ρ (Is x)) (hx : ∀ i, i < x.s.length → x.s[i]? = some (c0 i)) (hj : j < ρ.length) : Src K Γ (iStr tl) (gName j) ρ [j] x.s.length (fun i ρ => ρ.set j (some ⟨(⟨[c0 i]⟩ : Tx)⟩)) := fun Δ σ H R s hh e k =>
  h Δ σ H _ s hh e fun v H' a pa e1 r => by
    have ea : a = x := pa
    subst ea
    have ev : v = .str ⟨a.s.toArray⟩ := r
    subst ev
    refine ⟨_, rfl, k _ H' .non ⟨()⟩ e1 rfl (fun Δ' H2 _ => ⟨fun i hi => ?_, ?_⟩) fun Δ' i H2 y H3 hi h2 _ yy => ?_⟩
    · show i < a.s.toArray.size
      simpa using hi
    · show a.s.toArray.size ≤ a.s.length
      simp
    · obtain ⟨rfl, c, hc, rfl⟩ := (show H3 = H2 ∧ ∃ c, a.s.toArray[i]? = some c ∧ y = .str ⟨#[c]⟩ from yy)
      have ec2 : c = c0 i := by
        have q1 : a.s[i]? = some c := by simpa using hc
        exact Option.some.inj (q1.symm.trans (hx i hi))
      subst ec2
      exact ⟨Ext.refl h2, fun σ' ρ' Qs hl e' q => q _ (e'.set (c := ⟨(⟨[c0 i]⟩ : Tx)⟩) (by rw [hl]; exact hj) rfl) (set_off (js := [j]) (List.mem_singleton_self j)).1 (set_off (js := [j]) (List.mem_singleton_self j)).2⟩
/-- {'+': '-', '-': '+', '0': '0'}[c] -/
theorem ev_flip {c : Nat} (hc : isSign c = true) (h : Ev K Γ te ρ (Is (⟨[c]⟩ : Tx))) :
    Ev K Γ (tDGet (tDisp [(tC (.str "+"), tC (.str "-")), (tC (.str "-"), tC (.str "+")), (tC (.str "0"), tC (.str "0"))]) te) ρ (Is (⟨[sw c]⟩ : Tx)) := fun Δ σ H Q s hh e k => by
  intro p hp
  have hh1 : Hold Δ (upd H p (.dK [])) := hh.new hp _
  have n : Δ p = none := hh.fresh hp
  refine ⟨upd_same, [(.inr "+", .str "-"), (.inr "-", .str "+"), (.inr "0", .str "0")], rfl, by decide, ?_⟩
  have e2 : Ext Δ H (upd (upd H p (.dK [])) p (.dK (mergeK [] [(.inr "+", .str "-"), (.inr "-", .str "+"), (.inr "0", .str "0")]))) := by
    rw [upd_upd]
    exact Ext.new hh hp _
  refine h Δ σ _ _ s e2.2 (e.mono e2.1) fun v H' a pa e3 r => ?_
  have ea : a = ⟨[c]⟩ := pa
  subst ea
  have ev : v = .str ⟨#[c]⟩ := r
  subst ev
  have hd : H' p = some (.dK (mergeK [] [(.inr "+", .str "-"), (.inr "-", .str "+"), (.inr "0", .str "0")])) := e3.1 p _ n upd_same
  unfold isSign at hc
  simp only [Bool.or_eq_true, beq_iff_eq] at hc
  have hm : mergeK [] ([(.inr "+", .str "-"), (.inr "-", .str "+"), (.inr "0", .str "0")] : List (Key × V)) = [(.inr "+", .str "-"), (.inr "-", .str "+"), (.inr "0", .str "0")] := by decide +kernel
  rw [hm] at hd
  rcases hc with (rfl | rfl) | rfl
  · exact ⟨p, .str "-", rfl, .inl ⟨_, .inr "+", .inl hd, rfl, by decide +kernel⟩, k _ H' _ rfl (e2.trans e3) rfl⟩
  · exact ⟨p, .str "+", rfl, .inl ⟨_, .inr "-", .inl hd, rfl, by decide +kernel⟩, k _ H' _ rfl (e2.trans e3) rfl⟩
  · exact ⟨p, .str "0", rfl, .inl ⟨_, .inr "0", .inl hd, rfl, by decide +kernel⟩, k _ H' _ rfl (e2.trans e3) rfl⟩
/-! ### the dice: three ints, none below 0 -/
def DiceI : HO → Prop := fun o => ∃ x y z : Int, o = .lst [.int x, .int y, .int z] ∧ 0 ≤ x ∧ 0 ≤ y ∧ 0 ≤ z
/-- an item of the dice -/
theorem ev_dice {p : Addr} {i : Nat} (hp : (p, DiceI) ∈ Γ) (hi : i < 3) (h : Ev K Γ ta ρ (Is (⟨p⟩ : Loc))) : Ev K Γ (tOp (rIxL K) ta (tC (.int (i : Int)))) ρ (fun n : Int => 0 ≤ n) := fun Δ σ H Q s hh e k =>
  h Δ σ H _ s hh e fun v H' a pa e1 r => by
    have ea : a = ⟨p⟩ := pa
    subst ea
    have ev : v = .ref p := r
    subst ev
    obtain ⟨o, ho, x, y, z, rfl, h1, h2, h3⟩ := e1.2 p DiceI (s _ hp)
    match i, hi with
    | 0, _ => exact ⟨p, _, 0, .int x, rfl, rfl, .inl (.inl ho), atI_nat (j := 0) rfl, k _ H' x h1 e1 rfl⟩
    | 1, _ => exact ⟨p, _, 1, .int y, rfl, rfl, .inl (.inl ho), atI_nat (j := 1) rfl, k _ H' y h2 e1 rfl⟩
    | 2, _ => exact ⟨p, _, 2, .int z, rfl, rfl, .inl (.inl ho), atI_nat (j := 2) rfl, k _ H' z h3 e1 rfl⟩
end
section
variable {K : PySem.W.Frag} {Δ0 : Gh} {H0 : Hp} {Γ : Own} {F : List (V × Cell)} {ρ : Env} {ta tb te : TE} {tz : TS} {D : Ends} {α : Type} [Rp α]
/-- dice[i] = n -/
theorem wp_dice {p : Addr} {i : Nat} (hp : (p, DiceI) ∈ Γ) (hi : i < 3) (h : Ev K Γ te ρ (fun n : Int => 0 ≤ n)) (ho : Ev K Γ ta ρ (Is (⟨p⟩ : Loc))) (k : Wp K Δ0 H0 Γ F ρ tz D) : Wp K Δ0 H0 Γ F ρ (tSeq (tAsg te (gSub ta (tC (.int (i : Int))) rSetL)) tz) D := fun σ H ⟨Δ, s, hh, e, f, e0, s1, s2⟩ =>
  h Δ σ H _ s hh e fun v H1 n hn e1 r1 => ho Δ σ H1 _ s e1.2 (e.mono e1.1) fun w H2 a pa e2 r2 => by
    have ea : a = ⟨p⟩ := pa
    subst ea
    have ew : w = .ref p := r2
    subst ew
    have ev : v = .int n := r1
    subst ev
    have hΔ : Δ p = some DiceI := s _ hp
    obtain ⟨o, ho, x, y, z, rfl, h1, h2, h3⟩ := e2.2 p DiceI hΔ
    have fin : ∀ x' y' z' : Int, 0 ≤ x' → 0 ≤ y' → 0 ≤ z' → tz D σ (upd H2 p (.lst [.int x', .int y', .int z'])) := fun x' y' z' g1 g2 g3 => by
      have e3 : Ext Δ H2 (upd H2 p (.lst [.int x', .int y', .int z'])) := ⟨fun a o n q => by
          have hne : a ≠ p := fun z => by
            rw [z, hΔ] at n
            cases n
          rw [upd_ne hne]
          exact q, fun a I q => by
          by_cases ha : a = p
          · rw [ha, hΔ] at q
            cases q
            exact ⟨_, by rw [ha]; exact upd_same, x', y', z', rfl, g1, g2, g3⟩
          · obtain ⟨u, hu, iu⟩ := e2.2 a I q
            exact ⟨u, by rw [upd_ne ha]; exact hu, iu⟩⟩
      have e4 := e1.trans (e2.trans e3)
      exact k σ _ ⟨Δ, s, e4.2, e.mono e4.1, fun q hq => q.2.r.mono e4.1 (f q hq), ext0 e0 s1 s2 e4, s1, s2⟩
    match i, hi with
    | 0, _ => exact ⟨p, _, 0, 0, rfl, rfl, ho, rfl, fin n y z hn h2 h3⟩
    | 1, _ => exact ⟨p, _, 1, 1, rfl, rfl, ho, rfl, fin x n z h1 hn h3⟩
    | 2, _ => exact ⟨p, _, 2, 2, rfl, rfl, ho, rfl, fin x y n h1 h2 hn⟩
end
end Z
namespace Z
open PySem PySem.Spec PyProof.Rows L2
theorem ltr {a b : Nat} (h : Nat.blt a b = true) : a < b := Nat.le_of_ble_eq_true h
theorem tx1 {a b : Nat} : ((⟨[a]⟩ : Tx) = ⟨[b]⟩) ↔ a = b := by simp
section
variable {K : PySem.W.Frag} {Γ : Own} {ρ : Env}
theorem ev_strc {x : Str} (l : List Nat) (h : x.cps.toList = l := by decide +kernel) : Ev K Γ (tC (.str x)) ρ (Is (⟨l⟩ : Tx)) := by
  subst h
  exact ev_str
end
end Z
namespace Z
open PySem PySem.Spec PyProof.Rows L2
section
variable {K : PySem.W.Frag} {Δ0 : Gh} {H0 : Hp} {Γ : Own} {F : List (V × Cell)} {ρ : Z.Env} {ta tb te : TE} {D : Ends}
/-- the end of a def that hands back nothing -/
theorem wp_none {P : Unit → Prop} (hp : P ()) (hn : ∀ b : Unit, P b → (∀ H', Rp.rp K Δ0 H' .non b) → ∀ σ H', Ext Δ0 H0 H' → D.nx σ H') : Wp K Δ0 H0 Γ F ρ tNext D := fun σ H ⟨Δ, s, hh, e, f, e0, s1, s2⟩ => hn () hp (fun _ => rfl) σ H e0
theorem ev_stripEq {x : Tx} {z : Str} (hz0 : z = "+-0" := by rfl) {y : Str} (hy : y.cps.toList = [] := by decide +kernel) (h : Ev K Γ ta ρ (Is x)) (hz : x.s.length ≤ 100000) :
    Ev K Γ (tOp rEq (tM1 (fun x xs H Q => ∃ a b, x = .str a ∧ xs = [.str b] ∧ a.length ≤ sizeLine ∧ Q (.str (PySem.Txt.stripChars a b)) H) ta (tC (.str z))) (tC (.str y))) ρ (Is (x.s.all isSign)) :=
  ev_op (ev_strip hz0 h hz) (ev_strc [] hy) fun a b pa pb => by
    rw [show b = _ from pb]
    have e : decide (a = (⟨[]⟩ : Tx)) = x.s.all isSign := by
      have q : (a = (⟨[]⟩ : Tx)) ↔ x.s.all isSign = true := by
        rw [← pa]
        constructor
        · intro q; rw [q]
        · intro q; cases a; exact congrArg Tx.mk q
      by_cases hq : x.s.all isSign = true
      · rw [hq, decide_eq_true (q.mpr hq)]
      · rw [decide_eq_false (fun z => hq (q.mp z))]
        simpa using hq
    rw [← e]
    exact o2_eqS
/-- a def's answer by its default arguments -/
theorem dv_non : ∀ Δ H, ArgsOk K Δ H [V.non] [⟨()⟩] := fun _ _ => ⟨rfl, trivial⟩
end
end Z

set_option Elab.async false
set_option linter.all false
set_option maxRecDepth 100000
set_option maxHeartbeats 1000000
/-! the same rules with the written part as a letter, for blocks -/
namespace Z
open PySem PySem.Spec PyProof.Rows L2
section
variable {X : Cx} {K : PySem.W.Frag}
theorem op_inK (h : X.K = K := by rfl) : OpR X (compareOp .In) (rIn K false) := by subst h; exact op_in_seq
theorem op_notInK (h : X.K = K := by rfl) : OpR X (compareOp .NotIn) (rIn K true) := by subst h; exact op_notIn_seq
theorem ix_listK (h : X.K = K := by rfl) : IxR X (rIxL K) := by subst h; exact ix_list
theorem ix_tupK (h : X.K = K := by rfl) : IxR X (rIxT K) := by subst h; exact ix_tup
theorem call_lenK (h : X.K = K := by rfl) : CallR X (.builtin "len") (fun xs H Q => ∃ x n, xs = [x] ∧ LenV K x H n ∧ Q (.int n) H) := by subst h; exact call_len
theorem call_isK (h : X.K = K := by rfl) : CallR X (.builtin "isinstance") (rIsi K) := by subst h; exact call_isi
theorem call_tupK (h : X.K = K := by rfl) : CallR X (.type "tuple") (fun xs H Q => ∃ p ys, xs = [.ref p] ∧ ((SqL K H p ys ∧ ∀ l, H l = none → Q (.ref l) (upd H l (.tup ys))) ∨ (SqT K H p ys ∧ Q (.ref p) H))) := by subst h; exact call_tuple_of
theorem call_lstK (h : X.K = K := by rfl) : CallR X (.type "list") (fun xs H Q => ∃ p ys, xs = [.ref p] ∧ (SqL K H p ys ∨ SqT K H p ys) ∧ ∀ l, H l = none → Q (.ref l) (upd H l (.lst ys))) := by subst h; exact call_list_of
theorem cr_allK (hc : X.calm = true) (h : X.K = K := by rfl) : CallR X (.builtin "all") (rAll K) := by subst h; exact cr_all hc
theorem op_eqK (hu : X.A.units + 64 < cLine) (h : X.K = K := by rfl) : OpR X (compareOp .Eq) (rEqD K) := by subst h; exact op_eqD hu
theorem op_neK (hu : X.A.units + 64 < cLine) (h : X.K = K := by rfl) : OpR X (compareOp .NotEq) (rNeD K) := by subst h; exact op_neD hu
variable {o e : Expr} {to te : TE} {tg : Expr}
theorem pe_joinK {apos pos : Pos} (ho : PE X o to) (he : PE X e te) (h : X.K = K := by rfl) (hs : starEach [e] X.env = [(false, eval e X.env)] := by rfl) (hbase : attributeBase o "join" X.env (eval o X.env) = eval o X.env := by rfl) (hline : (apos.endLine == pos.line) = true := by rfl) :
    PE X (.Call (.Attribute o "join" apos) [e] [] pos) (tM1 (rJoin K) to te) := by subst h; exact pe_join ho he hs hbase hline
theorem pi_listK {l : Expr} {tl : TE} (hl : PE X l tl) (h : X.K = K := by rfl) : PI X tg l (iList K tl) := by subst h; exact pi_list hl
theorem pi_tupK {l : Expr} {tl : TE} (hl : PE X l tl) (h : X.K = K := by rfl) : PI X tg l (iTup K tl) := by subst h; exact pi_tup hl
end
end Z

set_option Elab.async false
set_option linter.all false
set_option maxRecDepth 100000
set_option maxHeartbeats 1000000
/-! lists of a def's own that it changes -/
namespace Z
open PySem PySem.Spec PyProof.Rows L2
section
variable {K : PySem.W.Frag} {Δ0 : Gh} {H0 : Hp} {Γ : Own} {F : List (V × Cell)} {ρ : Z.Env} {ta tb te : TE} {tz : TS} {D : Ends}
structure OwnP (Δ0 : Gh) (Γ : Own) (p : Addr) : Prop where
  n0 : Δ0 p = none
  ne : ∀ q ∈ Γ, q.1 ≠ p
theorem ghD_self {Δ : Gh} {D : Addr} {vs : List V} : ghD Δ D vs D = some (LstIs vs) := by
  show (if D = D then _ else _) = _
  rw [if_pos rfl]
  rfl
theorem ghD_other {Δ : Gh} {D x : Addr} {vs : List V} (h : x ≠ D) : ghD Δ D vs x = Δ x := by
  show (if x = D then _ else _) = _
  rw [if_neg h]
theorem own_new {Δ : Gh} {σ : L2.St} {H : Hp} {p : Addr} {vs : List V} (s : Sat Γ Δ) (hh : Hold Δ H) (e : EnvOk K Δ σ H ρ) (f : ∀ f ∈ F, f.2.rp K Δ H f.1) (e0 : Ext Δ0 H0 H) (s1 : ∀ x I, Δ0 x = some I → Δ x = some I) (s2 : ∀ x, Δ0 x = none → Δ x ≠ none → H0 x = none) (hp : H p = none) :
    OwnP Δ0 Γ p ∧ Stt K Δ0 H0 ((p, LstIs vs) :: Γ) F ρ σ (upd H p (.lst vs)) := by
  have nD : Δ p = none := hh.fresh hp
  have n0 : Δ0 p = none := none0 s1 nD
  have ne : ∀ q ∈ Γ, q.1 ≠ p := fun q hq z => by
    have h := s q hq
    rw [z, nD] at h
    cases h
  have kp : Keep (ghD Δ p vs) H (upd H p (.lst vs)) := fun a o _ q => by rw [upd_ne (ne_of_none q hp)]; exact q
  refine ⟨⟨n0, ne⟩, ghD Δ p vs, fun q hq => ?_, (gh_first hh hp).1, (e.weak (ghD_new hp)).mono kp, fun q hq => q.2.r.mono kp (q.2.r.weak (ghD_new hp) (f q hq)), ext0 e0 s1 s2 (Ext.new hh hp _), fun x I q => ?_, fun x n m => ?_⟩
  · rcases List.mem_cons.mp hq with z | z
    · rw [z]; exact ghD_self
    · rw [ghD_other (ne q z)]; exact s q z
  · have hne : x ≠ p := fun z => by
      rw [z, n0] at q
      cases q
    rw [ghD_other hne]
    exact s1 x I q
  · by_cases hx : x = p
    · subst hx
      cases q : H0 x with
      | none => rfl
      | some o =>
        have := e0.1 x o n0 q
        rw [hp] at this
        cases this
    · rw [ghD_other hx] at m
      exact s2 x n m
theorem own_put {σ : L2.St} {H : Hp} {p : Addr} {vs ws : List V} (o : OwnP Δ0 Γ p) (st : Stt K Δ0 H0 ((p, LstIs vs) :: Γ) F ρ σ H) : H p = some (.lst vs) ∧ Stt K Δ0 H0 ((p, LstIs ws) :: Γ) F ρ σ (upd H p (.lst ws)) := by
  obtain ⟨Δ, s, hh, e, f, e0, s1, s2⟩ := st
  have hΔ : Δ p = some (LstIs vs) := s (p, LstIs vs) List.mem_cons_self
  obtain ⟨u, hu, iu⟩ := hh p _ hΔ
  have iu' : u = HO.lst vs := iu
  subst iu'
  have kp : Keep Δ H (upd H p (.lst ws)) := fun a o n q => by
    have hne : a ≠ p := fun z => by
      rw [z, hΔ] at n
      cases n
    rw [upd_ne hne]
    exact q
  have wk : ∀ {H : Hp} x o, H x = some o → Δ x = none → ghD Δ p ws x = none := fun x o _ n => by
    have hne : x ≠ p := fun z => by
      rw [z, hΔ] at n
      cases n
    rw [ghD_other hne]
    exact n
  refine ⟨hu, ghD Δ p ws, fun q hq => ?_, fun a I q => ?_, (e.mono kp).weak wk, fun q hq => q.2.r.weak wk (q.2.r.mono kp (f q hq)), ⟨fun a o' n q => ?_, fun a I q => ?_⟩, fun x I q => ?_, fun x n m => ?_⟩
  · rcases List.mem_cons.mp hq with z | z
    · rw [z]; exact ghD_self
    · rw [ghD_other (o.ne q z)]; exact s q (List.mem_cons_of_mem _ z)
  · by_cases ha : a = p
    · subst ha
      rw [ghD_self] at q
      cases q
      exact ⟨_, upd_same, rfl⟩
    · rw [ghD_other ha] at q
      obtain ⟨u, hu, iu⟩ := hh a I q
      exact ⟨u, by rw [upd_ne ha]; exact hu, iu⟩
  · have h1 := e0.1 a o' n q
    have hne : a ≠ p := fun z => by
      subst z
      have := s2 a n (by rw [hΔ]; exact fun z => by cases z)
      rw [q] at this
      cases this
    rw [upd_ne hne]
    exact h1
  · have hne : a ≠ p := fun z => by
      rw [z, o.n0] at q
      cases q
    obtain ⟨u, hu, iu⟩ := e0.2 a I q
    exact ⟨u, by rw [upd_ne hne]; exact hu, iu⟩
  · have hne : x ≠ p := fun z => by
      rw [z, o.n0] at q
      cases q
    rw [ghD_other hne]
    exact s1 x I q
  · by_cases hx : x = p
    · subst hx
      exact s2 x n (by rw [hΔ]; exact fun z => by cases z)
    · rw [ghD_other hx] at m
      exact s2 x n m
theorem rep_flat {α : Type} {x : α} : ∀ m : Nat, (List.replicate m [x]).flatten = List.replicate m x
  | 0 => rfl
  | m + 1 => by
    rw [List.replicate_succ, List.flatten_cons, List.replicate_succ, rep_flat m]
    rfl
/-- name = [one text] * n -/
theorem wp_rep {i : Nat} {z : Str} {m : Nat} (hb : Ev K Γ tb ρ (Is (m : Int))) (hm : m ≤ 10000) (hi : i < ρ.length) (k : ∀ p, OwnP Δ0 Γ p → Wp K Δ0 H0 ((p, LstIs (List.replicate m (V.str z))) :: Γ) F (ρ.set i (some ⟨(⟨p⟩ : Loc)⟩)) tz D) :
    Wp K Δ0 H0 Γ F ρ (tSeq (tAsg (tOp rRep (tLst (tCons (tC (.str z)) tNil)) tb) (gName i)) tz) D := fun σ H ⟨Δ, s, hh, e, f, e0, s1, s2⟩ => by
  refine ⟨by show 1 ≤ sizeLine; decide, fun q hq => ?_⟩
  have e1 : Ext Δ H (upd H q (.lst [.str z])) := Ext.new hh hq _
  refine hb Δ σ _ _ s e1.2 (e.mono e1.1) fun v H2 a pa e2 r => ?_
  have ea : a = (m : Int) := pa
  subst ea
  have ev : v = .int m := r
  subst ev
  have hq2 : H2 q = some (.lst [.str z]) := e2.1 q _ (hh.fresh hq) upd_same
  refine ⟨q, m, _, rfl, rfl, hq2, by omega, by omega, ?_, fun p hp => ?_⟩
  · have h1 : ([V.str z] : List V).length * ((m : Int)).toNat = m := by rw [Int.toNat_natCast]; show 1 * m = m; omega
    rw [h1]
    exact Nat.le_trans hm (by decide)
  · have hf : (List.replicate ((m : Int)).toNat [V.str z]).flatten = List.replicate m (V.str z) := by rw [Int.toNat_natCast, rep_flat]
    rw [hf]
    have e3 := e1.trans e2
    obtain ⟨o, st⟩ := own_new (vs := List.replicate m (V.str z)) s e3.2 (e.mono e3.1) (fun q hq => q.2.r.mono e3.1 (f q hq)) (ext0 e0 s1 s2 e3) s1 s2 hp
    obtain ⟨Δ', s', hh', e', f', e0', s1', s2'⟩ := st
    exact k p o _ _ ⟨Δ', s', hh', e'.set (c := ⟨(⟨p⟩ : Loc)⟩) hi rfl, f', e0', s1', s2'⟩
/-- name[j] = e, the list one's own -/
theorem wp_put {p : Addr} {vs : List V} {j : Nat} {x : Tx} (o : OwnP Δ0 Γ p) (h : Ev K ((p, LstIs vs) :: Γ) te ρ (Is x)) (ha : Ev K ((p, LstIs vs) :: Γ) ta ρ (Is (⟨p⟩ : Loc))) (hb : Ev K ((p, LstIs vs) :: Γ) tb ρ (Is (j : Int))) (hj : j < vs.length)
    (k : Wp K Δ0 H0 ((p, LstIs (vs.set j (.str ⟨x.s.toArray⟩))) :: Γ) F ρ tNext D) : Wp K Δ0 H0 ((p, LstIs vs) :: Γ) F ρ (tAsg te (gSub ta tb rSetL)) D := fun σ H ⟨Δ, s, hh, e, f, e0, s1, s2⟩ =>
  h Δ σ H _ s hh e fun v H1 a pa e1 r1 => ha Δ σ H1 _ s e1.2 (e.mono e1.1) fun w H2 b pb e2 r2 => hb Δ σ H2 _ s e2.2 (e.mono (e1.trans e2).1) fun u H3 c pc e3 r3 => by
    have ea : a = x := pa
    have eb : b = ⟨p⟩ := pb
    have ec : c = (j : Int) := pc
    subst ea eb ec
    have ev : v = .str ⟨a.s.toArray⟩ := r1
    have ew : w = .ref p := r2
    have eu : u = .int j := r3
    subst ev ew eu
    have e4 := e1.trans (e2.trans e3)
    have st : Stt K Δ0 H0 ((p, LstIs vs) :: Γ) F ρ σ H3 := ⟨Δ, s, e4.2, e.mono e4.1, fun q hq => q.2.r.mono e4.1 (f q hq), ext0 e0 s1 s2 e4, s1, s2⟩
    obtain ⟨hp, st'⟩ := own_put (ws := vs.set j (.str ⟨a.s.toArray⟩)) o st
    exact ⟨p, vs, j, j, rfl, rfl, hp, Evl.ixN_nat hj, k σ _ st'⟩
/-- "".join of one's own list -/
theorem ev_joinO {p : Addr} {xs : List Tx} {z : Str} (ha : Ev K ((p, LstIs ((xs.map fun x => (⟨x.s.toArray⟩ : Str)).map V.str)) :: Γ) ta ρ (Is (⟨p⟩ : Loc))) (hz : ((xs.map (·.s)).flatten).length ≤ 100000) (hz0 : z = "" := by rfl) :
    Ev K ((p, LstIs ((xs.map fun x => (⟨x.s.toArray⟩ : Str)).map V.str)) :: Γ) (tM1 (rJoin K) (tC (.str z)) ta) ρ (Is (⟨(xs.map (·.s)).flatten⟩ : Tx)) := by
  subst hz0
  exact fun Δ σ H Q s hh e k => ⟨⟨_, rfl⟩, ha Δ σ H _ s hh e fun v H' a pa e1 r => by
    have ea : a = ⟨p⟩ := pa
    subst ea
    have ev : v = .ref p := r
    subst ev
    obtain ⟨u, hu, iu⟩ := e1.2 p _ (s _ List.mem_cons_self)
    have iu' : u = HO.lst _ := iu
    subst iu'
    refine ⟨Str.empty, p, _, rfl, rfl, .inl (.inl (.inl hu)), ?_, k _ H' _ rfl e1 (by show V.str _ = V.str _; rw [join_tx])⟩
    rw [sum_len]
    have e0 : Str.empty.length = 0 := rfl
    rw [e0]
    omega⟩
end
end Z

set_option Elab.async false
set_option linter.all false
set_option maxRecDepth 100000
set_option maxHeartbeats 1000000
/-! == of data, further statements -/
namespace Z
open PySem PySem.Spec PyProof.Rows L2
section
variable {α β : Type} [Rp α] [Rp β]
instance : Rp (α ⊕ β) where
  rp K Δ H v x := match x with
    | .inl a => Rp.rp K Δ H v a
    | .inr b => Rp.rp K Δ H v b
  mono {K Δ H H' v x} k h := match x, h with
    | .inl a, h => Rp.mono (a := a) k h
    | .inr b, h => Rp.mono (a := b) k h
  weak {K Δ Δ' H v x} w h := match x, h with
    | .inl a, h => Rp.weak (a := a) w h
    | .inr b, h => Rp.weak (a := b) w h
/-- a datum as the library tells it -/
class Dt (α : Type) [Rp α] where
  d : α → PyData
  ok : ∀ {K : PySem.W.Frag} {Δ : Gh} {H : Hp} {v : V} {a : α}, Rp.rp K Δ H v a → Dp K H v (d a)
instance : Dt Int := ⟨fun i => .int i, fun {K Δ H v a} h => by rw [show v = .int a from h]; exact .int a⟩
instance : Dt Bool := ⟨fun i => .bool i, fun {K Δ H v a} h => by rw [show v = .bl a from h]; exact .bl a⟩
instance : Dt Tx := ⟨fun x => .str ⟨x.s.toArray⟩, fun {K Δ H v a} h => by rw [show v = .str ⟨a.s.toArray⟩ from h]; exact .str _⟩
instance : Dt Unit := ⟨fun _ => .none, fun {K Δ H v a} h => by rw [show v = .non from h]; exact .non⟩
theorem dall {K : PySem.W.Frag} {Δ : Gh} {H : Hp} [Dt α] : ∀ {vs : List V} {xs : List α}, All2 (fun u a => Rp.rp K Δ H u a) vs xs → DpAll K H vs (xs.map Dt.d)
  | [], [], _ => .nil
  | [], _ :: _, q => q.elim
  | _ :: _, [], q => q.elim
  | v :: vs, x :: xs, q => .cons (Dt.ok q.1) (dall q.2)
instance [Dt α] : Dt (List α) := ⟨fun xs => .list (xs.map Dt.d), fun {K Δ H v a} h => by
  obtain ⟨p, vs, rfl, n, s, q⟩ := h
  exact .lst s (dall q)⟩
instance [Dt α] : Dt (Tup α) := ⟨fun xs => .tuple (xs.l.map Dt.d), fun {K Δ H v a} h => by
  obtain ⟨p, vs, rfl, n, s, q⟩ := h
  exact .tup s (dall q)⟩
instance [Dt α] [Dt β] : Dt (α × β) := ⟨fun x => .tuple [Dt.d x.1, Dt.d x.2], fun {K Δ H v a} h => by
  obtain ⟨p, a, b, rfl, n, s, q, r⟩ := h
  exact .tup s (.cons (Dt.ok q) (.cons (Dt.ok r) .nil))⟩
instance [Dt α] [Dt β] : Dt (α ⊕ β) := ⟨fun x => match x with
  | .inl a => Dt.d a
  | .inr b => Dt.d b, fun {K Δ H v x} h => match x, h with
  | .inl a, h => Dt.ok (a := a) h
  | .inr b, h => Dt.ok (a := b) h⟩
variable {K : PySem.W.Frag} {Γ : Own} {ρ : Z.Env} {ta tb te : TE}
theorem o2_eqD [Dt α] [Dt β] {x : α} {y : β} (hx : SeqAt.shaped (Dt.d x) = true) (hy : SeqAt.shaped (Dt.d y) = true) : Op2 K (rEqD K) x y (Is (PyData.eqv (Dt.d x) (Dt.d y))) := fun Δ H v w Q hh r1 r2 k =>
  ⟨_, _, Dt.ok r1, Dt.ok r2, hx, hy, k _ H _ rfl (Ext.refl hh) rfl⟩
theorem o2_neD [Dt α] [Dt β] {x : α} {y : β} (hx : SeqAt.shaped (Dt.d x) = true) (hy : SeqAt.shaped (Dt.d y) = true) : Op2 K (rNeD K) x y (Is (!PyData.eqv (Dt.d x) (Dt.d y))) := fun Δ H v w Q hh r1 r2 k =>
  ⟨_, _, Dt.ok r1, Dt.ok r2, hx, hy, k _ H _ rfl (Ext.refl hh) rfl⟩
theorem eqv_ints : ∀ xs ys : List Int, PyData.eqvAll (xs.map Dt.d) (ys.map Dt.d) = decide (xs = ys)
  | [], [] => by simp [PyData.eqvAll]
  | [], _ :: _ => by simp [PyData.eqvAll]
  | _ :: _, [] => by simp [PyData.eqvAll]
  | x :: xs, y :: ys => by
    have ih := eqv_ints xs ys
    rw [List.map_cons, List.map_cons, PyData.eqvAll, ih]
    show ((x == y) && _) = _
    by_cases h : x = y <;> simp [h]
theorem eqv_bls : ∀ xs ys : List Bool, PyData.eqvAll (xs.map Dt.d) (ys.map Dt.d) = decide (xs = ys)
  | [], [] => by simp [PyData.eqvAll]
  | [], _ :: _ => by simp [PyData.eqvAll]
  | _ :: _, [] => by simp [PyData.eqvAll]
  | x :: xs, y :: ys => by
    have ih := eqv_bls xs ys
    rw [List.map_cons, List.map_cons, PyData.eqvAll, ih]
    show ((x == y) && _) = _
    by_cases h : x = y <;> simp [h]
theorem lay_ints : ∀ xs : List Int, PyData.canLayAll0 (xs.map Dt.d) = true ∧ PyData.depthAll (xs.map Dt.d) = 0
  | [] => by simp [PyData.canLayAll0, PyData.depthAll]
  | x :: xs => by
    have ih := lay_ints xs
    rw [List.map_cons, PyData.canLayAll0, PyData.depthAll, ih.1, ih.2]
    exact ⟨rfl, rfl⟩
theorem lay_bls : ∀ xs : List Bool, PyData.canLayAll0 (xs.map Dt.d) = true ∧ PyData.depthAll (xs.map Dt.d) = 0
  | [] => by simp [PyData.canLayAll0, PyData.depthAll]
  | x :: xs => by
    have ih := lay_bls xs
    rw [List.map_cons, PyData.canLayAll0, PyData.depthAll, ih.1, ih.2]
    exact ⟨rfl, rfl⟩
theorem shaped_tI {xs : Tup Int} : SeqAt.shaped (Dt.d xs) = true := by
  unfold SeqAt.shaped
  show (PyData.canLay0 (.tuple _) && decide (PyData.depth (.tuple _) ≤ 64)) = true
  rw [PyData.canLay0, PyData.depth, (lay_ints xs.l).1, (lay_ints xs.l).2]
  rfl
theorem shaped_lI {xs : List Int} : SeqAt.shaped (Dt.d xs) = true := by
  unfold SeqAt.shaped
  show (PyData.canLay0 (.list _) && decide (PyData.depth (.list _) ≤ 64)) = true
  rw [PyData.canLay0, PyData.depth, (lay_ints xs).1, (lay_ints xs).2]
  rfl
theorem shaped_lB {xs : List Bool} : SeqAt.shaped (Dt.d xs) = true := by
  unfold SeqAt.shaped
  show (PyData.canLay0 (.list _) && decide (PyData.depth (.list _) ≤ 64)) = true
  rw [PyData.canLay0, PyData.depth, (lay_bls xs).1, (lay_bls xs).2]
  rfl
theorem o2_eqT {x y : Tup Int} : Op2 K (rEqD K) x y (Is (decide (x.l = y.l))) := by
  rw [← eqv_ints x.l y.l]
  exact o2_eqD shaped_tI shaped_tI
theorem o2_neT {x y : Tup Int} : Op2 K (rNeD K) x y (Is (!decide (x.l = y.l))) := by
  rw [← eqv_ints x.l y.l]
  exact o2_neD shaped_tI shaped_tI
theorem o2_eqLI {x y : List Int} : Op2 K (rEqD K) x y (Is (decide (x = y))) := by
  rw [← eqv_ints x y]
  exact o2_eqD shaped_lI shaped_lI
theorem o2_eqLB {x y : List Bool} : Op2 K (rEqD K) x y (Is (decide (x = y))) := by
  rw [← eqv_bls x y]
  exact o2_eqD shaped_lB shaped_lB
theorem ev_inl {x : α} (h : Ev K Γ te ρ (Is x)) : Ev K Γ te ρ (Is (.inl x : α ⊕ β)) := fun Δ σ H Q s hh e k => h Δ σ H Q s hh e fun v H' a pa e1 r => k v H' (.inl a) (by rw [show a = x from pa]; rfl) e1 r
theorem ev_inr {x : β} (h : Ev K Γ te ρ (Is x)) : Ev K Γ te ρ (Is (.inr x : α ⊕ β)) := fun Δ σ H Q s hh e k => h Δ σ H Q s hh e fun v H' a pa e1 r => k v H' (.inr a) (by rw [show a = x from pa]; rfl) e1 r
/-- an operation on drawn data -/
theorem ev_opP {γ : Type} [Rp γ] {r : R2} {Pa : α → Prop} {Pb : β → Prop} {Pc : γ → Prop} (ha : Ev K Γ ta ρ Pa) (hb : Ev K Γ tb ρ Pb) (h : ∀ x y, Pa x → Pb y → ∃ z, Op2 K r x y (Is z) ∧ Pc z) : Ev K Γ (tOp r ta tb) ρ Pc :=
  ev_op ha hb fun x y px py => by
    obtain ⟨z, hz, pz⟩ := h x y px py
    exact fun Δ H v w Q hh r1 r2 k => hz Δ H v w Q hh r1 r2 fun u H' c pc e1 rr => k u H' c (by rw [show c = z from pc]; exact pz) e1 rr
theorem ev_cbP {γ : Type} [Rp γ] {r : List V → Hp → VK → Prop} {Pa : α → Prop} {Pc : γ → Prop} (ha : Ev K Γ ta ρ Pa) (h : ∀ x, Pa x → ∃ z, Op1 K r x (Is z) ∧ Pc z) : Ev K Γ (tCB r (tCons ta tNil)) ρ Pc :=
  ev_cb1 ha fun x px => by
    obtain ⟨z, hz, pz⟩ := h x px
    exact fun Δ H v Q hh r1 k => hz Δ H v Q hh r1 fun u H' c pc e1 rr => k u H' c (by rw [show c = z from pc]; exact pz) e1 rr
theorem et_eqP {Pa : Int → Prop} {n : Int} {tb : TE} (ha : Ev K Γ ta ρ Pa) (hb : Ev K Γ tb ρ (Is n)) : EvT K Γ (tTest (tOp rEq ta tb)) ρ (fun _ => True) := et_test (ev_opP ha hb fun x y _ _ => ⟨decide (x = y), o2_eqI, trivial⟩)
/-- max(0, x) -/
theorem ev_max2 {i j : Int} (ha : Ev K Γ ta ρ (Is i)) (hb : Ev K Γ tb ρ (Is j)) : Ev K Γ (tCB (fun xs H Q => ∃ i j, xs = [.int i, .int j] ∧ Q (.int (if j > i then j else i)) H) (tCons ta (tCons tb tNil))) ρ (Is (if j > i then j else i)) := fun Δ σ H Q s hh e k =>
  ha Δ σ H _ s hh e fun v H1 a pa e1 r1 => hb Δ σ H1 _ s e1.2 (e.mono e1.1) fun w H2 b pb e2 r2 => by
    have ea : a = i := pa
    have eb : b = j := pb
    subst ea eb
    have ev : v = .int a := r1
    have ew : w = .int b := r2
    subst ev ew
    exact ⟨a, b, rfl, k _ H2 _ rfl (e1.trans e2) rfl⟩
theorem ev_min2 {i j : Int} (ha : Ev K Γ ta ρ (Is i)) (hb : Ev K Γ tb ρ (Is j)) : Ev K Γ (tCB (fun xs H Q => ∃ i j, xs = [.int i, .int j] ∧ Q (.int (if j < i then j else i)) H) (tCons ta (tCons tb tNil))) ρ (Is (if j < i then j else i)) := fun Δ σ H Q s hh e k =>
  ha Δ σ H _ s hh e fun v H1 a pa e1 r1 => hb Δ σ H1 _ s e1.2 (e.mono e1.1) fun w H2 b pb e2 r2 => by
    have ea : a = i := pa
    have eb : b = j := pb
    subst ea eb
    have ev : v = .int a := r1
    have ew : w = .int b := r2
    subst ev ew
    exact ⟨a, b, rfl, k _ H2 _ rfl (e1.trans e2) rfl⟩
end
section
variable {K : PySem.W.Frag} {Δ0 : Gh} {H0 : Hp} {Γ : Own} {F : List (V × Cell)} {ρ : Z.Env} {ta tb te : TE} {tz : TS} {D : Ends} {α : Type} [Rp α]
/-- a, b, c = a list of three -/
theorem wp_unl3 {i j l : Nat} {P : List α → Prop} (h : Ev K Γ te ρ P) (hi : i < ρ.length) (hj : j < ρ.length) (hl : l < ρ.length) (k : ∀ xs, P xs → ∃ a b c, xs = [a, b, c] ∧ Wp K Δ0 H0 Γ F (((ρ.set i (some ⟨a⟩)).set j (some ⟨b⟩)).set l (some ⟨c⟩)) tz D) :
    Wp K Δ0 H0 Γ F ρ (tSeq (tAsg te (gUnl K 3 (gCons (gName i) (gCons (gName j) (gCons (gName l) gNil))))) tz) D := fun σ H ⟨Δ, s, hh, e, f, e0, s1, s2⟩ =>
  h Δ σ H _ s hh e fun v H' xs pxs e1 r => by
    obtain ⟨a, b, c, rfl, kk⟩ := k xs pxs
    obtain ⟨p, vs, rfl, n, sq, q⟩ := r
    match vs, q with
    | [va, vb, vc], q =>
      exact ⟨p, _, rfl, sq, rfl, va, [vb, vc], rfl, vb, [vc], rfl, vc, [], rfl, rfl, kk _ H' ⟨Δ, s, e1.2, (((e.mono e1.1).set (c := ⟨a⟩) hi q.1).set (c := ⟨b⟩) (by rw [List.length_set]; exact hj) q.2.1).set (c := ⟨c⟩) (by rw [List.length_set, List.length_set]; exact hl) q.2.2.1, fun q hq => q.2.r.mono e1.1 (f q hq), ext0 e0 s1 s2 e1, s1, s2⟩⟩
end
end Z

set_option Elab.async false
set_option linter.all false
set_option maxRecDepth 100000
set_option maxHeartbeats 1000000
namespace Z
open PySem PySem.Spec PyProof.Rows L2
section
variable {K : PySem.W.Frag} {Δ0 : Gh} {H0 : Hp} {Γ : Own} {F : List (V × Cell)} {ρ : Z.Env} {ta tb te : TE} {tz : TS} {D : Ends}
/-- i, j = a, b with the pair made -/
theorem wp_tup2 {i j : Nat} {ta : TA} {Q : List Cell → Prop} (h : EvA K Γ ta ρ Q) (hi : i < ρ.length) (hj : j < ρ.length) (k : ∀ cs, Q cs → ∃ c d : Cell, cs = [c, d] ∧ Wp K Δ0 H0 Γ F ((ρ.set i (some c)).set j (some d)) tz D) : Wp K Δ0 H0 Γ F ρ (tSeq (tAsg (tTup ta) (gTup K 2 (gCons (gName i) (gCons (gName j) gNil)))) tz) D := fun σ H ⟨Δ, s, hh, e, f, e0, s1, s2⟩ =>
  h Δ σ H _ s hh e fun vs H' cs pcs e1 r => by
    obtain ⟨c, d, rfl, kk⟩ := k cs pcs
    match vs, r with
    | [v, w], r =>
      refine ⟨by show 2 ≤ sizeLine; decide, fun p hp => ?_⟩
      have e2 := Ext.new e1.2 hp (.tup [v, w])
      have e3 := e1.trans e2
      exact ⟨p, [v, w], rfl, .inl (.inl upd_same), rfl, v, [w], rfl, w, [], rfl, rfl, kk _ _ ⟨Δ, s, e3.2, ((e.mono e3.1).set hi (c.r.mono e2.1 r.1)).set (by rw [List.length_set]; exact hj) (d.r.mono e2.1 r.2.1), fun q hq => q.2.r.mono e3.1 (f q hq), ext0 e0 s1 s2 e3, s1, s2⟩⟩
theorem ev_callW {β : Type} [Rp β] {Pb : β → Prop} {F : Own → List Cell → (β → Prop) → Prop} {E : XK} {ta : TA} {Pcs : List Cell → Prop} (ha : EvA K Γ ta ρ Pcs) (hf : ∀ cs, Pcs cs → ∃ R, F Γ cs R ∧ ∀ b, R b → Pb b) : Ev K Γ (tCall (spD K F) [] E ta) ρ Pb := fun Δ σ H Q s hh e k =>
  ha Δ σ H _ s hh e fun vs H' cs pcs e1 r => by
    obtain ⟨R, h1, h2⟩ := hf cs pcs
    exact ⟨Γ, Δ, cs, R, h1, s, e1.2, by rw [List.append_nil]; exact r, fun v H2 b pb e2 r2 => k v H2 b (h2 b pb) (e1.trans e2) r2⟩
end
end Z

set_option Elab.async false
set_option linter.all false
set_option maxRecDepth 100000
set_option maxHeartbeats 1000000
namespace Z
open PySem PySem.Spec PyProof.Rows L2
/-! ### a def that hands back a new object, which its caller then owns -/
/-- what such a def promises -/
def spF (K : PySem.W.Frag) (G : Own → List Cell → Prop) (I : HO → Prop) : Sp := fun vs H Q _ => ∃ (Γ : Own) (Δ : Gh) (cs : List Cell), G Γ cs ∧ Sat Γ Δ ∧ Hold Δ H ∧ ArgsOk K Δ H vs cs ∧
  ∀ (p : Addr) (H' : Hp) (o : HO), I o → H p = none → Δ p = none → Ext Δ H H' → H' p = some o → Q (.ref p) H'
def ghI (Δ : Gh) (D : Addr) (I : HO → Prop) : Gh := fun a => if a = D then some I else Δ a
section
variable {K : PySem.W.Frag} {Γ : Own} {ρ : Z.Env} {ta : TA} {β : Type} [Rp β]
theorem ghI_self {Δ : Gh} {D : Addr} {I : HO → Prop} : ghI Δ D I D = some I := by
  unfold ghI
  exact if_pos rfl
theorem ghI_other {Δ : Gh} {D x : Addr} {I : HO → Prop} (h : x ≠ D) : ghI Δ D I x = Δ x := by
  unfold ghI
  exact if_neg h
/-- f(g(..)) where g hands back a new object -/
theorem ev_callF {Pb : β → Prop} {G : Own → List Cell → Prop} {I : HO → Prop} {F : Own → List Cell → (β → Prop) → Prop} {E E' : XK} {cs : List Cell} (ha : EvA K Γ ta ρ (Is cs)) (hg : G Γ cs) (hf : ∀ p, F ((p, I) :: Γ) [⟨(⟨p⟩ : Loc)⟩] Pb) :
    Ev K Γ (tCall (spD K F) [] E (tCons (tCall (spF K G I) [] E' ta) tNil)) ρ Pb := fun Δ σ H Q s hh e k =>
  ha Δ σ H _ s hh e fun vs H1 cs' pcs e1 r => by
    have ec : cs' = cs := pcs
    subst ec
    refine ⟨Γ, Δ, cs', hg, s, e1.2, by rw [List.append_nil]; exact r, fun p H2 o io hp1 hΔ e2 ho => ?_⟩
    have hs : Sat ((p, I) :: Γ) (ghI Δ p I) := fun q hq => by
      rcases List.mem_cons.mp hq with rfl | hq
      · exact ghI_self
      · have h := s q hq
        have hne : q.1 ≠ p := fun z => by
          rw [z, hΔ] at h
          cases h
        rw [ghI_other hne]
        exact h
    have hH : Hold (ghI Δ p I) H2 := fun a J h => by
      by_cases ea : a = p
      · rw [ea, ghI_self] at h
        have ej : I = J := Option.some.inj h
        subst ej
        exact ⟨o, by rw [ea]; exact ho, io⟩
      · rw [ghI_other ea] at h
        exact e2.2 a J h
    refine ⟨(p, I) :: Γ, ghI Δ p I, [⟨(⟨p⟩ : Loc)⟩], Pb, hf p, hs, hH, ⟨rfl, trivial⟩, fun v H3 b pb e3 r3 => k v H3 b pb ⟨fun a u na hu => ?_, fun a J h => ?_⟩ (Rp.weak (fun x u _ hn => ?_) r3)⟩
    · have h1 := e1.1 a u na hu
      have hne : a ≠ p := fun z => by
        rw [z, hp1] at h1
        cases h1
      exact e3.1 a u (by rw [ghI_other hne]; exact na) (e2.1 a u na h1)
    · have hne : a ≠ p := fun z => by
        rw [z, hΔ] at h
        cases h
      exact e3.2 a J (by rw [ghI_other hne]; exact h)
    · by_cases ex : x = p
      · rw [ex]
        exact hΔ
      · rw [ghI_other ex] at hn
        exact hn
end
section
variable {P : Program} {w : World} {K : PySem.W.Frag} {mg : Str → Option Value} {base : Heap} {β : Type} [Rp β]
def FinF (Δ0 : Gh) (H0 : Hp) (I : HO → Prop) (D : Ends) : Prop := ∀ (p : Addr) (H' : Hp) (o : HO), I o → H0 p = none → Δ0 p = none → Ext Δ0 H0 H' → H' p = some o → D.rt (.ref p) H'
theorem def_okF {x qual : Str} {args : Arguments} {body : List Stmt} {scope : Scope} {dvs : List V} {kws : List (Str × V)} {f : Addr} {fd : FuncData} {N ps : List Str} {k : Nat} {G : Own → List Cell → Prop} {I : HO → Prop}
    (Fn : FunD K x qual args body scope dvs kws f fd) (S : FnScope N ps scope) (len : ∀ Γ cs, G Γ cs → cs.length = ps.length)
    (hb : ∀ (cdv : Value) (A : Around) (outer : List PySem.Env) (s : Shared) (H : Hp) (E : XK), Room k (A.deeper (envOfC qual scope s.heap.objs.size f cdv)) →
      ∀ (Γ : Own) (cs : List Cell), G Γ cs → ∃ t, PSs (cxOf CX0 P w K mg base N qual scope f cdv A outer s H E).nox body t ∧
        ∀ (Δ0 : Gh) (D : Ends), FinF Δ0 H I D → Wp K Δ0 H Γ [] (env0 N cs) t D) :
    FnOk P w K mg base CX0 (k + 1) f fd ps (spF K G I) := by
  refine Fn.ok S (fun vs H Q E h => ?_) (fun cdv A outer s H vs Q E hr h => ?_)
  · obtain ⟨Γ, Δ, cs, g, _, _, a, _⟩ := h
    rw [All2.len a]
    exact len Γ cs g
  · obtain ⟨Γ, Δ, cs, g, sa, hh, a, q⟩ := h
    obtain ⟨t, ht, hw⟩ := hb cdv A outer s H E hr Γ cs g
    refine ⟨t, ?_, hw Δ _ (fun p H' o io h1 h2 e ho => q p H' o io h1 h2 e ho) _ H ⟨Δ, sa, hh, start_ok a, fun z hz => (nomatch hz), Ext.refl hh, fun _ _ z => z, fun x n m => absurd n m⟩⟩
    first
      | exact ht
      | exact PSs.nox ht
end
section
variable {K : PySem.W.Frag} {Δ0 : Gh} {H0 : Hp} {Γ : Own} {F : List (V × Cell)} {ρ : Z.Env} {ta : TA} {D : Ends}
/-- return [a, b, c] of a new list of ints -/
theorem wp_ret3 (hf : FinF Δ0 H0 DiceI D) (h : EvA K Γ ta ρ (fun cs => ∃ a b c : Int, cs = [⟨a⟩, ⟨b⟩, ⟨c⟩] ∧ 0 ≤ a ∧ 0 ≤ b ∧ 0 ≤ c)) : Wp K Δ0 H0 Γ F ρ (tRet (tLst ta)) D := fun σ H ⟨Δ, s, hh, e, f, e0, s1, s2⟩ =>
  h Δ σ H _ s hh e fun vs H' cs pcs e1 r => by
    obtain ⟨a, b, c, rfl, ha, hb, hc⟩ := pcs
    match vs, r with
    | [v1, v2, v3], r =>
      have z1 : v1 = .int a := r.1
      have z2 : v2 = .int b := r.2.1
      have z3 : v3 = .int c := r.2.2.1
      subst z1 z2 z3
      refine ⟨by show 3 ≤ sizeLine; decide, fun p hp => ?_⟩
      have e2 := e1.trans (Ext.new e1.2 hp (.lst [.int a, .int b, .int c]))
      have e3 := ext0 e0 s1 s2 e1
      have hn := none0 s1 (e1.2.fresh hp)
      refine hf p _ _ ⟨a, b, c, rfl, ha, hb, hc⟩ ?_ hn (ext0 e0 s1 s2 e2) upd_same
      cases q : H0 p with
      | none => rfl
      | some o =>
        have := e3.1 p o hn q
        rw [hp] at this
        cases this
end
section
variable {K : PySem.W.Frag} {Γ : Own} {ρ : Z.Env} {α β : Type} [Rp α] [Rp β]
/-- the pairs of a tuple, each to two names -/
theorem src_tupP {tl : TE} {ja jb : Nat} {xs : Tup (α × β)} {x0 : Nat → α × β} (h : Ev K Γ tl ρ (Is xs)) (hx : ∀ i, i < xs.l.length → xs.l[i]? = some (x0 i)) (hja : ja < ρ.length) (hjb : jb < ρ.length) :
    Src K Γ (iTup K tl) (gTup K 2 (gCons (gName ja) (gCons (gName jb) gNil))) ρ [ja, jb] xs.l.length (fun i ρ => (ρ.set ja (some ⟨(x0 i).1⟩)).set jb (some ⟨(x0 i).2⟩)) := fun Δ σ H R s hh e k =>
  h Δ σ H _ s hh e fun v H' a pa e1 r => by
    have ea : a = xs := pa
    subst ea
    obtain ⟨p, vs, rfl, n, sq, q⟩ := id r
    refine ⟨p, rfl, ⟨vs, sq⟩, k _ H' (.ref p) ⟨a⟩ e1 r (fun Δ' H2 r2 => ?_) fun Δ' i H2 x H3 hi h2 r2 y => ?_⟩
    · obtain ⟨p', ws, e', n', sq', q'⟩ := (show Rp.rp K Δ' H2 (.ref p) a from r2)
      cases e'
      have hl := q'.len
      refine ⟨fun i hi => ⟨ws, ws[i], sq', List.getElem?_eq_getElem (by omega)⟩, ws, sq', by omega⟩
    · obtain ⟨p', ws, e', n', sq', q'⟩ := (show Rp.rp K Δ' H2 (.ref p) a from r2)
      cases e'
      obtain ⟨rfl, hy⟩ := (show H3 = H2 ∧ ∀ zs, SqT K H2 p zs → zs[i]? = some x from y)
      obtain ⟨w, hw, rw'⟩ := q'.get (hx i hi)
      have ew : x = w := Option.some.inj ((hy _ sq').symm.trans hw)
      subst ew
      obtain ⟨T, va, vb, rfl, nT, sT, ra, rb⟩ := rw'
      refine ⟨Ext.refl h2, fun σ' ρ' Qs hl e' qq => ⟨T, [va, vb], rfl, sT, rfl, va, [vb], rfl, vb, [], rfl, rfl, ?_⟩⟩
      refine qq _ ((e'.set (c := ⟨(x0 i).1⟩) (by rw [hl]; exact hja) ra).set (c := ⟨(x0 i).2⟩) (by rw [List.length_set, hl]; exact hjb) rb) (by rw [List.length_set, List.length_set]) fun k hk => ?_
      have h1 : ja ≠ k := fun z => hk (by simp [z])
      have h2 : jb ≠ k := fun z => hk (by simp [z])
      rw [List.getElem?_set_ne h2, List.getElem?_set_ne h1]
end
end Z

set_option Elab.async false
set_option linter.all false
set_option maxRecDepth 100000
set_option maxHeartbeats 4000000
/-! sorted of a list of texts, of any length -/
namespace Zs
open PySem PyProof.Rows Srt SrtO
section
variable {prog : Program} {w : World} {A : Around} {E : Value → Shared → Prop} {s : Shared}
def tv : Value → Str
  | .str x _ => x
  | _ => Str.empty
def ltT (v u : Value) : Bool := decide ((tv v).cps.toList < (tv u).cps.toList)
theorem lists_tr {a b c : List Nat} (h1 : ¬ b < a) (h2 : ¬ c < b) : ¬ c < a := fun h => by
  have x : a ≤ b := h1
  have y : b ≤ c := h2
  have z : a ≤ c := List.le_trans x y
  exact z h
theorem swo_txt : Swo ltT := by
  refine ⟨fun x y h => ?_, fun x y z h1 h2 => ?_⟩
  · have a := of_decide_eq_true (p := (tv x).cps.toList < (tv y).cps.toList) h
    exact decide_eq_false (p := (tv y).cps.toList < (tv x).cps.toList) fun b => List.lt_asymm a b
  · have a := of_decide_eq_false (p := (tv y).cps.toList < (tv x).cps.toList) h1
    have b := of_decide_eq_false (p := (tv z).cps.toList < (tv y).cps.toList) h2
    exact decide_eq_false (p := (tv z).cps.toList < (tv x).cps.toList) (lists_tr a b)
theorem txt_mem : ∀ {vs : List Value} {ns : List Str}, StrsAre vs ns → ∀ v ∈ vs, ∃ i t, v = Value.str i t
  | _, _, .nil, v, h => absurd h (by simp)
  | _, _, .cons n t r, v, h => by
    rcases List.mem_cons.mp h with e | h
    · exact ⟨n, t, e⟩
    · exact txt_mem r v h
theorem txt_tv : ∀ {vs : List Value}, (∀ v ∈ vs, ∃ i t, v = Value.str i t) → StrsAre vs (vs.map tv)
  | [], _ => .nil
  | v :: vs, h => by
    obtain ⟨i, t, e⟩ := h v List.mem_cons_self
    subst e
    exact .cons i t (txt_tv fun u hu => h u (List.mem_cons_of_mem _ hu))
theorem tv_txt : ∀ {vs : List Value} {ns : List Str}, StrsAre vs ns → vs.map tv = ns
  | _, _, .nil => rfl
  | _, _, .cons n t r => congrArg (n :: ·) (tv_txt r)
theorem txt_cmp {vs : List Value} {ns : List Str} (hI : StrsAre vs ns) : Cmp prog w A s oneType' (fun p => p.1 ∈ vs) (lt2 ltT) := by
  intro p q hm hm'
  obtain ⟨a, t, e⟩ := txt_mem hI _ hm
  obtain ⟨b, u, e'⟩ := txt_mem hI _ hm'
  show wpAny (model prog w) A (keyLt' oneType' p.1 q.1) (fun r s' => s' = s ∧ r = ltT p.1 q.1) (fun _ _ => False) s
  rw [e, e', keyLt'_oneType]
  exact oneLt_str ⟨rfl, rfl⟩
theorem txt_sortable {a : Addr} {vs : List Value} {ns : List Str} (hI : StrsAre vs ns) (h2 : 2 ≤ vs.length) : SortableO prog w A s a vs ltT := by
  intro h' _
  refine ⟨oneType', fun Q E hq => ?_, txt_cmp hI⟩
  match vs, hI, h2 with
  | v1 :: v2 :: rest, hI, _ =>
    rw [keyKind_strs hI]
    exact wpAny_pure hq
  | [], _, h => exact absurd h (by decide)
  | [v], _, h => exact absurd h (by simp)
/-- rising texts, by their codes -/
def Rise (l : List Str) : Prop := l.Pairwise fun x y => ¬ y.cps.toList < x.cps.toList
theorem txt_out {vs out : List Value} {ns : List Str} (hI : StrsAre vs ns) (hs : Srtd ltT out) (hb : Stb ltT out vs) : StrsAre out (out.map tv) ∧ (out.map tv).Perm ns ∧ Rise (out.map tv) := by
  refine ⟨txt_tv fun v hv => txt_mem hI v (hb.perm.mem_iff.mp hv), ?_, ?_⟩
  · have q := hb.perm.map tv
    rw [tv_txt hI] at q
    exact q
  · exact List.pairwise_map.mpr (hs.imp fun {x y} h => of_decide_eq_false (p := (tv y).cps.toList < (tv x).cps.toList) h)
end
end Zs
namespace L2
open PySem PySem.Spec PyProof.Rows
/-- sorted(xs), texts, any number of them -/
def rSortedT (K : PySem.W.Frag) : List V → Hp → VK → Prop := fun vs H Q => ∃ (a : Addr) (ns : List Str), vs = [V.ref a] ∧ SqL K H a (ns.map V.str) ∧
  ∀ (ns' : List Str) (p : Addr), ns'.Perm ns → Zs.Rise ns' → H p = none → Q (.ref p) (upd H p (.lst (ns'.map V.str)))
section
variable {X : Cx}
theorem cr_sortedT : CallR X (.builtin "sorted") (rSortedT X.K) := by
  intro pins s σ H vs us Q I r h
  obtain ⟨a, ns, rfl, hs, q⟩ := h
  obtain ⟨its, rv, hl, hz⟩ := I.list hs
  rw [Vals.ref1 r]
  have hi := rv.strs
  refine SrtO.sorted_ord Zs.swo_txt hl.isList (by rw [← rv.length]; exact hz) (fun h2 h₁ a' _ _ => Zs.txt_sortable hi h2) fun out h1 h2 => ?_
  obtain ⟨k1, k2, k3⟩ := Zs.txt_out hi h1 h2
  obtain ⟨ep, he'⟩ := PyProof.Rows.sortedAll_at s.heap its out.toArray
  have hlen : ((out.map Zs.tv).map V.str).length ≤ sizeLine := by
    rw [List.length_map, k2.length_eq]
    rw [List.length_map] at hz
    exact hz
  exact ⟨.ref _, upd H (s.heap.objs.size + 1) (.lst ((out.map Zs.tv).map V.str)), I.laid (t' := s.toks) (fun _ _ => PyProof.Rows.sortedAll_old) (Nat.le_succ _) ⟨hlen, out, ep, vals_of_strs k1, he'⟩, rfl, q _ _ k2 k3 (I.hok.fresh (Nat.le_succ _))⟩
end
end L2

set_option Elab.async false
set_option linter.all false
set_option maxRecDepth 100000
set_option maxHeartbeats 1000000
namespace Z
open PySem PySem.Spec PyProof.Rows L2
/-! ### one's own objects of any kind, by their exact content -/
def ObIs (o : HO) : HO → Prop := fun u => u = o
section
variable {K : PySem.W.Frag} {Δ0 : Gh} {H0 : Hp} {Γ : Own} {F : List (V × Cell)} {ρ : Z.Env} {ta tb te : TE} {tz : TS} {D : Ends}
theorem ghI_sat {Δ : Gh} {p : Addr} {I : HO → Prop} (s : Sat Γ Δ) (n : Δ p = none) : Sat ((p, I) :: Γ) (ghI Δ p I) := fun q hq => by
  rcases List.mem_cons.mp hq with rfl | hq
  · exact ghI_self
  · have h := s q hq
    have hne : q.1 ≠ p := fun z => by
      rw [z, n] at h
      cases h
    rw [ghI_other hne]
    exact h
theorem ghI_hold {Δ : Gh} {H : Hp} {p : Addr} {I : HO → Prop} {o : HO} (hh : ∀ a J, a ≠ p → Δ a = some J → ∃ u, H a = some u ∧ J u) (io : I o) : Hold (ghI Δ p I) (upd H p o) := fun a J h => by
  by_cases ea : a = p
  · rw [ea, ghI_self] at h
    have ej : I = J := Option.some.inj h
    subst ej
    exact ⟨o, by rw [ea]; exact upd_same, io⟩
  · rw [ghI_other ea] at h
    obtain ⟨u, hu, iu⟩ := hh a J ea h
    exact ⟨u, by rw [upd_ne ea]; exact hu, iu⟩
theorem ghI_new {Δ : Gh} {D : Addr} {I : HO → Prop} {H : Hp} (hD : H D = none) : ∀ x o, H x = some o → Δ x = none → ghI Δ D I x = none := fun x o hx n => by
  have hne : x ≠ D := fun z => by
    rw [z, hD] at hx
    cases hx
  rw [ghI_other hne]
  exact n
theorem own_newO {Δ : Gh} {σ : L2.St} {H : Hp} {p : Addr} {o : HO} (s : Sat Γ Δ) (hh : Hold Δ H) (e : EnvOk K Δ σ H ρ) (f : ∀ f ∈ F, f.2.rp K Δ H f.1) (e0 : Ext Δ0 H0 H) (s1 : ∀ x I, Δ0 x = some I → Δ x = some I) (s2 : ∀ x, Δ0 x = none → Δ x ≠ none → H0 x = none) (hp : H p = none) :
    OwnP Δ0 Γ p ∧ Stt K Δ0 H0 ((p, ObIs o) :: Γ) F ρ σ (upd H p o) := by
  have nD : Δ p = none := hh.fresh hp
  have n0 : Δ0 p = none := none0 s1 nD
  have kp : Keep (ghI Δ p (ObIs o)) H (upd H p o) := fun a u _ q => by rw [upd_ne (ne_of_none q hp)]; exact q
  refine ⟨⟨n0, fun q hq z => ?_⟩, ghI Δ p (ObIs o), ghI_sat s nD, ghI_hold (fun a J _ h => hh a J h) rfl, (e.weak (ghI_new hp)).mono kp, fun q hq => q.2.r.mono kp (q.2.r.weak (ghI_new hp) (f q hq)), ext0 e0 s1 s2 (Ext.new hh hp _), fun x I q => ?_, fun x n m => ?_⟩
  · have h := s q hq
    rw [z, nD] at h
    cases h
  · have hne : x ≠ p := fun z => by
      rw [z, n0] at q
      cases q
    rw [ghI_other hne]
    exact s1 x I q
  · by_cases hx : x = p
    · subst hx
      cases q : H0 x with
      | none => rfl
      | some u =>
        have := e0.1 x u n0 q
        rw [hp] at this
        cases this
    · rw [ghI_other hx] at m
      exact s2 x n m
theorem own_putO {σ : L2.St} {H : Hp} {p : Addr} {o o2 : HO} (ow : OwnP Δ0 Γ p) (st : Stt K Δ0 H0 ((p, ObIs o) :: Γ) F ρ σ H) : H p = some o ∧ Stt K Δ0 H0 ((p, ObIs o2) :: Γ) F ρ σ (upd H p o2) := by
  obtain ⟨Δ, s, hh, e, f, e0, s1, s2⟩ := st
  have hΔ : Δ p = some (ObIs o) := s (p, ObIs o) List.mem_cons_self
  obtain ⟨u, hu, iu⟩ := hh p _ hΔ
  have iu' : u = o := iu
  subst iu'
  have off : ∀ {a : Addr}, Δ a = none → a ≠ p := fun n z => by
    rw [z, hΔ] at n
    cases n
  have off0 : ∀ {a : Addr} {I}, Δ0 a = some I → a ≠ p := fun q z => by
    rw [z, ow.n0] at q
    cases q
  have kp : Keep Δ H (upd H p o2) := fun a o n q => by
    rw [upd_ne (off n)]
    exact q
  have wk : ∀ {H : Hp} x o, H x = some o → Δ x = none → ghI Δ p (ObIs o2) x = none := fun x o _ n => by
    rw [ghI_other (off n)]
    exact n
  refine ⟨hu, ghI Δ p (ObIs o2), fun q hq => ?_, ghI_hold (fun a J _ h => hh a J h) rfl, (e.mono kp).weak wk, fun q hq => q.2.r.weak wk (q.2.r.mono kp (f q hq)), ⟨fun a o' n q => ?_, fun a I q => ?_⟩, fun x I q => ?_, fun x n m => ?_⟩
  · rcases List.mem_cons.mp hq with z | z
    · rw [z]; exact ghI_self
    · rw [ghI_other (ow.ne q z)]; exact s q (List.mem_cons_of_mem _ z)
  · have hne : a ≠ p := fun z => by
      subst z
      have := s2 a n (by rw [hΔ]; exact fun z => by cases z)
      rw [q] at this
      cases this
    rw [upd_ne hne]
    exact e0.1 a o' n q
  · obtain ⟨u, hu, iu⟩ := e0.2 a I q
    exact ⟨u, by rw [upd_ne (off0 q)]; exact hu, iu⟩
  · rw [ghI_other (off0 q)]
    exact s1 x I q
  · by_cases hx : x = p
    · subst hx
      exact s2 x n (by rw [hΔ]; exact fun z => by cases z)
    · rw [ghI_other hx] at m
      exact s2 x n m
end
/-! ### instances: made by a call, their fields -/
/-- what __init__ promises: of a new instance at x the datum b -/
def spI (K : PySem.W.Frag) (C : Addr) {β : Type} [Rp β] (F : Own → List Cell → (β → Prop) → Prop) : Sp := fun vs H Q _ => ∃ (Γ : Own) (Δ : Gh) (cs : List Cell) (P : β → Prop) (x dx : Addr) (us : List V) (H0 : Hp), vs = .ref x :: us ∧ F Γ cs P ∧ Sat Γ Δ ∧ Hold Δ H0 ∧ ArgsOk K Δ H0 us cs ∧
  H0 x = none ∧ H0 dx = none ∧ dx ≠ x ∧ H = upd (upd H0 dx (.own x)) x (.ins C dx []) ∧ ∀ (H' : Hp) (b : β), P b → Ext Δ H0 H' → Rp.rp K Δ H' (.ref x) b → Q .non H'
section
variable {K : PySem.W.Frag} {Γ : Own} {ρ : Z.Env} {ta : TA} {β : Type} [Rp β] {Pb : β → Prop}
/-- C(e, ..) -/
theorem ev_make {C : Addr} {F : Own → List Cell → (β → Prop) → Prop} {E : XK} {cs dcs : List Cell} {dvs : List V} (hd : ∀ Δ H, ArgsOk K Δ H dvs dcs) (ha : EvA K Γ ta ρ (Is cs)) (hf : F Γ (cs ++ dcs) Pb) : Ev K Γ (tMake C (spI K C F) dvs E ta) ρ Pb := fun Δ σ H Q s hh e k =>
  ha Δ σ H _ s hh e fun vs H1 cs' pcs e1 r x dx hx hdx ne => by
    have ec : cs' = cs := pcs
    subst ec
    exact ⟨Γ, Δ, cs' ++ dcs, Pb, x, dx, vs ++ dvs, H1, rfl, hf, s, e1.2, All2.app r (hd Δ H1), hx, hdx, ne, rfl, fun H' b pb e2 r2 => ⟨rfl, k _ H' b pb (e1.trans e2) r2⟩⟩
end
section
variable {P : Program} {w : World} {K : PySem.W.Frag} {mg : Str → Option Value} {base : Heap} {β : Type} [Rp β]
def FinI (K : PySem.W.Frag) (Δ0 : Gh) (H0 : Hp) (x : Addr) (R : β → Prop) (D : Ends) : Prop := ∀ σ H' b, R b → Ext Δ0 H0 H' → Rp.rp K Δ0 H' (.ref x) b → D.nx σ H'
theorem def_okI {x qual : Str} {args : Arguments} {body : List Stmt} {scope : Scope} {dvs : List V} {kws : List (Str × V)} {f C : Addr} {fd : FuncData} {N ps : List Str} {k : Nat} {G : Own → List Cell → (β → Prop) → Prop}
    (Fn : FunD K x qual args body scope dvs kws f fd) (S : FnScope N ps scope) (len : ∀ Γ cs R, G Γ cs R → cs.length + 1 = ps.length)
    (hb : ∀ (cdv : Value) (A : Around) (outer : List PySem.Env) (s : Shared) (H : Hp) (E : XK), Room k (A.deeper (envOfC qual scope s.heap.objs.size f cdv)) →
      ∀ (Γ : Own) (cs : List Cell) (R : β → Prop), G Γ cs R → ∃ t, PSs (cxOf CX0 P w K mg base N qual scope f cdv A outer s H E).nox body t ∧
        ∀ (Δ0 : Gh) (H0 : Hp) (p dx : Addr) (D : Ends), FinI K Δ0 H0 p R D → OwnP Δ0 Γ p → Wp K Δ0 H0 ((p, ObIs (.ins C dx [])) :: Γ) [] (env0 N (⟨(⟨p⟩ : Loc)⟩ :: cs)) t D) :
    FnOk P w K mg base CX0 (k + 1) f fd ps (spI K C G) := by
  refine Fn.ok S (fun vs H Q E h => ?_) (fun cdv A outer s H vs Q E hr h => ?_)
  · obtain ⟨Γ, Δ, cs, R, p, dx, us, H0, rfl, g, _, _, a, _⟩ := h
    rw [List.length_cons, All2.len a]
    exact len Γ cs R g
  · obtain ⟨Γ, Δ, cs, R, p, dx, us, H0, rfl, g, sa, hh, a, hp, hdx, ne, rfl, q⟩ := h
    obtain ⟨t, ht, hw⟩ := hb cdv A outer s _ E hr Γ cs R g
    have e1 : Ext Δ H0 (upd H0 dx (.own p)) := Ext.new hh hdx _
    have hp1 : upd H0 dx (.own p) p = none := by rw [upd_ne (fun z => ne z.symm)]; exact hp
    have hargs : ArgsOk K Δ (upd H0 dx (.own p)) us cs := All2.imp (fun v c r => c.r.mono e1.1 r) a
    have henv : EnvOk K Δ (L2.start N (.ref p :: us)) (upd H0 dx (.own p)) (env0 N (⟨(⟨p⟩ : Loc)⟩ :: cs)) := start_ok (cs := ⟨(⟨p⟩ : Loc)⟩ :: cs) ⟨rfl, hargs⟩
    obtain ⟨ow, st⟩ := own_newO (K := K) (Δ0 := Δ) (H0 := H0) (F := []) (o := .ins C dx []) sa e1.2 henv (fun z hz => (nomatch hz)) e1 (fun _ _ z => z) (fun x n m => absurd n m) hp1
    refine ⟨t, ?_, hw Δ H0 p dx _ (fun σ H' b pb e r => q H' b pb e r) ow _ _ st⟩
    first
      | exact ht
      | exact PSs.nox ht
end
end Z

set_option Elab.async false
set_option linter.all false
set_option maxRecDepth 100000
set_option maxHeartbeats 1000000
namespace Z
open PySem PySem.Spec PyProof.Rows L2
/-! ### a new object that an expression makes and its taker owns -/
def EvN (K : PySem.W.Frag) (Γ : Own) (te : TE) (ρ : Z.Env) (I : HO → Prop) : Prop :=
  ∀ (Δ : Gh) (σ : L2.St) (H : Hp) (Q : VK), Sat Γ Δ → Hold Δ H → EnvOk K Δ σ H ρ → (∀ d H' o, I o → H d = none → Δ d = none → Ext Δ H H' → H' d = some o → Q (.ref d) H') → te σ H Q
/-! ### a dict whose keys are texts -/
abbrev tS (x : Tx) : Str := ⟨x.s.toArray⟩
def kvT (ks : List Tx) : List (Key × V) := ks.map fun x => (.inr (tS x), .bl true)
theorem tS_inj {x y : Tx} : tS x = tS y ↔ x = y := by
  constructor
  · intro h
    cases x
    cases y
    simpa [tS] using h
  · intro h
    rw [h]
/-- each text once, at its first place -/
def onceT : List Tx → List Tx → List Tx
  | ks, [] => ks
  | ks, x :: xs => onceT (if x ∈ ks then ks else ks ++ [x]) xs
theorem onceT_snoc : ∀ (xs : List Tx) (ks : List Tx) (x : Tx), onceT ks (xs ++ [x]) = if x ∈ onceT ks xs then onceT ks xs else onceT ks xs ++ [x]
  | [], ks, x => rfl
  | y :: xs, ks, x => onceT_snoc xs _ x
theorem onceT_mem : ∀ (xs ks : List Tx) (y : Tx), y ∈ onceT ks xs ↔ y ∈ ks ∨ y ∈ xs
  | [], ks, y => by simp [onceT]
  | x :: xs, ks, y => by
    rw [onceT, onceT_mem xs]
    by_cases h : x ∈ ks
    · rw [if_pos h, List.mem_cons]
      constructor
      · rintro (q | q)
        · exact .inl q
        · exact .inr (.inr q)
      · rintro (q | rfl | q)
        · exact .inl q
        · exact .inl h
        · exact .inr q
    · rw [if_neg h, List.mem_append, List.mem_singleton, List.mem_cons, or_assoc]
theorem onceT_nodup : ∀ (xs ks : List Tx), ks.Nodup → (onceT ks xs).Nodup
  | [], _, h => h
  | x :: xs, ks, h => by
    rw [onceT]
    by_cases q : x ∈ ks
    · rw [if_pos q]
      exact onceT_nodup xs ks h
    · rw [if_neg q]
      exact onceT_nodup xs _ (List.nodup_append.mpr ⟨h, by simp, fun a ha b hb => by
        rw [List.mem_singleton.mp hb]
        exact fun z => q (z ▸ ha)⟩)
theorem onceT_len : ∀ (xs ks : List Tx), (onceT ks xs).length ≤ ks.length + xs.length
  | [], ks => Nat.le_refl _
  | x :: xs, ks => by
    have := onceT_len xs (if x ∈ ks then ks else ks ++ [x])
    rw [onceT, List.length_cons]
    by_cases h : x ∈ ks
    · rw [if_pos h] at this ⊢
      omega
    · rw [if_neg h] at this ⊢
      rw [List.length_append, List.length_singleton] at this
      omega
theorem any_kvT {ks : List Tx} {x : Tx} : ((kvT ks).any fun kv => decide (kv.1 = (.inr (tS x) : Key))) = decide (x ∈ ks) := by
  rw [Bool.eq_iff_iff, List.any_eq_true, decide_eq_true_eq]
  unfold kvT
  constructor
  · rintro ⟨kv, hk, e⟩
    obtain ⟨y, hy, rfl⟩ := List.mem_map.mp hk
    have e' := of_decide_eq_true e
    have e2 : tS y = tS x := Sum.inr.inj e'
    rw [← tS_inj.mp e2]
    exact hy
  · intro h
    exact ⟨_, List.mem_map.mpr ⟨x, h, rfl⟩, decide_eq_true rfl⟩
theorem putK_kvT {ks : List Tx} {x : Tx} : putK (kvT ks) (.inr (tS x)) (.bl true) = kvT (if x ∈ ks then ks else ks ++ [x]) := by
  unfold putK
  rw [any_kvT]
  by_cases h : x ∈ ks
  · rw [if_pos (decide_eq_true h), if_pos h]
    unfold kvT
    rw [List.map_map]
    refine List.map_congr_left fun y _ => ?_
    show (if (Sum.inr (tS y) : Key) = Sum.inr (tS x) then _ else _) = _
    split
    · rfl
    · rfl
  · rw [if_neg (by rw [decide_eq_true_eq]; exact h), if_neg h]
    unfold kvT
    rw [List.map_append]
    rfl
section
variable {K : PySem.W.Frag} {Γ : Own} {ρ : Z.Env} {tk tv : TE}
theorem ghI_swap {Δ : Gh} {D : Addr} {I J : HO → Prop} {H : Hp} : ∀ x o, H x = some o → ghI Δ D I x = none → ghI Δ D J x = none := fun x o _ n => by
  by_cases e : x = D
  · rw [e, ghI_self] at n
    cases n
  · rw [ghI_other e] at n ⊢
    exact n
theorem ghI_exact {Δ : Gh} {D : Addr} {o : HO} {H : Hp} (h : Hold (ghI Δ D (ObIs o)) H) : H D = some o := by
  obtain ⟨u, hu, iu⟩ := h D _ ghI_self
  rw [hu, show u = o from iu]
/-- how things stand ahead of a turn -/
structure DW (K : PySem.W.Frag) (Δ : Gh) (H1 : Hp) (D : Addr) (pv : V) (pc : Cell) (σw : L2.St) (ρw : Z.Env) (o : HO) (H : Hp) : Prop where
  hold : Hold (ghI Δ D (ObIs o)) H
  keep : ∀ a u, a ≠ D → Δ a = none → H1 a = some u → H a = some u
  src : pc.rp K (ghI Δ D (ObIs o)) H pv
  env : EnvOk K (ghI Δ D (ObIs o)) σw H ρw
theorem DW.next {Δ : Gh} {H1 H H' : Hp} {D : Addr} {pv : V} {pc : Cell} {σw : L2.St} {ρw : Z.Env} {o : HO} (c : DW K Δ H1 D pv pc σw ρw o H) (e : Ext (ghI Δ D (ObIs o)) H H') : DW K Δ H1 D pv pc σw ρw o H' :=
  ⟨e.2, fun a u ha n h => e.1 a u (by rw [ghI_other ha]; exact n) (c.keep a u ha n h), pc.r.mono e.1 c.src, c.env.mono e.1⟩
theorem DW.put {Δ : Gh} {H1 H : Hp} {D : Addr} {pv : V} {pc : Cell} {σw : L2.St} {ρw : Z.Env} {o o2 : HO} (c : DW K Δ H1 D pv pc σw ρw o H) : DW K Δ H1 D pv pc σw ρw o2 (upd H D o2) := by
  have kp : Keep (ghI Δ D (ObIs o)) H (upd H D o2) := fun a u n q => by
    have hne : a ≠ D := fun z => by
      rw [z, ghI_self] at n
      cases n
    rw [upd_ne hne]
    exact q
  exact ⟨ghI_hold (fun a J ha h => c.hold a J (by rw [ghI_other ha]; exact h)) rfl, fun a u ha n h => by rw [upd_ne ha]; exact c.keep a u ha n h, pc.r.weak ghI_swap (pc.r.mono kp c.src), (c.env.mono kp).weak ghI_swap⟩
/-- {x: True for x in ..} -/
theorem en_dc {wi : TI} {g : TG} {js vs : List Nat} {xs : List Tx} {st : Nat → Z.Env → Z.Env} (S : Src K Γ wi g ρ js xs.length st) (hn : xs.length ≤ 50000) (hjs : ∀ j ∈ js, j ∈ vs)
    (hk : ∀ i x, xs[i]? = some x → Ev K Γ tk (st i (wipeE ρ vs)) (Is x)) (hv : ∀ i, i < xs.length → Ev K Γ tv (st i (wipeE ρ vs)) (Is true)) :
    EvN K Γ (tDc wi g tYes tk tv vs) ρ (ObIs (.dK (kvT (onceT [] xs)))) := fun Δ σ H Q s hh e k => S Δ σ H _ s hh e fun J H1 pv pc e1 rp0 hgo hyld => fun D hD => by
  have nD : Δ D = none := e1.2.fresh hD
  have eW : EnvOk K Δ (wipe σ vs) H1 (wipeE ρ vs) := (e.mono e1.1).wipe vs
  have kp : Keep (ghI Δ D (ObIs (.dK []))) H1 (upd H1 D (.dK [])) := fun a o _ q => by rw [upd_ne (ne_of_none q hD)]; exact q
  have W0 : DW K Δ H1 D pv pc (wipe σ vs) (wipeE ρ vs) (.dK (kvT (onceT [] (xs.take 0)))) (upd H1 D (.dK [])) :=
    ⟨ghI_hold (fun a J _ h => e1.2 a J h) rfl, fun a o ha n h => by rw [upd_ne ha]; exact h, pc.r.mono kp (pc.r.weak (ghI_new hD) rp0), (eW.weak (ghI_new hD)).mono kp⟩
  have wl : (wipeE ρ vs).length = ρ.length := by
    rw [← eW.1, wipe_length]
    exact e.1
  have hDH : H D = none := Ext.back hh e1 hD
  refine ⟨fun i m H2 => m = xs.length - i ∧ i ≤ xs.length ∧ DW K Δ H1 D pv pc (wipe σ vs) (wipeE ρ vs) (.dK (kvT (onceT [] (xs.take i)))) H2, ⟨xs.length, by simp, Nat.zero_le _, W0⟩, ?_⟩
  rintro i m H2 ⟨rfl, hi, c⟩
  have hg := hgo _ H2 c.src
  by_cases hlt : i < xs.length
  · refine .inr ⟨hg.1 i hlt, fun H3 => DW K Δ H1 D pv pc (wipe σ vs) (wipeE ρ vs) (.dK (kvT (onceT [] (xs.take (i + 1))))) H3, fun H' c' => ⟨xs.length - (i + 1), by omega, rfl, hlt, c'⟩, fun x H3 hy => ?_⟩
    obtain ⟨e3, hput⟩ := hyld _ i H2 x H3 hlt c.hold c.src hy
    have c3 := c.next e3
    refine hput (wipe σ vs) (wipeE ρ vs) _ wl c3.env fun σ2 env2 hl2 hoff => ⟨wipe_off (by rw [hl2, wipe_length]) hjs hoff, ?_⟩
    have hx : xs[i]? = some xs[i] := List.getElem?_eq_getElem hlt
    have sD : Sat Γ (ghI Δ D (ObIs (.dK (kvT (onceT [] (xs.take i)))))) := fun q hq => ghI_sat s nD q (List.mem_cons_of_mem _ hq)
    change tk σ2 H3 _
    refine hk i _ hx _ σ2 H3 _ sD e3.2 env2 fun y H4 a pa e4 r4 => ?_
    have c4 := c3.next e4
    refine hv i hlt _ σ2 H4 _ sD e4.2 (env2.mono e4.1) fun z H5 b pb e5 r5 => ?_
    have c5 := c4.next e5
    have ea : a = xs[i] := pa
    have eb : b = true := pb
    subst ea eb
    have ey : y = .str (tS xs[i]) := r4
    have ez : z = .bl true := r5
    subst ey ez
    have et : onceT [] (xs.take (i + 1)) = if xs[i] ∈ onceT [] (xs.take i) then onceT [] (xs.take i) else onceT [] (xs.take i) ++ [xs[i]] := by
      rw [List.take_add_one, hx]
      exact onceT_snoc _ _ _
    refine ⟨kvT (onceT [] (xs.take i)), .inr (tS xs[i]), rfl, ghI_exact c5.hold, ?_, ?_⟩
    · have h1 := onceT_len (xs.take i) []
      have h2 : (xs.take i).length ≤ i := List.length_take_le i xs
      have h3 : (kvT (onceT [] (xs.take i))).length = (onceT [] (xs.take i)).length := by unfold kvT; rw [List.length_map]
      refine Nat.lt_of_le_of_lt (m := 50000) ?_ (by decide)
      rw [h3]
      simp only [List.length_nil] at h1
      omega
    · rw [putK_kvT, ← et]
      exact c5.put
  · have ei : i = xs.length := by omega
    subst ei
    rw [List.take_length] at c
    refine .inl ⟨hg.2, k D H2 _ rfl hDH nD ⟨fun a o na h => ?_, fun a J h => ?_⟩ (ghI_exact c.hold)⟩
    · have h1 := e1.1 a o na h
      exact c.keep a o (ne_of_none h1 hD) na h1
    · have hne : a ≠ D := fun z => by
        rw [z, nD] at h
        cases h
      exact c.hold a J (by rw [ghI_other hne]; exact h)
end
end Z

set_option Elab.async false
set_option linter.all false
set_option maxRecDepth 100000
set_option maxHeartbeats 1000000
namespace Z
open PySem PySem.Spec PyProof.Rows L2
section
variable {K : PySem.W.Frag} {Δ0 : Gh} {H0 : Hp} {Γ : Own} {F : List (V × Cell)} {ρ : Z.Env} {ta tb te : TE} {tz : TS} {D : Ends} {α : Type} [Rp α] {P : α → Prop} {p C dx : Addr} {fs : List (Str × V)} {f : Str}
/-- self.f = e: the instance one's own; what e gave is kept in mind -/
theorem wp_fld (cl : Cls K C) (na : NoAttr K C f) (hl : fs.length < 1000) (ow : OwnP Δ0 Γ p) (h : Ev K ((p, ObIs (.ins C dx fs)) :: Γ) te ρ P) (ho : Ev K ((p, ObIs (.ins C dx fs)) :: Γ) ta ρ (Is (⟨p⟩ : Loc)))
    (k : ∀ v a, P a → Wp K Δ0 H0 ((p, ObIs (.ins C dx (putF f v fs))) :: Γ) ((v, ⟨a⟩) :: F) ρ tz D) : Wp K Δ0 H0 ((p, ObIs (.ins C dx fs)) :: Γ) F ρ (tSeq (sFld K ta te f) tz) D := fun σ H ⟨Δ, s, hh, e, ff, e0, s1, s2⟩ =>
  h Δ σ H _ s hh e fun v H1 a pa e1 r1 => ho Δ σ H1 _ s e1.2 (e.mono e1.1) fun w H2 b pb e2 r2 => by
    have eb : b = ⟨p⟩ := pb
    subst eb
    have ew : w = .ref p := r2
    subst ew
    have e3 := e1.trans e2
    have st : Stt K Δ0 H0 ((p, ObIs (.ins C dx fs)) :: Γ) ((v, ⟨a⟩) :: F) ρ σ H2 := ⟨Δ, s, e3.2, e.mono e3.1, fun q hq => by
      rcases List.mem_cons.mp hq with rfl | hq
      · exact Rp.mono e2.1 r1
      · exact q.2.r.mono e3.1 (ff q hq), ext0 e0 s1 s2 e3, s1, s2⟩
    obtain ⟨hp, st'⟩ := own_putO (o2 := .ins C dx (putF f v fs)) ow st
    exact ⟨p, C, dx, fs, rfl, hp, cl, na, hl, k v a pa σ _ st'⟩
theorem wp_fldL (cl : Cls K C) (na : NoAttr K C f) (hl : fs.length < 1000) (ow : OwnP Δ0 Γ p) (h : Ev K ((p, ObIs (.ins C dx fs)) :: Γ) te ρ P) (ho : Ev K ((p, ObIs (.ins C dx fs)) :: Γ) ta ρ (Is (⟨p⟩ : Loc)))
    (k : ∀ v a, P a → Wp K Δ0 H0 ((p, ObIs (.ins C dx (putF f v fs))) :: Γ) ((v, ⟨a⟩) :: F) ρ tNext D) : Wp K Δ0 H0 ((p, ObIs (.ins C dx fs)) :: Γ) F ρ (sFld K ta te f) D := wp_fld (tz := tNext) cl na hl ow h ho k
/-- a new object that comes becomes one's own -/
theorem own_come {Δ : Gh} {σ : L2.St} {H H' : Hp} {d : Addr} {o : HO} (s : Sat Γ Δ) (hh : Hold Δ H) (e : EnvOk K Δ σ H ρ) (ff : ∀ f ∈ F, f.2.rp K Δ H f.1) (e0 : Ext Δ0 H0 H) (s1 : ∀ x I, Δ0 x = some I → Δ x = some I) (s2 : ∀ x, Δ0 x = none → Δ x ≠ none → H0 x = none) (hd : H d = none) (e1 : Ext Δ H H') (ho : H' d = some o) :
    OwnP Δ0 Γ d ∧ Stt K Δ0 H0 ((d, ObIs o) :: Γ) F ρ σ H' := by
  have nD : Δ d = none := hh.fresh hd
  have n0 : Δ0 d = none := none0 s1 nD
  have wk : ∀ x u, H x = some u → Δ x = none → ghI Δ d (ObIs o) x = none := ghI_new hd
  have kp : Keep (ghI Δ d (ObIs o)) H H' := fun a u n q => by
    have hne : a ≠ d := ne_of_none q hd
    exact e1.1 a u (by rw [ghI_other hne] at n; exact n) q
  refine ⟨⟨n0, fun q hq z => ?_⟩, ghI Δ d (ObIs o), ghI_sat s nD, fun a J h => ?_, (e.weak wk).mono kp, fun q hq => q.2.r.mono kp (q.2.r.weak wk (ff q hq)), ext0 e0 s1 s2 e1, fun x I q => ?_, fun x n m => ?_⟩
  · have h := s q hq
    rw [z, nD] at h
    cases h
  · by_cases ea : a = d
    · rw [ea, ghI_self] at h
      have ej : ObIs o = J := Option.some.inj h
      subst ej
      exact ⟨o, by rw [ea]; exact ho, rfl⟩
    · rw [ghI_other ea] at h
      exact e1.2 a J h
  · have hne : x ≠ d := fun z => by
      rw [z, n0] at q
      cases q
    rw [ghI_other hne]
    exact s1 x I q
  · by_cases hx : x = d
    · subst hx
      cases q : H0 x with
      | none => rfl
      | some u =>
        have := e0.1 x u n0 q
        rw [hd] at this
        cases this
    · rw [ghI_other hx] at m
      exact s2 x n m
/-- the order of what one owns is of no matter -/
theorem Stt.swap {σ : L2.St} {H : Hp} {a b : Addr × (HO → Prop)} (st : Stt K Δ0 H0 (a :: b :: Γ) F ρ σ H) : Stt K Δ0 H0 (b :: a :: Γ) F ρ σ H := by
  obtain ⟨Δ, s, r⟩ := st
  exact ⟨Δ, fun q hq => s q (by simp only [List.mem_cons] at hq ⊢; rcases hq with h | h | h; exact .inr (.inl h); exact .inl h; exact .inr (.inr h)), r⟩
/-- self.f = a new object -/
theorem wp_fldN {I : HO → Prop} (cl : Cls K C) (na : NoAttr K C f) (hl : fs.length < 1000) (ow : OwnP Δ0 Γ p) (h : EvN K ((p, ObIs (.ins C dx fs)) :: Γ) te ρ I) (ho : ∀ d o, I o → Ev K ((d, ObIs o) :: (p, ObIs (.ins C dx fs)) :: Γ) ta ρ (Is (⟨p⟩ : Loc)))
    (k : ∀ d o, I o → OwnP Δ0 ((d, ObIs o) :: Γ) p → OwnP Δ0 Γ d → Wp K Δ0 H0 ((p, ObIs (.ins C dx (putF f (.ref d) fs))) :: (d, ObIs o) :: Γ) F ρ tz D) : Wp K Δ0 H0 ((p, ObIs (.ins C dx fs)) :: Γ) F ρ (tSeq (sFld K ta te f) tz) D := fun σ H ⟨Δ, s, hh, e, ff, e0, s1, s2⟩ =>
  h Δ σ H _ s hh e fun d H1 o io hd nd e1 hdo => by
    obtain ⟨owd, st⟩ := own_come (K := K) (Δ0 := Δ0) (H0 := H0) (F := F) s hh e ff e0 s1 s2 hd e1 hdo
    have hne : p ≠ d := owd.ne (p, _) List.mem_cons_self
    obtain ⟨Δ', s', hh', e', ff', e0', s1', s2'⟩ := st
    refine ho d o io Δ' σ H1 _ s' hh' e' fun w H2 b pb e2 r2 => ?_
    have eb : b = ⟨p⟩ := pb
    subst eb
    have ew : w = .ref p := r2
    subst ew
    have st2 : Stt K Δ0 H0 ((d, ObIs o) :: (p, ObIs (.ins C dx fs)) :: Γ) F ρ σ H2 := ⟨Δ', s', e2.2, e'.mono e2.1, fun q hq => q.2.r.mono e2.1 (ff' q hq), ext0 e0' s1' s2' e2, s1', s2'⟩
    have ow' : OwnP Δ0 ((d, ObIs o) :: Γ) p := ⟨ow.n0, fun q hq z => by
      rcases List.mem_cons.mp hq with rfl | hq
      · exact hne z.symm
      · exact ow.ne q hq z⟩
    obtain ⟨hp, st'⟩ := own_putO (o2 := .ins C dx (putF f (.ref d) fs)) ow' st2.swap
    exact ⟨p, C, dx, fs, rfl, hp, cl, na, hl, k d o io ow' ⟨owd.n0, fun q hq => owd.ne q (List.mem_cons_of_mem _ hq)⟩ σ _ st'⟩
/-- the end of an __init__ -/
theorem wp_endI {β : Type} [Rp β] {R : β → Prop} {b : β} (hf : FinI K Δ0 H0 p R D) (hb : R b) (h : ∀ H : Hp, (∀ q ∈ (p, ObIs (.ins C dx fs)) :: Γ, ∃ o, H q.1 = some o ∧ q.2 o) → (∀ q ∈ F, q.2.rp K Δ0 H q.1) → Rp.rp K Δ0 H (.ref p) b) : Wp K Δ0 H0 ((p, ObIs (.ins C dx fs)) :: Γ) F ρ tNext D := fun σ H ⟨Δ, s, hh, e, ff, e0, s1, s2⟩ =>
  hf σ H b hb e0 (h H (fun q hq => hh q.1 q.2 (s q hq)) fun q hq => q.2.r.weak (fun x o _ n => none0 s1 n) (ff q hq))
end
section
variable {K : PySem.W.Frag} {Γ : Own} {ρ : Z.Env} {ta tb te : TE}
/-- o.f of one's own instance, another object that is one's own too -/
theorem ev_fldO {p C dx d : Addr} {fs : List (Str × V)} {f : Str} (cl : Cls K C) (na : NoAttr K C f) (hm : (p, ObIs (.ins C dx fs)) ∈ Γ) (hl : fs.lookup f = some (.ref d)) (h : Ev K Γ te ρ (Is (⟨p⟩ : Loc))) : Ev K Γ (tFld K te f) ρ (Is (⟨d⟩ : Loc)) := fun Δ σ H Q s hh e k =>
  h Δ σ H _ s hh e fun v H1 a pa e1 r => by
    have ea : a = ⟨p⟩ := pa
    subst ea
    have ev : v = .ref p := r
    subst ev
    obtain ⟨u, hu, iu⟩ := e1.2 p _ (s _ hm)
    have iu' : u = HO.ins C dx fs := iu
    subst iu'
    exact ⟨p, C, dx, fs, .ref d, rfl, hu, cl, na, hl, k _ H1 ⟨d⟩ rfl e1 rfl⟩
/-- list(d), the dict one's own -/
theorem ev_listO {d : Addr} {ks : List Tx} (hm : (d, ObIs (.dK (kvT ks))) ∈ Γ) (h : Ev K Γ te ρ (Is (⟨d⟩ : Loc))) : Ev K Γ (tCB rListD (tCons te tNil)) ρ (Is ks) := fun Δ σ H Q s hh e k =>
  h Δ σ H _ s hh e fun v H1 a pa e1 r => by
    have ea : a = ⟨d⟩ := pa
    subst ea
    have ev : v = .ref d := r
    subst ev
    obtain ⟨u, hu, iu⟩ := e1.2 d _ (s _ hm)
    have iu' : u = HO.dK (kvT ks) := iu
    subst iu'
    refine ⟨d, kvT ks, rfl, hu, fun q hq => k _ _ ks rfl (e1.trans (Ext.new e1.2 hq _)) (new_lst e1.2 hq ?_)⟩
    have e2 : (kvT ks).map (fun kv => kV kv.1) = ks.map fun x => V.str (tS x) := by
      unfold kvT
      rw [List.map_map]
      rfl
    rw [e2]
    have em : ks = ks.map id := (List.map_id ks).symm
    conv => rhs; rw [em]
    exact All2.map fun x _ => Rp.mono (K := K) (Δ := Δ) (Keep.refl Δ _) rfl
/-- texts in their order -/
def SortedT (a b : List Tx) : Prop := b.Perm a ∧ b.Pairwise fun x y => ¬ y.s < x.s
theorem o1_sortedT {xs : List Tx} : Op1 K (rSortedT K) xs (SortedT xs) := fun Δ H v Q hh r k => by
  obtain ⟨p, vs, rfl, n, s, q⟩ := r
  have ev := all2_tx q
  subst ev
  refine ⟨p, _, rfl, s, fun ns' l hp hr hl => ?_⟩
  have e1 : ns' = (ns'.map fun z => (⟨z.cps.toList⟩ : Tx)).map fun x => (⟨x.s.toArray⟩ : Str) := by
    rw [List.map_map]
    conv => lhs; rw [← List.map_id ns']
    exact List.map_congr_left fun z _ => by cases z; rfl
  refine k _ _ (ns'.map fun z => (⟨z.cps.toList⟩ : Tx)) ⟨?_, ?_⟩ (Ext.new hh hl _) (new_lst hh hl ?_)
  · have h := hp.map fun z => (⟨z.cps.toList⟩ : Tx)
    rw [List.map_map] at h
    have e2 : (xs.map ((fun z => (⟨z.cps.toList⟩ : Tx)) ∘ fun x => (⟨x.s.toArray⟩ : Str))) = xs := by
      conv => rhs; rw [← List.map_id xs]
      exact List.map_congr_left fun z _ => by cases z; rfl
    rw [e2] at h
    exact h
  · exact List.pairwise_map.mpr hr
  · have e2 : ns'.map V.str = (ns'.map fun z => (⟨z.cps.toList⟩ : Tx)).map fun x => V.str ⟨x.s.toArray⟩ := by
      conv => lhs; rw [e1]
      rw [List.map_map]
      rfl
    rw [e2]
    have em : (ns'.map fun z => (⟨z.cps.toList⟩ : Tx)) = (ns'.map fun z => (⟨z.cps.toList⟩ : Tx)).map id := (List.map_id _).symm
    conv => rhs; rw [em]
    exact All2.map fun x _ => rfl
end
end Z
namespace Z
open PySem PySem.Spec PyProof.Rows L2
/-- o.f where K is a letter (within a comprehension) -/
theorem pe_fldK {X : Cx} {K : PySem.W.Frag} {o : Expr} {f : Str} {pos : Pos} {ta : TE} (he : PE X o ta) (hb : attributeBase o f X.env (eval o X.env) = eval o X.env) (h : X.K = K := by rfl) : PE X (.Attribute o f pos) (tFld K ta f) := by
  subst h
  exact pe_fld he hb
end Z

set_option Elab.async false
set_option linter.all false
set_option maxRecDepth 100000
set_option maxHeartbeats 1000000
/-! own operators of instances: x - y, x | y, x & y; x == y -/
namespace Zo
open PySem PyProof.Rows PySem.W
section
variable {prog : Program} {w : World} {K : Frag} {A : Around} {E : Value → Shared → Prop} {s : Shared} {x y C D f : Addr} {ox oy : Obj} {od oe : Option Obj} {nm : String}
/-- the first of the class's own line is the class -/
def lineOk (K : Frag) (C : Addr) : Bool := (clsIn K C).any fun cd => cd.mro.head? == some (.ref C)
theorem fills_own (X : K.In s.heap) (hl : lineOk K C = true) (hs : findIn K (.ref C) (dunder nm) = some (some (.ref f))) {Q : Bool → Shared → Prop} (h : Q true s) : wpAny (model prog w) A (fillsNumberSlot (.ref C) nm) Q E s := by
  unfold lineOk at hl
  cases hc : clsIn K C with
  | none => rw [hc] at hl; cases hl
  | some cd =>
    rw [hc] at hl
    have hm : cd.mro.head? = some (.ref C) := by simpa using hl
    cases hr : cd.mro with
    | nil => rw [hr] at hm; cases hm
    | cons z rest =>
      rw [hr] at hm
      have ez : z = .ref C := Option.some.inj hm
      subst ez
      unfold fillsNumberSlot
      refine wpAny_bind (m := mroOf _) (wpAny_bind ((looks_clsIn X hc).here (wpAny_pure ?_)))
      rw [hr]
      simp only [List.anyM]
      refine wpAny_bind (wpAny_bind ?_)
      refine wpAny_bind ((looks_findIn X hs).here ?_)
      exact wpAny_pure (wpAny_pure (wpAny_pure h))
/-- x op y of two instances of one class that has a def for op -/
theorem own_binop {op : Operator} {Q : Value → Shared → Prop} (X : K.In s.heap) (I : InstAt s.heap x ox C od) (J : InstAt s.heap y oy C oe) (hl : lineOk K C = true) (hs : findIn K (.ref C) (dunder op.info.2) = some (some (.ref f))) (hf : isFn K (.ref f) = true)
    (h : wpAny (model prog w) A (call (.ref f) [.ref x, .ref y]) (PySem.W.CmpBack Q) E s) : wpAny (model prog w) A (binaryOp op (.ref x) (.ref y)) Q E s := by
  rcases hi : op.info with ⟨sym, nm⟩
  rw [hi] at hs
  have one : wpAny (model prog w) A (tryMethod (.ref x) (dunder nm) (.ref y)) (fun r s' => ∃ v, r = some v ∧ Q v s') E s := by
    unfold tryMethod
    refine wpAny_bind (special_fn X I hs (beq_iff_eq.mp hf) (wpAny_mono h (fun v s' hv => ?_) fun _ _ e => e))
    cases v <;> first | exact hv.elim | exact wpAny_pure ⟨_, rfl, hv⟩
  simp only [binaryOp, hi]
  refine wpAny_holding (wpAny_bind ?_)
  simp only [binaryOp1]
  refine wpAny_bind (I.type.here (wpAny_bind (J.type.here (wpAny_bind (fills_own X hl hs ?_)))))
  simp only [beq_self_eq_true, if_true, pure_bind, Bool.and_false, Bool.false_and, Bool.false_eq_true, if_false]
  refine wpAny_bind (wpAny_mono one (fun r s' hr => ?_) fun _ _ e => e)
  obtain ⟨v, rfl, hq⟩ := hr
  exact wpAny_pure (wpAny_pure hq)
/-- x != y where the class has an == of its own and no != -/
theorem own_ne {Q : Value → Shared → Prop} (X : K.In s.heap) (I : InstAt s.heap x ox C od) (J : InstAt s.heap y oy C oe) (hu : A.units + 1 < cLine) (hne : findIn K (.ref C) "__ne__" = some (some (.builtin "object.__ne__"))) (he : findIn K (.ref C) "__eq__" = some (some (.ref f))) (hf : isFn K (.ref f) = true) (hm : mroIn K C (.type "object") = some true)
    (h : wpAny (model prog w) A.in1 (call (.ref f) [.ref x, .ref y]) (fun v s' => ∃ b, v = .bool b ∧ Q (.bool (!b)) s') E s) : wpAny (model prog w) A (richCompare .NotEq (.ref x) (.ref y)) Q E s := by
  have sub : Looks (model prog w) s.heap (isInstance (.ref x) (.type "object")) true := I.type.andThen (looks_mroIn X hm)
  have one : wpAny (model prog w) A (tryCompare (.ref x) "__ne__" (.ref y)) (fun r s' => ∃ v, r = some v ∧ Q v s') E s := by
    unfold tryCompare
    have cal : wpAny (model prog w) A (call (.builtin "object.__ne__") [.ref x, .ref y]) (fun v s' => ∃ b, v = .bool b ∧ Q (.bool b) s') E s := by
      refine wpAny_call (codeAny_call_builtin F.cmp_object.ne.plain F.cmpEntry_ne (check_slot F.cmpKind_ne F.cmpSplit_ne sub (F.cmpArgs_ne _ _) ?_))
      show wpAny _ _ (Builtin.«object.__ne__» ⟨[.ref x, .ref y], []⟩) _ _ _
      unfold Builtin.«object.__ne__»
      repeat (first
        | with_reducible refine wpAny_cRoomFor (A := A.in1) (by have := hu; simp only [Around.in1] at *; omega) ?_
        | (refine wpAny_bind (m := callSpecialIfBound? (.ref x) (Str.ofString "__eq__") [.ref y]) (ifBound_K X I he hf (wpAny_mono h (fun r s' hr => ?_) fun _ _ e => e)); obtain ⟨b, rfl, hq⟩ := hr)
        | wp_step)
      all_goals exact ⟨_, rfl, hq⟩
    refine wpAny_bind (m := callSpecialIfBound? (.ref x) (Str.ofString "__ne__") [.ref y]) ?_
    simp only [callSpecialIfBound?, bindSpecialIfBound?]
    refine wpAny_holding (wpAny_bind (wpAny_bind (wpAny_bind (I.type.here ((looks_findIn X hne).here ?_)))))
    refine wpAny_bind (wpAny_askSetting (wpAny_ite ?_))
    have fin : wpAny (model prog w) A (call (.builtin "object.__ne__") ([.ref x] ++ [.ref y]) >>= fun v => pure (some v)) (fun a s' => wpAny (model prog w) A (match a with
      | some .notImplemented | none => pure none
      | some v => pure (some v)) (fun r s' => ∃ v, r = some v ∧ Q v s') E s') E s := wpAny_bind (wpAny_mono cal (fun v s' hv => by obtain ⟨b, rfl, hq⟩ := hv; exact wpAny_pure (wpAny_pure ⟨_, rfl, hq⟩)) fun _ _ e => e)
    split
    · exact wpAny_bind (wpAny_of_eq (F.cmp_object.ne.bind _) (wpAny_pure fin))
    · exact wpAny_tryCatch (wpAny_bind (wpAny_of_eq (F.cmp_object.ne.bind _) (wpAny_pure fin)))
  unfold richCompare
  simp only [oneThing_ref]
  refine wpAny_holding (wpAny_bind (wpAny_cRoomFor (by omega) ?_))
  refine wpAny_bind (I.type.here (wpAny_bind (J.type.here ?_)))
  rw [show (Value.ref C != Value.ref C) = false from by simp]
  simp only [Bool.false_eq_true, if_false]
  refine wpAny_bind (wpAny_pure ?_)
  simp only [Bool.false_eq_true, if_false]
  refine wpAny_bind (wpAny_mono one (fun r s' hr => ?_) fun _ _ e => e)
  obtain ⟨v, rfl, hq⟩ := hr
  exact wpAny_pure hq
end
end Zo
namespace L2
open PySem PySem.Spec PyProof.Rows
/-- x op y, two instances of the class at C whose def for op promises sp -/
def rOwnI (C : Addr) (sp : Sp) (E : XK) : R2 := fun x y H Q => ∃ a dx fs b dy gs, x = .ref a ∧ y = .ref b ∧ H a = some (.ins C dx fs) ∧ H b = some (.ins C dy gs) ∧ sp [x, y] H Q E
section
variable {X : Cx} {CX : CXT} {k : Nat} {C g : Addr} {fd : FuncData} {ps : List Str} {sp : Sp} {E : XK}
theorem op_binI {op : Operator} (hl : Zo.lineOk X.K C = true) (hs : PySem.W.findIn X.K (.ref C) (dunder op.info.2) = some (some (.ref g))) (hf : PySem.W.isFn X.K (.ref g) = true) (F : FnOk X.prog X.w X.K X.mg X.base CX k g fd ps sp)
    (hr : Room k X.A) (hb : Binds X.K fd ps []) (hx : Passes CX X E) : OpR X (binaryOp op) (rOwnI C sp E) := by
  intro pins s σ H x y v u Q I rx ry h
  obtain ⟨a, dx, fs, b, dy, gs, rfl, rfl, ha, hb', q⟩ := h
  obtain rfl : v = Value.ref a := rx
  obtain rfl : u = Value.ref b := ry
  obtain ⟨_, J1, _⟩ := ins_get I.hok ha
  obtain ⟨_, J2, _⟩ := ins_get I.hok hb'
  obtain ⟨_, J1, _⟩ := J1.look
  obtain ⟨_, J2, _⟩ := J2.look
  refine Zo.own_binop I.kIn J1 J2 hl hs hf (wpAny_mono (run_fn (us := [.ref a, .ref b]) (vs := [.ref a, .ref b]) F hr hb .nil hx I (.cons rfl (.cons rfl .nil)) q) (fun w s' z => ?_) fun _ _ z => z)
  obtain ⟨z', H', I', rz, qz⟩ := z
  exact SlX.cmpback rz ⟨z', H', I', rz, qz⟩
theorem op_eqI (hs : PySem.W.findIn X.K (.ref C) "__eq__" = some (some (.ref g))) (hf : PySem.W.isFn X.K (.ref g) = true) (F : FnOk X.prog X.w X.K X.mg X.base CX k g fd ps sp)
    (hr : Room k X.A) (hb : Binds X.K fd ps []) (hx : Passes CX X E) : OpR X (compareOp .Eq) (rOwnI C sp E) := by
  intro pins s σ H x y v u Q I rx ry h
  obtain ⟨a, dx, fs, b, dy, gs, rfl, rfl, ha, hb', q⟩ := h
  obtain rfl : v = Value.ref a := rx
  obtain rfl : u = Value.ref b := ry
  obtain ⟨_, J1, _⟩ := ins_get I.hok ha
  obtain ⟨_, J2, _⟩ := ins_get I.hok hb'
  obtain ⟨_, J1, _⟩ := J1.look
  obtain ⟨_, J2, _⟩ := J2.look
  obtain ⟨m, hF⟩ := I.fr
  refine PySem.W.cmp_K (op := .Eq) (tb := .ref C) hr.units0 hF I.ok.mod.kin J1 J2.type (by simp [PySem.W.notFirst]) hs hf (wpAny_mono (run_fn (us := [.ref a, .ref b]) (vs := [.ref a, .ref b]) F hr hb .nil hx I (.cons rfl (.cons rfl .nil)) q) (fun w s' z => ?_) fun _ _ z => z)
  obtain ⟨z', H', I', rz, qz⟩ := z
  exact SlX.cmpback rz ⟨z', H', I', rz, qz⟩
/-- x != y -/
def rOwnNe (C : Addr) (sp : Sp) (E : XK) : R2 := fun x y H Q => ∃ a dx fs b dy gs, x = .ref a ∧ y = .ref b ∧ H a = some (.ins C dx fs) ∧ H b = some (.ins C dy gs) ∧ sp [x, y] H (fun z H' => ∃ r, z = .bl r ∧ Q (.bl (!r)) H') E
theorem op_neI (hne : PySem.W.findIn X.K (.ref C) "__ne__" = some (some (.builtin "object.__ne__"))) (hs : PySem.W.findIn X.K (.ref C) "__eq__" = some (some (.ref g))) (hf : PySem.W.isFn X.K (.ref g) = true) (hm : PySem.W.mroIn X.K C (.type "object") = some true)
    (F : FnOk X.prog X.w X.K X.mg X.base CX k g fd ps sp) (hr : Room (k + 1) X.A) (hb : Binds X.K fd ps []) (hx : Passes CX X E) : OpR X (compareOp .NotEq) (rOwnNe C sp E) := by
  intro pins s σ H x y v u Q I rx ry h
  obtain ⟨a, dx, fs, b, dy, gs, rfl, rfl, ha, hb', q⟩ := h
  obtain rfl : v = Value.ref a := rx
  obtain rfl : u = Value.ref b := ry
  obtain ⟨_, J1, _⟩ := ins_get I.hok ha
  obtain ⟨_, J2, _⟩ := ins_get I.hok hb'
  obtain ⟨_, J1, _⟩ := J1.look
  obtain ⟨_, J2, _⟩ := J2.look
  have hl := F.len _ _ _ _ q
  have r2 : Vals [V.ref a, V.ref b] [Value.ref a, Value.ref b] := .cons rfl (.cons rfl .nil)
  refine Zo.own_ne I.kIn J1 J2 ?hu hne hs hf hm (wpAny_call (codeAny_mono (F.run X.A.in1 X.stack s H ⟨[.ref a, .ref b], []⟩ [.ref a, .ref b] [.ref a, .ref b] _ E hr.in1 I.env0.in1 (by
    have := hb s [.ref a, .ref b] I.kIn (by simpa using hl)
    simpa using this) r2 q) fun r s' hq => ?_))
  case hu =>
    have h1 := hr.un
    omega
  cases r with
  | error e => exact hx pins σ H s e s' I hq
  | ok fl =>
    cases fl with
    | ret w =>
      obtain ⟨z, H', I', rz, r, rfl, qz⟩ := I.after hq
      obtain rfl : w = Value.bool r := rz
      exact ⟨r, rfl, .bl (!r), H', I', rfl, qz⟩
    | next => exact False.elim hq
    | brk => exact False.elim hq
    | cont => exact False.elim hq
/-- len(x) -/
def rLenI (C : Addr) (sp : Sp) (E : XK) : List V → Hp → VK → Prop := fun xs H Q => ∃ a dx fs, xs = [.ref a] ∧ H a = some (.ins C dx fs) ∧ sp [.ref a] H (fun z H' => ∃ n : Nat, n ≤ 100000000 ∧ z = .int n ∧ Q (.int n) H') E
theorem call_lenI (hs : PySem.W.findIn X.K (.ref C) "__len__" = some (some (.ref g))) (hf : PySem.W.isFn X.K (.ref g) = true) (F : FnOk X.prog X.w X.K X.mg X.base CX k g fd ps sp) (hr : Room (k + 1) X.A) (hb : Binds X.K fd ps []) (hx : Passes CX X E) : CallR X (.builtin "len") (rLenI C sp E) := by
  intro pins s σ H xs us Q I r h
  obtain ⟨a, dx, fs, rfl, ha, q⟩ := h
  rw [Vals.ref1 r]
  obtain ⟨_, J1, _⟩ := ins_get I.hok ha
  obtain ⟨_, J1, _⟩ := J1.look
  obtain ⟨m, hF⟩ := I.fr
  have hl := F.len _ _ _ _ q
  refine PySem.W.len_K hF I.ok.mod.kin J1 hs hf (wpAny_call (codeAny_mono (F.run X.A.in1 X.stack s H ⟨[.ref a], []⟩ [.ref a] [.ref a] _ E hr.in1 I.env0.in1 (by
    have := hb s [.ref a] I.kIn (by simpa using hl)
    simpa using this) (.cons rfl .nil) q) fun r s' hq => ?_))
  cases r with
  | error e => exact hx pins σ H s e s' I hq
  | ok fl =>
    cases fl with
    | ret w =>
      obtain ⟨z, H', I', rz, n, hn, rfl, qz⟩ := I.after hq
      obtain ⟨t, rfl⟩ := (show ∃ t, w = Value.int n t from rz)
      refine ⟨⟨by omega, by omega⟩, ?_⟩
      exact ⟨.int n, H', I'.kept (t' := s'.toks + 1) (fun _ _ e => e), ⟨_, rfl⟩, qz⟩
    | next => exact False.elim hq
    | brk => exact False.elim hq
    | cont => exact False.elim hq
end
end L2

set_option Elab.async false
set_option linter.all false
set_option maxRecDepth 100000
set_option maxHeartbeats 1000000
/-! a default that is the empty tuple -/
namespace Zh
open PySem PySem.Spec PyProof.Rows L2
def emptyT (K : PySem.W.Frag) (a : Addr) : Bool := match K.lookup a with
  | some o => (match o.data with
    | .seq its _ => decide (o.cls = .type "tuple") && its.isEmpty
    | _ => false)
  | none => false
theorem emptyT_kt {K : PySem.W.Frag} {a : Addr} (h : emptyT K a = true) : Z.KT K a [] := by
  unfold emptyT at h
  split at h
  · next o ho =>
    split at h
    · next its n hd =>
      rw [Bool.and_eq_true] at h
      have e : its = #[] := by simpa using h.2
      subst e
      exact ⟨o, #[], n, ho, of_decide_eq_true h.1, hd, Nat.zero_le _, .nil⟩
    · cases h
  · cases h
end Zh

set_option Elab.async false
set_option linter.all false
set_option maxRecDepth 100000
set_option maxHeartbeats 1000000
/-! f'{n:b}', and a def of one number that counts its bits, as the key of a sort -/
namespace Zk
open PySem PySem.Spec PyProof.Rows PySem.Builtin
/-- the signs of a number's bits -/
def bitL (n : Nat) : List Nat := (Nat.toDigits 2 n).map Char.toNat
theorem plainF {d : List Nat} (h : d ≠ []) : intField' { align := 62, type := some 98 } false [] d [] 4 = ⟨d.toArray⟩ := by
  cases d with
  | nil => exact absurd rfl h
  | cons c l =>
    have e1 : (0 : Nat) - (l.length + 1) = 0 := by omega
    have e2 : (-1 - 0 - ((l.length + 1 : Nat) : Int)).toNat = 0 := by omega
    have e3 : (-1 - ((l.length : Int) + 1)).toNat = 0 := by omega
    simp [intField', e1, e2, e3]
theorem gives_bits (n : Nat) (t u : Tok) : Gives (Builtin.«int.__format__» ⟨[.int (n : Int) t, .str "b" u], []⟩) (.str ⟨(bitL n).toArray⟩) := by
  have h0 : decide ((n : Int) < 0) = false := by simp
  have hd : (Nat.toDigits 2 n).map Char.toNat ≠ [] := by
    have := tDigits_len_ge 2 n
    intro z
    have z2 := congrArg List.length z
    rw [List.length_map, List.length_nil] at z2
    omega
  intro prog w A R s hq
  unfold Builtin.«int.__format__»
  simp only [selfAndOne, noKeywords, Int.intOfSelf, asInt?, asStr?, List.isEmpty_nil, if_true, pure_bind, bind_assoc, show (Value.str (Str.ofString "b") u == Value.none) = false from rfl, Bool.false_eq_true, if_false]
  refine wpAny_bind (wpAny_typeNameOf (T := "str") (typeIs_str s _ u) (by decide) fun _ => ?_)
  rw [if_neg (by decide), if_neg (by decide)]
  refine wpAny_bind (wpAny_typeNameOfCut_int ?_)
  rw [show Float.parseFormatSpec (Str.ofString "b").cps.toList "int" 62 = Except.ok { align := 62, type := some 98 } from by rfl]
  dsimp only
  show wpAny _ _ (if _ then _ else _) _ _ _
  rw [if_pos (by decide)]
  show wpAny _ _ (retStr (intField' { align := 62, type := some 98 } (decide ((n : Int) < 0)) [] ((Nat.toDigits 2 n).map Char.toNat) [] 4)) _ _ _
  rw [h0, plainF hd]
  exact Gives.tree (.str ⟨(bitL n).toArray⟩) prog w A R s hq
/-- how many bits, as the text tells it -/
def onesI (n : Nat) : Int := Txt.count ⟨(bitL n).toArray⟩ "1"
/-- return f'{x:b}'.count('1') -/
abbrev bitBody (x : Str) (p1 p2 p3 p4 p5 p6 p7 p8 p9 : Pos) (k1 k2 : Nat) : List Stmt :=
  [.Return (some (.Call (.Attribute (.JoinedStr [.FormattedValue (.Name x p1) (-1) (some (.JoinedStr [.Constant (.str "b") k1 p2] p3)) p4] p5) "count" p6) [.Constant (.str "1") k2 p7] [] p8)) p9]
open L2 in
theorem bits_call {P : Program} {w : World} {K : PySem.W.Frag} {A : Around} {s : Shared} {f : Addr} {fd : FuncData} {pa : Arguments} {sc : Scope} {n : Nat} {t : Tok} {x nm : Str} {p1 p2 p3 p4 p5 p6 p7 p8 p9 : Pos} {k1 k2 : Nat}
    (Fd : FunD K nm nm pa (bitBody x p1 p2 p3 p4 p5 p6 p7 p8 p9 k1 k2) sc [] [] f fd) (hk : sc.kind = .function) (hco : sc.isCoroutine = false) (hgen : sc.isGenerator = false) (hx : sc.names.lookup x = some .local) (hline : (p6.endLine == p8.line) = true) (hdb : (x == ("__debug__" : Str)) = false)
    (hb : BindsTo s fd ⟨[.int (n : Int) t], []⟩ [(x, .int (n : Int) t)]) (hK : K.In s.heap) (hlim : s.heap.NoLimit) (hroom : A.depth < recursionLimit) (hz : (bitL n).length ≤ sizeLine) :
    wpAny (model P w) A (call (.ref f) [.int (n : Int) t]) (PySem.W.KeyPure (.int (onesI n)) s) (fun _ _ => False) s := by
  obtain ⟨oc, od, dV, kV, doc, pm, an, cdv, ct, osl, rfl, lk, hcd, _, _⟩ := Fd.ex
  refine wpAny_call ?_
  refine codeAny_call_function hroom (hK _ _ lk) rfl hco hgen rfl (PySem.W.codeRec_of hK hcd) (hb _ _ _ _ ?_)
  refine wpAny_newFunctionEnv_cells hk (fun y hy => .inl ?_) fun env he s1 xx => ?_
  · rw [List.mem_singleton.mp hy]; exact hx
  have hk2 : env.scope.kind = .function := by rw [he]; exact hk
  have hx2 : env.kindOf x = some .local := by rw [he]; exact hx
  clear he
  refine ⟨hlim.keeps xx.toInCall.keep, codeAny_func ?_⟩
  have hm : bindL env.kindOf [(x, Value.int (n : Int) t)] (fun _ => none) x = some (.int (n : Int) t) := by
    unfold bindL bindL
    rw [if_pos hx2, if_pos rfl]
  refine wpAny_execs_cons (wpAny_Return_some ?_)
  refine wpAny_Call_method_late rfl rfl hline rfl ?_
  refine wpAny_JoinedStr_one (wpAny_FormattedValue_spec ?_)
  refine wpAny_Name (wpAny_loadName_local hk2 hx2 xx.toInCall.ns hm ?_) hdb
  refine wpAny_JoinedStr_one (Calls.Constant_str ⟨_, _, rfl, ?_⟩)
  refine wpAny_formatField_spec (T := "int") (idf := "int.__format__") (sp := "b") (x := ⟨(bitL n).toArray⟩) rfl (fun s' => typeIs_int s' _ _) F.slot_int_format F.entry_int_format (fun a b => F.args_int_format_2 _ _) (fun u => gives_bits n t u) ?_ (by decide) hz
  refine ⟨"str", "str.count", F.plainAttrs_str, F.slot_str_count, F.type_str_count, typeIs_str _ _ _, (fun a e => by cases e), ?_⟩
  refine Calls.callWith_builtin rfl (Calls.evalArgs_plain (Calls.spliced_cons (Calls.Constant_str (k := k2) (pos := p7) (Calls.spliced_nil (SC.count ?_)))))
  obtain ⟨h', tk, rfl, kp⟩ := xx.done
  exact ⟨h', _, rfl, kp, .int _ _⟩
end Zk

set_option Elab.async false
set_option linter.all false
set_option maxRecDepth 100000
set_option maxHeartbeats 1000000
/-! v in x, x an instance with an own __contains__ -/
namespace Zo
open PySem PyProof.Rows PySem.W
section
variable {prog : Program} {w : World} {K : Frag} {A : Around} {E : Value → Shared → Prop} {s : Shared} {x C f : Addr} {ox : Obj} {od : Option Obj}
theorem own_in {Q : Bool → Shared → Prop} {v : Value} (X : K.In s.heap) (I : InstAt s.heap x ox C od) (hs : findIn K (.ref C) "__contains__" = some (some (.ref f))) (hf : isFn K (.ref f) = true)
    (h : wpAny (model prog w) A (call (.ref f) [.ref x, v]) (fun r s' => ∃ b, r = .bool b ∧ Q b s') E s) : wpAny (model prog w) A (contains (.ref x) v) Q E s := by
  unfold contains
  refine wpAny_holding ?_
  have e0 : stdlibNamesSay? (.ref x) v = none := by
    cases v <;> rfl
  simp only [e0]
  have sp : ∀ {α : Type} {k : Option Value → Sem α} {Q' : α → Shared → Prop}, wpAny (model prog w) A (k (some (.ref f))) Q' E s → wpAny (model prog w) A (specialOf (.ref x) "__contains__" >>= k) Q' E s := fun q => wpAny_bind (wpAny_bind (I.type.here ((looks_findIn X hs).here q)))
  refine sp ?_
  have e1 : ((some (Value.ref f) : Option Value) == some Value.none) = false := by rfl
  rw [e1]
  simp only [Bool.false_eq_true, if_false]
  unfold callSpecialUnlessNone?
  refine wpAny_bind (sp ?_)
  refine wpAny_holding (wpAny_bind ((bind_fn X _ (beq_iff_eq.mp hf)).here ?_))
  have e2 : (Value.ref f == Value.none) = false := by rfl
  simp only [e2, Bool.false_eq_true, if_false]
  refine wpAny_bind (wpAny_mono h (fun r s' hr => ?_) fun _ _ e => e)
  obtain ⟨b, rfl, hq⟩ := hr
  exact wpAny_pure (wpAny_truthy_bool hq)
end
end Zo

namespace L2
open PySem PySem.Spec PyProof.Rows
/-- v in x -/
def rOwnIn (C : Addr) (neg : Bool) (sp : Sp) (E : XK) : R2 := fun x y H Q => ∃ a dx fs, y = .ref a ∧ H a = some (.ins C dx fs) ∧ sp [y, x] H (fun z H' => ∃ r, z = .bl r ∧ Q (.bl (if neg then !r else r)) H') E
section
variable {X : Cx} {CX : CXT} {k : Nat} {C g : Addr} {fd : FuncData} {ps : List Str} {sp : Sp} {E : XK}
theorem run_in {pins : List (Addr × Obj)} {σ : St} {H : Hp} {s : Shared} {a dx : Addr} {fs : List (Str × V)} {x : V} {v : Value} {Q : V → Hp → Prop} {neg : Bool} {E1 : Value → Shared → Prop} (hE : E1 = X.xe)
    (hs : PySem.W.findIn X.K (.ref C) "__contains__" = some (some (.ref g))) (hf : PySem.W.isFn X.K (.ref g) = true) (F : FnOk X.prog X.w X.K X.mg X.base CX k g fd ps sp) (hr : Room k X.A) (hb : Binds X.K fd ps []) (hx : Passes CX X E)
    (I : Inv X pins σ H s) (rx : RelV x v) (ha : H a = some (.ins C dx fs)) (q : sp [.ref a, x] H (fun z H' => ∃ r, z = .bl r ∧ Q (.bl (if neg then !r else r)) H') E) :
    wpAny (model X.prog X.w) X.A (contains (.ref a) v) (fun b s' => EP X pins σ Q (.bool (if neg then !b else b)) s') E1 s := by
  subst hE
  obtain ⟨_, J1, _⟩ := ins_get I.hok ha
  obtain ⟨_, J1, _⟩ := J1.look
  refine Zo.own_in I.kIn J1 hs hf (wpAny_mono (run_fn (us := [.ref a, v]) (vs := [.ref a, x]) F hr hb .nil hx I (.cons rfl (.cons rx .nil)) q) (fun w s' z => ?_) fun _ _ z => z)
  obtain ⟨z', H', I', rz, r, rfl, qz⟩ := z
  obtain rfl : w = Value.bool r := rz
  exact ⟨r, rfl, .bl (if neg then !r else r), H', I', rfl, qz⟩
theorem op_inI (hs : PySem.W.findIn X.K (.ref C) "__contains__" = some (some (.ref g))) (hf : PySem.W.isFn X.K (.ref g) = true) (F : FnOk X.prog X.w X.K X.mg X.base CX k g fd ps sp)
    (hr : Room k X.A) (hb : Binds X.K fd ps []) (hx : Passes CX X E) : OpR X (compareOp .In) (rOwnIn C false sp E) := by
  intro pins s σ H x y v u Q I rx ry h
  obtain ⟨a, dx, fs, rfl, ha, q⟩ := h
  obtain rfl : u = Value.ref a := ry
  show wpAny (model X.prog X.w) X.A (contains (Value.ref a) v >>= fun b => (pure (Value.bool b) : Sem Value)) _ _ s
  exact wpAny_bind (wpAny_mono (run_in (neg := false) rfl hs hf F hr hb hx I rx ha q) (fun b s' z => wpAny_pure z) fun _ _ z => z)
theorem op_notInI (hs : PySem.W.findIn X.K (.ref C) "__contains__" = some (some (.ref g))) (hf : PySem.W.isFn X.K (.ref g) = true) (F : FnOk X.prog X.w X.K X.mg X.base CX k g fd ps sp)
    (hr : Room k X.A) (hb : Binds X.K fd ps []) (hx : Passes CX X E) : OpR X (compareOp .NotIn) (rOwnIn C true sp E) := by
  intro pins s σ H x y v u Q I rx ry h
  obtain ⟨a, dx, fs, rfl, ha, q⟩ := h
  obtain rfl : u = Value.ref a := ry
  show wpAny (model X.prog X.w) X.A (contains (Value.ref a) v >>= fun b => (pure (Value.bool (!b)) : Sem Value)) _ _ s
  exact wpAny_bind (wpAny_mono (run_in (neg := true) rfl hs hf F hr hb hx I rx ha q) (fun b s' z => wpAny_pure z) fun _ _ z => z)
end
end L2

set_option Elab.async false
set_option linter.all false
set_option maxRecDepth 100000
set_option maxHeartbeats 1000000
/-! own operators, on data -/
namespace Z
open PySem PySem.Spec PyProof.Rows L2
/-- a datum that is an instance of the class at C -/
def IsIns (K : PySem.W.Frag) (C : Addr) (β : Type) [Rp β] : Prop := ∀ (Δ : Gh) (H : Hp) (v : V) (b : β), Rp.rp K Δ H v b → ∃ a dx fs, v = .ref a ∧ H a = some (.ins C dx fs)
section
variable {K : PySem.W.Frag} {Γ : Own} {ρ : Z.Env} {ta tb te : TE} {α β γ : Type} [Rp α] [Rp β] [Rp γ] {C : Addr} {E : XK} {Pb : γ → Prop}
/-- a op b -/
theorem ev_binI {F : Own → List Cell → (γ → Prop) → Prop} {a b : β} (hI : IsIns K C β) (ha : Ev K Γ ta ρ (Is a)) (hb : Ev K Γ tb ρ (Is b)) (hF : F Γ [⟨a⟩, ⟨b⟩] Pb) : Ev K Γ (tOp (rOwnI C (spD K F) E) ta tb) ρ Pb := fun Δ σ H Q s hh e k =>
  ha Δ σ H _ s hh e fun v H1 a' pa e1 r1 => hb Δ σ H1 _ s e1.2 (e.mono e1.1) fun u H2 b' pb e2 r2 => by
    have ea : a' = a := pa
    have eb : b' = b := pb
    subst ea eb
    have r1' := Rp.mono e2.1 r1
    obtain ⟨p, dx, fs, rfl, hp⟩ := hI Δ H2 v _ r1'
    obtain ⟨q, dy, gs, rfl, hq⟩ := hI Δ H2 u _ r2
    exact ⟨p, dx, fs, q, dy, gs, rfl, rfl, hp, hq, Γ, Δ, [⟨a'⟩, ⟨b'⟩], Pb, hF, s, e2.2, ⟨r1', r2, trivial⟩, fun z H' c pc e3 r3 => k z H' c pc (e1.trans (e2.trans e3)) r3⟩
/-- a != b -/
theorem ev_neI {F : Own → List Cell → (Bool → Prop) → Prop} {a b : β} {r : Bool} (hI : IsIns K C β) (ha : Ev K Γ ta ρ (Is a)) (hb : Ev K Γ tb ρ (Is b)) (hF : F Γ [⟨a⟩, ⟨b⟩] (Is r)) : Ev K Γ (tOp (rOwnNe C (spD K F) E) ta tb) ρ (Is (!r)) := fun Δ σ H Q s hh e k =>
  ha Δ σ H _ s hh e fun v H1 a' pa e1 r1 => hb Δ σ H1 _ s e1.2 (e.mono e1.1) fun u H2 b' pb e2 r2 => by
    have ea : a' = a := pa
    have eb : b' = b := pb
    subst ea eb
    have r1' := Rp.mono e2.1 r1
    obtain ⟨p, dx, fs, rfl, hp⟩ := hI Δ H2 v _ r1'
    obtain ⟨q, dy, gs, rfl, hq⟩ := hI Δ H2 u _ r2
    exact ⟨p, dx, fs, q, dy, gs, rfl, rfl, hp, hq, Γ, Δ, [⟨a'⟩, ⟨b'⟩], Is r, hF, s, e2.2, ⟨r1', r2, trivial⟩, fun z H' c pc e3 r3 => ⟨c, r3, k _ H' (!c) (by rw [show c = r from pc]; rfl) (e1.trans (e2.trans e3)) rfl⟩⟩
/-- x in b, x not in b -/
theorem ev_inI {F : Own → List Cell → (Bool → Prop) → Prop} {x : α} {b : β} {r neg : Bool} (hI : IsIns K C β) (ha : Ev K Γ ta ρ (Is x)) (hb : Ev K Γ tb ρ (Is b)) (hF : F Γ [⟨b⟩, ⟨x⟩] (Is r)) : Ev K Γ (tOp (rOwnIn C neg (spD K F) E) ta tb) ρ (Is (if neg then !r else r)) := fun Δ σ H Q s hh e k =>
  ha Δ σ H _ s hh e fun v H1 a' pa e1 r1 => hb Δ σ H1 _ s e1.2 (e.mono e1.1) fun u H2 b' pb e2 r2 => by
    have ea : a' = x := pa
    have eb : b' = b := pb
    subst ea eb
    have r1' := Rp.mono e2.1 r1
    obtain ⟨q, dy, gs, rfl, hq⟩ := hI Δ H2 u _ r2
    exact ⟨q, dy, gs, rfl, hq, Γ, Δ, [⟨b'⟩, ⟨a'⟩], Is r, hF, s, e2.2, ⟨r2, r1', trivial⟩, fun z H' c pc e3 r3 => ⟨c, r3, k _ H' _ (by rw [show c = r from pc]; rfl) (e1.trans (e2.trans e3)) rfl⟩⟩
/-- len(b) -/
theorem ev_lenI {F : Own → List Cell → (Int → Prop) → Prop} {b : β} {n : Nat} (hI : IsIns K C β) (hb : Ev K Γ te ρ (Is b)) (hn : n ≤ 100000000) (hF : F Γ [⟨b⟩] (Is (n : Int))) : Ev K Γ (tCB (rLenI C (spD K F) E) (tCons te tNil)) ρ (Is (n : Int)) := fun Δ σ H Q s hh e k =>
  hb Δ σ H _ s hh e fun u H1 b' pb e1 r1 => by
    have eb : b' = b := pb
    subst eb
    obtain ⟨q, dy, gs, rfl, hq⟩ := hI Δ H1 u _ r1
    exact ⟨q, dy, gs, rfl, hq, Γ, Δ, [⟨b'⟩], Is (n : Int), hF, s, e1.2, ⟨r1, trivial⟩, fun z H' c pc e3 r3 => ⟨n, hn, by rw [show z = .int c from r3, show c = (n : Int) from pc], k _ H' (n : Int) rfl (e1.trans e3) rfl⟩⟩
end
end Z

set_option Elab.async false
set_option linter.all false
set_option maxRecDepth 100000
set_option maxHeartbeats 1000000
/-! == and != of lists and tuples of texts -/
namespace Z
open PySem PySem.Spec PyProof.Rows L2
theorem beq_tS (x y : Tx) : (tS x == tS y) = decide (x = y) := by
  by_cases h : x = y
  · subst h
    simp
  · rw [decide_eq_false h]
    exact beq_eq_false_iff_ne.mpr fun z => h (tS_inj.mp z)
theorem eqv_txs : ∀ xs ys : List Tx, PyData.eqvAll (xs.map Dt.d) (ys.map Dt.d) = decide (xs = ys)
  | [], [] => by simp [PyData.eqvAll]
  | [], y :: ys => by simp [PyData.eqvAll]
  | x :: xs, [] => by simp [PyData.eqvAll]
  | x :: xs, y :: ys => by
    have more := eqv_txs xs ys
    rw [List.map_cons, List.map_cons, PyData.eqvAll, more]
    show ((tS x == tS y) && _) = _
    rw [beq_tS]
    by_cases h : x = y <;> simp [h]
/-- texts that may be written -/
def TOk (xs : List Tx) : Prop := ∀ x ∈ xs, PyData.canLay0 (Dt.d x) = true
theorem lay_txs : ∀ {xs : List Tx}, TOk xs → PyData.canLayAll0 (xs.map Dt.d) = true ∧ PyData.depthAll (xs.map Dt.d) = 0
  | [], _ => by simp [PyData.canLayAll0, PyData.depthAll]
  | x :: xs, h => by
    have more := lay_txs (xs := xs) fun y hy => h y (List.mem_cons_of_mem _ hy)
    rw [List.map_cons, PyData.canLayAll0, PyData.depthAll, more.1, more.2]
    have h1 : PyData.canLay0 (Dt.d x) = true := h x List.mem_cons_self
    rw [h1]
    exact ⟨rfl, rfl⟩
theorem shaped_tS {xs : Tup Tx} (h : TOk xs.l) : SeqAt.shaped (Dt.d xs) = true := by
  unfold SeqAt.shaped
  show (PyData.canLay0 (.tuple _) && decide (PyData.depth (.tuple _) ≤ 64)) = true
  rw [PyData.canLay0, PyData.depth, (lay_txs h).1, (lay_txs h).2]
  rfl
theorem shaped_lS {xs : List Tx} (h : TOk xs) : SeqAt.shaped (Dt.d xs) = true := by
  unfold SeqAt.shaped
  show (PyData.canLay0 (.list _) && decide (PyData.depth (.list _) ≤ 64)) = true
  rw [PyData.canLay0, PyData.depth, (lay_txs h).1, (lay_txs h).2]
  rfl
section
variable {K : PySem.W.Frag}
theorem o2_eqTS {x y : Tup Tx} (hx : TOk x.l) (hy : TOk y.l) : Op2 K (rEqD K) x y (Is (decide (x.l = y.l))) := by
  rw [← eqv_txs x.l y.l]
  exact o2_eqD (shaped_tS hx) (shaped_tS hy)
theorem o2_neTS {x y : Tup Tx} (hx : TOk x.l) (hy : TOk y.l) : Op2 K (rNeD K) x y (Is (!decide (x.l = y.l))) := by
  rw [← eqv_txs x.l y.l]
  exact o2_neD (shaped_tS hx) (shaped_tS hy)
theorem o2_eqLS {x y : List Tx} (hx : TOk x) (hy : TOk y) : Op2 K (rEqD K) x y (Is (decide (x = y))) := by
  rw [← eqv_txs x y]
  exact o2_eqD (shaped_lS hx) (shaped_lS hy)
theorem o2_neLS {x y : List Tx} (hx : TOk x) (hy : TOk y) : Op2 K (rNeD K) x y (Is (!decide (x = y))) := by
  rw [← eqv_txs x y]
  exact o2_neD (shaped_lS hx) (shaped_lS hy)
end
end Z

set_option Elab.async false
set_option linter.all false
set_option maxRecDepth 100000
set_option maxHeartbeats 1000000
/-! properties and methods, on data -/
namespace Z
open PySem PySem.Spec PyProof.Rows L2
/-- a datum that is an instance of the class at C without an attribute m of its own -/
def IsInsM (K : PySem.W.Frag) (C : Addr) (m : Str) (β : Type) [Rp β] : Prop := ∀ (Δ : Gh) (H : Hp) (v : V) (b : β), Rp.rp K Δ H v b → ∃ a dx fs, v = .ref a ∧ H a = some (.ins C dx fs) ∧ fs.lookup m = none
section
variable {K : PySem.W.Frag} {Γ : Own} {ρ : Z.Env} {ta tb te : TE} {tl : TA} {α β γ : Type} [Rp α] [Rp β] [Rp γ] {C : Addr} {E : XK} {Pb : γ → Prop} {m : Str}
/-- b.m, a property -/
theorem ev_prop {F : Own → List Cell → (γ → Prop) → Prop} {b : β} (hI : IsIns K C β) (h : Ev K Γ te ρ (Is b)) (hF : F Γ [⟨b⟩] Pb) : Ev K Γ (tProp C (spD K F) [] E te) ρ Pb := fun Δ σ H Q s hh e k =>
  h Δ σ H _ s hh e fun v H1 b' pb e1 r1 => by
    have eb : b' = b := pb
    subst eb
    obtain ⟨p, dx, fs, rfl, hp⟩ := hI Δ H1 v _ r1
    exact ⟨p, dx, fs, rfl, hp, Γ, Δ, [⟨b'⟩], Pb, hF, s, e1.2, ⟨r1, trivial⟩, fun z H' c pc e3 r3 => k z H' c pc (e1.trans e3) r3⟩
/-- b.m(e, ..) -/
theorem ev_meth {F : Own → List Cell → (γ → Prop) → Prop} {b : β} {cs : List Cell} (hI : IsInsM K C m β) (h : Ev K Γ te ρ (Is b)) (ha : EvA K Γ tl ρ (Is cs)) (hF : F Γ (⟨b⟩ :: cs) Pb) : Ev K Γ (tMeth C m (spD K F) [] E te tl) ρ Pb := fun Δ σ H Q s hh e k =>
  h Δ σ H _ s hh e fun v H1 b' pb e1 r1 => by
    have eb : b' = b := pb
    subst eb
    obtain ⟨p, dx, fs, rfl, hp, hm⟩ := hI Δ H1 v _ r1
    refine ⟨p, dx, fs, rfl, hp, hm, ha Δ σ H1 _ s e1.2 (e.mono e1.1) fun vs H2 cs' pcs e2 r2 => ?_⟩
    have ec : cs' = cs := pcs
    subst ec
    exact ⟨Γ, Δ, ⟨b'⟩ :: cs', Pb, hF, s, e2.2, ⟨Rp.mono e2.1 r1, by rw [List.append_nil]; exact r2⟩, fun z H' c pc e3 r3 => k z H' c pc (e1.trans (e2.trans e3)) r3⟩
end
end Z

set_option Elab.async false
set_option linter.all false
set_option maxRecDepth 100000
set_option maxHeartbeats 1000000
/-! lists of one's own whose items are plain (ints, bools, texts): made, appended to, read, handed back -/
namespace Z
open PySem PySem.Spec PyProof.Rows L2
/-- data that a value bears whatever the heap -/
class Flat (α : Type) [Rp α] where
  val : α → V
  iff : ∀ {K : PySem.W.Frag} {Δ : Gh} {H : Hp} {v : V} {a : α}, Rp.rp K Δ H v a ↔ v = val a
instance : Flat Int := ⟨V.int, Iff.rfl⟩
instance : Flat Bool := ⟨V.bl, Iff.rfl⟩
instance : Flat Tx := ⟨fun x => .str (tS x), Iff.rfl⟩
section
variable {K : PySem.W.Frag} {Δ0 : Gh} {H0 : Hp} {Γ : Own} {F : List (V × Cell)} {ρ : Z.Env} {ta tb te : TE} {tz : TS} {D : Ends} {α : Type} [Rp α] [Flat α]
abbrev OwnL (p : Addr) (xs : List α) : Addr × (HO → Prop) := (p, ObIs (.lst (xs.map Flat.val)))
theorem all2_flat {Δ : Gh} {H : Hp} : ∀ xs : List α, All2 (fun (u : V) (a : α) => Rp.rp K Δ H u a) (xs.map Flat.val) xs
  | [] => trivial
  | x :: xs => ⟨Flat.iff.mpr rfl, all2_flat xs⟩
/-- name = [] -/
theorem wp_newL {i : Nat} (hi : i < ρ.length) (k : ∀ p, OwnP Δ0 Γ p → Wp K Δ0 H0 (OwnL p ([] : List α) :: Γ) F (ρ.set i (some ⟨(⟨p⟩ : Loc)⟩)) tz D) : Wp K Δ0 H0 Γ F ρ (tSeq (tAsg (tLst tNil) (gName i)) tz) D := fun σ H ⟨Δ, s, hh, e, f, e0, s1, s2⟩ => by
  refine ⟨by show 0 ≤ sizeLine; decide, fun p hp => ?_⟩
  obtain ⟨o, Δ', s', hh', e', f', e0', s1', s2'⟩ := own_newO (K := K) (o := .lst []) s hh e f e0 s1 s2 hp
  exact k p o _ _ ⟨Δ', s', hh', e'.set (c := ⟨(⟨p⟩ : Loc)⟩) hi rfl, f', e0', s1', s2'⟩
/-- name.append(e) -/
theorem wp_app {p : Addr} {xs : List α} {P : α → Prop} (o : OwnP Δ0 Γ p) (hz : xs.length < 50000) (ho : Ev K (OwnL p xs :: Γ) ta ρ (Is (⟨p⟩ : Loc))) (h : Ev K (OwnL p xs :: Γ) te ρ P)
    (k : ∀ a, P a → Wp K Δ0 H0 (OwnL p (xs ++ [a]) :: Γ) F ρ tz D) : Wp K Δ0 H0 (OwnL p xs :: Γ) F ρ (tSeq (tDrop (tBM K "list" rAppend ta (tCons te tNil))) tz) D := fun σ H ⟨Δ, s, hh, e, f, e0, s1, s2⟩ =>
  ho Δ σ H _ s hh e fun w H1 b pb e1 r1 => by
    have eb : b = ⟨p⟩ := pb
    subst eb
    have ew : w = .ref p := r1
    subst ew
    obtain ⟨u, hu, iu⟩ := e1.2 p _ (s _ List.mem_cons_self)
    have iu' : u = HO.lst _ := iu
    subst iu'
    refine ⟨.inl ⟨rfl, _, SqL.of hu⟩, h Δ σ H1 _ s e1.2 (e.mono e1.1) fun v H2 a pa e2 r2 => ?_⟩
    have e3 := e1.trans e2
    have ev : v = Flat.val a := Flat.iff.mp r2
    subst ev
    have st : Stt K Δ0 H0 (OwnL p xs :: Γ) F ρ σ H2 := ⟨Δ, s, e3.2, e.mono e3.1, fun q hq => q.2.r.mono e3.1 (f q hq), ext0 e0 s1 s2 e3, s1, s2⟩
    obtain ⟨hp, st'⟩ := own_putO (o2 := .lst ((xs ++ [a]).map Flat.val)) o st
    refine ⟨p, _, _, rfl, rfl, hp, ?_, ?_⟩
    · rw [List.length_map]
      exact Nat.lt_trans hz (by decide)
    · have e5 : xs.map Flat.val ++ [Flat.val a] = (xs ++ [a]).map Flat.val := by rw [List.map_append]; rfl
      rw [e5]
      exact k a pa σ _ st'
/-- return name -/
theorem wp_retL {R : List α → Prop} {p : Addr} {xs : List α} (o : OwnP Δ0 Γ p) (hf : Fin K Δ0 H0 R D) (hr : R xs) (ho : Ev K (OwnL p xs :: Γ) ta ρ (Is (⟨p⟩ : Loc))) : Wp K Δ0 H0 (OwnL p xs :: Γ) F ρ (tRet ta) D := fun σ H ⟨Δ, s, hh, e, f, e0, s1, s2⟩ =>
  ho Δ σ H _ s hh e fun w H1 b pb e1 r1 => by
    have eb : b = ⟨p⟩ := pb
    subst eb
    have ew : w = .ref p := r1
    subst ew
    obtain ⟨u, hu, iu⟩ := e1.2 p _ (s _ List.mem_cons_self)
    have iu' : u = HO.lst _ := iu
    subst iu'
    exact hf _ H1 xs hr (ext0 e0 s1 s2 e1) ⟨p, _, rfl, .inl ⟨o.n0, .inl hu⟩, .inl (.inl hu), all2_flat xs⟩
/-- one's own list as a datum, to read -/
theorem ev_ownL {p : Addr} {xs : List α} (hm : OwnL p xs ∈ Γ) {r : List V → Hp → VK → Prop} {γ : Type} [Rp γ] {P : γ → Prop} (ho : Ev K Γ ta ρ (Is (⟨p⟩ : Loc))) (hr : ∀ (Δ : Gh) (H : Hp) (Q : VK), Hold Δ H → H p = some (.lst (xs.map Flat.val)) → (∀ u H' c, P c → Ext Δ H H' → Rp.rp K Δ H' u c → Q u H') → r [.ref p] H Q) : Ev K Γ (tCB r (tCons ta tNil)) ρ P := fun Δ σ H Q s hh e k =>
  ho Δ σ H _ s hh e fun w H1 b pb e1 r1 => by
    have eb : b = ⟨p⟩ := pb
    subst eb
    have ew : w = .ref p := r1
    subst ew
    obtain ⟨u, hu, iu⟩ := e1.2 p _ (s _ hm)
    have iu' : u = HO.lst _ := iu
    subst iu'
    exact hr Δ H1 Q e1.2 hu fun u H' c pc e2 r2 => k u H' c pc (e1.trans e2) r2
theorem ev_lenO {p : Addr} {xs : List α} (hm : OwnL p xs ∈ Γ) (ho : Ev K Γ ta ρ (Is (⟨p⟩ : Loc))) : Ev K Γ (tCB (fun xs H Q => ∃ x n, xs = [x] ∧ LenV K x H n ∧ Q (.int n) H) (tCons ta tNil)) ρ (Is (xs.length : Int)) :=
  ev_ownL hm ho fun Δ H Q hh hp k => by
    refine ⟨.ref p, xs.length, rfl, .inl ⟨xs.map Flat.val, ?_, by rw [List.length_map]⟩, k _ H _ rfl (Ext.refl hh) rfl⟩
    exact .inl (.inl hp)
end
end Z

set_option Elab.async false
set_option linter.all false
set_option maxRecDepth 100000
set_option maxHeartbeats 1000000
/-! a comprehension with two for, its items plain -/
namespace Z
open PySem PySem.Spec PyProof.Rows L2
/-- a list that stands in the heap (no literal of the written part) -/
structure NL (α : Type) where
  l : List α
section
variable {α : Type} [Rp α]
instance : Rp (NL α) where
  rp K Δ H v xs := ∃ p vs, v = .ref p ∧ Δ p = none ∧ Rd H p (.lst vs) ∧ All2 (fun u a => Rp.rp K Δ H u a) vs xs.l
  mono k h := by
    obtain ⟨p, vs, e, n, r, q⟩ := h
    exact ⟨p, vs, e, n, rd_mono k n r, q.imp fun _ _ => Rp.mono k⟩
  weak w h := by
    obtain ⟨p, vs, e, n, r, q⟩ := h
    obtain ⟨u, hu⟩ := rd_some r
    exact ⟨p, vs, e, w _ _ hu n, r, q.imp fun _ _ => Rp.weak w⟩
variable {K : PySem.W.Frag} {Γ : Own} {ρ : Z.Env} {te : TE} {ta : TA}
/-- it is a list -/
theorem ev_ofNL {y : NL α} (h : Ev K Γ te ρ (Is y)) : Ev K Γ te ρ (Is y.l) := fun Δ σ H Q s hh e k => h Δ σ H Q s hh e fun v H' a pa e1 r => by
  have ea : a = y := pa
  subst ea
  obtain ⟨p, vs, rfl, n, hr, q⟩ := r
  exact k _ H' a.l rfl e1 ⟨p, vs, rfl, .inl ⟨n, hr⟩, .inl hr, q⟩
/-- [a, b, ..] -/
theorem ev_lstN {xs : List α} (h : EvA K Γ ta ρ (Is (xs.map fun a => ⟨a⟩))) (hz : xs.length ≤ 100000) : Ev K Γ (tLst ta) ρ (Is (⟨xs⟩ : NL α)) := fun Δ σ H Q s hh e k => h Δ σ H _ s hh e fun vs H' cs pcs e1 r => by
  have ec : cs = xs.map fun a => ⟨a⟩ := pcs
  subst ec
  have r' := All2.of_map r
  exact ⟨Nat.le_trans (Nat.le_of_eq r'.len) (Nat.le_trans hz (by decide)), fun p hp => k _ _ ⟨xs⟩ rfl (e1.trans (Ext.new e1.2 hp _)) ⟨p, vs, rfl, e1.2.fresh hp, .inl upd_same, r'.imp fun _ _ => Rp.mono (Ext.new e1.2 hp _).1⟩⟩
end
section
variable {K : PySem.W.Frag} {Γ : Own} {ρ : Z.Env} {te : TE} {β : Type} [Rp β] [Flat β]
theorem ev_lc2 {wi wi1 : TI} {g g1 : TG} {js js1 vs vs1 : List Nat} {n : Nat} {m : Nat → Nat} {st : Nat → Z.Env → Z.Env} {st1 : Nat → Nat → Z.Env → Z.Env} (Iv : Nat → Nat → List β → Prop) (S : Src K Γ wi g ρ js n st) (hjs : ∀ j ∈ js, j ∈ vs)
    (S1 : ∀ i, i < n → Src K Γ wi1 g1 (st i (wipeE ρ vs)) js1 (m i) (st1 i)) (hjs1 : ∀ j ∈ js1, j ∈ vs1) (h0 : Iv 0 0 []) (hz : ∀ i j acc, Iv i j acc → acc.length ≤ 50000)
    (hs : ∀ i j acc, i < n → j < m i → Iv i j acc → ∃ PV : β → Prop, Ev K Γ te (st1 i j (wipeE (st i (wipeE ρ vs)) vs1)) PV ∧ ∀ b, PV b → Iv i (j + 1) (acc ++ [b]))
    (hn : ∀ i acc, i < n → Iv i (m i) acc → Iv (i + 1) 0 acc) : Ev K Γ (tLc2 wi g tYes wi1 g1 tYes te vs vs1) ρ (fun y : NL β => Iv n 0 y.l) := fun Δ σ H Q s hh e k => S Δ σ H _ s hh e fun J H1 pv pc e1 rp0 hgo hyld => fun D hD => by
  have nD : Δ D = none := e1.2.fresh hD
  have eW : EnvOk K Δ (wipe σ vs) H1 (wipeE ρ vs) := (e.mono e1.1).wipe vs
  have kp : Keep (ghI Δ D (ObIs (.lst []))) H1 (upd H1 D (.lst [])) := fun a o _ q => by rw [upd_ne (ne_of_none q hD)]; exact q
  have W0 : DW K Δ H1 D pv pc (wipe σ vs) (wipeE ρ vs) (.lst (([] : List β).map Flat.val)) (upd H1 D (.lst [])) :=
    ⟨ghI_hold (fun a J _ h => e1.2 a J h) rfl, fun a o ha _ h => by rw [upd_ne ha]; exact h, pc.r.mono kp (pc.r.weak (ghI_new hD) rp0), (eW.weak (ghI_new hD)).mono kp⟩
  have wl : (wipeE ρ vs).length = ρ.length := by
    rw [← eW.1, wipe_length]
    exact e.1
  have sD : ∀ o, Sat Γ (ghI Δ D (ObIs o)) := fun o q hq => ghI_sat s nD q (List.mem_cons_of_mem _ hq)
  refine ⟨fun i t H2 => t = n - i ∧ i ≤ n ∧ ∃ acc : List β, DW K Δ H1 D pv pc (wipe σ vs) (wipeE ρ vs) (.lst (acc.map Flat.val)) H2 ∧ Iv i 0 acc, ⟨n, by simp, Nat.zero_le _, [], W0, h0⟩, ?_⟩
  rintro i t H2 ⟨rfl, hi, acc, c, iv⟩
  have hg := hgo _ H2 c.src
  by_cases hlt : i < n
  · refine .inr ⟨hg.1 i hlt, fun H3 => ∃ acc : List β, DW K Δ H1 D pv pc (wipe σ vs) (wipeE ρ vs) (.lst (acc.map Flat.val)) H3 ∧ Iv (i + 1) 0 acc, fun H' ⟨a', c', v'⟩ => ⟨n - (i + 1), by omega, rfl, hlt, a', c', v'⟩, fun x H3 hy => ?_⟩
    obtain ⟨e3, hput⟩ := hyld _ i H2 x H3 hlt c.hold c.src hy
    have c3 := c.next e3
    refine hput (wipe σ vs) (wipeE ρ vs) _ wl c3.env fun σ2 env2 hl2 hoff => ⟨wipe_off (by rw [hl2, wipe_length]) hjs hoff, ?_⟩
    change wi1 σ2 H3 _
    refine S1 i hlt _ σ2 H3 _ (sD _) e3.2 env2 fun J1 H4 pv1 pc1 e4 rp1 hgo1 hyld1 => ?_
    have c4 := c3.next e4
    have env4 := (env2.mono e4.1).wipe vs1
    have wl1 : (wipeE (st i (wipeE ρ vs)) vs1).length = (st i (wipeE ρ vs)).length := by
      rw [← env4.1, wipe_length]
      exact env2.1
    have d4 : DW K Δ H1 D pv1 pc1 (wipe σ2 vs1) (wipeE (st i (wipeE ρ vs)) vs1) (.lst (acc.map Flat.val)) H4 := ⟨c4.hold, c4.keep, rp1, env4⟩
    refine ⟨fun j t H5 => t = m i - j ∧ j ≤ m i ∧ ∃ acc : List β, DW K Δ H1 D pv pc (wipe σ vs) (wipeE ρ vs) (.lst (acc.map Flat.val)) H5 ∧ DW K Δ H1 D pv1 pc1 (wipe σ2 vs1) (wipeE (st i (wipeE ρ vs)) vs1) (.lst (acc.map Flat.val)) H5 ∧ Iv i j acc, ⟨m i, by simp, Nat.zero_le _, acc, c4, d4, iv⟩, ?_⟩
    rintro j t H5 ⟨rfl, hj, acc1, c5, d5, iv5⟩
    have hg1 := hgo1 _ H5 d5.src
    by_cases hlt1 : j < m i
    · refine .inr ⟨hg1.1 j hlt1, fun H6 => ∃ acc : List β, DW K Δ H1 D pv pc (wipe σ vs) (wipeE ρ vs) (.lst (acc.map Flat.val)) H6 ∧ DW K Δ H1 D pv1 pc1 (wipe σ2 vs1) (wipeE (st i (wipeE ρ vs)) vs1) (.lst (acc.map Flat.val)) H6 ∧ Iv i (j + 1) acc, fun H' ⟨a', c', d', v'⟩ => ⟨m i - (j + 1), by omega, rfl, hlt1, a', c', d', v'⟩, fun x1 H6 hy1 => ?_⟩
      obtain ⟨e6, hput1⟩ := hyld1 _ j H5 x1 H6 hlt1 d5.hold d5.src hy1
      have c6 := c5.next e6
      have d6 := d5.next e6
      refine hput1 (wipe σ2 vs1) (wipeE (st i (wipeE ρ vs)) vs1) _ wl1 d6.env fun σ3 env3 hl3 hoff3 => ⟨wipe_off (by rw [hl3, wipe_length]) hjs1 hoff3, ?_⟩
      obtain ⟨PV, hE, hb⟩ := hs i j acc1 hlt hlt1 iv5
      change te σ3 H6 _
      refine hE _ σ3 H6 _ (sD _) e6.2 env3 fun y H7 b pb e7 r7 => ?_
      have c7 := c6.next e7
      have d7 := d6.next e7
      have ey : y = Flat.val b := Flat.iff.mp r7
      subst ey
      have e8 : acc1.map Flat.val ++ [Flat.val b] = (acc1 ++ [b]).map Flat.val := by rw [List.map_append]; rfl
      refine ⟨acc1.map Flat.val, ghI_exact c7.hold, ?_, acc1 ++ [b], ?_, ?_, hb b pb⟩
      · rw [List.length_map]
        exact Nat.lt_of_le_of_lt (hz i j acc1 iv5) (by decide)
      · rw [← e8]
        exact c7.put
      · rw [← e8]
        exact d7.put
    · have ej : j = m i := by omega
      subst ej
      exact .inl ⟨hg1.2, acc1, c5, hn i acc1 hlt iv5⟩
  · have ei : i = n := by omega
    subst ei
    refine .inl ⟨hg.2, k (.ref D) H2 ⟨acc⟩ iv ⟨fun a o na h => ?_, fun a J h => ?_⟩ ⟨D, _, rfl, nD, .inl (ghI_exact c.hold), all2_flat acc⟩⟩
    · have h1 := e1.1 a o na h
      exact c.keep a o (ne_of_none h1 hD) na h1
    · have hne : a ≠ D := fun z => by
        rw [z, nD] at h
        cases h
      exact c.hold a J (by rw [ghI_other hne]; exact h)
end
end Z

set_option Elab.async false
set_option linter.all false
set_option maxRecDepth 100000
set_option maxHeartbeats 4000000
/-! yield from a list -/
namespace Zy
open PySem PySem.Spec PyProof.Rows L2
section
variable {prog : Program} {w : World} {A : Around} {E : Value → Shared → Prop} {s : Shared} {it l : Addr} {i : Nat} {items : Array Value}
/-- a turn that gives an item -/
theorem turn_item {x : Value} {Q : Option Value → Shared → Prop} (hit : s.heap.IsListIter it l i) (hl : s.heap.IsList l items) (hx : items[i]? = some x)
    (k : ∀ h', h'.IsListIter it l (i + 1) → Heap.SameBut it s.heap h' → Q (some x) { s with heap := h' }) : wpAny (model prog w) A (callSpecial? (.ref it) "__next__") Q E s := by
  have hT := hit.typeIs
  obtain ⟨io, hio, hic, hid⟩ := hit
  obtain ⟨lo, hlo, _, ln, hld⟩ := hl
  refine wpAny_callSpecial?_slot (name := Str.ofString "__next__") hT slot_listiter_next (wpAny_call_entry slot_listiter_next hT entry_listiter_next ?_ (args_listiter_next _))
  refine wpAny_bind (m := field (.ref it) 0) (wpAny_field hio hid (x := .ref l) rfl ?_)
  change wpAny _ _ (if (Value.ref l == Value.none) = true then _ else _) _ _ s
  rw [if_neg (fun z => by cases (show false = true from z))]
  refine wpAny_bind (m := field (.ref it) 1) (wpAny_field hio hid (x := .int i 0) rfl ?_)
  refine wpAny_bind (m := seqItems? (.ref l)) (wpAny_seqItems hlo hld ?_)
  simp only [Int.toNat_natCast, hx]
  refine wpAny_bind (wpAny_setField hio hid (by simp) (wpAny_pure ⟨x, rfl, k _ ⟨_, Heap.get?_update_self _ hio (Obj.isFreed_of_fields (Obj.data_mapFields hid _)), (Obj.cls_mapFields ..).trans hic, ?_⟩ (Heap.SameBut.update ..)⟩))
  rw [Obj.data_mapFields hid]
  simp [rawInt]
/-- the turn behind the last item -/
theorem turn_end {Q : Option Value → Shared → Prop} (hh : A.handled = none) (hit : s.heap.IsListIter it l i) (hl : s.heap.IsList l items) (hx : items[i]? = none)
    (k : ∀ e h', StopX e h' → Heap.ExtBut it s.heap h' → E e { s with heap := h' }) : wpAny (model prog w) A (callSpecial? (.ref it) "__next__") Q E s := by
  have hT := hit.typeIs
  obtain ⟨io, hio, hic, hid⟩ := hit
  obtain ⟨lo, hlo, _, ln, hld⟩ := hl
  refine wpAny_callSpecial?_slot (name := Str.ofString "__next__") hT slot_listiter_next (wpAny_call_entry slot_listiter_next hT entry_listiter_next ?_ (args_listiter_next _))
  refine wpAny_bind (m := field (.ref it) 0) (wpAny_field hio hid (x := .ref l) rfl ?_)
  change wpAny _ _ (if (Value.ref l == Value.none) = true then _ else _) _ _ s
  rw [if_neg (fun z => by cases (show false = true from z))]
  refine wpAny_bind (m := field (.ref it) 1) (wpAny_field hio hid (x := .int i 0) rfl ?_)
  refine wpAny_bind (m := seqItems? (.ref l)) (wpAny_seqItems hlo hld ?_)
  simp only [Int.toNat_natCast, hx]
  refine wpAny_bind (wpAny_rule (wpAny_bind (wpAny_setField hio hid (by simp) ?_)))
  refine wpAny_bind (m := newExc (.type "StopIteration") []) ?_
  simp only [newExc, newTuple]
  refine wpAny_bind (wpAny_newObj_type (wpAny_bind (m := firstArgMember _ _) (wpAny_of_eq (a := Value.none) (by first | rfl | (simp only [firstArgMember]; rfl)) (wpAny_newObj_type ?_ (by size_fits)))) (by size_fits))
  simp only [raiseNew]
  refine wpAny_bind (wpAny_handled ?_)
  rw [show A.in1.handled = none from hh]
  refine wpAny_bind (wpAny_pure (wpAny_throw (k _ _ ⟨_, _, _, rfl, Heap.get?_push_size _ rfl, rfl, rfl, ?_⟩ (((Heap.SameBut.update ..).extBut.push _).push _))))
  first
    | rfl
    | kernel_rfl
end
section
variable {X : Cx} {e : Expr} {te : TE}
/-- yield from e, e a list that stands in the heap -/
def tYfLst (te : TE) : TYf := fun σ H Q => te σ H fun x H1 => ∃ a xs, x = .ref a ∧ Rd H1 a (.lst xs) ∧ Q xs H1
theorem close_lst : typeLookup (.type "list_iterator") "close" = pure none := by rw [typeLookup_type, builtinLookup_eq_fast]; kernel_rfl
theorem yf_lst (he : PE X e te) : YfE X e (tYfLst te) := by
  refine ⟨fun pins s σ H Q I h => thn (he.run pins s σ H _ I h) fun v s1 ⟨x, H1, I1, r1, a, xs, ex, ha, hq⟩ => ?_⟩
  subst ex
  obtain rfl : v = Value.ref a := r1
  obtain ⟨its, rits, hl0, hlen⟩ := I1.list (.inl ha)
  have hl : s1.heap.IsList a its.toArray := hl0.isList
  obtain ⟨_, hob, _⟩ := id hl
  have hsome : H1 a ≠ none := fun z => by
    rcases ha with ha | ⟨u, ha⟩ <;> rw [z] at ha <;> cases ha
  refine ⟨"list", hl.typeIs, by decide, wpAny_pyIter_list hl ?_⟩
  let o : Obj := { cls := .type "list_iterator", data := .fields #[.ref a, .int 0 0] }
  have old : ∀ b u, s1.heap.get? b = some u → b ≠ s1.heap.objs.size := fun b u q => Nat.ne_of_lt (Heap.lt_size q)
  have kp : ∀ b u, s1.heap.get? b = some u → (s1.heap.push o).get? b = some u := fun b u q => Heap.get?_push_of_some _ q
  have hna : a ≠ s1.heap.objs.size := old a _ hob
  refine ⟨s1.heap.objs.size, H1, xs, fun j h => h.IsListIter s1.heap.objs.size a j ∧ h.IsList a its.toArray, rfl, I1.kept (t' := s1.toks) kp, .inr I1.sz, Nat.ne_of_gt I1.lt, fun y c hy => ?_, I1.hok.fresh (Nat.le_refl _), fun p hp => old p.1 _ (I1.pin p hp).1,
    ⟨⟨_, Heap.get?_push_size _ rfl, rfl, rfl⟩, hl.push _⟩, ⟨⟨"list_iterator", fun j h q => ?_, close_lst, by decide⟩, fun j h h' q hk => ?_, fun A' j x s2 Q' E' hA hx q hQ => ?_, fun A' s2 Q' E' hA q hE => ?_⟩, hq⟩
  · obtain ⟨v, u, hu, _⟩ := I1.cell y c hy
    exact old c u hu
  · obtain ⟨⟨u, hu, hc, _⟩, _⟩ := q
    exact ⟨u, hu, hc⟩
  · obtain ⟨⟨u, hu, r⟩, u2, hu2, r2⟩ := q
    exact ⟨⟨u, hk _ u (.inl rfl) hu, r⟩, u2, hk _ u2 (.inr hsome) hu2, r2⟩
  · obtain ⟨u, hu, ru⟩ := rits.get hx
    exact turn_item q.1 q.2 (x := u) (by simpa using hu) fun h' q1 hs => hQ u h' s2.toks ru ⟨q1, q.2.extBut hs.extBut hna⟩ fun b u hb eb => hs.extBut b u hb eb
  · have hnone : its.toArray[xs.length]? = none := by
      have q1 := rits.length
      have q2 : its[xs.length]? = none := List.getElem?_eq_none_iff.mpr (by omega)
      simpa using q2
    exact turn_end hA q.1 q.2 hnone fun e h' hS hk => hE e h' s2.toks hS fun b u hb eb => hk b u hb eb
end
end Zy

set_option Elab.async false
set_option linter.all false
set_option maxRecDepth 100000
set_option maxHeartbeats 1000000
/-! generator defs, on data -/
namespace Z
open PySem PySem.Spec PyProof.Rows L2
/-- what a generator def promises: in the end it has handed out data with P -/
def spG (K : PySem.W.Frag) {β : Type} [Rp β] (G : Own → List Cell → (List β → Prop) → Prop) : SpG := fun vs H cont _ => ∃ (Γ : Own) (Δ : Gh) (cs : List Cell) (P : List β → Prop), G Γ cs P ∧ Sat Γ Δ ∧ Hold Δ H ∧ ArgsOk K Δ H vs cs ∧
  ∀ (out : List V) (H' : Hp) (ys : List β), P ys → Ext Δ H H' → All2 (fun u a => Rp.rp K Δ H' u a) out ys → cont out H'
section
variable {K : PySem.W.Frag} {Γ : Own} {ρ : Z.Env} {ta : TA} {β : Type} [Rp β] {Pb : List β → Prop}
/-- list(g(..)) -/
theorem ev_listG {G : Own → List Cell → (List β → Prop) → Prop} {E : XK} {cs : List Cell} (ha : EvA K Γ ta ρ (Is cs)) (hG : G Γ cs Pb) : Ev K Γ (tListG (tCallG (spG K G) [] E ta)) ρ Pb := fun Δ σ H Q s hh e k =>
  ha Δ σ H _ s hh e fun vs H1 cs' pcs e1 r => by
    have ec : cs' = cs := pcs
    subst ec
    refine ⟨Γ, Δ, cs', Pb, hG, s, e1.2, by rw [List.append_nil]; exact r, fun out H' ys py e2 q p hp => ?_⟩
    have e3 := e1.trans e2
    exact k _ _ ys py (e3.trans (Ext.new e3.2 hp _)) (new_lst e3.2 hp q)
end
section
variable {K : PySem.W.Frag} {Δ0 : Gh} {H0 : Hp} {Γ : Own} {F : List (V × Cell)} {ρ : Z.Env} {te : TE} {D : GEnds} {ys : List V} {β : Type} [Rp β]
def WpG (K : PySem.W.Frag) (Δ0 : Gh) (H0 : Hp) (Γ : Own) (F : List (V × Cell)) (ρ : Z.Env) (t : TGn) (D : GEnds) (ys : List V) : Prop := ∀ σ H, Stt K Δ0 H0 Γ F ρ σ H → t D ys σ H
/-- a plain statement of a generator's body: as elsewhere, then the rest -/
theorem wpg_plain {t : TS} {u : TGn} (h : Wp K Δ0 H0 Γ F ρ (tSeq t fun _ σ H => u D ys σ H) (D.at ys)) : WpG K Δ0 H0 Γ F ρ (tGThen (tPlain t) u) D ys := fun σ H st => h σ H st
theorem wpg_rest {u : TGn} (h : WpG K Δ0 H0 Γ F ρ u D ys) : Wp K Δ0 H0 Γ F ρ (fun _ σ H => u D ys σ H) (D.at ys) := fun σ H st => h σ H st
/-- yield from a list, at the end -/
theorem wpg_from {P : NL β → Prop} (hs : ys = []) (h : Ev K Γ te ρ P) (hz : ∀ xs, P xs → xs.l.length ≤ 50000)
    (hf : ∀ (out : List V) (σ : L2.St) (H' : Hp) (xs : NL β), P xs → Ext Δ0 H0 H' → All2 (fun u a => Rp.rp K Δ0 H' u a) out xs.l → D.nx out σ H') : WpG K Δ0 H0 Γ F ρ (tGThen (tGFrom (Zy.tYfLst te)) tG0) D ys := fun σ H ⟨Δ, s, hh, e, f, e0, s1, s2⟩ => by
  subst hs
  refine h Δ σ H _ s hh e fun v H1 xs px e1 r => ?_
  obtain ⟨p, vs, rfl, n, hr, q⟩ := r
  refine ⟨p, vs, rfl, hr, ?_, ?_⟩
  · have hl := hz xs px
    rw [q.len, List.length_nil]
    exact Nat.le_trans (by omega) (show 50000 ≤ sizeLine by decide)
  · exact hf _ σ H1 xs px (ext0 e0 s1 s2 e1) (q.imp fun _ _ => Rp.weak fun x o _ n => none0 s1 n)
end
section
variable {P : Program} {w : World} {K : PySem.W.Frag} {mg : Str → Option Value} {base : Heap} {β : Type} [Rp β]
theorem def_okG {x qual : Str} {args : Arguments} {body : List Stmt} {scope : Scope} {dvs : List V} {kws : List (Str × V)} {f : Addr} {fd : FuncData} {N ps : List Str} {k : Nat} {G : Own → List Cell → (List β → Prop) → Prop}
    (Fn : FunD K x qual args body scope dvs kws f fd) (S : GScope N ps scope) (len : ∀ Γ cs R, G Γ cs R → cs.length = ps.length)
    (hb : ∀ (cdv : Value) (A : Around) (outer : List PySem.Env) (s : Shared) (H : Hp) (E : XK) (pn : List (Addr × Obj)), Room k (A.deeper (envOfC qual scope s.heap.objs.size f cdv)) →
      ∀ (Γ : Own) (cs : List Cell) (R : List β → Prop), G Γ cs R → ∃ t, GSs (gcxOf P w K mg base N qual scope f cdv A outer s H E pn) body t ∧
        ∀ (Δ0 : Gh) (D : GEnds), (∀ (out : List V) (σ : L2.St) (H' : Hp) (xs : List β), R xs → Ext Δ0 H H' → All2 (fun u a => Rp.rp K Δ0 H' u a) out xs → D.nx out σ H') → WpG K Δ0 H Γ [] (env0 N cs) t D []) :
    GFn P w K mg base (k + 1) f fd ps (spG K G) := by
  obtain ⟨oc, od, dV, kV, doc, pm, an, cdv, ct, osl, rfl, lk, hcd, _, _⟩ := Fn.ex
  refine gfn_of lk hcd S (fun vs H Q E h => ?_) fun A outer s H vs Q E pn hr h => ?_
  · obtain ⟨Γ, Δ, cs, R, g, _, _, a, _⟩ := h
    rw [All2.len a]
    exact len Γ cs R g
  · obtain ⟨Γ, Δ, cs, R, g, sa, hh, a, q⟩ := h
    obtain ⟨t, ht, hw⟩ := hb cdv A outer s H E pn hr Γ cs R g
    exact ⟨t, ht, hw Δ _ (fun out σ H' xs rx e q2 => q out H' xs rx e q2) _ H ⟨Δ, sa, hh, start_ok a, fun z hz => (nomatch hz), Ext.refl hh, fun _ _ z => z, fun x n m => absurd n m⟩⟩
end
end Z

set_option Elab.async false
set_option linter.all false
set_option maxRecDepth 100000
set_option maxHeartbeats 1000000
/-! a generator that sleeps while its taker puts the item behind a list and changes some further objects of its own (B): so a comprehension may walk it -/
namespace Zw
open PySem PySem.Spec PyProof.Rows L2 GenW
/-- while the generator sleeps: v goes behind the list at S, what stands at B may change -/
structure Idle (S : Addr) (B : List Addr) (v : Value) (s s' : Shared) : Prop where
  same : s'.os = s.os
  plain : AllBare s'.gens
  rest : ∀ a u, a ≠ S → a ∉ B → s.heap.get? a = some u → s'.heap.get? a = some u
  put : ∀ xs k, s.heap.get? S = some (lstObj xs k) → ∃ k', s'.heap.get? S = some (lstObj (xs.push v) k')
  live : ∀ a ∈ B, ∀ u, s.heap.get? a = some u → ∃ u', s'.heap.get? a = some u' ∧ ∀ z, u'.data ≠ .cell z
/-- the taker's object is none of the generator's -/
structure Off (X : Cx) (a : Addr) : Prop where
  young : X.s_0.heap.objs.size ≤ a
  loc : a ≠ X.env.locals
  cell : ∀ x c, X.env.cells.lookup x = some c → c ≠ a
  pn : ∀ p ∈ X.pn, p.1 ≠ a
/-- amid a run: ys is out; what the taker holds stands as it stood when the generator was woken (z0) -/
def Gj (X : Cx) (S : Addr) (B : List Addr) (ys : List V) (σ : L2.St) (H : Hp) (z0 s : Shared) : Prop :=
  ∃ (xs : Array Value) (k : Nat), Vals ys xs.toList ∧ (∀ a ∈ B, ∃ u, z0.heap.get? a = some u) ∧ Inv X ((S, lstObj xs k) :: pinsAt B z0.heap) σ H s
section
variable {X : Cx} {S : Addr} {B : List Addr} {ys : List V} {σ : L2.St} {H : Hp} {z0 s s' : Shared}
theorem Gj.list (h : Gj X S B ys σ H z0 s) : H S = none ∧ ∃ (xs : Array Value) (k : Nat), Vals ys xs.toList ∧ s.heap.get? S = some (lstObj xs k) := by
  obtain ⟨xs, k, r, _, I⟩ := h
  obtain ⟨q1, q2, _⟩ := I.pin (S, lstObj xs k) (List.mem_append_right _ List.mem_cons_self)
  exact ⟨q2, xs, k, r, q1⟩
theorem Gj.held (h : Gj X S B ys σ H z0 s) {a : Addr} (ha : a ∈ B) {u : Obj} (hu : z0.heap.get? a = some u) : s.heap.get? a = some u ∧ H a = none ∧ a ≠ X.env.locals ∧ a ∉ X.fs := by
  obtain ⟨xs, k, _, _, I⟩ := h
  obtain ⟨q1, q2, q3, q4, _⟩ := I.pin (a, u) (List.mem_append_right _ (List.mem_cons_of_mem _ (mem_pinsAt ha hu)))
  exact ⟨q1, q2, q3, q4⟩
theorem Gj.wake {x : V} {v : Value} (oS : Off X S) (oB : ∀ a ∈ B, Off X a) (h : Gj X S B ys σ H z0 s) (rv : RelV x v) (z : Idle S B v s s') : Gj X S B (ys ++ [x]) σ H s' s' := by
  have hB : ∀ a ∈ B, ∃ u, s.heap.get? a = some u ∧ H a = none ∧ a ≠ X.env.locals ∧ a ∉ X.fs := fun a ha => by
    obtain ⟨u, hu⟩ := (let ⟨_, _, _, q, _⟩ := h; q a ha)
    exact ⟨u, h.held ha hu⟩
  obtain ⟨xs, k, r, _, I⟩ := h
  obtain ⟨eS, S0, SL, SF, _⟩ := I.pin (S, lstObj xs k) (List.mem_append_right _ List.mem_cons_self)
  have I0 : Inv X [] σ H s := I.pins_of fun p hp => nomatch hp
  obtain ⟨z1, z2, z3, z4, z5⟩ := z
  obtain ⟨k', eS'⟩ := z4 xs k eS
  have out : ∀ {a : Addr}, a ∉ S :: B → a ≠ S ∧ a ∉ B := fun {a} ha => ⟨fun e => ha (by rw [e]; exact List.mem_cons_self), fun e => ha (List.mem_cons_of_mem _ e)⟩
  have track : ∀ {a : Addr} {o : HO}, H a = some o → a ≠ S ∧ a ∉ B := by
    intro a o q
    constructor
    · intro e
      rw [e, S0] at q
      cases q
    · intro e
      obtain ⟨_, _, n, _⟩ := hB a e
      rw [n] at q
      cases q
  obtain ⟨hh, g, d, t, o⟩ := s'
  have eo : o = s.os := z1
  subst eo
  have J : Inv X [] σ H { s with heap := hh, gens := g, drawn := d, toks := t } := by
    refine I0.step (g' := g) (t' := t) (d' := d) (ch := S :: B) (fun a ha => ?_) (fun a u _ _ hc q _ => z3 a u (out hc).1 (out hc).2 q) (fun a u _ _ hc q _ => ⟨u.slots, z3 a u (out hc).1 (out hc).2 q⟩)
      (fun _ _ _ _ n => n) (fun a u hc q => ⟨u, z3 a u (out hc).1 (out hc).2 q⟩) (fun _ _ q => q) (fun _ _ _ q => q) (fun a ps q => ⟨#[], by rw [q]; simp⟩) (fun m hm => ?_) (fun a u q => ?_) z2
    · have oa : Off X a := by
        rcases List.mem_cons.mp ha with e | e
        · rw [e]; exact oS
        · exact oB a e
      exact ⟨.inr oa.young, oa.loc, oa.cell, fun p hp => oa.pn p (by simpa using hp)⟩
    · obtain ⟨u, es, ep, hu, q⟩ := hm
      refine ⟨u, es, ep, z3 _ u (Ne.symm SL) (fun e => ?_) hu, q⟩
      obtain ⟨_, _, _, n, _⟩ := hB _ e
      exact n rfl
    · refine (I0.hok a u q).stay (fun c v hc y => ?_) (fun _ y => y) fun _ _ y => y
      have tc : c ≠ S ∧ c ∉ B := by
        rcases hc with y | y
        · rw [y]; exact track q
        · exact track y
      exact z3 c v tc.1 tc.2 y
  have news : ∀ a ∈ B, ∃ u, hh.get? a = some u ∧ ∀ y, u.data ≠ .cell y := fun a ha => by
    obtain ⟨u, hu, _⟩ := hB a ha
    exact z5 a ha u hu
  refine ⟨xs.push v, k', ?_, fun a ha => (news a ha).imp fun u q => q.1, J.pins_of fun p hp => ?_⟩
  · rw [Array.toList_push]
    exact r.append (.cons rv .nil)
  · rcases List.mem_cons.mp hp with e | e
    · rw [e]
      exact ⟨eS', S0, SL, SF, fun y q => nomatch q⟩
    · obtain ⟨q1, q2⟩ := of_pinsAt e
      obtain ⟨u, hu, hc⟩ := news _ q1
      obtain ⟨_, _, n, l, f⟩ := hB _ q1
      have eu : p.2 = u := Option.some.inj (q2.symm.trans hu)
      exact ⟨q2, n, l, f, by rw [eu]; exact hc⟩
end
def Yj (X : Cx) (S : Addr) (B : List Addr) : Protocol := fun n z0 v s kap => ∃ ys x σ H, n + 1 + ys.length = sizeLine ∧ RelV x v ∧ Gj X S B ys σ H z0 s ∧ ∀ s', Idle S B v s s' → kap (.send .none) s'
def Rj (X : Cx) (S : Addr) (B : List Addr) (Q : List V → VK) : GenEnd := fun n z0 r s => match r with
  | .ok (.ret u) => ∃ ys v σ H, n + ys.length = sizeLine ∧ Gj X S B ys σ H z0 s ∧ RelV v u ∧ Q ys v H
  | _ => False
def Fj (X : Cx) (S : Addr) (B : List Addr) (D : GEnds) (ys : List V) (z0 : Shared) (f : Flow) (s : Shared) : Prop :=
  match f with
  | .next => ∃ σ H, Gj X S B ys σ H z0 s ∧ D.nx ys σ H
  | .brk => ∃ σ H, Gj X S B ys σ H z0 s ∧ D.bk ys σ H
  | .cont => ∃ σ H, Gj X S B ys σ H z0 s ∧ D.ct ys σ H
  | .ret u => ∃ v σ H, Gj X S B ys σ H z0 s ∧ RelV v u ∧ D.rt ys v H
/-- where its code stands, and the taker's objects -/
structure At (X : Cx) (S : Addr) (B : List Addr) (A : Around) (c : Code) (fs : List Frame) (gd : Bool → Bool) : Prop where
  oS : Off X S
  oB : ∀ a ∈ B, Off X a
  over : A.over c fs = X.A
  split : splitAtGen fs = none
  guard : fs.any Frame.guarded = false
  gd : gd false = false
structure Goal (X : Cx) (S : Addr) (B : List Addr) (A : Around) (R : GenEnd) (c : Code) (fs : List Frame) (K : Flow → Sem PySem.Fin) (J : Value → Sem PySem.Fin) (D : GEnds) : Prop where
  ok : ∀ (n : Nat) (ys : List V) (z0 s : Shared) (f : Flow), n + ys.length = sizeLine → Fj X S B D ys z0 f s → Seg (model X.prog X.w) A R (Yj X S B) n z0 c (K f) fs s
  exc : ∀ (n : Nat) (z0 : Shared) (e : Value) (s : Shared), X.xe e s → Seg (model X.prog X.w) A R (Yj X S B) n z0 c (J e) fs s
def Runs1 (X : Cx) (S : Addr) (B : List Addr) (body : (Flow → Sem PySem.Fin) → (Value → Sem PySem.Fin) → (Bool → Bool) → (List Value → List Value) → Sem PySem.Fin) (t : TGn) : Prop :=
  ∀ (A : Around) (R : GenEnd) (n : Nat) (ys : List V) (z0 : Shared) (c : Code) (fs : List Frame) (K : Flow → Sem PySem.Fin) (J : Value → Sem PySem.Fin) (gd : Bool → Bool) (lv : List Value → List Value) (s : Shared) (σ : L2.St) (H : Hp) (D : GEnds),
    At X S B A c fs gd → n + ys.length = sizeLine → Goal X S B A R c fs K J D → Gj X S B ys σ H z0 s → t D ys σ H → Seg (model X.prog X.w) A R (Yj X S B) n z0 c (body K J gd lv) fs s
def Sj (X : Cx) (st : Stmt) (t : TGn) : Prop := ∀ S B, Runs1 X S B (fun K J gd lv => (exec st X.env).wrap K J gd lv) t
def Bj (X : Cx) (body : List Stmt) (t : TGn) : Prop := ∀ S B, Runs1 X S B (fun K J gd lv => (execs body X.env).wrap K J gd lv) t
section
variable {X : Cx} {st : Stmt} {rest : List Stmt}
theorem bj_nil : Bj X [] tG0 := fun S B A R n ys z0 c fs K J gd lv s σ H D at' hn k h ht => seg_execs_nil (k.ok n ys z0 s .next hn ⟨σ, H, h, ht⟩)
theorem bj_cons {t u : TGn} (a : Sj X st t) (b : Bj X rest u) : Bj X (st :: rest) (tGThen t u) := fun S B A R n ys z0 c fs K J gd lv s σ H D at' hn k h ht =>
  seg_execs_cons (a S B A R n ys z0 c fs _ J gd lv s σ H { D with nx := fun ys' σ' H' => u D ys' σ' H' } at' hn ⟨fun n1 ys1 y0 s1 f hn1 hf => by
    match f, hf with
    | .next, ⟨σ1, H1, h1, q⟩ => exact b S B A R n1 ys1 y0 c fs K J gd lv s1 σ1 H1 D at' hn1 k h1 q
    | .brk, hf => exact k.ok n1 ys1 y0 s1 .brk hn1 hf
    | .cont, hf => exact k.ok n1 ys1 y0 s1 .cont hn1 hf
    | .ret u, hf => exact k.ok n1 ys1 y0 s1 (.ret u) hn1 hf, k.exc⟩ h ht)
/-- a statement that hands out nothing -/
theorem sj_plain {t : TS} (h : PS X st t) : Sj X st (tPlain t) := fun S B A R n ys z0 c fs K J gd lv s σ H D at' hn k hj ht => by
  obtain ⟨xs, j, r, b0, I⟩ := hj
  refine seg_wrap ?_
  rw [at'.over]
  refine wpAny_mono (h.run _ s σ H (D.at ys) I ht) (fun f s1 hs => k.ok n ys z0 s1 f hn ?_) fun x s1 hx => k.exc n z0 x s1 hx
  cases f with
  | next => obtain ⟨σ1, H1, I1, q⟩ := hs; exact ⟨σ1, H1, ⟨xs, j, r, b0, I1⟩, q⟩
  | brk => obtain ⟨σ1, H1, I1, q⟩ := hs; exact ⟨σ1, H1, ⟨xs, j, r, b0, I1⟩, q⟩
  | cont => obtain ⟨σ1, H1, I1, q⟩ := hs; exact ⟨σ1, H1, ⟨xs, j, r, b0, I1⟩, q⟩
  | ret u => obtain ⟨v, σ1, H1, I1, r1, q⟩ := hs; exact ⟨v, σ1, H1, ⟨xs, j, r, b0, I1⟩, r1, q⟩
/-- one turn of the delegate, and the ones behind it -/
theorem seg_from {S : Addr} {B : List Addr} {A : Around} {R : GenEnd} {fs : List Frame} {it : Addr} {xs ys : List V} {Sg : Nat → Heap → Prop} {σ : L2.St} {H : Hp} (oS : Off X S) (oB : ∀ a ∈ B, Off X a)
    (young : it ∈ X.ex ∨ X.s_0.heap.objs.size ≤ it) (hL : it ≠ X.env.locals) (hcell : ∀ x c, X.env.cells.lookup x = some c → c ≠ it) (hSi : it ≠ S) (hBi : it ∉ B) (hpn : ∀ p ∈ X.pn, p.1 ≠ it) (hH : H it = none) (q : QIt X H it xs Sg)
    (ho : (A.over (.builtin "proto.yield_from" ⟨[.ref it, .bool false, .none], []⟩) fs).handled = none) (hsp : splitAtGen fs = none) (hgd : fs.any Frame.guarded = false) (hle : ys.length + xs.length ≤ sizeLine)
    (fin : ∀ (n : Nat) (z0 s : Shared), n + (ys ++ xs).length = sizeLine → Gj X S B (ys ++ xs) σ H z0 s → Seg (model X.prog X.w) A R (Yj X S B) n z0 (.builtin "proto.yield_from" ⟨[.ref it, .bool false, .none], []⟩) (.pure (.done (.ret .none))) fs s) :
    ∀ (r j n : Nat) (z0 s : Shared), j + r = xs.length → n + (ys.length + j) = sizeLine → Gj X S B (ys ++ xs.take j) σ H z0 s → Sg j s.heap →
      Seg (model X.prog X.w) A R (Yj X S B) n z0 (.builtin "proto.yield_from" ⟨[.ref it, .bool false, .none], []⟩) ((model X.prog X.w).den (.builtin "proto.yield_from" ⟨[.ref it, .bool false, .none], []⟩)) fs s := by
  obtain ⟨T, hT, hcl, hng⟩ := q.ty
  have moved : ∀ {us : List V} {z0 s : Shared} {h1 : Heap} {tk : Nat}, Gj X S B us σ H z0 s → (∀ b o, b ≠ it → s.heap.get? b = some o → h1.get? b = some o) → Gj X S B us σ H z0 { s with heap := h1, toks := tk } := fun {us z0 s h1 tk} hj hk => by
    obtain ⟨ac, j, r, b0, I⟩ := hj
    refine ⟨ac, j, r, b0, I.turned (it := it) hk hH hL young hcell fun p hp => ?_⟩
    rcases List.mem_append.mp hp with hp | hp
    · exact hpn p hp
    · rcases List.mem_cons.mp hp with e | e
      · rw [e]; exact Ne.symm hSi
      · exact fun z => hBi (by rw [← z]; exact (of_pinsAt e).1)
  intro r
  induction r with
  | zero =>
    intro j n z0 s hj hn hI hst
    obtain rfl : j = xs.length := by omega
    rw [List.take_length] at hI
    rw [den_yf]
    unfold Builtin.«proto.yield_from»
    try dsimp only
    refine seg_bind (wpAny_pure ?_)
    skip
    refine seg_bind (wpAny_attempt (wpAny_holding ?_))
    rw [if_neg Bool.false_ne_true, if_pos (by rfl)]
    refine wpAny_bind (wpAny_rule (wpAny_bind (q.done _ s _ _ ho hst fun e h1 tk hS hk => ?_)))
    obtain ⟨a, o, vs, rfl, e1, e2, e3, e4⟩ := hS
    try dsimp only
    refine seg_bind (wpAny_endsTurn e1 e2 ?_)
    try dsimp only
    rw [if_pos rfl]
    first
      | exact seg_bind (wpAny_rule (seg_bind (wpAny_field e1 e3 e4 (fin n z0 _ (by rw [List.length_append]; exact hn) (moved hI hk)))))
      | (rw [if_neg Bool.false_ne_true]; exact seg_bind (wpAny_rule (seg_bind (wpAny_field e1 e3 e4 (fin n z0 _ (by rw [List.length_append]; exact hn) (moved hI hk))))))
      | (rw [if_neg Bool.false_ne_true]; exact seg_bind (wpAny_pure (seg_bind (wpAny_rule (seg_bind (wpAny_field e1 e3 e4 (fin n z0 _ (by rw [List.length_append]; exact hn) (moved hI hk))))))))
  | succ r ih =>
    intro j n z0 s hj hn hI hst
    have hx : xs[j]? = some (xs[j]'(by omega)) := List.getElem?_eq_getElem (by omega)
    generalize xs[j]'(by omega) = x at hx
    obtain ⟨n, rfl⟩ : ∃ m, n = m + 1 := ⟨n - 1, by omega⟩
    have tl : (xs.take j).length = j := by rw [List.length_take]; omega
    rw [den_yf]
    unfold Builtin.«proto.yield_from»
    try dsimp only
    refine seg_bind (wpAny_pure ?_)
    skip
    refine seg_bind (wpAny_attempt (wpAny_holding ?_))
    rw [if_neg Bool.false_ne_true, if_pos (by rfl)]
    refine wpAny_bind (wpAny_rule (wpAny_bind (q.item _ j x s _ _ ho hx hst fun v h1 tk rv hst1 hk => ?_)))
    have G1 := moved (tk := tk) hI hk
    obtain ⟨oi, ei, ec⟩ := hT (j + 1) h1 hst1
    refine wpAny_pure ?_
    try dsimp only
    refine seg_bind (wpAny_typeOf (T := T) ⟨oi, ei, ec⟩ ?_)
    try dsimp only
    first
      | (refine seg_bind (wpAny_of_eq hcl ?_); refine seg_bind (wpAny_pure ?_))
      | refine seg_bind (wpAny_bind (wpAny_of_eq hcl (wpAny_pure ?_)))
      | refine seg_bind (wpAny_of_eq hcl ?_)
    try dsimp only
    refine seg_bind (wpAny_sleptOver ei ec hng ?_)
    refine seg_yield hsp rfl hgd ⟨ys ++ xs.take j, x, σ, H, by rw [List.length_append, tl]; exact hn, rv, G1, fun s2 z => ?_⟩
    have G2 := G1.wake oS oB rv z
    have hst2 : Sg (j + 1) s2.heap := q.frame (j + 1) h1 s2.heap hst1 fun b o hb e => z.rest b o (fun hm => ?_) (fun hm => ?_) e
    · obtain ⟨oj, ej, ejc⟩ := hT (j + 1) s2.heap hst2
      have et : ys ++ xs.take j ++ [x] = ys ++ xs.take (j + 1) := by
        rw [List.append_assoc, List.take_add_one, hx]; rfl
      rw [et] at G2
      show Seg _ _ _ _ n s2 _ (Builtin.Generator.sleptOver (.ref it) false >>= fun _ => _) fs s2
      refine seg_bind (wpAny_sleptOver ej ejc hng ?_)
      try dsimp only
      refine seg_bind (wpAny_pure ?_)
      exact seg_again (plainId_quiet plain_yf _) (ih (j + 1) n s2 s2 (by omega) (by omega) G2 hst2)
    · rcases hb with y | y
      · exact hSi (y.symm.trans hm)
      · exact y (by rw [hm]; exact G1.list.1)
    · rcases hb with y | y
      · exact hBi (by rw [← y]; exact hm)
      · obtain ⟨u, hu⟩ := (let ⟨_, _, _, q0, _⟩ := G1; q0 b hm)
        exact y (G1.held hm hu).2.1
theorem sj_from {e : Expr} {yp pos : Pos} {t : TYf} (he : YfE X e t) (hc : X.A.handled = none) (hi : interactive X.env = false := by rfl) : Sj X (.Expr (.YieldFrom e yp) pos) (tGFrom t) := fun S B A R n ys z0 c fs K J gd lv s σ H D at' hn k hj ht => by
  rw [exec_Expr X.env _ pos hi rfl]
  show Seg _ _ _ _ n z0 c (.at pos fun _ => ((eval e X.env >>= fun v => (standAt yp >>= fun _ => yieldFrom X.env v)) >>= fun y => dropValue (.YieldFrom e yp) pos y).wrap K J gd lv) fs s
  refine seg_at ?_
  obtain ⟨ac, j, r, b0, I⟩ := hj
  refine segw_bind2 ?_
  rw [at'.over]
  refine wpAny_mono (he.run _ s σ H _ I ht) (fun v s1 hv => ?_) fun x s1 hx => k.exc n z0 x s1 hx
  obtain ⟨T, hT, hne, hit⟩ := hv
  refine seg_at ?_
  show Seg _ _ _ _ n z0 c ((yieldFrom X.env v).wrap (fun b => (dropValue (.YieldFrom e yp) pos b).wrap K J gd lv) J gd lv) fs s1
  unfold yieldFrom
  refine seg_bind_wrap (wpAny_typeOf hT ?_)
  rw [if_neg (by rw [hne]; exact Bool.false_ne_true)]
  refine seg_bind_wrap (wpAny_holding ?_)
  rw [at'.over]
  refine wpAny_mono hit (fun u s2 hu => ?_) fun x s1 hx => k.exc n z0 x s1 hx
  obtain ⟨it, H1, xs, Sg, rfl, I2, y1, y2, y3, y4, y5, y6, y7, hle, hq⟩ := hu
  refine seg_call fun p => ?_
  have hSi : it ≠ S := fun z => y5 (S, lstObj ac j) (List.mem_append_right _ List.mem_cons_self) z.symm
  have hBi : it ∉ B := fun z => by
    obtain ⟨u, hu⟩ := b0 it z
    exact y5 (it, u) (List.mem_append_right _ (List.mem_cons_of_mem _ (mem_pinsAt z hu))) rfl
  refine seg_from (xs := xs) (ys := ys) at'.oS at'.oB y1 y2 y3 hSi hBi (fun p hp => y5 p (List.mem_append_left _ hp)) y4 y7 ?_ ?_ ?_ hle (fun n1 y0 s1 hn1 hG => ?_) xs.length 0 n z0 s2 (Nat.zero_add _) hn ⟨ac, j, by rw [List.take_zero, List.append_nil]; exact r, b0, I2⟩ y6
  · show (A.over c fs).handled = none
    rw [at'.over]; exact hc
  · show (splitAtGen fs).map _ = none
    rw [at'.split]; rfl
  · show (gd false || fs.any Frame.guarded) = false
    rw [at'.gd, at'.guard]; rfl
  · exact seg_leaf (.ok (.ret .none)) (k.ok n1 (ys ++ xs) y0 s1 .next hn1 ⟨σ, H1, hG, hq⟩)
end
end Zw

set_option Elab.async false
set_option linter.all false
set_option maxRecDepth 100000
set_option maxHeartbeats 1000000
/-! the promise of a generator def whose generator may be walked by a comprehension; no exception leaves it -/
namespace Zw
open PySem PySem.Spec PyProof.Rows L2 GenW
abbrev noX : XK := fun _ _ _ => False
/-- the end of a run: the frame is left, all that was handed out stands in S, and what the taker holds stands -/
def EndJ (P : Program) (w : World) (outer : List Env) (H : Hp) (s : Shared) (S : Addr) (B : List Addr) (Q : List V → Hp → Prop) : GenEnd := fun _ z0 r s1 =>
  ((r = .ok (.ret .none) ∨ r = .ok .next) ∧ ∃ H1 ys xs k, s1.os = s.os ∧ AllBare s1.gens ∧ Un (frs outer) [] H H1 s.heap s1.heap ∧ HOk P w H1 s1.heap ∧ H1 S = none ∧ s1.heap.get? S = some (lstObj xs k) ∧ Vals ys xs.toList ∧ ys.length ≤ sizeLine ∧ Q ys H1 ∧
    ∀ a ∈ B, ∀ u, z0.heap.get? a = some u → s1.heap.get? a = some u ∧ H1 a = none) ∨ ∃ e, r = .error e ∧ False
def ItemJ (s : Shared) (S : Addr) (B : List Addr) (a : Addr) (g : Nat) : Protocol := fun n z0 v s1 kap =>
  s1.os = s.os ∧ AllBare s1.gens ∧ s1.heap.NoLimit ∧ s1.heap.IsGen a g ∧ (∃ (xs : Array Value) (k : Nat), s1.heap.get? S = some (lstObj xs k) ∧ n + 1 + xs.size = sizeLine) ∧ (∀ b ∈ B, ∀ u, z0.heap.get? b = some u → s1.heap.get? b = some u) ∧
    ∀ s', Idle S B v s1 s' → kap (.send .none) s'
/-- a generator that was just made -/
def MadeJ (P : Program) (w : World) (k : Nat) (outer : List Env) (H : Hp) (s : Shared) (Q : List V → Hp → Prop) (u : Value) (s' : Shared) : Prop :=
  ∃ (a : Addr) (g : Nat) (c : Code), u = .ref a ∧ s.heap.objs.size ≤ a ∧ a < s'.heap.objs.size ∧ s'.heap.IsGen a g ∧ s'.gens[g]? = some (.fresh c) ∧ s'.os = s.os ∧ AllBare s'.gens ∧ s'.heap.NoLimit ∧ (∀ b o, s.heap.get? b = some o → s'.heap.get? b = some o) ∧
    ∀ (A : Around) (S : Addr) (B : List Addr) (s2 : Shared), Room k A → A.frames = some outer → s'.heap.objs.size ≤ S → (∀ b ∈ B, s'.heap.objs.size ≤ b) → S ∉ B → (∀ b o, s'.heap.get? b = some o → s2.heap.get? b = some o) → (∃ c, s2.heap.get? S = some (lstObj #[] c)) →
      (∀ b ∈ B, ∃ o, s2.heap.get? b = some o ∧ ∀ z, o.data ≠ .cell z) → s2.os = s.os → AllBare s2.gens → Seg (model P w) A (EndJ P w outer H s S B Q) (ItemJ s S B a g) sizeLine s2 c ((model P w).den c) [] s2
structure GFnJ (P : Program) (w : World) (K : PySem.W.Frag) (mg : Str → Option Value) (base : Heap) (k : Nat) (f : Addr) (fd : FuncData) (ps : List Str) (sp : SpG) : Prop where
  len : ∀ vs H Q E, sp vs H Q E → vs.length = ps.length
  run : ∀ (A : Around) (outer : List Env) (s : Shared) (H : Hp) (args : Args) (us : List Value) (vs : List V) (Q : List V → Hp → Prop), Room k A → Env0 P w K mg base A outer s H → BindsTo s fd args (ps.zip us) → Vals vs us → sp vs H Q noX →
    codeAny (model P w) A (.call (.ref f) args) (fun r s' => match r with | .ok (.ret u) => MadeJ P w k outer H s Q u s' | _ => False) s
theorem gfnJ_of {P : Program} {w : World} {K : PySem.W.Frag} {mg : Str → Option Value} {base : Heap} {k : Nat} {f : Addr} {name qual : Str} {params : Arguments} {body : List Stmt} {scope : Scope} {dV kV doc pm cdv ct oc : Value} {an od : Option Addr}
    {osl : Array (Option Value)} {N ps : List Str} {sp : SpG} (lk : K.lookup f = some ⟨oc, od, .func (PySem.W.fnOf name qual params body scope dV kV doc pm an cdv ct), osl⟩) (hcd : PySem.W.codeIn K cdv qual = true) (Sc : GScope N ps scope)
    (len : ∀ vs H Q E, sp vs H Q E → vs.length = ps.length)
    (hbody : ∀ (A : Around) (outer : List Env) (s : Shared) (H : Hp) (vs : List V) (Q : List V → Hp → Prop) (pn : List (Addr × Obj)), Room k (A.deeper (envOfC qual scope s.heap.objs.size f cdv)) → sp vs H Q noX →
      ∃ t, Bj (gcxOf P w K mg base N qual scope f cdv A outer s H noX pn) body t ∧ t { nx := fun ys _ H' => Q ys H', rt := fun ys v H' => v = .non ∧ Q ys H' } [] (start N vs) H) :
    GFnJ P w K mg base (k + 1) f (PySem.W.fnOf name qual params body scope dV kV doc pm an cdv ct) ps sp := by
  refine ⟨len, fun A outer s H args us vs Q hr e0 hb r hsp => ?_⟩
  have hl := len _ _ _ _ hsp
  have inK : K.In s.heap := e0.mod.kin.keeps fun b o e => (e0.bs b o e).1
  have noL : s.heap.NoLimit := e0.mod.nolimit.keeps fun b o e => (e0.bs b o e).1
  have kinds : ∀ y ∈ ps.zip us, scope.names.lookup y.1 = some .local ∨ (scope.names.lookup y.1 = some .cell ∧ ((cellsFrom (s.heap.objs.size + 1) scope.names []).lookup y.1).isSome = true) := fun ⟨m, v⟩ hy =>
    (Sc.par m (List.of_mem_zip hy).1).imp id fun q => ⟨q, PySem.W.cellsFrom_some _ _ _ (.inl q)⟩
  refine codeAny_call_generator hr.depth (inK _ _ lk) rfl Sc.co Sc.gen rfl (PySem.W.codeRec_of inK hcd) (hb _ _ _ _ ?_)
  refine wpAny_newFunctionEnv_cells Sc.kind kinds fun env he s1 x => ?_
  subst he
  refine ⟨noL.keeps x.toInCall.keep, ?_⟩
  obtain ⟨h1, tk, es1, hk1⟩ := x.done
  have os1 : s1.os = s.os := by rw [es1]
  have gs1 : s1.gens = s.gens := by rw [es1]
  have up : s.heap.objs.size < s1.heap.objs.size := x.toInCall.ns.lt
  have kp : ∀ b o, s.heap.get? b = some o → s1.heap.get? b = some o := x.toInCall.keep
  have main : ∀ (go : Obj) (nm qn : Value) (tk2 : Nat), go.cls = .type "generator" → go.data = .fields #[.int s1.gens.size 0, nm, qn] → go.slots = #[] → (∀ h : Heap, (h.push go).get? h.objs.size = some go) →
      MadeJ P w (k + 1) outer H s Q (.ref s1.heap.objs.size) { s1 with gens := s1.gens.push (.fresh (.func body (envOfC qual scope s.heap.objs.size f cdv))), toks := tk2, heap := s1.heap.push go } := by
    intro go nm qn tk2 c1 c2 c3 gp
    have isG : ∀ h : Heap, h.get? s1.heap.objs.size = some go → h.IsGen s1.heap.objs.size s1.gens.size := fun h e => ⟨go, nm, qn, e, c1, c2, c3⟩
    have at1 : (s1.heap.push go).get? s1.heap.objs.size = some go := gp _
    refine ⟨s1.heap.objs.size, s1.gens.size, _, rfl, Nat.le_of_lt up, ?_, isG _ at1, Array.getElem?_push_size .., os1, ?_, (noL.keeps kp).keeps fun b o e => Heap.get?_push_of_some _ e, fun b o e => Heap.get?_push_of_some _ (kp b o e), ?_⟩
    · show _ < (s1.heap.push _).objs.size
      rw [Heap.size_push]; exact Nat.lt_succ_self _
    · exact AllBare.push (by rw [gs1]; exact e0.bare) rfl
    intro Aw Sx B s2 hrw hfr hSx hBx hSB hk2 hSo hBo hos hba
    obtain ⟨t, ht, hq⟩ := hbody Aw outer s H vs Q [(s1.heap.objs.size, go)] (hrw.deeper _) hsp
    have I1 : Inv (gcxOf P w K mg base N qual scope f cdv Aw outer s H noX []) [] (start N vs) H s1 := inv_startG Sc hrw.hd ⟨hfr, e0.mod, e0.bs, e0.bsz, e0.funs, e0.frf, e0.hok, e0.bare⟩ hl r x
    have kp2 : ∀ b o, s1.heap.get? b = some o → s2.heap.get? b = some o := fun b o e => hk2 b o (Heap.get?_push_of_some _ e)
    have I2 : Inv (gcxOf P w K mg base N qual scope f cdv Aw outer s H noX []) [] (start N vs) H s2 := I1.call' (ch := []) (hos.trans os1.symm) (Un.kept kp2) (I1.hok.kept kp2) hba fun b z => nomatch z
    have big : ∀ b, (s1.heap.push go).objs.size ≤ b → s1.heap.objs.size < b := fun b hb => by rw [Heap.size_push] at hb; exact hb
    have young : ∀ b, s1.heap.objs.size ≤ b → H b = none ∧ b ≠ s.heap.objs.size ∧ b ∉ frs outer ∧ s.heap.objs.size ≤ b ∧ ∀ y c, (cellsFrom (s.heap.objs.size + 1) scope.names []).lookup y = some c → c ≠ b := fun b hb =>
      ⟨I1.hok.fresh hb, Nat.ne_of_gt (Nat.lt_of_lt_of_le up hb), I1.nofs hb, Nat.le_trans (Nat.le_of_lt up) hb, fun y c e z => by
        obtain ⟨v, ob, ho, _⟩ := I1.cell y c e
        have lt := Heap.lt_size ho
        rw [z] at lt
        exact Nat.lt_irrefl _ (Nat.lt_of_lt_of_le lt hb)⟩
    have off : ∀ b, s1.heap.objs.size < b → Off (gcxOf P w K mg base N qual scope f cdv Aw outer s H noX [(s1.heap.objs.size, go)]) b := fun b hb => by
      obtain ⟨_, y2, _, y4, y5⟩ := young b (Nat.le_of_lt hb)
      exact ⟨y4, y2, y5, fun p hp => by rw [List.mem_singleton.mp hp]; exact Nat.ne_of_lt hb⟩
    obtain ⟨cS, eS⟩ := hSo
    have eg : s2.heap.get? s1.heap.objs.size = some go := hk2 s1.heap.objs.size go at1
    have G : Gj (gcxOf P w K mg base N qual scope f cdv Aw outer s H noX [(s1.heap.objs.size, go)]) Sx B [] (start N vs) H s2 s2 := by
      refine ⟨#[], cS, .nil, fun b hb => (hBo b hb).imp fun o q => q.1, I2.pinnedG fun p hp => ?_⟩
      rcases List.mem_append.mp hp with z | z
      · rw [List.mem_singleton.mp z]
        obtain ⟨y1, y2, y3, _, _⟩ := young s1.heap.objs.size (Nat.le_refl _)
        exact ⟨eg, y1, y2, y3, fun v q => by rw [c2] at q; cases q⟩
      · rcases List.mem_cons.mp z with z | z
        · rw [z]
          obtain ⟨y1, y2, y3, _, _⟩ := young Sx (Nat.le_of_lt (big _ hSx))
          exact ⟨eS, y1, y2, y3, fun v q => nomatch q⟩
        · obtain ⟨q1, q2⟩ := of_pinsAt z
          obtain ⟨y1, y2, y3, _, _⟩ := young p.1 (Nat.le_of_lt (big _ (hBx _ q1)))
          obtain ⟨o, ho, hc⟩ := hBo _ q1
          have eo : p.2 = o := Option.some.inj (q2.symm.trans ho)
          exact ⟨q2, y1, y2, y3, by rw [eo]; exact hc⟩
    have genAt : ∀ {ys : List V} {z0 s' : Shared} {σ' : L2.St} {H' : Hp}, Gj (gcxOf P w K mg base N qual scope f cdv Aw outer s H noX [(s1.heap.objs.size, go)]) Sx B ys σ' H' z0 s' → s'.heap.IsGen s1.heap.objs.size s1.gens.size := fun {ys z0 s' σ' H'} hj => by
      obtain ⟨_, _, _, _, J⟩ := hj
      exact isG _ (J.pin (s1.heap.objs.size, go) (List.mem_append_left _ (List.mem_singleton.mpr rfl))).1
    refine seg_func (seg_imp (R := Rj (gcxOf P w K mg base N qual scope f cdv Aw outer s H noX [(s1.heap.objs.size, go)]) Sx B (fun ys v H' => v = .non ∧ Q ys H')) (Y := Yj (gcxOf P w K mg base N qual scope f cdv Aw outer s H noX [(s1.heap.objs.size, go)]) Sx B) (fun n z0 r s' hR => ?_) (fun n z0 v s' kap kap' hkk hY => ?_) sizeLine ?_)
    · match r, hR with
      | .ok (.ret u), ⟨ys, v, σ1, H1, hn, hG, rv, ev, hQ⟩ =>
        subst ev
        obtain rfl : u = Value.none := rv
        obtain ⟨a1, xs, j, ra, ea⟩ := hG.list
        have hB2 : ∀ a ∈ B, ∀ u, z0.heap.get? a = some u → s'.heap.get? a = some u ∧ H1 a = none := fun a ha u hu => ⟨(hG.held ha hu).1, (hG.held ha hu).2.1⟩
        obtain ⟨_, _, _, _, J⟩ := hG
        exact .inl ⟨.inl rfl, H1, ys, xs, j, J.os, J.bare, J.base, J.hok, a1, ea, ra, by omega, hQ, hB2⟩
    · obtain ⟨ys, y, σ1, H1, hn, h2, hG, h3⟩ := hY
      obtain ⟨_, xs, j, ra, ea⟩ := hG.list
      have hg := genAt hG
      have hB2 : ∀ a ∈ B, ∀ u, z0.heap.get? a = some u → s'.heap.get? a = some u := fun a ha u hu => (hG.held ha hu).1
      obtain ⟨_, _, _, _, J⟩ := hG
      have hz : xs.size = ys.length := by
        have q1 := ra.length
        have q2 : xs.toList.length = xs.size := Array.length_toList
        omega
      exact ⟨J.os, J.bare, J.nolimit, hg, ⟨xs, j, ea, by rw [hz]; exact hn⟩, hB2, fun s3 z => hkk _ _ (h3 s3 z)⟩
    · refine ht Sx B Aw _ sizeLine [] s2 _ [] _ _ id id s2 (start N vs) H _ ⟨off _ (big _ hSx), fun b hb => off _ (big _ (hBx b hb)), over_func, rfl, rfl, rfl⟩ (Nat.add_zero _) ⟨fun n ys z0 s' fl hn hf => ?_, fun n z0 e s' hx => ?_⟩ G hq
      · match fl, hf with
        | .next, ⟨σ1, H1, hG, hQ⟩ => exact seg_end (.ok (.ret .none)) ⟨ys, .non, σ1, H1, hn, hG, rfl, rfl, hQ⟩
        | .brk, ⟨_, _, _, q⟩ => exact q.elim
        | .cont, ⟨_, _, _, q⟩ => exact q.elim
        | .ret u, ⟨v, σ1, H1, hG, rv, ev, hQ⟩ => exact seg_end (.ok (.ret u)) ⟨ys, v, σ1, H1, hn, hG, rv, ev, hQ⟩
      · refine seg_wrap ?_
        rw [over_func]
        refine wpAny_mono (show wpAny (model P w) (Aw.deeper (envOfC qual scope s.heap.objs.size f cdv)) (leaving (envOfC qual scope s.heap.objs.size f cdv) e) (fun _ s'' => CX P w outer H s noX e s'' ∧ ∀ p ∈ [(s1.heap.objs.size, go)], s''.heap.get? p.1 = some p.2) (fun _ _ => False) s' from hx) (fun _ s'' q => ?_) fun _ s'' q => q.elim
        obtain ⟨⟨_, _, _, _, _, _, _, _, _, _, _, _, hW⟩, _⟩ := q
        exact hW.elim
  exact main _ _ _ _ rfl rfl rfl fun h => Heap.get?_push_size _ rfl
end Zw

set_option Elab.async false
set_option linter.all false
set_option maxRecDepth 100000
set_option maxHeartbeats 1000000
/-! [x for x in g(..)] -/
namespace Zw
open PySem PySem.Spec PyProof.Rows L2 GenW
section
variable {X : Cx} {k : Nat} {f : Addr} {fd : FuncData} {ps : List Str} {sp : SpG} {dvs : List V} {ds : List Value} {x : Str} {p pos pos' : Pos} {ta : TE}
structure PGenJ (X : Cx) (k : Nat) (e : Expr) (tg : TGen) : Prop where
  run : ∀ (pins : List (Addr × Obj)) (s : Shared) (σ : L2.St) (H : Hp) (cont : List V → Hp → Prop), Inv X pins σ H s → tg σ H cont → wpAny (model X.prog X.w) X.A (eval e X.env)
    (fun u s' => ∃ H1 sc, Inv X pins σ H1 sc ∧ MadeJ X.prog X.w k X.stack H1 sc cont u s') X.xe s
theorem pgenJ_call {e : Expr} {es : List Expr} {t : TA} (F : GFnJ X.prog X.w X.K X.mg X.base k f fd ps sp) (hr : Room k X.A) (hg : Gl X x) (hm : X.mg x = some (.ref f)) (hk : PySem.W.keepIn X.K (.ref f) = true) (hb : Binds X.K fd ps ds) (hd : Vals dvs ds)
    (ha : PA X (e :: es) t) (hdb : (x == ("__debug__" : Str)) = false := by decide) (he : starEach (e :: es) X.env = (false, eval e X.env) :: starEach es X.env := by rfl) (hpl : (backTo pos' (starEach es X.env)).any (·.1) = false := by rfl) :
    PGenJ X k (.Call (.Name x p) (e :: es) [] pos') (tCallG sp dvs noX t) := by
  refine ⟨fun pins s σ H cont I h => wpAny_Call_Name_kw (ld_glob I hg hm ?_ hdb)⟩
  refine PySem.W.callWith_K (h₀ := X.base) I.ok.mod.kin hk (thn (ha.run pos' pins s σ H _ I h) fun us s1 ⟨vs, H1, I1, r, q⟩ => ⟨I1.kIn, ?_⟩) he hpl
  have r2 : Vals (vs ++ dvs) (us ++ ds) := r.append hd
  refine wpAny_call (codeAny_mono (F.run X.A X.stack s1 H1 ⟨us, []⟩ (us ++ ds) (vs ++ dvs) cont hr I1.env0 (hb s1 us I1.kIn (by rw [← r2.length]; exact F.len _ _ _ _ q)) r2 q) fun r s' hq => ?_)
  match r, hq with
  | .ok (.ret u), hq => exact ⟨H1, s1, I1, hq⟩
/-- what the loop has at the head of a turn -/
def Turns (P : Program) (w : World) (A : Around) (outer : List Env) (H : Hp) (sc : Shared) (S L a : Addr) (g : Nat) (Q : List V → Hp → Prop) (m : Nat) (s : Shared) : Prop :=
  s.heap.IsGen a g ∧ s.heap.NoLimit ∧ (∃ mp, s.heap.Ns L mp) ∧ ∃ gs, s.gens[g]? = some gs ∧ gs.Goes (model P w) A.in1 (EndJ P w outer H sc S [L] Q) (ItemJ sc S [L] a g) m (.send .none) (s.setGen g .running)
theorem push_none : ∀ (names : List (Str × NameKind)) (h : Heap), (∀ y ∈ names, y.2 = .local) → pushCells h names = h
  | [], _, _ => rfl
  | (n, k) :: r, h, q => by
    have e : k = .local := q (n, k) List.mem_cons_self
    subst e
    unfold pushCells
    rw [if_neg (by decide)]
    exact push_none r h fun y hy => q y (List.mem_cons_of_mem _ hy)
theorem pe_lcGen {e : Expr} {tg : TGen} {scope : Scope} {p1 p2 : Pos} (h : PGenJ X k e tg) (hr : Room (k + 3) X.A) (hkind : scope.kind = .function) (hlk : scope.names.lookup x = some .local) (hnm : ∀ y ∈ scope.names, y.2 = .local ∧ scope.names.lookup y.1 = some .local) (hs : ∀ y, foldedSetIterable e X.env y = pure y := by intro _; rfl) (hdb : (x == ("__debug__" : Str)) = false := by decide) :
    PE X (.ListComp (.Name x p1) [⟨.Name x p2, e, [], 0⟩] scope pos) (tListG tg) := by
  refine ⟨fun pins s σ H Q I hq => ?_⟩
  rw [eval_ListComp]
  refine wpAny_comprehension_free (use := none) rfl hs (closure_ok fun y hy e => ?_) hkind (fun y hy e => ?_) (thn (h.run pins s σ H _ I hq) fun u s1 ⟨H1, sc, I1, a, g, c, eu, ha1, ha2, hg, hgs, hos, hb, hl, hkp, wake⟩ => ?_)
  · rw [(hnm y hy).1] at e
    cases e
  · exact (hnm y hy).2
  subst eu
  refine wpAny_pyIter_gen hg ?_
  refine wpAny_newObj_type (newEnv_comp ?_) (by show 0 ≤ sizeLine; decide)
  generalize hS : s1.heap.objs.size = S
  generalize hs2 : ({ s1 with heap := s1.heap.push { cls := .type "list", data := .seq ([] : List Value).toArray } } : Shared) = s2
  have h2 : s2.heap = s1.heap.push { cls := .type "list", data := .seq ([] : List Value).toArray } := by rw [← hs2]
  have g2 : s2.gens = s1.gens := by rw [← hs2]
  have o2 : s2.os = s1.os := by rw [← hs2]
  have z2 : s2.heap.objs.size = S + 1 := by rw [h2, Heap.size_push, hS]
  have eS2 : s2.heap.get? S = some (lstObj #[] 0) := by rw [h2, ← hS]; exact Heap.get?_push_size _ rfl
  generalize hL : s2.heap.objs.size = L at *
  have hpc : pushCells (s2.heap.push { cls := .type "dict", data := .dict #[] }) scope.names = s2.heap.push { cls := .type "dict", data := .dict #[] } := push_none _ _ fun y hy => (hnm y hy).1
  have k12 : ∀ b o, s1.heap.get? b = some o → s2.heap.get? b = some o := fun b o q => by rw [h2]; exact Heap.get?_push_of_some _ q
  generalize hce : compEnvC scope (cellsFrom (L + 1) scope.names (cloFrom X.env.cells scope.names [])) L X.env = ce
  have ceL : ce.locals = L := by rw [← hce]; rfl
  have cek : ce.kindOf x = some .local := by
    rw [← hce]
    exact lookup_relabel_local hlk
  have cef : ce.scope.kind = .function := by rw [← hce]; exact hkind
  generalize hs3 : ({ s2 with heap := pushCells (s2.heap.push { cls := .type "dict", data := .dict #[] }) scope.names } : Shared) = s3
  have h3 : s3.heap = s2.heap.push { cls := .type "dict", data := .dict #[] } := by rw [← hs3]; exact hpc
  have g3 : s3.gens = s1.gens := by rw [← hs3]; exact g2
  have o3 : s3.os = s1.os := by rw [← hs3]; exact o2
  have k23 : ∀ b o, s2.heap.get? b = some o → s3.heap.get? b = some o := fun b o q => by rw [h3]; exact Heap.get?_push_of_some _ q
  have k13 : ∀ b o, s1.heap.get? b = some o → s3.heap.get? b = some o := fun b o q => k23 b o (k12 b o q)
  have eL3 : s3.heap.get? L = some { cls := .type "dict", data := .dict #[] } := by rw [h3, ← hL]; exact Heap.get?_push_size _ rfl
  have hSL : S ≠ L := by omega
  have haS : a ≠ S := Nat.ne_of_lt (Nat.lt_of_lt_of_eq ha2 hS)
  have haL : a ≠ L := Nat.ne_of_lt (Nat.lt_trans (Nat.lt_of_lt_of_eq ha2 hS) (by omega))
  have hcS : cStatics < s1.heap.objs.size := let ⟨_, hn, _⟩ := hl; hn.lt
  have start0 : Turns X.prog X.w X.A X.stack H1 sc S L a g (fun out H2 => ∀ p, H2 p = none → Q (.ref p) (upd H2 p (.lst out))) sizeLine s3 := by
    refine ⟨hg.keeps k13, hl.keeps k13, ⟨_, _, #[], _, eL3, rfl, ?_, fun _ => rfl⟩, .fresh c, by rw [g3]; exact hgs, rfl, ?_⟩
    · exact fun z hz => by simp at hz
    · refine wake X.A.in1 S [L] _ ⟨hr.hd, ?_, ?_⟩ I1.ok.frames (by omega) (fun b hb => by rw [List.mem_singleton.mp hb]; omega) (fun z => hSL (List.mem_singleton.mp z)) (fun b o q => k13 b o q) ⟨0, k23 _ _ eS2⟩ (fun b hb => by rw [List.mem_singleton.mp hb]; exact ⟨_, eL3, fun z q => nomatch q⟩) ?_ ?_
      · have := hr.dp
        show X.A.depth + 3 * k + 5 < _
        omega
      · have := hr.un
        show X.A.units + 1 + 16 * k + 200 < _
        omega
      · show s3.os = sc.os
        rw [o3]; exact hos
      · exact allBare_setGen (s := s3) (by rw [g3]; exact hb) rfl
  have loop : codeAny (model X.prog X.w) X.A (.compLoop (.ListComp (.Name x p1) [⟨.Name x p2, e, [], 0⟩] scope pos) 0 (.ref a) (.ref S) ce) (compPost (model X.prog X.w) X.A X.xe none (EP X pins σ Q) (.ref S) L) s3 := by
    refine compLoop_any (Turns X.prog X.w X.A X.stack H1 sc S L a g (fun out H2 => ∀ p, H2 p = none → Q (.ref p) (upd H2 p (.lst out)))) ?_ sizeLine start0
    rintro m s4 ⟨t1, t2, ⟨mp, t3⟩, gs, t4, t5⟩
    have t5' : gs.Goes (model X.prog X.w) X.A.in1 (fun n z0 r s1 => ((r = .ok (.ret .none) ∨ r = .ok .next) ∧ (∃ H2 ys xs j, s1.os = sc.os ∧ AllBare s1.gens ∧ Un (frs X.stack) [] H1 H2 sc.heap s1.heap ∧ HOk X.prog X.w H2 s1.heap ∧ H2 S = none ∧ s1.heap.get? S = some (lstObj xs j) ∧ Vals ys xs.toList ∧ ys.length ≤ sizeLine ∧ (∀ p, H2 p = none → Q (.ref p) (upd H2 p (.lst ys))) ∧
        ∀ b ∈ [L], ∀ u, z0.heap.get? b = some u → s1.heap.get? b = some u ∧ H2 b = none)) ∨ ∃ e, r = .error e ∧ False) (ItemJ sc S [L] a g) m (.send .none) (s4.setGen g .running) := by
      exact t5
    obtain ⟨uL, es, ep, eL4, dL, kL, fL⟩ := id t3
    have hgl : g < s4.gens.size := (Array.getElem?_eq_some_iff.mp t4).1
    refine wpAny_gsz (n := g + 1) hgl (next_genG (A := X.A) hr.hd t2 (by have := hr.dp; omega) t1 t4 t5' (fun v s5 gs' hbare hv => ?_) (fun s5 hp h' hk => ?_) fun e s5 he => he.elim)
    · intro hsz
      obtain ⟨v1, v2, v3, v4, ⟨xs, j, v5, v6⟩, v7, v8⟩ := hv
      have eL5 : s5.heap.get? L = some uL := v7 L (List.mem_singleton.mpr rfl) uL eL4
      have nL5 : s5.heap.Ns ce.locals mp := by rw [ceL]; exact ⟨uL, es, ep, eL5, dL, kL, fL⟩
      have lg : g < s5.gens.size := by
        have q : (s5.setGen g gs').gens.size = s5.gens.size := setGen_size _ _ _
        have hsz' : g + 1 ≤ (s5.setGen g gs').gens.size := hsz
        omega
      obtain ⟨go, nm, qn, eg5, c1, c2, c3⟩ := id v4
      refine go_of (o := go) (n := "generator") eg5 c1 c2 (by decide) ?_
      refine wpAny_assign_Name (wpAny_storeName_local cek (s := s5.setGen g gs') nL5 (fun h6 n6 sb6 => ?_) (by rw [cef]; rfl))
      refine wpAny_tests_nil ?_
      rw [if_pos rfl]
      have eS6 : h6.get? S = some (lstObj xs j) := (sb6.2 S (by rw [ceL]; exact hSL)).trans v5
      refine wpAny_Name (wpAny_loadName_local cef cek (m := fun y => if y = x then some v else mp y) n6 (if_pos rfl) ?_) hdb
      refine append_at (hsz := by omega) eS6 fun h7 sb7 e7 => ?_
      have keep7 : ∀ b o, b ≠ S → b ∉ [L] → s5.heap.get? b = some o → h7.get? b = some o := fun b o h1 h2 q =>
        (sb7.2 b h1).trans ((sb6.2 b (by rw [ceL]; exact fun z => h2 (List.mem_singleton.mpr z))).trans q)
      have n7 : h7.Ns L (fun y => if y = x then some v else mp y) := by
        rw [ceL] at n6
        exact n6.sameBut sb7 (Ne.symm hSL)
      have idle : Idle S [L] v s5 (({ s5.setGen g gs' with heap := h7, toks := s5.toks + 1 } : Shared).setGen g .running) := by
        refine ⟨rfl, allBare_setGen (s := s5.setGen g gs') (allBare_setGen (s := s5) v2 hbare) rfl, keep7, fun ys i q => ?_, fun b hb u hu => ?_⟩
        · rw [v5] at q
          cases q
          exact ⟨_, e7⟩
        · rw [List.mem_singleton.mp hb]
          obtain ⟨o6, _, _, q1, q2, _⟩ := n7
          exact ⟨o6, q1, fun z q => by rw [q2] at q; cases q⟩
      have go7 := v8 _ idle
      have kg : ∀ b o, b ≠ S → b ≠ L → s5.heap.get? b = some o → h7.get? b = some o := fun b o h1 h2 q => keep7 b o h1 (fun z => h2 (List.mem_singleton.mp z)) q
      have hcs : cStatics ≠ S := Nat.ne_of_lt (Nat.lt_of_lt_of_eq hcS hS)
      have hcl : cStatics ≠ L := Nat.ne_of_lt (Nat.lt_trans (Nat.lt_of_lt_of_eq hcS hS) (by omega))
      cases m with
      | zero => exact False.elim go7
      | succ m =>
        refine ⟨m, Nat.lt_succ_self m, ?_, ?_, ⟨_, n7⟩, gs', setGen_at lg, ?_⟩
        · exact ⟨go, nm, qn, kg a go haS haL eg5, c1, c2, c3⟩
        · obtain ⟨mc, hns, hnn⟩ := v3
          exact ⟨mc, hns.at' fun o q => kg _ o hcs hcl q, hnn⟩
        · exact go7
    · intro hsz
      obtain ⟨H2, ys, xs, j, e1, e2, e3, e4, e5, e6, e7, e8, e9, e10⟩ := hp
      obtain ⟨eL5, nL⟩ := e10 L (List.mem_singleton.mpr rfl) uL eL4
      have szL : sc.heap.objs.size ≤ L := Nat.le_trans ha1 (Nat.le_of_lt (Nat.lt_trans (Nat.lt_of_lt_of_eq ha2 hS) (by omega)))
      have szS : sc.heap.objs.size ≤ S := Nat.le_trans ha1 (Nat.le_of_lt (Nat.lt_of_lt_of_eq ha2 hS))
      have I5 : Inv X pins σ (upd H2 S (.lst ys)) { s5.setGen g .finished with heap := h' } := I1.drained szS e8 (hk _ _ e6) e7 .nil e1 (allBare_setGen e2 rfl) (e3.trans (Un.kept hk)) (e4.kept hk) e5
      refine ⟨mp, ⟨uL, es, ep, hk _ _ eL5, dL, kL, fL⟩, fun h'' sb => ?_⟩
      obtain ⟨f0, f1, f2, f3, f4, f5⟩ := I1.fpOk (H' := upd H2 S (.lst ys)) (b := L) szL (by rw [upd_ne (Ne.symm hSL)]; exact nL)
      exact ⟨.ref S, upd H2 S (.lst ys), I5.turned (t' := s5.toks) (fun b o hb e => (sb.2 b hb).trans e) f0 f1 f3 f4 f5, rfl, e9 S e5⟩
  subst hce
  show codeAny _ _ (.compStart (.ListComp (.Name x p1) [⟨.Name x p2, e, [], 0⟩] scope pos) 0 (.ref a) (.ref S) (compEnvC scope (cellsFrom (L + 1) scope.names (cloFrom X.env.cells scope.names [])) L X.env)) (compPost (model X.prog X.w) X.A X.xe none (EP X pins σ Q) (.ref S) L) s3
  exact codeAny_compStart_list loop (wpAny_pyIter_gen (hg.keeps k13) loop)
end
end Zw

set_option Elab.async false
set_option linter.all false
set_option maxRecDepth 100000
set_option maxHeartbeats 1000000
/-! generator defs that a comprehension may walk, on data -/
namespace Z
open PySem PySem.Spec PyProof.Rows L2
section
variable {P : Program} {w : World} {K : PySem.W.Frag} {mg : Str → Option Value} {base : Heap} {β : Type} [Rp β]
theorem def_okJ {x qual : Str} {args : Arguments} {body : List Stmt} {scope : Scope} {dvs : List V} {kws : List (Str × V)} {f : Addr} {fd : FuncData} {N ps : List Str} {k : Nat} {G : Own → List Cell → (List β → Prop) → Prop}
    (Fn : FunD K x qual args body scope dvs kws f fd) (Sc : GScope N ps scope) (len : ∀ Γ cs R, G Γ cs R → cs.length = ps.length)
    (hb : ∀ (cdv : Value) (A : Around) (outer : List PySem.Env) (s : Shared) (H : Hp) (pn : List (Addr × Obj)), Room k (A.deeper (envOfC qual scope s.heap.objs.size f cdv)) →
      ∀ (Γ : Own) (cs : List Cell) (R : List β → Prop), G Γ cs R → ∃ t, Zw.Bj (gcxOf P w K mg base N qual scope f cdv A outer s H Zw.noX pn) body t ∧
        ∀ (Δ0 : Gh) (D : GEnds), (∀ (out : List V) (σ : L2.St) (H' : Hp) (xs : List β), R xs → Ext Δ0 H H' → All2 (fun u a => Rp.rp K Δ0 H' u a) out xs → D.nx out σ H') → WpG K Δ0 H Γ [] (env0 N cs) t D []) :
    Zw.GFnJ P w K mg base (k + 1) f fd ps (spG K G) := by
  obtain ⟨oc, od, dV, kV, doc, pm, an, cdv, ct, osl, rfl, lk, hcd, _, _⟩ := Fn.ex
  refine Zw.gfnJ_of lk hcd Sc (fun vs H Q E h => ?_) fun A outer s H vs Q pn hr h => ?_
  · obtain ⟨Γ, Δ, cs, R, g, _, _, a, _⟩ := h
    rw [All2.len a]
    exact len Γ cs R g
  · obtain ⟨Γ, Δ, cs, R, g, sa, hh, a, q⟩ := h
    obtain ⟨t, ht, hw⟩ := hb cdv A outer s H pn hr Γ cs R g
    exact ⟨t, ht, hw Δ _ (fun out σ H' xs rx e q2 => q out H' xs rx e q2) _ H ⟨Δ, sa, hh, start_ok a, fun z hz => (nomatch hz), Ext.refl hh, fun _ _ z => z, fun x n m => absurd n m⟩⟩
end
end Z

set_option Elab.async false
set_option linter.all false
set_option maxRecDepth 100000
set_option maxHeartbeats 1000000
/-! own lists lengthened by lists, turned lists, bools in lists -/
namespace Z
open PySem PySem.Spec PyProof.Rows L2
section
variable {K : PySem.W.Frag} {Δ0 : Gh} {H0 : Hp} {Γ : Own} {F : List (V × Cell)} {ρ : Z.Env} {ta tb te : TE} {tz : TS} {D : Ends} {α : Type} [Rp α] [Flat α]
theorem flat_all2 {Δ : Gh} {H : Hp} : ∀ {vs : List V} {xs : List α}, All2 (fun u a => Rp.rp K Δ H u a) vs xs → vs = xs.map Flat.val
  | [], [], _ => rfl
  | [], _ :: _, q => q.elim
  | _ :: _, [], q => q.elim
  | _ :: _, _ :: _, q => by rw [List.map_cons, Flat.iff.mp q.1, flat_all2 q.2]
/-- name.extend(list), the last of a block -/
theorem wp_extL {p : Addr} {xs : List α} {P : FL α → Prop} (o : OwnP Δ0 Γ p) (hz : ∀ ys, P ys → xs.length + ys.l.length ≤ 50000) (ho : Ev K (OwnL p xs :: Γ) ta ρ (Is (⟨p⟩ : Loc))) (h : Ev K (OwnL p xs :: Γ) te ρ P)
    (k : ∀ ys, P ys → Wp K Δ0 H0 (OwnL p (xs ++ ys.l) :: Γ) F ρ tNext D) : Wp K Δ0 H0 (OwnL p xs :: Γ) F ρ (tDrop (tBM K "list" rExtend ta (tCons te tNil))) D := fun σ H ⟨Δ, s, hh, e, f, e0, s1, s2⟩ =>
  ho Δ σ H _ s hh e fun w H1 b pb e1 r1 => by
    have eb : b = ⟨p⟩ := pb
    subst eb
    have ew : w = .ref p := r1
    subst ew
    obtain ⟨u, hu, iu⟩ := e1.2 p _ (s _ List.mem_cons_self)
    have iu' : u = HO.lst _ := iu
    subst iu'
    refine ⟨.inl ⟨rfl, _, SqL.of hu⟩, h Δ σ H1 _ s e1.2 (e.mono e1.1) fun v H2 a pa e2 r2 => ?_⟩
    have e3 := e1.trans e2
    obtain ⟨b, vs, rfl, nb, hb, q⟩ := r2
    have ev := flat_all2 q
    subst ev
    have st : Stt K Δ0 H0 (OwnL p xs :: Γ) F ρ σ H2 := ⟨Δ, s, e3.2, e.mono e3.1, fun q hq => q.2.r.mono e3.1 (f q hq), ext0 e0 s1 s2 e3, s1, s2⟩
    obtain ⟨hp, st'⟩ := own_putO (o2 := .lst ((xs ++ a.l).map Flat.val)) o st
    refine ⟨p, b, _, _, rfl, rfl, hp, hb, ?_, ?_⟩
    · rw [List.length_map, List.length_map]
      exact Nat.le_trans (hz a pa) (by decide)
    · rw [← List.map_append]
      exact k a pa σ _ st'
/-- list(name), the list one's own -/
theorem ev_lstO {p : Addr} {xs : List α} (hm : OwnL p xs ∈ Γ) (ho : Ev K Γ ta ρ (Is (⟨p⟩ : Loc))) : Ev K Γ (tCB (fun xs H Q => ∃ p ys, xs = [.ref p] ∧ (SqL K H p ys ∨ SqT K H p ys) ∧ ∀ l, H l = none → Q (.ref l) (upd H l (.lst ys))) (tCons ta tNil)) ρ (Is (⟨xs⟩ : NL α)) :=
  ev_ownL hm ho fun Δ H Q hh hp k => ⟨p, _, rfl, .inl (.inl (.inl hp)), fun l hl => k _ _ _ rfl (Ext.new hh hl _) ⟨l, _, rfl, hh.fresh hl, .inl upd_same, all2_flat xs⟩⟩
end
section
variable {K : PySem.W.Frag} {Δ0 : Gh} {H0 : Hp} {Γ : Own} {F : List (V × Cell)} {ρ : Env} {t tz : TS} {D : Ends}
/-- a, b = e1, e2, the last of a block -/
theorem wp_parL {i j : Nat} {ta : TA} {Q : List Cell → Prop} (h : EvA K Γ ta ρ Q) (hi : i < ρ.length) (hj : j < ρ.length) (k : ∀ cs, Q cs → ∃ c d : Cell, cs = [c, d] ∧ Wp K Δ0 H0 Γ F ((ρ.set i (some c)).set j (some d)) tNext D) : Wp K Δ0 H0 Γ F ρ (tPar i j ta) D := fun σ H ⟨Δ, s, hh, e, f, e0, s1, s2⟩ =>
  h Δ σ H _ s hh e fun vs H' cs pcs e1 r => by
    obtain ⟨c, d, rfl, kk⟩ := k cs pcs
    match vs, r with
    | [v, w], r => exact ⟨v, w, rfl, kk _ H' ⟨Δ, s, e1.2, ((e.mono e1.1).set hi r.1).set (by rw [List.length_set]; exact hj) r.2.1, fun q hq => q.2.r.mono e1.1 (f q hq), ext0 e0 s1 s2 e1, s1, s2⟩⟩
/-- a loop within a loop: what stays, stays behind it too -/
theorem wp_forN {wi : TI} {g : TG} {js : List Nat} {n : Nat} {st : Nat → Env → Env} (Iv : Nat → Own → Env → Prop) (S : Src K Γ wi g ρ js n st) (h0 : Iv 0 Γ ρ) (hl : ∀ i Γ' ρ', Iv i Γ' ρ' → ρ'.length = ρ.length)
    (hs : ∀ i Γ' ρ' F', i < n → Iv i Γ' ρ' → Wp K Δ0 H0 Γ' F' (st i ρ') t { D with nx := At K Δ0 H0 F' Iv (i + 1), ct := At K Δ0 H0 F' Iv (i + 1), bk := tz D })
    (hd : ∀ Γ' ρ', Iv n Γ' ρ' → Wp K Δ0 H0 Γ' F ρ' tz D) : Wp K Δ0 H0 Γ F ρ (tSeq (tFor wi g t) tz) D := fun σ H ⟨Δ, s, hh, e, f, e0, s1, s2⟩ =>
  S Δ σ H _ s hh e fun J H1 pv pc e1 rp0 hgo hyld => by
    refine ⟨fun i m σ2 H2 => m = n - i ∧ i ≤ n ∧ At K Δ0 H0 ((pv, pc) :: F) Iv i σ2 H2, ⟨n, by simp, Nat.zero_le _, Γ, ρ, h0, Δ, s, e1.2, e.mono e1.1, ?_, ext0 e0 s1 s2 e1, s1, s2⟩, ?_⟩
    · intro q hq
      rcases List.mem_cons.mp hq with z | z
      · rw [z]; exact rp0
      · exact q.2.r.mono e1.1 (f q z)
    · rintro i m σ2 H2 ⟨rfl, hi, Γ', ρ', iv, st2⟩
      obtain ⟨Δ', s', hh', e', f', e0', s1', s2'⟩ := id st2
      have rp2 : pc.rp K Δ' H2 pv := f' (pv, pc) List.mem_cons_self
      have hg := hgo Δ' H2 rp2
      by_cases hlt : i < n
      · refine .inr ⟨hg.1 i hlt, At K Δ0 H0 ((pv, pc) :: F) Iv (i + 1), fun σ3 H3 a => ⟨n - (i + 1), by omega, rfl, hlt, a⟩, fun x H3 hy => ?_⟩
        obtain ⟨e3, hput⟩ := hyld Δ' i H2 x H3 hlt hh' rp2 hy
        refine hput σ2 ρ' _ (hl i Γ' ρ' iv) (e'.mono e3.1) fun σ3 env3 _ _ => ?_
        exact hs i Γ' ρ' _ hlt iv σ3 H3 ⟨Δ', s', e3.2, env3, fun q hq => q.2.r.mono e3.1 (f' q hq), ext0 e0' s1' s2' e3, s1', s2'⟩
      · have ei : i = n := by omega
        subst ei
        exact .inl ⟨hg.2, hd Γ' ρ' iv σ2 H2 ⟨Δ', s', hh', e', fun q hq => f' q (List.mem_cons_of_mem _ hq), e0', s1', s2'⟩⟩
end
section
variable {K : PySem.W.Frag} {Γ : Own} {ρ : Z.Env} {te : TE} {α : Type} [Rp α]
/-- xs[::-1] -/
theorem all2_rev {Δ : Gh} {H : Hp} : ∀ {vs : List V} {xs : List α}, All2 (fun u a => Rp.rp K Δ H u a) vs xs → All2 (fun u a => Rp.rp K Δ H u a) vs.reverse xs.reverse
  | [], [], _ => trivial
  | [], _ :: _, q => q.elim
  | _ :: _, [], q => q.elim
  | v :: vs, x :: xs, q => by
    rw [List.reverse_cons, List.reverse_cons]
    exact All2.snoc q.1 (all2_rev q.2)
theorem ev_rev {xs : List α} (h : Ev K Γ te ρ (Is xs)) : Ev K Γ (tRevL K te) ρ (Is xs.reverse) := fun Δ σ H Q s hh e k => h Δ σ H _ s hh e fun v H1 a pa e1 r => by
  have ea : a = xs := pa
  subst ea
  obtain ⟨p, vs, rfl, n, sq, q⟩ := r
  exact ⟨p, vs, rfl, sq, fun l hl => k _ _ _ rfl (e1.trans (Ext.new e1.2 hl _)) (new_lst e1.2 hl (all2_rev q))⟩
theorem inV_bl {b : Bool} : ∀ {xs : List Bool}, inV (.bl b) (xs.map V.bl) = decide (b ∈ xs)
  | [] => rfl
  | x :: xs => by
    have ih := inV_bl (b := b) (xs := xs)
    unfold inV at ih ⊢
    rw [List.map_cons, List.any_cons, ih]
    cases b <;> cases x <;> simp [eqV]
theorem flat_bl : ∀ {xs : List Bool}, (xs.map V.bl).all flatV = true
  | [] => rfl
  | _ :: xs => by
    rw [List.map_cons, List.all_cons, flat_bl]
    rfl
theorem o2_inLB {b : Bool} {xs : List Bool} : Op2 K (rIn K false) b xs (Is (decide (b ∈ xs))) := fun Δ H v w Q hh r1 r2 k => by
  have e1 : v = .bl b := r1
  obtain ⟨p, vs, rfl, n, s, q⟩ := r2
  subst e1
  have ev := all2_bl q
  subst ev
  exact ⟨p, _, rfl, .inl s, rfl, flat_bl, k _ H _ rfl (Ext.refl hh) (by show V.bl _ = V.bl _; rw [if_neg Bool.false_ne_true, inV_bl])⟩
theorem o2_notInLB {b : Bool} {xs : List Bool} : Op2 K (rIn K true) b xs (Is (!decide (b ∈ xs))) := fun Δ H v w Q hh r1 r2 k => by
  have e1 : v = .bl b := r1
  obtain ⟨p, vs, rfl, n, s, q⟩ := r2
  subst e1
  have ev := all2_bl q
  subst ev
  exact ⟨p, _, rfl, .inl s, rfl, flat_bl, k _ H _ rfl (Ext.refl hh) (by show V.bl _ = V.bl _; rw [if_pos rfl, inV_bl])⟩
end
section
variable {K : PySem.W.Frag} {Γ : Own} {ρ : Z.Env} {te : TE} {β γ : Type} [Rp β] [Rp γ] {C : Addr} {E : XK}
/-- o.name, o told by a predicate -/
theorem ev_propP {F : Own → List Cell → (γ → Prop) → Prop} {Q : β → Prop} {Pb : γ → Prop} (hI : IsIns K C β) (h : Ev K Γ te ρ Q) (hF : ∀ b, Q b → ∃ R, F Γ [⟨b⟩] R ∧ ∀ c, R c → Pb c) : Ev K Γ (tProp C (spD K F) [] E te) ρ Pb := fun Δ σ H Q' s hh e k =>
  h Δ σ H _ s hh e fun v H1 b pb e1 r1 => by
    obtain ⟨p, dx, fs, rfl, hp⟩ := hI Δ H1 v _ r1
    obtain ⟨R, hR, q⟩ := hF b pb
    exact ⟨p, dx, fs, rfl, hp, Γ, Δ, [⟨b⟩], R, hR, s, e1.2, ⟨r1, trivial⟩, fun z H' c pc e3 r3 => k z H' c (q c pc) (e1.trans e3) r3⟩
end
section
variable {X : Cx} {K : PySem.W.Frag}
theorem hx_noX : Passes (L2.CX X.prog X.w) X Zw.noX := fun _ _ _ _ _ _ _ h => by
  obtain ⟨_, _, _, _, _, _, _, _, _, _, _, _, hW⟩ := h
  exact hW.elim
theorem hns_noX : NoStop K Zw.noX := fun _ _ _ h => h.elim
theorem pe_revK {e : Expr} {te : TE} {k : Nat} {p1 p2 p3 pos : Pos} (he : PE X e te) (h : X.K = K := by rfl) : PE X (.Subscript e (.Slice none none (some (.UnaryOp .USub (.Constant (.int 1) k p1) p2)) p3) pos) (tRevL K te) := by
  subst h
  exact pe_revL he
end
end Z

set_option Elab.async false
set_option linter.all false
set_option maxRecDepth 100000
set_option maxHeartbeats 4000000
/-! sorted(set(list of texts)) -/
namespace Zst
open PySem PySem.Spec PyProof.Rows L2
def keyX (e : Int × Value) : Str := match e.2 with
  | .str k _ => k
  | _ => Str.empty
theorem isT {P : Program} {w : World} (k : Str) (u : Tok) : (strKind P w).is k (.str k u) = true := by
  show Value.isStrOf k (.str k u) = true
  simp [Value.isStrOf]
def GoodX (w : World) (e : Int × Value) : Prop := ∃ k u, e.2 = Value.str k u ∧ e.1 = hashStr w k
/-- the set of texts at a: l its members (in any order, also twice); its table rises and can be walked -/
def SetX (w : World) (h : Heap) (a : Addr) (l : List Str) (n : Nat) : Prop :=
  ∃ o es ep t, h.get? a = some o ∧ o.ExactSet ∧ o.data = .set es ep t ∧ (∀ e ∈ es.toList, GoodX w e) ∧ (es.toList.map keyX).Nodup ∧ (∀ k, k ∈ l ↔ k ∈ es.toList.map keyX) ∧
    es.size < scanBound ∧ t.fits es.size = true ∧ es.size = n ∧ Ris t.place.toList ∧ (w.params.followText "set-order" = true ∨ t.led = true)
section
variable {P : Program} {w : World} {h h' : Heap} {a : Addr} {l : List Str} {n : Nat}
theorem SetX.keep (R : SetX w h a l n) (k : ∀ o, h.get? a = some o → h'.get? a = some o) : SetX w h' a l n := by
  obtain ⟨o, es, ep, t, ho, r⟩ := R
  exact ⟨o, es, ep, t, k o ho, r⟩
theorem SetX.like {m : List Str} (R : SetX w h a l n) (e : ∀ k, k ∈ m ↔ k ∈ l) : SetX w h a m n := by
  obtain ⟨o, es, ep, t, ho, hx, hd, g, nd, q, r⟩ := R
  exact ⟨o, es, ep, t, ho, hx, hd, g, nd, fun k => (e k).trans (q k), r⟩
theorem elemsX {xs : List (Int × Value)} (g : ∀ e ∈ xs, GoodX w e) : ElemsOf (strKind P w) xs := fun e he => by
  obtain ⟨k, u, q1, q2⟩ := g e he
  exact ⟨⟨k, by rw [q1]; exact isT k u, q2⟩, by rw [q1] <;> rfl⟩
theorem isX {e : Int × Value} (g : GoodX w e) (k : Str) : (strKind P w).is k e.2 = true ↔ keyX e = k := by
  obtain ⟨k0, u, q1, _⟩ := g
  unfold keyX
  rw [q1]
  show (Value.isStrOf k (.str k0 u) = true) ↔ k0 = k
  simp [Value.isStrOf]
theorem memX {xs : List (Int × Value)} (g : ∀ e ∈ xs, GoodX w e) (k : Str) : k ∈ xs.map keyX ↔ ∃ e ∈ xs, (strKind P w).is k e.2 = true := by
  rw [List.mem_map]
  exact ⟨fun ⟨e, he, q⟩ => ⟨e, he, (isX (g e he) k).mpr q⟩, fun ⟨e, he, q⟩ => ⟨e, he, (isX (g e he) k).mp q⟩⟩
end
section
variable {P : Program} {w : World} {A : Around} {E : Value → Shared → Prop} {s : Shared} {a : Addr} {l : List Str} {n : Nat}
theorem add_end {g : Bool → Sem Unit} (hg : ∀ (b : Bool) (z : Shared) (Q' : Unit → Shared → Prop), Q' () z → wpAny (model P w) A (g b) Q' E z)
    {o : Obj} {es : Array (Int × Value)} {ep : Nat} {t : SetTable} (ho : s.heap.get? a = some o) (hx : o.ExactSet) (hd : o.data = .set es ep t)
    {e1 : Array (Int × Value)} {t2 : SetTable} {m : List Str} (g1 : ∀ e ∈ e1.toList, GoodX w e) (nd1 : (e1.toList.map keyX).Nodup) (m1 : ∀ k, k ∈ m ↔ k ∈ e1.toList.map keyX)
    (hb1 : e1.size < scanBound) (hf2 : t2.fits e1.size = true) (hr : Ris t2.place.toList) (hl : w.params.followText "set-order" = true ∨ t2.led = true) {wd : Bool} {R : Option Bool → Shared → Prop}
    (hR : ∀ h1, Heap.SameBut a s.heap h1 → SetX w h1 a m e1.size → R (some true) { s with heap := h1 }) :
    wpAny (model P w) A (do
        storeSet a e1 t2
        if (!wd && t2.tooFull) = true then do
            g (relayAll t2 e1 (SetTable.grown e1.size)).2.2
            storeSet a (relayAll t2 e1 (SetTable.grown e1.size)).1 (relayAll t2 e1 (SetTable.grown e1.size)).2.1
            pure (some true)
          else pure (some true)) R E s := by
  refine wpAny_bind (wpAny_storeSet_of ho hd ?_ (fits_of_scanBound hb1))
  have o1 := store_at (es' := e1) (t' := t2) ho hd
  have s1 := Heap.SameBut.update s.heap a (Obj.putSet e1 t2)
  split
  · have pm := relayAll_perm t2 e1 (SetTable.grown e1.size)
    have f3 := relayAll_fits t2 e1 (SetTable.grown e1.size)
    have r3 := relayAll_ris t2 e1 (SetTable.grown e1.size)
    have l3 := relayAll_led t2 e1 (SetTable.grown e1.size)
    generalize relayAll t2 e1 (SetTable.grown e1.size) = Y at pm f3 r3 l3 ⊢
    obtain ⟨e2, t3, gv⟩ := Y
    dsimp only at pm f3 r3 l3 ⊢
    have sz : e2.size = e1.size := by rw [← Array.length_toList, pm.length_eq, Array.length_toList]
    refine wpAny_bind (hg _ _ _ ?_)
    refine wpAny_bind (wpAny_storeSet_of o1 rfl ?_ (fits_of_scanBound (by rw [sz]; exact hb1)))
    have o2 := store_at (es' := e2) (t' := t3) o1 rfl
    refine wpAny_pure (hR _ (s1.trans (Heap.SameBut.update _ a _)) ?_)
    exact ⟨_, e2, _, t3, o2, hx, rfl, fun e he => g1 e (pm.mem_iff.mp he), (pm.map keyX).nodup_iff.mpr nd1, fun k => (m1 k).trans (pm.map keyX).mem_iff.symm, by rw [sz]; exact hb1, f3, sz, r3, hl.imp id fun z => by rw [l3]; exact z⟩
  · exact wpAny_pure (hR _ s1 ⟨_, e1, _, t2, o1, hx, rfl, g1, nd1, m1, hb1, hf2, rfl, hr, hl⟩)
theorem add_hashed {k : Str} {u : Tok} {Q : Bool → Shared → Prop} (R : SetX w s.heap a l n) (room : n + 1 < scanBound)
    (hQ : ∀ h1 c, Heap.SameBut a s.heap h1 → c ≤ n + 1 → SetX w h1 a (k :: l) c → ∀ b, Q b { s with heap := h1 }) :
    wpAny (model P w) A (setAddHashed a (.str k u) ((strKind P w).hash k)) Q E s := by
  obtain ⟨o, es, ep, t, ho, hx, hd, g, nd, hm, hb, hf, hn, hr, hl⟩ := R
  have hkey : (strKind P w).is k (.str k u) = true := isT k u
  have hsc : (Value.str k u).scannable = true := rfl
  have hel : ElemsOf (strKind P w) es.toList := elemsX g
  unfold setAddHashed setAddHashedIn
  refine wpAny_holding (wpAny_bind (wpAny_setState_of ho hd hf ?_))
  dsimp only
  rw [byScan_of hsc hb hel]
  simp only [↓reduceIte]
  unfold setAddByScan
  refine wpAny_bind ?_
  refine wpAny_bind (wpAny_rule ?_)
  refine wpAny_bind (wpAny_setScan_of hkey ho hd hf hel ?_)
  cases hfi : List.findIdx? (fun e => (strKind P w).is k e.2) es.toList with
  | some j =>
    dsimp only
    obtain ⟨hj, pj, _⟩ := List.findIdx?_eq_some_iff_getElem.mp hfi
    have hkl : k ∈ l := (hm k).mpr ((memX (P := P) g k).mpr ⟨es.toList[j], List.getElem_mem hj, pj⟩)
    refine wpAny_pure (wpAny_pure ?_)
    exact hQ s.heap n (Heap.SameBut.refl a s.heap) (Nat.le_succ n) ⟨o, es, ep, t, ho, hx, hd, g, nd, fun i => by
      rw [List.mem_cons, ← hm i]
      exact ⟨fun z => z.elim (fun q => by rw [q]; exact hkl) id, .inr⟩, hb, hf, hn, hr, hl⟩ _
  | none =>
    dsimp only
    have hnk : k ∉ es.toList.map keyX := fun z => by
      obtain ⟨e, he, q⟩ := (memX (P := P) g k).mp z
      have c := List.findIdx?_eq_none_iff.mp hfi e he
      rw [q] at c
      cases c
    have hgw : ∀ (b : Bool) {z : Shared} {Q' : Unit → Shared → Prop}, Q' () z → wpAny (model P w) A (match b with | true => rule "set.scan.the-table-gave-way" | false => pure ()) Q' E z :=
      fun b z Q' q => by cases b <;> first | exact wpAny_pure q | exact wpAny_rule q
    have pm := layNew_perm t es ((strKind P w).hash k) (.str k u)
    have f1 := layNew_fits t es ((strKind P w).hash k) (.str k u)
    have r1 := layNew_ris t es ((strKind P w).hash k) (.str k u) hr
    have l1 := layNew_led t es ((strKind P w).hash k) (.str k u)
    generalize layNew t es ((strKind P w).hash k) (.str k u) = Y at pm f1 r1 l1 ⊢
    obtain ⟨e1, t1, wd, gv⟩ := Y
    dsimp only at pm f1 r1 l1 ⊢
    rw [Array.toList_push] at pm
    have pc : e1.toList.Perm (((strKind P w).hash k, Value.str k u) :: es.toList) := pm.trans (List.perm_append_singleton _ _)
    have pk : (e1.toList.map keyX).Perm (k :: es.toList.map keyX) := pc.map keyX
    have g1 : ∀ e ∈ e1.toList, GoodX w e := fun e he => by
      rcases List.mem_cons.mp (pc.mem_iff.mp he) with z | z
      · rw [z]; exact ⟨k, u, rfl, rfl⟩
      · exact g e z
    have nd1 : (e1.toList.map keyX).Nodup := pk.nodup_iff.mpr (List.nodup_cons.mpr ⟨hnk, nd⟩)
    have m1 : ∀ i, i ∈ k :: l ↔ i ∈ e1.toList.map keyX := fun i => by
      rw [pk.mem_iff, List.mem_cons, List.mem_cons, hm i]
    have sz : e1.size = n + 1 := by rw [← Array.length_toList, pc.length_eq, List.length_cons, Array.length_toList, hn]
    have hb1 : e1.size < scanBound := by rw [sz]; exact room
    have led : w.params.followText "set-order" = true ∨ t1.led = true := hl.imp id fun z => by rw [l1]; exact z
    refine wpAny_bind (hgw _ ?_)
    split
    · refine wpAny_bind ?_
      rw [hashByValue_scannable 8 hsc]
      refine wpAny_pure ?_
      refine add_end ?_ ho hx hd g1 nd1 m1 hb1 ?_ ?_ ?_ ?_
      · intro b z Q' q; cases b <;> first | exact wpAny_pure q | exact wpAny_rule q
      · first | (split <;> first | exact f1 | exact SetTable.fits_plain_off f1) | exact f1
      · first | (split <;> exact r1) | exact r1
      · first | (split <;> exact led) | exact led
      · intro h1 sb r; dsimp only; exact wpAny_pure (hQ h1 _ sb (Nat.le_of_eq sz) r _)
    · refine wpAny_bind (wpAny_pure ?_)
      simp only [↓reduceIte]
      refine add_end ?_ ho hx hd g1 nd1 m1 hb1 f1 r1 led ?_
      · intro b z Q' q; cases b <;> first | exact wpAny_pure q | exact wpAny_rule q
      · intro h1 sb r; dsimp only; exact wpAny_pure (hQ h1 _ sb (Nat.le_of_eq sz) r _)
theorem new_at {h : Heap} (ho : h.get? a = some { cls := .type "set", dict := none, data := .set #[] 0 (.fresh 0 0 (!w.params.followText "set-order")) }) : SetX w h a [] 0 := by
  refine ⟨_, #[], 0, _, ho, ⟨rfl, rfl, rfl⟩, rfl, fun e he => (by simp at he), (by simp), fun k => (by simp), (by decide), (by rfl), rfl, List.Pairwise.nil, ?_⟩
  show _ ∨ (!w.params.followText "set-order") = true
  cases w.params.followText "set-order" with
  | true => exact .inl rfl
  | false => exact .inr rfl
/-- the turns of set(..) over a walk of texts -/
theorem fill {I : Addr} {fp wr : List Addr} {G : Array GenState → Array GenState → Prop} {n : Nat} {Pv : Nat → Value → Prop} {St : Nat → Shared → Prop} {R : Result → Shared → Prop}
    (W : WalksS P w A.in1 I fp wr G n Pv St) (S : Addr) (hSf : S ∉ fp) (xs : List Str) (hn : n = xs.length) (hb : xs.length + 1 < scanBound) (hval : ∀ i v, Pv i v → ∃ k t, xs[i]? = some k ∧ v = .str k t) :
    ∀ (r i : Nat) (s : Shared), n - i = r → i ≤ n → St i s → (∃ c, c ≤ i ∧ SetX w s.heap S (xs.take i) c) →
      (∀ s' c, Moved (S :: wr) G s s' → c ≤ n → SetX w s'.heap S xs c → R (.ok (.ret .none)) s') →
      codeAny (model P w) A (.builtin "set.update.loop" ⟨[.ref S, .ref I], []⟩) R s := by
  have hSw : S ∉ wr := fun h => hSf (W.sub _ h)
  have sub : ∀ b ∈ wr, b ∈ S :: wr := fun b hb => List.mem_cons_of_mem _ hb
  intro r
  induction r with
  | zero =>
    intro i s hr hi hst ⟨c, hc, hS⟩ hR
    obtain rfl : i = n := by omega
    refine codeAny_builtin F.entry_set_update_loop ?_
    rw [Around.under_plainId F.plain_set_update_loop _]
    show wpAny _ A.in1 (pyNext (.ref I) >>= _) _ _ s
    refine wpAny_bind (W.done s _ _ hst fun s' hm => ?_)
    show wpAny _ A.in1 (ret Value.none) _ _ s'
    rw [List.take_of_length_le (by omega)] at hS
    exact wpAny_pure (hR s' c (hm.mono sub) hc (hS.keep fun o e => hm.heap S o hSw e))
  | succ r ih =>
    intro i s hr hi hst ⟨c, hc, hS⟩ hR
    have lt : i < n := by omega
    refine codeAny_builtin F.entry_set_update_loop ?_
    rw [Around.under_plainId F.plain_set_update_loop _]
    show wpAny _ A.in1 (pyNext (.ref I) >>= _) _ _ s
    refine wpAny_bind (W.item i s _ _ lt hst fun v s1 hP hst1 hm => ?_)
    obtain ⟨z, t, hz, rfl⟩ := hval i v hP
    have hS1 : SetX w s1.heap S (xs.take i) c := hS.keep fun o e => hm.heap S o hSw e
    show wpAny _ A.in1 (holding [Value.str z t] (setAdd S (.str z t)) >>= _) _ _ s1
    refine wpAny_bind (wpAny_holding ?_)
    unfold setAdd
    refine wpAny_holding ?_
    refine wpAny_bind ((strKind P w).pyHash (k := z) (isT _ _) ?_)
    refine add_hashed (s := { s1 with toks := s1.toks + 1 }) hS1 (by omega) fun h1 c1 sb hc1 hS2 b => ?_
    have hS3 : SetX w h1 S (xs.take (i + 1)) c1 := hS2.like fun k => by
      rw [List.take_add_one, hz]
      simp [List.mem_append, or_comm]
    refine wpAny_pure ⟨plainId_quiet F.plain_set_update_loop _, ih (i + 1) _ (by omega) lt (W.frame _ s1 _ _ hst1 (Nat.le_succ _) fun b hb o e => ?_) ⟨_, by omega, hS3⟩ fun s2 c2 m2 hc2 hS4 => ?_⟩
    · rw [sb.2 b (fun h : b = S => hSf (by rw [← h]; exact hb))]; exact e
    · refine hR s2 c2 (Moved.trans W.gtrans ((hm.mono sub).then_heap (Nat.le_succ _) fun b o hb e => ?_) m2) hc2 hS4
      rw [sb.2 b (fun h : b = S => hb (by rw [h]; exact List.mem_cons_self))]; exact e
end
end Zst

set_option Elab.async false
set_option linter.all false
set_option maxRecDepth 100000
set_option maxHeartbeats 4000000
/-! set(list of texts), sorted of it -/
namespace Zst
open PySem PySem.Spec PyProof.Rows L2
section
variable {P : Program} {w : World} {A : Around} {E : Value → Shared → Prop} {s : Shared}
theorem at_txt : ∀ {us : List Value} {xs : List Str}, StrsAre us xs → ∀ (i : Nat) (v : Value), us[i]? = some v → ∃ k t, xs[i]? = some k ∧ v = .str k t
  | _, _, .nil, i, v, h => by simp at h
  | _, _, .cons n t r, 0, v, h => ⟨n, t, rfl, (Option.some.inj h).symm⟩
  | _, _, .cons n t r, i + 1, v, h => at_txt r i v h
abbrev none0 (w : World) : Obj := { cls := .type "set", dict := none, data := .set #[] 0 (.fresh 0 0 (!w.params.followText "set-order")) }
theorem call_setL {q : Addr} {its : Array Value} (xs : List Str) {Q : Value → Shared → Prop} (hh : A.handled = none) (hl : s.heap.IsList q its) (hit : StrsAre its.toList xs) (hb : xs.length + 1 < scanBound)
    (h : ∀ (h1 : Heap) (tk c : Nat), SetX w h1 s.heap.objs.size xs c → c ≤ xs.length → (∀ b o, s.heap.get? b = some o → h1.get? b = some o) → Q (.ref s.heap.objs.size) { s with heap := h1, toks := tk }) :
    wpAny (model P w) A (call (.type "set") [.ref q]) Q E s := by
  have size : its.size = xs.length := by
    have e := StrsAre.len_eq hit
    rw [Array.length_toList] at e
    exact e
  obtain ⟨c, tl, hmro⟩ := F.called_set.mro
  have hmade := F.called_set.made
  have hsub := F.called_set.sub
  refine wpAny_call (codeAny_of_tree ?_)
  show wpAny _ _ (callAny (.type "set") _) _ _ _
  refine wpAny_pure ⟨Code.quiet_builtin _ (by decide +kernel), codeAny_builtin F.entry_type_call ?_⟩
  rw [Around.under_plain (weight_type_call_type "set" [.ref q] []) rfl]
  have t1 := F.called_set.notType
  have t2 := F.called_set.canCreate
  have t3 := F.typeCall_set_1 (.ref q)
  repeat (any_goals (first | assumption | wp_step))
  refine codeAny_mono (code_set_led1 (.ref q) (E := E) (Q₁ := fun obj z => obj = .ref s.heap.objs.size ∧ z = { s with heap := s.heap.push (none0 w) }) ⟨rfl, rfl⟩) fun r z hr => ?_
  match r, hr with
  | .error e, hr => exact hr
  | .ok .next, hr => exact hr.elim
  | .ok .brk, hr => exact hr.elim
  | .ok .cont, hr => exact hr.elim
  | .ok (.ret obj), hr =>
    obtain ⟨rfl, rfl⟩ := hr
    have hS : (s.heap.push (none0 w)).get? s.heap.objs.size = some (none0 w) := Heap.get?_push_size _ rfl
    have hT : Shared.TypeIs { s with heap := s.heap.push (none0 w) } (.ref s.heap.objs.size) "set" := ⟨_, hS, rfl⟩
    have hli := F.called_set.init.lookup
    have hbi := F.called_set.init.bind (.ref s.heap.objs.size)
    repeat (any_goals (first | assumption | wp_step))
    refine codeAny_mono (codeAny_call_builtin (R := wants (fun r z => r = .none ∧ ∃ h1 tk c, z = { s with heap := h1, toks := tk } ∧ SetX w h1 s.heap.objs.size xs c ∧ c ≤ xs.length ∧ (∀ b o, s.heap.get? b = some o → h1.get? b = some o)) E) F.called_set.init.plain F.entry_set_init (check_set_init_1 hT ?_)) fun r2 z2 hr2 => ?_
    · obtain ⟨ol, hol, hcl, nl, hdl⟩ := hl
      obtain ⟨ocls, odict, odata, oslots⟩ := ol
      simp only at hcl hdl
      subst hcl; subst hdl
      have hol' : (s.heap.push (none0 w)).get? q = some { cls := .type "list", dict := odict, data := .seq its nl, slots := oslots } := Heap.get?_push_of_some _ hol
      have hsls := F.sub_list_set
      have hslf := F.sub_list_frozenset
      have hne : (Value.type "list" == Value.type "dict") = false := by decide
      have hl1 : (s.heap.push (none0 w)).IsList q its := ⟨_, hol', rfl, nl, rfl⟩
      unfold Builtin.«set.__init__» noKeywords Builtin.Frozenset.updateFrom
      generalize hPI : pyIter = PI
      wp_walk
      subst hPI
      refine wpAny_pyIter_list hl1 ?_
      refine wpAny_bind (wpAny_runValue ?_)
      have below : q < s.heap.objs.size := Heap.lt_size hol
      have free : A.in1.in1.in1.handled = none := by simp [hh]
      have apart : q ≠ (s.heap.push (none0 w)).objs.size := by
        rw [Heap.size_push]; exact Nat.ne_of_lt (Nat.lt_succ_of_lt below)
      have off : s.heap.objs.size ∉ [(s.heap.push (none0 w)).objs.size, q] := by
        rw [Heap.size_push]; simp only [List.mem_cons, List.mem_singleton, List.not_mem_nil, or_false, not_or]
        exact ⟨Nat.ne_of_lt (Nat.lt_succ_self _), Nat.ne_of_gt below⟩
      have hval : ∀ (i : Nat) (v : Value), its[i]? = some v → ∃ k t, xs[i]? = some k ∧ v = .str k t := fun i v hv => at_txt hit i v (by rw [Array.getElem?_toList]; exact hv)
      refine fill ((Walks.list free _ q apart its).toS) s.heap.objs.size off xs size hb hval (its.size - 0) 0 _ (by omega) (Nat.zero_le _) ⟨⟨_, Heap.get?_push_size _ rfl, rfl, rfl⟩, (hl1.push _)⟩ ⟨0, Nat.le_refl 0, by rw [List.take_zero]; exact new_at (Heap.get?_push_of_some _ hS)⟩ fun z c' hm hc' hS' => ?_
      obtain ⟨h1, g2, d2, tk2, os2⟩ := z
      obtain rfl : g2 = s.gens := hm.gens
      obtain rfl : d2 = s.drawn := hm.drawn
      obtain rfl : os2 = s.os := hm.os
      show wpAny _ _ _ _ _ _
      refine wpAny_pure ?_
      show wpAny _ _ (ret Value.none) _ _ _
      rw [size] at hc'
      refine wpAny_pure ⟨rfl, h1, tk2, c', rfl, hS', hc', fun b o e => ?_⟩
      have b0 : b < s.heap.objs.size := Heap.lt_size e
      have b1 : b ≠ (s.heap.push (none0 w)).objs.size := by
        rw [Heap.size_push]; exact Nat.ne_of_lt (Nat.lt_succ_of_lt b0)
      exact hm.heap b o (by simp only [List.mem_cons, List.mem_singleton, List.not_mem_nil, or_false, not_or]; exact ⟨Nat.ne_of_lt b0, b1⟩) (Heap.get?_push_of_some _ (Heap.get?_push_of_some _ e))
    · match r2, hr2 with
      | .error e, hr2 => exact hr2
      | .ok .next, hr2 => exact hr2.elim
      | .ok .brk, hr2 => exact hr2.elim
      | .ok .cont, hr2 => exact hr2.elim
      | .ok (.ret r), hr2 =>
        obtain ⟨rfl, h1, tk, c', rfl, hS', hc', hk'⟩ := hr2
        repeat (any_goals (first | assumption | wp_step))
        exact h _ _ _ hS' hc' hk'
theorem strs_all : ∀ (vs : List Value), (∀ v ∈ vs, ∃ k u, v = Value.str k u) → StrsAre vs (vs.map Zs.tv)
  | vs, h => Zs.txt_tv h
end
end Zst

set_option Elab.async false
set_option linter.all false
set_option maxRecDepth 100000
set_option maxHeartbeats 4000000
/-! sorted(set(xs)), xs a list of texts -/
namespace Zst
open PySem PySem.Spec PyProof.Rows L2
section
variable {P : Program} {w : World} {A : Around} {E : Value → Shared → Prop} {s : Shared} {a : Addr}
theorem sorted_X {l : List Str} {n : Nat} {Q : Value → Shared → Prop} (R : SetX w s.heap a l n) (hh : A.handled = none) (hn1 : n ≤ sizeLine)
    (hQ : ∀ s' p (out : Array Value) (c : Nat) (ys : List Str), (∀ b o, s.heap.get? b = some o → s'.heap.get? b = some o) → s'.gens = s.gens → s'.os = s.os → s.heap.objs.size ≤ p →
      s'.heap.get? p = some (seqObj "list" out c) → StrsAre out.toList ys → ys.Nodup → Zs.Rise ys → (∀ k, k ∈ ys ↔ k ∈ l) → ys.length = n → Q (.ref p) s') :
    wpAny (model P w) A (call (.builtin "sorted") [.ref a]) Q E s := by
  obtain ⟨o, es, ep, t, ho, hx, hd, g, nd, hm, hb, hf, hn, hr, hl⟩ := R
  refine Calls.call_function_entry kind_sorted plain_sorted entry_sorted (args_sorted1 _) ?_
  unfold Builtin.«sorted»
  refine wpAny_bind (m := checkCount "sorted" 1 1 _) (wpAny_pure ?_)
  refine wpAny_bind (collect_set (A := A.in1) hh ⟨o, ho, hx.1, hd⟩ hf hb hr hl fun s1 vs k1 z1 g1 o1 pm => ?_)
  have hlen : vs.length = n := by rw [pm.length_eq, List.length_map, Array.length_toList]; exact hn
  have hI : StrsAre vs (vs.map Zs.tv) := Zs.txt_tv fun v hv => by
    obtain ⟨e, he, q⟩ := List.mem_map.mp (pm.mem_iff.mp hv)
    obtain ⟨k, u, q1, _⟩ := g e he
    exact ⟨k, u, by rw [← q]; exact q1⟩
  have pk : (vs.map Zs.tv).Perm (es.toList.map keyX) := by
    have q := pm.map Zs.tv
    rw [List.map_map] at q
    exact q
  have room : vs.length ≤ sizeLine := by rw [hlen]; exact hn1
  refine wpAny_bind (wpAny_newList ?_ room)
  have hoL : (s1.heap.push (seqObj "list" vs.toArray 0)).get? s1.heap.objs.size = some (seqObj "list" vs.toArray 0) := Heap.get?_push_size _ rfl
  refine wpAny_bind (wpAny_holding (wpAny_call_entry slot_list_sort ⟨_, hoL, rfl⟩ entry_list_sort (SrtO.list_sort_ord Zs.swo_txt hoL room (fun h2 => Zs.txt_sortable hI h2) fun out a1 a2 => ⟨_, rfl, ?_⟩) (args_list_sort _)))
  obtain ⟨c, hc⟩ := sortedHeap_at (vs := vs) (out := out.toArray) hoL
  obtain ⟨b1, b2, b3⟩ := Zs.txt_out hI a1 a2
  have pn : (out.map Zs.tv).Perm (es.toList.map keyX) := b2.trans pk
  refine wpAny_pure ⟨_, rfl, hQ _ s1.heap.objs.size out.toArray c (out.map Zs.tv) (fun b u e => ?_) g1 o1 z1 hc b1 (pn.nodup_iff.mpr nd) b3 (fun k => by rw [pn.mem_iff, ← hm k]) ?_⟩
  · have q := k1 b u e
    have lt := Heap.lt_size q
    show (sortedHeap (s1.heap.push (seqObj "list" vs.toArray 0)) s1.heap.objs.size vs out.toArray).get? b = some u
    rw [sortedHeap_old (Nat.ne_of_lt lt) (by rw [size_push']; exact Nat.lt_succ_of_lt lt)]
    exact Heap.get?_push_of_some _ q
  · rw [pn.length_eq, List.length_map, Array.length_toList]; exact hn
end
end Zst
namespace L2
open PySem PySem.Spec PyProof.Rows
/-- sorted(set(xs)): each text once, rising -/
def tSortSet (K : PySem.W.Frag) (te : TE) : TE := fun σ H Q => te σ H fun x H1 => ∃ (a : Addr) (ns : List Str), x = .ref a ∧ SqL K H1 a (ns.map V.str) ∧ ns.length ≤ 1000 ∧
  ∀ (ys : List Str) (p : Addr), ys.Nodup → (∀ k, k ∈ ys ↔ k ∈ ns) → Zs.Rise ys → H1 p = none → Q (.ref p) (upd H1 p (.lst (ys.map V.str)))
section
variable {X : Cx}
theorem pe_sortSet {e : Expr} {te : TE} {p p2 q pos : Pos} (hc : X.calm = true) (hg : Gl X "sorted") (hm : X.mg "sorted" = none) (hv : bootBuiltins "sorted" = some (.builtin "sorted")) (hg2 : Gl X "set") (hm2 : X.mg "set" = none) (he : PE X e te)
    (na : starEach [e] X.env = (false, eval e X.env) :: starEach [] X.env := by rfl) : PE X (.Call (.Name "sorted" p) [.Call (.Name "set" p2) [e] [] q] [] pos) (tSortSet X.K te) := by
  refine ⟨fun pins s σ H Q I h => ?_⟩
  refine Call_ (ld_blt I hg hm hv ?_)
  refine PyProof.Rows.callWith_builtin1 (PyProof.Rows.args_cons ?_ rfl) rfl rfl
  refine Call_ (ld_blt I hg2 hm2 boot_set ?_)
  refine PyProof.Rows.callWith_type1 (PyProof.Rows.args_cons (thn (he.run pins s σ H _ I h) fun v s1 ⟨x, H1, I1, r1, q1⟩ => PyProof.Rows.args_nil ?_) na) na rfl
  obtain ⟨a, ns, rfl, hq, hz, q1⟩ := q1
  cases r1
  obtain ⟨its, r, pl, hlz⟩ := I1.list hq
  refine Zst.call_setL (its := its.toArray) ns (I1.ok.hd hc) pl.isList r.strs (by unfold scanBound; omega) fun h1 tk c hS hcn hk => ?_
  refine PyProof.Rows.args_nil ?_
  refine Zst.sorted_X (s := { s1 with heap := h1, toks := tk }) hS (I1.ok.hd hc) (Nat.le_trans hcn (Nat.le_trans hz (by decide))) fun s' l out c2 ys k2 g2 o2 l2 e2 r2 nd rs mm hl => ?_
  have kp : ∀ b o, s1.heap.get? b = some o → s'.heap.get? b = some o := fun b o e => k2 b o (hk b o e)
  have hl2 : s1.heap.objs.size ≤ l := by
    obtain ⟨_, _, _, _, ho, _⟩ := hS
    exact Nat.le_trans (Nat.le_of_lt (Heap.lt_size ho)) l2
  have new : ObjOk X.prog X.w (upd H1 l (.lst (ys.map V.str))) s'.heap l (.lst (ys.map V.str)) := by
    refine ⟨?_, out.toList, c2, vals_of_strs r2, e2⟩
    rw [List.length_map, hl]
    exact Nat.le_trans hcn (Nat.le_trans hz (by decide))
  exact ⟨.ref l, upd H1 l (.lst (ys.map V.str)), I1.call' (ch := []) o2 (Un.laid kp hl2 (I1.hok.fresh hl2)) (I1.hok.laid kp hl2 new) (by rw [g2]; exact I1.bare) (fun b z => nomatch z), rfl, q1 ys l nd mm rs (I1.hok.fresh hl2)⟩
end
end L2

set_option Elab.async false
set_option linter.all false
set_option maxRecDepth 100000
set_option maxHeartbeats 1000000
/-! the rows of a lot in their order -/
namespace Z
open PySem PySem.Spec PyProof.Rows L2
abbrev NL' (x y : Tx) : Prop := ¬ y.s < x.s
theorem tx_anti {x y : Tx} (h1 : ¬ y.s < x.s) (h2 : ¬ x.s < y.s) : x = y := by
  cases x
  cases y
  congr 1
  exact List.le_antisymm (by simpa using h1) (by simpa using h2)
theorem pw_uniq : ∀ {a b : List Tx}, a.Nodup → b.Nodup → a.Pairwise NL' → b.Pairwise NL' → (∀ x, x ∈ a ↔ x ∈ b) → a = b
  | [], [], _, _, _, _, _ => rfl
  | [], y :: _, _, _, _, _, m => absurd ((m y).mpr List.mem_cons_self) (by simp)
  | x :: _, [], _, _, _, _, m => absurd ((m x).mp List.mem_cons_self) (by simp)
  | x :: xs, y :: ys, n1, n2, p1, p2, m => by
    rw [List.nodup_cons] at n1 n2
    rw [List.pairwise_cons] at p1 p2
    have e : x = y := by
      rcases List.mem_cons.mp ((m x).mp List.mem_cons_self) with h | h
      · exact h
      · rcases List.mem_cons.mp ((m y).mpr List.mem_cons_self) with h2 | h2
        · exact h2.symm
        · exact tx_anti (p1.1 y h2) (p2.1 x h)
    subst e
    rw [pw_uniq n1.2 n2.2 p1.2 p2.2 fun z => ⟨fun h => ?_, fun h => ?_⟩]
    · rcases List.mem_cons.mp ((m z).mp (List.mem_cons_of_mem _ h)) with q | q
      · exact absurd (q ▸ h) n1.1
      · exact q
    · rcases List.mem_cons.mp ((m z).mpr (List.mem_cons_of_mem _ h)) with q | q
      · exact absurd (q ▸ h) n2.1
      · exact q
/-- each of the rows once, in their order -/
def srt (S : List Tx) : List Tx := (onceT [] S).mergeSort fun x y => !decide (y.s < x.s)
theorem lst_total (x y : List Nat) : ¬ y < x ∨ ¬ x < y := by
  by_cases h : y < x
  · exact .inr (fun h2 => absurd (List.lt_trans h h2) (List.lt_irrefl _))
  · exact .inl h
theorem srt_perm (S : List Tx) : (srt S).Perm (onceT [] S) := List.mergeSort_perm _ _
theorem srt_mem {S : List Tx} {x : Tx} : x ∈ srt S ↔ x ∈ S := by rw [(srt_perm S).mem_iff, onceT_mem]; simp
theorem srt_nd (S : List Tx) : (srt S).Nodup := (srt_perm S).nodup_iff.mpr (onceT_nodup _ _ .nil)
theorem srt_pw (S : List Tx) : (srt S).Pairwise NL' := by
  have h := List.pairwise_mergeSort (le := fun x y : Tx => !decide (y.s < x.s)) (fun a b c h1 h2 => by
    simp only [Bool.not_eq_true', decide_eq_false_iff_not] at h1 h2 ⊢
    exact Zs.lists_tr h1 h2) (fun a b => by
    simp only [Bool.or_eq_true, Bool.not_eq_true', decide_eq_false_iff_not]
    exact lst_total a.s b.s) (onceT [] S)
  exact h.imp fun h => by simpa using h
theorem srt_of {l S : List Tx} (nd : l.Nodup) (pw : l.Pairwise NL') (m : ∀ x, x ∈ l ↔ x ∈ S) : l = srt S :=
  pw_uniq nd (srt_nd S) pw (srt_pw S) fun x => by rw [m x, srt_mem]
theorem srt_congr {S T : List Tx} (m : ∀ x, x ∈ S ↔ x ∈ T) : srt S = srt T := srt_of (srt_nd S) (srt_pw S) fun x => by rw [srt_mem, m x]
theorem srt_self {S : List Tx} : srt (srt S) = srt S := srt_congr fun x => srt_mem
theorem srt_filter {S : List Tx} {p : Tx → Bool} : (srt S).filter p = srt (S.filter p) := srt_of ((srt_nd S).filter _) ((srt_pw S).filter _) fun x => by rw [List.mem_filter, List.mem_filter, srt_mem]
theorem srt_len {S : List Tx} : (srt S).length ≤ S.length := by
  rw [(srt_perm S).length_eq]
  have := onceT_len S []
  simpa using this
theorem srt_sorted {S l : List Tx} (h : SortedT (onceT [] S) l) : l = srt S := srt_of (h.1.nodup_iff.mpr (onceT_nodup _ _ .nil)) h.2 fun x => by rw [h.1.mem_iff, onceT_mem]; simp
section
variable {K : PySem.W.Frag} {Γ : Own} {ρ : Z.Env} {ta tb te : TE}
/-- sorted(set(xs)) -/
theorem ev_sortSet {xs : List Tx} (h : Ev K Γ te ρ (Is xs)) (hz : xs.length ≤ 1000) : Ev K Γ (tSortSet K te) ρ (Is (srt xs)) := fun Δ σ H Q s hh e k => h Δ σ H _ s hh e fun v H1 a pa e1 r => by
  have ea : a = xs := pa
  subst ea
  obtain ⟨p, vs, rfl, n, sq, q⟩ := r
  have ev := all2_tx q
  subst ev
  refine ⟨p, _, rfl, sq, by rw [List.length_map]; exact hz, fun ys l nd mm rs hl => ?_⟩
  have e1' : ys = (ys.map fun z => (⟨z.cps.toList⟩ : Tx)).map fun x => (⟨x.s.toArray⟩ : Str) := by
    rw [List.map_map]
    conv => lhs; rw [← List.map_id ys]
    exact List.map_congr_left fun z _ => by cases z; rfl
  have inj : ∀ {u w : Str}, (⟨u.cps.toList⟩ : Tx) = ⟨w.cps.toList⟩ → u = w := fun {u w} z => by
    cases u
    cases w
    have := Tx.mk.inj z
    congr 1
    exact Array.toList_inj.mp this
  have es : (ys.map fun z => (⟨z.cps.toList⟩ : Tx)) = srt a := by
    refine srt_of (List.Pairwise.map _ (fun u w hne z => hne (inj z)) nd) (List.pairwise_map.mpr rs) fun x => ?_
    rw [List.mem_map]
    constructor
    · rintro ⟨z, hz, rfl⟩
      obtain ⟨x, hx, rfl⟩ := List.mem_map.mp ((mm z).mp hz)
      exact hx
    · intro hx
      exact ⟨⟨x.s.toArray⟩, (mm _).mpr (List.mem_map.mpr ⟨x, hx, rfl⟩), rfl⟩
  refine k _ _ (srt a) rfl (e1.trans (Ext.new e1.2 hl _)) (new_lst e1.2 hl ?_)
  have e2 : ys.map V.str = (srt a).map fun x => V.str ⟨x.s.toArray⟩ := by
    rw [← es]
    conv => lhs; rw [e1']
    rw [List.map_map]
    rfl
  rw [e2]
  have em : (srt a) = (srt a).map id := (List.map_id _).symm
  conv => rhs; rw [em]
  exact All2.map fun x _ => rfl
theorem all2_app {α : Type} [Rp α] {Δ : Gh} {H : Hp} : ∀ {vs ws : List V} {xs ys : List α}, All2 (fun u a => Rp.rp K Δ H u a) vs xs → All2 (fun u a => Rp.rp K Δ H u a) ws ys → All2 (fun u a => Rp.rp K Δ H u a) (vs ++ ws) (xs ++ ys)
  | [], _, [], _, _, h => h
  | [], _, _ :: _, _, q, _ => q.elim
  | _ :: _, _, [], _, q, _ => q.elim
  | _ :: _, _, _ :: _, _, q, h => ⟨q.1, all2_app q.2 h⟩
/-- t + u of tuples -/
theorem o2_catTA {α : Type} [Rp α] {x y : Tup α} (hz : x.l.length + y.l.length ≤ 100000) : Op2 K (rCatA K) x y (Is (⟨x.l ++ y.l⟩ : Tup α)) := fun Δ H v w Q hh r1 r2 k => by
  obtain ⟨p, vs, rfl, s1, _, q1⟩ := r1
  obtain ⟨q, ws, rfl, s2, _, q2⟩ := r2
  refine ⟨p, q, vs, ws, rfl, rfl, s1.seq, s2.seq, by rw [q1.len, q2.len]; exact Nat.le_trans hz (by decide), fun h => ?_, fun _ h => ?_, fun _ _ l hl => ?_⟩
  · subst h
    have e : x.l = [] := List.eq_nil_of_length_eq_zero (by rw [← q1.len]; rfl)
    exact k _ H _ rfl (Ext.refl hh) ⟨q, ws, rfl, s2, s2.seq, by rw [e]; exact q2⟩
  · subst h
    have e : y.l = [] := List.eq_nil_of_length_eq_zero (by rw [← q2.len]; rfl)
    exact k _ H _ rfl (Ext.refl hh) ⟨p, vs, rfl, s1, s1.seq, by rw [e, List.append_nil]; exact q1⟩
  · exact k _ _ _ rfl (Ext.new hh hl _) (new_tup hh hl (all2_app q1 q2))
end
end Z

set_option Elab.async false
set_option linter.all false
set_option maxRecDepth 100000
set_option maxHeartbeats 2000000
/-! list(o), o an instance whose __iter__ hands back iter(a tuple), with a __len__ -/
namespace L2
open PySem PySem.Spec PyProof.Rows
/-- the iterator at it stands ahead of item i of the tuple at t -/
def TitO (t it : Addr) (i : Nat) : HO := .ext fun h => h.IsTupleIter it t i
section
variable {X : Cx} {pins : List (Addr × Obj)} {σ : L2.St} {H : Hp} {s : Shared} {t it : Addr} {i : Nat}
theorem tit_ok {P : Program} {w : World} {H : Hp} {h : Heap} (e : h.IsTupleIter it t i) : ObjOk P w H h it (TitO t it i) := by
  have ⟨o, ho, _⟩ := e
  exact ⟨e, ⟨o, ho⟩, fun h1 h2 q k => q.at fun o e => k o e⟩
theorem tit_get (I : Inv X pins σ H s) (e : H it = some (TitO t it i)) : s.heap.IsTupleIter it t i := (I.hok it _ e).1
/-- iter(t), t a tuple -/
def rIterT (K : PySem.W.Frag) : List V → Hp → VK → Prop := fun xs H Q => ∃ (t : Addr) (zs : List V), xs = [.ref t] ∧ SqT K H t zs ∧ ∀ it, H it = none → Q (.ref it) (upd H it (TitO t it 0))
theorem call_iterT : CallR X (.builtin "iter") (rIterT X.K) := by
  intro pins s σ H xs us Q I r h
  obtain ⟨t, zs, rfl, hq, q⟩ := h
  obtain rfl := Vals.ref1 r
  obtain ⟨its, rv, pl, hz⟩ := I.tuple hq
  refine Calls.call_function_entry (by decide +kernel) (by decide +kernel) PySem.W.kdk_entry_iter (PySem.W.kdk_args_iter _) ?_
  unfold Builtin.«iter»
  refine wpAny_bind (m := someArgs "iter" 1 2 _) (wpAny_of_eq (a := [Value.ref t]) (by first | rfl | kernel_rfl!) ?_)
  show wpAny _ _ (pyIter (.ref t) >>= _) _ _ _
  refine wpAny_bind (wpAny_pyIter_tuple pl ?_)
  refine wpAny_pure ⟨_, rfl, ?_⟩
  exact ⟨.ref s.heap.objs.size, _, I.laid (t' := s.toks) (fun b u e => Heap.get?_push_of_some _ e) (Nat.le_refl _) (tit_ok ⟨_, Heap.get?_push_size _ rfl, rfl, rfl⟩), rfl, q _ (I.hok.fresh (Nat.le_refl _))⟩
end
end L2

set_option Elab.async false
set_option linter.all false
set_option maxRecDepth 100000
set_option maxHeartbeats 2000000
namespace L2
open PySem PySem.Spec PyProof.Rows
/-- tracked no more -/
def rm (H : Hp) (it : Addr) : Hp := fun b => if b = it then none else H b
theorem rm_at (H : Hp) (it : Addr) : rm H it it = none := if_pos rfl
theorem rm_ne {H : Hp} {it b : Addr} (h : b ≠ it) : rm H it b = H b := if_neg h
section
variable {X : Cx} {CX : CXT} {pins : List (Addr × Obj)} {σ : L2.St} {H : Hp} {s : Shared} {n : Nat} {C fi fl a : Addr} {fdI fdL : FuncData} {psI psL : List Str} {spI spL : Sp} {E : XK} {A1 : Around}
/-- behind the draining of a tuple's iterator -/
theorem Inv.drew {t it q : Addr} {i c : Nat} {acc : Array Value} {ys : List V} {s' : Shared} (I : Inv X pins σ H s) (e : H it = some (TitO t it i)) (eq : H q = some (.lst [])) (keep : ∀ b o, b ≠ q → b ≠ it → s.heap.get? b = some o → s'.heap.get? b = some o)
    (os : s'.os = s.os) (hb : AllBare s'.gens) (hS : s'.heap.get? q = some { cls := .type "list", dict := none, data := .seq acc c, slots := #[] }) (hv : Vals ys acc.toList) (hz : ys.length ≤ sizeLine) (there : ∃ o, s'.heap.get? it = some o) : Inv X pins σ (upd (rm H it) q (.lst ys)) s' := by
  have off : ∀ {b : Addr}, H b = none → b ≠ q ∧ b ≠ it := by
    intro b n
    constructor
    · intro z
      rw [z, eq] at n
      cases n
    · intro z
      rw [z, e] at n
      cases n
  have off2 : ∀ {b : Addr} {o : HO}, H b = some o → (∀ φ, o ≠ .ext φ) → (∀ xs, o ≠ .lst xs) → b ≠ q ∧ b ≠ it := by
    intro b o y n1 n2
    constructor
    · intro z
      rw [z, eq] at y
      exact n2 _ (Option.some.inj y).symm
    · intro z
      rw [z, e] at y
      exact n1 _ (Option.some.inj y).symm
  have at2 : ∀ {b : Addr}, b ≠ q → b ≠ it → upd (rm H it) q (.lst ys) b = H b := fun {b} n1 n2 => by rw [upd_ne n1, rm_ne n2]
  refine I.call' (ch := []) os ⟨fun b o y n _ _ => keep b o (off n).1 (off n).2 y, fun b o y n _ _ => ⟨o.slots, keep b o (off n).1 (off n).2 y⟩, fun b o y n _ => ?_, fun b o y _ => ?_, fun b xs y => ?_, fun b o u y => ?_, fun b ps y => ⟨#[], ?_⟩⟩ (fun b u y => ?_) hb fun _ z => nomatch z
  · rw [at2 (off n).1 (off n).2]; exact n
  · by_cases h1 : b = q
    · rw [h1]; exact ⟨_, hS⟩
    · by_cases h2 : b = it
      · rw [h2]; exact there
      · exact ⟨o, keep b o h1 h2 y⟩
  · have z := off2 y (fun φ z => by cases z) (fun φ z => by cases z)
    rw [at2 z.1 z.2]; exact y
  · have z := off2 y (fun φ z => by cases z) (fun φ z => by cases z)
    rw [at2 z.1 z.2]; exact y
  · have z := off2 y (fun φ z => by cases z) (fun φ z => by cases z)
    rw [at2 z.1 z.2, y]; simp
  · by_cases h1 : b = q
    · subst h1
      rw [upd_same] at y
      cases y
      exact ⟨hz, acc.toList, c, hv, by rw [hS]⟩
    · by_cases h2 : b = it
      · rw [h2, upd_ne (fun z => h1 (h2.trans z)), rm_at] at y
        cases y
      · rw [at2 h1 h2] at y
        refine (I.hok b u y).stay (fun d v hd w => ?_) (fun d w => ?_) fun d xs w => ?_
        · rcases hd with z | z
          · rw [z] at w ⊢; exact keep b v h1 h2 w
          · have z2 := off2 z (fun φ z => by cases z) (fun φ z => by cases z)
            exact keep d v z2.1 z2.2 w
        · have z := off2 w (fun φ z => by cases z) (fun φ z => by cases z)
          rw [at2 z.1 z.2]; exact w
        · have z := off2 w (fun φ z => by cases z) (fun φ z => by cases z)
          rw [at2 z.1 z.2]; exact w
/-- the turn behind a tuple's last item: the iterator stays an object -/
theorem tuple_out {P : Program} {w : World} {A : Around} {E : Value → Shared → Prop} {s : Shared} {it t : Addr} {i : Nat} {items : Array Value} {Q : Option Value → Shared → Prop} (hh : A.handled = none) (hit : s.heap.IsTupleIter it t i) (ht : s.heap.IsTuple t items) (hx : items[i]? = none)
    (hQ : ∀ h', Heap.ExtBut it s.heap h' → (∃ o, h'.get? it = some o) → Q none { s with heap := h' }) : wpAny (model P w) A (pyNext (.ref it)) Q E s := by
  obtain ⟨o, ho, hc, hd⟩ := id hit
  obtain ⟨ol, hol, _, nl, hdl⟩ := ht
  unfold pyNext
  refine wpAny_bind (wpAny_attempt (wpAny_callSpecial?_slot (name := Str.ofString "__next__") hit.typeIs slot_tupleiter_next (wpAny_call_entry slot_tupleiter_next hit.typeIs entry_tupleiter_next ?_ (args_tupleiter_next _))))
  refine wpAny_bind (m := field (.ref it) 0) (wpAny_field ho hd (x := .ref t) rfl ?_)
  change wpAny _ _ (if (Value.ref t == Value.none) = true then _ else _) _ _ s
  rw [if_neg (fun z => by cases (show false = true from z))]
  refine wpAny_bind (m := field (.ref it) 1) (wpAny_field ho hd (x := .int i 0) rfl ?_)
  refine wpAny_bind (m := seqItems? (.ref t)) (wpAny_seqItems hol hdl ?_)
  simp only [Int.toNat_natCast, hx]
  refine wpAny_bind (wpAny_rule (wpAny_bind (wpAny_setField ho hd (by simp) ?_)))
  have hu := Heap.get?_update_self (Obj.mapFields (·.setIfInBounds 0 Value.none)) ho (Obj.isFreed_of_fields (Obj.data_mapFields hd _))
  refine wpAny_bind (m := newExc (.type "StopIteration") []) ?_
  simp only [newExc, newTuple]
  refine wpAny_bind (wpAny_newObj_type (wpAny_bind (m := firstArgMember _ _) (wpAny_of_eq (a := Value.none) (by first | rfl | (simp only [firstArgMember]; rfl)) (wpAny_newObj_type ?_ (by size_fits)))) (by size_fits))
  simp only [raiseNew]
  refine wpAny_bind (wpAny_handled ?_)
  rw [show A.in1.handled = none from hh]
  refine wpAny_bind (wpAny_pure (wpAny_throw ?_))
  refine wpAny_bind (wpAny_isInstance (T := "StopIteration") (b := true) ⟨_, Heap.get?_push_size _ rfl, rfl⟩ isSubtype_stop ?_)
  exact wpAny_pure (hQ _ (((Heap.SameBut.update ..).extBut.push _).push _) ⟨_, Heap.get?_push_of_some _ (Heap.get?_push_of_some _ hu)⟩)
/-- the loop that draws a tuple's iterator into a list -/
theorem tuple_loop {P : Program} {w : World} {A : Around} {it t q : Addr} {items : Array Value} {R : Result → Shared → Prop} (hh : A.handled = none) (nt : t ≠ it) (nq : q ≠ it) (nqt : q ≠ t) (hz : items.size ≤ sizeLine) :
    ∀ (r i : Nat) (s : Shared) (acc : Array Value) (c : Nat), items.size - i = r → i ≤ items.size → s.heap.IsTupleIter it t i → s.heap.IsTuple t items → s.heap.get? q = some { cls := .type "list", dict := none, data := .seq acc c, slots := #[] } → acc.toList = items.toList.take i →
      (∀ (h' : Heap) (c' : Nat), (∀ b o, b ≠ q → b ≠ it → s.heap.get? b = some o → h'.get? b = some o) → (∃ o, h'.get? it = some o) → h'.get? q = some { cls := .type "list", dict := none, data := .seq items c', slots := #[] } → R (.ok (.ret .none)) { s with heap := h' }) →
      codeAny (model P w) A (.builtin "list.extend.loop" ⟨[.ref q, .ref it, .none], []⟩) R s := by
  intro r
  induction r with
  | zero =>
    intro i s acc c hr hi hit ht hq ha hR
    obtain rfl : i = items.size := by omega
    refine codeAny_builtin PySem.F.entry_extend_loop ?_
    rw [Around.under_plainId PySem.F.plain_extend_loop _]
    show wpAny _ A.in1 (pyNext (.ref it) >>= _) _ _ s
    refine wpAny_bind (tuple_out (A := A.in1) hh hit ht (by simp) fun h' e th => wpAny_pure ?_)
    have ea : acc = items := by
      apply Array.toList_inj.mp
      rw [ha]
      exact List.take_of_length_le (by simp)
    subst ea
    exact hR h' c (fun b o h1 h2 y => e b o h2 y) th (e q _ nq hq)
  | succ r ih =>
    intro i s acc c hr hi hit ht hq ha hR
    have lt : i < items.size := by omega
    refine codeAny_builtin PySem.F.entry_extend_loop ?_
    rw [Around.under_plainId PySem.F.plain_extend_loop _]
    show wpAny _ A.in1 (pyNext (.ref it) >>= _) _ _ s
    refine wpAny_bind (wpAny_pyNext_tuple_item hit ht (x := items[i]) (Array.getElem?_eq_getElem lt) fun h1 hit1 sb1 => ?_)
    show wpAny _ A.in1 (updateSeq q (·.push items[i]) >>= _) _ _ _
    have hq1 : h1.get? q = some { cls := .type "list", dict := none, data := .seq acc c, slots := #[] } := (sb1.2 q nq).trans hq
    have hasz : acc.size = i := by
      rw [← Array.length_toList, ha, List.length_take]
      have : items.toList.length = items.size := Array.length_toList
      omega
    refine wpAny_bind (wpAny_updateSeq hq1 rfl (wpAny_pure ⟨plainId_quiet PySem.F.plain_extend_loop _, ?_⟩) (by omega) (by show (acc.push _).size ≤ sizeLine + 1; rw [Array.size_push]; omega))
    have keep : ∀ b o, b ≠ q → h1.get? b = some o → (h1.update q (Obj.mapSeq (·.push items[i]))).get? b = some o := fun b o hb y => (Heap.get?_update_other _ _ (Ne.symm hb)).trans y
    refine ih (i + 1) _ (acc.push items[i]) _ (by omega) lt (hit1.at fun o y => keep it o (Ne.symm nq) y) ((ht.extBut sb1.extBut nt).at fun o y => keep t o (Ne.symm nqt) y) (Heap.get?_update_self _ hq1 rfl) ?_ fun h' c' k' th hq' => hR h' c' (fun b o n1 n2 y => k' b o n1 n2 (keep b o n1 ((sb1.2 b n2).trans y))) th hq'
    rw [Array.toList_push, ha, List.take_add_one]
    congr 1
    rw [Array.getElem?_toList, Array.getElem?_eq_getElem lt]
    rfl
/-- the length is asked -/
theorem own_len_hint {Q : Bool → Shared → Prop} {dx : Addr} {fs : List (Str × V)} {R : Hp → Prop} {E1 : Value → Shared → Prop} (sb : Sub X (n + 1) A1) (hs : PySem.W.findIn X.K (.ref C) "__len__" = some (some (.ref fl))) (hf : PySem.W.isFn X.K (.ref fl) = true)
    (F : FnOk X.prog X.w X.K X.mg X.base CX n fl fdL psL spL) (hb : Binds X.K fdL psL []) (hx : ∀ e s', CX X.stack H s E e s' → False) (I : Inv X pins σ H s) (ha : H a = some (.ins C dx fs))
    (h : spL [.ref a] H (fun z H' => ∃ k : Nat, k ≤ 100000 ∧ z = .int k ∧ R H') E) (hQ : ∀ b s' H', Inv X pins σ H' s' → R H' → Q b s') : wpAny (model X.prog X.w) A1 (Builtin.List.listLengthHint (.ref a)) Q E1 s := by
  obtain ⟨mA, J, _⟩ := ins_get I.hok ha
  obtain ⟨od, J, _⟩ := J.look
  obtain ⟨m, hF⟩ := I.fr
  have e0 : Env0 X.prog X.w X.K X.mg X.base A1.in1 X.stack s H := by
    have e := I.env0
    exact ⟨by show A1.frames = _; rw [sb.fr]; exact e.frames, e.mod, e.bs, e.bsz, e.funs, e.frf, e.hok, e.bare⟩
  have hl := F.len _ _ _ _ h
  have cal : wpAny (model X.prog X.w) A1 (call (.builtin "len") [.ref a]) (fun v s' => ∃ (k : Nat) (t : Tok) (H' : Hp), k ≤ 100000 ∧ v = .int k t ∧ Inv X pins σ H' s' ∧ R H') (fun _ _ => False) s := by
    refine PySem.W.len_K hF I.ok.mod.kin J hs hf (wpAny_call (codeAny_mono (F.run A1.in1 X.stack s H ⟨[.ref a], []⟩ [.ref a] [.ref a] _ E sb.room.in1 e0 (by
      have := hb s [.ref a] I.kIn (by simpa using hl)
      simpa using this) (.cons rfl .nil) h) fun r s' hq => ?_))
    match r, hq with
    | .error e, hq => exact (hx e s' hq).elim
    | .ok .next, hq => exact False.elim hq
    | .ok .brk, hq => exact False.elim hq
    | .ok .cont, hq => exact False.elim hq
    | .ok (.ret w), hq =>
      obtain ⟨z, H', I', rz, k, hk, rfl, q⟩ := I.after hq
      obtain ⟨t, rfl⟩ := (show ∃ t, w = Value.int k t from rz)
      refine ⟨⟨by omega, by omega⟩, ?_⟩
      exact ⟨k, _, H', hk, rfl, I'.kept (t' := s'.toks + 1) (fun _ _ e => e), q⟩
  unfold Builtin.List.listLengthHint
  refine wpAny_bind (wpAny_bind (J.type.here ((PySem.W.looks_findIn I.kIn hs).here ?_)))
  refine PySem.W.KFB.if_not rfl ?_
  show wpAny _ _ (rule "list.length-hint.len" >>= _) _ _ _
  refine wpAny_bind (wpAny_rule ?_)
  refine wpAny_bind (wpAny_attempt (wpAny_mono cal (fun v s' hv => ?_) fun _ _ z => z.elim))
  obtain ⟨k, t, H', hk, rfl, I', r⟩ := hv
  dsimp only
  refine wpAny_bind (wpAny_of_eq (a := some (k : Int)) (by first | rfl | kernel_rfl) ?_)
  dsimp only
  have hn : Builtin.List.listTooLong (k : Int).toNat = false := by
    unfold Builtin.List.listTooLong
    have := sizeLine_eq
    have h1 : ¬ (k : Int).toNat > sizeLine := by
      rw [Int.toNat_natCast]
      exact Nat.not_lt.mpr (Nat.le_trans hk (by decide))
    simpa using h1
  rw [if_neg (by rw [hn]; exact Bool.false_ne_true)]
  exact wpAny_pure (hQ _ s' H' I' r)
/-- list(o) -/
def rListI (K : PySem.W.Frag) (C : Addr) (spI spL : Sp) (E : XK) : List V → Hp → VK → Prop := fun xs H Q => ∃ a dx fs, xs = [.ref a] ∧ H a = some (.ins C dx fs) ∧ ∀ q, H q = none →
  spI [.ref a] (upd H q (.lst [])) (fun v H2 => ∃ it t, v = .ref it ∧ H2 it = some (TitO t it 0) ∧ (∃ dx2 fs2, H2 a = some (.ins C dx2 fs2)) ∧
    spL [.ref a] H2 (fun z H3 => ∃ k : Nat, k ≤ 100000 ∧ z = .int k ∧ ∃ ys, H3 it = some (TitO t it 0) ∧ H3 q = some (.lst []) ∧ SqT K H3 t ys ∧ ys.length ≤ 100000 ∧ Q (.ref q) (upd (rm H3 it) q (.lst ys))) E) E
theorem call_listI (hiS : PySem.W.findIn X.K (.ref C) "__iter__" = some (some (.ref fi))) (hiF : PySem.W.isFn X.K (.ref fi) = true) (FI : FnOk X.prog X.w X.K X.mg X.base CX0 n fi fdI psI spI) (bI : Binds X.K fdI psI [])
    (hlS : PySem.W.findIn X.K (.ref C) "__len__" = some (some (.ref fl))) (hlF : PySem.W.isFn X.K (.ref fl) = true) (FL : FnOk X.prog X.w X.K X.mg X.base CX0 n fl fdL psL spL) (bL : Binds X.K fdL psL []) (hr : Room (n + 4) X.A) : CallR X (.type "list") (rListI X.K C spI spL E) := by
  intro pins s σ H xs us Q I rv h
  obtain ⟨a, dx, fs, rfl, ha, hq⟩ := h
  obtain ⟨u, rfl, ru⟩ := rv.one
  cases ru
  have sb : Sub X (n + 1) X.A.in1.in1 := ⟨(hr.mono (by omega : n + 3 ≤ n + 4)).in1.in1, rfl⟩
  refine callType_codes (Q₁ := fun obj z => obj = .ref s.heap.objs.size ∧ z = { s with heap := s.heap.push { cls := .type "list", data := .seq #[] } }) PySem.F.called_list (PySem.F.typeCall_list_1 _) PySem.F.entry_list_init (code_list_new _ ⟨rfl, rfl⟩) fun obj z hz => ?_
  obtain ⟨rfl, rfl⟩ := hz
  have hS : (s.heap.push { cls := .type "list", data := .seq #[] }).get? s.heap.objs.size = some { cls := .type "list", data := .seq #[] } := Heap.get?_push_size _ rfl
  refine ⟨⟨_, hS, rfl⟩, PySem.F.args_list_init_2 _ _, ?_⟩
  have fr : H s.heap.objs.size = none := I.hok.fresh (Nat.le_refl _)
  have hsp := hq _ fr
  have I1 : Inv X pins σ (upd H s.heap.objs.size (.lst [])) { s with heap := s.heap.push { cls := .type "list", data := .seq #[] } } := I.lnew (its := []) (t' := s.toks) .nil (Nat.zero_le _)
  generalize hQS : s.heap.objs.size = q at *
  show wpAny _ _ (do let old ← Builtin.List.listItems (.ref q); Builtin.List.listUpdate (.ref q) (fun _ => #[]); letGo old.toList.reverse; Builtin.List.listExtendWith (.ref q) (.ref a) .none) _ _ _
  refine wpAny_bind ?_
  unfold Builtin.List.listItems
  refine wpAny_bind (wpAny_seqItems hS rfl (wpAny_pure ?_))
  show wpAny _ _ (updateSeq q (fun _ => #[]) >>= fun _ => letGo (#[] : Array Value).toList.reverse >>= fun _ => Builtin.List.listExtendWith (.ref q) (.ref a) .none) _ _ _
  refine wpAny_bind (wpAny_updateSeq hS rfl ?_)
  have I2 := I1.lset (f := fun _ => #[]) (its := []) (its' := []) (ys := []) (t' := s.toks) upd_same hS rfl .nil (Nat.zero_le _)
  rw [upd_upd] at I2
  refine wpAny_bind (wpAny_letGo ?_)
  have ha2 : upd H q (.lst []) a = some (.ins C dx fs) := by rw [upd_ne (ne_of_none ha fr)]; exact ha
  generalize upd H q (.lst []) = H1 at I2 ha2 hsp
  generalize ({ s with heap := _ } : Shared) = s2 at I2 ⊢
  have hne : q ≠ a := fun z => by rw [z, ha] at fr; cases fr
  obtain ⟨mA, J, _⟩ := ins_get I2.hok ha2
  obtain ⟨od, J, _⟩ := J.look
  obtain ⟨m0, hF⟩ := I2.fr
  unfold Builtin.List.listExtendWith
  refine wpAny_bind (J.type.here ?_)
  have h1 : Builtin.List.listSameRef (.ref q) (.ref a) = false := by simp [Builtin.List.listSameRef, hne]
  have h2 : (Value.ref C == Value.type "list") = false := rfl
  have h3 : (Value.ref C == Value.type "tuple") = false := rfl
  simp only [h1, h2, h3, Bool.or_false, Bool.false_eq_true, if_false]
  refine wpAny_bind (PySem.W.owit_iter hF I2.ok.mod.kin J hiS hiF ?_)
  have e0 : Env0 X.prog X.w X.K X.mg X.base X.A.in1.in1 X.stack s2 H1 := by
    have e := I2.env0
    exact ⟨e.frames, e.mod, e.bs, e.bsz, e.funs, e.frf, e.hok, e.bare⟩
  have hl := FI.len _ _ _ _ hsp
  refine wpAny_call (codeAny_mono (FI.run X.A.in1.in1 X.stack s2 H1 ⟨[.ref a], []⟩ [.ref a] [.ref a] _ E ((hr.mono (by omega : n + 2 ≤ n + 4)).in1.in1) e0 (by
    have := bI s2 [.ref a] I2.kIn (by simpa using hl)
    simpa using this) (.cons rfl .nil) hsp) fun r s3 hq3 => ?_)
  match r, hq3 with
  | .error e, hq3 => exact False.elim hq3
  | .ok .next, hq3 => exact False.elim hq3
  | .ok .brk, hq3 => exact False.elim hq3
  | .ok .cont, hq3 => exact False.elim hq3
  | .ok (.ret u), hq3 =>
    obtain ⟨v, H3, I3, rv3, it, t, rfl, hit, ⟨dx2, fs2, ha3⟩, hsl⟩ := I2.after hq3
    obtain rfl : u = Value.ref it := rv3
    have tit := tit_get I3 hit
    have hT : s3.TypeIs (.ref it) "tuple_iterator" := let ⟨o, ho, hc, _⟩ := tit; ⟨o, ho, hc⟩
    unfold PySem.W.OwitIt
    refine wpAny_specialOf hT slot_tupleiter_next.lookup ?_
    refine wpAny_bind (wpAny_holding (own_len_hint (CX := CX0) (n := n) sb hlS hlF FL bL (fun _ _ z => z.elim) I3 ha3 hsl fun b s4 H4 I4 hR => ?_))
    obtain ⟨ys, hit4, hq4, hys, hyl, hfin⟩ := hR
    have nt : t ≠ it := fun z => by
      obtain ⟨its, rt, pt, _⟩ := I4.tuple hys
      obtain ⟨o, ho, hc, _⟩ := tit_get I4 hit4
      obtain ⟨o2, ho2, hc2, _⟩ := pt
      rw [z, ho] at ho2
      cases ho2
      rw [hc] at hc2
      exact absurd (Value.type.inj hc2) (by decide)
    have nq : q ≠ it := fun z => by rw [z, hit4] at hq4; cases hq4
    have nqt : q ≠ t := fun z => by
      obtain ⟨its, rt, pt, _⟩ := I4.tuple hys
      obtain ⟨_, its2, k2, _, _, e2⟩ := I4.lstM hq4
      obtain ⟨o2, ho2, hc2, _⟩ := pt
      rw [← z, e2] at ho2
      cases ho2
      exact absurd (Value.type.inj hc2) (by decide)
    have loop : ∀ s5 : Shared, Inv X pins σ H4 s5 → codeAny (model X.prog X.w) X.A.in1 (.builtin "list.extend.loop" ⟨[.ref q, .ref it, .none], []⟩) (wants (fun r z => r = .none ∧ EP X pins σ Q (.ref q) z) X.xe) s5 := fun s5 I5 => by
      obtain ⟨its, rt, pt, hz⟩ := I5.tuple hys
      obtain ⟨_, its2, k2, r2, _, e2⟩ := I5.lstM hq4
      cases r2
      have hh : X.A.in1.in1.handled = none := hr.hd
      have tit5 := tit_get I5 hit4
      have hsz : its.toArray.size ≤ sizeLine := by rw [List.size_toArray, ← rt.length]; exact Nat.le_trans hyl (by decide)
      refine tuple_loop (A := X.A.in1) hh nt nq nqt hsz (its.toArray.size - 0) 0 s5 #[] _ rfl (Nat.zero_le _) tit5 pt e2 (by simp) fun h' c' keep th hq6 => ?_
      exact ⟨rfl, .ref q, upd (rm H4 it) q (.lst ys), I5.drew (s' := { s5 with heap := h' }) hit4 hq4 keep rfl I5.bare hq6 rt (Nat.le_trans hyl (by decide)) th, rfl, hfin⟩
    obtain ⟨_, its2, k2, r2, _, e2⟩ := I4.lstM hq4
    cases r2
    refine wpAny_ite_split (fun _ => ?_) (fun _ => wpAny_pure ⟨plainId_quiet PySem.F.plain_extend_loop _, loop s4 I4⟩)
    refine wpAny_bind (wpAny_rule ?_)
    refine wpAny_bind ?_
    show wpAny _ _ (updateSeq q (·.push .none) >>= fun _ => updateSeq q (·.pop)) _ _ _
    refine wpAny_bind (wpAny_updateSeq e2 rfl ?_)
    have I5 := I4.lset (f := (·.push Value.none)) (its' := [Value.none]) (ys := [.non]) (t' := s4.toks) hq4 e2 (by simp) (.cons rfl .nil) (by rw [List.length_singleton, sizeLine_eq]; decide)
    obtain ⟨z4, its4, k4, r4, hl4, e4⟩ := I5.lstM upd_same
    obtain ⟨u4, rfl, ru4⟩ := r4.one
    refine wpAny_updateSeq e4 rfl ?_ (by show 1 ≤ sizeLine; rw [sizeLine_eq]; decide) (by show 0 ≤ sizeLine + 1; exact Nat.zero_le _)
    have I6 := I5.lset (f := (·.pop)) (its := [u4]) (its' := []) (ys := []) (t' := s4.toks) upd_same e4 (by rfl) .nil (Nat.zero_le _)
    rw [upd_upd] at I6
    have hH : upd H4 q (.lst []) = H4 := by
      funext b
      by_cases hb : b = q
      · rw [hb, upd_same, hq4]
      · rw [upd_ne hb]
    rw [hH] at I6
    exact wpAny_pure ⟨plainId_quiet PySem.F.plain_extend_loop _, loop _ I6⟩
end
end L2

set_option Elab.async false
set_option linter.all false
set_option maxRecDepth 100000
set_option maxHeartbeats 1000000
/-! a def that hands back iter(a tuple); list(o) on data -/
namespace Z
open PySem PySem.Spec PyProof.Rows L2
/-- what a def promises, told by a relation -/
def spR (K : PySem.W.Frag) (G : Own → List Cell → (Gh → Hp → V → Hp → Prop) → Prop) : Sp := fun vs H Q _ => ∃ (Γ : Own) (Δ : Gh) (cs : List Cell) (T : Gh → Hp → V → Hp → Prop), G Γ cs T ∧ Sat Γ Δ ∧ Hold Δ H ∧ ArgsOk K Δ H vs cs ∧
  ∀ (v : V) (H' : Hp), T Δ H v H' → Q v H'
def FinR (Δ0 : Gh) (H0 : Hp) (T : Gh → Hp → V → Hp → Prop) (D : Ends) : Prop := ∀ (v : V) (H' : Hp), T Δ0 H0 v H' → D.rt v H'
section
variable {P : Program} {w : World} {K : PySem.W.Frag} {mg : Str → Option Value} {base : Heap}
theorem def_okR {x qual : Str} {args : Arguments} {body : List Stmt} {scope : Scope} {dvs : List V} {kws : List (Str × V)} {f : Addr} {fd : FuncData} {N ps : List Str} {k : Nat} {G : Own → List Cell → (Gh → Hp → V → Hp → Prop) → Prop}
    (Fn : FunD K x qual args body scope dvs kws f fd) (S : FnScope N ps scope) (len : ∀ Γ cs T, G Γ cs T → cs.length = ps.length)
    (hb : ∀ (cdv : Value) (A : Around) (outer : List PySem.Env) (s : Shared) (H : Hp) (E : XK), Room k (A.deeper (envOfC qual scope s.heap.objs.size f cdv)) →
      ∀ (Γ : Own) (cs : List Cell) (T : Gh → Hp → V → Hp → Prop), G Γ cs T → ∃ t, PSs (cxOf CX0 P w K mg base N qual scope f cdv A outer s H E).nox body t ∧
        ∀ (Δ0 : Gh) (D : Ends), FinR Δ0 H T D → Wp K Δ0 H Γ [] (env0 N cs) t D) :
    FnOk P w K mg base CX0 (k + 1) f fd ps (spR K G) := by
  refine Fn.ok S (fun vs H Q E h => ?_) (fun cdv A outer s H vs Q E hr h => ?_)
  · obtain ⟨Γ, Δ, cs, T, g, _, _, a, _⟩ := h
    rw [All2.len a]
    exact len Γ cs T g
  · obtain ⟨Γ, Δ, cs, T, g, sa, hh, a, q⟩ := h
    obtain ⟨t, ht, hw⟩ := hb cdv A outer s H E hr Γ cs T g
    refine ⟨t, ?_, hw Δ _ (fun v H' h => q v H' h) _ H ⟨Δ, sa, hh, start_ok a, fun z hz => (nomatch hz), Ext.refl hh, fun _ _ z => z, fun x n m => absurd n m⟩⟩
    first
      | exact ht
      | exact PSs.nox ht
end
section
variable {K : PySem.W.Frag} {α : Type} [Rp α]
/-- an iterator over the tuple, new -/
def TIt (K : PySem.W.Frag) (xs : Tup α) : Gh → Hp → V → Hp → Prop := fun Δ H v H' => ∃ it t, v = .ref it ∧ H it = none ∧ Δ it = none ∧ Ext Δ H H' ∧ H' it = some (TitO t it 0) ∧ Rp.rp K Δ H' (.ref t) xs
/-- return iter(xs) -/
theorem wp_retIt {Δ0 : Gh} {H0 : Hp} {Γ : Own} {F : List (V × Cell)} {ρ : Z.Env} {te : TE} {D : Ends} {xs : Tup α} (hf : FinR Δ0 H0 (TIt K xs) D) (h : Ev K Γ te ρ (Is xs)) : Wp K Δ0 H0 Γ F ρ (tRet (tCB (rIterT K) (tCons te tNil))) D := fun σ H ⟨Δ, s, hh, e, f, e0, s1, s2⟩ =>
  h Δ σ H _ s hh e fun v H1 a pa e1 r => by
    have ea : a = xs := pa
    subst ea
    obtain ⟨p, vs, rfl, st, sq, q⟩ := r
    refine ⟨p, vs, rfl, sq, fun it hit => ?_⟩
    have e2 := e1.trans (Ext.new e1.2 hit (TitO p it 0))
    have e3 := ext0 e0 s1 s2 e1
    have hn := none0 s1 (e1.2.fresh hit)
    refine hf _ _ ⟨it, p, rfl, ?_, hn, ext0 e0 s1 s2 e2, upd_same, ?_⟩
    · cases q2 : H0 it with
      | none => rfl
      | some o =>
        have := e3.1 it o hn q2
        rw [hit] at this
        cases this
    · have r2 : Rp.rp K Δ (upd H1 it (TitO p it 0)) (.ref p) a := Rp.mono (Ext.new e1.2 hit (TitO p it 0)).1 ⟨p, vs, rfl, st, sq, q⟩
      exact Rp.weak (fun x o _ hx => none0 s1 hx) r2
variable {Γ : Own} {ρ : Z.Env} {te : TE} {β : Type} [Rp β] {C : Addr} {E : XK} [Flat α]
/-- list(b) -/
theorem ev_listI {GI : Own → List Cell → (Gh → Hp → V → Hp → Prop) → Prop} {FL : Own → List Cell → (Int → Prop) → Prop} {Pb : β → Prop} {f : β → List α} (hI : IsIns K C β) (h : Ev K Γ te ρ Pb)
    (hG : ∀ b, Pb b → GI Γ [⟨b⟩] (TIt K (⟨f b⟩ : Tup α))) (hF : ∀ b, Pb b → FL Γ [⟨b⟩] (Is ((f b).length : Int))) (hz : ∀ b, Pb b → (f b).length ≤ 100000) :
    Ev K Γ (tCB (rListI K C (spR K GI) (spD K FL) E) (tCons te tNil)) ρ (fun ys : List α => ∃ b, Pb b ∧ ys = f b) := fun Δ σ H Q s hh e k =>
  h Δ σ H _ s hh e fun v H1 b pb e1 r1 => by
    obtain ⟨a, dx, fs, rfl, ha⟩ := hI Δ H1 v _ r1
    refine ⟨a, dx, fs, rfl, ha, fun q hq => ?_⟩
    have en := Ext.new e1.2 hq (.lst [])
    have nq : Δ q = none := e1.2.fresh hq
    refine ⟨Γ, Δ, [⟨b⟩], _, hG b pb, s, en.2, ⟨Rp.mono en.1 r1, trivial⟩, fun v2 H2 ht => ?_⟩
    obtain ⟨it, t, rfl, hit, nit, e2, hit2, rt⟩ := ht
    obtain ⟨a2, dx2, fs2, ea2, ha2⟩ := hI Δ H2 _ _ (Rp.mono e2.1 (Rp.mono en.1 r1))
    cases ea2
    refine ⟨it, t, rfl, hit2, ⟨dx2, fs2, ha2⟩, Γ, Δ, [⟨b⟩], Is ((f b).length : Int), hF b pb, s, e2.2, ⟨Rp.mono e2.1 (Rp.mono en.1 r1), trivial⟩, fun z H3 c pc e3 r3 => ?_⟩
    have ec : c = ((f b).length : Int) := pc
    subst ec
    have ez : z = .int ((f b).length : Int) := r3
    subst ez
    obtain ⟨p, vs, ep, st, sq, qa⟩ := Rp.mono e3.1 rt
    cases ep
    have hq3 : H3 q = some (.lst []) := e3.1 _ _ nq (e2.1 _ _ nq upd_same)
    have hne : q ≠ it := fun z => by
      rw [← z] at hit
      rw [upd_same] at hit
      cases hit
    refine ⟨(f b).length, hz b pb, rfl, vs, e3.1 _ _ nit hit2, hq3, sq, by rw [qa.len]; exact hz b pb, ?_⟩
    refine k _ _ (f b) ⟨b, pb, rfl⟩ ⟨fun x o nx hx => ?_, fun x J hx => ?_⟩ ⟨q, vs, rfl, .inl ⟨nq, .inl upd_same⟩, .inl (.inl upd_same), ?_⟩
    · have h1 := e1.1 x o nx hx
      have nxq : x ≠ q := fun z => by rw [z, hq] at h1; cases h1
      have h2 : upd H1 q (.lst []) x = some o := by rw [upd_ne nxq]; exact h1
      have nxi : x ≠ it := fun z => by rw [z, hit] at h2; cases h2
      rw [upd_ne nxq, rm_ne nxi]
      exact e3.1 x o nx (e2.1 x o nx h2)
    · have nxq : x ≠ q := fun z => by rw [z, nq] at hx; cases hx
      have nxi : x ≠ it := fun z => by rw [z, nit] at hx; cases hx
      rw [upd_ne nxq, rm_ne nxi]
      exact e3.2 x J hx
    · rw [flat_all2 qa]
      exact all2_flat _
end
end Z

set_option Elab.async false
set_option linter.all false
set_option maxRecDepth 100000
set_option maxHeartbeats 1000000
/-! str(o) by its own __str__; f-strings of ints -/
namespace L2
open PySem PySem.Spec PyProof.Rows
section
variable {X : Cx} {CX : CXT} {k : Nat} {C g : Addr} {fd : FuncData} {ps : List Str} {sp : Sp} {E : XK}
def rStrI (C : Addr) (sp : Sp) (E : XK) : List V → Hp → VK → Prop := fun xs H Q => ∃ a dx fs, xs = [.ref a] ∧ H a = some (.ins C dx fs) ∧ sp [.ref a] H (fun z H' => ∃ y : Str, z = .str y ∧ Q (.str y) H') E
theorem call_strI (hs : PySem.W.findIn X.K (.ref C) "__str__" = some (some (.ref g))) (hf : PySem.W.isFn X.K (.ref g) = true) (F : FnOk X.prog X.w X.K X.mg X.base CX k g fd ps sp) (hr : Room (k + 3) X.A) (hb : Binds X.K fd ps []) (hx : Passes CX X E) : CallR X (.type "str") (rStrI C sp E) := by
  intro pins s σ H xs us Q I r h
  obtain ⟨a, dx, fs, rfl, ha, q⟩ := h
  rw [Vals.ref1 r]
  obtain ⟨_, J1, _⟩ := ins_get I.hok ha
  obtain ⟨_, J1, _⟩ := J1.look
  have hl := F.len _ _ _ _ q
  have r1 : Room (k + 2) X.A.in1 := hr.in1
  have r2 : Room (k + 1) X.A.in1.in1 := r1.in1
  have r3 : Room k X.A.in1.in1.in1 := r2.in1
  refine PySem.W.kso_call r2.units0 I.kIn J1 hs hf (wpAny_call (codeAny_mono (F.run X.A.in1.in1 X.stack s H ⟨[.ref a], []⟩ [.ref a] [.ref a] _ E (r2.mono (by omega)) I.env0.in1.in1 (by
    have := hb s [.ref a] I.kIn (by simpa using hl)
    simpa using this) (.cons rfl .nil) q) fun r s' hq => ?_))
  cases r with
  | error e => exact hx pins σ H s e s' I hq
  | ok fl =>
    cases fl with
    | ret w =>
      obtain ⟨z, H', I', rz, y, rfl, qz⟩ := I.after hq
      obtain ⟨t, rfl⟩ := (show ∃ t, w = Value.str y t from rz)
      exact ⟨.str y, H', I', ⟨_, rfl⟩, qz⟩
    | next => exact False.elim hq
    | brk => exact False.elim hq
    | cont => exact False.elim hq
end
end L2
namespace Z
open PySem PySem.Spec PyProof.Rows L2
section
variable {K : PySem.W.Frag} {Γ : Own} {ρ : Z.Env} {te : TE} {β : Type} [Rp β] {C : Addr} {E : XK}
abbrev txS (s : Str) : Tx := ⟨s.cps.toList⟩
/-- str(b) -/
theorem ev_strI {F : Own → List Cell → (Tx → Prop) → Prop} {Pb : β → Prop} {Pc : Tx → Prop} (hI : IsIns K C β) (hb : Ev K Γ te ρ Pb) (hF : ∀ b, Pb b → ∃ R, F Γ [⟨b⟩] R ∧ ∀ c, R c → Pc c) : Ev K Γ (tCB (rStrI C (spD K F) E) (tCons te tNil)) ρ Pc := fun Δ σ H Q s hh e k =>
  hb Δ σ H _ s hh e fun u H1 b pb e1 r1 => by
    obtain ⟨q, dy, gs, rfl, hq⟩ := hI Δ H1 u _ r1
    obtain ⟨R, hR, hc⟩ := hF b pb
    exact ⟨q, dy, gs, rfl, hq, Γ, Δ, [⟨b⟩], R, hR, s, e1.2, ⟨r1, trivial⟩, fun z H' c pc e3 r3 => ⟨⟨c.s.toArray⟩, r3, k _ H' c (hc c pc) (e1.trans e3) rfl⟩⟩
/-- str(int) -/
theorem o1_strInt {i : Int} (h : i.natAbs.log2 < 1920) : Op1 K (fun xs H Q => ∃ i, xs = [.int i] ∧ i.natAbs.log2 < 1920 ∧ Q (.str (toString i)) H) i (Is (txS (toString i))) := fun Δ H v Q hh r k =>
  ⟨i, by rw [show v = .int i from r], h, k _ H _ rfl (Ext.refl hh) rfl⟩
/-- the parts of an f-string, as texts -/
inductive EvJ (K : PySem.W.Frag) (Γ : Own) (ρ : Z.Env) : List TE → List Str → Prop where
  | nil : EvJ K Γ ρ [] []
  | int {te : TE} {ts : List TE} {ys : List Str} {i : Int} (h : Ev K Γ te ρ (Is i)) (hz : i.natAbs.log2 < 1920) (r : EvJ K Γ ρ ts ys) : EvJ K Γ ρ (tFmt te :: ts) (((toString i : String) : Str) :: ys)
  | lit {x : Str} {ts : List TE} {ys : List Str} (r : EvJ K Γ ρ ts ys) : EvJ K Γ ρ (tC (.str x) :: ts) (x :: ys)
theorem evj_run {ts : List TE} {ys : List Str} (h : EvJ K Γ ρ ts ys) : ∀ (acc : Str) (Δ : Gh) (σ : L2.St) (H : Hp) (Q : Str → Hp → Prop), Sat Γ Δ → Hold Δ H → EnvOk K Δ σ H ρ → (ys.foldl (· ++ ·) acc).length ≤ sizeLine → (∀ H', Ext Δ H H' → Q (ys.foldl (· ++ ·) acc) H') → tJs ts acc σ H Q := by
  have grow : ∀ (ys : List Str) (a : Str), a.length ≤ (ys.foldl (· ++ ·) a).length := by
    intro ys
    induction ys with
    | nil => exact fun a => Nat.le_refl _
    | cons y ys ih =>
      intro a
      refine Nat.le_trans ?_ (ih (a ++ y))
      show a.cps.size ≤ (a.cps ++ y.cps).size
      rw [Array.size_append]
      omega
  induction h with
  | nil => exact fun acc Δ σ H Q s hh e hz k => k H (Ext.refl hh)
  | @int te ts ys i h hz r ih =>
    intro acc Δ σ H Q s hh e hl k
    refine h Δ σ H _ s hh e fun v H1 a pa e1 rr => ?_
    have ea : a = i := pa
    subst ea
    refine .inr ⟨a, rr, hz, _, rfl, Nat.le_trans (grow ys _) hl, ih _ Δ σ H1 Q s e1.2 (e.mono e1.1) hl fun H' e2 => k H' (e1.trans e2)⟩
  | @lit x ts ys r ih =>
    intro acc Δ σ H Q s hh e hl k
    exact ⟨x, rfl, Nat.le_trans (grow ys _) hl, ih _ Δ σ H Q s hh e hl k⟩
/-- f'..' -/
theorem ev_fstr {ts : List TE} {ys : List Str} {x : Tx} (h : EvJ K Γ ρ ts ys) (e0 : ys.foldl (· ++ ·) Str.empty = ⟨x.s.toArray⟩) (hz : x.s.length ≤ 1000) : Ev K Γ (fun σ H Q => tJs ts Str.empty σ H fun out H1 => Q (.str out) H1) ρ (Is x) := fun Δ σ H Q s hh e k =>
  evj_run h Str.empty Δ σ H _ s hh e (by rw [e0]; exact Nat.le_trans (by simpa [Str.length] using hz) (by decide)) fun H' e1 => k _ H' x rfl e1 (by rw [e0]; rfl)
end
end Z

set_option Elab.async false
set_option linter.all false
set_option maxRecDepth 100000
set_option maxHeartbeats 1000000
/-! dicts of one's own with flat keys and values: made by a comprehension, set to a name, walked by their values while locked, looked up, list(d) -/
namespace Z
open PySem PySem.Spec PyProof.Rows L2
section
variable {K : PySem.W.Frag} {Γ : Own} {ρ : Z.Env} {tk tv te ta : TE}
/-- {k: v for .. if ..} -/
theorem en_dcA {wi : TI} {g : TG} {tt : TT} {js vs : List Nat} {n : Nat} {st : Nat → Z.Env → Z.Env} {κ ν : Type} [Rp κ] [Flat κ] [Rp ν] [Flat ν] (A : Nat → List (Key × V)) (h0 : A 0 = []) (hz : ∀ i, i < n → (A i).length ≤ 50000)
    (S : Src K Γ wi g ρ js n st) (hjs : ∀ j ∈ js, j ∈ vs)
    (hs : ∀ i, i < n → ∃ b : Bool, EvT K Γ tt (st i (wipeE ρ vs)) (Is b) ∧ (b = false → A (i + 1) = A i) ∧ (b = true → ∃ (x : κ) (y : ν) (k : Key), kV k = Flat.val x ∧ Ev K Γ tk (st i (wipeE ρ vs)) (Is x) ∧ Ev K Γ tv (st i (wipeE ρ vs)) (Is y) ∧ A (i + 1) = putK (A i) k (Flat.val y))) :
    EvN K Γ (tDc wi g tt tk tv vs) ρ (ObIs (.dK (A n))) := fun Δ σ H Q s hh e k => S Δ σ H _ s hh e fun J H1 pv pc e1 rp0 hgo hyld => fun D hD => by
  have nD : Δ D = none := e1.2.fresh hD
  have eW : EnvOk K Δ (wipe σ vs) H1 (wipeE ρ vs) := (e.mono e1.1).wipe vs
  have kp : Keep (ghI Δ D (ObIs (.dK []))) H1 (upd H1 D (.dK [])) := fun a o _ q => by rw [upd_ne (ne_of_none q hD)]; exact q
  have W0 : DW K Δ H1 D pv pc (wipe σ vs) (wipeE ρ vs) (.dK (A 0)) (upd H1 D (.dK [])) := by
    rw [h0]
    exact ⟨ghI_hold (fun a J _ h => e1.2 a J h) rfl, fun a o ha n h => by rw [upd_ne ha]; exact h, pc.r.mono kp (pc.r.weak (ghI_new hD) rp0), (eW.weak (ghI_new hD)).mono kp⟩
  have wl : (wipeE ρ vs).length = ρ.length := by
    rw [← eW.1, wipe_length]
    exact e.1
  have hDH : H D = none := Ext.back hh e1 hD
  refine ⟨fun i m H2 => m = n - i ∧ i ≤ n ∧ DW K Δ H1 D pv pc (wipe σ vs) (wipeE ρ vs) (.dK (A i)) H2, ⟨n, by simp, Nat.zero_le _, W0⟩, ?_⟩
  rintro i m H2 ⟨rfl, hi, c⟩
  have hg := hgo _ H2 c.src
  by_cases hlt : i < n
  · refine .inr ⟨hg.1 i hlt, fun H3 => DW K Δ H1 D pv pc (wipe σ vs) (wipeE ρ vs) (.dK (A (i + 1))) H3, fun H' c' => ⟨n - (i + 1), by omega, rfl, hlt, c'⟩, fun x H3 hy => ?_⟩
    obtain ⟨e3, hput⟩ := hyld _ i H2 x H3 hlt c.hold c.src hy
    have c3 := c.next e3
    refine hput (wipe σ vs) (wipeE ρ vs) _ wl c3.env fun σ2 env2 hl2 hoff => ⟨wipe_off (by rw [hl2, wipe_length]) hjs hoff, ?_⟩
    obtain ⟨b, ht, hb0, hb1⟩ := hs i hlt
    have sD : Sat Γ (ghI Δ D (ObIs (.dK (A i)))) := fun q hq => ghI_sat s nD q (List.mem_cons_of_mem _ hq)
    refine ht _ σ2 H3 _ sD e3.2 env2 fun b' H4 pb e4 => ?_
    have eb : b' = b := pb
    subst eb
    have c4 := c3.next e4
    cases b' with
    | false =>
      rw [if_neg Bool.false_ne_true, hb0 rfl]
      exact c4
    | true =>
      rw [if_pos rfl]
      obtain ⟨x0, y0, k0, hk0, hkx, hvy, hA⟩ := hb1 rfl
      refine hkx _ σ2 H4 _ sD e4.2 (env2.mono e4.1) fun y H5 a pa e5 r5 => ?_
      have c5 := c4.next e5
      refine hvy _ σ2 H5 _ sD e5.2 ((env2.mono e4.1).mono e5.1) fun z H6 w pw e6 r6 => ?_
      have c6 := c5.next e6
      have ea : a = x0 := pa
      have ew : w = y0 := pw
      subst ea ew
      refine ⟨A i, k0, by rw [Flat.iff.mp r5, hk0], ghI_exact c6.hold, Nat.lt_of_le_of_lt (hz i hlt) (by decide), ?_⟩
      rw [Flat.iff.mp r6, ← hA]
      exact c6.put
  · have ei : i = n := by omega
    subst ei
    refine .inl ⟨hg.2, k D H2 _ rfl hDH nD ⟨fun a o na h => ?_, fun a J h => ?_⟩ (ghI_exact c.hold)⟩
    · have h1 := e1.1 a o na h
      exact c.keep a o (ne_of_none h1 hD) na h1
    · have hne : a ≠ D := fun z => by
        rw [z, nD] at h
        cases h
      exact c.hold a J (by rw [ghI_other hne]; exact h)
/-- a locked dict, looked at -/
structure Fz where
  p : Addr
  u : HO
instance : Rp Fz where
  rp K Δ H v a := v = .ref a.p ∧ Δ a.p = none ∧ ∃ od, H a.p = some (.frz od a.u)
  mono k h := ⟨h.1, h.2.1, let ⟨od, e⟩ := h.2.2; ⟨od, k _ _ h.2.1 e⟩⟩
  weak w h := ⟨h.1, let ⟨od, e⟩ := h.2.2; w _ _ e h.2.1, h.2.2⟩
structure Fzo where
  p : Addr
  u : HO
  od : Obj
instance : Rp Fzo where
  rp K Δ H v a := v = .ref a.p ∧ Δ a.p = none ∧ H a.p = some (.frz a.od a.u)
  mono k h := ⟨h.1, h.2.1, k _ _ h.2.1 h.2.2⟩
  weak w h := ⟨h.1, w _ _ h.2.2 h.2.1, h.2.2⟩
def unOwn (Δ : Gh) (d : Addr) : Gh := fun a => if a = d then none else Δ a
theorem unOwn_at {Δ : Gh} {d : Addr} : unOwn Δ d d = none := if_pos rfl
theorem unOwn_ne {Δ : Gh} {d a : Addr} (h : a ≠ d) : unOwn Δ d a = Δ a := if_neg h
/-- the dict locked while the expression runs -/
theorem en_lock {d : Addr} {u : HO} {i : Nat} {I : HO → Prop} (hm : Mut (some u)) (hne : ∀ q ∈ Γ, q.1 ≠ d) (hi : ρ[i]? = some (some ⟨(⟨d⟩ : Loc)⟩)) (h : EvN K Γ te (ρ.set i (some ⟨(⟨d, u⟩ : Fz)⟩)) I) : EvN K ((d, ObIs u) :: Γ) (tLockE te) ρ I := fun Δ σ H Q s hh e k => by
  have hd := s _ List.mem_cons_self
  obtain ⟨o, ho, io⟩ := hh d _ hd
  have eo : o = u := io
  subst eo
  have ilt : i < ρ.length := by
    rw [List.getElem?_eq_some_iff] at hi
    exact hi.1
  refine ⟨d, o, ho, hm, fun od => ?_⟩
  have s2 : Sat Γ (unOwn Δ d) := fun q hq => by rw [unOwn_ne (hne q hq)]; exact s q (List.mem_cons_of_mem _ hq)
  have h2 : Hold (unOwn Δ d) (upd H d (.frz od o)) := fun a J ha => by
    have ne : a ≠ d := fun z => by rw [z, unOwn_at] at ha; cases ha
    rw [unOwn_ne ne] at ha
    rw [upd_ne ne]
    exact hh a J ha
  have kp : Keep Δ H (upd H d (.frz od o)) := fun a v na q => by
    have ne : a ≠ d := fun z => by rw [z, hd] at na; cases na
    rw [upd_ne ne]
    exact q
  have wk : ∀ x o', upd H d (.frz od o) x = some o' → Δ x = none → unOwn Δ d x = none := fun x o' _ n => by
    by_cases z : x = d
    · rw [z]; exact unOwn_at
    · rw [unOwn_ne z]; exact n
  have e2 : EnvOk K (unOwn Δ d) σ (upd H d (.frz od o)) (ρ.set i (some ⟨(⟨d, o⟩ : Fz)⟩)) := by
    have e3 := ((e.mono kp).weak wk).set (c := ⟨(⟨d, o⟩ : Fz)⟩) (v := .ref d) ilt ⟨rfl, unOwn_at, od, upd_same⟩
    obtain ⟨v, hv, rv⟩ := e.2 i _ hi
    have ev : v = .ref d := rv
    subst ev
    have es : σ.set i (some (.ref d)) = σ := List.ext_getElem? fun j => by
      by_cases hj : i = j
      · subst hj
        rw [List.getElem?_set_self (by rw [e.1]; exact ilt), hv]
      · rw [List.getElem?_set_ne hj]
    rw [es] at e3
    exact e3
  refine h (unOwn Δ d) σ _ _ s2 h2 e2 fun d2 H2 o2 io2 hd2 nd2 ee ho2 => ?_
  have ne2 : d2 ≠ d := fun z => by rw [z, upd_same] at hd2; cases hd2
  refine ⟨ee.1 _ _ unOwn_at upd_same, k d2 _ o2 io2 (by rw [upd_ne ne2] at hd2; exact hd2) (by rw [unOwn_ne ne2] at nd2; exact nd2) ⟨fun a v na q => ?_, fun a J ha => ?_⟩ (by rw [upd_ne ne2]; exact ho2)⟩
  · have ne : a ≠ d := fun z => by rw [z, hd] at na; cases na
    rw [upd_ne ne]
    exact ee.1 a v (by rw [unOwn_ne ne]; exact na) (by rw [upd_ne ne]; exact q)
  · by_cases z : a = d
    · subst z
      rw [hd] at ha
      cases ha
      exact ⟨o, upd_same, rfl⟩
    · rw [upd_ne z]
      exact ee.2 a J (by rw [unOwn_ne z]; exact ha)
/-- the values of a locked dict -/
theorem src_vals {j : Nat} {d : Addr} {kvs : List (Key × V)} {ν : Type} [Rp ν] [Flat ν] {x0 : Nat → ν} (h : Ev K Γ te ρ (Is (⟨d, .dK kvs⟩ : Fz))) (hx : ∀ i, i < kvs.length → ∃ k, kvs[i]? = some (k, Flat.val (x0 i))) (hj : j < ρ.length) : Src K Γ (iVals te) (gName j) ρ [j] kvs.length (fun i ρ => ρ.set j (some ⟨x0 i⟩)) := fun Δ σ H R s hh e k =>
  h Δ σ H _ s hh e fun v H' a pa e1 r => by
    have ea : a = ⟨d, .dK kvs⟩ := pa
    subst ea
    obtain ⟨ev, n, od, hd⟩ := id r
    refine ⟨d, od, kvs, ev, hd, k _ H' v ⟨(⟨d, .dK kvs, od⟩ : Fzo)⟩ e1 ⟨ev, n, hd⟩ (fun Δ' H2 r2 => ?_) fun Δ' i H2 x H3 hi h2 r2 y => ?_⟩
    · obtain ⟨_, _, hd2⟩ := (show Rp.rp K Δ' H2 v (⟨d, .dK kvs, od⟩ : Fzo) from r2)
      exact ⟨fun i hi => ⟨hd2, hi⟩, hd2, Nat.le_refl _⟩
    · obtain ⟨rfl, kk, hy⟩ := (show H3 = H2 ∧ ∃ kk, kvs[i]? = some (kk, x) from y)
      obtain ⟨k2, hk2⟩ := hx i hi
      rw [hk2] at hy
      cases hy
      exact ⟨Ext.refl h2, fun σ' ρ' Qs hl e' qq => qq _ (e'.set (c := ⟨x0 i⟩) (by rw [hl]; exact hj) (Flat.iff.mpr rfl)) (set_off (js := [j]) (List.mem_singleton_self j)).1 (set_off (js := [j]) (List.mem_singleton_self j)).2⟩
/-- name = a new object -/
theorem wp_asgN {Δ0 : Gh} {H0 : Hp} {F : List (V × Cell)} {tz : TS} {D : Ends} {i : Nat} {I : HO → Prop} (h : EvN K Γ te ρ I) (hi : i < ρ.length)
    (k : ∀ d o, I o → OwnP Δ0 Γ d → Wp K Δ0 H0 ((d, ObIs o) :: Γ) F (ρ.set i (some ⟨(⟨d⟩ : Loc)⟩)) tz D) : Wp K Δ0 H0 Γ F ρ (tSeq (tAsg te (gName i)) tz) D := fun σ H ⟨Δ, s, hh, e, ff, e0, s1, s2⟩ =>
  h Δ σ H _ s hh e fun d H1 o io hd nd e1 hdo => by
    obtain ⟨owd, Δ', s', hh', e', ff', e0', s1', s2'⟩ := own_come (K := K) (Δ0 := Δ0) (H0 := H0) (F := F) s hh e ff e0 s1 s2 hd e1 hdo
    exact k d o io owd _ _ ⟨Δ', s', hh', e'.set (c := ⟨(⟨d⟩ : Loc)⟩) hi rfl, ff', e0', s1', s2'⟩
/-- d[x], the dict one's own -/
theorem ev_dgetO {d : Addr} {kvs : List (Key × V)} {κ ν : Type} [Rp κ] [Flat κ] [Rp ν] [Flat ν] {x : κ} {y : ν} {k0 : Key} (hm : (d, ObIs (.dK kvs)) ∈ Γ) (hk : kV k0 = Flat.val x) (hv : valV kvs k0 = some (Flat.val y)) (ho : Ev K Γ ta ρ (Is (⟨d⟩ : Loc))) (h : Ev K Γ te ρ (Is x)) : Ev K Γ (tDGet ta te) ρ (Is y) := fun Δ σ H Q s hh e k =>
  ho Δ σ H _ s hh e fun v H1 a pa e1 r1 => h Δ σ H1 _ s e1.2 (e.mono e1.1) fun w H2 b pb e2 r2 => by
    have ea : a = ⟨d⟩ := pa
    subst ea
    have ev : v = .ref d := r1
    subst ev
    have eb : b = x := pb
    subst eb
    obtain ⟨u, hu, iu⟩ := e2.2 d _ (s _ hm)
    have iu' : u = HO.dK kvs := iu
    subst iu'
    refine ⟨d, Flat.val y, rfl, ?_, k _ H2 y rfl (e1.trans e2) (Flat.iff.mpr rfl)⟩
    rw [Flat.iff.mp r2, ← hk, ← hv]
    exact DGet.k hu
/-- list(d), the dict one's own -/
theorem ev_listK {d : Addr} {kvs : List (Key × V)} {κ : Type} [Rp κ] [Flat κ] {xs : List κ} (hm : (d, ObIs (.dK kvs)) ∈ Γ) (hk : kvs.map (fun kv => kV kv.1) = xs.map Flat.val) (h : Ev K Γ te ρ (Is (⟨d⟩ : Loc))) : Ev K Γ (tCB rListD (tCons te tNil)) ρ (Is xs) := fun Δ σ H Q s hh e k =>
  h Δ σ H _ s hh e fun v H1 a pa e1 r => by
    have ea : a = ⟨d⟩ := pa
    subst ea
    have ev : v = .ref d := r
    subst ev
    obtain ⟨u, hu, iu⟩ := e1.2 d _ (s _ hm)
    have iu' : u = HO.dK kvs := iu
    subst iu'
    refine ⟨d, kvs, rfl, hu, fun q hq => k _ _ xs rfl (e1.trans (Ext.new e1.2 hq _)) (new_lst e1.2 hq ?_)⟩
    rw [hk]
    exact all2_flat xs
end
end Z
namespace L2
open PySem PySem.Spec PyProof.Rows
section
variable {X : Cx}
/-- the name is stored while the comprehension still stands -/
theorem sw_dict {kx vx : Expr} {gs : List Comprehension} {scope : Scope} {pos py : Pos} {y : Str} {l : Nat} {env : Env} (hk : env.scope.kind = .function) (hy : env.scope.names.lookup y = some .local) (hl : (py.line == pos.line) = true)
    (ha : (scope.names.any fun (n, k) => n == y && (k == .local || k == .cell)) = false) : swapsWith (.DictComp kx vx gs scope pos) (some (.Name y py)) l env = pure true := by
  have e1 : env.kindOf y = some .local := hy
  have e2 : env.blockKind = .function := by unfold Env.blockKind; rw [hk]; rfl
  unfold swapsWith
  simp only [e2, e1, ha, Expr.pos, hl]
  rfl
/-- y = {k: v for .. in .. if ..}, y a plain local name -/
theorem ps_setDc {i : Nat} {y : Str} {py : Pos} {kx vx tg iter : Expr} {ifs : List Expr} {scope : Scope} {own : List (Str × Nat)} {pos spos : Pos} {wi : TI} {g : TG} {tt : TT} {tk tv : TE} (hc : X.calm = true) (hN : X.N.Nodup) (hy : X.N[i]? = some y) (hyl : X.env.scope.names.lookup y = some .local)
    (hsw : swapsWith (.DictComp kx vx [⟨tg, iter, ifs, 0⟩] scope pos) (some (.Name y py)) spos.line X.env = pure true) (hi : PI X tg iter wi) (ok : BlkOk X.N X.env.scope scope own)
    (hg : ∀ (s : Shared) (H : Hp) (C : Addr) (cl : List (Str × Addr)) (fp : List Addr), PG (X.blk s H scope (compEnvC scope cl C X.env) fp) tg g) (ht : ∀ (s : Shared) (H : Hp) (C : Addr) (cl : List (Str × Addr)) (fp : List Addr), PTs (X.blk s H scope (compEnvC scope cl C X.env) fp) ifs tt)
    (hk : ∀ (s : Shared) (H : Hp) (C : Addr) (cl : List (Str × Addr)) (fp : List Addr), PE (X.blk s H scope (compEnvC scope cl C X.env) fp) kx tk)
    (he : ∀ (s : Shared) (H : Hp) (C : Addr) (cl : List (Str × Addr)) (fp : List Addr), PE (X.blk s H scope (compEnvC scope cl C X.env) fp) vx tv) (hs : ∀ x, foldedSetIterable iter X.env x = pure x := by intro _; rfl) :
    PS X (.Assign [.Name y py] (.DictComp kx vx [⟨tg, iter, ifs, 0⟩] scope pos) spos) (tAsg (tDc wi g tt tk tv (own.map (·.2))) (gName i)) := by
  refine ⟨fun pins s σ H D I q => ?_⟩
  have h : tDc wi g tt tk tv (own.map (·.2)) σ H (fun x H1 => gName i x σ H1 D.nx) := q
  rw [exec_Assign_Name_used _ _ _ _ hsw]
  refine wpAny_bind (wpAny_standAt (wpAny_bind ?_))
  show wpAny _ X.A (do let _ ← comprehension (.DictComp kx vx [⟨tg, iter, ifs, 0⟩] scope pos) scope X.env (firstIterPos [⟨tg, iter, ifs, 0⟩] pos) newDict false (eval iter X.env) (some (assign (.Name y py) X.env))) _ _ s
  refine wpAny_bind (thn (dc_core (Qf := fun _ s' => SP X pins D .next s') hc hN I hi ok hg ht hk he hs h fun L C s' m H' I' q2 hn f => ?_) fun _ s' z => wpAny_pure (wpAny_pure z))
  obtain ⟨f0, f1, f2, f3, f4, f5⟩ := f
  show wpAny _ _ (assign (.Name y py) X.env (.ref L)) _ _ _
  refine wpAny_assign_Name (store_ok2 (v := V.ref L) I' hN hy (.inl hyl) rfl (fun s2 I2 ⟨a, sb, ha⟩ => ?_) (.inr hyl))
  have hne : C ≠ a := by
    rcases ha with z | z
    · rw [z]
      exact f1
    · exact fun e => f4 y a z e.symm
  exact ⟨m, hn.sameBut sb hne, fun h3 sb3 => ⟨_, H', I2.turned (t' := s2.toks) (fun b o hb e => (sb3.2 b hb).trans e) f0 f1 f3 f4 f5, q2⟩⟩
/-- .. the dict that is walked locked -/
theorem ps_lockA {st : Stmt} {te : TE} {i : Nat} (h : PS X st (tAsg te (gName i))) : PS X st (tAsg (tLockE te) (gName i)) := ps_lock h
end
end L2

set_option Elab.async false
set_option linter.all false
set_option maxRecDepth 100000
set_option maxHeartbeats 1000000
/-! more of lists of one's own with plain items -/
namespace Z
open PySem PySem.Spec PyProof.Rows L2
theorem eqv_txs' (xs ys : List Tx) : PyData.eqv (Dt.d xs) (Dt.d ys) = decide (xs = ys) := eqv_txs xs ys
theorem erase_map {α β : Type} (f : α → β) : ∀ (xs : List α) (n : Nat), (xs.map f).eraseIdx n = (xs.eraseIdx n).map f
  | [], _ => rfl
  | _ :: _, 0 => rfl
  | x :: xs, n + 1 => by
    show f x :: (xs.map f).eraseIdx n = f x :: (xs.eraseIdx n).map f
    rw [erase_map f xs n]
theorem perm_erase {α : Type} : ∀ {ys : List α} {n : Nat} (h : n < ys.length), ys.Perm (ys[n] :: ys.eraseIdx n)
  | y :: ys, 0, _ => List.Perm.refl _
  | y :: ys, n + 1, h => ((perm_erase (ys := ys) (n := n) (by simpa using h)).cons y).trans (List.Perm.swap _ _ _)
section
variable {K : PySem.W.Frag} {Γ : Own} {ρ : Z.Env} {ta tb te : TE} {α : Type} [Rp α] [Flat α]
/-- xs[n], the list one's own, n some index -/
theorem ev_ixO {q : Addr} {xs : List α} (hm : OwnL q xs ∈ Γ) (ha : Ev K Γ ta ρ (Is (⟨q⟩ : Loc))) (hb : Ev K Γ tb ρ (fun r : Int => 0 ≤ r ∧ r < xs.length)) : Ev K Γ (tOp (rIxL K) ta tb) ρ (fun y => y ∈ xs) := fun Δ σ H Q s hh e k =>
  ha Δ σ H _ s hh e fun v H1 a pa e1 r1 => hb Δ σ H1 _ s e1.2 (e.mono e1.1) fun w H2 b pb e2 r2 => by
    have ea : a = ⟨q⟩ := pa
    subst ea
    have ev : v = .ref q := r1
    subst ev
    have ew : w = .int b := r2
    subst ew
    obtain ⟨u, hu, iu⟩ := e2.2 q _ (s _ hm)
    have iu' : u = HO.lst (xs.map Flat.val) := iu
    subst iu'
    have hlt : b.toNat < xs.length := by omega
    have eb : b = ((b.toNat : Nat) : Int) := (Int.toNat_of_nonneg pb.1).symm
    refine ⟨q, _, b, Flat.val xs[b.toNat], rfl, rfl, .inl (.inl hu), ?_, k _ H2 xs[b.toNat] (List.getElem_mem hlt) (e1.trans e2) (Flat.iff.mpr rfl)⟩
    have hx : (xs.map Flat.val)[b.toNat]? = some (Flat.val xs[b.toNat]) := by
      rw [List.getElem?_map, List.getElem?_eq_getElem hlt]
      rfl
    have hy := atI_nat hx
    rw [← eb] at hy
    exact hy
theorem dall_flat [Dt α] {Δ : Gh} {H : Hp} (xs : List α) : DpAll K H (xs.map Flat.val) (xs.map Dt.d) := dall (Δ := Δ) (all2_flat xs)
/-- xs != ys, the first list one's own -/
theorem ev_neO {q : Addr} {xs ys : List Tx} (hm : OwnL q xs ∈ Γ) (hx : TOk xs) (hy : TOk ys) (ha : Ev K Γ ta ρ (Is (⟨q⟩ : Loc))) (hb : Ev K Γ tb ρ (Is ys)) : Ev K Γ (tOp (rNeD K) ta tb) ρ (Is (!decide (xs = ys))) := fun Δ σ H Q s hh e k =>
  ha Δ σ H _ s hh e fun v H1 a pa e1 r1 => hb Δ σ H1 _ s e1.2 (e.mono e1.1) fun w H2 b pb e2 r2 => by
    have ea : a = ⟨q⟩ := pa
    subst ea
    have ev : v = .ref q := r1
    subst ev
    have eb : b = ys := pb
    subst eb
    obtain ⟨u, hu, iu⟩ := e2.2 q _ (s _ hm)
    have iu' : u = HO.lst (xs.map Flat.val) := iu
    subst iu'
    refine ⟨_, _, .lst (.inl (.inl hu)) (dall_flat (Δ := Δ) xs), Dt.ok r2, shaped_lS hx, shaped_lS hy, k _ H2 _ rfl (e1.trans e2) ?_⟩
    show V.bl _ = V.bl _
    congr 2
    exact (eqv_txs' xs b).symm ▸ rfl
end
section
variable {K : PySem.W.Frag} {Δ0 : Gh} {H0 : Hp} {Γ : Own} {F : List (V × Cell)} {ρ : Z.Env} {ta tb tr te : TE} {tz : TS} {D : Ends} {α : Type} [Rp α] [Flat α]
/-- a.append(b.pop(n)), both lists one's own -/
theorem wp_appPop {p q : Addr} {xs ys : List α} (o : OwnP Δ0 (OwnL q ys :: Γ) p) (o2 : OwnP Δ0 Γ q) (hz : xs.length < 50000)
    (ho : Ev K (OwnL p xs :: OwnL q ys :: Γ) ta ρ (Is (⟨p⟩ : Loc))) (hq : Ev K (OwnL p xs :: OwnL q ys :: Γ) tb ρ (Is (⟨q⟩ : Loc))) (hr : Ev K (OwnL p xs :: OwnL q ys :: Γ) tr ρ (fun r : Int => 0 ≤ r ∧ r < ys.length)) (hy : ys.length ≤ 50000)
    (k : ∀ y zs, ys.Perm (y :: zs) → OwnP Δ0 (OwnL q zs :: Γ) p → Wp K Δ0 H0 (OwnL p (xs ++ [y]) :: OwnL q zs :: Γ) F ρ tNext D) :
    Wp K Δ0 H0 (OwnL p xs :: OwnL q ys :: Γ) F ρ (tDrop (tBM K "list" rAppend ta (tCons (tBM K "list" rPopAt tb (tCons tr tNil)) tNil))) D := fun σ H ⟨Δ, s, hh, e, f, e0, s1, s2⟩ =>
  ho Δ σ H _ s hh e fun w H1 b pb e1 r1 => by
    have eb : b = ⟨p⟩ := pb
    subst eb
    have ew : w = .ref p := r1
    subst ew
    obtain ⟨u, hu, iu⟩ := e1.2 p _ (s _ List.mem_cons_self)
    have iu' : u = HO.lst _ := iu
    subst iu'
    refine ⟨.inl ⟨rfl, _, SqL.of hu⟩, hq Δ σ H1 _ s e1.2 (e.mono e1.1) fun w2 H2 b2 pb2 e2 r2 => ?_⟩
    have eb2 : b2 = ⟨q⟩ := pb2
    subst eb2
    have ew2 : w2 = .ref q := r2
    subst ew2
    obtain ⟨u2, hu2, iu2⟩ := e2.2 q _ (s _ (List.mem_cons_of_mem _ List.mem_cons_self))
    have iu2' : u2 = HO.lst _ := iu2
    subst iu2'
    refine ⟨.inl ⟨rfl, _, SqL.of hu2⟩, hr Δ σ H2 _ s e2.2 ((e.mono e1.1).mono e2.1) fun w3 H3 n pn e3 r3 => ?_⟩
    have ew3 : w3 = .int n := r3
    subst ew3
    have e4 := (e1.trans e2).trans e3
    have st : Stt K Δ0 H0 (OwnL p xs :: OwnL q ys :: Γ) F ρ σ H3 := ⟨Δ, s, e4.2, e.mono e4.1, fun q hq => q.2.r.mono e4.1 (f q hq), ext0 e0 s1 s2 e4, s1, s2⟩
    have hlt : n.toNat < ys.length := by omega
    have hpq : q ≠ p := o.ne (OwnL q ys) List.mem_cons_self
    have o3 : OwnP Δ0 (OwnL p xs :: Γ) q := ⟨o2.n0, fun z hz2 => by
      rcases List.mem_cons.mp hz2 with rfl | hz2
      · exact hpq.symm
      · exact o2.ne z hz2⟩
    obtain ⟨hq3, st2⟩ := own_putO (o2 := .lst ((ys.eraseIdx n.toNat).map Flat.val)) o3 st.swap
    have o4 : OwnP Δ0 (OwnL q (ys.eraseIdx n.toNat) :: Γ) p := ⟨o.n0, fun z hz2 => by
      rcases List.mem_cons.mp hz2 with rfl | hz2
      · exact hpq
      · exact o.ne z (List.mem_cons_of_mem _ hz2)⟩
    obtain ⟨hp3, st3⟩ := own_putO (o2 := .lst ((xs ++ [ys[n.toNat]]).map Flat.val)) o4 st2.swap
    refine ⟨q, _, n, n.toNat, Flat.val ys[n.toNat], rfl, rfl, hq3, by omega, by omega, ?_, ?_, ?_⟩
    · rw [List.length_map]
      unfold seqIndex?
      simp [show ¬ n < 0 by omega, pn.1, pn.2]
    · rw [List.getElem?_map, List.getElem?_eq_getElem hlt]
      rfl
    · have ee : (ys.map Flat.val).eraseIdx n.toNat = (ys.eraseIdx n.toNat).map Flat.val := erase_map _ _ _
      rw [ee]
      refine ⟨p, _, _, rfl, rfl, hp3, ?_, ?_⟩
      · rw [List.length_map]
        exact Nat.lt_trans hz (by decide)
      · have e5 : xs.map Flat.val ++ [Flat.val ys[n.toNat]] = (xs ++ [ys[n.toNat]]).map Flat.val := by rw [List.map_append]; rfl
        rw [e5]
        exact k _ _ (perm_erase hlt) o4 σ _ st3
/-- name.append(e), the last of a block -/
theorem wp_appL {p : Addr} {xs : List α} {P : α → Prop} (o : OwnP Δ0 Γ p) (hz : xs.length < 50000) (ho : Ev K (OwnL p xs :: Γ) ta ρ (Is (⟨p⟩ : Loc))) (h : Ev K (OwnL p xs :: Γ) te ρ P)
    (k : ∀ a, P a → Wp K Δ0 H0 (OwnL p (xs ++ [a]) :: Γ) F ρ tNext D) : Wp K Δ0 H0 (OwnL p xs :: Γ) F ρ (tDrop (tBM K "list" rAppend ta (tCons te tNil))) D := wp_app (tz := tNext) o hz ho h k
/-- a, b = list(xs), [] -/
theorem wp_parLN {i j : Nat} {xs : List α} (h : Ev K Γ te ρ (Is xs)) (hi : i < ρ.length) (hj : j < ρ.length)
    (k : ∀ q p, OwnP Δ0 Γ q → OwnP Δ0 (OwnL q xs :: Γ) p → Wp K Δ0 H0 (OwnL p ([] : List α) :: OwnL q xs :: Γ) F ((ρ.set i (some ⟨(⟨q⟩ : Loc)⟩)).set j (some ⟨(⟨p⟩ : Loc)⟩)) tz D) :
    Wp K Δ0 H0 Γ F ρ (tSeq (tPar i j (tCons (tCB (fun xs H Q => ∃ p ys, xs = [.ref p] ∧ (SqL K H p ys ∨ SqT K H p ys) ∧ ∀ l, H l = none → Q (.ref l) (upd H l (.lst ys))) (tCons te tNil)) (tCons (tLst tNil) tNil))) tz) D := fun σ H ⟨Δ, s, hh, e, f, e0, s1, s2⟩ =>
  h Δ σ H _ s hh e fun v H1 a pa e1 r => by
    have ea : a = xs := pa
    subst ea
    obtain ⟨b, vs, rfl, nb, hb, qa⟩ := r
    have ev := flat_all2 qa
    subst ev
    refine ⟨b, _, rfl, .inl hb, fun q hq => ?_⟩
    obtain ⟨oq, Δ', s', hh', e', f', e0', s1', s2'⟩ := own_newO (K := K) (o := .lst (a.map Flat.val)) s e1.2 (e.mono e1.1) (fun z hz => z.2.r.mono e1.1 (f z hz)) (ext0 e0 s1 s2 e1) s1 s2 hq
    refine ⟨by show 0 ≤ sizeLine; decide, fun p hp => ?_⟩
    obtain ⟨op, Δ2, s3, hh3, e3, f3, e03, s13, s23⟩ := own_newO (K := K) (o := .lst []) s' hh' e' f' e0' s1' s2' hp
    exact ⟨_, _, rfl, k q p oq op _ _ ⟨Δ2, s3, hh3, (e3.set (c := ⟨(⟨q⟩ : Loc)⟩) hi rfl).set (c := ⟨(⟨p⟩ : Loc)⟩) (by rw [List.length_set]; exact hj) rfl, f3, e03, s13, s23⟩⟩
/-- for .. in range(n), n some number -/
theorem wp_forR {ta : TA} {g : TG} {t : TS} {Pn : Nat → Prop} (h : EvA K Γ ta ρ (fun cs => ∃ n : Nat, cs = [⟨(n : Int)⟩] ∧ Pn n)) (hs : ∀ n, Pn n → Wp K Δ0 H0 Γ F ρ (tSeq (tFor (iRng1 (tCons (tC (.int (n : Int))) tNil)) g t) tz) D) : Wp K Δ0 H0 Γ F ρ (tSeq (tFor (iRng1 ta) g t) tz) D := fun σ H ⟨Δ, s, hh, e, f, e0, s1, s2⟩ =>
  h Δ σ H _ s hh e fun vs H1 cs pcs e1 r => by
    obtain ⟨n, rfl, pn⟩ := pcs
    match vs, r with
    | [v], r =>
      have ev : v = .int n := r.1
      subst ev
      exact hs n pn σ H1 ⟨Δ, s, e1.2, e.mono e1.1, fun q hq => q.2.r.mono e1.1 (f q hq), ext0 e0 s1 s2 e1, s1, s2⟩
end
section
variable {K : PySem.W.Frag} {Γ : Own} {ρ : Z.Env} {ta tb te : TE}
/-- x[:n] -/
theorem ev_cutTo {x : Tx} {n : Nat} (hz : x.s.length ≤ 100000) (hn : n ≤ x.s.length) (h : Ev K Γ te ρ (Is x)) (hb : Ev K Γ tb ρ (Is (n : Int))) : Ev K Γ (tSl rSlS te tNoPart (tPart tb)) ρ (Is (⟨x.s.take n⟩ : Tx)) := fun Δ σ H Q s hh e k =>
  h Δ σ H _ s hh e fun v H1 a pa e1 r1 => hb Δ σ H1 _ s e1.2 (e.mono e1.1) fun w H2 b pb e2 r2 => by
    have ea : a = x := pa
    subst ea
    have ev : v = .str (tS a) := r1
    subst ev
    have eb : b = (n : Int) := pb
    subst eb
    refine ⟨(n : Int), r2, tS a, rfl, Nat.le_trans (by simpa [Str.length] using hz) (by decide), k _ H2 _ rfl (e1.trans e2) ?_⟩
    show V.str _ = V.str _
    congr 1
    unfold cutS
    rw [HT.sIx_none, HT.sIx_nat]
    simp [Str.length, Nat.min_eq_left hn]
/-- x[n:] -/
theorem ev_cutFrom {x : Tx} {n : Nat} (hz : x.s.length ≤ 100000) (hn : n ≤ x.s.length) (h : Ev K Γ te ρ (Is x)) (hb : Ev K Γ tb ρ (Is (n : Int))) : Ev K Γ (tSl rSlS te (tPart tb) tNoPart) ρ (Is (⟨x.s.drop n⟩ : Tx)) := fun Δ σ H Q s hh e k =>
  h Δ σ H _ s hh e fun v H1 a pa e1 r1 => hb Δ σ H1 _ s e1.2 (e.mono e1.1) fun w H2 b pb e2 r2 => by
    have ea : a = x := pa
    subst ea
    have ev : v = .str (tS a) := r1
    subst ev
    have eb : b = (n : Int) := pb
    subst eb
    refine ⟨(n : Int), r2, tS a, rfl, Nat.le_trans (by simpa [Str.length] using hz) (by decide), k _ H2 _ rfl (e1.trans e2) ?_⟩
    show V.str _ = V.str _
    congr 1
    unfold cutS
    rw [HT.sIx_none, HT.sIx_nat]
    simp [Str.length, Nat.min_eq_left hn, List.take_of_length_le]
end
end Z

set_option Elab.async false
set_option linter.all false
set_option maxRecDepth 100000
set_option maxHeartbeats 2000000
/-! an own != with a value of another kind -/
namespace Zo
open PySem PySem.Spec PySem.W PyProof.Rows
section
variable {prog : Program} {w : World} {A : Around} {E : Value → Shared → Prop} {s : Shared} {K : Frag} {x C f : Addr} {ox : Obj} {od : Option Obj} {y tb : Value}
theorem own_neV {Q : Value → Shared → Prop} (X : K.In s.heap) (I : InstAt s.heap x ox C od) (J : Looks (model prog w) s.heap (typeOf y) tb) (hn : notFirst K C tb = true) (hu : A.units + 1 < cLine) (hne : findIn K (.ref C) "__ne__" = some (some (.builtin "object.__ne__"))) (he : findIn K (.ref C) "__eq__" = some (some (.ref f))) (hf : isFn K (.ref f) = true) (hm : mroIn K C (.type "object") = some true)
    (h : wpAny (model prog w) A.in1 (call (.ref f) [.ref x, y]) (fun v s' => ∃ b, v = .bool b ∧ Q (.bool (!b)) s') E s) : wpAny (model prog w) A (richCompare .NotEq (.ref x) y) Q E s := by
  have sub : Looks (model prog w) s.heap (isInstance (.ref x) (.type "object")) true := I.type.andThen (looks_mroIn X hm)
  have one : wpAny (model prog w) A (tryCompare (.ref x) "__ne__" y) (fun r s' => ∃ v, r = some v ∧ Q v s') E s := by
    unfold tryCompare
    have cal : wpAny (model prog w) A (call (.builtin "object.__ne__") [.ref x, y]) (fun v s' => ∃ b, v = .bool b ∧ Q (.bool b) s') E s := by
      refine wpAny_call (codeAny_call_builtin F.cmp_object.ne.plain F.cmpEntry_ne (check_slot F.cmpKind_ne F.cmpSplit_ne sub (F.cmpArgs_ne _ _) ?_))
      show wpAny _ _ (Builtin.«object.__ne__» ⟨[.ref x, y], []⟩) _ _ _
      unfold Builtin.«object.__ne__»
      repeat (first
        | with_reducible refine wpAny_cRoomFor (A := A.in1) (by have := hu; simp only [Around.in1] at *; omega) ?_
        | (refine wpAny_bind (m := callSpecialIfBound? (.ref x) (Str.ofString "__eq__") [y]) (ifBound_K X I he hf (wpAny_mono h (fun r s' hr => ?_) fun _ _ e => e)); obtain ⟨b, rfl, hq⟩ := hr)
        | wp_step)
      all_goals exact ⟨_, rfl, hq⟩
    refine wpAny_bind (m := callSpecialIfBound? (.ref x) (Str.ofString "__ne__") [y]) ?_
    simp only [callSpecialIfBound?, bindSpecialIfBound?]
    refine wpAny_holding (wpAny_bind (wpAny_bind (wpAny_bind (I.type.here ((looks_findIn X hne).here ?_)))))
    refine wpAny_bind (wpAny_askSetting (wpAny_ite ?_))
    have fin : wpAny (model prog w) A (call (.builtin "object.__ne__") ([.ref x] ++ [y]) >>= fun v => pure (some v)) (fun a s' => wpAny (model prog w) A (match a with
      | some .notImplemented | none => pure none
      | some v => pure (some v)) (fun r s' => ∃ v, r = some v ∧ Q v s') E s') E s := wpAny_bind (wpAny_mono cal (fun v s' hv => by obtain ⟨b, rfl, hq⟩ := hv; exact wpAny_pure (wpAny_pure ⟨_, rfl, hq⟩)) fun _ _ e => e)
    split
    · exact wpAny_bind (wpAny_of_eq (F.cmp_object.ne.bind _) (wpAny_pure fin))
    · exact wpAny_tryCatch (wpAny_bind (wpAny_of_eq (F.cmp_object.ne.bind _) (wpAny_pure fin)))
  unfold richCompare
  simp only [oneThing_ref]
  refine wpAny_holding (wpAny_bind (wpAny_cRoomFor (by omega) ?_))
  refine wpAny_bind (I.type.here (wpAny_bind (J.here ?_)))
  have fin2 : wpAny (model prog w) A (do
      match ← tryCompare (.ref x) "__ne__" y with
      | some v => pure (some v)
      | none => pure none) (fun r s' => ∃ v, r = some v ∧ Q v s') E s := wpAny_bind (wpAny_mono one (fun r s' hr => by obtain ⟨v, rfl, hq⟩ := hr; exact wpAny_pure ⟨v, rfl, hq⟩) fun _ _ e => e)
  split
  · rename_i q
    have e : subIn K tb (.ref C) = some false := by
      rcases Bool.or_eq_true_iff.mp hn with e | e
      · rw [beq_iff_eq.mp e] at q; simp at q
      · exact beq_iff_eq.mp e
    refine wpAny_bind ((looks_subIn X e).here ?_)
    simp only [Bool.false_eq_true, if_false]
    refine wpAny_bind (wpAny_mono one (fun r s' z => ?_) fun _ _ e => e)
    obtain ⟨v, rfl, hq⟩ := z
    exact wpAny_pure hq
  · refine wpAny_bind (wpAny_pure ?_)
    simp only [Bool.false_eq_true, if_false]
    refine wpAny_bind (wpAny_mono one (fun r s' z => ?_) fun _ _ e => e)
    obtain ⟨v, rfl, hq⟩ := z
    exact wpAny_pure hq
end
end Zo
namespace L2
open PySem PySem.Spec PyProof.Rows
/-- x != y, y of another kind -/
def rOwnNeV (K : PySem.W.Frag) (C : Addr) (sp : Sp) (E : XK) : R2 := fun x y H Q => ∃ a dx fs t, x = .ref a ∧ H a = some (.ins C dx fs) ∧ TyX K H y t ∧ PySem.W.notFirst K C t = true ∧ sp [x, y] H (fun z H' => ∃ r, z = .bl r ∧ Q (.bl (!r)) H') E
section
variable {X : Cx} {CX : CXT} {k : Nat} {C g : Addr} {fd : FuncData} {ps : List Str} {sp : Sp} {E : XK}
theorem op_neV (hne : PySem.W.findIn X.K (.ref C) "__ne__" = some (some (.builtin "object.__ne__"))) (hs : PySem.W.findIn X.K (.ref C) "__eq__" = some (some (.ref g))) (hf : PySem.W.isFn X.K (.ref g) = true) (hm : PySem.W.mroIn X.K C (.type "object") = some true)
    (F : FnOk X.prog X.w X.K X.mg X.base CX k g fd ps sp) (hr : Room (k + 1) X.A) (hb : Binds X.K fd ps []) (hx : Passes CX X E) : OpR X (compareOp .NotEq) (rOwnNeV X.K C sp E) := by
  intro pins s σ H x y v u Q I rx ry h
  obtain ⟨a, dx, fs, t, rfl, ha, ht, hnf, q⟩ := h
  obtain rfl : v = Value.ref a := rx
  obtain ⟨_, J1, _⟩ := ins_get I.hok ha
  obtain ⟨_, J1, _⟩ := J1.look
  obtain ⟨P, Z, hP, _⟩ := kit_of I ry ht
  have J2 := Z.ty (model X.prog X.w) s.heap I.kIn hP
  have hl := F.len _ _ _ _ q
  have r2 : Vals [V.ref a, y] [Value.ref a, u] := .cons rfl (.cons ry .nil)
  refine Zo.own_neV I.kIn J1 J2 hnf ?hu hne hs hf hm (wpAny_call (codeAny_mono (F.run X.A.in1 X.stack s H ⟨[.ref a, u], []⟩ [.ref a, u] [.ref a, y] _ E hr.in1 I.env0.in1 (by
    have := hb s [.ref a, u] I.kIn (by simpa using hl)
    simpa using this) r2 q) fun r s' hq => ?_))
  case hu =>
    have h1 := hr.un
    omega
  cases r with
  | error e => exact hx pins σ H s e s' I hq
  | ok fl =>
    cases fl with
    | ret w =>
      obtain ⟨z, H', I', rz, r, rfl, qz⟩ := I.after hq
      obtain rfl : w = Value.bool r := rz
      exact ⟨r, rfl, .bl (!r), H', I', rfl, qz⟩
    | next => exact False.elim hq
    | brk => exact False.elim hq
    | cont => exact False.elim hq
end
end L2
namespace Z
open PySem PySem.Spec PyProof.Rows L2
theorem sub_none {K : PySem.W.Frag} {C : Addr} : PySem.W.subIn K (.type "NoneType") (.ref C) = some false := by kernel_rfl
theorem sub_tup {K : PySem.W.Frag} {C : Addr} : PySem.W.subIn K (.type "tuple") (.ref C) = some false := by kernel_rfl
section
variable {K : PySem.W.Frag} {Γ : Own} {ρ : Z.Env} {ta tb te : TE} {α β : Type} [Rp α] [Rp β] {C : Addr} {E : XK}
/-- a op b, each told by a predicate -/
theorem ev_binP {γ : Type} [Rp γ] {F : Own → List Cell → (γ → Prop) → Prop} {Pa Pb : β → Prop} {Pc : γ → Prop} (hI : IsIns K C β) (ha : Ev K Γ ta ρ Pa) (hb : Ev K Γ tb ρ Pb) (hF : ∀ a b, Pa a → Pb b → ∃ R, F Γ [⟨a⟩, ⟨b⟩] R ∧ ∀ c, R c → Pc c) : Ev K Γ (tOp (rOwnI C (spD K F) E) ta tb) ρ Pc := fun Δ σ H Q s hh e k =>
  ha Δ σ H _ s hh e fun v H1 a pa e1 r1 => hb Δ σ H1 _ s e1.2 (e.mono e1.1) fun u H2 b pb e2 r2 => by
    have r1' := Rp.mono e2.1 r1
    obtain ⟨p, dx, fs, rfl, hp⟩ := hI Δ H2 v _ r1'
    obtain ⟨q, dy, gs, rfl, hq⟩ := hI Δ H2 u _ r2
    obtain ⟨R, hR, hc⟩ := hF a b pa pb
    exact ⟨p, dx, fs, q, dy, gs, rfl, rfl, hp, hq, Γ, Δ, [⟨a⟩, ⟨b⟩], R, hR, s, e2.2, ⟨r1', r2, trivial⟩, fun z H' c pc e3 r3 => k z H' c (hc c pc) (e1.trans (e2.trans e3)) r3⟩
/-- a != b -/
theorem ev_neP {F : Own → List Cell → (Bool → Prop) → Prop} {Pa Pb : β → Prop} {r : Bool} (hI : IsIns K C β) (ha : Ev K Γ ta ρ Pa) (hb : Ev K Γ tb ρ Pb) (hF : ∀ a b, Pa a → Pb b → F Γ [⟨a⟩, ⟨b⟩] (Is r)) : Ev K Γ (tOp (rOwnNe C (spD K F) E) ta tb) ρ (Is (!r)) := fun Δ σ H Q s hh e k =>
  ha Δ σ H _ s hh e fun v H1 a pa e1 r1 => hb Δ σ H1 _ s e1.2 (e.mono e1.1) fun u H2 b pb e2 r2 => by
    have r1' := Rp.mono e2.1 r1
    obtain ⟨p, dx, fs, rfl, hp⟩ := hI Δ H2 v _ r1'
    obtain ⟨q, dy, gs, rfl, hq⟩ := hI Δ H2 u _ r2
    exact ⟨p, dx, fs, q, dy, gs, rfl, rfl, hp, hq, Γ, Δ, [⟨a⟩, ⟨b⟩], Is r, hF a b pa pb, s, e2.2, ⟨r1', r2, trivial⟩, fun z H' c pc e3 r3 => ⟨c, r3, k _ H' (!c) (by rw [show c = r from pc]; rfl) (e1.trans (e2.trans e3)) rfl⟩⟩
/-- a != x, x of another kind -/
theorem ev_neV {F : Own → List Cell → (Bool → Prop) → Prop} {a : β} {x : α} {r : Bool} {t : Value} (hI : IsIns K C β) (ha : Ev K Γ ta ρ (Is a)) (hb : Ev K Γ tb ρ (Is x)) (ty : ∀ Δ H v, Rp.rp K Δ H v x → TyX K H v t) (hn : PySem.W.notFirst K C t = true) (hF : F Γ [⟨a⟩, ⟨x⟩] (Is r)) : Ev K Γ (tOp (rOwnNeV K C (spD K F) E) ta tb) ρ (Is (!r)) := fun Δ σ H Q s hh e k =>
  ha Δ σ H _ s hh e fun v H1 a' pa e1 r1 => hb Δ σ H1 _ s e1.2 (e.mono e1.1) fun u H2 x' pb e2 r2 => by
    have ea : a' = a := pa
    subst ea
    have ex : x' = x := pb
    subst ex
    have r1' := Rp.mono e2.1 r1
    obtain ⟨p, dx, fs, rfl, hp⟩ := hI Δ H2 v _ r1'
    exact ⟨p, dx, fs, t, rfl, hp, ty Δ H2 u r2, hn, Γ, Δ, [⟨a'⟩, ⟨x'⟩], Is r, hF, s, e2.2, ⟨r1', r2, trivial⟩, fun z H' c pc e3 r3 => ⟨c, r3, k _ H' (!c) (by rw [show c = r from pc]; rfl) (e1.trans (e2.trans e3)) rfl⟩⟩
end
end Z

set_option Elab.async false
set_option linter.all false
set_option maxRecDepth 100000
set_option maxHeartbeats 1000000
/-! fresh lists joined, cut, sorted, handed back -/
namespace Z
open PySem PySem.Spec PyProof.Rows L2
theorem all2_take {α : Type u1} {β : Type u2} {R : α → β → Prop} : ∀ {n : Nat} {vs : List α} {xs : List β}, All2 R vs xs → All2 R (vs.take n) (xs.take n)
  | 0, _, _, _ => by rw [List.take_zero, List.take_zero]; trivial
  | _ + 1, [], [], _ => trivial
  | _ + 1, [], _ :: _, q => q.elim
  | _ + 1, _ :: _, [], q => q.elim
  | n + 1, _ :: _, _ :: _, q => ⟨q.1, all2_take (n := n) q.2⟩
theorem all2_mapR {α : Type u1} {β : Type u2} {γ : Type u3} {R : α → β → Prop} {S : α → γ → Prop} {f : β → γ} (h : ∀ u x, R u x → S u (f x)) : ∀ {vs : List α} {xs : List β}, All2 R vs xs → All2 S vs (xs.map f)
  | [], [], _ => trivial
  | [], _ :: _, q => q.elim
  | _ :: _, [], q => q.elim
  | _ :: _, _ :: _, q => ⟨h _ _ q.1, all2_mapR h q.2⟩
section
variable {K : PySem.W.Frag} {Γ : Own} {ρ : Z.Env} {ta tb te : TE} {tl : TA} {α β : Type} [Rp α] [Rp β]
theorem new_FL {Δ : Gh} {H : Hp} {l : Addr} {vs : List V} {xs : List α} (hh : Hold Δ H) (hl : H l = none) (q : All2 (fun u a => Rp.rp K Δ H u a) vs xs) : Rp.rp K Δ (upd H l (.lst vs)) (.ref l) (⟨xs⟩ : FL α) :=
  ⟨l, vs, rfl, hh.fresh hl, upd_same, q.imp fun _ _ => Rp.mono (Ext.new hh hl _).1⟩
/-- x + y -/
theorem o2_catF {x y : FL α} (hz : x.l.length + y.l.length ≤ 100000) : Op2 K rCat x y (Is (⟨x.l ++ y.l⟩ : FL α)) := fun Δ H v w Q hh r1 r2 k => by
  obtain ⟨p, vs, rfl, n1, h1, q1⟩ := r1
  obtain ⟨q, ws, rfl, n2, h2, q2⟩ := r2
  exact ⟨p, q, vs, ws, rfl, rfl, h1, h2, by rw [q1.len, q2.len]; exact Nat.le_trans hz (by decide), fun l hl => k _ _ _ rfl (Ext.new hh hl _) (new_FL hh hl (all2_app q1 q2))⟩
/-- [a, b, ..] -/
theorem ev_lstF {xs : List α} (h : EvA K Γ tl ρ (Is (xs.map fun a => ⟨a⟩))) (hz : xs.length ≤ 100000) : Ev K Γ (tLst tl) ρ (Is (⟨xs⟩ : FL α)) := fun Δ σ H Q s hh e k => h Δ σ H _ s hh e fun vs H' cs pcs e1 r => by
  have ec : cs = xs.map fun a => ⟨a⟩ := pcs
  subst ec
  have r' := All2.of_map r
  exact ⟨Nat.le_trans (Nat.le_of_eq r'.len) (Nat.le_trans hz (by decide)), fun p hp => k _ _ ⟨xs⟩ rfl (e1.trans (Ext.new e1.2 hp _)) (new_FL e1.2 hp r')⟩
/-- xs[:n] -/
theorem ev_cutF {xs : List α} {n : Nat} (h : Ev K Γ te ρ (Is xs)) (hb : Ev K Γ tb ρ (Is (n : Int))) : Ev K Γ (tSl (rSlL K) te tNoPart (tPart tb)) ρ (Is (⟨xs.take n⟩ : FL α)) := fun Δ σ H Q s hh e k =>
  h Δ σ H _ s hh e fun v H1 a pa e1 r1 => hb Δ σ H1 _ s e1.2 (e.mono e1.1) fun w H2 b pb e2 r2 => by
    have ea : a = xs := pa
    subst ea
    have eb : b = (n : Int) := pb
    subst eb
    obtain ⟨p, vs, rfl, st, sq, q⟩ := Rp.mono e2.1 r1
    refine ⟨(n : Int), r2, p, vs, rfl, sq, fun l hl => ?_⟩
    refine k _ _ ⟨a.take n⟩ rfl ((e1.trans e2).trans (Ext.new e2.2 hl _)) ?_
    have e3 : cutV vs none (some (n : Int)) = vs.take n := by
      unfold cutV
      rw [HT.sIx_none, HT.sIx_nat]
      simp [List.take_eq_take_iff]
    rw [e3]
    exact new_FL e2.2 hl (all2_take q)
/-- sorted(set(xs)) -/
theorem ev_sortSetF {xs : List Tx} (h : Ev K Γ te ρ (Is xs)) (hz : xs.length ≤ 1000) : Ev K Γ (tSortSet K te) ρ (Is (⟨srt xs⟩ : FL Tx)) := fun Δ σ H Q s hh e k => h Δ σ H _ s hh e fun v H1 a pa e1 r => by
  have ea : a = xs := pa
  subst ea
  obtain ⟨p, vs, rfl, n, sq, q⟩ := r
  have ev := all2_tx q
  subst ev
  refine ⟨p, _, rfl, sq, by rw [List.length_map]; exact hz, fun ys l nd mm rs hl => ?_⟩
  have e1' : ys = (ys.map fun z => (⟨z.cps.toList⟩ : Tx)).map fun x => (⟨x.s.toArray⟩ : Str) := by
    rw [List.map_map]
    conv => lhs; rw [← List.map_id ys]
    exact List.map_congr_left fun z _ => by cases z; rfl
  have inj : ∀ {u w : Str}, (⟨u.cps.toList⟩ : Tx) = ⟨w.cps.toList⟩ → u = w := fun {u w} z => by
    cases u
    cases w
    have := Tx.mk.inj z
    congr 1
    exact Array.toList_inj.mp this
  have es : (ys.map fun z => (⟨z.cps.toList⟩ : Tx)) = srt a := by
    refine srt_of (List.Pairwise.map _ (fun u w hne z => hne (inj z)) nd) (List.pairwise_map.mpr rs) fun x => ?_
    rw [List.mem_map]
    constructor
    · rintro ⟨z, hz, rfl⟩
      obtain ⟨x, hx, rfl⟩ := List.mem_map.mp ((mm z).mp hz)
      exact hx
    · intro hx
      exact ⟨⟨x.s.toArray⟩, (mm _).mpr (List.mem_map.mpr ⟨x, hx, rfl⟩), rfl⟩
  refine k _ _ ⟨srt a⟩ rfl (e1.trans (Ext.new e1.2 hl _)) (new_FL e1.2 hl ?_)
  have e2 : ys.map V.str = (srt a).map fun x => V.str ⟨x.s.toArray⟩ := by
    rw [← es]
    conv => lhs; rw [e1']
    rw [List.map_map]
    rfl
  rw [e2]
  have em : (srt a) = (srt a).map id := (List.map_id _).symm
  conv => rhs; rw [em]
  exact All2.map fun x _ => rfl
/-- a fresh list read as one of other data -/
theorem ev_mapF {f : α → β} {P : FL α → Prop} (hf : ∀ Δ H v a, Rp.rp K Δ H v a → Rp.rp K Δ H v (f a)) (h : Ev K Γ te ρ P) : Ev K Γ te ρ (fun ys : FL β => ∃ xs, P xs ∧ ys = ⟨xs.l.map f⟩) := fun Δ σ H Q s hh e k =>
  h Δ σ H Q s hh e fun v H1 a pa e1 r => by
    obtain ⟨p, vs, rfl, n, hp, q⟩ := r
    exact k _ H1 ⟨a.l.map f⟩ ⟨a, pa, rfl⟩ e1 ⟨p, vs, rfl, n, hp, all2_mapR (fun u x rx => hf Δ H1 u x rx) q⟩
end
section
variable {K : PySem.W.Frag} {Δ0 : Gh} {H0 : Hp} {Γ : Own} {F : List (V × Cell)} {ρ : Z.Env} {ta tb te : TE} {tz : TS} {D : Ends} {α : Type} [Rp α] [Flat α]
/-- return name -/
theorem wp_retLF {R : FL α → Prop} {p : Addr} {xs : List α} (o : OwnP Δ0 Γ p) (hf : Fin K Δ0 H0 R D) (hr : R ⟨xs⟩) (ho : Ev K (OwnL p xs :: Γ) ta ρ (Is (⟨p⟩ : Loc))) : Wp K Δ0 H0 (OwnL p xs :: Γ) F ρ (tRet ta) D := fun σ H ⟨Δ, s, hh, e, f, e0, s1, s2⟩ =>
  ho Δ σ H _ s hh e fun w H1 b pb e1 r1 => by
    have eb : b = ⟨p⟩ := pb
    subst eb
    have ew : w = .ref p := r1
    subst ew
    obtain ⟨u, hu, iu⟩ := e1.2 p _ (s _ List.mem_cons_self)
    have iu' : u = HO.lst _ := iu
    subst iu'
    exact hf _ H1 ⟨xs⟩ hr (ext0 e0 s1 s2 e1) ⟨p, _, rfl, o.n0, hu, all2_flat xs⟩
end
end Z

set_option Elab.async false
set_option linter.all false
set_option maxRecDepth 100000
set_option maxHeartbeats 1000000
/-! sorted(xs, key=f), f a def that counts bits -/
namespace L2
open PySem PySem.Spec PyProof.Rows Zk
section
variable {X : Cx}
def rSortBits (K : PySem.W.Frag) (f : Addr) : List V → List V → Hp → VK → Prop := fun vs zs H Q => ∃ (a : Addr) (ns : List Nat), vs = [V.ref a] ∧ zs = [V.ref f] ∧ SqL K H a (ns.map fun n : Nat => V.int n) ∧ (∀ n ∈ ns, (bitL n).length ≤ sizeLine) ∧
  ∀ (ns' : List Nat) (p : Addr), ns'.Perm ns → ns'.Pairwise (fun x y => onesI x ≤ onesI y) → H p = none → Q (.ref p) (upd H p (.lst (ns'.map fun n : Nat => V.int n)))
def IntOf (v : Value) (n : Nat) : Prop := ∃ t, v = .int (n : Int) t
theorem each_vals : ∀ {ns : List Nat} {us : List Value}, Vals (ns.map fun n : Nat => V.int n) us → PySem.W.EachIs IntOf us ns
  | [], _, .nil => .nil
  | _ :: _, _, .cons r h => .cons r (each_vals h)
theorem vals_each : ∀ {ns : List Nat} {us : List Value}, PySem.W.EachIs IntOf us ns → Vals (ns.map fun n : Nat => V.int n) us
  | [], _, .nil => .nil
  | _ :: _, _, .cons r h => .cons r (vals_each h)
theorem bits_le {a b : Nat} (h : PySem.W.dataLe false (fun n : Nat => PyData.int (onesI n)) a b = true) : onesI a ≤ onesI b := by
  have e : PySem.W.dataLe false (fun n : Nat => PyData.int (onesI n)) a b = !(decide (onesI b < onesI a) || (!decide (onesI a < onesI b) && false)) := rfl
  rw [e] at h
  simp at h
  exact h
theorem cr_sortBits {f : Addr} {fd : FuncData} {pa : Arguments} {sc : Scope} {x nm : Str} {p1 p2 p3 p4 p5 p6 p7 p8 p9 : Pos} {k1 k2 : Nat}
    (Fd : FunD X.K nm nm pa (bitBody x p1 p2 p3 p4 p5 p6 p7 p8 p9 k1 k2) sc [] [] f fd) (hb : Binds X.K fd [x] []) (hk : sc.kind = .function) (hco : sc.isCoroutine = false) (hgen : sc.isGenerator = false) (hx : sc.names.lookup x = some .local) (hline : (p6.endLine == p8.line) = true) (hdb : (x == ("__debug__" : Str)) = false)
    (hr : Room 2 X.A) : CallRK X (.builtin "sorted") [Str.ofString "key"] (rSortBits X.K f) := by
  intro pins s σ H vs zs us ws Q I r rz h
  obtain ⟨a, ns, rfl, rfl, hs, hz, q⟩ := h
  obtain rfl := Vals.ref1 r
  obtain ⟨w1, rfl, e1⟩ := vals1 rz
  obtain rfl : w1 = Value.ref f := e1
  obtain ⟨its, rv, hl, hzz⟩ := I.list hs
  have ev := each_vals rv
  have lim : s.heap.NoLimit := I.ok.mod.nolimit.keeps I.bk
  have dp := hr.dp
  have un := hr.un
  refine PySem.W.sorted_key_data (b := false) (fun n : Nat => PyData.int (onesI n)) hl.isList ev (fun d hd d' hd' => ?_) (.inr fun d hd => ?_) (by rw [List.length_map] at hzz; exact hzz) (fun n _ => ?_) (ksk_s1 _ _) (fun _ => ksk_l1 _ _) (fun y => ksk_t1 f y) (fun v n hv hn h tk kp => ?_) fun out c h' tk kp fresh hD hlen he => ?_
  · obtain ⟨n, _, rfl⟩ := List.mem_map.mp hd
    obtain ⟨n', _, rfl⟩ := List.mem_map.mp hd'
    rfl
  · obtain ⟨n, _, rfl⟩ := List.mem_map.mp hd
    exact ⟨(fun z => by cases z), fun xs z => by cases z⟩
  · show X.A.units + 2 + PyData.depth (.int _) < _
    show X.A.units + 2 + 0 < cLine
    omega
  · obtain ⟨t, rfl⟩ := hv
    have kin : X.K.In h := fun b o e => kp b o (I.kIn b o e)
    exact bits_call Fd hk hco hgen hx hline hdb (by simpa using hb { s with heap := h, toks := tk } [.int (n : Int) t] kin rfl) kin (lim.keeps kp) (by show X.A.depth < _; omega) (hz n hn)
  · have pm := List.mergeSort_perm ns (PySem.W.dataLe false fun n : Nat => PyData.int (onesI n))
    have T := PySem.W.sortLe_total (listOrd itemOrd) false (fun n : Nat => PySem.W.keyToks (PyData.int (onesI n)))
    refine ⟨.ref _, _, I.laid (a := s.heap.objs.size + 1) (o := .lst ((ns.mergeSort (PySem.W.dataLe false fun n : Nat => PyData.int (onesI n))).map fun n : Nat => V.int n)) (t' := tk) kp (Nat.le_succ _) ⟨?_, out, c, vals_each he, hD⟩, rfl, q _ _ pm ?_ (I.hok.fresh (Nat.le_succ _))⟩
    · rw [List.length_map, pm.length_eq]
      rw [List.length_map] at hzz
      exact hzz
    · refine List.Pairwise.imp (fun h => bits_le h) ?_
      exact List.pairwise_mergeSort (fun a b c => T.trans a b c) (fun a b => by simpa using T.total a b) ns
end
end L2

set_option Elab.async false
set_option linter.all false
set_option maxRecDepth 100000
set_option maxHeartbeats 1000000
/-! f'{n:b}' as a rule; how many bits a number has -/
namespace Zk
open PySem PyProof.Rows
/-- how many bits are 1 -/
def pc (n : Nat) : Nat := if h : n = 0 then 0 else n % 2 + pc (n / 2)
termination_by n
decreasing_by omega
theorem pc_zero : pc 0 = 0 := by rw [pc]; rfl
theorem pc_step (n : Nat) : pc n = n % 2 + pc (n / 2) := by
  by_cases h : n = 0
  · subst h
    rw [pc_zero]
  · rw [pc, dif_neg h]
theorem cnt_app (c : Nat) : ∀ (l r : List Nat), cnt c (l ++ r) = cnt c l + cnt c r
  | [], r => by rw [List.nil_append, cnt_nil]; omega
  | n :: l, r => by rw [List.cons_append, cnt_cons, cnt_cons, cnt_app c l r]; omega
theorem cnt_one (d : Nat) (h : d < 2) : cnt 49 [(Nat.digitChar d).toNat] = (d : Int) := by
  rw [cnt_cons, cnt_nil]
  match d, h with
  | 0, _ => decide
  | 1, _ => decide
theorem cnt_bits : ∀ n : Nat, cnt 49 (bitL n) = (pc n : Int) := by
  intro n
  induction n using Nat.strongRecOn with
  | ind n ih =>
    by_cases h : n < 2
    · unfold bitL
      rw [Nat.toDigits_of_lt_base h]
      show cnt 49 [(Nat.digitChar n).toNat] = _
      rw [cnt_one n h]
      match n, h with
      | 0, _ => rw [pc_zero]
      | 1, _ => rw [pc_step, show 1 / 2 = 0 from rfl, pc_zero]
    · have e : bitL n = bitL (n / 2) ++ [(Nat.digitChar (n % 2)).toNat] := by
        unfold bitL
        rw [Nat.toDigits_of_base_le (by omega) (by omega), List.map_append]
        rfl
      rw [e, cnt_app, ih (n / 2) (by omega), cnt_one _ (by omega), pc_step n]
      omega
theorem onesI_pc (n : Nat) : onesI n = (pc n : Int) := by
  unfold onesI
  rw [show (Str.ofString "1" : Str) = ⟨#[49]⟩ from rfl, count_cnt]
  exact cnt_bits n
theorem bitL_len (n k : Nat) (h : n < 2 ^ (k + 1)) : (bitL n).length ≤ k + 1 := by
  induction k generalizing n with
  | zero =>
    have h' : n < 2 := h
    unfold bitL
    rw [Nat.toDigits_of_lt_base h']
    exact Nat.le_refl _
  | succ k ih =>
    by_cases h2 : n < 2
    · unfold bitL
      rw [Nat.toDigits_of_lt_base h2]
      simp
    · have e : bitL n = bitL (n / 2) ++ [(Nat.digitChar (n % 2)).toNat] := by
        unfold bitL
        rw [Nat.toDigits_of_base_le (by omega) (by omega), List.map_append]
        rfl
      rw [e, List.length_append]
      have := ih (n / 2) (by
        have e2 : 2 ^ (k + 1 + 1) = 2 * 2 ^ (k + 1) := by rw [Nat.pow_succ]; omega
        omega)
      show (bitL (n / 2)).length + 1 ≤ _
      omega
/-- what lies within has not more bits, and as many only if it is the same -/
theorem and_half (a b : Nat) (h : a &&& b = a) : (a / 2) &&& (b / 2) = a / 2 := by
  rw [← Nat.and_div_two, h]
theorem pc_sub : ∀ (a b : Nat), a &&& b = a → pc a ≤ pc b ∧ (pc a = pc b → a = b) := by
  intro a
  induction a using Nat.strongRecOn with
  | ind a ih =>
    intro b h
    have hm : (a % 2) &&& (b % 2) = a % 2 := by rw [← Nat.and_mod_two_pow (n := 1), h]
    by_cases ha : a = 0
    · subst ha
      rw [pc_zero]
      refine ⟨Nat.zero_le _, fun e => ?_⟩
      have : ∀ b : Nat, pc b = 0 → b = 0 := by
        intro b
        induction b using Nat.strongRecOn with
        | ind b ih2 =>
          intro e
          rw [pc_step] at e
          by_cases hb : b = 0
          · exact hb
          · have := ih2 (b / 2) (by omega) (by omega)
            omega
      exact (this b e.symm).symm
    · have r := ih (a / 2) (by omega) (b / 2) (and_half a b h)
      rw [pc_step a, pc_step b]
      have h1 : a % 2 ≤ b % 2 := by
        have ha2 : a % 2 < 2 := Nat.mod_lt _ (by decide)
        have hb2 : b % 2 < 2 := Nat.mod_lt _ (by decide)
        generalize a % 2 = x at *
        generalize b % 2 = y at *
        match x, y, ha2, hb2 with
        | 0, _, _, _ => omega
        | 1, 1, _, _ => omega
        | 1, 0, _, _ => exact absurd hm (by decide)
      refine ⟨by omega, fun e => ?_⟩
      have := r.2 (by omega)
      omega
end Zk
namespace L2
open PySem PySem.Spec PyProof.Rows Zk
section
variable {X : Cx}
/-- {n:b}: the bits of a number from 0 on -/
def tFmtB (te : TE) : TE := fun σ H Q => te σ H fun x H1 => ∃ n : Nat, x = .int n ∧ (bitL n).length ≤ sizeLine ∧ Q (.str ⟨(bitL n).toArray⟩) H1
theorem pe_fmtB {e : Expr} {te : TE} {pos p2 p3 : Pos} {k : Nat} (he : PE X e te) : PE X (.FormattedValue e (-1) (some (.JoinedStr [.Constant (.str "b") k p2] p3)) pos) (tFmtB te) := by
  refine ⟨fun pins s σ H Q I h => ?_⟩
  refine wpAny_FormattedValue_spec (thn (he.run pins s σ H _ I h) fun v s1 hv => ?_)
  obtain ⟨x, H1, I1, r1, n, rfl, hz, q⟩ := hv
  obtain ⟨t, rfl⟩ := r1
  refine wpAny_JoinedStr_one (Calls.Constant_str ⟨_, _, rfl, ?_⟩)
  exact wpAny_formatField_spec (T := "int") (idf := "int.__format__") (sp := "b") (x := ⟨(bitL n).toArray⟩) rfl (fun s' => typeIs_int s' _ _) F.slot_int_format F.entry_int_format (fun a b => F.args_int_format_2 _ _) (fun u => gives_bits n t u) ⟨.str ⟨(bitL n).toArray⟩, H1, I1.tok _, ⟨_, rfl⟩, q⟩ (by decide) hz
end
end L2

set_option Elab.async false
set_option linter.all false
set_option maxRecDepth 100000
set_option maxHeartbeats 1000000
/-! loops over a list told by a predicate; a list of one's own lent to an expression; sorted by bits; list({..}) -/
namespace Z
open PySem PySem.Spec PyProof.Rows L2 Zk
section
variable {K : PySem.W.Frag} {Δ0 : Gh} {H0 : Hp} {Γ : Own} {F : List (V × Cell)} {ρ : Z.Env} {ta tb te tl : TE} {t tz : TS} {D : Ends} {α β γ : Type} [Rp α] [Rp β] [Rp γ]
/-- what is walked, told by a datum with P -/
def SrcP (K : PySem.W.Frag) (Γ : Own) (wi : TI) (g : TG) (ρ : Z.Env) (js : List Nat) {β : Type} (P : β → Prop) (n : β → Nat) (st : β → Nat → Z.Env → Z.Env) : Prop :=
  ∀ (Δ : Gh) (σ : L2.St) (H : Hp) (R : It → Hp → Prop), Sat Γ Δ → Hold Δ H → EnvOk K Δ σ H ρ →
    (∀ (b : β) (J : It) (H1 : Hp) (pv : V) (pc : Cell), P b → Ext Δ H H1 → pc.rp K Δ H1 pv →
      (∀ Δ' H2, pc.rp K Δ' H2 pv → (∀ i, i < n b → J.go i H2) ∧ J.stop (n b) H2) →
      (∀ Δ' i H2 x H3, i < n b → Hold Δ' H2 → pc.rp K Δ' H2 pv → J.yld i H2 x H3 → Ext Δ' H2 H3 ∧ ∀ (σ' : L2.St) (ρ' : Z.Env) (Qs : L2.St → Hp → Prop), ρ'.length = ρ.length → EnvOk K Δ' σ' H3 ρ' →
        (∀ σ2 : L2.St, EnvOk K Δ' σ2 H3 (st b i ρ') → σ2.length = σ'.length → (∀ k, k ∉ js → σ2[k]? = σ'[k]?) → Qs σ2 H3) → g x σ' H3 Qs) → R J H1) → wi σ H R
theorem srcP_list [Inhabited α] {j : Nat} {P : List α → Prop} (h : Ev K Γ tl ρ P) (hj : j < ρ.length) : SrcP K Γ (iList K tl) (gName j) ρ [j] P (fun xs => xs.length) (fun xs i ρ => ρ.set j (some ⟨xs.getD i default⟩)) := fun Δ σ H R s hh e k =>
  h Δ σ H _ s hh e fun v H' a pa e1 r => by
    obtain ⟨p, vs, rfl, n, sq, q⟩ := id r
    refine ⟨p, rfl, ⟨vs, sq⟩, k a _ H' (.ref p) ⟨a⟩ pa e1 r (fun Δ' H2 r2 => ?_) fun Δ' i H2 x H3 hi h2 r2 y => ?_⟩
    · obtain ⟨p', ws, e', n', sq', q'⟩ := (show Rp.rp K Δ' H2 (.ref p) a from r2)
      cases e'
      have hl := q'.len
      refine ⟨fun i hi => ⟨ws, ws[i]'(by change i < a.length at hi; omega), sq', List.getElem?_eq_getElem _⟩, ws, sq', by show ws.length ≤ a.length; omega⟩
    · obtain ⟨p', ws, e', n', sq', q'⟩ := (show Rp.rp K Δ' H2 (.ref p) a from r2)
      cases e'
      obtain ⟨rfl, hy⟩ := (show H3 = H2 ∧ ∀ zs, SqL K H2 p zs → zs[i]? = some x from y)
      obtain ⟨w, hw, rw'⟩ := q'.get (y := a.getD i default) (by rw [List.getElem?_eq_getElem hi, List.getD_eq_getElem?_getD, List.getElem?_eq_getElem hi]; rfl)
      have ew : x = w := Option.some.inj ((hy _ sq').symm.trans hw)
      subst ew
      exact ⟨Ext.refl h2, fun σ' ρ' Qs hl e' qq => qq _ (e'.set (c := ⟨a.getD i default⟩) (by rw [hl]; exact hj) rw') (set_off (js := [j]) (List.mem_singleton_self j)).1 (set_off (js := [j]) (List.mem_singleton_self j)).2⟩
/-- a loop over what a predicate tells -/
theorem wp_forP {β : Type} {P : β → Prop} {wi : TI} {g : TG} {js : List Nat} {n : β → Nat} {st : β → Nat → Z.Env → Z.Env} (Iv : β → Nat → Own → Z.Env → Prop) (S : SrcP K Γ wi g ρ js P n st) (h0 : ∀ b, P b → Iv b 0 Γ ρ) (hl : ∀ b i Γ' ρ', Iv b i Γ' ρ' → ρ'.length = ρ.length)
    (hs : ∀ b, P b → ∀ i Γ' ρ' F', i < n b → Iv b i Γ' ρ' → Wp K Δ0 H0 Γ' F' (st b i ρ') t { D with nx := At K Δ0 H0 F' (Iv b) (i + 1), ct := At K Δ0 H0 F' (Iv b) (i + 1), bk := tz D })
    (hd : ∀ b, P b → ∀ Γ' ρ' F', Iv b (n b) Γ' ρ' → Wp K Δ0 H0 Γ' F' ρ' tz D) : Wp K Δ0 H0 Γ F ρ (tSeq (tFor wi g t) tz) D := fun σ H ⟨Δ, s, hh, e, f, e0, s1, s2⟩ =>
  S Δ σ H _ s hh e fun b J H1 pv pc hb e1 rp0 hgo hyld => by
    refine ⟨fun i m σ2 H2 => m = n b - i ∧ i ≤ n b ∧ At K Δ0 H0 ((pv, pc) :: F) (Iv b) i σ2 H2, ⟨n b, by simp, Nat.zero_le _, Γ, ρ, h0 b hb, Δ, s, e1.2, e.mono e1.1, ?_, ext0 e0 s1 s2 e1, s1, s2⟩, ?_⟩
    · intro q hq
      rcases List.mem_cons.mp hq with z | z
      · rw [z]; exact rp0
      · exact q.2.r.mono e1.1 (f q z)
    · rintro i m σ2 H2 ⟨rfl, hi, Γ', ρ', iv, st2⟩
      obtain ⟨Δ', s', hh', e', f', e0', s1', s2'⟩ := id st2
      have rp2 : pc.rp K Δ' H2 pv := f' (pv, pc) List.mem_cons_self
      have hg := hgo Δ' H2 rp2
      by_cases hlt : i < n b
      · refine .inr ⟨hg.1 i hlt, At K Δ0 H0 ((pv, pc) :: F) (Iv b) (i + 1), fun σ3 H3 a => ⟨n b - (i + 1), by omega, rfl, hlt, a⟩, fun x H3 hy => ?_⟩
        obtain ⟨e3, hput⟩ := hyld Δ' i H2 x H3 hlt hh' rp2 hy
        refine hput σ2 ρ' _ (hl b i Γ' ρ' iv) (e'.mono e3.1) fun σ3 env3 _ _ => ?_
        exact hs b hb i Γ' ρ' _ hlt iv σ3 H3 ⟨Δ', s', e3.2, env3, fun q hq => q.2.r.mono e3.1 (f' q hq), ext0 e0' s1' s2' e3, s1', s2'⟩
      · have ei : i = n b := by omega
        subst ei
        exact .inl ⟨hg.2, hd b hb Γ' ρ' _ iv σ2 H2 st2⟩
/-- a list of one's own is lent to an expression with a plain answer -/
theorem ev_lend [Flat α] [Flat γ] {f : Addr} {xs : List α} {i : Nat} {P : γ → Prop} (hne : ∀ q ∈ Γ, q.1 ≠ f) (hi : ρ[i]? = some (some ⟨(⟨f⟩ : Loc)⟩)) (h : Ev K Γ te (ρ.set i (some ⟨xs⟩)) P) : Ev K (OwnL f xs :: Γ) te ρ P := fun Δ σ H Q s hh e k => by
  have hd : Δ f = some (ObIs (.lst (xs.map Flat.val))) := s _ List.mem_cons_self
  obtain ⟨o, ho, io⟩ := hh f _ hd
  have eo : o = .lst (xs.map Flat.val) := io
  subst eo
  have ilt : i < ρ.length := by
    rw [List.getElem?_eq_some_iff] at hi
    exact hi.1
  have s2 : Sat Γ (unOwn Δ f) := fun q hq => by rw [unOwn_ne (hne q hq)]; exact s q (List.mem_cons_of_mem _ hq)
  have h2 : Hold (unOwn Δ f) H := fun a J ha => by
    have ne : a ≠ f := fun z => by rw [z, unOwn_at] at ha; cases ha
    rw [unOwn_ne ne] at ha
    exact hh a J ha
  have wk : ∀ x o', H x = some o' → Δ x = none → unOwn Δ f x = none := fun x o' _ n => by
    by_cases z : x = f
    · rw [z]; exact unOwn_at
    · rw [unOwn_ne z]; exact n
  have e2 : EnvOk K (unOwn Δ f) σ H (ρ.set i (some ⟨xs⟩)) := by
    have e3 := (e.weak wk).set (c := ⟨xs⟩) (v := .ref f) ilt ⟨f, _, rfl, .inl ⟨unOwn_at, .inl ho⟩, .inl (.inl ho), all2_flat xs⟩
    obtain ⟨v, hv, rv⟩ := e.2 i _ hi
    have ev : v = .ref f := rv
    subst ev
    have es : σ.set i (some (.ref f)) = σ := List.ext_getElem? fun j => by
      by_cases hj : i = j
      · subst hj
        rw [List.getElem?_set_self (by rw [e.1]; exact ilt), hv]
      · rw [List.getElem?_set_ne hj]
    rw [es] at e3
    exact e3
  refine h (unOwn Δ f) σ H Q s2 h2 e2 fun v H' a pa ee r => k v H' a pa ⟨fun b o n q => ?_, fun b J hb => ?_⟩ (Flat.iff.mpr (Flat.iff.mp r))
  · exact ee.1 b o (wk b o q n) q
  · by_cases z : b = f
    · subst z
      rw [hd] at hb
      cases hb
      exact ⟨_, ee.1 _ _ unOwn_at ho, rfl⟩
    · exact ee.2 b J (by rw [unOwn_ne z]; exact hb)
abbrev zsI (ms : List Nat) : List Int := ms.map fun i => ((i : Nat) : Int)
/-- sorted(xs, key=f), f the def that counts bits -/
theorem ev_sortBits {f : Addr} {ms : List Nat} (h : Ev K Γ ta ρ (Is (zsI ms))) (hz : ∀ m ∈ ms, (bitL m).length ≤ sizeLine) : Ev K Γ (tCKw (rSortBits K f) (tCons ta tNil) (tCons (tC (.ref f)) tNil)) ρ (fun ys : List Int => ∃ ls : List Nat, ys = zsI ls ∧ ls.Perm ms ∧ ls.Pairwise fun x y => pc x ≤ pc y) := fun Δ σ H Q s hh e k =>
  h Δ σ H _ s hh e fun v H1 a pa e1 r => by
    have ea : a = zsI ms := pa
    subst ea
    obtain ⟨p, vs, rfl, n, sq, q⟩ := r
    have ev := all2_int q
    subst ev
    refine ⟨p, ms, rfl, rfl, ?_, hz, fun ls q hp hw hq => k _ _ (zsI ls) ⟨ls, rfl, hp, hw.imp fun h => ?_⟩ (e1.trans (Ext.new e1.2 hq _)) ?_⟩
    · rw [List.map_map] at sq
      exact sq
    · rw [onesI_pc, onesI_pc] at h
      omega
    · have e3 : (ls.map fun n : Nat => V.int n) = (zsI ls).map Flat.val := by
        rw [List.map_map]
        rfl
      rw [e3]
      exact new_lst e1.2 hq (all2_flat _)
/-- list({..}) of a new dict -/
theorem ev_listN {kvs : List (Key × V)} {κ : Type} [Rp κ] [Flat κ] {xs : List κ} (hk : kvs.map (fun kv => kV kv.1) = xs.map Flat.val) (h : EvN K Γ te ρ (ObIs (.dK kvs))) : Ev K Γ (tCB rListD (tCons te tNil)) ρ (Is xs) := fun Δ σ H Q s hh e k =>
  h Δ σ H _ s hh e fun d H1 o io hd nd e1 ho => by
    have eo : o = .dK kvs := io
    subst eo
    refine ⟨d, kvs, rfl, ho, fun q hq => k _ _ xs rfl (e1.trans (Ext.new e1.2 hq _)) (new_lst e1.2 hq ?_)⟩
    rw [hk]
    exact all2_flat xs
/-- f'{n:b}'.count('1') -/
theorem ev_countBits {m : Nat} (hz : (bitL m).length ≤ sizeLine) (h : Ev K Γ te ρ (Is (m : Int))) : Ev K Γ (tBM K "str" (fun x xs H Q => ∃ a b, x = .str a ∧ xs = [.str b] ∧ Q (.int (Txt.count a b)) H) (tFmtB te) (tCons (tC (.str "1")) tNil)) ρ (Is (pc m : Int)) := fun Δ σ H Q s hh e k =>
  h Δ σ H _ s hh e fun v H1 a pa e1 r => by
    have ea : a = (m : Int) := pa
    subst ea
    have ev : v = .int (m : Int) := r
    subst ev
    refine ⟨m, rfl, hz, rfl, _, _, rfl, rfl, k _ H1 (pc m : Int) rfl e1 ?_⟩
    show V.int (onesI m) = V.int (pc m : Int)
    rw [onesI_pc]
end
end Z

set_option Elab.async false
set_option linter.all false
set_option maxRecDepth 100000
set_option maxHeartbeats 2000000
/-! {k: v for a in x if .. for b in y if ..}: the dict comprehension of two clauses (its steps go as the list comprehension's of two clauses in HandS.Comp, with a dict's store in the place of append) -/
namespace Zd
open PySem PySem.Spec PyProof.Rows L2
abbrev DC2 (kx vx a0 b0 a1 b1 : Expr) (c0 c1 : List Expr) (sc : Scope) (ps : Pos) : Expr := .DictComp kx vx [⟨a0, b0, c0, 0⟩, ⟨a1, b1, c1, 0⟩] sc ps
/-- a clause's tests, one behind the other -/
abbrev tests (cs : List Expr) (env : PySem.Env) : Sem Bool := forIn cs true fun c r => if r = true then do let ok ← isTrue c env (eval c env); pure (ForInStep.yield ok) else pure (ForInStep.yield r)
section
variable {P : Program} {w : World} {A : Around} {R : Result → Shared → Prop} {st : Shared} {kx vx a0 b0 a1 b1 : Expr} {c0 c1 : List Expr} {sc : Scope} {ps : Pos} {it : Value} {D : Addr} {env : PySem.Env}
abbrev NB (P : Program) (w : World) (A : Around) (env : PySem.Env) (R : Result → Shared → Prop) : Value → Shared → Prop := notedBy (model P w) A env fun e z => R (.error e) z
theorem outer_turn : compTurn (DC2 kx vx a0 b0 a1 b1 c0 c1 sc ps) 0 it (.ref D) env = (do
      standAt b0.pos
      match ← pyNext it with
      | none => pure (.done .next)
      | some v =>
        letOwnedTupleGo a0 it v
        assign a0 env v
        let ok ← tests c0 env
        if ok then
          let x ← eval b1 env
          standAt b1.pos
          let x ← foldedSetIterable b1 env x
          let _ ← runOwn (.compStart (DC2 kx vx a0 b0 a1 b1 c0 c1 sc ps) 1 (← holding [x] (pyIter x)) (.ref D) env) env
        again (.compLoop (DC2 kx vx a0 b0 a1 b1 c0 c1 sc ps) 0 it (.ref D) env)) := by rfl
theorem inner_turn : compTurn (DC2 kx vx a0 b0 a1 b1 c0 c1 sc ps) 1 it (.ref D) env = (do
      standAt b1.pos
      match ← pyNext it with
      | none => pure (.done .next)
      | some v =>
        letOwnedTupleGo a1 it v
        assign a1 env v
        let ok ← tests c1 env
        if ok then
          (do
            let kv ← eval kx env
            let vv ← holding [kv] (eval vx env)
            standAt { kx.pos with endLine := vx.pos.endLine, endCol := vx.pos.endCol }
            holding [kv, vv] (dictSet D kv vv))
        again (.compLoop (DC2 kx vx a0 b0 a1 b1 c0 c1 sc ps) 1 it (.ref D) env)) := by rfl
/-- the first clause's loop -/
theorem outer_loop (fold : ∀ x, foldedSetIterable b1 env x = pure x) (I : Nat → Shared → Prop)
    (turn : ∀ n z, I n z → wpAny (model P w) A (pyNext it) (fun r z1 => match r with
      | none => R (.ok .next) z1
      | some v => wpAny (model P w) A (letOwnedTupleGo a0 it v) (fun _ z2 => wpAny (model P w) A (assign a0 env v) (fun _ z3 => wpAny (model P w) A (tests c0 env) (fun ok z4 =>
          if ok = true then wpAny (model P w) A (eval b1 env) (fun x z5 => wpAny (model P w) A (pyIter x) (fun it1 z6 =>
            codeAny (model P w) A (.compStart (DC2 kx vx a0 b0 a1 b1 c0 c1 sc ps) 1 it1 (.ref D) env) (fun r z7 => match r with
              | .ok _ => ∃ m, m < n ∧ I m z7
              | .error _ => False) z6) (NB P w A env R) z5) (NB P w A env R) z4
          else ∃ m, m < n ∧ I m z4) (NB P w A env R) z3) (NB P w A env R) z2) (NB P w A env R) z1) (NB P w A env R) z)
    (n : Nat) (h : I n st) : codeAny (model P w) A (.compLoop (DC2 kx vx a0 b0 a1 b1 c0 c1 sc ps) 0 it (.ref D) env) R st := by
  refine codeAny_loop rfl I (fun n z hI => ?_) n h
  show wpAny _ A ((compTurn (DC2 kx vx a0 b0 a1 b1 c0 c1 sc ps) 0 it (.ref D) env).onRaise (fun x => do noteFrame x env; theTreesLotGoes x)) _ _ z
  refine wpAny_noted ?_
  rw [outer_turn]
  have same : ∀ {α : Type} {Q Q' : α → Shared → Prop} {t : Sem α} {z : Shared}, wpAny (model P w) A t Q (NB P w A env R) z → (∀ a y, Q a y → Q' a y) → wpAny (model P w) A t Q' (NB P w A env R) z := fun hh q => wpAny_mono hh q fun _ _ e => e
  refine wpAny_bind (wpAny_standAt (wpAny_bind (same (turn n z hI) fun r z1 h1 => ?_)))
  cases r with
  | none => exact wpAny_pure h1
  | some v =>
    refine wpAny_bind (same h1 fun _ z2 h2 => wpAny_bind (same h2 fun _ z3 h3 => wpAny_bind (same h3 fun ok z4 h4 => ?_)))
    cases ok with
    | false => exact wpAny_pure ⟨rfl, h4⟩
    | true =>
      refine wpAny_bind (same h4 fun x z5 h5 => ?_)
      refine wpAny_bind (wpAny_standAt (wpAny_bind (wpAny_of_eq (fold x) (wpAny_bind (wpAny_holding (same h5 fun it1 z6 h6 => ?_))))))
      refine wpAny_bind (wpAny_runOwn ?_)
      rw [Around.mark_none]
      refine codeAny_mono h6 fun r z7 h7 => ?_
      match r, h7 with
      | .ok _, h7 =>
        first
          | exact wpAny_pure ⟨rfl, h7⟩
          | exact wpAny_bind (wpAny_pure (wpAny_pure ⟨rfl, h7⟩))
      | .error _, h7 => exact h7.elim
/-- the second clause's loop -/
theorem inner_loop (I : Nat → Shared → Prop)
    (turn : ∀ n z, I n z → wpAny (model P w) A (pyNext it) (fun r z1 => match r with
      | none => R (.ok .next) z1
      | some v => wpAny (model P w) A (letOwnedTupleGo a1 it v) (fun _ z2 => wpAny (model P w) A (assign a1 env v) (fun _ z3 => wpAny (model P w) A (tests c1 env) (fun ok z4 =>
          if ok = true then wpAny (model P w) A (eval kx env) (fun kv z5 => wpAny (model P w) A (eval vx env) (fun vv z6 =>
            wpAny (model P w) A (dictSet D kv vv) (fun _ z7 => ∃ m, m < n ∧ I m z7) (NB P w A env R) z6) (NB P w A env R) z5) (NB P w A env R) z4
          else ∃ m, m < n ∧ I m z4) (NB P w A env R) z3) (NB P w A env R) z2) (NB P w A env R) z1) (NB P w A env R) z)
    (n : Nat) (h : I n st) : codeAny (model P w) A (.compLoop (DC2 kx vx a0 b0 a1 b1 c0 c1 sc ps) 1 it (.ref D) env) R st := by
  refine codeAny_loop rfl I (fun n z hI => ?_) n h
  show wpAny _ A ((compTurn (DC2 kx vx a0 b0 a1 b1 c0 c1 sc ps) 1 it (.ref D) env).onRaise (fun x => do noteFrame x env; theTreesLotGoes x)) _ _ z
  refine wpAny_noted ?_
  rw [inner_turn]
  have same : ∀ {α : Type} {Q Q' : α → Shared → Prop} {t : Sem α} {z : Shared}, wpAny (model P w) A t Q (NB P w A env R) z → (∀ a y, Q a y → Q' a y) → wpAny (model P w) A t Q' (NB P w A env R) z := fun hh q => wpAny_mono hh q fun _ _ e => e
  refine wpAny_bind (wpAny_standAt (wpAny_bind (same (turn n z hI) fun r z1 h1 => ?_)))
  cases r with
  | none => exact wpAny_pure h1
  | some v =>
    refine wpAny_bind (same h1 fun _ z2 h2 => wpAny_bind (same h2 fun _ z3 h3 => wpAny_bind (same h3 fun ok z4 h4 => ?_)))
    cases ok with
    | false => exact wpAny_pure ⟨rfl, h4⟩
    | true => exact wpAny_bind (wpAny_bind (same h4 fun kv z5 h5 => wpAny_bind (wpAny_holding (same h5 fun vv z6 h6 => wpAny_bind (wpAny_standAt (wpAny_holding (same h6 fun _ z7 h7 => wpAny_pure ⟨rfl, h7⟩)))))))
/-- the second clause begins -/
theorem inner_start (h0 : codeAny (model P w) A (.compLoop (DC2 kx vx a0 b0 a1 b1 c0 c1 sc ps) 1 it (.ref D) env) R st)
    (h : wpAny (model P w) A (pyIter it) (fun it' z => codeAny (model P w) A (.compLoop (DC2 kx vx a0 b0 a1 b1 c0 c1 sc ps) 1 it' (.ref D) env) R z) (NB P w A env R) st) :
    codeAny (model P w) A (.compStart (DC2 kx vx a0 b0 a1 b1 c0 c1 sc ps) 1 it (.ref D) env) R st := by
  refine codeAny_of_tree ?_
  show wpAny _ _ ((compStart (DC2 kx vx a0 b0 a1 b1 c0 c1 sc ps) 1 it (.ref D) env).onRaise (fun x => do noteFrame x env; standAt theWindowsPlace)) _ _ st
  refine wpAny_notedAt ?_
  unfold compStart
  show wpAny _ _ (ask >>= _) _ _ st
  refine wpAny_bind (wpAny_askSetting (wpAny_ite ?_))
  split
  · first
      | exact wpAny_bind (wpAny_pure (wpAny_pure (And.intro rfl h0)))
      | exact wpAny_pure (And.intro rfl h0)
  · refine wpAny_bind (wpAny_rule ?_)
    show wpAny _ _ (standAt b1.pos >>= _) _ _ st
    exact wpAny_bind (wpAny_standAt (wpAny_bind (wpAny_mono h (fun it' z q => wpAny_pure (And.intro rfl q)) fun _ _ x => x)))
end
section
variable {X : Cx}
/-- the term: behind the first clause's turn the second one's own loop, from which Nx is reached -/
def tDc2 (wi : TI) (g : TG) (tt : TT) (wi1 : TI) (g1 : TG) (tt1 : TT) (tk tv : TE) (vs vs1 : List Nat) : TE := fun σ H Q => wi σ H fun J H1 => ∀ D, H1 D = none → ∃ W : Nat → Nat → Hp → Prop, (∃ m, W 0 m (upd H1 D (.dK []))) ∧ ∀ i m H, W i m H →
  (J.stop i H ∧ Q (.ref D) H) ∨ (J.go i H ∧ ∃ Nx : Hp → Prop, (∀ H', Nx H' → ∃ m', m' < m ∧ W (i + 1) m' H') ∧ ∀ x H', J.yld i H x H' → g x (wipe σ vs) H' fun σ2 H2 => wipe σ2 vs = wipe σ vs ∧ tt σ2 H2 fun b H3 =>
    if b = true then wi1 σ2 H3 fun J1 H4 => ∃ W1 : Nat → Nat → Hp → Prop, (∃ m, W1 0 m H4) ∧ ∀ j k H, W1 j k H →
      (J1.stop j H ∧ Nx H) ∨ (J1.go j H ∧ ∃ Nx1 : Hp → Prop, (∀ H', Nx1 H' → ∃ k', k' < k ∧ W1 (j + 1) k' H') ∧ ∀ x H', J1.yld j H x H' → g1 x (wipe σ2 vs1) H' fun σ3 H5 => wipe σ3 vs1 = wipe σ2 vs1 ∧ tt1 σ3 H5 fun b H6 =>
        if b = true then tk σ3 H6 fun y H7 => tv σ3 H7 fun z H8 => ∃ kvs k, y = kV k ∧ H8 D = some (.dK kvs) ∧ kvs.length < sizeLine ∧ Nx1 (upd H8 D (.dK (putK kvs k z))) else Nx1 H6)
    else Nx H3)
theorem dc2_core {pins : List (Addr × Obj)} {z0 : Shared} {σ : L2.St} {G0 : Hp} {Q : VK} {kx vx a0 b0 a1 b1 : Expr} {c0 c1 : List Expr} {scope : Scope} {own : List (Str × Nat)} {vs1 : List Nat} {pos pos' : Pos} {wi wi1 : TI} {g g1 : TG} {tt tt1 : TT} {tk tv : TE} {use : Option (Value → Sem Unit)} {Qf : Value → Shared → Prop}
    (calm : X.calm = true) (nd : X.N.Nodup) (I0 : Inv X pins σ G0 z0) (hi : PI X a0 b0 wi) (ok : BlkOk X.N X.env.scope scope own) (hv : ∀ i ∈ vs1, i ∈ own.map (·.2))
    (hg : ∀ (z : Shared) (G : Hp) (C : Addr) (cl : List (Str × Addr)) (fp : List Addr), PG (X.blk z G scope (compEnvC scope cl C X.env) fp) a0 g) (ht : ∀ (z : Shared) (G : Hp) (C : Addr) (cl : List (Str × Addr)) (fp : List Addr), PTs (X.blk z G scope (compEnvC scope cl C X.env) fp) c0 tt)
    (hi1 : ∀ (z : Shared) (G : Hp) (C : Addr) (cl : List (Str × Addr)) (fp : List Addr), PI (X.blk z G scope (compEnvC scope cl C X.env) fp) a1 b1 wi1)
    (hg1 : ∀ (z : Shared) (G : Hp) (C : Addr) (cl : List (Str × Addr)) (fp : List Addr), PG (X.blk z G scope (compEnvC scope cl C X.env) fp) a1 g1)
    (ht1 : ∀ (z : Shared) (G : Hp) (C : Addr) (cl : List (Str × Addr)) (fp : List Addr), PTs (X.blk z G scope (compEnvC scope cl C X.env) fp) c1 tt1)
    (hk : ∀ (z : Shared) (G : Hp) (C : Addr) (cl : List (Str × Addr)) (fp : List Addr), PE (X.blk z G scope (compEnvC scope cl C X.env) fp) kx tk)
    (he : ∀ (z : Shared) (G : Hp) (C : Addr) (cl : List (Str × Addr)) (fp : List Addr), PE (X.blk z G scope (compEnvC scope cl C X.env) fp) vx tv)
    (hs : ∀ x, foldedSetIterable b0 X.env x = pure x) (hs1 : ∀ env x, foldedSetIterable b1 env x = pure x)
    (h : tDc2 wi g tt wi1 g1 tt1 tk tv (own.map (·.2)) vs1 σ G0 Q)
    (back : ∀ D C z m G, Inv X pins σ G z → Q (.ref D) G → z.heap.Ns C m → FpOk X pins G C → compPost (model X.prog X.w) X.A X.xe use Qf (.ref D) C (.ok .next) z) :
    wpAny (model X.prog X.w) X.A (comprehension (DC2 kx vx a0 b0 a1 b1 c0 c1 scope pos) scope X.env pos' newDict false (eval b0 X.env) use) Qf X.xe z0 := by
  have hfree : ∀ y ∈ scope.names, y.2 = .free → ∃ c, X.env.cells.lookup y.1 = some c := fun y hy e => (ok.free y hy e).elim (fun k => I0.ok.has _ (.inl k)) fun k => I0.ok.has _ (.inr k)
  refine wpAny_comprehension_free (use := use) rfl hs (closure_ok hfree) ok.kind (fun y hy e => by rw [ok.uniq y hy, e]) (thn (hi.run pins z0 σ G0 _ I0 h) fun xv z1 hx => thn hx fun itv z2 h2 => ?_)
  obtain ⟨it, fp, tn, J, G2, e, I2, T, st2, f2, q⟩ := h2
  subst e
  refine wpAny_newObj_type (newEnv_comp ?_)
  generalize hD : z2.heap.objs.size = D
  obtain ⟨W, ⟨m0, w0⟩, turn⟩ := q D (I2.hok.fresh (Nat.le_of_eq hD))
  -- the dict that is made
  generalize hz3 : ({ z2 with heap := z2.heap.push { cls := .type "dict", data := .dict #[] } } : Shared) = z3
  have I3 : Inv X pins σ (upd G2 D (.dK [])) z3 := by
    rw [← hz3]
    refine I2.laid (t' := z2.toks) (fun b o e => Heap.get?_push_of_some _ e) (Nat.le_of_eq hD) ?_
    rw [← hD]
    exact dk_empty z2.heap I2.big
  have h3 : z3.heap = z2.heap.push { cls := .type "dict", data := .dict #[] } := by rw [← hz3]
  have low : ∀ b ∈ fp, b < z2.heap.objs.size := fun b hb => let ⟨_, e, _⟩ := T.obj _ _ st2 b hb; Heap.lt_size e
  have f3 : ∀ b ∈ fp, FpOk X pins (upd G2 D (.dK [])) b ∧ b < z3.heap.objs.size := fun b hb => by
    have hlt := low b hb
    have hne : b ≠ D := by rw [← hD]; exact Nat.ne_of_lt hlt
    exact ⟨⟨by rw [upd_ne hne]; exact (f2 b hb).1, (f2 b hb).2⟩, by rw [h3, Heap.size_push]; exact Nat.lt_succ_of_lt hlt⟩
  have st3 : tn 0 z3.heap := T.keep _ _ _ st2 fun b _ o e => by rw [h3]; exact Heap.get?_push_of_some _ e
  have I4 := block_start I3 ok nd f3
  have pg := hg z3 (upd G2 D (.dK [])) z3.heap.objs.size (cellsFrom (z3.heap.objs.size + 1) scope.names (cloFrom X.env.cells scope.names [])) fp
  have pt := ht z3 (upd G2 D (.dK [])) z3.heap.objs.size (cellsFrom (z3.heap.objs.size + 1) scope.names (cloFrom X.env.cells scope.names [])) fp
  have pi1 := hi1 z3 (upd G2 D (.dK [])) z3.heap.objs.size (cellsFrom (z3.heap.objs.size + 1) scope.names (cloFrom X.env.cells scope.names [])) fp
  have pg1 := hg1 z3 (upd G2 D (.dK [])) z3.heap.objs.size (cellsFrom (z3.heap.objs.size + 1) scope.names (cloFrom X.env.cells scope.names [])) fp
  have pt1 := ht1 z3 (upd G2 D (.dK [])) z3.heap.objs.size (cellsFrom (z3.heap.objs.size + 1) scope.names (cloFrom X.env.cells scope.names [])) fp
  have pk := hk z3 (upd G2 D (.dK [])) z3.heap.objs.size (cellsFrom (z3.heap.objs.size + 1) scope.names (cloFrom X.env.cells scope.names [])) fp
  have pe := he z3 (upd G2 D (.dK [])) z3.heap.objs.size (cellsFrom (z3.heap.objs.size + 1) scope.names (cloFrom X.env.cells scope.names [])) fp
  show codeAny _ _ (.compStart (DC2 kx vx a0 b0 a1 b1 c0 c1 scope pos) 0 (.ref it) (.ref D) (compEnvC scope (cellsFrom (z3.heap.objs.size + 1) scope.names (cloFrom X.env.cells scope.names [])) z3.heap.objs.size X.env)) (compPost (model X.prog X.w) X.A X.xe use Qf (.ref D) z3.heap.objs.size) { z3 with heap := pushCells (z3.heap.push { cls := .type "dict", data := .dict #[] }) scope.names }
  have nfp : ∀ b ∈ fp, (upd G2 D (.dK [])) b = none := fun b hb => (f3 b hb).1.1
  generalize hce : compEnvC scope (cellsFrom (z3.heap.objs.size + 1) scope.names (cloFrom X.env.cells scope.names [])) z3.heap.objs.size X.env = ce at I4 pg pt pi1 pg1 pt1 pk pe ⊢
  have cL : ce.locals = z3.heap.objs.size := by subst hce; rfl
  generalize hG3 : upd G2 D (.dK []) = G3 at I3 I4 pg pt pi1 pg1 pt1 pk pe w0 nfp f3
  generalize hz4 : ({ z3 with heap := pushCells (z3.heap.push { cls := .type "dict", data := .dict #[] }) scope.names } : Shared) = z4 at I4 ⊢
  have st4 : tn 0 z4.heap := T.keep _ _ _ st3 fun b _ o e => by rw [← hz4]; exact pushCells_keeps _ _ _ _ (Heap.get?_push_of_some _ e)
  have stat : ∀ {σ' : L2.St} {G : Hp} {z : Shared}, Inv (X.blk z3 G3 scope ce fp) [] σ' G z → (∀ b ∈ fp, G b = none) → ∀ b ∈ fp, FpOk (X.blk z3 G3 scope ce fp) [] G b := fun {σ' G z} I' hn b hb =>
    ⟨hn b hb, (I'.ok.exf b hb).1, I'.ok.exfs b hb, .inl hb, fun x c e => (I'.ok.exf b hb).2 x c e, fun p hp => absurd (show p ∈ ([] : List (Addr × Obj)) ++ [] from hp) (by simp)⟩
  have loop : codeAny (model X.prog X.w) X.A (.compLoop (DC2 kx vx a0 b0 a1 b1 c0 c1 scope pos) 0 (.ref it) (.ref D) ce) (compPost (model X.prog X.w) X.A X.xe use Qf (.ref D) z3.heap.objs.size) z4 := by
    refine outer_loop (hs1 ce) (fun n z => ∃ i G, Inv (X.blk z3 G3 scope ce fp) [] (wipe σ (own.map (·.2))) G z ∧ tn i z.heap ∧ (∀ b ∈ fp, G b = none) ∧ W i n G) ?_ m0 ⟨0, G3, I4, st4, nfp, w0⟩
    rintro n z5 ⟨i, G5, I5, st5, n5, w5⟩
    rcases turn i n G5 w5 with ⟨stop, qq⟩ | ⟨go, Nx, hNx, step⟩
    · refine thnF (T.done (X.blk z3 G3 scope ce fp) rfl rfl rfl calm i [] z5 _ G5 (fun _ _ => False) I5 (stat I5 n5) st5 stop) fun r z6 ⟨hr, I6⟩ => ?_
      subst hr
      have I7 : Inv X pins σ G5 z6 := I3.call' (ch := fp) I6.os I6.base I6.hok I6.bare fun b hb => ⟨(f3 b hb).1.2.2.2.1, (f3 b hb).1.2.1, (f3 b hb).1.2.2.2.2.1, (f3 b hb).1.2.2.2.2.2⟩
      have nC : G5 z3.heap.objs.size = none := by rw [← cL]; exact I6.free
      obtain ⟨m, hn, _⟩ := I6.loc
      have hn' : z6.heap.Ns z3.heap.objs.size m := by rw [← cL]; exact hn
      exact back D z3.heap.objs.size z6 m G5 I7 qq hn' (I3.fpOk (Nat.le_refl _) nC)
    · refine thnF (T.item (X.blk z3 G3 scope ce fp) rfl rfl rfl calm i [] z5 _ G5 (fun _ _ => False) I5 (stat I5 n5) st5 go) fun r z6 ⟨u, hr, h6⟩ => ?_
      subst hr
      refine thnF h6 fun _ z7 ⟨x, G7, I7, r7, y7, st7, n7⟩ => ?_
      refine thnF (pg.run _ z7 _ G7 x u _ (I7.pinned (stat I7 n7) (T.obj _ _ st7)) r7 (step x G7 y7)) fun _ z8 ⟨σ8, G8, I8, hw8, q8⟩ => ?_
      refine thnF (pt.run _ z8 σ8 G8 _ I8 q8) fun b z9 ⟨G9, I9, q9⟩ => ?_
      -- how a turn ends
      have fin : ∀ {σ9 : L2.St} {z : Shared} {G : Hp}, Inv (X.blk z3 G3 scope ce fp) ([] ++ pinsAt fp z7.heap) σ9 G z → (wipe σ (own.map (·.2))).length = σ9.length → (∀ (j : Nat) v, (wipe σ (own.map (·.2)))[j]? = some (some v) → σ9[j]? = some (some v)) → Nx G →
          ∃ m, m < n ∧ ∃ i G, Inv (X.blk z3 G3 scope ce fp) [] (wipe σ (own.map (·.2))) G z ∧ tn i z.heap ∧ (∀ b ∈ fp, G b = none) ∧ W i m G := fun {σ9 z G} I' hl hk nx => by
        obtain ⟨m', hm, w'⟩ := hNx G nx
        have kept : ∀ b ∈ fp, ∀ o, z7.heap.get? b = some o → z.heap.get? b = some o ∧ G b = none := fun b hb o e =>
          let y := I'.pin (b, o) (List.mem_append_right _ (List.mem_append_right _ (mem_pinsAt hb e)))
          ⟨y.1, y.2.1⟩
        exact ⟨m', hm, i + 1, G, (I'.unpinned (pins := [])).weak hl hk, T.keep _ _ _ st7 fun b hb o e => (kept b hb o e).1, fun b hb => let ⟨o, e, _⟩ := T.obj _ _ st7 b hb; (kept b hb o e).2, w'⟩
      have hl8 : (wipe σ (own.map (·.2))).length = σ8.length := by rw [← hw8, wipe_length]
      have hk8 : ∀ (j : Nat) v, (wipe σ (own.map (·.2)))[j]? = some (some v) → σ8[j]? = some (some v) := fun j v e => by
        rw [← hw8] at e
        exact (wipe_some e).1
      have hk9 : ∀ (j : Nat) v, (wipe σ (own.map (·.2)))[j]? = some (some v) → (wipe σ8 vs1)[j]? = some (some v) := fun j v e => by
        rw [← hw8] at e
        obtain ⟨e1, e2⟩ := wipe_some e
        rw [wipe_out fun y => e2 (hv j y)]
        exact e1
      cases b with
      | false =>
        rw [if_neg Bool.false_ne_true] at q9 ⊢
        exact fin I9 hl8 hk8 q9
      | true =>
        rw [if_pos rfl] at q9 ⊢
        refine thnF (pi1.run _ z9 σ8 G9 _ I9 q9) fun xv z10 hx => thnF hx fun itv z11 h11 => ?_
        obtain ⟨it1, fp1, tn1, J1, G11, e1, I11, T1, st11, f11, W1, ⟨m1, w1⟩, turn1⟩ := h11
        subst e1
        have stat1 : ∀ {G : Hp}, (∀ b ∈ fp1, G b = none) → ∀ b ∈ fp1, FpOk (X.blk z3 G3 scope ce fp) ([] ++ pinsAt fp z7.heap) G b := fun hn b hb => ⟨hn b hb, (f11 b hb).2⟩
        have loop1 : codeAny (model X.prog X.w) X.A (.compLoop (DC2 kx vx a0 b0 a1 b1 c0 c1 scope pos) 1 (.ref it1) (.ref D) ce)
            (fun r z => match r with
              | .ok _ => ∃ m, m < n ∧ ∃ i G, Inv (X.blk z3 G3 scope ce fp) [] (wipe σ (own.map (·.2))) G z ∧ tn i z.heap ∧ (∀ b ∈ fp, G b = none) ∧ W i m G
              | .error _ => False) z11 := by
          refine inner_loop (fun k z => ∃ j G, Inv (X.blk z3 G3 scope ce fp) ([] ++ pinsAt fp z7.heap) (wipe σ8 vs1) G z ∧ tn1 j z.heap ∧ (∀ b ∈ fp1, G b = none) ∧ W1 j k G) ?_ m1 ⟨0, G11, I11.weak (wipe_length _ _) (fun j v e => (wipe_some e).1), st11, fun b hb => (f11 b hb).1, w1⟩
          rintro k z12 ⟨j, G12, I12, st12, n12, w12⟩
          rcases turn1 j k G12 w12 with ⟨stop1, nx1⟩ | ⟨go1, Nx1, hNx1, step1⟩
          · refine thnF (T1.done (X.blk z3 G3 scope ce fp) rfl rfl rfl calm j _ z12 (wipe σ8 vs1) G12 (fun _ _ => False) I12 (stat1 n12) st12 stop1) fun r z13 ⟨hr, I13⟩ => ?_
            subst hr
            exact fin I13 (hl8.trans (wipe_length σ8 vs1).symm) hk9 nx1
          · refine thnF (T1.item (X.blk z3 G3 scope ce fp) rfl rfl rfl calm j _ z12 (wipe σ8 vs1) G12 (fun _ _ => False) I12 (stat1 n12) st12 go1) fun r z13 ⟨u1, hr, h13⟩ => ?_
            subst hr
            refine thnF h13 fun _ z14 ⟨x1, G14, I14, r14, y14, st14, n14⟩ => ?_
            refine thnF (pg1.run _ z14 (wipe σ8 vs1) G14 x1 u1 _ (I14.pinned (stat1 n14) (T1.obj _ _ st14)) r14 (step1 x1 G14 y14)) fun _ z15 ⟨σ15, G15, I15, hw15, q15⟩ => ?_
            refine thnF (pt1.run _ z15 σ15 G15 _ I15 q15) fun b1 z16 ⟨G16, I16, q16⟩ => ?_
            have fin1 : ∀ {z : Shared} {G : Hp}, Inv (X.blk z3 G3 scope ce fp) (([] ++ pinsAt fp z7.heap) ++ pinsAt fp1 z14.heap) σ15 G z → Nx1 G → ∃ m, m < k ∧ ∃ j G, Inv (X.blk z3 G3 scope ce fp) ([] ++ pinsAt fp z7.heap) (wipe σ8 vs1) G z ∧ tn1 j z.heap ∧ (∀ b ∈ fp1, G b = none) ∧ W1 j m G := fun {z G} I' nx => by
              obtain ⟨m', hm, w'⟩ := hNx1 G nx
              have kept : ∀ b ∈ fp1, ∀ o, z14.heap.get? b = some o → z.heap.get? b = some o ∧ G b = none := fun b hb o e =>
                let y := I'.pin (b, o) (List.mem_append_right _ (List.mem_append_right _ (mem_pinsAt hb e)))
                ⟨y.1, y.2.1⟩
              exact ⟨m', hm, j + 1, G, I'.unpinned.weak (by rw [← hw15, wipe_length]) (fun j v e => by rw [← hw15] at e; exact (wipe_some e).1), T1.keep _ _ _ st14 fun b hb o e => (kept b hb o e).1, fun b hb => let ⟨o, e, _⟩ := T1.obj _ _ st14 b hb; (kept b hb o e).2, w'⟩
            cases b1 with
            | false =>
              rw [if_neg Bool.false_ne_true] at q16 ⊢
              exact fin1 I16 q16
            | true =>
              rw [if_pos rfl] at q16 ⊢
              refine thnF (pk.run _ z16 σ15 G16 _ I16 q16) fun kv z17 ⟨yk, G17, I17, r17, q17⟩ => ?_
              refine thnF (pe.run _ z17 σ15 G17 _ I17 q17) fun vv z18 ⟨yv, G18, I18, r18, kvs, ky, ek, hD18, hz18, nx⟩ => ?_
              subst ek
              exact d_dictSet (X := X.blk z3 G3 scope ce fp) I18 hD18 hz18 r17 r18 fun z19 I19 => fin1 I19 nx
        exact inner_start loop1 (T1.self X.A 0 _ _ _ st11 loop1)
  exact codeAny_compStart_dict loop (T.self X.A 0 _ _ _ st4 loop)
/-- as a value -/
theorem pe_dc2 {kx vx a0 b0 a1 b1 : Expr} {c0 c1 : List Expr} {scope : Scope} {own : List (Str × Nat)} {vs1 : List Nat} {pos : Pos} {wi wi1 : TI} {g g1 : TG} {tt tt1 : TT} {tk tv : TE} (calm : X.calm = true) (nd : X.N.Nodup) (hi : PI X a0 b0 wi) (ok : BlkOk X.N X.env.scope scope own) (hv : ∀ i ∈ vs1, i ∈ own.map (·.2))
    (hg : ∀ (z : Shared) (G : Hp) (C : Addr) (cl : List (Str × Addr)) (fp : List Addr), PG (X.blk z G scope (compEnvC scope cl C X.env) fp) a0 g) (ht : ∀ (z : Shared) (G : Hp) (C : Addr) (cl : List (Str × Addr)) (fp : List Addr), PTs (X.blk z G scope (compEnvC scope cl C X.env) fp) c0 tt)
    (hi1 : ∀ (z : Shared) (G : Hp) (C : Addr) (cl : List (Str × Addr)) (fp : List Addr), PI (X.blk z G scope (compEnvC scope cl C X.env) fp) a1 b1 wi1)
    (hg1 : ∀ (z : Shared) (G : Hp) (C : Addr) (cl : List (Str × Addr)) (fp : List Addr), PG (X.blk z G scope (compEnvC scope cl C X.env) fp) a1 g1)
    (ht1 : ∀ (z : Shared) (G : Hp) (C : Addr) (cl : List (Str × Addr)) (fp : List Addr), PTs (X.blk z G scope (compEnvC scope cl C X.env) fp) c1 tt1)
    (hk : ∀ (z : Shared) (G : Hp) (C : Addr) (cl : List (Str × Addr)) (fp : List Addr), PE (X.blk z G scope (compEnvC scope cl C X.env) fp) kx tk)
    (he : ∀ (z : Shared) (G : Hp) (C : Addr) (cl : List (Str × Addr)) (fp : List Addr), PE (X.blk z G scope (compEnvC scope cl C X.env) fp) vx tv)
    (hs : ∀ x, foldedSetIterable b0 X.env x = pure x := by intro _; rfl) (hs1 : ∀ env x, foldedSetIterable b1 env x = pure x := by intro _ _; rfl) :
    PE X (DC2 kx vx a0 b0 a1 b1 c0 c1 scope pos) (tDc2 wi g tt wi1 g1 tt1 tk tv (own.map (·.2)) vs1) := by
  refine ⟨fun pins z0 σ G0 Q I q0 => ?_⟩
  rw [arm_eval_DictComp]
  refine dc2_core calm nd I hi ok hv hg ht hi1 hg1 ht1 hk he hs hs1 q0 fun D C z m G I' q hn f => ⟨m, hn, fun h'' sb => ?_⟩
  obtain ⟨f0, f1, f2, f3, f4, f5⟩ := f
  exact ⟨.ref D, G, I'.turned (t' := z.toks) (fun b o hb e => (sb.2 b hb).trans e) f0 f1 f3 f4 f5, rfl, q⟩
end
end Zd

set_option Elab.async false
set_option linter.all false
set_option maxRecDepth 100000
set_option maxHeartbeats 1000000
/-! on data: {k: v for .. for ..}; the items of a locked dict; a dict that is locked once it is told -/
namespace Z
open PySem PySem.Spec PyProof.Rows L2 Zd
section
variable {K : PySem.W.Frag} {Γ : Own} {ρ : Z.Env} {tk tv te ta : TE}
theorem en_dc2 {wi wi1 : TI} {g g1 : TG} {js js1 vs vs1 : List Nat} {n : Nat} {m : Nat → Nat} {st : Nat → Z.Env → Z.Env} {st1 : Nat → Nat → Z.Env → Z.Env} {κ ν : Type} [Rp κ] [Flat κ] [Rp ν] [Flat ν] (A : Nat → Nat → List (Key × V)) (h0 : A 0 0 = []) (hz : ∀ i j, i < n → j < m i → (A i j).length ≤ 50000)
    (S : Src K Γ wi g ρ js n st) (hjs : ∀ j ∈ js, j ∈ vs) (S1 : ∀ i, i < n → Src K Γ wi1 g1 (st i (wipeE ρ vs)) js1 (m i) (st1 i)) (hjs1 : ∀ j ∈ js1, j ∈ vs1)
    (hs : ∀ i j, i < n → j < m i → ∃ (x : κ) (y : ν) (k : Key), kV k = Flat.val x ∧ Ev K Γ tk (st1 i j (wipeE (st i (wipeE ρ vs)) vs1)) (Is x) ∧ Ev K Γ tv (st1 i j (wipeE (st i (wipeE ρ vs)) vs1)) (Is y) ∧ A i (j + 1) = putK (A i j) k (Flat.val y))
    (hn : ∀ i, i < n → A (i + 1) 0 = A i (m i)) : EvN K Γ (tDc2 wi g tYes wi1 g1 tYes tk tv vs vs1) ρ (ObIs (.dK (A n 0))) := fun Δ σ H Q s hh e k => S Δ σ H _ s hh e fun J H1 pv pc e1 rp0 hgo hyld => fun D hD => by
  have nD : Δ D = none := e1.2.fresh hD
  have eW : EnvOk K Δ (wipe σ vs) H1 (wipeE ρ vs) := (e.mono e1.1).wipe vs
  have kp : Keep (ghI Δ D (ObIs (.dK []))) H1 (upd H1 D (.dK [])) := fun a o _ q => by rw [upd_ne (ne_of_none q hD)]; exact q
  have W0 : DW K Δ H1 D pv pc (wipe σ vs) (wipeE ρ vs) (.dK (A 0 0)) (upd H1 D (.dK [])) := by
    rw [h0]
    exact ⟨ghI_hold (fun a J _ h => e1.2 a J h) rfl, fun a o ha n h => by rw [upd_ne ha]; exact h, pc.r.mono kp (pc.r.weak (ghI_new hD) rp0), (eW.weak (ghI_new hD)).mono kp⟩
  have wl : (wipeE ρ vs).length = ρ.length := by
    rw [← eW.1, wipe_length]
    exact e.1
  have sD : ∀ o, Sat Γ (ghI Δ D (ObIs o)) := fun o q hq => ghI_sat s nD q (List.mem_cons_of_mem _ hq)
  have hDH : H D = none := Ext.back hh e1 hD
  refine ⟨fun i t H2 => t = n - i ∧ i ≤ n ∧ DW K Δ H1 D pv pc (wipe σ vs) (wipeE ρ vs) (.dK (A i 0)) H2, ⟨n, by simp, Nat.zero_le _, W0⟩, ?_⟩
  rintro i t H2 ⟨rfl, hi, c⟩
  have hg := hgo _ H2 c.src
  by_cases hlt : i < n
  · refine .inr ⟨hg.1 i hlt, fun H3 => DW K Δ H1 D pv pc (wipe σ vs) (wipeE ρ vs) (.dK (A (i + 1) 0)) H3, fun H' c' => ⟨n - (i + 1), by omega, rfl, hlt, c'⟩, fun x H3 hy => ?_⟩
    obtain ⟨e3, hput⟩ := hyld _ i H2 x H3 hlt c.hold c.src hy
    have c3 := c.next e3
    refine hput (wipe σ vs) (wipeE ρ vs) _ wl c3.env fun σ2 env2 hl2 hoff => ⟨wipe_off (by rw [hl2, wipe_length]) hjs hoff, ?_⟩
    change wi1 σ2 H3 _
    refine S1 i hlt _ σ2 H3 _ (sD _) e3.2 env2 fun J1 H4 pv1 pc1 e4 rp1 hgo1 hyld1 => ?_
    have c4 := c3.next e4
    have env4 := (env2.mono e4.1).wipe vs1
    have wl1 : (wipeE (st i (wipeE ρ vs)) vs1).length = (st i (wipeE ρ vs)).length := by
      rw [← env4.1, wipe_length]
      exact env2.1
    have d4 : DW K Δ H1 D pv1 pc1 (wipe σ2 vs1) (wipeE (st i (wipeE ρ vs)) vs1) (.dK (A i 0)) H4 := ⟨c4.hold, c4.keep, rp1, env4⟩
    refine ⟨fun j t H5 => t = m i - j ∧ j ≤ m i ∧ DW K Δ H1 D pv pc (wipe σ vs) (wipeE ρ vs) (.dK (A i j)) H5 ∧ DW K Δ H1 D pv1 pc1 (wipe σ2 vs1) (wipeE (st i (wipeE ρ vs)) vs1) (.dK (A i j)) H5, ⟨m i, by simp, Nat.zero_le _, c4, d4⟩, ?_⟩
    rintro j t H5 ⟨rfl, hj, c5, d5⟩
    have hg1 := hgo1 _ H5 d5.src
    by_cases hlt1 : j < m i
    · refine .inr ⟨hg1.1 j hlt1, fun H6 => DW K Δ H1 D pv pc (wipe σ vs) (wipeE ρ vs) (.dK (A i (j + 1))) H6 ∧ DW K Δ H1 D pv1 pc1 (wipe σ2 vs1) (wipeE (st i (wipeE ρ vs)) vs1) (.dK (A i (j + 1))) H6, fun H' ⟨c', d'⟩ => ⟨m i - (j + 1), by omega, rfl, hlt1, c', d'⟩, fun x1 H6 hy1 => ?_⟩
      obtain ⟨e6, hput1⟩ := hyld1 _ j H5 x1 H6 hlt1 d5.hold d5.src hy1
      have c6 := c5.next e6
      have d6 := d5.next e6
      refine hput1 (wipe σ2 vs1) (wipeE (st i (wipeE ρ vs)) vs1) _ wl1 d6.env fun σ3 env3 hl3 hoff3 => ⟨wipe_off (by rw [hl3, wipe_length]) hjs1 hoff3, ?_⟩
      obtain ⟨x0, y0, k0, hk0, hkx, hvy, hA⟩ := hs i j hlt hlt1
      change tk σ3 H6 _
      refine hkx _ σ3 H6 _ (sD _) e6.2 env3 fun y H7 a pa e7 r7 => ?_
      refine hvy _ σ3 H7 _ (sD _) e7.2 (env3.mono e7.1) fun z H8 b pb e8 r8 => ?_
      have ea : a = x0 := pa
      have eb : b = y0 := pb
      subst ea eb
      have c8 := (c6.next e7).next e8
      have d8 := (d6.next e7).next e8
      refine ⟨A i j, k0, by rw [Flat.iff.mp r7, hk0], ghI_exact c8.hold, Nat.lt_of_le_of_lt (hz i j hlt hlt1) (by decide), ?_, ?_⟩
      · rw [Flat.iff.mp r8, ← hA]
        exact c8.put
      · rw [Flat.iff.mp r8, ← hA]
        exact d8.put
    · have ej : j = m i := by omega
      subst ej
      refine .inl ⟨hg1.2, ?_⟩
      rw [hn i hlt]
      exact c5
  · have ei : i = n := by omega
    subst ei
    refine .inl ⟨hg.2, k D H2 _ rfl hDH nD ⟨fun a o na h => ?_, fun a J h => ?_⟩ (ghI_exact c.hold)⟩
    · have h1 := e1.1 a o na h
      exact c.keep a o (ne_of_none h1 hD) na h1
    · have hne : a ≠ D := fun z => by
        rw [z, nD] at h
        cases h
      exact c.hold a J (by rw [ghI_other hne]; exact h)
/-- the items of a locked dict, each to two names -/
theorem src_items {ja jb : Nat} {d : Addr} {kvs : List (Key × V)} {κ ν : Type} [Rp κ] [Flat κ] [Rp ν] [Flat ν] {x0 : Nat → κ} {y0 : Nat → ν} (h : Ev K Γ te ρ (Is (⟨d, .dK kvs⟩ : Fz))) (hx : ∀ i, i < kvs.length → ∃ k, kvs[i]? = some (k, Flat.val (y0 i)) ∧ kV k = Flat.val (x0 i)) (hja : ja < ρ.length) (hjb : jb < ρ.length) :
    Src K Γ (iItems te) (gTup K 2 (gCons (gName ja) (gCons (gName jb) gNil))) ρ [ja, jb] kvs.length (fun i ρ => (ρ.set ja (some ⟨x0 i⟩)).set jb (some ⟨y0 i⟩)) := fun Δ σ H R s hh e k =>
  h Δ σ H _ s hh e fun v H' a pa e1 r => by
    have ea : a = ⟨d, .dK kvs⟩ := pa
    subst ea
    obtain ⟨ev, n, od, hd⟩ := id r
    refine ⟨d, od, kvs, ev, hd, k _ H' v ⟨(⟨d, .dK kvs, od⟩ : Fzo)⟩ e1 ⟨ev, n, hd⟩ (fun Δ' H2 r2 => ?_) fun Δ' i H2 x H3 hi h2 r2 y => ?_⟩
    · obtain ⟨_, _, hd2⟩ := (show Rp.rp K Δ' H2 v (⟨d, .dK kvs, od⟩ : Fzo) from r2)
      exact ⟨fun i hi => ⟨hd2, hi⟩, hd2, Nat.le_refl _⟩
    · obtain ⟨T, kk, vv, hkv, rfl, hT, e3⟩ := (show ∃ T kk vv, kvs[i]? = some (kk, vv) ∧ x = .ref T ∧ H2 T = none ∧ H3 = upd H2 T (.tup [kV kk, vv]) from by
        obtain ⟨q, kk, vv, hkv, ex, hq, e3⟩ := y
        exact ⟨q, kk, vv, hkv, ex, hq, e3⟩)
      obtain ⟨k2, hk2, ek2⟩ := hx i hi
      have e4 := Prod.mk.inj (Option.some.inj (hkv.symm.trans hk2))
      have ek3 : kV kk = Flat.val (x0 i) := by rw [e4.1]; exact ek2
      have ev3 : vv = Flat.val (y0 i) := e4.2
      subst ev3
      refine ⟨by rw [e3]; exact Ext.new h2 hT _, fun σ' ρ' Qs hl e' q => ?_⟩
      exact pair_put (ca := ⟨x0 i⟩) (cb := ⟨y0 i⟩) e3 (show Rp.rp K Δ' H3 (kV kk) (x0 i) from Flat.iff.mpr ek3) (show Rp.rp K Δ' H3 _ (y0 i) from Flat.iff.mpr rfl) (by rw [hl]; exact hja) (by rw [hl]; exact hjb) e' q
end
end Z
namespace L2
open PySem PySem.Spec PyProof.Rows Zd
section
variable {X : Cx}
/-- y = {k: v for .. for ..}, y a plain local name -/
theorem ps_setDc2 {i : Nat} {y : Str} {py : Pos} {kx vx a0 b0 a1 b1 : Expr} {c0 c1 : List Expr} {scope : Scope} {own : List (Str × Nat)} {vs1 : List Nat} {pos spos : Pos} {wi wi1 : TI} {g g1 : TG} {tt tt1 : TT} {tk tv : TE} (calm : X.calm = true) (nd : X.N.Nodup) (hy : X.N[i]? = some y) (hyl : X.env.scope.names.lookup y = some .local)
    (hsw : swapsWith (DC2 kx vx a0 b0 a1 b1 c0 c1 scope pos) (some (.Name y py)) spos.line X.env = pure true) (hi : PI X a0 b0 wi) (ok : BlkOk X.N X.env.scope scope own) (hv : ∀ i ∈ vs1, i ∈ own.map (·.2))
    (hg : ∀ (z : Shared) (G : Hp) (C : Addr) (cl : List (Str × Addr)) (fp : List Addr), PG (X.blk z G scope (compEnvC scope cl C X.env) fp) a0 g) (ht : ∀ (z : Shared) (G : Hp) (C : Addr) (cl : List (Str × Addr)) (fp : List Addr), PTs (X.blk z G scope (compEnvC scope cl C X.env) fp) c0 tt)
    (hi1 : ∀ (z : Shared) (G : Hp) (C : Addr) (cl : List (Str × Addr)) (fp : List Addr), PI (X.blk z G scope (compEnvC scope cl C X.env) fp) a1 b1 wi1)
    (hg1 : ∀ (z : Shared) (G : Hp) (C : Addr) (cl : List (Str × Addr)) (fp : List Addr), PG (X.blk z G scope (compEnvC scope cl C X.env) fp) a1 g1)
    (ht1 : ∀ (z : Shared) (G : Hp) (C : Addr) (cl : List (Str × Addr)) (fp : List Addr), PTs (X.blk z G scope (compEnvC scope cl C X.env) fp) c1 tt1)
    (hk : ∀ (z : Shared) (G : Hp) (C : Addr) (cl : List (Str × Addr)) (fp : List Addr), PE (X.blk z G scope (compEnvC scope cl C X.env) fp) kx tk)
    (he : ∀ (z : Shared) (G : Hp) (C : Addr) (cl : List (Str × Addr)) (fp : List Addr), PE (X.blk z G scope (compEnvC scope cl C X.env) fp) vx tv)
    (hs : ∀ x, foldedSetIterable b0 X.env x = pure x := by intro _; rfl) (hs1 : ∀ env x, foldedSetIterable b1 env x = pure x := by intro _ _; rfl) :
    PS X (.Assign [.Name y py] (DC2 kx vx a0 b0 a1 b1 c0 c1 scope pos) spos) (tAsg (tDc2 wi g tt wi1 g1 tt1 tk tv (own.map (·.2)) vs1) (gName i)) := by
  refine ⟨fun pins z0 σ G0 D I q => ?_⟩
  have q0 : tDc2 wi g tt wi1 g1 tt1 tk tv (own.map (·.2)) vs1 σ G0 (fun x G1 => gName i x σ G1 D.nx) := q
  rw [exec_Assign_Name_used _ _ _ _ hsw]
  refine wpAny_bind (wpAny_standAt (wpAny_bind ?_))
  show wpAny _ X.A (do let _ ← comprehension (DC2 kx vx a0 b0 a1 b1 c0 c1 scope pos) scope X.env (firstIterPos [⟨a0, b0, c0, 0⟩, ⟨a1, b1, c1, 0⟩] pos) newDict false (eval b0 X.env) (some (assign (.Name y py) X.env))) _ _ z0
  refine wpAny_bind (thn (dc2_core (Qf := fun _ z => SP X pins D .next z) calm nd I hi ok hv hg ht hi1 hg1 ht1 hk he hs hs1 q0 fun L C z m G I' q2 hn f => ?_) fun _ z e => wpAny_pure (wpAny_pure e))
  obtain ⟨f0, f1, f2, f3, f4, f5⟩ := f
  show wpAny _ _ (assign (.Name y py) X.env (.ref L)) _ _ _
  refine wpAny_assign_Name (store_ok2 (v := V.ref L) I' nd hy (.inl hyl) rfl (fun z2 I2 ⟨a, sb, ha⟩ => ?_) (.inr hyl))
  have hne : C ≠ a := ha.elim (fun e => by rw [e]; exact f1) fun e1 e2 => f4 y a e1 e2.symm
  exact ⟨m, hn.sameBut sb hne, fun h3 sb3 => ⟨_, G, I2.turned (t' := z2.toks) (fun b o hb e => (sb3.2 b hb).trans e) f0 f1 f3 f4 f5, q2⟩⟩
end
end L2

set_option Elab.async false
set_option linter.all false
set_option maxRecDepth 100000
set_option maxHeartbeats 1000000
/-! defs that hand back a new object told by their arguments; range(a, b); {k: v} -/
namespace Z
open PySem PySem.Spec PyProof.Rows L2 Zd
def spX (K : PySem.W.Frag) (G : Own → List Cell → (HO → Prop) → Prop) : Sp := fun vs H Q _ => ∃ (Γ : Own) (Δ : Gh) (cs : List Cell) (I : HO → Prop), G Γ cs I ∧ Sat Γ Δ ∧ Hold Δ H ∧ ArgsOk K Δ H vs cs ∧
  ∀ (p : Addr) (H' : Hp) (o : HO), I o → H p = none → Δ p = none → Ext Δ H H' → H' p = some o → Q (.ref p) H'
section
variable {P : Program} {w : World} {K : PySem.W.Frag} {mg : Str → Option Value} {base : Heap}
theorem def_okX {x qual : Str} {args : Arguments} {body : List Stmt} {scope : Scope} {dvs : List V} {kws : List (Str × V)} {f : Addr} {fd : FuncData} {N ps : List Str} {k : Nat} {G : Own → List Cell → (HO → Prop) → Prop}
    (Fn : FunD K x qual args body scope dvs kws f fd) (S : FnScope N ps scope) (len : ∀ Γ cs I, G Γ cs I → cs.length = ps.length)
    (hb : ∀ (cdv : Value) (A : Around) (outer : List PySem.Env) (s : Shared) (H : Hp) (E : XK), Room k (A.deeper (envOfC qual scope s.heap.objs.size f cdv)) →
      ∀ (Γ : Own) (cs : List Cell) (I : HO → Prop), G Γ cs I → ∃ t, PSs (cxOf CX0 P w K mg base N qual scope f cdv A outer s H E).nox body t ∧
        ∀ (Δ0 : Gh) (D : Ends), FinF Δ0 H I D → Wp K Δ0 H Γ [] (env0 N cs) t D) :
    FnOk P w K mg base CX0 (k + 1) f fd ps (spX K G) := by
  refine Fn.ok S (fun vs H Q E h => ?_) (fun cdv A outer s H vs Q E hr h => ?_)
  · obtain ⟨Γ, Δ, cs, I, g, _, _, a, _⟩ := h
    rw [All2.len a]
    exact len Γ cs I g
  · obtain ⟨Γ, Δ, cs, I, g, sa, hh, a, q⟩ := h
    obtain ⟨t, ht, hw⟩ := hb cdv A outer s H E hr Γ cs I g
    refine ⟨t, ?_, hw Δ _ (fun p H' o io h1 h2 e ho => q p H' o io h1 h2 e ho) _ H ⟨Δ, sa, hh, start_ok a, fun z hz => (nomatch hz), Ext.refl hh, fun _ _ z => z, fun x n m => absurd n m⟩⟩
    first
      | exact ht
      | exact PSs.nox ht
end
section
variable {K : PySem.W.Frag} {Δ0 : Gh} {H0 : Hp} {Γ : Own} {F : List (V × Cell)} {ρ : Z.Env} {te : TE} {ta : TA} {D : Ends}
/-- f(..) of such a def -/
theorem en_callX {G : Own → List Cell → (HO → Prop) → Prop} {I : HO → Prop} {E : XK} {cs : List Cell} (ha : EvA K Γ ta ρ (Is cs)) (hg : G Γ cs I) : EvN K Γ (tCall (spX K G) [] E ta) ρ I := fun Δ σ H Q s hh e k =>
  ha Δ σ H _ s hh e fun vs H1 cs' pcs e1 r => by
    have ec : cs' = cs := pcs
    subst ec
    exact ⟨Γ, Δ, cs', I, hg, s, e1.2, by rw [List.append_nil]; exact r, fun p H2 o io hp hΔ e2 ho => k p H2 o io (Ext.back hh e1 hp) hΔ (e1.trans e2) ho⟩
/-- return an object of one's own -/
theorem wp_retO {d : Addr} {o : HO} {I : HO → Prop} (ow : OwnP Δ0 Γ d) (hf : FinF Δ0 H0 I D) (hi : I o) (ho : Ev K ((d, ObIs o) :: Γ) te ρ (Is (⟨d⟩ : Loc))) : Wp K Δ0 H0 ((d, ObIs o) :: Γ) F ρ (tRet te) D := fun σ H ⟨Δ, s, hh, e, f, e0, s1, s2⟩ =>
  ho Δ σ H _ s hh e fun v H1 a pa e1 r => by
    have ea : a = ⟨d⟩ := pa
    subst ea
    have ev : v = .ref d := r
    subst ev
    have hd : Δ d = some (ObIs o) := s _ List.mem_cons_self
    obtain ⟨u, hu, iu⟩ := e1.2 d _ hd
    have eu : u = o := iu
    subst eu
    exact hf d H1 u hi (s2 d ow.n0 (by rw [hd]; exact fun z => by cases z)) ow.n0 (ext0 e0 s1 s2 e1) hu
/-- range(a, b) -/
theorem src_rng2 {j lo n : Nat} (h : EvA K Γ ta ρ (Is [⟨(lo : Int)⟩, ⟨((lo + n : Nat) : Int)⟩])) (hn : lo + n ≤ 100000) (hj : j < ρ.length) : Src K Γ (iRng2 ta) (gName j) ρ [j] n (fun i ρ => ρ.set j (some ⟨((lo + i : Nat) : Int)⟩)) := fun Δ σ H R s hh e k =>
  h Δ σ H _ s hh e fun vs H' cs pcs e1 r => by
    have ec : cs = [⟨(lo : Int)⟩, ⟨((lo + n : Nat) : Int)⟩] := pcs
    subst ec
    match vs, r with
    | [v, w], r =>
      have ev : v = .int lo := r.1
      have ew : w = .int ((lo + n : Nat) : Int) := r.2.1
      subst ev ew
      have en : (((lo + n : Nat) : Int) - (lo : Int)).toNat = n := by omega
      refine ⟨lo, _, rfl, ⟨by omega, by omega, by omega, by omega⟩, ?_⟩
      rw [en]
      refine k _ H' .non ⟨()⟩ e1 rfl (fun Δ' H2 _ => ⟨fun i hi => hi, Nat.le_refl _⟩) fun Δ' i H2 x H3 hi h2 _ y => ?_
      obtain ⟨rfl, rfl⟩ := (show H3 = H2 ∧ x = V.int ((lo : Int) + (i : Int)) from y)
      refine ⟨Ext.refl h2, fun σ' ρ' Qs hl e' q => ?_⟩
      have e3 : (lo : Int) + (i : Int) = ((lo + i : Nat) : Int) := by omega
      rw [e3]
      exact q _ (e'.set (c := ⟨((lo + i : Nat) : Int)⟩) (by rw [hl]; exact hj) rfl) (set_off (js := [j]) (List.mem_singleton_self j)).1 (set_off (js := [j]) (List.mem_singleton_self j)).2
/-- {k: v}, both plain -/
theorem en_disp1 {tk tv : TE} {κ ν : Type} [Rp κ] [Flat κ] [Rp ν] [Flat ν] {x : κ} {y : ν} {k0 : Key} (hk : kV k0 = Flat.val x) (h1 : Ev K Γ tk ρ (Is x)) (h2 : Ev K Γ tv ρ (Is y)) : EvN K Γ (tDisp [(tk, tv)]) ρ (ObIs (.dK [(k0, Flat.val y)])) := fun Δ σ H Q s hh e k => fun p hp => by
  have e0 := Ext.new hh hp (.dK [])
  have nD : Δ p = none := hh.fresh hp
  refine h1 Δ σ _ _ s e0.2 (e.mono e0.1) fun v H1 a pa e1 r1 => h2 Δ σ H1 _ s e1.2 ((e.mono e0.1).mono e1.1) fun w H2 b pb e2 r2 => ?_
  have ea : a = x := pa
  have eb : b = y := pb
  subst ea eb
  have hd : H2 p = some (.dK []) := e2.1 _ _ nD (e1.1 _ _ nD upd_same)
  refine ⟨hd, [(k0, Flat.val b)], by rw [Flat.iff.mp r1, Flat.iff.mp r2, ← hk]; rfl, by show 1 ≤ 15; decide, ?_⟩
  refine k p _ _ rfl hp nD ⟨fun q o n hq => ?_, fun q J hq => ?_⟩ upd_same
  · have hne : q ≠ p := ne_of_none hq hp
    rw [upd_ne hne]
    exact (e1.trans e2).1 q o n (e0.1 q o n hq)
  · have hne : q ≠ p := fun z => by rw [z, nD] at hq; cases hq
    rw [upd_ne hne]
    exact e2.2 q J hq
end
end Z

set_option Elab.async false
set_option linter.all false
set_option maxRecDepth 100000
set_option maxHeartbeats 1000000
/-! an object that an expression gives, kept still from there on; dict.update -/
namespace L2
open PySem PySem.Spec PyProof.Rows
section
variable {X : Cx} {e : Expr} {te : TE}
/-- the objects at ds, kept still one after the other -/
def tLocks (Q : Hp → Prop) : List Addr → Hp → Prop
  | [], H => Q H
  | d :: ds, H => ∃ u, H d = some u ∧ Mut (some u) ∧ ∀ od, tLocks Q ds (upd H d (.frz od u))
theorem Inv.locks {pins : List (Addr × Obj)} {σ : St} {s : Shared} {Q : Hp → Prop} : ∀ (ds : List Addr) (H : Hp), Inv X pins σ H s → tLocks Q ds H → ∃ H', Inv X pins σ H' s ∧ Q H'
  | [], H, I, h => ⟨H, I, h⟩
  | d :: ds, H, I, ⟨u, hd, mu, h⟩ => by
    obtain ⟨od, I2⟩ := I.lock hd mu
    exact Inv.locks ds _ I2 (h od)
def tFrzs (te : TE) : TE := fun σ H Q => te σ H fun x H1 => ∃ ds, tLocks (Q x) ds H1
theorem pe_frzs (h : PE X e te) : PE X e (tFrzs te) := by
  refine ⟨fun pins s σ H Q I hw => ?_⟩
  refine thn (h.run pins s σ H _ I hw) fun v s1 ⟨x, H1, I1, r, ds, q⟩ => ?_
  obtain ⟨H2, I2, q2⟩ := Inv.locks ds H1 I1 q
  exact ⟨x, H2, I2, r, q2⟩
/-- d.update(b), both tables -/
def rUpd : V → List V → Hp → VK → Prop := fun x xs H Q => ∃ (a b : Addr) (kvs more : List (Key × V)), x = .ref a ∧ xs = [.ref b] ∧ a ≠ b ∧ H a = some (.dK kvs) ∧ H b = some (.dK more) ∧ kvs.length + more.length ≤ sizeLine ∧ Q .non (upd H a (.dK (mergeK kvs more)))
theorem mt_upd : MtR X "dict.update" rUpd := by
  intro pins s σ H x xs v us Q I rx rxs h
  obtain ⟨a, b, kvs, more, rfl, rfl, ne, ha, hb, hl, q⟩ := h
  cases rx
  cases rxs with
  | cons ry rt =>
    cases rt
    cases ry
    obtain ⟨z, hd, vs, rel, dd⟩ := dk_of I.hok ha
    obtain ⟨z2, hd2, ws, rel2, dd2⟩ := dk_of I.hok hb
    refine call_meetsIn PySem.F.slot_dict_update dd.typeIs PySem.F.entry_dict_update (PySem.F.args_dict_update_2 _ _) (meets_dict_update (mixKind X.prog X.w) a b ne hd2) ⟨vs, ws, dd, dd2, ?_, fun h' dd' _ hs => ?_⟩
    · rw [← rel.length, ← rel2.length]
      exact hl
    · have he : ∃ q, h'.get? a = some q := let ⟨q, _, _, hq, _⟩ := dd'; ⟨q, hq⟩
      exact ⟨.non, _, d_write (t' := s.toks) I (by rw [ha]; exact True.intro) hs he (dk_new (Nat.le_trans (length_mergeK more kvs) hl) hd (KV.merge rel2 rel) dd'), rfl, q⟩
end
end L2

set_option Elab.async false
set_option linter.all false
set_option maxRecDepth 100000
set_option maxHeartbeats 1000000
/-! a dict of one's own whose values are objects of one's own: looked up, setdefault, kept still -/
namespace Z
open PySem PySem.Spec PyProof.Rows L2
instance : Flat Loc := ⟨fun a => V.ref a.p, Iff.rfl⟩
section
variable {K : PySem.W.Frag} {Δ0 : Gh} {H0 : Hp} {Γ Γ' : Own} {F : List (V × Cell)} {ρ : Z.Env} {te ta tk tx : TE} {σ : L2.St} {H : Hp} {D : Ends}
theorem stt_mem (h : ∀ q ∈ Γ', q ∈ Γ) (st : Stt K Δ0 H0 Γ F ρ σ H) : Stt K Δ0 H0 Γ' F ρ σ H := by
  obtain ⟨Δ, s, r⟩ := st
  exact ⟨Δ, fun q hq => s q (h q hq), r⟩
theorem wp_mem {t : TS} (h : ∀ q ∈ Γ', q ∈ Γ) (w : Wp K Δ0 H0 Γ' F ρ t D) : Wp K Δ0 H0 Γ F ρ t D := fun σ H st => w σ H (stt_mem h st)
theorem ev_run {α : Type} [Rp α] [Flat α] {a : α} {Q : V → Hp → Prop} (h : Ev K Γ te ρ (Is a)) (st : Stt K Δ0 H0 Γ F ρ σ H) (k : ∀ H', Stt K Δ0 H0 Γ F ρ σ H' → Q (Flat.val a) H') : te σ H Q := by
  obtain ⟨Δ, s, hh, e, f, e0, s1, s2⟩ := st
  refine h Δ σ H Q s hh e fun v H1 b pb e1 r1 => ?_
  have eb : b = a := pb
  subst eb
  rw [Flat.iff.mp r1]
  exact k H1 ⟨Δ, s, e1.2, e.mono e1.1, fun q hq => q.2.r.mono e1.1 (f q hq), ext0 e0 s1 s2 e1, s1, s2⟩
theorem stt_cell {d : Addr} {o : HO} (h : (d, ObIs o) ∈ Γ) (st : Stt K Δ0 H0 Γ F ρ σ H) : H d = some o := by
  obtain ⟨Δ, s, hh, _⟩ := st
  obtain ⟨u, hu, iu⟩ := hh d _ (s _ h)
  have e : u = o := iu
  rw [hu, e]
/-- an object that nobody names, laid beside -/
theorem stt_junk {p : Addr} {o : HO} (hp : H p = none) (st : Stt K Δ0 H0 Γ F ρ σ H) : Stt K Δ0 H0 Γ F ρ σ (upd H p o) := by
  obtain ⟨Δ, s, hh, e, f, e0, s1, s2⟩ := st
  have e1 := Ext.new hh hp o
  exact ⟨Δ, s, e1.2, e.mono e1.1, fun q hq => q.2.r.mono e1.1 (f q hq), ext0 e0 s1 s2 e1, s1, s2⟩
theorem stt_new {p : Addr} {o : HO} (hp : H p = none) (st : Stt K Δ0 H0 Γ F ρ σ H) : OwnP Δ0 Γ p ∧ Stt K Δ0 H0 ((p, ObIs o) :: Γ) F ρ σ (upd H p o) := by
  obtain ⟨Δ, s, hh, e, f, e0, s1, s2⟩ := st
  exact own_newO s hh e f e0 s1 s2 hp
abbrev Ent := Nat × Addr × List Nat
def outV (es : List Ent) : List (Key × V) := es.map fun e => (.inl ((e.1 : Nat) : Int), .ref e.2.1)
def OwnN (g : Addr) (ob : List Nat → HO) (es : List Ent) (Γ : Own) : Own := (g, ObIs (.dK (outV es))) :: (es.map (fun e => (e.2.1, ObIs (ob e.2.2))) ++ Γ)
structure NestP (Δ0 : Gh) (Γ : Own) (g : Addr) (es : List Ent) : Prop where
  g0 : OwnP Δ0 Γ g
  a0 : ∀ e ∈ es, OwnP Δ0 Γ e.2.1 ∧ e.2.1 ≠ g
  nd : (es.map (·.2.1)).Nodup
  kd : (es.map (·.1)).Nodup
theorem ownN_g {g : Addr} {ob : List Nat → HO} {es : List Ent} : (g, ObIs (.dK (outV es))) ∈ OwnN g ob es Γ := List.mem_cons_self
theorem ownN_e {g : Addr} {ob : List Nat → HO} {es : List Ent} {e : Ent} (h : e ∈ es) : (e.2.1, ObIs (ob e.2.2)) ∈ OwnN g ob es Γ := List.mem_cons_of_mem _ (List.mem_append_left _ (List.mem_map.mpr ⟨e, h, rfl⟩))
theorem outV_get {es : List Ent} {e : Ent} (kd : (es.map (·.1)).Nodup) (h : e ∈ es) : valV (outV es) (.inl ((e.1 : Nat) : Int) : Key) = some (.ref e.2.1) := by
  induction es with
  | nil => cases h
  | cons x xs ih =>
    rw [List.map_cons, List.nodup_cons] at kd
    rcases List.mem_cons.mp h with z | z
    · subst z
      exact valV_pos rfl
    · show valV ((.inl ((x.1 : Nat) : Int), .ref x.2.1) :: outV xs) _ = _
      rw [valV_neg fun q => kd.1 (by
        have e1 : ((x.1 : Nat) : Int) = ((e.1 : Nat) : Int) := Sum.inl.inj q
        have e2 : x.1 = e.1 := by omega
        rw [e2]
        exact List.mem_map.mpr ⟨e, z, rfl⟩)]
      exact ih kd.2 z
theorem outV_none {es : List Ent} {k : Nat} (h : k ∉ es.map (·.1)) : valV (outV es) (.inl ((k : Nat) : Int) : Key) = none := by
  induction es with
  | nil => rfl
  | cons x xs ih =>
    rw [List.map_cons, List.mem_cons, not_or] at h
    show valV ((.inl ((x.1 : Nat) : Int), .ref x.2.1) :: outV xs) _ = _
    rw [valV_neg fun q => h.1 (by
      have e1 : ((x.1 : Nat) : Int) = ((k : Nat) : Int) := Sum.inl.inj q
      omega)]
    exact ih h.2
theorem outV_put {es : List Ent} {k : Nat} {p : Addr} {cs : List Nat} (h : k ∉ es.map (·.1)) : putK (outV es) (.inl ((k : Nat) : Int)) (.ref p) = outV (es ++ [(k, p, cs)]) := by
  have ha : ((outV es).any fun kv => decide (kv.1 = (.inl ((k : Nat) : Int) : Key))) = false := by
    rw [List.any_eq_false]
    intro kv hk
    obtain ⟨y, hy, rfl⟩ := List.mem_map.mp hk
    intro e
    have e2 : ((y.1 : Nat) : Int) = ((k : Nat) : Int) := Sum.inl.inj (of_decide_eq_true e)
    have e3 : y.1 = k := by omega
    exact h (by rw [← e3]; exact List.mem_map.mpr ⟨y, hy, rfl⟩)
  unfold putK
  rw [ha, if_neg Bool.false_ne_true]
  unfold outV
  rw [List.map_append]
  rfl
/-- one inner object changed -/
theorem nest_set {g a : Addr} {ob : List Nat → HO} {l r : List Ent} {k : Nat} {cs cs' : List Nat} (np : NestP Δ0 Γ g (l ++ (k, a, cs) :: r)) (st : Stt K Δ0 H0 (OwnN g ob (l ++ (k, a, cs) :: r) Γ) F ρ σ H) :
    NestP Δ0 Γ g (l ++ (k, a, cs') :: r) ∧ Stt K Δ0 H0 (OwnN g ob (l ++ (k, a, cs') :: r) Γ) F ρ σ (upd H a (ob cs')) := by
  have eo : outV (l ++ (k, a, cs') :: r) = outV (l ++ (k, a, cs) :: r) := by
    unfold outV
    rw [List.map_append, List.map_append]
    rfl
  have nd := np.nd
  rw [List.map_append, List.map_cons, List.nodup_append] at nd
  have ow : OwnP Δ0 ((g, ObIs (.dK (outV (l ++ (k, a, cs) :: r)))) :: ((l ++ r).map (fun e => (e.2.1, ObIs (ob e.2.2))) ++ Γ)) a := by
    have h0 := np.a0 (k, a, cs) (List.mem_append_right _ List.mem_cons_self)
    refine ⟨h0.1.n0, fun q hq => ?_⟩
    rcases List.mem_cons.mp hq with z | z
    · rw [z]
      exact fun w => h0.2 w.symm
    · rcases List.mem_append.mp z with z | z
      · obtain ⟨e, he, rfl⟩ := List.mem_map.mp z
        intro w
        have w' : e.2.1 = a := w
        rcases List.mem_append.mp he with y | y
        · exact nd.2.2 e.2.1 (List.mem_map.mpr ⟨e, y, rfl⟩) a List.mem_cons_self w'
        · exact (List.nodup_cons.mp nd.2.1).1 (by rw [← w']; exact List.mem_map.mpr ⟨e, y, rfl⟩)
      · exact h0.1.ne q z
  refine ⟨⟨np.g0, fun e he => ?_, ?_, ?_⟩, ?_⟩
  · rcases List.mem_append.mp he with y | y
    · exact np.a0 e (List.mem_append_left _ y)
    · rcases List.mem_cons.mp y with y | y
      · rw [y]
        exact np.a0 (k, a, cs) (List.mem_append_right _ List.mem_cons_self)
      · exact np.a0 e (List.mem_append_right _ (List.mem_cons_of_mem _ y))
  · have := np.nd
    rw [List.map_append] at this ⊢
    exact this
  · have := np.kd
    rw [List.map_append] at this ⊢
    exact this
  · have st1 : Stt K Δ0 H0 ((a, ObIs (ob cs)) :: ((g, ObIs (.dK (outV (l ++ (k, a, cs) :: r)))) :: ((l ++ r).map (fun e => (e.2.1, ObIs (ob e.2.2))) ++ Γ))) F ρ σ H := by
      refine stt_mem (fun q hq => ?_) st
      rcases List.mem_cons.mp hq with z | z
      · rw [z]
        exact ownN_e (e := (k, a, cs)) (List.mem_append_right _ List.mem_cons_self)
      · rcases List.mem_cons.mp z with z | z
        · rw [z]
          exact ownN_g
        · rcases List.mem_append.mp z with z | z
          · obtain ⟨e, he, rfl⟩ := List.mem_map.mp z
            refine ownN_e ?_
            rcases List.mem_append.mp he with y | y
            · exact List.mem_append_left _ y
            · exact List.mem_append_right _ (List.mem_cons_of_mem _ y)
          · exact List.mem_cons_of_mem _ (List.mem_append_right _ z)
    have st2 := (own_putO (o2 := ob cs') ow st1).2
    refine stt_mem (fun q hq => ?_) st2
    unfold OwnN at hq
    rw [eo] at hq
    rcases List.mem_cons.mp hq with z | z
    · rw [z]
      exact List.mem_cons_of_mem _ List.mem_cons_self
    · rcases List.mem_append.mp z with z | z
      · obtain ⟨e, he, rfl⟩ := List.mem_map.mp z
        rcases List.mem_append.mp he with y | y
        · exact List.mem_cons_of_mem _ (List.mem_cons_of_mem _ (List.mem_append_left _ (List.mem_map.mpr ⟨e, List.mem_append_left _ y, rfl⟩)))
        · rcases List.mem_cons.mp y with y | y
          · rw [y]
            exact List.mem_cons_self
          · exact List.mem_cons_of_mem _ (List.mem_cons_of_mem _ (List.mem_append_left _ (List.mem_map.mpr ⟨e, List.mem_append_right _ y, rfl⟩)))
      · exact List.mem_cons_of_mem _ (List.mem_cons_of_mem _ (List.mem_append_right _ z))
/-- one more inner object -/
theorem nest_add {g p : Addr} {ob : List Nat → HO} {es : List Ent} {k : Nat} {cs : List Nat} (np : NestP Δ0 Γ g es) (st : Stt K Δ0 H0 (OwnN g ob es Γ) F ρ σ H) (hp : OwnP Δ0 (OwnN g ob es Γ) p) (hk : k ∉ es.map (·.1))
    (st1 : Stt K Δ0 H0 ((p, ObIs (ob cs)) :: OwnN g ob es Γ) F ρ σ H) :
    NestP Δ0 Γ g (es ++ [(k, p, cs)]) ∧ Stt K Δ0 H0 (OwnN g ob (es ++ [(k, p, cs)]) Γ) F ρ σ (upd H g (.dK (outV (es ++ [(k, p, cs)])))) := by
  have pg : g ≠ p := hp.ne _ ownN_g
  have pe : ∀ e ∈ es, e.2.1 ≠ p := fun e he => hp.ne _ (ownN_e (ob := ob) he)
  have pΓ : OwnP Δ0 Γ p := ⟨hp.n0, fun q hq => hp.ne q (List.mem_cons_of_mem _ (List.mem_append_right _ hq))⟩
  have ow : OwnP Δ0 ((p, ObIs (ob cs)) :: (es.map (fun e => (e.2.1, ObIs (ob e.2.2))) ++ Γ)) g := by
    refine ⟨np.g0.n0, fun q hq => ?_⟩
    rcases List.mem_cons.mp hq with z | z
    · rw [z]
      exact fun w => pg w.symm
    · rcases List.mem_append.mp z with z | z
      · obtain ⟨e, he, rfl⟩ := List.mem_map.mp z
        exact (np.a0 e he).2
      · exact np.g0.ne q z
  refine ⟨⟨np.g0, fun e he => ?_, ?_, ?_⟩, ?_⟩
  · rcases List.mem_append.mp he with y | y
    · exact np.a0 e y
    · rw [List.mem_singleton.mp y]
      exact ⟨pΓ, fun w => pg w.symm⟩
  · rw [List.map_append, List.nodup_append]
    refine ⟨np.nd, List.nodup_cons.mpr ⟨List.not_mem_nil, List.nodup_nil⟩, fun x hx y hy => ?_⟩
    obtain ⟨e, he, rfl⟩ := List.mem_map.mp hx
    rw [List.mem_singleton.mp hy]
    exact pe e he
  · rw [List.map_append, List.nodup_append]
    refine ⟨np.kd, List.nodup_cons.mpr ⟨List.not_mem_nil, List.nodup_nil⟩, fun x hx y hy w => ?_⟩
    rw [List.mem_singleton.mp hy] at w
    exact hk (by rw [w] at hx; exact hx)
  · have st2 : Stt K Δ0 H0 ((g, ObIs (.dK (outV es))) :: ((p, ObIs (ob cs)) :: (es.map (fun e => (e.2.1, ObIs (ob e.2.2))) ++ Γ))) F ρ σ H := by
      refine stt_mem (fun q hq => ?_) st1
      rcases List.mem_cons.mp hq with z | z
      · rw [z]
        exact List.mem_cons_of_mem _ ownN_g
      · rcases List.mem_cons.mp z with z | z
        · rw [z]
          exact List.mem_cons_self
        · exact List.mem_cons_of_mem _ (List.mem_cons_of_mem _ z)
    have st3 := (own_putO (o2 := .dK (outV (es ++ [(k, p, cs)]))) ow st2).2
    refine stt_mem (fun q hq => ?_) st3
    rcases List.mem_cons.mp hq with z | z
    · rw [z]
      exact List.mem_cons_self
    · rcases List.mem_append.mp z with z | z
      · obtain ⟨e, he, rfl⟩ := List.mem_map.mp z
        rcases List.mem_append.mp he with y | y
        · exact List.mem_cons_of_mem _ (List.mem_cons_of_mem _ (List.mem_append_left _ (List.mem_map.mpr ⟨e, y, rfl⟩)))
        · rw [List.mem_singleton.mp y]
          exact List.mem_cons_of_mem _ List.mem_cons_self
      · exact List.mem_cons_of_mem _ (List.mem_cons_of_mem _ (List.mem_append_right _ z))
/-- g.setdefault(k, new) -/
theorem setd_run {g : Addr} {ob : List Nat → HO} {es : List Ent} {k : Nat} {cs0 : List Nat} {Q : V → Hp → Prop} (np : NestP Δ0 Γ g es) (st : Stt K Δ0 H0 (OwnN g ob es Γ) F ρ σ H) (hl : es.length < 50000)
    (ho : Ev K (OwnN g ob es Γ) ta ρ (Is (⟨g⟩ : Loc))) (hk : Ev K (OwnN g ob es Γ) tk ρ (Is (k : Int))) (hx : ∀ (H : Hp) (R : V → Hp → Prop), (∀ p, H p = none → R (.ref p) (upd H p (ob cs0))) → tx σ H R)
    (q : ∀ (l r : List Ent) (p : Addr) (cs : List Nat) (H' : Hp), NestP Δ0 Γ g (l ++ (k, p, cs) :: r) → Stt K Δ0 H0 (OwnN g ob (l ++ (k, p, cs) :: r) Γ) F ρ σ H' → (l ++ (k, p, cs) :: r = es ∨ (l = es ∧ r = [] ∧ cs = cs0 ∧ k ∉ es.map (·.1))) → Q (.ref p) H') :
    tDSetd ta tk tx σ H Q := by
  unfold tDSetd
  refine ev_run (te := ta) ho st fun H1 st1 => ⟨g, rfl, .inl ⟨_, .inl (stt_cell ownN_g st1)⟩, ?_⟩
  refine ev_run (te := tk) hk st1 fun H2 st2 => hx _ _ fun p hp => ?_
  have c2 := stt_cell ownN_g st2
  have gp : g ≠ p := fun z => by rw [z, hp] at c2; cases c2
  refine ⟨outV es, .inl ((k : Nat) : Int), by rw [upd_ne gp]; exact c2, rfl, ?_, fun v hv => ?_, fun hn => ?_⟩
  · unfold outV
    rw [List.length_map]
    exact Nat.lt_trans hl (by decide)
  · by_cases hm : k ∈ es.map (·.1)
    · obtain ⟨e, he, rfl⟩ := List.mem_map.mp hm
      rw [outV_get np.kd he] at hv
      cases hv
      obtain ⟨l, r, el⟩ := List.append_of_mem he
      obtain ⟨k0, p0, cs⟩ := e
      have e1 : es = l ++ (k0, p0, cs) :: r := el
      refine q l r p0 cs _ ?_ ?_ (.inl e1.symm)
      · rw [← e1]
        exact np
      · rw [← e1]
        exact stt_junk hp st2
    · rw [outV_none hm] at hv
      cases hv
  · have hm : k ∉ es.map (·.1) := fun z => by
      obtain ⟨e, he, rfl⟩ := List.mem_map.mp z
      rw [outV_get np.kd he] at hn
      cases hn
    obtain ⟨op, st3⟩ := stt_new (o := ob cs0) hp st2
    have h4 := nest_add np (stt_junk (o := ob cs0) hp st2) op hm st3
    rw [outV_put (cs := cs0) hm]
    exact q es [] p cs0 _ h4.1 h4.2 (.inr ⟨rfl, rfl, rfl, hm⟩)
end
end Z

set_option Elab.async false
set_option linter.all false
set_option maxRecDepth 100000
set_option maxHeartbeats 1000000
/-! kept-still dicts walked; a dict of lists handed back; an own object changed by a def -/
namespace Z
open PySem PySem.Spec PyProof.Rows L2 Zd
section
variable {K : PySem.W.Frag} {Δ0 : Gh} {H0 : Hp} {Γ Γ' : Own} {F : List (V × Cell)} {ρ : Z.Env} {te ta tk tx : TE} {σ : L2.St} {H : Hp} {D : Ends}
theorem stt_frz {d : Addr} {u : HO} {i : Nat} (ow : OwnP Δ0 Γ d) (hi : ρ[i]? = some (some ⟨(⟨d⟩ : Loc)⟩)) (st : Stt K Δ0 H0 ((d, ObIs u) :: Γ) F ρ σ H) :
    H d = some u ∧ σ[i]? = some (some (.ref d)) ∧ ∀ od, Stt K Δ0 H0 Γ F (ρ.set i (some ⟨(⟨d, u⟩ : Fz)⟩)) σ (upd H d (.frz od u)) := by
  obtain ⟨Δ, s, hh, e, f, e0, s1, s2⟩ := st
  have hd := s _ List.mem_cons_self
  obtain ⟨o, ho, io⟩ := hh d _ hd
  have eo : o = u := io
  subst eo
  have ilt : i < ρ.length := by
    rw [List.getElem?_eq_some_iff] at hi
    exact hi.1
  have nu : ∀ {a : Addr}, Δ a = none → a ≠ d := fun n z => by
    rw [z, hd] at n
    cases n
  have n0 : ∀ {a : Addr} {I}, Δ0 a = some I → a ≠ d := fun q z => by
    rw [z, ow.n0] at q
    cases q
  have kp : ∀ od, Keep Δ H (upd H d (.frz od o)) := fun od a v na q => by
    rw [upd_ne (nu na)]
    exact q
  have wk : ∀ {H : Hp} x o', H x = some o' → Δ x = none → unOwn Δ d x = none := fun x o' _ n => by
    by_cases z : x = d
    · rw [z]; exact unOwn_at
    · rw [unOwn_ne z]; exact n
  obtain ⟨v, hv, rv⟩ := e.2 i _ hi
  have ev : v = .ref d := rv
  subst ev
  refine ⟨ho, hv, fun od => ⟨unOwn Δ d, fun q hq => by rw [unOwn_ne (ow.ne q hq)]; exact s q (List.mem_cons_of_mem _ hq), fun a J ha => ?_, ?_, fun q hq => q.2.r.weak wk (q.2.r.mono (kp od) (f q hq)), ⟨fun a o' n q => ?_, fun a I q => ?_⟩, fun x I q => ?_, fun x n m => ?_⟩⟩
  · have ne : a ≠ d := fun z => by rw [z, unOwn_at] at ha; cases ha
    rw [unOwn_ne ne] at ha
    rw [upd_ne ne]
    exact hh a J ha
  · have e3 := ((e.mono (kp od)).weak wk).set (c := ⟨(⟨d, o⟩ : Fz)⟩) (v := .ref d) ilt ⟨rfl, unOwn_at, od, upd_same⟩
    have es : σ.set i (some (.ref d)) = σ := List.ext_getElem? fun j => by
      by_cases hj : i = j
      · subst hj
        rw [List.getElem?_set_self (by rw [e.1]; exact ilt), hv]
      · rw [List.getElem?_set_ne hj]
    rw [es] at e3
    exact e3
  · have hne : a ≠ d := fun z => by
      subst z
      have := s2 a n (by rw [hd]; exact fun z => by cases z)
      rw [q] at this
      cases this
    rw [upd_ne hne]
    exact e0.1 a o' n q
  · obtain ⟨u, hu, iu⟩ := e0.2 a I q
    exact ⟨u, by rw [upd_ne (n0 q)]; exact hu, iu⟩
  · rw [unOwn_ne (n0 q)]
    exact s1 x I q
  · have hne : x ≠ d := fun z => by rw [z, unOwn_at] at m; exact m rfl
    rw [unOwn_ne hne] at m
    exact s2 x n m
/-- for x in d, d one's own, kept still from there on -/
theorem wp_forFz {d : Addr} {kvs : List (Key × V)} {i : Nat} {g : TG} {t tz : TS} (ow : OwnP Δ0 Γ d) (hi : ρ[i]? = some (some ⟨(⟨d⟩ : Loc)⟩)) (w : Wp K Δ0 H0 Γ F (ρ.set i (some ⟨(⟨d, .dK kvs⟩ : Fz)⟩)) (tSeq (tFor (iKeys (tVar i)) g t) tz) D) :
    Wp K Δ0 H0 ((d, ObIs (.dK kvs)) :: Γ) F ρ (tSeq (tFor (iKeys (tFrzs (tVar i))) g t) tz) D := fun σ H st => by
  obtain ⟨h1, h2, q⟩ := stt_frz ow hi st
  refine ⟨.ref d, h2, [d], .dK kvs, h1, trivial, fun od => ?_⟩
  obtain ⟨v, hv, q2⟩ := w σ _ (q od)
  rw [h2] at hv
  cases hv
  exact q2
/-- the keys of a dict that is kept still -/
theorem src_keysZ {j : Nat} {d : Addr} {kvs : List (Key × V)} {κ : Type} [Rp κ] [Flat κ] {x0 : Nat → κ} (h : Ev K Γ te ρ (Is (⟨d, .dK kvs⟩ : Fz))) (hx : ∀ i, i < kvs.length → ∃ k v, kvs[i]? = some (k, v) ∧ kV k = Flat.val (x0 i)) (hj : j < ρ.length) : Src K Γ (iKeys te) (gName j) ρ [j] kvs.length (fun i ρ => ρ.set j (some ⟨x0 i⟩)) := fun Δ σ H R s hh e k =>
  h Δ σ H _ s hh e fun v H' a pa e1 r => by
    have ea : a = ⟨d, .dK kvs⟩ := pa
    subst ea
    obtain ⟨ev, n, od, hd⟩ := id r
    refine ⟨d, od, ev, .inl ⟨kvs, hd, k _ H' v ⟨(⟨d, .dK kvs, od⟩ : Fzo)⟩ e1 ⟨ev, n, hd⟩ (fun Δ' H2 r2 => ?_) fun Δ' i H2 x H3 hi h2 r2 y => ?_⟩⟩
    · obtain ⟨_, _, hd2⟩ := (show Rp.rp K Δ' H2 v (⟨d, .dK kvs, od⟩ : Fzo) from r2)
      exact ⟨fun i hi => ⟨hd2, hi⟩, hd2, Nat.le_refl _⟩
    · obtain ⟨rfl, kk, vv, hy, rfl⟩ := (show H3 = H2 ∧ ∃ kk vv, kvs[i]? = some (kk, vv) ∧ x = kV kk from y)
      obtain ⟨k2, v2, hk2, ek⟩ := hx i hi
      rw [hk2] at hy
      cases hy
      exact ⟨Ext.refl h2, fun σ' ρ' Qs hl e' qq => qq _ (e'.set (c := ⟨x0 i⟩) (by rw [hl]; exact hj) (Flat.iff.mpr ek)) (set_off (js := [j]) (List.mem_singleton_self j)).1 (set_off (js := [j]) (List.mem_singleton_self j)).2⟩
def obL (cs : List Nat) : HO := .lst (cs.map fun c => V.int ((c : Nat) : Int))
def zN (cs : List Nat) : List Int := cs.map fun c => ((c : Nat) : Int)
/-- g.setdefault(k, []).append(x), the last of a block -/
theorem wp_sdApp {g : Addr} {es : List Ent} {k x : Nat} (np : NestP Δ0 Γ g es) (hl : es.length < 50000) (hc : ∀ e ∈ es, e.2.2.length < 50000)
    (ho : Ev K (OwnN g obL es Γ) ta ρ (Is (⟨g⟩ : Loc))) (hk : Ev K (OwnN g obL es Γ) tk ρ (Is (k : Int))) (hx : ∀ es, Ev K (OwnN g obL es Γ) tx ρ (Is (x : Int)))
    (q : ∀ (l r : List Ent) (p : Addr) (cs : List Nat), NestP Δ0 Γ g (l ++ (k, p, cs ++ [x]) :: r) → (l ++ (k, p, cs) :: r = es ∨ (l = es ∧ r = [] ∧ cs = [] ∧ k ∉ es.map (·.1))) → Wp K Δ0 H0 (OwnN g obL (l ++ (k, p, cs ++ [x]) :: r) Γ) F ρ tNext D) :
    Wp K Δ0 H0 (OwnN g obL es Γ) F ρ (tDrop (tBM K "list" rAppend (tDSetd ta tk (tLst tNil)) (tCons tx tNil))) D := fun σ H st => by
  refine setd_run (cs0 := []) np st hl ho hk (fun H R k => ⟨by show 0 ≤ sizeLine; decide, fun p hp => k p hp⟩) fun l r p cs H' np' st' hor => ?_
  have me : (k, p, cs) ∈ l ++ (k, p, cs) :: r := List.mem_append_right _ List.mem_cons_self
  have c1 := stt_cell (ownN_e (ob := obL) (Γ := Γ) me) st'
  have hz : cs.length < 50000 := by
    rcases hor with z | ⟨_, _, z, _⟩
    · exact hc (k, p, cs) (by rw [← z]; exact me)
    · rw [z]
      decide
  refine ⟨.inl ⟨rfl, _, SqL.of c1⟩, ?_⟩
  refine ev_run (te := tx) (hx _) st' fun H2 st2 => ?_
  have c2 := stt_cell (ownN_e (ob := obL) (Γ := Γ) me) st2
  refine ⟨p, _, _, rfl, rfl, c2, ?_, ?_⟩
  · rw [List.length_map]
    exact Nat.lt_trans hz (by decide)
  · have h := nest_set (cs' := cs ++ [x]) np' st2
    have e5 : HO.lst (cs.map (fun c => V.int ((c : Nat) : Int)) ++ [Flat.val (x : Int)]) = obL (cs ++ [x]) := by
      unfold obL
      rw [List.map_append]
      rfl
    rw [e5]
    exact q l r p cs h.1 hor σ _ h.2
/-- a def that hands back a new dict of new lists -/
def spN (K : PySem.W.Frag) (G : Own → List Cell → (List (Nat × List Nat) → Prop) → Prop) : Sp := fun vs H Q _ => ∃ (Γ : Own) (Δ : Gh) (cs : List Cell) (R : List (Nat × List Nat) → Prop), G Γ cs R ∧ Sat Γ Δ ∧ Hold Δ H ∧ ArgsOk K Δ H vs cs ∧
  ∀ (g : Addr) (H' : Hp) (es : List Ent), R (es.map fun e => (e.1, e.2.2)) → H g = none → Δ g = none → Ext Δ H H' → H' g = some (.dK (outV es)) → (∀ e ∈ es, Rp.rp K (ghI Δ g fun _ => True) H' (.ref e.2.1) (zN e.2.2)) → Q (.ref g) H'
def FinG (K : PySem.W.Frag) (Δ0 : Gh) (H0 : Hp) (R : List (Nat × List Nat) → Prop) (D : Ends) : Prop := ∀ (g : Addr) (H' : Hp) (es : List Ent), R (es.map fun e => (e.1, e.2.2)) → H0 g = none → Δ0 g = none → Ext Δ0 H0 H' → H' g = some (.dK (outV es)) → (∀ e ∈ es, Rp.rp K (ghI Δ0 g fun _ => True) H' (.ref e.2.1) (zN e.2.2)) → D.rt (.ref g) H'
theorem wp_retG {g : Addr} {es : List Ent} {R : List (Nat × List Nat) → Prop} (np : NestP Δ0 Γ g es) (hf : FinG K Δ0 H0 R D) (hr : R (es.map fun e => (e.1, e.2.2))) (ho : Ev K (OwnN g obL es Γ) ta ρ (Is (⟨g⟩ : Loc))) : Wp K Δ0 H0 (OwnN g obL es Γ) F ρ (tRet ta) D := fun σ H st => by
  refine ev_run (te := ta) ho st fun H1 st1 => ?_
  have cg := stt_cell (ownN_g (ob := obL) (Γ := Γ) (es := es)) st1
  have ce : ∀ e ∈ es, H1 e.2.1 = some (obL e.2.2) := fun e he => stt_cell (ownN_e (ob := obL) (Γ := Γ) he) st1
  obtain ⟨Δ, s, hh, e, f, e0, s1, s2⟩ := st1
  refine hf g H1 es hr (s2 g np.g0.n0 (by rw [s _ ownN_g]; exact fun z => by cases z)) np.g0.n0 e0 cg fun e he => ?_
  have h0 := np.a0 e he
  refine ⟨e.2.1, e.2.2.map fun c => V.int ((c : Nat) : Int), rfl, .inl ⟨?_, .inl (ce e he)⟩, .inl (.inl (ce e he)), ?_⟩
  · rw [ghI_other h0.2]
    exact h0.1.n0
  · have : (e.2.2.map fun c => V.int ((c : Nat) : Int)) = (zN e.2.2).map Flat.val := by
      unfold zN
      rw [List.map_map]
      rfl
    rw [this]
    exact all2_flat _
structure Gz where
  g : Addr
  od : Obj
  es : List Ent
instance : Rp Gz where
  rp K Δ H v a := v = .ref a.g ∧ Δ a.g = none ∧ H a.g = some (.frz a.od (.dK (outV a.es))) ∧ ∀ e ∈ a.es, Rp.rp K Δ H (.ref e.2.1) (zN e.2.2)
  mono k h := ⟨h.1, h.2.1, k _ _ h.2.1 h.2.2.1, fun e he => Rp.mono k (h.2.2.2 e he)⟩
  weak w h := ⟨h.1, w _ _ h.2.2.1 h.2.1, h.2.2.1, fun e he => Rp.weak w (h.2.2.2 e he)⟩
/-- for k, xs in f(..).items(), f such a def -/
theorem srcP_itemsG {G : Own → List Cell → (List (Nat × List Nat) → Prop) → Prop} {R : List (Nat × List Nat) → Prop} {E : XK} {cs : List Cell} {tA : TA} {ja jb : Nat} (ha : EvA K Γ tA ρ (Is cs)) (hg : G Γ cs R) (hja : ja < ρ.length) (hjb : jb < ρ.length) :
    SrcP K Γ (iItems (tFrzs (tCall (spN K G) [] E tA))) (gTup K 2 (gCons (gName ja) (gCons (gName jb) gNil))) ρ [ja, jb] R (fun gs => gs.length) (fun gs i ρ => (ρ.set ja (some ⟨(((gs.getD i (0, [])).1 : Nat) : Int)⟩)).set jb (some ⟨zN (gs.getD i (0, [])).2⟩)) := fun Δ σ H Q s hh e k =>
  ha Δ σ H _ s hh e fun vs H1 cs' pcs e1 r => by
    have ec : cs' = cs := pcs
    subst ec
    refine ⟨Γ, Δ, cs', R, hg, s, e1.2, by rw [List.append_nil]; exact r, fun g H2 es hR hg1 hgΔ e2 cg ce => ⟨[g], _, cg, trivial, fun od => ?_⟩⟩
    have kp : Keep (ghI Δ g fun _ => True) H2 (upd H2 g (.frz od (.dK (outV es)))) := fun a o n q => by
      have hne : a ≠ g := fun z => by rw [z, ghI_self] at n; cases n
      rw [upd_ne hne]
      exact q
    have e3 : Ext Δ H (upd H2 g (.frz od (.dK (outV es)))) := by
      have e12 := e1.trans e2
      refine ⟨fun a o n q => ?_, fun a I ha => ?_⟩
      · have hne : a ≠ g := fun z => by
          rw [z] at q
          rw [e1.1 g o hgΔ q] at hg1
          cases hg1
        rw [upd_ne hne]
        exact e12.1 a o n q
      · have hne : a ≠ g := fun z => by rw [z, hgΔ] at ha; cases ha
        rw [upd_ne hne]
        exact e12.2 a I ha
    have rp0 : Rp.rp K Δ (upd H2 g (.frz od (.dK (outV es)))) (.ref g) (⟨g, od, es⟩ : Gz) := ⟨rfl, hgΔ, upd_same, fun e he => Rp.weak (fun x o _ n => by
      by_cases z : x = g
      · rw [z]; exact hgΔ
      · rw [ghI_other z] at n; exact n) (Rp.mono kp (ce e he))⟩
    have gl : (es.map fun e => (e.1, e.2.2)).length = es.length := List.length_map ..
    refine ⟨g, od, outV es, rfl, upd_same, k _ _ _ (.ref g) ⟨(⟨g, od, es⟩ : Gz)⟩ hR e3 rp0 (fun Δ' H3 r2 => ?_) fun Δ' i H3 x H4 hi h2 r2 y => ?_⟩
    · obtain ⟨_, _, hd2, _⟩ := (show Rp.rp K Δ' H3 (.ref g) (⟨g, od, es⟩ : Gz) from r2)
      have ol : (outV es).length = es.length := List.length_map ..
      exact ⟨fun i hi => ⟨hd2, by rw [ol, ← gl]; exact hi⟩, hd2, by rw [ol, ← gl]; exact Nat.le_refl _⟩
    · obtain ⟨_, _, _, hes⟩ := (show Rp.rp K Δ' H3 (.ref g) (⟨g, od, es⟩ : Gz) from r2)
      obtain ⟨T, kk, vv, hkv, rfl, hT, e4⟩ := (show ∃ T kk vv, (outV es)[i]? = some (kk, vv) ∧ x = .ref T ∧ H3 T = none ∧ H4 = upd H3 T (.tup [kV kk, vv]) from y)
      replace hi : i < es.length := by rw [← gl]; exact hi
      have eg : (es.map fun e => (e.1, e.2.2)).getD i (0, []) = (es[i].1, es[i].2.2) := by
        rw [List.getD_eq_getElem?_getD, List.getElem?_map, List.getElem?_eq_getElem hi]
        rfl
      have eo : (outV es)[i]? = some (.inl ((es[i].1 : Nat) : Int), .ref es[i].2.1) := by
        unfold outV
        rw [List.getElem?_map, List.getElem?_eq_getElem hi]
        rfl
      rw [eo] at hkv
      have e5 := Prod.mk.inj (Option.some.inj hkv)
      have ex := Ext.new h2 hT (.tup [kV kk, vv])
      refine ⟨by rw [e4]; exact ex, fun σ' ρ' Qs hl e' q => ?_⟩
      simp only [eg] at q
      refine pair_put (ca := ⟨((es[i].1 : Nat) : Int)⟩) (cb := ⟨zN es[i].2.2⟩) e4 ?_ ?_ (by rw [hl]; exact hja) (by rw [hl]; exact hjb) e' q
      · show Rp.rp K Δ' H4 (kV kk) ((es[i].1 : Nat) : Int)
        rw [← e5.1]
        rfl
      · show Rp.rp K Δ' H4 vv (zN es[i].2.2)
        rw [← e5.2, e4]
        exact Rp.mono ex.1 (hes es[i] (List.getElem_mem hi))
end
section
variable {P : Program} {w : World} {K : PySem.W.Frag} {mg : Str → Option Value} {base : Heap}
theorem def_okN {x qual : Str} {args : Arguments} {body : List Stmt} {scope : Scope} {dvs : List V} {kws : List (Str × V)} {f : Addr} {fd : FuncData} {N ps : List Str} {k : Nat} {G : Own → List Cell → (List (Nat × List Nat) → Prop) → Prop}
    (Fn : FunD K x qual args body scope dvs kws f fd) (S : FnScope N ps scope) (len : ∀ Γ cs R, G Γ cs R → cs.length = ps.length)
    (hb : ∀ (cdv : Value) (A : Around) (outer : List PySem.Env) (s : Shared) (H : Hp) (E : XK), Room k (A.deeper (envOfC qual scope s.heap.objs.size f cdv)) →
      ∀ (Γ : Own) (cs : List Cell) (R : List (Nat × List Nat) → Prop), G Γ cs R → ∃ t, PSs (cxOf CX0 P w K mg base N qual scope f cdv A outer s H E).nox body t ∧
        ∀ (Δ0 : Gh) (D : Ends), FinG K Δ0 H R D → Wp K Δ0 H Γ [] (env0 N cs) t D) :
    FnOk P w K mg base CX0 (k + 1) f fd ps (spN K G) := by
  refine Fn.ok S (fun vs H Q E h => ?_) (fun cdv A outer s H vs Q E hr h => ?_)
  · obtain ⟨Γ, Δ, cs, R, g, _, _, a, _⟩ := h
    rw [All2.len a]
    exact len Γ cs R g
  · obtain ⟨Γ, Δ, cs, R, g, sa, hh, a, q⟩ := h
    obtain ⟨t, ht, hw⟩ := hb cdv A outer s H E hr Γ cs R g
    refine ⟨t, ?_, hw Δ _ (fun p H' es hR h1 h2 e ho he => q p H' es hR h1 h2 e ho he) _ H ⟨Δ, sa, hh, start_ok a, fun z hz => (nomatch hz), Ext.refl hh, fun _ _ z => z, fun x n m => absurd n m⟩⟩
    first
      | exact ht
      | exact PSs.nox ht
end
end Z

set_option Elab.async false
set_option linter.all false
set_option maxRecDepth 100000
set_option maxHeartbeats 1000000
/-! a def that changes an own dict; d.update, len(d) -/
namespace Z
open PySem PySem.Spec PyProof.Rows L2 Zd
def rmv (H : Hp) (p : Addr) : Hp := fun a => if a = p then none else H a
theorem rmv_at {H : Hp} {p : Addr} : rmv H p p = none := if_pos rfl
theorem rmv_ne {H : Hp} {p a : Addr} (h : a ≠ p) : rmv H p a = H a := if_neg h
/-- a def that changes the object at p from o to o' and hands back an int -/
def spU (K : PySem.W.Frag) (G : Own → List Cell → Addr → HO → HO → (Int → Prop) → Prop) : Sp := fun vs H Q _ => ∃ (Γ : Own) (Δ : Gh) (cs : List Cell) (p : Addr) (o o' : HO) (R : Int → Prop), G Γ cs p o o' R ∧ Sat ((p, ObIs o) :: Γ) Δ ∧ (∀ q ∈ Γ, q.1 ≠ p) ∧ Hold Δ H ∧ ArgsOk K Δ H vs cs ∧
  ∀ (H' : Hp) (c : Int), R c → Ext (unOwn Δ p) (rmv H p) H' → H' p = some o' → Q (.int c) H'
def FinU (Δ0 : Gh) (H0 : Hp) (p : Addr) (o' : HO) (R : Int → Prop) (D : Ends) : Prop := ∀ (H' : Hp) (c : Int), R c → Ext Δ0 H0 H' → H' p = some o' → D.rt (.int c) H'
section
variable {P : Program} {w : World} {K : PySem.W.Frag} {mg : Str → Option Value} {base : Heap}
theorem def_okU {x qual : Str} {args : Arguments} {body : List Stmt} {scope : Scope} {dvs : List V} {kws : List (Str × V)} {f : Addr} {fd : FuncData} {N ps : List Str} {k : Nat} {G : Own → List Cell → Addr → HO → HO → (Int → Prop) → Prop}
    (Fn : FunD K x qual args body scope dvs kws f fd) (S : FnScope N ps scope) (len : ∀ Γ cs p o o' R, G Γ cs p o o' R → cs.length = ps.length)
    (hb : ∀ (cdv : Value) (A : Around) (outer : List PySem.Env) (s : Shared) (H : Hp) (E : XK), Room k (A.deeper (envOfC qual scope s.heap.objs.size f cdv)) →
      ∀ (Γ : Own) (cs : List Cell) (p : Addr) (o o' : HO) (R : Int → Prop), G Γ cs p o o' R → ∃ t, PSs (cxOf CX0 P w K mg base N qual scope f cdv A outer s H E).nox body t ∧
        ∀ (Δ0 : Gh) (H0 : Hp) (D : Ends), FinU Δ0 H0 p o' R D → OwnP Δ0 Γ p → Wp K Δ0 H0 ((p, ObIs o) :: Γ) [] (env0 N cs) t D) :
    FnOk P w K mg base CX0 (k + 1) f fd ps (spU K G) := by
  refine Fn.ok S (fun vs H Q E h => ?_) (fun cdv A outer s H vs Q E hr h => ?_)
  · obtain ⟨Γ, Δ, cs, p, o, o', R, g, _, _, _, a, _⟩ := h
    rw [All2.len a]
    exact len Γ cs p o o' R g
  · obtain ⟨Γ, Δ, cs, p, o, o', R, g, sa, ne, hh, a, q⟩ := h
    obtain ⟨t, ht, hw⟩ := hb cdv A outer s H E hr Γ cs p o o' R g
    have hp := sa _ List.mem_cons_self
    refine ⟨t, ?_, hw (unOwn Δ p) (rmv H p) _ (fun H' c hc e hp => q H' c hc e hp) ⟨unOwn_at, ne⟩ _ H ⟨Δ, sa, hh, start_ok a, fun z hz => (nomatch hz), ⟨fun x u n h => ?_, fun x I h => ?_⟩, fun x I h => ?_, fun x n m => ?_⟩⟩
    · first
        | exact ht
        | exact PSs.nox ht
    · have hne : x ≠ p := fun z => by rw [z, rmv_at] at h; cases h
      rw [rmv_ne hne] at h
      exact h
    · have hne : x ≠ p := fun z => by rw [z, unOwn_at] at h; cases h
      rw [unOwn_ne hne] at h
      exact hh x I h
    · have hne : x ≠ p := fun z => by rw [z, unOwn_at] at h; cases h
      rw [unOwn_ne hne] at h
      exact h
    · by_cases hne : x = p
      · rw [hne]
        exact rmv_at
      · rw [unOwn_ne hne] at n
        exact absurd n m
end
section
variable {K : PySem.W.Frag} {Δ0 : Gh} {H0 : Hp} {Γ Γ' : Own} {F : List (V × Cell)} {ρ : Z.Env} {te ta tk tx : TE} {tA : TA} {σ : L2.St} {H : Hp} {D : Ends}
theorem wp_retU {p : Addr} {o' : HO} {R : Int → Prop} {c : Int} (hf : FinU Δ0 H0 p o' R D) (hr : R c) (h : Ev K ((p, ObIs o') :: Γ) te ρ (Is c)) : Wp K Δ0 H0 ((p, ObIs o') :: Γ) F ρ (tRet te) D := fun σ H st => by
  refine ev_run (te := te) h st fun H1 st1 => ?_
  have cp := stt_cell List.mem_cons_self st1
  obtain ⟨Δ, s, hh, e, f, e0, s1, s2⟩ := st1
  exact hf H1 c hr e0 cp
/-- f(..) of such a def, p the first of one's own -/
theorem callU_run {G : Own → List Cell → Addr → HO → HO → (Int → Prop) → Prop} {p : Addr} {o o' : HO} {R : Int → Prop} {cs : List Cell} {E : XK} {Q : V → Hp → Prop} (ow : OwnP Δ0 Γ p) (st : Stt K Δ0 H0 ((p, ObIs o) :: Γ) F ρ σ H) (ha : EvA K ((p, ObIs o) :: Γ) tA ρ (Is cs)) (hg : G Γ cs p o o' R)
    (k : ∀ H' c, R c → Stt K Δ0 H0 ((p, ObIs o') :: Γ) F ρ σ H' → Q (.int c) H') : tCall (spU K G) [] E tA σ H Q := by
  obtain ⟨Δ, s, hh, e, f, e0, s1, s2⟩ := st
  refine ha Δ σ H _ s hh e fun vs H1 cs' pcs e1 r => ?_
  have ec : cs' = cs := pcs
  subst ec
  refine ⟨Γ, Δ, cs', p, o, o', R, hg, s, ow.ne, e1.2, by rw [List.append_nil]; exact r, fun H' c hc e2 hp => k H' c hc ?_⟩
  have hΔ : Δ p = some (ObIs o) := s _ List.mem_cons_self
  have off : ∀ {a : Addr}, Δ a = none → a ≠ p := fun n z => by
    rw [z, hΔ] at n
    cases n
  have off0 : ∀ {a : Addr} {I}, Δ0 a = some I → a ≠ p := fun q z => by
    rw [z, ow.n0] at q
    cases q
  have kp : Keep Δ H1 H' := fun a u n q => e2.1 a u (by rw [unOwn_ne (off n)]; exact n) (by rw [rmv_ne (off n)]; exact q)
  have wk : ∀ {H : Hp} x u, H x = some u → Δ x = none → ghI Δ p (ObIs o') x = none := fun x u _ n => by
    rw [ghI_other (off n)]
    exact n
  have e01 := ext0 e0 s1 s2 e1
  refine ⟨ghI Δ p (ObIs o'), fun q hq => ?_, fun a J ha => ?_, ((e.mono e1.1).mono kp).weak wk, fun q hq => q.2.r.weak wk (q.2.r.mono kp (q.2.r.mono e1.1 (f q hq))), ⟨fun a u n q => ?_, fun a I q => ?_⟩, fun x I q => ?_, fun x n m => ?_⟩
  · rcases List.mem_cons.mp hq with z | z
    · rw [z]; exact ghI_self
    · rw [ghI_other (ow.ne q z)]; exact s q (List.mem_cons_of_mem _ z)
  · by_cases z : a = p
    · subst z
      rw [ghI_self] at ha
      cases ha
      exact ⟨o', hp, rfl⟩
    · rw [ghI_other z] at ha
      exact e2.2 a J (by rw [unOwn_ne z]; exact ha)
  · have h1 := e01.1 a u n q
    have na : Δ a = none := by
      cases w : Δ a with
      | none => rfl
      | some I =>
        rw [s2 a n (by rw [w]; exact fun z => by cases z)] at q
        cases q
    exact kp a u na h1
  · exact e2.2 a I (by rw [unOwn_ne (off0 q)]; exact s1 a I q)
  · rw [ghI_other (off0 q)]
    exact s1 x I q
  · by_cases z : x = p
    · subst z
      exact s2 x n (by rw [hΔ]; exact fun z => by cases z)
    · rw [ghI_other z] at m
      exact s2 x n m
/-- len(d), the dict one's own -/
theorem ev_lenD {d : Addr} {kvs : List (Key × V)} (hm : (d, ObIs (.dK kvs)) ∈ Γ) (h : Ev K Γ te ρ (Is (⟨d⟩ : Loc))) : Ev K Γ (tCB (fun xs H Q => ∃ a kvs, xs = [V.ref a] ∧ H a = some (.dK kvs) ∧ Q (.int kvs.length) H) (tCons te tNil)) ρ (Is (kvs.length : Int)) := fun Δ σ H Q s hh e k =>
  h Δ σ H _ s hh e fun v H1 a pa e1 r => by
    have ea : a = ⟨d⟩ := pa
    subst ea
    have ev : v = .ref d := r
    subst ev
    obtain ⟨u, hu, iu⟩ := e1.2 d _ (s _ hm)
    have iu' : u = HO.dK kvs := iu
    subst iu'
    exact ⟨d, kvs, rfl, hu, k _ H1 _ rfl e1 rfl⟩
/-- d.update(e), d one's own, e a new dict; the last of a block -/
theorem wp_updD {p : Addr} {kvs more : List (Key × V)} (ow : OwnP Δ0 Γ p) (ho : Ev K ((p, ObIs (.dK kvs)) :: Γ) ta ρ (Is (⟨p⟩ : Loc))) (h : EvN K ((p, ObIs (.dK kvs)) :: Γ) te ρ (ObIs (.dK more))) (hl : kvs.length + more.length ≤ 100000)
    (k : Wp K Δ0 H0 ((p, ObIs (.dK (mergeK kvs more))) :: Γ) F ρ tNext D) : Wp K Δ0 H0 ((p, ObIs (.dK kvs)) :: Γ) F ρ (tDrop (tBM K "dict" rUpd ta (tCons te tNil))) D := fun σ H st => by
  refine ev_run (te := ta) ho st fun H1 st1 => ?_
  have c1 := stt_cell List.mem_cons_self st1
  refine ⟨.inr (.inr (.inl ⟨rfl, .inl ⟨_, c1⟩⟩)), ?_⟩
  obtain ⟨Δ, s, hh, e, f, e0, s1, s2⟩ := st1
  refine h Δ σ H1 _ s hh e fun d H2 o io hd nd e2 hdo => ?_
  have eo : o = HO.dK more := io
  subst eo
  have st2 : Stt K Δ0 H0 ((p, ObIs (.dK kvs)) :: Γ) F ρ σ H2 := ⟨Δ, s, e2.2, e.mono e2.1, fun q hq => q.2.r.mono e2.1 (f q hq), ext0 e0 s1 s2 e2, s1, s2⟩
  have pd : p ≠ d := fun z => by rw [z, hd] at c1; cases c1
  exact ⟨p, d, kvs, more, rfl, rfl, pd, stt_cell List.mem_cons_self st2, hdo, Nat.le_trans hl (by decide), k σ _ (own_putO ow st2).2⟩
end
end Z

set_option Elab.async false
set_option linter.all false
set_option maxRecDepth 100000
set_option maxHeartbeats 1000000
/-! a dict of dicts of one's own: laid, asked, changed within, walked to the end -/
namespace Z
open PySem PySem.Spec PyProof.Rows L2 Zd
def kvB0 (l : List Nat) : List (Key × V) := l.map fun c => (.inl ((c : Nat) : Int), .bl true)
def obD (l : List Nat) : HO := .dK (kvB0 l)
structure Nz where
  p : Addr
  es : List Ent
instance : Rp Nz where
  rp K Δ H v a := v = .ref a.p ∧ Δ a.p = none ∧ (∃ od, H a.p = some (.frz od (.dK (outV a.es)))) ∧ ∀ e ∈ a.es, Δ e.2.1 = none ∧ ∃ od, H e.2.1 = some (.frz od (obD e.2.2))
  mono k h := ⟨h.1, h.2.1, let ⟨od, e⟩ := h.2.2.1; ⟨od, k _ _ h.2.1 e⟩, fun e he => let h1 := h.2.2.2 e he; ⟨h1.1, let ⟨od, q⟩ := h1.2; ⟨od, k _ _ h1.1 q⟩⟩⟩
  weak w h := ⟨h.1, let ⟨od, e⟩ := h.2.2.1; w _ _ e h.2.1, h.2.2.1, fun e he => let h1 := h.2.2.2 e he; ⟨let ⟨od, q⟩ := h1.2; w _ _ q h1.1, h1.2⟩⟩
structure Nzo where
  p : Addr
  od : Obj
  es : List Ent
instance : Rp Nzo where
  rp K Δ H v a := v = .ref a.p ∧ Δ a.p = none ∧ H a.p = some (.frz a.od (.dK (outV a.es))) ∧ ∀ e ∈ a.es, Δ e.2.1 = none ∧ ∃ od, H e.2.1 = some (.frz od (obD e.2.2))
  mono k h := ⟨h.1, h.2.1, k _ _ h.2.1 h.2.2.1, fun e he => let h1 := h.2.2.2 e he; ⟨h1.1, let ⟨od, q⟩ := h1.2; ⟨od, k _ _ h1.1 q⟩⟩⟩
  weak w h := ⟨h.1, w _ _ h.2.2.1 h.2.1, h.2.2.1, fun e he => let h1 := h.2.2.2 e he; ⟨let ⟨od, q⟩ := h1.2; w _ _ q h1.1, h1.2⟩⟩
section
variable {K : PySem.W.Frag} {Δ0 : Gh} {H0 : Hp} {Γ Γ' : Own} {F : List (V × Cell)} {ρ : Z.Env} {te ta tk tx : TE} {tA : TA} {σ : L2.St} {H : Hp} {D : Ends} {tz : TS}
theorem stt_set {i : Nat} {v : V} {c : Cell} (hi : i < ρ.length) (hc : ∀ (Δ : Gh), Sat Γ Δ → Hold Δ H → c.rp K Δ H v) (st : Stt K Δ0 H0 Γ F ρ σ H) : Stt K Δ0 H0 Γ F (ρ.set i (some c)) (σ.set i (some v)) H := by
  obtain ⟨Δ, s, hh, e, f, r⟩ := st
  exact ⟨Δ, s, hh, e.set hi (hc Δ s hh), f, r⟩
theorem stt_unown {d : Addr} {u : HO} (ow : OwnP Δ0 Γ d) (st : Stt K Δ0 H0 ((d, ObIs u) :: Γ) F ρ σ H) :
    H d = some u ∧ ∀ od, Stt K Δ0 H0 Γ ((.ref d, ⟨(⟨d, u⟩ : Fz)⟩) :: F) ρ σ (upd H d (.frz od u)) := by
  obtain ⟨Δ, s, hh, e, f, e0, s1, s2⟩ := st
  have hd := s _ List.mem_cons_self
  obtain ⟨o, ho, io⟩ := hh d _ hd
  have eo : o = u := io
  subst eo
  have nu : ∀ {a : Addr}, Δ a = none → a ≠ d := fun n z => by
    rw [z, hd] at n
    cases n
  have n0 : ∀ {a : Addr} {I}, Δ0 a = some I → a ≠ d := fun q z => by
    rw [z, ow.n0] at q
    cases q
  have kp : ∀ od, Keep Δ H (upd H d (.frz od o)) := fun od a v na q => by
    rw [upd_ne (nu na)]
    exact q
  have wk : ∀ {H : Hp} x o', H x = some o' → Δ x = none → unOwn Δ d x = none := fun x o' _ n => by
    by_cases z : x = d
    · rw [z]; exact unOwn_at
    · rw [unOwn_ne z]; exact n
  refine ⟨ho, fun od => ⟨unOwn Δ d, fun q hq => by rw [unOwn_ne (ow.ne q hq)]; exact s q (List.mem_cons_of_mem _ hq), fun a J ha => ?_, (e.mono (kp od)).weak wk, fun q hq => ?_, ⟨fun a o' n q => ?_, fun a I q => ?_⟩, fun x I q => ?_, fun x n m => ?_⟩⟩
  · have ne : a ≠ d := fun z => by rw [z, unOwn_at] at ha; cases ha
    rw [unOwn_ne ne] at ha
    rw [upd_ne ne]
    exact hh a J ha
  · rcases List.mem_cons.mp hq with z | z
    · rw [z]
      exact ⟨rfl, unOwn_at, od, upd_same⟩
    · exact q.2.r.weak wk (q.2.r.mono (kp od) (f q z))
  · have hne : a ≠ d := fun z => by
      subst z
      have := s2 a n (by rw [hd]; exact fun z => by cases z)
      rw [q] at this
      cases this
    rw [upd_ne hne]
    exact e0.1 a o' n q
  · obtain ⟨u, hu, iu⟩ := e0.2 a I q
    exact ⟨u, by rw [upd_ne (n0 q)]; exact hu, iu⟩
  · rw [unOwn_ne (n0 q)]
    exact s1 x I q
  · have hne : x ≠ d := fun z => by rw [z, unOwn_at] at m; exact m rfl
    rw [unOwn_ne hne] at m
    exact s2 x n m
theorem locks_run {Q : Hp → Prop} : ∀ (ds : List (Addr × HO)) (F : List (V × Cell)) (H : Hp), (ds.map (·.1)).Nodup → (∀ d ∈ ds, OwnP Δ0 Γ d.1 ∧ Mut (some d.2)) → Stt K Δ0 H0 (ds.map (fun d => (d.1, ObIs d.2)) ++ Γ) F ρ σ H →
    (∀ H' F', (∀ f ∈ F, f ∈ F') → (∀ d ∈ ds, (V.ref d.1, (⟨(⟨d.1, d.2⟩ : Fz)⟩ : Cell)) ∈ F') → Stt K Δ0 H0 Γ F' ρ σ H' → Q H') → tLocks Q (ds.map (·.1)) H
  | [], F, H, _, _, st, q => q H F (fun f h => h) (fun d h => nomatch h) st
  | d :: ds, F, H, nd, ho, st, q => by
    rw [List.map_cons, List.nodup_cons] at nd
    have h0 := ho d List.mem_cons_self
    have ow : OwnP Δ0 (ds.map (fun d => (d.1, ObIs d.2)) ++ Γ) d.1 := ⟨h0.1.n0, fun x hx => by
      rcases List.mem_append.mp hx with z | z
      · obtain ⟨y, hy, rfl⟩ := List.mem_map.mp z
        exact fun w => nd.1 (List.mem_map.mpr ⟨y, hy, w⟩)
      · exact h0.1.ne x z⟩
    obtain ⟨hd, st1⟩ := stt_unown ow st
    refine ⟨d.2, hd, h0.2, fun od => locks_run ds _ _ nd.2 (fun x hx => ho x (List.mem_cons_of_mem _ hx)) (st1 od) fun H' F' h1 h2 st2 => q H' F' (fun f hf => h1 f (List.mem_cons_of_mem _ hf)) (fun x hx => ?_) st2⟩
    rcases List.mem_cons.mp hx with z | z
    · rw [z]
      exact h1 _ List.mem_cons_self
    · exact h2 x z
/-- all of them kept still -/
theorem wp_retFrz {g : Addr} {es : List Ent} {i : Nat} {TEf : TE → TE} (np : NestP Δ0 Γ g es) (hi : ρ[i]? = some (some ⟨(⟨g⟩ : Loc)⟩)) (hT : ∀ (σ : L2.St) (H : Hp) (Q : VK) (ds : List Addr), σ[i]? = some (some (.ref g)) → tLocks (fun H' => TEf (tVar i) σ H' Q) ds H → TEf (tFrzs (tVar i)) σ H Q)
    (w : ∀ F', Wp K Δ0 H0 Γ F' (ρ.set i (some ⟨(⟨g, es⟩ : Nz)⟩)) (tRet (TEf (tVar i))) D) : Wp K Δ0 H0 (OwnN g obD es Γ) F ρ (tRet (TEf (tFrzs (tVar i)))) D := fun σ H st => by
  have hv : σ[i]? = some (some (.ref g)) := by
    obtain ⟨Δ, s, hh, e, r⟩ := st
    obtain ⟨v, hv, rv⟩ := e.2 i _ hi
    have ev : v = .ref g := rv
    rw [hv, ev]
  have ilt : i < ρ.length := by
    rw [List.getElem?_eq_some_iff] at hi
    exact hi.1
  refine hT σ H D.rt (((g, HO.dK (outV es)) :: es.map fun e => (e.2.1, obD e.2.2)).map (·.1)) hv ?_
  have em : ((es.map fun e => (e.2.1, obD e.2.2)).map (·.1)) = es.map (·.2.1) := by rw [List.map_map]; rfl
  refine locks_run (K := K) (Δ0 := Δ0) (H0 := H0) (Γ := Γ) (ρ := ρ) (σ := σ) ((g, HO.dK (outV es)) :: es.map fun e => (e.2.1, obD e.2.2)) F H ?_ (fun d hd => ?_) ?_ fun H' F' _ h2 st2 => ?_
  · rw [List.map_cons, em, List.nodup_cons]
    refine ⟨fun z => ?_, np.nd⟩
    obtain ⟨e, he, e1⟩ := List.mem_map.mp z
    exact (np.a0 e he).2 e1
  · rcases List.mem_cons.mp hd with z | z
    · rw [z]
      exact ⟨np.g0, trivial⟩
    · obtain ⟨e, he, rfl⟩ := List.mem_map.mp z
      exact ⟨(np.a0 e he).1, trivial⟩
  · refine stt_mem (fun q hq => ?_) st
    rw [List.map_cons, List.map_map] at hq
    exact hq
  · refine w F' σ H' ?_
    obtain ⟨Δ, s, hh, e, f, r⟩ := st2
    have hg := f _ (h2 _ List.mem_cons_self)
    have he := fun e (he : e ∈ es) => f _ (h2 (e.2.1, obD e.2.2) (List.mem_cons_of_mem _ (List.mem_map.mpr ⟨e, he, rfl⟩)))
    have e3 := e.set (c := ⟨(⟨g, es⟩ : Nz)⟩) (v := .ref g) ilt ⟨rfl, hg.2.1, hg.2.2, fun x hx => ⟨(he x hx).2.1, (he x hx).2.2⟩⟩
    have es' : σ.set i (some (.ref g)) = σ := List.ext_getElem? fun j => by
      by_cases hj : i = j
      · subst hj
        rw [List.getElem?_set_self (by rw [e.1]; exact ilt), hv]
      · rw [List.getElem?_set_ne hj]
    rw [es'] at e3
    exact ⟨Δ, s, hh, e3, f, r⟩
/-- the values of a dict of dicts, all kept still -/
theorem src_valsN {j : Nat} {p : Addr} {es : List Ent} {d0 : Ent} (h : Ev K Γ te ρ (Is (⟨p, es⟩ : Nz))) (hj : j < ρ.length) : Src K Γ (iVals te) (gName j) ρ [j] es.length (fun i ρ => ρ.set j (some ⟨(⟨(es.getD i d0).2.1, obD (es.getD i d0).2.2⟩ : Fz)⟩)) := fun Δ σ H R s hh e k =>
  h Δ σ H _ s hh e fun v H' a pa e1 r => by
    have ea : a = ⟨p, es⟩ := pa
    subst ea
    obtain ⟨ev, n, ⟨od, hd⟩, hes⟩ := id r
    have ol : (outV es).length = es.length := List.length_map ..
    refine ⟨p, od, outV es, ev, hd, k _ H' v ⟨(⟨p, od, es⟩ : Nzo)⟩ e1 ⟨ev, n, hd, hes⟩ (fun Δ' H2 r2 => ?_) fun Δ' i H2 x H3 hi h2 r2 y => ?_⟩
    · obtain ⟨_, _, hd2, _⟩ := (show Rp.rp K Δ' H2 v (⟨p, od, es⟩ : Nzo) from r2)
      exact ⟨fun i hi => ⟨hd2, by rw [ol]; exact hi⟩, hd2, by rw [ol]; exact Nat.le_refl _⟩
    · obtain ⟨_, _, _, he2⟩ := (show Rp.rp K Δ' H2 v (⟨p, od, es⟩ : Nzo) from r2)
      obtain ⟨rfl, kk, hy⟩ := (show H3 = H2 ∧ ∃ kk, (outV es)[i]? = some (kk, x) from y)
      have eg : es.getD i d0 = es[i] := by rw [List.getD_eq_getElem?_getD, List.getElem?_eq_getElem hi]; rfl
      have ex : x = .ref es[i].2.1 := by
        unfold outV at hy
        rw [List.getElem?_map, List.getElem?_eq_getElem hi] at hy
        cases hy
        rfl
      subst ex
      have h3 := he2 es[i] (List.getElem_mem hi)
      simp only [eg]
      exact ⟨Ext.refl h2, fun σ' ρ' Qs hl e' qq => qq _ (e'.set (c := ⟨(⟨es[i].2.1, obD es[i].2.2⟩ : Fz)⟩) (by rw [hl]; exact hj) ⟨rfl, h3.1, h3.2⟩) (set_off (js := [j]) (List.mem_singleton_self j)).1 (set_off (js := [j]) (List.mem_singleton_self j)).2⟩
/-- k in g -/
theorem ev_inN {g : Addr} {ob : List Nat → HO} {es : List Ent} {k : Nat} (kd : (es.map (·.1)).Nodup) (hk : Ev K (OwnN g ob es Γ) tk ρ (Is (k : Int))) (ho : Ev K (OwnN g ob es Γ) ta ρ (Is (⟨g⟩ : Loc))) : Ev K (OwnN g ob es Γ) (tDIn tk ta) ρ (Is (decide (k ∈ es.map (·.1)))) := fun Δ σ H Q s hh e q =>
  hk Δ σ H _ s hh e fun v H1 a pa e1 r1 => ho Δ σ H1 _ s e1.2 (e.mono e1.1) fun w H2 b pb e2 r2 => by
    have ea : a = (k : Int) := pa
    subst ea
    have ev : v = .int k := r1
    subst ev
    have eb : b = ⟨g⟩ := pb
    subst eb
    have ew : w = .ref g := r2
    subst ew
    obtain ⟨u, hu, iu⟩ := e2.2 g _ (s _ ownN_g)
    have iu' : u = HO.dK (outV es) := iu
    subst iu'
    refine ⟨g, _, rfl, DGet.k (k := .inl ((k : Nat) : Int)) hu, ?_⟩
    have eb : (valV (outV es) (.inl ((k : Nat) : Int) : Key)).isSome = decide (k ∈ es.map (·.1)) := by
      by_cases c : k ∈ es.map (·.1)
      · obtain ⟨x, hx, rfl⟩ := List.mem_map.mp c
        rw [outV_get kd hx, decide_eq_true c]
        rfl
      · rw [outV_none c, decide_eq_false c]
        rfl
    rw [eb]
    exact q _ H2 _ rfl (e1.trans e2) rfl
theorem nest_focus {g a : Addr} {ob : List Nat → HO} {l r : List Ent} {k : Nat} {cs : List Nat} (np : NestP Δ0 Γ g (l ++ (k, a, cs) :: r)) : OwnP Δ0 ((g, ObIs (.dK (outV (l ++ (k, a, cs) :: r)))) :: ((l ++ r).map (fun e => (e.2.1, ObIs (ob e.2.2))) ++ Γ)) a ∧
    ∀ cs', NestP Δ0 Γ g (l ++ (k, a, cs') :: r) ∧ ∀ q, q ∈ OwnN g ob (l ++ (k, a, cs') :: r) Γ ↔ q ∈ (a, ObIs (ob cs')) :: ((g, ObIs (.dK (outV (l ++ (k, a, cs) :: r)))) :: ((l ++ r).map (fun e => (e.2.1, ObIs (ob e.2.2))) ++ Γ)) := by
  have nd := np.nd
  rw [List.map_append, List.map_cons, List.nodup_append] at nd
  have h0 := np.a0 (k, a, cs) (List.mem_append_right _ List.mem_cons_self)
  refine ⟨⟨h0.1.n0, fun q hq => ?_⟩, fun cs' => ⟨⟨np.g0, fun e he => ?_, ?_, ?_⟩, fun q => ?_⟩⟩
  · rcases List.mem_cons.mp hq with z | z
    · rw [z]
      exact fun w => h0.2 w.symm
    · rcases List.mem_append.mp z with z | z
      · obtain ⟨e, he, rfl⟩ := List.mem_map.mp z
        intro w
        have w' : e.2.1 = a := w
        rcases List.mem_append.mp he with y | y
        · exact nd.2.2 e.2.1 (List.mem_map.mpr ⟨e, y, rfl⟩) a List.mem_cons_self w'
        · exact (List.nodup_cons.mp nd.2.1).1 (by rw [← w']; exact List.mem_map.mpr ⟨e, y, rfl⟩)
      · exact h0.1.ne q z
  · rcases List.mem_append.mp he with y | y
    · exact np.a0 e (List.mem_append_left _ y)
    · rcases List.mem_cons.mp y with y | y
      · rw [y]
        exact h0
      · exact np.a0 e (List.mem_append_right _ (List.mem_cons_of_mem _ y))
  · have := np.nd
    rw [List.map_append] at this ⊢
    exact this
  · have := np.kd
    rw [List.map_append] at this ⊢
    exact this
  · have eo : outV (l ++ (k, a, cs') :: r) = outV (l ++ (k, a, cs) :: r) := by
      unfold outV
      rw [List.map_append, List.map_append]
      rfl
    unfold OwnN
    rw [eo]
    simp only [List.mem_cons, List.mem_append, List.map_append, List.map_cons]
    constructor
    · rintro (z | (z | z | z) | z)
      · exact .inr (.inl z)
      · exact .inr (.inr (.inl (.inl z)))
      · exact .inl z
      · exact .inr (.inr (.inl (.inr z)))
      · exact .inr (.inr (.inr z))
    · rintro (z | z | (z | z) | z)
      · exact .inr (.inl (.inr (.inl z)))
      · exact .inl z
      · exact .inr (.inl (.inl z))
      · exact .inr (.inl (.inr (.inr z)))
      · exact .inr (.inr z)
/-- name = g.setdefault(k, {}) -/
theorem wp_setdD {g : Addr} {es : List Ent} {k i : Nat} (np : NestP Δ0 Γ g es) (hl : es.length < 50000) (hi : i < ρ.length) (ho : Ev K (OwnN g obD es Γ) ta ρ (Is (⟨g⟩ : Loc))) (hk : Ev K (OwnN g obD es Γ) tk ρ (Is (k : Int)))
    (q : ∀ (l r : List Ent) (p : Addr) (cs : List Nat), NestP Δ0 Γ g (l ++ (k, p, cs) :: r) → (l ++ (k, p, cs) :: r = es ∨ (l = es ∧ r = [] ∧ cs = [] ∧ k ∉ es.map (·.1))) → Wp K Δ0 H0 (OwnN g obD (l ++ (k, p, cs) :: r) Γ) F (ρ.set i (some ⟨(⟨p⟩ : Loc)⟩)) tz D) :
    Wp K Δ0 H0 (OwnN g obD es Γ) F ρ (tSeq (tAsg (tDSetd ta tk tDNewK) (gName i)) tz) D := fun σ H st =>
  setd_run (cs0 := []) np st hl ho hk (fun H R k p hp => k p hp) fun l r p cs H' np' st' hor => q l r p cs np' hor _ H' (stt_set hi (fun Δ _ _ => rfl) st')
/-- name = name + f(..), f changes one of the inner dicts -/
theorem wp_addU {G : Own → List Cell → Addr → HO → HO → (Int → Prop) → Prop} {g p : Addr} {l r : List Ent} {k i : Nat} {cs cs' : List Nat} {R : Int → Prop} {args : List Cell} {E : XK} {m : Int} (np : NestP Δ0 Γ g (l ++ (k, p, cs) :: r)) (hi : i < ρ.length)
    (hm : ∀ Γ', Ev K Γ' ta ρ (Is m)) (ha : ∀ Γ', EvA K Γ' tA ρ (Is args)) (hg : ∀ Γ', G Γ' args p (obD cs) (obD cs') R)
    (q : ∀ c, R c → NestP Δ0 Γ g (l ++ (k, p, cs') :: r) → Wp K Δ0 H0 (OwnN g obD (l ++ (k, p, cs') :: r) Γ) F (ρ.set i (some ⟨m + c⟩)) tz D) :
    Wp K Δ0 H0 (OwnN g obD (l ++ (k, p, cs) :: r) Γ) F ρ (tSeq (tAsg (tOp (rI0 fun i j => .int (i + j)) ta (tCall (spU K G) [] E tA)) (gName i)) tz) D := fun σ H st => by
  obtain ⟨ow, h2⟩ := nest_focus (ob := obD) np
  refine ev_run (te := ta) (hm _) st fun H1 st1 => ?_
  have st2 := stt_mem (fun x hx => ((h2 cs).2 x).mpr hx) st1
  refine callU_run ow st2 (ha _) (hg _) fun H2 c hc st3 => ⟨m, c, rfl, rfl, ?_⟩
  have st4 := stt_mem (fun x hx => ((h2 cs').2 x).mp hx) st3
  exact q c hc (h2 cs').1 _ H2 (stt_set hi (fun Δ _ _ => rfl) st4)
section
variable {t : TS}
/-- the same within another loop -/
theorem wp_forPN {β : Type} {P : β → Prop} {wi : TI} {g : TG} {js : List Nat} {n : β → Nat} {st : β → Nat → Z.Env → Z.Env} (Iv : β → Nat → Own → Z.Env → Prop) (S : SrcP K Γ wi g ρ js P n st) (h0 : ∀ b, P b → Iv b 0 Γ ρ) (hl : ∀ b i Γ' ρ', Iv b i Γ' ρ' → ρ'.length = ρ.length)
    (hs : ∀ b, P b → ∀ i Γ' ρ' F', i < n b → Iv b i Γ' ρ' → Wp K Δ0 H0 Γ' F' (st b i ρ') t { D with nx := At K Δ0 H0 F' (Iv b) (i + 1), ct := At K Δ0 H0 F' (Iv b) (i + 1), bk := tz D })
    (hd : ∀ b, P b → ∀ Γ' ρ', Iv b (n b) Γ' ρ' → Wp K Δ0 H0 Γ' F ρ' tz D) : Wp K Δ0 H0 Γ F ρ (tSeq (tFor wi g t) tz) D := fun σ H ⟨Δ, s, hh, e, f, e0, s1, s2⟩ =>
  S Δ σ H _ s hh e fun b J H1 pv pc hb e1 rp0 hgo hyld => by
    refine ⟨fun i m σ2 H2 => m = n b - i ∧ i ≤ n b ∧ At K Δ0 H0 ((pv, pc) :: F) (Iv b) i σ2 H2, ⟨n b, by simp, Nat.zero_le _, Γ, ρ, h0 b hb, Δ, s, e1.2, e.mono e1.1, ?_, ext0 e0 s1 s2 e1, s1, s2⟩, ?_⟩
    · intro q hq
      rcases List.mem_cons.mp hq with z | z
      · rw [z]; exact rp0
      · exact q.2.r.mono e1.1 (f q z)
    · rintro i m σ2 H2 ⟨rfl, hi, Γ', ρ', iv, st2⟩
      obtain ⟨Δ', s', hh', e', f', e0', s1', s2'⟩ := id st2
      have rp2 : pc.rp K Δ' H2 pv := f' (pv, pc) List.mem_cons_self
      have hg := hgo Δ' H2 rp2
      by_cases hlt : i < n b
      · refine .inr ⟨hg.1 i hlt, At K Δ0 H0 ((pv, pc) :: F) (Iv b) (i + 1), fun σ3 H3 a => ⟨n b - (i + 1), by omega, rfl, hlt, a⟩, fun x H3 hy => ?_⟩
        obtain ⟨e3, hput⟩ := hyld Δ' i H2 x H3 hlt hh' rp2 hy
        refine hput σ2 ρ' _ (hl b i Γ' ρ' iv) (e'.mono e3.1) fun σ3 env3 _ _ => ?_
        exact hs b hb i Γ' ρ' _ hlt iv σ3 H3 ⟨Δ', s', e3.2, env3, fun q hq => q.2.r.mono e3.1 (f' q hq), ext0 e0' s1' s2' e3, s1', s2'⟩
      · have ei : i = n b := by omega
        subst ei
        exact .inl ⟨hg.2, hd b hb Γ' ρ' iv σ2 H2 ⟨Δ', s', hh', e', fun q hq => f' q (List.mem_cons_of_mem _ hq), e0', s1', s2'⟩⟩
end
/-- name = {0: {0: True}} -/
theorem wp_disp2 {i : Nat} (hi : i < ρ.length) (q : ∀ g p, NestP Δ0 Γ g [(0, p, [0])] → Wp K Δ0 H0 (OwnN g obD [(0, p, [0])] Γ) F (ρ.set i (some ⟨(⟨g⟩ : Loc)⟩)) tz D) :
    Wp K Δ0 H0 Γ F ρ (tSeq (tAsg (tDisp [(tC (.int 0), tDisp [(tC (.int 0), tC (.bl true))])]) (gName i)) tz) D := fun σ H st => fun g hg => by
  obtain ⟨og, st1⟩ := stt_new (o := .dK []) hg st
  intro p hp
  obtain ⟨op, st2⟩ := stt_new (o := .dK []) hp st1
  refine ⟨upd_same, [(.inl 0, .bl true)], rfl, by show 1 ≤ 15; decide, ?_⟩
  have st3 := (own_putO (o2 := obD [0]) op st2).2
  have pg : p ≠ g := fun z => op.ne _ List.mem_cons_self z.symm
  have c3 := stt_cell (List.mem_cons_of_mem _ List.mem_cons_self) st3
  refine ⟨c3, [(.inl 0, .ref p)], rfl, by show 1 ≤ 15; decide, ?_⟩
  have og2 : OwnP Δ0 ((p, ObIs (obD [0])) :: Γ) g := ⟨og.n0, fun x hx => by
    rcases List.mem_cons.mp hx with z | z
    · rw [z]; exact pg
    · exact og.ne x z⟩
  have st4 := (own_putO (o2 := .dK (outV [(0, p, [0])])) og2 (stt_mem (fun x hx => by
    rcases List.mem_cons.mp hx with z | z
    · rw [z]; exact List.mem_cons_of_mem _ List.mem_cons_self
    · rcases List.mem_cons.mp z with z | z
      · rw [z]; exact List.mem_cons_self
      · exact List.mem_cons_of_mem _ (List.mem_cons_of_mem _ z)) st3)).2
  refine q g p ⟨og, fun e he => ?_, List.nodup_cons.mpr ⟨List.not_mem_nil, List.nodup_nil⟩, List.nodup_cons.mpr ⟨List.not_mem_nil, List.nodup_nil⟩⟩ _ _ (stt_set hi (fun Δ _ _ => rfl) st4)
  rw [List.mem_singleton.mp he]
  exact ⟨⟨op.n0, fun x hx => op.ne x (List.mem_cons_of_mem _ hx)⟩, pg⟩
end
end Z

set_option Elab.async false
set_option linter.all false
set_option maxRecDepth 100000
set_option maxHeartbeats 4000000
/-! sorted of a dict of texts, of any length; own dicts of texts set and asked; while -/
namespace L2
open PySem PySem.Spec PyProof.Rows
/-- sorted(d), its keys texts, any number of them -/
def rSortedDT : List V → Hp → VK → Prop := fun xs H Q => ∃ (a : Addr) (kvs : List (Key × V)) (ks : List Str), xs = [.ref a] ∧ Rd H a (.dK kvs) ∧ kvs.map (·.1) = ks.map Sum.inr ∧
  ∀ ys p, ys.Perm ks → Zs.Rise ys → H p = none → Q (.ref p) (upd H p (.lst (ys.map V.str)))
theorem cr_sortedDT {X : Cx} (hcalm : X.calm = true) : CallR X (.builtin "sorted") rSortedDT := by
  intro pins s σ H xs us Q I r q
  obtain ⟨a, kvs, ks, ex, hd, hks, q⟩ := q
  subst ex
  obtain ⟨u, eu, rx⟩ := vals1 r
  subst eu
  cases rx
  obtain ⟨z, lo, vs, rel, dd⟩ := dk_rd I.hok hd
  obtain ⟨ep, hat⟩ := dd.dictAt
  have hkeys : vs.map (·.1) = ks.map Sum.inr := rel.keys.symm.trans hks
  have hl : vs.length = ks.length := by
    have e := congrArg List.length hkeys
    rw [List.length_map, List.length_map] at e
    exact e
  have hl2 : kvs.length = vs.length := Paired.length rel
  have h16 : vs.length ≤ sizeLine := by omega
  refine Calls.call_function_entry PyProof.Rows.kind_sorted PyProof.Rows.plain_sorted PyProof.Rows.entry_sorted (PyProof.Rows.args_sorted1 _) ?_
  unfold Builtin.«sorted»
  refine wpAny_bind (m := checkCount "sorted" 1 1 _) (wpAny_pure ?_)
  refine wpAny_bind (PySem.W.kdu_collect (A := X.A.in1) (PySem.W.kdl_dict (knd := mixKind X.prog X.w) (kvs := vs) (ep := ep) lo) (I.ok.hd hcalm) hat h16 fun h' tk acc hk hacc => ?_)
  have hal : acc.toList.length = ks.length := by rw [Array.length_toList, hacc.1, hl]
  have hS : StrsAre acc.toList ks := strs_at hal fun j v e => by
    obtain ⟨k, x, e1, e2⟩ := hacc.2 j v (by rw [← Array.getElem?_toList]; exact e)
    have e3 : (vs.map (·.1))[j]? = some k := by rw [List.getElem?_map, e1]; all_goals rfl
    rw [hkeys, List.getElem?_map] at e3
    cases e4 : ks[j]? with
    | none => rw [e4] at e3; cases e3
    | some y =>
      rw [e4] at e3
      have e5 : Sum.inr y = k := Option.some.inj e3
      subst e5
      obtain ⟨t, ev⟩ := Value.isStrOf_shape (x := y) (v := v) e2
      exact ⟨y, t, rfl, ev⟩
  have hsz : acc.toList.length ≤ sizeLine := by rw [hal, ← hl]; exact h16
  have I1 : Inv X pins σ H { s with heap := h', toks := tk } := I.kept hk
  refine wpAny_bind (wpAny_newList ?_ hsz)
  have hoL : (h'.push (seqObj "list" acc.toList.toArray 0)).get? h'.objs.size = some (seqObj "list" acc.toList.toArray 0) := Heap.get?_push_size _ rfl
  show wpAny _ _ _ _ _ { s with heap := h'.push (seqObj "list" acc.toList.toArray 0), toks := tk }
  refine wpAny_bind (wpAny_holding (wpAny_call_entry PyProof.Rows.slot_list_sort ⟨_, hoL, rfl⟩ PyProof.Rows.entry_list_sort
    (SrtO.list_sort_ord Zs.swo_txt (s := { s with heap := h'.push (seqObj "list" acc.toList.toArray 0), toks := tk }) hoL hsz (fun h2 => Zs.txt_sortable hS h2) fun out h1 h2 => ⟨_, rfl, ?_⟩)
    (PyProof.Rows.args_list_sort _)))
  obtain ⟨k1, k2, k3⟩ := Zs.txt_out hS h1 h2
  obtain ⟨e', he'⟩ := PyProof.Rows.sortedHeap_at (vs := acc.toList) (out := out.toArray) hoL
  have hlen : ((out.map Zs.tv).map V.str).length ≤ sizeLine := by
    rw [List.length_map, k2.length_eq, ← hl]
    exact h16
  refine wpAny_pure ⟨_, rfl, .ref h'.objs.size, upd H h'.objs.size (.lst ((out.map Zs.tv).map V.str)), I1.laid (t' := tk) (fun b u e => ?_) (Nat.le_refl _)
    (show ObjOk X.prog X.w _ _ _ (.lst ((out.map Zs.tv).map V.str)) from ⟨hlen, out, e', vals_of_strs k1, he'⟩), rfl, q _ _ k2 k3 (I1.hok.fresh (Nat.le_refl _))⟩
  have hb : b < h'.objs.size := Heap.lt_size e
  rw [PyProof.Rows.sortedHeap_old (Nat.ne_of_lt hb) (by rw [size_push']; exact Nat.lt_succ_of_lt hb)]
  exact Heap.get?_push_of_some _ e
end L2
namespace Z
open PySem PySem.Spec PyProof.Rows L2 Zd
section
variable {K : PySem.W.Frag} {Δ0 : Gh} {H0 : Hp} {Γ Γ' : Own} {F : List (V × Cell)} {ρ : Z.Env} {te ta tk tx ti : TE} {tA : TA} {σ : L2.St} {H : Hp} {D : Ends} {tz : TS}
/-- sorted(d), the dict one's own -/
theorem ev_sortedD {d : Addr} {ks : List Tx} (hm : (d, ObIs (.dK (kvT ks))) ∈ Γ) (h : Ev K Γ te ρ (Is (⟨d⟩ : Loc))) : Ev K Γ (tCB rSortedDT (tCons te tNil)) ρ (SortedT ks) := fun Δ σ H Q s hh e k =>
  h Δ σ H _ s hh e fun v H1 a pa e1 r => by
    have ea : a = ⟨d⟩ := pa
    subst ea
    have ev : v = .ref d := r
    subst ev
    obtain ⟨u, hu, iu⟩ := e1.2 d _ (s _ hm)
    have iu' : u = HO.dK (kvT ks) := iu
    subst iu'
    refine ⟨d, kvT ks, ks.map tS, rfl, .inl hu, by unfold kvT; rw [List.map_map, List.map_map]; rfl, fun ns' l hp hr hl => ?_⟩
    have e1' : ns' = (ns'.map fun z => (⟨z.cps.toList⟩ : Tx)).map fun x => (⟨x.s.toArray⟩ : Str) := by
      rw [List.map_map]
      conv => lhs; rw [← List.map_id ns']
      exact List.map_congr_left fun z _ => by cases z; rfl
    refine k _ _ (ns'.map fun z => (⟨z.cps.toList⟩ : Tx)) ⟨?_, ?_⟩ (e1.trans (Ext.new e1.2 hl _)) (new_lst e1.2 hl ?_)
    · have h := hp.map fun z => (⟨z.cps.toList⟩ : Tx)
      rw [List.map_map] at h
      have e2 : (ks.map ((fun z => (⟨z.cps.toList⟩ : Tx)) ∘ tS)) = ks := by
        conv => rhs; rw [← List.map_id ks]
        exact List.map_congr_left fun z _ => by cases z; rfl
      rw [e2] at h
      exact h
    · exact List.pairwise_map.mpr hr
    · have e2 : ns'.map V.str = (ns'.map fun z => (⟨z.cps.toList⟩ : Tx)).map fun x => V.str ⟨x.s.toArray⟩ := by
        conv => lhs; rw [e1']
        rw [List.map_map]
        rfl
      rw [e2]
      have em : (ns'.map fun z => (⟨z.cps.toList⟩ : Tx)) = (ns'.map fun z => (⟨z.cps.toList⟩ : Tx)).map id := (List.map_id _).symm
      conv => rhs; rw [em]
      exact All2.map fun x _ => rfl
def addT (ks : List Tx) (x : Tx) : List Tx := if x ∈ ks then ks else ks ++ [x]
theorem putK_addT {ks : List Tx} {x : Tx} : putK (kvT ks) (.inr (tS x)) (.bl true) = kvT (addT ks x) := by
  unfold putK addT
  rw [any_kvT]
  by_cases h : x ∈ ks
  · rw [decide_eq_true h, if_pos rfl, if_pos h]
    unfold kvT
    rw [List.map_map]
    refine List.map_congr_left fun c _ => ?_
    show (if _ then _ else _) = _
    split <;> rfl
  · rw [decide_eq_false h, if_neg Bool.false_ne_true, if_neg h]
    unfold kvT
    rw [List.map_append]
    rfl
theorem valV_kvT {ks : List Tx} {x : Tx} : (valV (kvT ks) (.inr (tS x) : Key)).isSome = decide (x ∈ ks) := by
  induction ks with
  | nil => rfl
  | cons y ys ih =>
    by_cases e : y = x
    · subst e
      rw [show kvT (y :: ys) = (.inr (tS y), .bl true) :: kvT ys from rfl, valV_pos rfl]
      simp
    · show (valV ((.inr (tS y), .bl true) :: kvT ys) _).isSome = _
      rw [valV_neg (fun z => e (tS_inj.mp (Sum.inr.inj z))), ih]
      have e2 : ¬ x = y := fun z => e z.symm
      simp [e2]
/-- x not in d, d one's own -/
theorem ev_notInT {d : Addr} {ks : List Tx} {x : Tx} (hm : (d, ObIs (.dK (kvT ks))) ∈ Γ) (hx : Ev K Γ tx ρ (Is x)) (ho : Ev K Γ ta ρ (Is (⟨d⟩ : Loc))) : Ev K Γ (tDNotIn tx ta) ρ (Is (!decide (x ∈ ks))) := fun Δ σ H Q s hh e q =>
  hx Δ σ H _ s hh e fun v H1 a pa e1 r1 => ho Δ σ H1 _ s e1.2 (e.mono e1.1) fun w H2 b pb e2 r2 => by
    have ea : a = x := pa
    subst ea
    have ev : v = .str (tS a) := r1
    subst ev
    have eb : b = ⟨d⟩ := pb
    subst eb
    have ew : w = .ref d := r2
    subst ew
    obtain ⟨u, hu, iu⟩ := e2.2 d _ (s _ hm)
    have iu' : u = HO.dK (kvT ks) := iu
    subst iu'
    refine ⟨d, _, rfl, DGet.k (k := .inr (tS a)) hu, ?_⟩
    rw [valV_kvT]
    exact q _ H2 _ rfl (e1.trans e2) rfl
/-- d[x] = True, d one's own; the last of a block -/
theorem wp_putT {p : Addr} {ks : List Tx} {x : Tx} (ow : OwnP Δ0 Γ p) (hl : ks.length < 50000) (hv : Ev K ((p, ObIs (.dK (kvT ks))) :: Γ) te ρ (Is true)) (ho : Ev K ((p, ObIs (.dK (kvT ks))) :: Γ) ta ρ (Is (⟨p⟩ : Loc))) (hx : Ev K ((p, ObIs (.dK (kvT ks))) :: Γ) tx ρ (Is x))
    (k : Wp K Δ0 H0 ((p, ObIs (.dK (kvT (addT ks x)))) :: Γ) F ρ tNext D) : Wp K Δ0 H0 ((p, ObIs (.dK (kvT ks))) :: Γ) F ρ (sDPut ta tx te) D := fun σ H st => by
  refine ev_run (te := te) hv st fun H1 st1 => ?_
  refine ev_run (te := ta) ho st1 fun H2 st2 => ?_
  refine ev_run (te := tx) hx st2 fun H3 st3 => ?_
  refine ⟨p, _, rfl, DPut.k (k := .inr (tS x)) (stt_cell List.mem_cons_self st3) ?_, ?_⟩
  · unfold kvT
    rw [List.length_map]
    exact Nat.lt_trans hl (by decide)
  · have e : putK (kvT ks) (.inr (tS x)) (Flat.val true) = kvT (addT ks x) := putK_addT
    rw [e]
    exact k σ _ (own_putO ow st3).2
/-- list(d) of a dict that is kept still -/
theorem ev_listZ {d : Addr} {ks : List Tx} (h : Ev K Γ te ρ (Is (⟨d, .dK (kvT ks)⟩ : Fz))) : Ev K Γ (tCB (fun xs H Q => ∃ (a : Addr) (kvs : List (Key × V)), xs = [.ref a] ∧ Rd H a (.dK kvs) ∧ ∀ p, H p = none → Q (.ref p) (upd H p (.lst (kvs.map fun kv => kV kv.1)))) (tCons te tNil)) ρ (Is ks) := fun Δ σ H Q s hh e k =>
  h Δ σ H _ s hh e fun v H1 a pa e1 r => by
    have ea : a = ⟨d, .dK (kvT ks)⟩ := pa
    subst ea
    obtain ⟨rfl, n, od, hd⟩ := r
    refine ⟨d, kvT ks, rfl, .inr ⟨_, hd⟩, fun q hq => k _ _ ks rfl (e1.trans (Ext.new e1.2 hq _)) (new_lst e1.2 hq ?_)⟩
    have em : ((kvT ks).map fun kv => kV kv.1) = ks.map Flat.val := by
      unfold kvT
      rw [List.map_map]
      rfl
    rw [em]
    exact all2_flat ks
def AtW (K : PySem.W.Frag) (Δ0 : Gh) (H0 : Hp) (F : List (V × Cell)) (Iv : Nat → Own → Z.Env → Prop) (m : Nat) : L2.St → Hp → Prop := fun σ H => ∃ m', m' < m ∧ ∃ Γ' ρ', Iv m' Γ' ρ' ∧ Stt K Δ0 H0 Γ' F ρ' σ H
theorem wp_while {c : TT} {tb : TS} (Iv : Nat → Own → Z.Env → Prop) {m0 : Nat} (h0 : Iv m0 Γ ρ)
    (hc : ∀ m Γ' ρ', Iv m Γ' ρ' → ∃ b : Bool, EvT K Γ' c ρ' (Is b) ∧ (b = true → Wp K Δ0 H0 Γ' F ρ' tb { D with nx := AtW K Δ0 H0 F Iv m, ct := AtW K Δ0 H0 F Iv m, bk := tz D }) ∧ (b = false → Wp K Δ0 H0 Γ' F ρ' tz D)) :
    Wp K Δ0 H0 Γ F ρ (tSeq (tWhile c tb) tz) D := fun σ H st => by
  refine ⟨fun m σ H => ∃ Γ' ρ', Iv m Γ' ρ' ∧ Stt K Δ0 H0 Γ' F ρ' σ H, ⟨m0, Γ, ρ, h0, st⟩, ?_⟩
  rintro m σ1 H1 ⟨Γ', ρ', iv, st1⟩
  obtain ⟨b, ht, h1, h2⟩ := hc m Γ' ρ' iv
  obtain ⟨Δ, s, hh, e, f, e0, s1, s2⟩ := st1
  refine ht Δ σ1 H1 _ s hh e fun b' H2 pb e1 => ?_
  have eb : b' = b := pb
  subst eb
  have st2 : Stt K Δ0 H0 Γ' F ρ' σ1 H2 := ⟨Δ, s, e1.2, e.mono e1.1, fun q hq => q.2.r.mono e1.1 (f q hq), ext0 e0 s1 s2 e1, s1, s2⟩
  cases b' with
  | true =>
    rw [if_pos rfl]
    exact ⟨AtW K Δ0 H0 F Iv m, fun σ' H' ⟨m', lt, a⟩ => ⟨m', lt, a⟩, h1 rfl σ1 H2 st2⟩
  | false =>
    rw [if_neg Bool.false_ne_true]
    exact h2 rfl σ1 H2 st2
theorem wp_turnW {Iv : Nat → Own → Z.Env → Prop} {m m' : Nat} (hiv : Iv m' Γ ρ) (lt : m' < m) (e : D.nx = AtW K Δ0 H0 F Iv m) : Wp K Δ0 H0 Γ F ρ tNext D := fun σ H st => by
  show D.nx σ H
  rw [e]
  exact ⟨m', lt, Γ, ρ, hiv, st⟩
/-- a, b = {x: True}, [y] -/
theorem wp_parDL {i j : Nat} {x y : Tx} {tk tv ty : TE} (hk : ∀ Γ', Ev K Γ' tk ρ (Is x)) (hv : ∀ Γ', Ev K Γ' tv ρ (Is true)) (hy : ∀ Γ', Ev K Γ' ty ρ (Is y)) (hi : i < ρ.length) (hj : j < ρ.length)
    (k : ∀ d, OwnP Δ0 Γ d → Wp K Δ0 H0 ((d, ObIs (.dK (kvT [x]))) :: Γ) F ((ρ.set i (some ⟨(⟨d⟩ : Loc)⟩)).set j (some ⟨([y] : List Tx)⟩)) tz D) :
    Wp K Δ0 H0 Γ F ρ (tSeq (tPar i j (tCons (tDisp [(tk, tv)]) (tCons (tLst (tCons ty tNil)) tNil))) tz) D := fun σ H ⟨Δ, s, hh, e, f, e0, s1, s2⟩ => by
  have hd := en_disp1 (K := K) (Γ := Γ) (ρ := ρ) (κ := Tx) (ν := Bool) (x := x) (y := true) (k0 := .inr (tS x)) rfl (hk Γ) (hv Γ)
  show tDisp [(tk, tv)] σ H (fun v H1 => tLst (tCons ty tNil) σ H1 fun w H2 => ∃ v' w', [v, w] = [v', w'] ∧ tz D ((σ.set i (some v')).set j (some w')) H2)
  refine hd Δ σ H _ s hh e fun d H1 o io hd nd e1 hdo => ?_
  have eo : o = HO.dK (kvT [x]) := io
  subst eo
  obtain ⟨od, st⟩ := own_come (K := K) (Δ0 := Δ0) (H0 := H0) (F := F) s hh e f e0 s1 s2 hd e1 hdo
  obtain ⟨Δ', s', hh', e', f', e0', s1', s2'⟩ := st
  have hl := ev_lst (K := K) (Γ := (d, ObIs (.dK (kvT [x]))) :: Γ) (xs := [y]) (ea_1 (hy _) ea_nil) (by show 1 ≤ 100000; decide)
  refine hl Δ' σ H1 _ s' hh' e' fun v H2 ys pys e2 r2 => ?_
  have ey : ys = [y] := pys
  subst ey
  exact ⟨_, _, rfl, k d od _ _ ⟨Δ', s', e2.2, ((e'.mono e2.1).set (c := ⟨(⟨d⟩ : Loc)⟩) (v := .ref d) hi rfl).set (c := ⟨([y] : List Tx)⟩) (by rw [List.length_set]; exact hj) r2, fun q hq => q.2.r.mono e2.1 (f' q hq), ext0 e0' s1' s2' e2, s1', s2'⟩⟩
end
end Z

set_option Elab.async false
set_option linter.all false
set_option maxRecDepth 100000
namespace K00
open PySem PySem.Spec PyProof.Rows L2 Z
/-! ### the mathematics -/
/-- sign i of a row -/
def sg (x : Tx) (i : Nat) : Nat := x.s.getD i 0
/-- the row of n signs -/
def mk (n : Nat) (f : Nat → Nat) : Tx := ⟨(List.range n).map f⟩
/-- the places below n with p -/
def ix (n : Nat) (p : Nat → Bool) : List Int := ((List.range n).filter p).map fun i => ((i : Nat) : Int)
theorem sg_at {x : Tx} {i : Nat} (h : i < x.s.length) : x.s[i]? = some (sg x i) := by
  rw [sg, List.getD_eq_getElem?_getD, List.getElem?_eq_getElem h]
  rfl
theorem mk_len {n : Nat} {f : Nat → Nat} : (mk n f).s.length = n := by simp [mk]
theorem mk_sg {n : Nat} {f : Nat → Nat} {i : Nat} (h : i < n) : sg (mk n f) i = f i := by
  simp [sg, mk, List.getD_eq_getElem?_getD, h]
theorem mk_self (x : Tx) : mk x.s.length (sg x) = x := by
  cases x with
  | mk s =>
    unfold mk
    congr 1
    apply List.ext_getElem?
    intro i
    by_cases h : i < s.length
    · simp [h, sg]
    · rw [List.getElem?_eq_none (by simp; omega), List.getElem?_eq_none (by omega)]
theorem mk_congr {n : Nat} {f g : Nat → Nat} (h : ∀ i, i < n → f i = g i) : mk n f = mk n g := by
  unfold mk
  congr 1
  exact List.map_congr_left fun i hi => h i (List.mem_range.mp hi)
theorem ix_congr {n : Nat} {p q : Nat → Bool} (h : ∀ i, i < n → p i = q i) : ix n p = ix n q := by
  unfold ix
  congr 1
  exact List.filter_congr fun i hi => h i (List.mem_range.mp hi)
theorem map_sw (x : Tx) : (⟨x.s.map sw⟩ : Tx) = mk x.s.length fun i => sw (sg x i) := by
  conv => lhs; rw [← mk_self x]
  unfold mk
  rw [List.map_map]
  rfl
theorem flat_mk {n : Nat} {f : Nat → Nat} : (⟨(((List.range n).map fun i => (⟨[f i]⟩ : Tx)).map (·.s)).flatten⟩ : Tx) = mk n f := by
  unfold mk
  congr 1
  induction n with
  | zero => rfl
  | succ n ih => rw [List.range_succ, List.map_append, List.map_append, List.flatten_append, ih, List.map_append]; rfl
theorem flat_len {n : Nat} {f : Nat → Nat} : (((List.range n).map fun i => (⟨[f i]⟩ : Tx)).map (·.s)).flatten.length = n := by
  have h := congrArg (fun t : Tx => t.s.length) (flat_mk (n := n) (f := f))
  simp only [mk_len] at h
  exact h
/-- a row of at most nine signs -/
structure Row (x : Tx) : Prop where
  all : x.s.all isSign = true
  len : x.s.length ≤ 9
theorem Row.sg {x : Tx} (h : Row x) {i : Nat} (hi : i < x.s.length) : isSign (sg x i) = true := List.all_eq_true.mp h.all _ (by
  rw [K00.sg, List.getD_eq_getElem?_getD, List.getElem?_eq_getElem hi]
  exact List.getElem_mem hi)
theorem row_mk {n : Nat} {f : Nat → Nat} (hn : n ≤ 9) (h : ∀ i, i < n → isSign (f i) = true) : Row (mk n f) := ⟨List.all_eq_true.mpr fun c hc => by
  unfold K00.mk at hc
  obtain ⟨i, hi, rfl⟩ := List.mem_map.mp hc
  exact h i (List.mem_range.mp hi), by rw [mk_len]; exact hn⟩
/-- ascending, from l on, below n -/
def ascF (n : Int) : Int → List Int → Bool
  | _, [] => true
  | l, t :: r => (decide (l ≤ t) && decide (t ≤ n - 1)) && ascF n (t + 1) r
theorem ascF_all {n : Int} : ∀ {l : Int} {ts : List Int}, ascF n l ts = true → ∀ t ∈ ts, l ≤ t ∧ t < n
  | _, [], _, t, ht => by cases ht
  | l, t0 :: r, h, t, ht => by
    simp only [ascF, Bool.and_eq_true, decide_eq_true_eq] at h
    rcases List.mem_cons.mp ht with rfl | ht
    · omega
    · have := ascF_all h.2 t ht
      omega
/-- what is asked of the next thing -/
def nextL (l : Int) : List Int → Int
  | [] => l
  | t :: r => nextL (t + 1) r
theorem nextL_snoc (l : Int) : ∀ (ts : List Int) (t : Int), nextL l (ts ++ [t]) = t + 1
  | [], t => rfl
  | a :: r, t => nextL_snoc (a + 1) r t
theorem ascF_snoc (n : Int) : ∀ (l : Int) (ts : List Int) (t : Int), ascF n l (ts ++ [t]) = (ascF n l ts && (decide (nextL l ts ≤ t) && decide (t ≤ n - 1)))
  | l, [], t => by
    show ((decide (l ≤ t) && decide (t ≤ n - 1)) && true) = (true && (decide (l ≤ t) && decide (t ≤ n - 1)))
    rw [Bool.and_true, Bool.true_and]
  | l, a :: r, t => by
    show (_ && ascF n (a + 1) (r ++ [t])) = _
    rw [ascF_snoc n (a + 1) r t, ← Bool.and_assoc]
    rfl
theorem ascF_app {n l : Int} {ts us : List Int} (h : ascF n l ts = false) : ascF n l (ts ++ us) = false := by
  induction ts generalizing l with
  | nil => cases h
  | cons a r ih =>
    show (_ && ascF n (a + 1) (r ++ us)) = false
    have h' : (_ && ascF n (a + 1) r) = false := h
    cases hx : (decide (l ≤ a) && decide (a ≤ n - 1)) with
    | false => rfl
    | true =>
      rw [hx] at h'
      rw [ih h']
      rfl
/-- the code of a row's first i signs -/
def bitAt (i c : Nat) : Nat := if c = 43 then 2 ^ i else if c = 45 then 2 ^ (i + 9) else 0
def codeUp (x : Tx) : Nat → Nat
  | 0 => 0
  | i + 1 => codeUp x i ||| bitAt i (sg x i)
def codeT (x : Tx) : Nat := codeUp x x.s.length
def tcode (c : Nat) : Nat := c / 2 ^ 9 ||| (c &&& 511) * 2 ^ 9
/-- apart at a sign, agreeing there -/
def ap (c d : Nat) : Bool := (!decide (c = 48)) && ((!decide (d = 48)) && !decide (c = d))
def upr (x y : Tx) : Bool := decide (decide (codeT x &&& codeT y = 0) = decide (codeT x &&& tcode (codeT y) = 0))

end K00

set_option Elab.async false
set_option linter.all false
set_option maxRecDepth 100000
set_option maxHeartbeats 1000000
namespace K03
open PySem PySem.Spec PyProof.Rows L2 Z
def top (i : Nat) : Stmt := PySem.Challenge.pw_sidesigns_k03_whole_layings_and_uprights.main.body.getD i (.Pass ⟨0, 0, 0, 0⟩)
structure Txt (K : PySem.W.Frag) (mg : Str → Option Value) : Prop where
  z_abs : mg "abs" = none
  z_all : mg "all" = none
  z_bool : mg "bool" = none
  z_enumerate : mg "enumerate" = none
  z_int : mg "int" = none
  z_isinstance : mg "isinstance" = none
  z_iter : mg "iter" = none
  z_len : mg "len" = none
  z_list : mg "list" = none
  z_max : mg "max" = none
  z_min : mg "min" = none
  z_property : mg "property" = none
  z_range : mg "range" = none
  z_sorted : mg "sorted" = none
  z_str : mg "str" = none
  z_tuple : mg "tuple" = none
  z_zip : mg "zip" = none
  i_SHIFT : ∃ t, mg "SHIFT" = some (.int 9 t)
  i_LOW : ∃ t, mg "LOW" = some (.int 511 t)
  i_MAX_THINGS : ∃ t, mg "MAX_THINGS" = some (.int 9 t)
  i_MAX_LAYINGS : ∃ t, mg "MAX_LAYINGS" = some (.int 7000 t)
  i_MAX_UPRIGHT : ∃ t, mg "MAX_UPRIGHT" = some (.int 7 t)
/-- a def without defaults -/
structure Df (K : PySem.W.Frag) (mg : Str → Option Value) (x : Str) (st : Stmt) (ps : List Str) (f : Addr) (fd : FuncData) : Prop where
  F : FunD K x x (defArgs st) (defBody st) (defScope st) [] [] f fd
  g : mg x = some (.ref f)
  b : Binds K fd ps []
theorem Df.kp {K : PySem.W.Frag} {mg : Str → Option Value} {x : Str} {st : Stmt} {ps : List Str} {f : Addr} {fd : FuncData} (D : Df K mg x st ps f fd) : PySem.W.keepIn K (.ref f) = true := D.F.kp
/-- a def whose last parameter is None by default -/
structure DfD (K : PySem.W.Frag) (mg : Str → Option Value) (x : Str) (st : Stmt) (ps : List Str) (f : Addr) (fd : FuncData) : Prop where
  F : FunD K x x (defArgs st) (defBody st) (defScope st) [V.non] [] f fd
  g : mg x = some (.ref f)
  b : Binds K fd ps []
  b1 : Binds K fd ps [Value.none]
theorem DfD.kp {K : PySem.W.Frag} {mg : Str → Option Value} {x : Str} {st : Stmt} {ps : List Str} {f : Addr} {fd : FuncData} (D : DfD K mg x st ps f fd) : PySem.W.keepIn K (.ref f) = true := D.F.kp
theorem DfD.v1 {K : PySem.W.Frag} {mg : Str → Option Value} {x : Str} {st : Stmt} {ps : List Str} {f : Addr} {fd : FuncData} (D : DfD K mg x st ps f fd) : Vals [V.non] [Value.none] := .cons rfl .nil
/-- a method -/
structure DfM (K : PySem.W.Frag) (dvs : List V) (x q : Str) (st : Stmt) (ps : List Str) (f : Addr) (fd : FuncData) : Prop where
  F : FunD K x q (defArgs st) (defBody st) (defScope st) dvs [] f fd
  b : Binds K fd ps []
abbrev s__wall : Stmt := top 0
abbrev s_InvalidNumber___init__ : Stmt := inClass (top 4) 0
abbrev s_TooMany___init__ : Stmt := inClass (top 5) 0
abbrev s_is_integer : Stmt := top 7
abbrev s_is_between : Stmt := top 8
abbrev s_code_of : Stmt := top 12
abbrev s_rows_by_code : Stmt := top 13
abbrev s_rows_of : Stmt := top 14
abbrev s_turned_code : Stmt := top 15
abbrev s_mask_of : Stmt := top 16
abbrev s_has_within : Stmt := top 17
abbrev s_least_masks : Stmt := top 18
abbrev s_size_of : Stmt := top 19
abbrev s_both_signs : Stmt := top 20
abbrev s_is_row : Stmt := top 25
abbrev s_check_many : Stmt := top 26
abbrev s__is_code_upright : Stmt := top 27
abbrev s__laid_codes : Stmt := top 28
abbrev s__parts_beside : Stmt := top 29
abbrev s__fill : Stmt := top 30
abbrev s__is_upright_to_all : Stmt := top 31
abbrev s_Lot___init__ : Stmt := inClass (top 32) 0
abbrev s_Lot_many : Stmt := inClass (top 32) 1
abbrev s_Lot_rows : Stmt := inClass (top 32) 2
abbrev s_Lot_is_even : Stmt := inClass (top 32) 3
abbrev s_Lot___len__ : Stmt := inClass (top 32) 4
abbrev s_Lot___iter__ : Stmt := inClass (top 32) 5
abbrev s_Lot___contains__ : Stmt := inClass (top 32) 6
abbrev s_Lot___eq__ : Stmt := inClass (top 32) 7
abbrev s_Lot___str__ : Stmt := inClass (top 32) 8
abbrev s_Lot___or__ : Stmt := inClass (top 32) 9
abbrev s_Lot___and__ : Stmt := inClass (top 32) 10
abbrev s_Lot___sub__ : Stmt := inClass (top 32) 11
abbrev s_Lot_least : Stmt := inClass (top 32) 12
abbrev s_Lot_with_turned : Stmt := inClass (top 32) 13
abbrev s_Lot_turned_at : Stmt := inClass (top 32) 14
abbrev s_Lot_layings : Stmt := inClass (top 32) 15
abbrev s_Lot_uprights : Stmt := inClass (top 32) 16
abbrev s_lot_of : Stmt := top 33
abbrev s__check_alike : Stmt := top 34
abbrev s__law_dice : Stmt := top 36
abbrev s__law_roll : Stmt := top 37
abbrev s__law_pick : Stmt := top 38
abbrev s__law_some : Stmt := top 39
abbrev s__law_flip : Stmt := top 40
abbrev s__law_turn : Stmt := top 41
abbrev s__law_laid : Stmt := top 42
abbrev s__law_apart : Stmt := top 43
abbrev s__law_upright : Stmt := top 44
abbrev s__law_layings : Stmt := top 45
abbrev s__law_drawn_row : Stmt := top 46
abbrev s__law_every_row : Stmt := top 47
abbrev s__law_right : Stmt := top 48
abbrev s_law : Stmt := top 49
section
variable {P : Program} {w : World} {K : PySem.W.Frag} {mg : Str → Option Value} {base : Heap}
abbrev Pm (β : Type) := Own → List Cell → (β → Prop) → Prop
def F_is_integer : Pm Bool := fun _ cs R => ∃ i : Int, cs = [⟨i⟩] ∧ R = Is true
theorem sc_is_integer : FnScope ["value"] ["value"] (defScope s_is_integer) := ⟨rfl, rfl, rfl, by decide +kernel, rfl, by decide +kernel, by decide +kernel⟩
theorem ok_is_integer (T : Txt K mg) {f : Addr} {fd : FuncData} (D : Df K mg "is_integer" s_is_integer ["value"] f fd) : FnOk P w K mg base CX0 2 f fd ["value"] (spD K F_is_integer) := by
  obtain ⟨_, hI_SHIFT⟩ := T.i_SHIFT
  obtain ⟨_, hI_LOW⟩ := T.i_LOW
  obtain ⟨_, hI_MAX_THINGS⟩ := T.i_MAX_THINGS
  obtain ⟨_, hI_MAX_LAYINGS⟩ := T.i_MAX_LAYINGS
  obtain ⟨_, hI_MAX_UPRIGHT⟩ := T.i_MAX_UPRIGHT
  refine def_ok D.F sc_is_integer (fun Γ cs R g => ?len) (fun cdv A outer s H E hr Γ cs R g => ?_)
  case len => obtain ⟨i, rfl, _⟩ := g; rfl
  obtain ⟨i, rfl, rfl⟩ := g
  refine ⟨_, (pss_one (ps_ret (pe_and (pe_callB call_isK (by rfl) T.z_isinstance (by decide +kernel) (pa_cons (pv 0) (pa_cons (pe_bltn (v := .ty "int") (u := .type "int") (by rfl) T.z_int (by decide +kernel) rfl) pa_nil))) (pe_one (pe_not (pe_callB call_isK (by rfl) T.z_isinstance (by decide +kernel) (pa_cons (pv 0) (pa_cons (pe_bltn (v := .ty "bool") (u := .type "bool") (by rfl) T.z_bool (by decide +kernel) rfl) pa_nil)))))))), fun Δ0 D' hf hn => wp_ret hf ?_⟩
  exact ev_is (ev_andV (ev_isi ev_var ty_int (kit_ty (r := true) (by decide +kernel))) fun _ => ev_notV (ev_isi ev_var ty_int (kit_ty (r := false) (by decide +kernel)))) rfl
def F_is_between : Pm Bool := fun _ cs R => ∃ v l m : Int, cs = [⟨v⟩, ⟨l⟩, ⟨m⟩] ∧ R = Is (decide (l ≤ v) && decide (v ≤ m))
theorem sc_is_between : FnScope ["value", "least", "most"] ["value", "least", "most"] (defScope s_is_between) := ⟨rfl, rfl, rfl, by decide +kernel, rfl, by decide +kernel, by decide +kernel⟩
theorem ok_is_between (T : Txt K mg) {f : Addr} {fd : FuncData} (D : Df K mg "is_between" s_is_between ["value", "least", "most"] f fd) {f_is_integer : Addr} {fd_is_integer : FuncData} (D_is_integer : Df K mg "is_integer" s_is_integer ["value"] f_is_integer fd_is_integer) (G_is_integer : FnOk P w K mg base CX0 2 f_is_integer fd_is_integer ["value"] (spD K F_is_integer)) : FnOk P w K mg base CX0 3 f fd ["value", "least", "most"] (spD K F_is_between) := by
  obtain ⟨_, hI_SHIFT⟩ := T.i_SHIFT
  obtain ⟨_, hI_LOW⟩ := T.i_LOW
  obtain ⟨_, hI_MAX_THINGS⟩ := T.i_MAX_THINGS
  obtain ⟨_, hI_MAX_LAYINGS⟩ := T.i_MAX_LAYINGS
  obtain ⟨_, hI_MAX_UPRIGHT⟩ := T.i_MAX_UPRIGHT
  refine def_ok D.F sc_is_between (fun Γ cs R g => ?len) (fun cdv A outer s H E hr Γ cs R g => ?_)
  case len => obtain ⟨v, l, m, rfl, _⟩ := g; rfl
  obtain ⟨v, l, m, rfl, rfl⟩ := g
  refine ⟨_, (pss_one (ps_ret (pe_and (pe_call G_is_integer (hr.mono (by decide)) (by rfl) D_is_integer.g D_is_integer.kp D_is_integer.b .nil pass0 (pa_cons (pv 0) pa_nil)) (pe_one (pe_chain op_le op_le (pv 1) (pv 0) (pv 2)))))), fun Δ0 D' hf hn => wp_ret hf ?_⟩
  exact ev_is (ev_andV (ev_call1 (ea_1 ev_var ea_nil) ⟨v, rfl, rfl⟩) fun _ => ev_chain ev_var ev_var ev_var o2_B0 o2_B0) rfl
def F_is_row : Pm Bool := fun _ cs R => ∃ (x : Tx) (n : Int), cs = [⟨x⟩, ⟨n⟩] ∧ x.s.length ≤ 100000 ∧ R = Is (decide ((x.s.length : Int) = n) && x.s.all isSign)
theorem sc_is_row : FnScope ["value", "many"] ["value", "many"] (defScope s_is_row) := ⟨rfl, rfl, rfl, by decide +kernel, rfl, by decide +kernel, by decide +kernel⟩
theorem ok_is_row (T : Txt K mg) {f : Addr} {fd : FuncData} (D : Df K mg "is_row" s_is_row ["value", "many"] f fd) : FnOk P w K mg base CX0 2 f fd ["value", "many"] (spD K F_is_row) := by
  obtain ⟨_, hI_SHIFT⟩ := T.i_SHIFT
  obtain ⟨_, hI_LOW⟩ := T.i_LOW
  obtain ⟨_, hI_MAX_THINGS⟩ := T.i_MAX_THINGS
  obtain ⟨_, hI_MAX_LAYINGS⟩ := T.i_MAX_LAYINGS
  obtain ⟨_, hI_MAX_UPRIGHT⟩ := T.i_MAX_UPRIGHT
  refine def_ok D.F sc_is_row (fun Γ cs R g => ?len) (fun cdv A outer s H E hr Γ cs R g => ?_)
  case len => obtain ⟨x, n, rfl, _⟩ := g; rfl
  obtain ⟨x, n, rfl, hx, rfl⟩ := g
  refine ⟨_, (pss_one (ps_ret (pe_and (pe_callB call_isK (by rfl) T.z_isinstance (by decide +kernel) (pa_cons (pv 0) (pa_cons (pe_bltn (v := .ty "str") (u := .type "str") (by rfl) T.z_str (by decide +kernel) rfl) pa_nil))) (pe_and (pe_cmpR op_eq (pe_callB call_lenK (by rfl) T.z_len (by decide +kernel) (pa_cons (pv 0) pa_nil)) (pv 1) (nomark _)) (pe_one (pe_cmpR op_eq (pe_stripC (pv 0) pe_str) pe_str (nomark _))))))), fun Δ0 D' hf hn => wp_ret hf ?_⟩
  exact ev_is (ev_andV (ev_isi ev_var ty_tx (kit_ty (r := true) (by decide +kernel))) fun _ => ev_andV (ev_op1 (ev_cb ev_var (o1_lenS hx)) (ev_var (i := 1)) o2_eqI) fun _ => ev_stripEq (h := ev_var) (hz := hx)) rfl
def F_check_many : Pm Unit := fun _ cs R => ∃ n : Nat, cs = [⟨(n : Int)⟩] ∧ n ≤ 9 ∧ R = Is ()
theorem sc_check_many : FnScope ["many"] ["many"] (defScope s_check_many) := ⟨rfl, rfl, rfl, by decide +kernel, rfl, by decide +kernel, by decide +kernel⟩
theorem ok_check_many (T : Txt K mg) {f : Addr} {fd : FuncData} (D : Df K mg "check_many" s_check_many ["many"] f fd) {f_is_between : Addr} {fd_is_between : FuncData} (D_is_between : Df K mg "is_between" s_is_between ["value", "least", "most"] f_is_between fd_is_between) (G_is_between : FnOk P w K mg base CX0 3 f_is_between fd_is_between ["value", "least", "most"] (spD K F_is_between)) : FnOk P w K mg base CX0 4 f fd ["many"] (spD K F_check_many) := by
  obtain ⟨_, hI_SHIFT⟩ := T.i_SHIFT
  obtain ⟨_, hI_LOW⟩ := T.i_LOW
  obtain ⟨_, hI_MAX_THINGS⟩ := T.i_MAX_THINGS
  obtain ⟨_, hI_MAX_LAYINGS⟩ := T.i_MAX_LAYINGS
  obtain ⟨_, hI_MAX_UPRIGHT⟩ := T.i_MAX_UPRIGHT
  refine def_ok D.F sc_check_many (fun Γ cs R g => ?len) (fun cdv A outer s H E hr Γ cs R g => ?_)
  case len => obtain ⟨n, rfl, _⟩ := g; rfl
  obtain ⟨n, rfl, hn9, rfl⟩ := g
  refine ⟨_, (pss_one (ps_if (pt_not (pt_val (pe_call G_is_between (hr.mono (by decide)) (by rfl) D_is_between.g D_is_between.kp D_is_between.b .nil pass0 (pa_cons (pv 0) (pa_cons pe_int (pa_cons (pe_glob (v := .int 9) rfl hI_MAX_THINGS ⟨_, rfl⟩) pa_nil)))))) (pss_one ps_never) pss_nil)), fun Δ0 D' hf hn => ?_⟩
  refine wp_noL ?_ (et_not (et_B (ev_call1 (ea_1 ev_var (ea_1 ev_int (ea_1 ev_int ea_nil))) ⟨_, _, _, rfl, rfl⟩))) (wp_none rfl hn)
  rw [decide_eq_true (by omega), decide_eq_true (by omega)]
  rfl
end
end K03

set_option Elab.async false
set_option linter.all false
set_option maxRecDepth 100000
set_option maxHeartbeats 1000000
namespace K03
open PySem PySem.Spec PyProof.Rows L2 Z
/-- a lot: its number of signs, its rows as they came (each once), its rows in order -/
structure LotD where
  many : Nat
  known : List Tx
  rows : List Tx
instance : Rp LotD where
  rp K Δ H v L := ∃ x dx d vt, v = .ref x ∧ Δ x = none ∧ H x = some (.ins (He.ga K "Lot") dx [("_many", .int L.many), ("_known", .ref d), ("_rows", vt)]) ∧ Δ d = none ∧ H d = some (.dK (kvT L.known)) ∧ Rp.rp K Δ H vt (⟨L.rows⟩ : Tup Tx)
  mono k h := by
    obtain ⟨x, dx, d, vt, e, n, hx, nd, hd, r⟩ := h
    exact ⟨x, dx, d, vt, e, n, k _ _ n hx, nd, k _ _ nd hd, Rp.mono k r⟩
  weak w h := by
    obtain ⟨x, dx, d, vt, e, n, hx, nd, hd, r⟩ := h
    exact ⟨x, dx, d, vt, e, w _ _ hx n, hx, w _ _ hd nd, hd, Rp.weak w r⟩
/-- the class's facts -/
structure LotT (K : PySem.W.Frag) : Prop where
  cl : Cls K (He.ga K "Lot")
  na_many : NoAttr K (He.ga K "Lot") "_many"
  na_known : NoAttr K (He.ga K "Lot") "_known"
  na_rows : NoAttr K (He.ga K "Lot") "_rows"
  ca : PySem.W.findIn K (.ref (He.ga K "Lot")) "__class__" = some (some (.builtin "object.__class__"))
  cn : PySem.W.specialIn K (.builtin "object.__class__") "__get__" = some (some (.builtin "getset_descriptor.__get__"))
  ct : PySem.W.takesIn K (.builtin "object.__class__") = some true
  cm : PySem.W.mroIn K (He.ga K "Lot") (.type "object") = some true
  lo : Zo.lineOk K (He.ga K "Lot") = true
  ne : PySem.W.findIn K (.ref (He.ga K "Lot")) "__ne__" = some (some (.builtin "object.__ne__"))
  ty : PySem.W.typeIn K (.ref (He.ga K "Lot")) = some (.type "type")
  st : PySem.W.mroIn K (He.ga K "Lot") (.type "str") = some false
section
variable {P : Program} {w : World} {K : PySem.W.Frag} {mg : Str → Option Value} {base : Heap}
theorem getD_of {α : Type} {xs : List α} {d : α} {i : Nat} (h : i < xs.length) : xs[i]? = some (xs.getD i d) := by
  rw [List.getD_eq_getElem?_getD, List.getElem?_eq_getElem h]
  rfl
theorem all_true {α : Type} (xs : List α) : (((xs.filter fun _ => true).map fun _ => true).all id) = true := by
  rw [List.all_eq_true]
  intro b hb
  obtain ⟨_, _, rfl⟩ := List.mem_map.mp hb
  rfl
def F_Lot___init__ : Pm LotD := fun _ cs R => ∃ (n : Nat) (xs : Tup Tx), cs = [⟨(n : Int)⟩, ⟨xs⟩] ∧ n ≤ 9 ∧ (∀ x ∈ xs.l, x.s.length = n ∧ x.s.all isSign = true) ∧ xs.l.length ≤ 50000 ∧ R = fun L => L.many = n ∧ L.known = onceT [] xs.l ∧ SortedT (onceT [] xs.l) L.rows
theorem sc_Lot___init__ : FnScope ["self", "many", "rows", "row"] ["self", "many", "rows"] (defScope s_Lot___init__) := ⟨rfl, rfl, rfl, by decide +kernel, rfl, by decide +kernel, by decide +kernel⟩
theorem ok_Lot___init__ (T : Txt K mg) (CL : LotT K) {f : Addr} {fd : FuncData} {dvs : List V} (D : DfM K dvs "__init__" "Lot.__init__" s_Lot___init__ ["self", "many", "rows"] f fd) {f_check_many : Addr} {fd_check_many : FuncData} (D_check_many : Df K mg "check_many" s_check_many ["many"] f_check_many fd_check_many) (G_check_many : FnOk P w K mg base CX0 4 f_check_many fd_check_many ["many"] (spD K F_check_many)) {f_is_row : Addr} {fd_is_row : FuncData} (D_is_row : Df K mg "is_row" s_is_row ["value", "many"] f_is_row fd_is_row) (G_is_row : FnOk P w K mg base CX0 2 f_is_row fd_is_row ["value", "many"] (spD K F_is_row)) : FnOk P w K mg base CX0 5 f fd ["self", "many", "rows"] (spI K (He.ga K "Lot") F_Lot___init__) := by
  obtain ⟨_, hI_SHIFT⟩ := T.i_SHIFT
  obtain ⟨_, hI_LOW⟩ := T.i_LOW
  obtain ⟨_, hI_MAX_THINGS⟩ := T.i_MAX_THINGS
  obtain ⟨_, hI_MAX_LAYINGS⟩ := T.i_MAX_LAYINGS
  obtain ⟨_, hI_MAX_UPRIGHT⟩ := T.i_MAX_UPRIGHT
  refine def_okI D.F sc_Lot___init__ (fun Γ cs R g => ?len) (fun cdv A outer s H E hr Γ cs R g => ?_)
  case len => obtain ⟨n, xs, rfl, _⟩ := g; rfl
  obtain ⟨n, xs, rfl, hn9, hx, hl, rfl⟩ := g
  refine ⟨_, (pss_cons (ps_expr (pe_call G_check_many (hr.mono (by decide)) (by rfl) D_check_many.g D_check_many.kp D_check_many.b .nil pass0 (pa_cons (pv 1) pa_nil)))
      (pss_cons (ps_if (PW.pt (pw_or (pt_not (pt_val (pe_callB call_isK (by rfl) T.z_isinstance (by decide +kernel) (pa_cons (pv 2) (pa_cons (pe_bltn (v := .ty "tuple") (u := .type "tuple") (by rfl) T.z_tuple (by decide +kernel) rfl) pa_nil))))) (pw_or1 (pt_not (pt_val (pe_callB (cr_allK rfl) (by rfl) T.z_all (by decide +kernel) (pa_cons (pe_lc (own := [("row", 3)]) (g := (gName 3)) (tt := tYes) rfl sc_Lot___init__.nd (pi_tupK (pv 2)) (blkOk_by (N := ["self", "many", "rows", "row"]) (sc := defScope s_Lot___init__) (by decide +kernel)) (fun _ _ _ _ _ => (pg_name (i := 3) sc_Lot___init__.nd rfl (by first | exact .inl rfl | exact .inr rfl))) (fun _ _ _ _ _ => pts_nil) (fun _ _ _ _ _ => (pe_call G_is_row (hr.mono (by decide)) (by rfl) D_is_row.g D_is_row.kp D_is_row.b .nil pass0 (pa_cons (pv 3) (pa_cons (pv 1) pa_nil))))) pa_nil))))))) (pss_one ps_never) pss_nil)
      (pss_cons (ps_fld (pv 0) (pv 1) rfl)
      (pss_cons (ps_fld (pv 0) (pe_dc (own := [("row", 3)]) (g := (gName 3)) (tt := tYes) rfl sc_Lot___init__.nd (pi_tupK (pv 2)) (blkOk_by (N := ["self", "many", "rows", "row"]) (sc := defScope s_Lot___init__) (by decide +kernel)) (fun _ _ _ _ _ => (pg_name (i := 3) sc_Lot___init__.nd rfl (by first | exact .inl rfl | exact .inr rfl))) (fun _ _ _ _ _ => pts_nil) (fun _ _ _ _ _ => (pv 3)) (fun _ _ _ _ _ => pe_bl)) rfl)
      (pss_one (ps_fld (pv 0) (pe_callTy call_tupK (by rfl) T.z_tuple (by decide +kernel) (pa_cons (pe_callB cr_sortedT (by rfl) T.z_sorted (by decide +kernel) (pa_cons (pe_callTy (call_list_dK rfl) (by rfl) T.z_list (by decide +kernel) (pa_cons (pe_fldK (pv 0) (by rfl)) pa_nil)) pa_nil)) pa_nil)) rfl)))))), fun Δ0 H0 p dx D' hf ow => ?_⟩
  refine wp_drop (ev_call1 (ea_1 (ev_var (i := 1)) ea_nil) ⟨n, rfl, hn9, rfl⟩) ?_
  have sr : ∀ {Γ' : Own} {ρ : Z.Env} {j : Nat}, ρ[2]? = some (some ⟨xs⟩) → j < ρ.length → Src K Γ' (iTup K (tVar 2)) (gName j) ρ [j] xs.l.length (fun i ρ => ρ.set j (some ⟨xs.l.getD i ⟨[]⟩⟩)) := fun h hj => src_tup (x0 := fun i => xs.l.getD i ⟨[]⟩) (ev_var h) (fun i hi => getD_of hi) hj
  have gx : ∀ {i : Nat} {x : Tx}, xs.l[i]? = some x → xs.l.getD i ⟨[]⟩ = x := fun {i x} h => by
    rw [List.getD_eq_getElem?_getD, h]
    rfl
  refine wp_no (b := false) rfl (et_or (et_not (a := true) (et_B (ev_isi (ev_var (i := 2) (a := xs)) ty_tup (kit_ty (r := true) (by decide +kernel))))) fun _ => et_not (et_B (ev_is (ev_cb (ev_lcD (xs := xs.l) (fun _ => true) (fun _ => true) (sr rfl (ltr rfl)) hl (by decide) fun i x hi => ⟨et_yes, fun _ => ?_⟩) o1_all) (all_true xs.l)))) ?_
  · have e := gx hi
    have hm := hx x (List.mem_of_getElem? hi)
    subst e
    refine ev_is (ev_call1 (ea_1 (ev_var (i := 3)) (ea_1 (ev_var (i := 1)) ea_nil)) ⟨_, _, rfl, by omega, rfl⟩) ?_
    rw [hm.2, hm.1, decide_eq_true rfl]
    rfl
  refine wp_fld CL.cl CL.na_many (by decide) ow (ev_var (i := 1)) (ev_var (i := 0)) fun v a ha => ?_
  refine wp_fldN (I := ObIs (.dK (kvT (onceT [] xs.l)))) CL.cl CL.na_known (ltr rfl) ow (en_dc (xs := xs.l) (sr rfl (ltr rfl)) hl (by decide) (fun i x hi => by have e := gx hi; subst e; exact ev_var (i := 3)) fun i hi => ev_bl) (fun d o _ => ev_var (i := 0)) fun d o io ow2 owd => ?_
  have eo : o = HO.dK (kvT (onceT [] xs.l)) := io
  subst eo
  refine wp_fldL (P := fun t : Tup Tx => SortedT (onceT [] xs.l) t.l) CL.cl CL.na_rows (ltr rfl) ow2 (ev_tupleP (ev_cb (ev_listO (ks := onceT [] xs.l) (d := d) (by simp) (ev_fldO CL.cl CL.na_known List.mem_cons_self (by rfl) (ev_var (i := 0)))) o1_sortedT)) (ev_var (i := 0)) fun v2 t ht => ?_
  refine wp_endI (b := (⟨n, onceT [] xs.l, t.l⟩ : LotD)) hf ⟨rfl, rfl, ht⟩ fun H h1 h2 => ?_
  have ev : v = .int n := by
    have h := h2 (v, ⟨a⟩) (by simp)
    rw [show a = (n : Int) from ha] at h
    exact h
  subst ev
  obtain ⟨o1, ho1, io1⟩ := h1 (p, _) List.mem_cons_self
  obtain ⟨o2, ho2, io2⟩ := h1 (d, _) (List.mem_cons_of_mem _ List.mem_cons_self)
  exact ⟨p, dx, d, v2, rfl, ow.n0, by rw [ho1, show o1 = _ from io1]; rfl, owd.n0, by rw [ho2, show o2 = _ from io2], h2 (v2, ⟨t⟩) List.mem_cons_self⟩
end
end K03

set_option Elab.async false
set_option linter.all false
set_option maxRecDepth 100000
set_option maxHeartbeats 1000000
namespace K03
open PySem PySem.Spec PyProof.Rows L2 Z
section
variable {P : Program} {w : World} {K : PySem.W.Frag} {mg : Str → Option Value} {base : Heap}
theorem isIns_lot : IsIns K (He.ga K "Lot") LotD := fun Δ H v L r => by
  obtain ⟨x, dx, d, vt, e, n, hx, _⟩ := r
  exact ⟨x, dx, _, e, hx⟩
/-- a lot's fields -/
theorem ev_lotMany {Γ : Own} {ρ : Z.Env} {te : TE} {L : LotD} (CL : LotT K) (h : Ev K Γ te ρ (Is L)) : Ev K Γ (tFld K te "_many") ρ (Is (L.many : Int)) := fun Δ σ H Q s hh e k =>
  h Δ σ H _ s hh e fun v H1 a pa e1 r1 => by
    have ea : a = L := pa
    subst ea
    obtain ⟨x, dx, d, vt, rfl, n, hx, nd, hd, r⟩ := r1
    exact ⟨x, _, dx, _, _, rfl, hx, CL.cl, CL.na_many, rfl, k _ H1 _ rfl e1 rfl⟩
theorem ev_lotRows {Γ : Own} {ρ : Z.Env} {te : TE} {L : LotD} (CL : LotT K) (h : Ev K Γ te ρ (Is L)) : Ev K Γ (tFld K te "_rows") ρ (Is (⟨L.rows⟩ : Tup Tx)) := fun Δ σ H Q s hh e k =>
  h Δ σ H _ s hh e fun v H1 a pa e1 r1 => by
    have ea : a = L := pa
    subst ea
    obtain ⟨x, dx, d, vt, rfl, n, hx, nd, hd, r⟩ := r1
    exact ⟨x, _, dx, _, _, rfl, hx, CL.cl, CL.na_rows, rfl, k _ H1 _ rfl e1 r⟩
/-- isinstance(x, Lot), x a lot -/
theorem ev_isLot {Γ : Own} {ρ : Z.Env} {te : TE} {x : LotD} (CL : LotT K) (h : Ev K Γ te ρ (Is x)) : Ev K Γ (tCB (rIsi K) (tCons te (tCons (tC (.ref (He.ga K "Lot"))) tNil))) ρ (Is true) := fun Δ σ H Q s hh e k =>
  h Δ σ H _ s hh e fun v H' a pa e1 r => by
    obtain ⟨p, dx, fs, rfl, hp⟩ := isIns_lot Δ H' v _ r
    exact ⟨.ref p, .ref _, .ref _, .ref _, true, rfl, .own _, .base (.ins hp CL.cl CL.ca CL.cn CL.ct CL.cm), by unfold PySem.W.kitOne; rw [if_pos (by simp)], k _ H' _ rfl e1 rfl⟩
def F_Lot___len__ : Pm Int := fun _ cs R => ∃ L : LotD, cs = [⟨L⟩] ∧ R = Is (L.rows.length : Int)
theorem sc_Lot___len__ : FnScope ["self"] ["self"] (defScope s_Lot___len__) := ⟨rfl, rfl, rfl, by decide +kernel, rfl, by decide +kernel, by decide +kernel⟩
theorem ok_Lot___len__ (T : Txt K mg) (CL : LotT K) {f : Addr} {fd : FuncData} {dvs : List V} (D : DfM K dvs "__len__" "Lot.__len__" s_Lot___len__ ["self"] f fd) : FnOk P w K mg base CX0 2 f fd ["self"] (spD K F_Lot___len__) := by
  obtain ⟨_, hI_SHIFT⟩ := T.i_SHIFT
  obtain ⟨_, hI_LOW⟩ := T.i_LOW
  obtain ⟨_, hI_MAX_THINGS⟩ := T.i_MAX_THINGS
  obtain ⟨_, hI_MAX_LAYINGS⟩ := T.i_MAX_LAYINGS
  obtain ⟨_, hI_MAX_UPRIGHT⟩ := T.i_MAX_UPRIGHT
  refine def_ok D.F sc_Lot___len__ (fun Γ cs R g => ?len) (fun cdv A outer s H E hr Γ cs R g => ?_)
  case len => obtain ⟨L, rfl, _⟩ := g; rfl
  obtain ⟨L, rfl, rfl⟩ := g
  refine ⟨_, (pss_one (ps_ret (pe_callB call_lenK (by rfl) T.z_len (by decide +kernel) (pa_cons (pe_fldK (pv 0) (by rfl)) pa_nil)))), fun Δ0 D' hf hn => wp_ret hf (ev_cb (ev_lotRows CL (ev_var (i := 0))) o1_lenT)⟩
theorem kit_not {t : Value} (CL : LotT K) (hne : (t == .ref (He.ga K "Lot")) = false) (hs : PySem.W.subIn K t (.ref (He.ga K "Lot")) = some false) : PySem.W.kitOne K t (.ref (He.ga K "Lot")) = some false := by
  have h1 : (PySem.W.clsIn K (He.ga K "Lot")).isSome = true := by
    have h := CL.cm
    unfold PySem.W.mroIn at h
    cases hc : PySem.W.clsIn K (He.ga K "Lot") with
    | none => rw [hc] at h; cases h
    | some c => rfl
  unfold PySem.W.kitOne
  rw [hne, if_neg Bool.false_ne_true]
  show (if ((PySem.W.clsIn K (He.ga K "Lot")).isSome && PySem.W.typeIn K (.ref (He.ga K "Lot")) == some (.type "type")) = true then PySem.W.subIn K t (.ref (He.ga K "Lot")) else none) = some false
  rw [h1, CL.ty, if_pos (by decide +kernel), hs]
/-- isinstance(x, Lot), x of another kind -/
theorem ev_notLot {Γ : Own} {ρ : Z.Env} {te : TE} {α : Type} [Rp α] {x : α} {t : Value} (CL : LotT K) (h : Ev K Γ te ρ (Is x)) (ty : ∀ Δ H v, Rp.rp K Δ H v x → TyX K H v t) (hne : (t == .ref (He.ga K "Lot")) = false) (hs : PySem.W.subIn K t (.ref (He.ga K "Lot")) = some false) : Ev K Γ (tCB (rIsi K) (tCons te (tCons (tC (.ref (He.ga K "Lot"))) tNil))) ρ (Is false) := fun Δ σ H Q s hh e k =>
  h Δ σ H _ s hh e fun v H' a pa e1 r => by
    have ea : a = x := pa
    subst ea
    exact ⟨v, .ref _, t, .ref _, false, rfl, .own _, ty Δ H' v r, kit_not CL hne hs, k _ H' _ rfl e1 rfl⟩
def F_Lot___eq__ : Pm Bool := fun _ cs R => (∃ L M : LotD, cs = [⟨L⟩, ⟨M⟩] ∧ TOk L.rows ∧ TOk M.rows ∧ R = Is (decide (L.many = M.many) && decide (L.rows = M.rows))) ∨ (∃ L : LotD, cs = [⟨L⟩, ⟨()⟩] ∧ R = Is false) ∨ (∃ (L : LotD) (t : Tup Tx), cs = [⟨L⟩, ⟨t⟩] ∧ R = Is false)
theorem sc_Lot___eq__ : FnScope ["self", "other"] ["self", "other"] (defScope s_Lot___eq__) := ⟨rfl, rfl, rfl, by decide +kernel, rfl, by decide +kernel, by decide +kernel⟩
theorem ok_Lot___eq__ (T : Txt K mg) (CL : LotT K) (CG : mg "Lot" = some (.ref (He.ga K "Lot"))) {f : Addr} {fd : FuncData} {dvs : List V} (D : DfM K dvs "__eq__" "Lot.__eq__" s_Lot___eq__ ["self", "other"] f fd) : FnOk P w K mg base CX0 2 f fd ["self", "other"] (spD K F_Lot___eq__) := by
  obtain ⟨_, hI_SHIFT⟩ := T.i_SHIFT
  obtain ⟨_, hI_LOW⟩ := T.i_LOW
  obtain ⟨_, hI_MAX_THINGS⟩ := T.i_MAX_THINGS
  obtain ⟨_, hI_MAX_LAYINGS⟩ := T.i_MAX_LAYINGS
  obtain ⟨_, hI_MAX_UPRIGHT⟩ := T.i_MAX_UPRIGHT
  refine def_ok D.F sc_Lot___eq__ (fun Γ cs R g => ?len) (fun cdv A outer s H E hr Γ cs R g => ?_)
  case len =>
    rcases g with ⟨L, M, rfl, _⟩ | ⟨L, rfl, _⟩ | ⟨L, t, rfl, _⟩
    · rfl
    · rfl
    · rfl
  refine ⟨_, (pss_one (ps_ret (pe_and (pe_callB call_isK (by rfl) T.z_isinstance (by decide +kernel) (pa_cons (pv 1) (pa_cons (pe_glob (v := .ref (He.ga K "Lot")) (u := .ref (He.ga K "Lot")) rfl CG rfl) pa_nil))) (pe_and (pe_cmpR op_eq (pe_fldK (pv 0) (by rfl)) (pe_fldK (pv 1) (by rfl)) (nomark _)) (pe_one (pe_cmpR (op_eqK hr.units) (pe_fldK (pv 0) (by rfl)) (pe_fldK (pv 1) (by rfl)) (nomark _))))))), fun Δ0 D' hf hn => ?_⟩
  rcases g with ⟨L, M, rfl, h1, h2, rfl⟩ | ⟨L, rfl, rfl⟩ | ⟨L, t, rfl, rfl⟩
  · refine wp_ret hf (ev_is (ev_andV (ev_isLot CL (ev_var (i := 1))) fun _ => ev_andV (ev_op1 (ev_lotMany CL (ev_var (i := 0))) (ev_lotMany CL (ev_var (i := 1))) o2_eqI) fun _ => ev_op1 (ev_lotRows CL (ev_var (i := 0))) (ev_lotRows CL (ev_var (i := 1))) (o2_eqTS h1 h2)) ?_)
    rw [Bool.true_and]
    congr 1
    rw [decide_eq_decide]
    omega
  · exact wp_ret hf (ev_is (ev_andV (b := true) (ev_notLot CL (ev_var (i := 1) (a := ())) ty_non (by kernel_rfl) sub_none) fun z => by cases z) rfl)
  · exact wp_ret hf (ev_is (ev_andV (b := true) (ev_notLot CL (ev_var (i := 1) (a := t)) ty_tup (by kernel_rfl) sub_tup) fun z => by cases z) rfl)
theorem Fe1 {Γ : Own} {L M : LotD} (h1 : TOk L.rows) (h2 : TOk M.rows) : F_Lot___eq__ Γ [⟨L⟩, ⟨M⟩] (Is (decide (L.many = M.many) && decide (L.rows = M.rows))) := .inl ⟨L, M, rfl, h1, h2, rfl⟩
theorem Fe2 {Γ : Own} {L : LotD} : F_Lot___eq__ Γ [⟨L⟩, ⟨()⟩] (Is false) := .inr (.inl ⟨L, rfl, rfl⟩)
theorem Fe3 {Γ : Own} {L : LotD} {t : Tup Tx} : F_Lot___eq__ Γ [⟨L⟩, ⟨t⟩] (Is false) := .inr (.inr ⟨L, t, rfl, rfl⟩)
end
end K03

set_option Elab.async false
set_option linter.all false
set_option maxRecDepth 100000
set_option maxHeartbeats 1000000
namespace K03
open PySem PySem.Spec PyProof.Rows L2 Z
section
variable {P : Program} {w : World} {K : PySem.W.Frag} {mg : Str → Option Value} {base : Heap}
def F_Lot_many : Pm Int := fun _ cs R => ∃ L : LotD, cs = [⟨L⟩] ∧ R = Is (L.many : Int)
theorem sc_Lot_many : FnScope ["self"] ["self"] (defScope s_Lot_many) := ⟨rfl, rfl, rfl, by decide +kernel, rfl, by decide +kernel, by decide +kernel⟩
theorem ok_Lot_many (T : Txt K mg) (CL : LotT K) {f : Addr} {fd : FuncData} {dvs : List V} (D : DfM K dvs "many" "Lot.many" s_Lot_many ["self"] f fd) : FnOk P w K mg base CX0 2 f fd ["self"] (spD K F_Lot_many) := by
  obtain ⟨_, hI_SHIFT⟩ := T.i_SHIFT
  obtain ⟨_, hI_LOW⟩ := T.i_LOW
  obtain ⟨_, hI_MAX_THINGS⟩ := T.i_MAX_THINGS
  obtain ⟨_, hI_MAX_LAYINGS⟩ := T.i_MAX_LAYINGS
  obtain ⟨_, hI_MAX_UPRIGHT⟩ := T.i_MAX_UPRIGHT
  refine def_ok D.F sc_Lot_many (fun Γ cs R g => ?len) (fun cdv A outer s H E hr Γ cs R g => ?_)
  case len => obtain ⟨L, rfl, _⟩ := g; rfl
  obtain ⟨L, rfl, rfl⟩ := g
  refine ⟨_, (pss_one (ps_ret (pe_fldK (pv 0) (by rfl)))), fun Δ0 D' hf hn => wp_ret hf (ev_lotMany CL (ev_var (i := 0)))⟩
def F_Lot_rows : Pm (Tup Tx) := fun _ cs R => ∃ L : LotD, cs = [⟨L⟩] ∧ R = Is ⟨L.rows⟩
theorem sc_Lot_rows : FnScope ["self"] ["self"] (defScope s_Lot_rows) := ⟨rfl, rfl, rfl, by decide +kernel, rfl, by decide +kernel, by decide +kernel⟩
theorem ok_Lot_rows (T : Txt K mg) (CL : LotT K) {f : Addr} {fd : FuncData} {dvs : List V} (D : DfM K dvs "rows" "Lot.rows" s_Lot_rows ["self"] f fd) : FnOk P w K mg base CX0 2 f fd ["self"] (spD K F_Lot_rows) := by
  obtain ⟨_, hI_SHIFT⟩ := T.i_SHIFT
  obtain ⟨_, hI_LOW⟩ := T.i_LOW
  obtain ⟨_, hI_MAX_THINGS⟩ := T.i_MAX_THINGS
  obtain ⟨_, hI_MAX_LAYINGS⟩ := T.i_MAX_LAYINGS
  obtain ⟨_, hI_MAX_UPRIGHT⟩ := T.i_MAX_UPRIGHT
  refine def_ok D.F sc_Lot_rows (fun Γ cs R g => ?len) (fun cdv A outer s H E hr Γ cs R g => ?_)
  case len => obtain ⟨L, rfl, _⟩ := g; rfl
  obtain ⟨L, rfl, rfl⟩ := g
  refine ⟨_, (pss_one (ps_ret (pe_fldK (pv 0) (by rfl)))), fun Δ0 D' hf hn => wp_ret hf (ev_lotRows CL (ev_var (i := 0)))⟩
def F__check_alike : Pm Unit := fun _ cs R => ∃ L M : LotD, cs = [⟨L⟩, ⟨M⟩] ∧ L.many = M.many ∧ R = Is ()
theorem sc__check_alike : FnScope ["one", "other"] ["one", "other"] (defScope s__check_alike) := ⟨rfl, rfl, rfl, by decide +kernel, rfl, by decide +kernel, by decide +kernel⟩
theorem ok__check_alike (T : Txt K mg) (CL : LotT K) {f : Addr} {fd : FuncData} (D : Df K mg "_check_alike" s__check_alike ["one", "other"] f fd) {p_Lot_many f_Lot_many : Addr} {fd_Lot_many : FuncData} (CP_Lot_many : PropOf K (He.ga K "Lot") "many" p_Lot_many f_Lot_many ∧ DfM K [] "many" "Lot.many" s_Lot_many ["self"] f_Lot_many fd_Lot_many) (G_Lot_many : FnOk P w K mg base CX0 2 f_Lot_many fd_Lot_many ["self"] (spD K F_Lot_many)) : FnOk P w K mg base CX0 4 f fd ["one", "other"] (spD K F__check_alike) := by
  obtain ⟨_, hI_SHIFT⟩ := T.i_SHIFT
  obtain ⟨_, hI_LOW⟩ := T.i_LOW
  obtain ⟨_, hI_MAX_THINGS⟩ := T.i_MAX_THINGS
  obtain ⟨_, hI_MAX_LAYINGS⟩ := T.i_MAX_LAYINGS
  obtain ⟨_, hI_MAX_UPRIGHT⟩ := T.i_MAX_UPRIGHT
  refine def_ok D.F sc__check_alike (fun Γ cs R g => ?len) (fun cdv A outer s H E hr Γ cs R g => ?_)
  case len => obtain ⟨L, M, rfl, _⟩ := g; rfl
  obtain ⟨L, M, rfl, h, rfl⟩ := g
  refine ⟨_, (pss_one (ps_if (pt_cmpR op_ne (pe_prop (pv 0) CL.cl CP_Lot_many.1 G_Lot_many (hr.mono (by decide)) CP_Lot_many.2.b .nil pass0 rfl) (pe_prop (pv 1) CL.cl CP_Lot_many.1 G_Lot_many (hr.mono (by decide)) CP_Lot_many.2.b .nil pass0 rfl) (nomark _)) (pss_one ps_never) pss_nil)), fun Δ0 D' hf hn => ?_⟩
  refine wp_noL ?_ (et_test (ev_op1 (ev_prop isIns_lot (ev_var (i := 0)) ⟨L, rfl, rfl⟩) (ev_prop isIns_lot (ev_var (i := 1)) ⟨M, rfl, rfl⟩) o2_neI)) (wp_none rfl hn)
  rw [h]
  simp
end
end K03

set_option Elab.async false
set_option linter.all false
set_option maxRecDepth 100000
set_option maxHeartbeats 1000000
namespace K03
open PySem PySem.Spec PyProof.Rows L2 Z
/-- what Lot(n, xs) may be -/
def LotOf (n : Nat) (xs : List Tx) (L : LotD) : Prop := L.many = n ∧ L.known = onceT [] xs ∧ SortedT (onceT [] xs) L.rows
/-- a lot that holds together -/
structure LotOk (L : LotD) : Prop where
  m9 : L.many ≤ 9
  len : L.rows.length ≤ 50000
  rows : ∀ x ∈ L.rows, x.s.length = L.many ∧ x.s.all isSign = true
  known : ∀ x, x ∈ L.known ↔ x ∈ L.rows
section
variable {P : Program} {w : World} {K : PySem.W.Frag} {mg : Str → Option Value} {base : Heap}
theorem valV_kvT {ks : List Tx} {x : Tx} : (valV (kvT ks) (.inr (tS x) : Key)).isSome = decide (x ∈ ks) := by
  induction ks with
  | nil => rfl
  | cons y ks more =>
    by_cases h : y = x
    · subst h
      rw [decide_eq_true List.mem_cons_self]
      show (valV ((.inr (tS y), .bl true) :: kvT ks) _).isSome = true
      rw [valV_pos rfl]
      rfl
    · have hne : ¬ ((.inr (tS y), .bl true) : Key × V).1 = .inr (tS x) := fun z => h (tS_inj.mp (Sum.inr.inj z))
      show (valV ((.inr (tS y), .bl true) :: kvT ks) _).isSome = _
      rw [valV_neg hne, more]
      rw [decide_eq_decide, List.mem_cons]
      constructor
      · exact Or.inr
      · rintro (z | z)
        · exact absurd z.symm h
        · exact z
/-- row not in lot._known -/
theorem et_notKnown {Γ : Own} {ρ : Z.Env} {ta tb : TE} {x : Tx} {L : LotD} (CL : LotT K) (ha : Ev K Γ ta ρ (Is x)) (hb : Ev K Γ tb ρ (Is L)) : EvT K Γ (tB (tDNotIn ta (tFld K tb "_known"))) ρ (Is (!decide (x ∈ L.known))) := fun Δ σ H Q s hh e k =>
  ha Δ σ H _ s hh e fun v H1 a pa e1 r1 => hb Δ σ H1 _ s e1.2 (e.mono e1.1) fun u H2 b pb e2 r2 => by
    have ea : a = x := pa
    have eb : b = L := pb
    subst ea eb
    have ev : v = .str (tS a) := r1
    subst ev
    obtain ⟨p, dx, d, vt, rfl, n, hx, nd, hd, r⟩ := r2
    refine ⟨p, _, dx, _, .ref d, rfl, hx, CL.cl, CL.na_known, rfl, d, valV (kvT b.known) (.inr (tS a)), rfl, DGet.k (k := .inr (tS a)) hd, ?_⟩
    exact ⟨_, rfl, k _ H2 (by rw [valV_kvT]; rfl) (e1.trans e2)⟩
theorem ev_known {Γ : Own} {ρ : Z.Env} {ta tb : TE} {x : Tx} {L : LotD} (CL : LotT K) (ha : Ev K Γ ta ρ (Is x)) (hb : Ev K Γ tb ρ (Is L)) : Ev K Γ (tDIn ta (tFld K tb "_known")) ρ (Is (decide (x ∈ L.known))) := fun Δ σ H Q s hh e k =>
  ha Δ σ H _ s hh e fun v H1 a pa e1 r1 => hb Δ σ H1 _ s e1.2 (e.mono e1.1) fun u H2 b pb e2 r2 => by
    have ea : a = x := pa
    have eb : b = L := pb
    subst ea eb
    have ev : v = .str (tS a) := r1
    subst ev
    obtain ⟨p, dx, d, vt, rfl, n, hx, nd, hd, r⟩ := r2
    exact ⟨p, _, dx, _, .ref d, rfl, hx, CL.cl, CL.na_known, rfl, d, valV (kvT b.known) (.inr (tS a)), rfl, DGet.k (k := .inr (tS a)) hd, k _ H2 _ (show decide (a ∈ b.known) = decide (a ∈ b.known) from rfl) (e1.trans e2) (by rw [valV_kvT]; rfl)⟩
theorem et_known {Γ : Own} {ρ : Z.Env} {ta tb : TE} {x : Tx} {L : LotD} (CL : LotT K) (ha : Ev K Γ ta ρ (Is x)) (hb : Ev K Γ tb ρ (Is L)) : EvT K Γ (tB (tDIn ta (tFld K tb "_known"))) ρ (Is (decide (x ∈ L.known))) := et_B (ev_known CL ha hb)
/-- what is no text, among the values asked -/
def Odd (K : PySem.W.Frag) (Δ : Gh) (H : Hp) (v : V) : Prop := v = .non ∨ (∃ i : Int, v = .int i) ∨ (∃ t : Tup Tx, Rp.rp K Δ H v t) ∨ (∃ t : List Tx, Rp.rp K Δ H v t) ∨ (∃ p, v = .ref p ∧ Δ p = none ∧ H p = some (.dK [])) ∨ ∃ L : LotD, Rp.rp K Δ H v L
theorem Odd.mono {Δ : Gh} {H H' : Hp} {v : V} (k : Keep Δ H H') (h : Odd K Δ H v) : Odd K Δ H' v := by
  rcases h with h | h | ⟨t, h⟩ | ⟨t, h⟩ | ⟨p, h, n, e⟩ | ⟨L, h⟩
  · exact .inl h
  · exact .inr (.inl h)
  · exact .inr (.inr (.inl ⟨t, Rp.mono k h⟩))
  · exact .inr (.inr (.inr (.inl ⟨t, Rp.mono k h⟩)))
  · exact .inr (.inr (.inr (.inr (.inl ⟨p, h, n, k _ _ n e⟩))))
  · exact .inr (.inr (.inr (.inr (.inr ⟨L, Rp.mono k h⟩))))
theorem Odd.weak {Δ Δ' : Gh} {H : Hp} {v : V} (w : ∀ x o, H x = some o → Δ x = none → Δ' x = none) (h : Odd K Δ H v) : Odd K Δ' H v := by
  rcases h with h | h | ⟨t, h⟩ | ⟨t, h⟩ | ⟨p, h, n, e⟩ | ⟨L, h⟩
  · exact .inl h
  · exact .inr (.inl h)
  · exact .inr (.inr (.inl ⟨t, Rp.weak w h⟩))
  · exact .inr (.inr (.inr (.inl ⟨t, Rp.weak w h⟩)))
  · exact .inr (.inr (.inr (.inr (.inl ⟨p, h, w _ _ e n, e⟩))))
  · exact .inr (.inr (.inr (.inr (.inr ⟨L, Rp.weak w h⟩))))
/-- a text, or another value -/
structure AnyD where
  x : Option Tx
instance : Rp AnyD where
  rp K Δ H v a := match a.x with
    | some x => v = .str (tS x)
    | none => Odd K Δ H v
  mono {K Δ H H' v a} k h := match a, h with
    | ⟨some _⟩, h => h
    | ⟨none⟩, h => Odd.mono k h
  weak {K Δ Δ' H v a} w h := match a, h with
    | ⟨some _⟩, h => h
    | ⟨none⟩, h => Odd.weak w h
theorem odd_ty {Δ : Gh} {H : Hp} {v : V} (CL : LotT K) (h : Odd K Δ H v) : ∃ t, TyX K H v t ∧ PySem.W.kitOne K t (.type "str") = some false := by
  rcases h with rfl | ⟨i, rfl⟩ | ⟨t, h⟩ | ⟨t, h⟩ | ⟨p, rfl, n, e⟩ | ⟨L, h⟩
  · exact ⟨_, .base .non, kit_ty (r := false) (by decide +kernel)⟩
  · exact ⟨_, .base (.int i), kit_ty (r := false) (by decide +kernel)⟩
  · exact ⟨_, ty_tup Δ H v h, kit_ty (r := false) (by decide +kernel)⟩
  · exact ⟨_, ty_list Δ H v h, kit_ty (r := false) (by decide +kernel)⟩
  · exact ⟨_, .base (.dK e), kit_ty (r := false) (by decide +kernel)⟩
  · obtain ⟨p, dx, fs, rfl, hp⟩ := isIns_lot Δ H v _ h
    refine ⟨_, .base (.ins hp CL.cl CL.ca CL.cn CL.ct CL.cm), ?_⟩
    have e1 : (Value.ref (He.ga K "Lot") == Value.type "str") = false := by kernel_rfl
    unfold PySem.W.kitOne
    rw [e1, if_neg Bool.false_ne_true]
    show (if PySem.W.kitMeta "str" = true then PySem.W.mroIn K (He.ga K "Lot") (.type "str") else none) = some false
    rw [if_pos (by decide +kernel), CL.st]
theorem ev_isAny {Γ : Own} {ρ : Z.Env} {te : TE} {a : AnyD} (CL : LotT K) (h : Ev K Γ te ρ (Is a)) : Ev K Γ (tCB (rIsi K) (tCons te (tCons (tC (.ty "str")) tNil))) ρ (Is a.x.isSome) := fun Δ σ H Q s hh e k =>
  h Δ σ H _ s hh e fun v H' b pb e1 r => by
    have eb : b = a := pb
    subst eb
    match b, r with
    | ⟨some x⟩, r =>
      have ev : v = .str (tS x) := r
      subst ev
      exact ⟨_, .ty "str", _, .type "str", true, rfl, .ty _, .base (.str _), kit_ty (r := true) (by decide +kernel), k _ H' _ rfl e1 rfl⟩
    | ⟨none⟩, r =>
      obtain ⟨t, ht, hk⟩ := odd_ty CL (show Odd K Δ H' v from r)
      exact ⟨v, .ty "str", t, .type "str", false, rfl, .ty _, ht, hk, k _ H' _ rfl e1 rfl⟩
theorem ev_anyTx {Γ : Own} {ρ : Z.Env} {te : TE} {x : Tx} (h : Ev K Γ te ρ (Is (⟨some x⟩ : AnyD))) : Ev K Γ te ρ (Is x) := fun Δ σ H Q s hh e k =>
  h Δ σ H _ s hh e fun v H' b pb e1 r => by
    have eb : b = ⟨some x⟩ := pb
    subst eb
    exact k v H' x rfl e1 r
def F_Lot___contains__ : Pm Bool := fun _ cs R => ∃ (L : LotD) (a : AnyD), cs = [⟨L⟩, ⟨a⟩] ∧ R = Is (match a.x with
  | some x => decide (x ∈ L.known)
  | none => false)
theorem sc_Lot___contains__ : FnScope ["self", "x"] ["self", "x"] (defScope s_Lot___contains__) := ⟨rfl, rfl, rfl, by decide +kernel, rfl, by decide +kernel, by decide +kernel⟩
theorem ok_Lot___contains__ (T : Txt K mg) (CL : LotT K) {f : Addr} {fd : FuncData} {dvs : List V} (D : DfM K dvs "__contains__" "Lot.__contains__" s_Lot___contains__ ["self", "x"] f fd) : FnOk P w K mg base CX0 2 f fd ["self", "x"] (spD K F_Lot___contains__) := by
  obtain ⟨_, hI_SHIFT⟩ := T.i_SHIFT
  obtain ⟨_, hI_LOW⟩ := T.i_LOW
  obtain ⟨_, hI_MAX_THINGS⟩ := T.i_MAX_THINGS
  obtain ⟨_, hI_MAX_LAYINGS⟩ := T.i_MAX_LAYINGS
  obtain ⟨_, hI_MAX_UPRIGHT⟩ := T.i_MAX_UPRIGHT
  refine def_ok D.F sc_Lot___contains__ (fun Γ cs R g => ?len) (fun cdv A outer s H E hr Γ cs R g => ?_)
  case len => obtain ⟨L, x, rfl, _⟩ := g; rfl
  obtain ⟨L, a, rfl, rfl⟩ := g
  refine ⟨_, (pss_one (ps_ret (pe_and (pe_callB call_isK (by rfl) T.z_isinstance (by decide +kernel) (pa_cons (pv 1) (pa_cons (pe_bltn (v := .ty "str") (u := .type "str") (by rfl) T.z_str (by decide +kernel) rfl) pa_nil))) (pe_one (pe_cmp (pc_din (by exact hu_of hr) (pv 1) (by exact (pe_fldK (pv 0) (by rfl)))) (by rfl)))))), fun Δ0 D' hf hn => wp_ret hf ?_⟩
  match a with
  | ⟨some x⟩ => exact ev_is (ev_andV (ev_isAny CL (ev_var (i := 1) (a := (⟨some x⟩ : AnyD)))) fun _ => ev_known CL (ev_anyTx (ev_var (i := 1))) (ev_var (i := 0))) (Bool.true_and _)
  | ⟨none⟩ => exact ev_is (ev_andV (b := true) (ev_isAny CL (ev_var (i := 1) (a := (⟨none⟩ : AnyD)))) fun z => by cases z) rfl
def F_Lot___and__ : Pm LotD := fun _ cs R => ∃ L M : LotD, cs = [⟨L⟩, ⟨M⟩] ∧ LotOk L ∧ L.many = M.many ∧ R = LotOf L.many (L.rows.filter fun x => decide (x ∈ M.known))
theorem sc_Lot___and__ : FnScope ["self", "other", "row"] ["self", "other"] (defScope s_Lot___and__) := ⟨rfl, rfl, rfl, by decide +kernel, rfl, by decide +kernel, by decide +kernel⟩
theorem ok_Lot___and__ (T : Txt K mg) (CL : LotT K) (CG : mg "Lot" = some (.ref (He.ga K "Lot"))) {f : Addr} {fd : FuncData} {dvs : List V} (D : DfM K dvs "__and__" "Lot.__and__" s_Lot___and__ ["self", "other"] f fd) {f__check_alike : Addr} {fd__check_alike : FuncData} (D__check_alike : Df K mg "_check_alike" s__check_alike ["one", "other"] f__check_alike fd__check_alike) (G__check_alike : FnOk P w K mg base CX0 4 f__check_alike fd__check_alike ["one", "other"] (spD K F__check_alike)) {f_Lot___init__ : Addr} {fd_Lot___init__ : FuncData} {dv_Lot___init__ : List V} (CP_Lot : Mk K (He.ga K "Lot") f_Lot___init__ ∧ DfM K dv_Lot___init__ "__init__" "Lot.__init__" s_Lot___init__ ["self", "many", "rows"] f_Lot___init__ fd_Lot___init__) (G_Lot___init__ : FnOk P w K mg base CX0 5 f_Lot___init__ fd_Lot___init__ ["self", "many", "rows"] (spI K (He.ga K "Lot") F_Lot___init__)) : FnOk P w K mg base CX0 7 f fd ["self", "other"] (spD K F_Lot___and__) := by
  obtain ⟨_, hI_SHIFT⟩ := T.i_SHIFT
  obtain ⟨_, hI_LOW⟩ := T.i_LOW
  obtain ⟨_, hI_MAX_THINGS⟩ := T.i_MAX_THINGS
  obtain ⟨_, hI_MAX_LAYINGS⟩ := T.i_MAX_LAYINGS
  obtain ⟨_, hI_MAX_UPRIGHT⟩ := T.i_MAX_UPRIGHT
  refine def_ok D.F sc_Lot___and__ (fun Γ cs R g => ?len) (fun cdv A outer s H E hr Γ cs R g => ?_)
  case len => obtain ⟨L, M, rfl, _⟩ := g; rfl
  obtain ⟨L, M, rfl, hL, hm, rfl⟩ := g
  refine ⟨_, (pss_cons (ps_if (pt_not (pt_val (pe_callB call_isK (by rfl) T.z_isinstance (by decide +kernel) (pa_cons (pv 1) (pa_cons (pe_glob (v := .ref (He.ga K "Lot")) (u := .ref (He.ga K "Lot")) rfl CG rfl) pa_nil))))) (pss_one ps_never) pss_nil)
      (pss_cons (ps_expr (pe_call G__check_alike (hr.mono (by decide)) (by rfl) D__check_alike.g D__check_alike.kp D__check_alike.b .nil pass0 (pa_cons (pv 0) (pa_cons (pv 1) pa_nil))))
      (pss_one (ps_ret (pe_make CP_Lot.1 G_Lot___init__ (hr.mono (by decide)) (by rfl) CG CP_Lot.2.b .nil pass0 (pa_cons (pe_fldK (pv 0) (by rfl)) (pa_cons (pe_callTy call_tupK (by rfl) T.z_tuple (by decide +kernel) (pa_cons (pe_lc (own := [("row", 2)]) (g := (gName 2)) (tt := _) rfl sc_Lot___and__.nd (pi_tupK (pe_fldK (pv 0) (by rfl))) (blkOk_by (N := ["self", "other", "row"]) (sc := defScope s_Lot___and__) (by decide +kernel)) (fun _ _ _ _ _ => (pg_name (i := 2) sc_Lot___and__.nd rfl (by first | exact .inl rfl | exact .inr rfl))) (fun _ _ _ _ _ => (pts_one (pt_cmp (pc_din (by exact hu_of hr) (pv 2) (by exact (pe_fldK (pv 1) (by rfl)))) (by rfl)))) (fun _ _ _ _ _ => (pv 2))) pa_nil)) pa_nil))))))), fun Δ0 D' hf hn => ?_⟩
  refine wp_no (b := false) rfl (et_not (a := true) (et_B (ev_isLot CL (ev_var (i := 1) (a := M))))) ?_
  refine wp_drop (ev_call1 (ea_1 (ev_var (i := 0)) (ea_1 (ev_var (i := 1)) ea_nil)) ⟨L, M, rfl, hm, rfl⟩) ?_
  have gx : ∀ {i : Nat} {x : Tx}, L.rows[i]? = some x → L.rows.getD i ⟨[]⟩ = x := fun {i x} h => by
    rw [List.getD_eq_getElem?_getD, h]
    rfl
  have hc := ev_lcD (K := K) (Γ := Γ) (xs := L.rows) (fun x => decide (x ∈ M.known)) (fun x => x) (src_tup (x0 := fun i => L.rows.getD i ⟨[]⟩) (ev_lotRows CL (ev_var (ρ := env0 ["self", "other", "row"] [⟨L⟩, ⟨M⟩]) (i := 0) (a := L))) (fun i hi => getD_of hi) (j := 2) (ltr rfl)) hL.len (vs := [2]) (by decide) fun i x hi => ⟨et_known (x := x) CL (by rw [← gx hi]; exact ev_var (i := 2)) (ev_var (i := 1) (a := M)), fun _ => by rw [← gx hi]; exact ev_var (i := 2)⟩
  rw [show (fun x : Tx => x) = id from rfl, List.map_id] at hc
  refine wp_ret hf (ev_make (dcs := []) (fun _ _ => trivial) (ea_1 (ev_lotMany CL (ev_var (i := 0))) (ea_1 (ev_cb hc o1_tuple) ea_nil)) ⟨L.many, ⟨_⟩, rfl, hL.m9, fun x hx => hL.rows x (List.mem_filter.mp hx).1, Nat.le_trans (List.length_filter_le _ _) hL.len, rfl⟩)
def F_Lot___sub__ : Pm LotD := fun _ cs R => ∃ L M : LotD, cs = [⟨L⟩, ⟨M⟩] ∧ LotOk L ∧ L.many = M.many ∧ R = LotOf L.many (L.rows.filter fun x => !decide (x ∈ M.known))
theorem sc_Lot___sub__ : FnScope ["self", "other", "row"] ["self", "other"] (defScope s_Lot___sub__) := ⟨rfl, rfl, rfl, by decide +kernel, rfl, by decide +kernel, by decide +kernel⟩
theorem ok_Lot___sub__ (T : Txt K mg) (CL : LotT K) (CG : mg "Lot" = some (.ref (He.ga K "Lot"))) {f : Addr} {fd : FuncData} {dvs : List V} (D : DfM K dvs "__sub__" "Lot.__sub__" s_Lot___sub__ ["self", "other"] f fd) {f__check_alike : Addr} {fd__check_alike : FuncData} (D__check_alike : Df K mg "_check_alike" s__check_alike ["one", "other"] f__check_alike fd__check_alike) (G__check_alike : FnOk P w K mg base CX0 4 f__check_alike fd__check_alike ["one", "other"] (spD K F__check_alike)) {f_Lot___init__ : Addr} {fd_Lot___init__ : FuncData} {dv_Lot___init__ : List V} (CP_Lot : Mk K (He.ga K "Lot") f_Lot___init__ ∧ DfM K dv_Lot___init__ "__init__" "Lot.__init__" s_Lot___init__ ["self", "many", "rows"] f_Lot___init__ fd_Lot___init__) (G_Lot___init__ : FnOk P w K mg base CX0 5 f_Lot___init__ fd_Lot___init__ ["self", "many", "rows"] (spI K (He.ga K "Lot") F_Lot___init__)) : FnOk P w K mg base CX0 7 f fd ["self", "other"] (spD K F_Lot___sub__) := by
  obtain ⟨_, hI_SHIFT⟩ := T.i_SHIFT
  obtain ⟨_, hI_LOW⟩ := T.i_LOW
  obtain ⟨_, hI_MAX_THINGS⟩ := T.i_MAX_THINGS
  obtain ⟨_, hI_MAX_LAYINGS⟩ := T.i_MAX_LAYINGS
  obtain ⟨_, hI_MAX_UPRIGHT⟩ := T.i_MAX_UPRIGHT
  refine def_ok D.F sc_Lot___sub__ (fun Γ cs R g => ?len) (fun cdv A outer s H E hr Γ cs R g => ?_)
  case len => obtain ⟨L, M, rfl, _⟩ := g; rfl
  obtain ⟨L, M, rfl, hL, hm, rfl⟩ := g
  refine ⟨_, (pss_cons (ps_if (pt_not (pt_val (pe_callB call_isK (by rfl) T.z_isinstance (by decide +kernel) (pa_cons (pv 1) (pa_cons (pe_glob (v := .ref (He.ga K "Lot")) (u := .ref (He.ga K "Lot")) rfl CG rfl) pa_nil))))) (pss_one ps_never) pss_nil)
      (pss_cons (ps_expr (pe_call G__check_alike (hr.mono (by decide)) (by rfl) D__check_alike.g D__check_alike.kp D__check_alike.b .nil pass0 (pa_cons (pv 0) (pa_cons (pv 1) pa_nil))))
      (pss_one (ps_ret (pe_make CP_Lot.1 G_Lot___init__ (hr.mono (by decide)) (by rfl) CG CP_Lot.2.b .nil pass0 (pa_cons (pe_fldK (pv 0) (by rfl)) (pa_cons (pe_callTy call_tupK (by rfl) T.z_tuple (by decide +kernel) (pa_cons (pe_lc (own := [("row", 2)]) (g := (gName 2)) (tt := _) rfl sc_Lot___sub__.nd (pi_tupK (pe_fldK (pv 0) (by rfl))) (blkOk_by (N := ["self", "other", "row"]) (sc := defScope s_Lot___sub__) (by decide +kernel)) (fun _ _ _ _ _ => (pg_name (i := 2) sc_Lot___sub__.nd rfl (by first | exact .inl rfl | exact .inr rfl))) (fun _ _ _ _ _ => (pts_one (pt_cmp (pc_dnotin (by exact hu_of hr) (pv 2) (by exact (pe_fldK (pv 1) (by rfl)))) (by rfl)))) (fun _ _ _ _ _ => (pv 2))) pa_nil)) pa_nil))))))), fun Δ0 D' hf hn => ?_⟩
  refine wp_no (b := false) rfl (et_not (a := true) (et_B (ev_isLot CL (ev_var (i := 1) (a := M))))) ?_
  refine wp_drop (ev_call1 (ea_1 (ev_var (i := 0)) (ea_1 (ev_var (i := 1)) ea_nil)) ⟨L, M, rfl, hm, rfl⟩) ?_
  have hc := ev_lcD (K := K) (Γ := Γ) (xs := L.rows) (fun x => !decide (x ∈ M.known)) (fun x => x) (src_tup (x0 := fun i => L.rows.getD i ⟨[]⟩) (ev_lotRows CL (ev_var (ρ := env0 ["self", "other", "row"] [⟨L⟩, ⟨M⟩]) (i := 0) (a := L))) (fun i hi => getD_of hi) (j := 2) (ltr rfl)) hL.len (vs := [2]) (by decide) fun i x hi => ⟨et_notKnown (x := x) CL (by
      have e : L.rows.getD i ⟨[]⟩ = x := by
        rw [List.getD_eq_getElem?_getD, hi]
        rfl
      rw [← e]
      exact ev_var (i := 2)) (ev_var (i := 1) (a := M)), fun _ => by
      have e : L.rows.getD i ⟨[]⟩ = x := by
        rw [List.getD_eq_getElem?_getD, hi]
        rfl
      rw [← e]
      exact ev_var (i := 2)⟩
  rw [show (fun x : Tx => x) = id from rfl, List.map_id] at hc
  refine wp_ret hf (ev_make (dcs := []) (fun _ _ => trivial) (ea_1 (ev_lotMany CL (ev_var (i := 0))) (ea_1 (ev_cb hc o1_tuple) ea_nil)) ⟨L.many, ⟨_⟩, rfl, hL.m9, fun x hx => hL.rows x (List.mem_filter.mp hx).1, Nat.le_trans (List.length_filter_le _ _) hL.len, rfl⟩)
end
end K03

set_option Elab.async false
set_option linter.all false
set_option maxRecDepth 100000
set_option maxHeartbeats 1000000
namespace K03
open PySem PySem.Spec PyProof.Rows L2 Z K00
section
variable {P : Program} {w : World} {K : PySem.W.Frag} {mg : Str → Option Value} {base : Heap}
theorem len_le {x : Tx} (h : Row x) : x.s.length ≤ 100000 := Nat.le_trans h.len (by decide)
theorem or_nn (m n : Nat) : Builtin.bitOr (m : Int) (n : Int) = ((m ||| n : Nat) : Int) := by rw [Bits.bitOr_pp (Int.natCast_nonneg m) (Int.natCast_nonneg n), Int.toNat_natCast, Int.toNat_natCast]
theorem and_nn (m n : Nat) : Builtin.bitAnd (m : Int) (n : Int) = ((m &&& n : Nat) : Int) := by
  rw [bitAnd_pp (Int.natCast_nonneg m) (Int.natCast_nonneg n), Int.toNat_natCast, Int.toNat_natCast]
abbrev IvC (Γ : Own) (x : Tx) : Nat → Own → Z.Env → Prop := fun i Γ' ρ' => Γ' = Γ ∧ ∃ a b, ρ' = [some ⟨x⟩, some ⟨((codeUp x i : Nat) : Int)⟩, a, b]
def F_code_of : Pm Int := fun _ cs R => ∃ x : Tx, cs = [⟨x⟩] ∧ x.s.length ≤ 9 ∧ R = Is ((codeT x : Nat) : Int)
theorem sc_code_of : FnScope ["row", "code", "thing", "sign"] ["row"] (defScope s_code_of) := ⟨rfl, rfl, rfl, by decide +kernel, rfl, by decide +kernel, by decide +kernel⟩
theorem ok_code_of (T : Txt K mg) {f : Addr} {fd : FuncData} (D : Df K mg "code_of" s_code_of ["row"] f fd) : FnOk P w K mg base CX0 2 f fd ["row"] (spD K F_code_of) := by
  obtain ⟨_, hI_SHIFT⟩ := T.i_SHIFT
  obtain ⟨_, hI_LOW⟩ := T.i_LOW
  obtain ⟨_, hI_MAX_THINGS⟩ := T.i_MAX_THINGS
  obtain ⟨_, hI_MAX_LAYINGS⟩ := T.i_MAX_LAYINGS
  obtain ⟨_, hI_MAX_UPRIGHT⟩ := T.i_MAX_UPRIGHT
  refine def_ok D.F sc_code_of (fun Γ cs R g => ?len) (fun cdv A outer s H E hr Γ cs R g => ?_)
  case len => obtain ⟨x, rfl, _⟩ := g; rfl
  obtain ⟨x, rfl, hx, rfl⟩ := g
  refine ⟨_, (pss_cons (ps_set (i := 1) sc_code_of.nd rfl (by first | exact .inl rfl | exact .inr rfl) pe_int)
      (pss_cons (ps_for PassesOwn.never rfl (pi_enumS (by rfl) T.z_enumerate (pa_cons (pv 0) pa_nil)) (pg_tup rfl (pgs_cons (pg_name (i := 2) sc_code_of.nd rfl (by first | exact .inl rfl | exact .inr rfl)) (pgs_cons (pg_name (i := 3) sc_code_of.nd rfl (by first | exact .inl rfl | exact .inr rfl)) pgs_nil)))
        (pss_one (ps_if (pt_cmpR op_eq (pv 3) pe_str (nomark _)) (pss_one (ps_set (i := 1) sc_code_of.nd rfl (by first | exact .inl rfl | exact .inr rfl) (pe_op op_or (pv 1) (pe_op op_shl pe_int (pv 2))))) (pss_one (ps_if (pt_cmpR op_eq (pv 3) pe_str (nomark _)) (pss_one (ps_set (i := 1) sc_code_of.nd rfl (by first | exact .inl rfl | exact .inr rfl) (pe_op op_or (pv 1) (pe_op op_shl pe_int (pe_op op_add (pv 2) (pe_glob (v := .int 9) rfl hI_SHIFT ⟨_, rfl⟩)))))) pss_nil)))))
      (pss_one (ps_ret (pv 1))))), fun Δ0 D' hf hn => ?_⟩
  refine wp_asg1 ev_int (ltr rfl) ?_
  refine wp_for (IvC Γ x) (src_enumS (ea_1 ev_var ea_nil) (fun i hi => sg_at hi) (ltr rfl) (ltr rfl)) ⟨rfl, none, none, rfl⟩ (fun i Γ' ρ' h => by obtain ⟨_, a, b, rfl⟩ := h; rfl) ?_ ?_
  · rintro i Γ' ρ' F' hi ⟨rfl, a, b, rfl⟩
    refine wp_if (et_test (ev_op1 (ev_var (i := 3)) (ev_strc [43]) o2_eqS)) (fun h1 => ?_) (fun h1 => ?_)
    · have hc : sg x i = 43 := tx1.mp (of_decide_eq_true h1)
      refine wp_asgL (ev_op1 (ev_var (i := 1)) (ev_op1 ev_int (ev_var (i := 2)) (o2_I (C := CPow) ⟨by omega, by omega, by decide⟩)) o2_I0) (ltr rfl) (fun r hr => wp_turn (Iv := IvC Γ' x) ⟨rfl, some ⟨(i : Int)⟩, some ⟨(⟨[sg x i]⟩ : Tx)⟩, ?_⟩ rfl)
      have er : r = ((codeUp x (i + 1) : Nat) : Int) := by
        rw [show r = _ from hr, codeUp, bitAt, if_pos hc, Int.toNat_natCast, Int.one_mul, ← or_nn, Int.natCast_pow]
        rfl
      rw [er]
      rfl
    · have hc : sg x i ≠ 43 := fun z => of_decide_eq_false h1 (tx1.mpr z)
      refine wp_if (et_test (ev_op1 (ev_var (i := 3)) (ev_strc [45]) o2_eqS)) (fun h2 => ?_) (fun h2 => ?_)
      · have hd : sg x i = 45 := tx1.mp (of_decide_eq_true h2)
        refine wp_asgL (ev_op1 (ev_var (i := 1)) (ev_op1 ev_int (ev_op1 (ev_var (i := 2)) ev_int o2_I0) (o2_I (C := CPow) ⟨by omega, by omega, by decide⟩)) o2_I0) (ltr rfl) (fun r hr => wp_turn (Iv := IvC Γ' x) ⟨rfl, some ⟨(i : Int)⟩, some ⟨(⟨[sg x i]⟩ : Tx)⟩, ?_⟩ rfl)
        have er : r = ((codeUp x (i + 1) : Nat) : Int) := by
          rw [show r = _ from hr, codeUp, bitAt, if_neg hc, if_pos hd, Int.one_mul, ← or_nn, Int.natCast_pow]
          congr 2
        rw [er]
        rfl
      · have hd : sg x i ≠ 45 := fun z => of_decide_eq_false h2 (tx1.mpr z)
        refine wp_turn (Iv := IvC Γ' x) ⟨rfl, some ⟨(i : Int)⟩, some ⟨(⟨[sg x i]⟩ : Tx)⟩, ?_⟩ rfl
        have er : codeUp x (i + 1) = codeUp x i := by rw [codeUp, bitAt, if_neg hc, if_neg hd, Nat.or_zero]
        rw [er]
        rfl
  · rintro Γ' ρ' F' ⟨rfl, a, b, rfl⟩
    exact wp_ret hf (ev_var (i := 1))
def tn (x : Tx) : Tx := mk x.s.length fun i => sw (sg x i)
theorem tn_row {x : Tx} (h : Row x) : Row (tn x) := row_mk h.len fun i hi => by
  have q := h.sg hi
  revert q
  generalize sg x i = c
  intro q
  unfold isSign at q ⊢
  unfold sw
  simp only [Bool.or_eq_true, beq_iff_eq] at q ⊢
  split <;> (try split) <;> omega
theorem range_at {n i x : Nat} (h : (List.range n)[i]? = some x) : x = i ∧ i < n := by
  obtain ⟨h1, h2⟩ := List.getElem?_eq_some_iff.mp h
  rw [List.getElem_range] at h2
  rw [List.length_range] at h1
  exact ⟨h2.symm, h1⟩
/-- a row made sign by sign -/
theorem ev_mk {Γ : Own} {ρ : Z.Env} {te : TE} {wi : TI} {g : TG} {js vs : List Nat} {st : Nat → Z.Env → Z.Env} {z : Str} {n : Nat} {f : Nat → Nat} (hn : n ≤ 9) (S : Src K Γ wi g ρ js n st) (hjs : ∀ j ∈ js, j ∈ vs)
    (hs : ∀ i, i < n → Ev K Γ te (st i (wipeE ρ vs)) (Is (⟨[f i]⟩ : Tx))) (hz0 : z = "" := by rfl) :
    Ev K Γ (tM1 (rJoin K) (tC (.str z)) (tLc wi g tYes te vs)) ρ (Is (mk n f)) := by
  have S' : Src K Γ wi g ρ js (List.range n).length st := by rw [List.length_range]; exact S
  have h := ev_lcD (t := tYes) (te := te) (vs := vs) (xs := List.range n) (fun _ => true) (fun i => (⟨[f i]⟩ : Tx)) S' (by rw [List.length_range]; omega) hjs fun i x hx => by
    obtain ⟨rfl, hi⟩ := range_at hx
    exact ⟨et_yes, fun _ => hs x hi⟩
  rw [List.filter_eq_self.mpr (fun _ _ => rfl)] at h
  have h2 := ev_join (z := z) hz0 h (by rw [flat_len]; omega)
  rw [flat_mk] at h2
  exact h2
/-- the places with p, as a tuple -/
theorem ev_ix {Γ : Own} {ρ : Z.Env} {te : TE} {t : TT} {wi : TI} {g : TG} {js vs : List Nat} {st : Nat → Z.Env → Z.Env} {n : Nat} {p : Nat → Bool} (hn : n ≤ 9) (S : Src K Γ wi g ρ js n st) (hjs : ∀ j ∈ js, j ∈ vs)
    (hs : ∀ i, i < n → EvT K Γ t (st i (wipeE ρ vs)) (Is (p i)) ∧ Ev K Γ te (st i (wipeE ρ vs)) (Is (i : Int))) : Ev K Γ (tLc wi g t te vs) ρ (Is (ix n p)) := by
  have S' : Src K Γ wi g ρ js (List.range n).length st := by rw [List.length_range]; exact S
  exact ev_lcD (t := t) (te := te) (vs := vs) (xs := List.range n) p (fun i => ((i : Nat) : Int)) S' (by rw [List.length_range]; omega) hjs fun i x hx => by
    obtain ⟨rfl, hi⟩ := range_at hx
    exact ⟨(hs x hi).1, fun _ => (hs x hi).2⟩
theorem row1 {x : Tx} (h : Row x) {i : Nat} (hi : i < x.s.length) {Γ : Own} {ρ : Z.Env} {ta tb : TE} (h1 : Ev K Γ ta ρ (Is x)) (h2 : Ev K Γ tb ρ (Is (i : Int))) : Ev K Γ (tOp rIxS ta tb) ρ (Is (⟨[sg x i]⟩ : Tx)) := ev_op1 h1 h2 (o2_ixS (len_le h) (sg_at hi))
end
end K03

set_option Elab.async false
set_option linter.all false
set_option maxRecDepth 100000
set_option maxHeartbeats 1000000
namespace K03
open PySem PySem.Spec PyProof.Rows L2 Z K00
section
variable {P : Program} {w : World} {K : PySem.W.Frag} {mg : Str → Option Value} {base : Heap}
theorem fmod_nn {x t : Int} (hx : 0 ≤ x) (ht : 0 < t) : 0 ≤ x.fmod t ∧ x.fmod t < t := by
  rw [Int.fmod_eq_emod_of_nonneg x (Int.le_of_lt ht)]
  exact ⟨Int.emod_nonneg x (by omega), Int.emod_lt_of_pos x ht⟩
theorem fdiv_nn {x t : Int} (hx : 0 ≤ x) (ht : 0 < t) : 0 ≤ x.fdiv t := by
  rw [Int.fdiv_eq_ediv_of_nonneg x (Int.le_of_lt ht)]
  exact Int.ediv_nonneg hx (Int.le_of_lt ht)
def F__law_roll : Pm Int := fun Γ cs R => ∃ (p : Addr) (t : Int), cs = [⟨(⟨p⟩ : Z.Loc)⟩, ⟨t⟩] ∧ (p, DiceI) ∈ Γ ∧ 1 ≤ t ∧ t ≤ 1000000 ∧ R = fun r => 0 ≤ r ∧ r < t
theorem sc__law_roll : FnScope ["_law_dice_here", "_law_total", "_law_found", "_law_one", "_law_two"] ["_law_dice_here", "_law_total"] (defScope s__law_roll) := ⟨rfl, rfl, rfl, by decide +kernel, rfl, by decide +kernel, by decide +kernel⟩
theorem ok__law_roll (T : Txt K mg) {f : Addr} {fd : FuncData} (D : Df K mg "_law_roll" s__law_roll ["_law_dice_here", "_law_total"] f fd) : FnOk P w K mg base CX0 2 f fd ["_law_dice_here", "_law_total"] (spD K F__law_roll) := by
  obtain ⟨_, hI_SHIFT⟩ := T.i_SHIFT
  obtain ⟨_, hI_LOW⟩ := T.i_LOW
  obtain ⟨_, hI_MAX_THINGS⟩ := T.i_MAX_THINGS
  obtain ⟨_, hI_MAX_LAYINGS⟩ := T.i_MAX_LAYINGS
  obtain ⟨_, hI_MAX_UPRIGHT⟩ := T.i_MAX_UPRIGHT
  refine def_ok D.F sc__law_roll (fun Γ cs R g => ?len) (fun cdv A outer s H E hr Γ cs R g => ?_)
  case len => obtain ⟨x, n, rfl, _⟩ := g; rfl
  obtain ⟨p, t, rfl, hp, h1, h2, rfl⟩ := g
  refine ⟨_, (pss_cons (ps_if (pt_cmpR op_gt (pe_ix ix_listK (pv 0) pe_int (fun _ _ => rfl)) pe_int (nomark _)) (pss_cons (ps_set (i := 2) sc__law_roll.nd rfl (by first | exact .inl rfl | exact .inr rfl) (pe_op op_modN (pe_callTy call_int1 (by rfl) T.z_int (by decide +kernel) (pa_cons (pe_ix ix_listK (pv 0) pe_int (fun _ _ => rfl)) pa_nil)) (pv 1)))
        (pss_cons (ps_asg (pe_op op_fdivN (pe_ix ix_listK (pv 0) pe_int (fun _ _ => rfl)) (pv 1)) (pg_sub (pv 0) pe_int set_list))
        (pss_one (ps_ret (pv 2))))) pss_nil)
      (pss_cons (ps_asg (pe_op op_add (pe_ix ix_listK (pv 0) pe_int (fun _ _ => rfl)) pe_int) (pg_sub (pv 0) pe_int set_list))
      (pss_cons (ps_set (i := 3) sc__law_roll.nd rfl (by first | exact .inl rfl | exact .inr rfl) (pe_op op_modN (pe_callTy call_int1 (by rfl) T.z_int (by decide +kernel) (pa_cons (pe_op op_add (pe_ix ix_listK (pv 0) pe_int (fun _ _ => rfl)) (pe_op op_mul pe_int (pe_ix ix_listK (pv 0) pe_int (fun _ _ => rfl)))) pa_nil)) pe_int))
      (pss_cons (ps_set (i := 4) sc__law_roll.nd rfl (by first | exact .inl rfl | exact .inr rfl) (pe_op op_add (pe_op op_mul (pe_op op_modN (pe_callTy call_int1 (by rfl) T.z_int (by decide +kernel) (pa_cons (pe_op op_add (pe_op op_mul (pv 3) (pv 3)) (pe_op op_mul pe_int (pe_ix ix_listK (pv 0) pe_int (fun _ _ => rfl)))) pa_nil)) pe_int) pe_int) (pv 3)))
      (pss_one (ps_ret (pe_op op_modN (pe_callTy call_int1 (by rfl) T.z_int (by decide +kernel) (pa_cons (pe_op op_fdivN (pv 4) pe_int) pa_nil)) (pv 1)))))))), fun Δ0 D' hf hn => ?_⟩
  have d0 : ∀ {ρ : Z.Env}, ρ[0]? = some (some ⟨(⟨p⟩ : Z.Loc)⟩) → Ev K Γ (tOp (rIxL K) (tVar 0) (tC (.int 0))) ρ (fun n : Int => 0 ≤ n) := fun h => ev_dice (i := 0) hp (by decide) (ev_var h)
  have d1 : ∀ {ρ : Z.Env}, ρ[0]? = some (some ⟨(⟨p⟩ : Z.Loc)⟩) → Ev K Γ (tOp (rIxL K) (tVar 0) (tC (.int 1))) ρ (fun n : Int => 0 ≤ n) := fun h => ev_dice (i := 1) hp (by decide) (ev_var h)
  have d2 : ∀ {ρ : Z.Env}, ρ[0]? = some (some ⟨(⟨p⟩ : Z.Loc)⟩) → Ev K Γ (tOp (rIxL K) (tVar 0) (tC (.int 2))) ρ (fun n : Int => 0 ≤ n) := fun h => ev_dice (i := 2) hp (by decide) (ev_var h)
  have md : ∀ {ρ : Z.Env} {ta tb : TE} {m : Int}, 0 < m → Ev K Γ ta ρ (fun n : Int => 0 ≤ n) → Ev K Γ tb ρ (Is m) → Ev K Γ (tOp (rI (fun _ j => j ≠ 0) fun i j => .int (i.fmod j)) ta tb) ρ (fun n : Int => 0 ≤ n ∧ n < m) := fun hm ha hb =>
    ev_opP ha hb fun x y hx hy => ⟨x.fmod y, o2_I (g := Int.fmod) (by rw [show y = _ from hy]; omega), by rw [show y = _ from hy]; exact fmod_nn hx hm⟩
  have it : ∀ {ρ : Z.Env} {ta : TE}, Ev K Γ ta ρ (fun n : Int => 0 ≤ n) → Ev K Γ (tCB (fun xs H Q => (∃ i, xs = [.int i] ∧ Q (.int i) H) ∨ ∃ k, xs = [.bl k] ∧ Q (.int (if k then 1 else 0)) H) (tCons ta tNil)) ρ (fun n : Int => 0 ≤ n) := fun h => ev_cbP h fun x hx => ⟨x, o1_int, hx⟩
  refine wp_ifP (D := { D' with nx := _ }) (PB := fun _ => True) (et_test (ev_opP (d0 rfl) ev_int fun x y _ _ => ⟨decide (y < x), o2_B0 (g := fun i j => decide (j < i)), trivial⟩)) (fun _ => ?_) (fun _ => ?_)
  · refine wp_asg (md (m := t) (by omega) (it (d0 rfl)) (ev_var (i := 1))) (ltr rfl) fun a ha => ?_
    refine wp_dice (i := 0) hp (by decide) (ev_opP (d0 rfl) (ev_var (i := 1) (a := t)) fun x y hx hy => ⟨x.fdiv y, o2_I (C := CDivN) (g := Int.fdiv) (by rw [show y = t from hy]; exact ⟨by omega, by omega⟩), by rw [show y = t from hy]; exact fdiv_nn hx (by omega)⟩) (ev_var (i := 0)) ?_
    exact wp_ret hf ((ev_var (i := 2)).imp fun r hr => by rw [show r = a from hr]; exact ha)
  · refine wp_dice (i := 2) hp (by decide) (ev_opP (d2 rfl) ev_int fun x y hx hy => ⟨x + y, o2_I0 (g := fun i j => i + j), by rw [show y = _ from hy]; omega⟩) (ev_var (i := 0)) ?_
    refine wp_asg (md (m := 2305843009213693487) (by decide) (it (ev_opP (d1 rfl) (ev_opP (Pc := fun n : Int => 0 ≤ n) ev_int (d2 rfl) fun x y hx hy => ⟨x * y, o2_I (C := CMul) (g := fun i j => i * j) (.inl (by rw [show x = 104395303 from hx]; decide)), by rw [show x = 104395303 from hx]; exact Int.mul_nonneg (by decide) hy⟩) fun x y hx hy => ⟨x + y, o2_I0 (g := fun i j => i + j), Int.add_nonneg hx hy⟩)) ev_int) (ltr rfl) fun one h1' => ?_
    refine wp_asg (P := fun n : Int => 0 ≤ n) (ev_opP (ev_opP (Pc := fun n : Int => 0 ≤ n) (md (m := 2305843009213693223) (by decide) (it (ev_opP (Pc := fun n : Int => 0 ≤ n) (ev_opP (Pc := fun n : Int => 0 ≤ n) (ev_var (i := 3) (a := one)) (ev_var (i := 3) (a := one)) fun x y hx hy => ⟨x * y, o2_I (C := CMul) (g := fun i j => i * j) (.inl (by rw [show x = one from hx]; omega)), by rw [show x = one from hx, show y = one from hy]; exact Int.mul_nonneg h1'.1 h1'.1⟩) (ev_opP (Pc := fun n : Int => 0 ≤ n) ev_int (d2 rfl) fun x y hx hy => ⟨x * y, o2_I (C := CMul) (g := fun i j => i * j) (.inl (by rw [show x = 113 from hx]; decide)), by rw [show x = 113 from hx]; exact Int.mul_nonneg (by decide) hy⟩) fun x y hx hy => ⟨x + y, o2_I0 (g := fun i j => i + j), Int.add_nonneg hx hy⟩)) ev_int) ev_int fun x y hx hy => ⟨x * y, o2_I (C := CMul) (g := fun i j => i * j) (.inl (by omega)), by rw [show y = 3497861 from hy]; exact Int.mul_nonneg hx.1 (by decide)⟩) (ev_var (i := 3) (a := one)) fun x y hx hy => ⟨x + y, o2_I0 (g := fun i j => i + j), by rw [show y = one from hy]; exact Int.add_nonneg hx h1'.1⟩) (ltr rfl) fun two h2' => ?_
    exact wp_ret hf (md (m := t) (by omega) (it (ev_opP (ev_var (i := 4) (a := two)) ev_int fun x y hx hy => ⟨x.fdiv y, o2_I (C := CDivN) (g := Int.fdiv) (by rw [show y = 65536 from hy]; exact ⟨by decide, by decide⟩), by rw [show x = two from hx, show y = 65536 from hy]; exact fdiv_nn h2' (by decide)⟩)) (ev_var (i := 1)))
def F__law_dice : Own → List Cell → Prop := fun _ cs => ∃ (xs : List Int) (n : Nat), cs = [⟨xs⟩, ⟨(n : Int)⟩]
theorem abs_nn (c : Int) : 0 ≤ (if c < 0 then -c else c) := by split <;> omega
theorem sc__law_dice : FnScope ["_law_script", "_law_spot", "_law_cell", "_law_left"] ["_law_script", "_law_spot"] (defScope s__law_dice) := ⟨rfl, rfl, rfl, by decide +kernel, rfl, by decide +kernel, by decide +kernel⟩
theorem ok__law_dice (T : Txt K mg) {f : Addr} {fd : FuncData} (D : Df K mg "_law_dice" s__law_dice ["_law_script", "_law_spot"] f fd) : FnOk P w K mg base CX0 2 f fd ["_law_script", "_law_spot"] (spF K F__law_dice DiceI) := by
  obtain ⟨_, hI_SHIFT⟩ := T.i_SHIFT
  obtain ⟨_, hI_LOW⟩ := T.i_LOW
  obtain ⟨_, hI_MAX_THINGS⟩ := T.i_MAX_THINGS
  obtain ⟨_, hI_MAX_LAYINGS⟩ := T.i_MAX_LAYINGS
  obtain ⟨_, hI_MAX_UPRIGHT⟩ := T.i_MAX_UPRIGHT
  refine def_okF D.F sc__law_dice (fun Γ cs g => ?len) (fun cdv A outer s H E hr Γ cs g => ?_)
  case len => obtain ⟨xs, n, rfl⟩ := g; rfl
  obtain ⟨xs, n, rfl⟩ := g
  refine ⟨_, (pss_cons (ps_set (i := 2) sc__law_dice.nd rfl (by first | exact .inl rfl | exact .inr rfl) (pe_ifExp (pt_cmpR op_lt (pv 1) (pe_callB call_lenK (by rfl) T.z_len (by decide +kernel) (pa_cons (pv 0) pa_nil)) (nomark _)) (pe_callTy call_int1 (by rfl) T.z_int (by decide +kernel) (pa_cons (pe_ix ix_listK (pv 0) (pv 1) (fun _ _ => rfl)) pa_nil)) (pe_op op_add (pe_op op_mul pe_int (pv 1)) pe_int)))
      (pss_cons (ps_set (i := 3) sc__law_dice.nd rfl (by first | exact .inl rfl | exact .inr rfl) (pe_op op_modN (pe_callB (call_max2 rfl) (by rfl) T.z_max (by decide +kernel) (pa_cons pe_int (pa_cons (pe_op op_sub (pe_callB call_abs (by rfl) T.z_abs (by decide +kernel) (pa_cons (pv 2) pa_nil)) (pe_op op_pow pe_int pe_int)) pa_nil))) (pe_op op_mulW (pe_op op_pow pe_int pe_int) (pe_op op_pow pe_int pe_int))))
      (pss_one (ps_ret (pe_lst (pa_cons (pv 3) (pa_cons (pe_op op_add (pe_op op_add (pe_op op_add (pe_op op_mul (pe_op op_modN (pe_callB call_abs (by rfl) T.z_abs (by decide +kernel) (pa_cons (pv 2) pa_nil)) pe_int) pe_int) (pe_op op_mul pe_int (pv 1))) (pe_op op_mul pe_int (pe_callTy call_int1 (by rfl) T.z_int (by decide +kernel) (pa_cons (pe_cmpR op_lt (pv 2) pe_int (nomark _)) pa_nil)))) pe_int) (pa_cons pe_int pa_nil)))))))), fun Δ0 D' hf => ?_⟩
  refine wp_asg (P := fun _ : Int => True) (ev_if (et_test (ev_op1 (ev_var (i := 1)) (ev_cb (ev_var (i := 0) (a := xs)) o1_lenL) (o2_B0 (g := fun i j => decide (i < j))))) (fun h => (ev_cb (ev_op1 (ev_var (i := 0) (a := xs)) (ev_var (i := 1)) (o2_ixL (List.getElem?_eq_getElem (by have := of_decide_eq_true h; omega)))) o1_int).imp fun _ _ => trivial) fun _ => (ev_op1 (ev_op1 ev_int (ev_var (i := 1)) (o2_I (C := CMul) (g := fun i j => i * j) (.inl (by decide)))) ev_int (o2_I0 (g := fun i j => i + j))).imp fun _ _ => trivial) (ltr rfl) fun c _ => ?_
  refine wp_asg (P := fun n : Int => 0 ≤ n) ((ev_op1 (ev_max2 ev_int (ev_op1 (ev_cb (ev_var (i := 2)) o1_abs) (ev_op1 ev_int ev_int (o2_I (C := CPow) (g := fun i j => i ^ j.toNat) ⟨by decide, by decide, by decide⟩)) (o2_I0 (g := fun i j => i - j)))) (ev_op1 (ev_op1 ev_int ev_int (o2_I (C := CPow) (g := fun i j => i ^ j.toNat) ⟨by decide, by decide, by decide⟩)) (ev_op1 ev_int ev_int (o2_I (C := CPow) (g := fun i j => i ^ j.toNat) ⟨by decide, by decide, by decide⟩)) (o2_I (C := CMulW) (g := fun i j => i * j) (wide_mul (a := 200) (b := 200) (by decide +kernel) (by decide +kernel) (by decide) (by decide) (by decide)))) (o2_I (C := fun _ j => j ≠ 0) (g := Int.fmod) (by decide +kernel))).imp fun r hr => ?_) (ltr rfl) fun l hl => ?_
  · rw [show r = _ from hr]
    refine (fmod_nn ?_ (by decide +kernel)).1
    split <;> omega
  refine wp_ret3 hf (ea_cons (Pa := fun n : Int => 0 ≤ n) ((ev_var (i := 3) (a := l)).imp fun r hr => by rw [show r = l from hr]; exact hl) (ea_cons (Pa := fun n : Int => 0 ≤ n) (P := fun cs => ∃ b c : Int, cs = [⟨b⟩, ⟨c⟩] ∧ 0 ≤ b ∧ 0 ≤ c) ((ev_op1 (ev_op1 (ev_op1 (ev_op1 (ev_op1 (ev_cb (ev_var (i := 2) (a := c)) o1_abs) ev_int (o2_I (C := fun _ j => j ≠ 0) (g := Int.fmod) (by decide))) ev_int (o2_I (C := CMul) (g := fun i j => i * j) (.inr (by decide)))) (ev_op1 ev_int (ev_var (i := 1)) (o2_I (C := CMul) (g := fun i j => i * j) (.inl (by decide)))) (o2_I0 (g := fun i j => i + j))) (ev_op1 ev_int (ev_cb (ev_op1 (ev_var (i := 2) (a := c)) ev_int (o2_B0 (g := fun i j => decide (i < j)))) o1_intB) (o2_I (C := CMul) (g := fun i j => i * j) (.inl (by decide)))) (o2_I0 (g := fun i j => i + j))) ev_int (o2_I0 (g := fun i j => i + j))).imp fun r hr => ?_) (ea_cons (Pa := fun n : Int => 0 ≤ n) (Ps := Is []) (P := fun cs => ∃ c : Int, cs = [⟨c⟩] ∧ 0 ≤ c) (ev_int.imp fun r hr => by rw [show r = 0 from hr]; decide) ea_nil fun a cs ha hc => ⟨a, by rw [show cs = [] from hc], ha⟩) fun a cs ha hc => by obtain ⟨c, rfl, h⟩ := hc; exact ⟨a, c, rfl, ha, h⟩) fun a cs ha hc => by obtain ⟨b, c, rfl, h1, h2⟩ := hc; exact ⟨a, b, c, rfl, ha, h1, h2⟩)
  rw [show r = _ from hr]
  have h1 := (fmod_nn (t := 1152921504606846397) (abs_nn c) (by decide)).1
  have h2 : (0 : Int) ≤ if decide (c < 0) = true then 1 else 0 := by split <;> decide
  show (0 : Int) ≤ Int.fmod (if c < 0 then -c else c) 1152921504606846397 * 73 + 811 * (n : Int) + 43 * (if decide (c < 0) = true then 1 else 0) + 19
  omega
def F__law_pick : Pm Tx := fun Γ cs R => (∃ (p : Addr) (x : Tx), cs = [⟨(⟨p⟩ : Z.Loc)⟩, ⟨x⟩] ∧ (p, DiceI) ∈ Γ ∧ 1 ≤ x.s.length ∧ x.s.length ≤ 100000 ∧ R = fun y => ∃ i, i < x.s.length ∧ y = ⟨[sg x i]⟩) ∨
  ∃ (p q : Addr) (xs : List Tx), cs = [⟨(⟨p⟩ : Z.Loc)⟩, ⟨(⟨q⟩ : Z.Loc)⟩] ∧ (p, DiceI) ∈ Γ ∧ OwnL q xs ∈ Γ ∧ 1 ≤ xs.length ∧ xs.length ≤ 1000 ∧ R = fun y => y ∈ xs
theorem sc__law_pick : FnScope ["_law_dice_here", "_law_items"] ["_law_dice_here", "_law_items"] (defScope s__law_pick) := ⟨rfl, rfl, rfl, by decide +kernel, rfl, by decide +kernel, by decide +kernel⟩
theorem ok__law_pick (T : Txt K mg) {f : Addr} {fd : FuncData} (D : Df K mg "_law_pick" s__law_pick ["_law_dice_here", "_law_items"] f fd) {f__law_roll : Addr} {fd__law_roll : FuncData} (D__law_roll : Df K mg "_law_roll" s__law_roll ["_law_dice_here", "_law_total"] f__law_roll fd__law_roll) (G__law_roll : FnOk P w K mg base CX0 2 f__law_roll fd__law_roll ["_law_dice_here", "_law_total"] (spD K F__law_roll)) : FnOk P w K mg base CX0 3 f fd ["_law_dice_here", "_law_items"] (spD K F__law_pick) := by
  obtain ⟨_, hI_SHIFT⟩ := T.i_SHIFT
  obtain ⟨_, hI_LOW⟩ := T.i_LOW
  obtain ⟨_, hI_MAX_THINGS⟩ := T.i_MAX_THINGS
  obtain ⟨_, hI_MAX_LAYINGS⟩ := T.i_MAX_LAYINGS
  obtain ⟨_, hI_MAX_UPRIGHT⟩ := T.i_MAX_UPRIGHT
  refine def_ok D.F sc__law_pick (fun Γ cs R g => ?len) (fun cdv A outer s H E hr Γ cs R g => ?_)
  case len =>
    rcases g with ⟨p, x, rfl, _⟩ | ⟨p, q, xs, rfl, _⟩
    · rfl
    · rfl
  rcases g with ⟨p, x, rfl, hp, h1, h2, rfl⟩ | ⟨p, q, xs, rfl, hp, hq, h1, h2, rfl⟩
  · refine ⟨_, (pss_one (ps_ret (pe_ix ix_str (pv 1) (pe_call G__law_roll (hr.mono (by decide)) (by rfl) D__law_roll.g D__law_roll.kp D__law_roll.b .nil pass0 (pa_cons (pv 0) (pa_cons (pe_callB call_lenK (by rfl) T.z_len (by decide +kernel) (pa_cons (pv 1) pa_nil)) pa_nil))) (fun _ _ => rfl)))), fun Δ0 D' hf hn => wp_ret hf ?_⟩
    refine ev_opP (ev_var (i := 1) (a := x)) (ev_call1 (ea_1 (ev_var (i := 0)) (ea_1 (ev_cb (ev_var (i := 1)) (o1_lenS h2)) ea_nil)) ⟨p, _, rfl, hp, by omega, by omega, rfl⟩) fun a r ha hr => ⟨⟨[sg x r.toNat]⟩, ?_, r.toNat, by omega, rfl⟩
    rw [show a = x from ha]
    have e : r = ((r.toNat : Nat) : Int) := (Int.toNat_of_nonneg hr.1).symm
    rw [e, Int.toNat_natCast]
    exact o2_ixS h2 (sg_at (by omega))
  · refine ⟨_, (pss_one (ps_ret (pe_ix ix_listK (pv 1) (pe_call G__law_roll (hr.mono (by decide)) (by rfl) D__law_roll.g D__law_roll.kp D__law_roll.b .nil pass0 (pa_cons (pv 0) (pa_cons (pe_callB call_lenK (by rfl) T.z_len (by decide +kernel) (pa_cons (pv 1) pa_nil)) pa_nil))) (fun _ _ => rfl)))), fun Δ0 D' hf hn => wp_ret hf ?_⟩
    exact ev_ixO hq (ev_var (i := 1)) (ev_call1 (ea_1 (ev_var (i := 0)) (ea_1 (ev_lenO hq (ev_var (i := 1))) ea_nil)) ⟨p, _, rfl, hp, by omega, by omega, rfl⟩)
theorem Fp1 {Γ : Own} {p : Addr} {x : Tx} (hp : (p, DiceI) ∈ Γ) (h1 : 1 ≤ x.s.length) (h2 : x.s.length ≤ 100000) : F__law_pick Γ [⟨(⟨p⟩ : Z.Loc)⟩, ⟨x⟩] (fun y => ∃ i, i < x.s.length ∧ y = ⟨[sg x i]⟩) := .inl ⟨p, x, rfl, hp, h1, h2, rfl⟩
theorem Fp2 {Γ : Own} {p q : Addr} {xs : List Tx} (hp : (p, DiceI) ∈ Γ) (hq : OwnL q xs ∈ Γ) (h1 : 1 ≤ xs.length) (h2 : xs.length ≤ 1000) : F__law_pick Γ [⟨(⟨p⟩ : Z.Loc)⟩, ⟨(⟨q⟩ : Z.Loc)⟩] (fun y => y ∈ xs) := .inr ⟨p, q, xs, rfl, hp, hq, h1, h2, rfl⟩
def F__law_flip : Pm Tx := fun _ cs R => ∃ c : Nat, cs = [⟨(⟨[c]⟩ : Tx)⟩] ∧ isSign c = true ∧ R = Is ⟨[sw c]⟩
theorem sc__law_flip : FnScope ["_law_sign"] ["_law_sign"] (defScope s__law_flip) := ⟨rfl, rfl, rfl, by decide +kernel, rfl, by decide +kernel, by decide +kernel⟩
theorem ok__law_flip (T : Txt K mg) {f : Addr} {fd : FuncData} (D : Df K mg "_law_flip" s__law_flip ["_law_sign"] f fd) : FnOk P w K mg base CX0 2 f fd ["_law_sign"] (spD K F__law_flip) := by
  obtain ⟨_, hI_SHIFT⟩ := T.i_SHIFT
  obtain ⟨_, hI_LOW⟩ := T.i_LOW
  obtain ⟨_, hI_MAX_THINGS⟩ := T.i_MAX_THINGS
  obtain ⟨_, hI_MAX_LAYINGS⟩ := T.i_MAX_LAYINGS
  obtain ⟨_, hI_MAX_UPRIGHT⟩ := T.i_MAX_UPRIGHT
  refine def_ok D.F sc__law_flip (fun Γ cs R g => ?len) (fun cdv A outer s H E hr Γ cs R g => ?_)
  case len => obtain ⟨c, rfl, _⟩ := g; rfl
  obtain ⟨c, rfl, hc, rfl⟩ := g
  refine ⟨_, (pss_one (ps_ret (pe_dget (hu_of hr) (pe_disp (pps_cons pe_str pe_str (pps_cons pe_str pe_str (pps_cons pe_str pe_str pps_nil))) (by rfl) (by rfl) (fun z => by cases z) (by decide)) (pv 0) (fun _ _ => rfl)))), fun Δ0 D' hf hn => wp_ret hf (ev_flip hc (ev_var (i := 0)))⟩
def F__law_turn : Pm Tx := fun _ cs R => ∃ x : Tx, cs = [⟨x⟩] ∧ Row x ∧ R = Is (tn x)
theorem sc__law_turn : FnScope ["_law_row", "_law_sign"] ["_law_row"] (defScope s__law_turn) := ⟨rfl, rfl, rfl, by decide +kernel, rfl, by decide +kernel, by decide +kernel⟩
theorem ok__law_turn (T : Txt K mg) {f : Addr} {fd : FuncData} (D : Df K mg "_law_turn" s__law_turn ["_law_row"] f fd) {f__law_flip : Addr} {fd__law_flip : FuncData} (D__law_flip : Df K mg "_law_flip" s__law_flip ["_law_sign"] f__law_flip fd__law_flip) (G__law_flip : FnOk P w K mg base CX0 2 f__law_flip fd__law_flip ["_law_sign"] (spD K F__law_flip)) : FnOk P w K mg base CX0 3 f fd ["_law_row"] (spD K F__law_turn) := by
  obtain ⟨_, hI_SHIFT⟩ := T.i_SHIFT
  obtain ⟨_, hI_LOW⟩ := T.i_LOW
  obtain ⟨_, hI_MAX_THINGS⟩ := T.i_MAX_THINGS
  obtain ⟨_, hI_MAX_LAYINGS⟩ := T.i_MAX_LAYINGS
  obtain ⟨_, hI_MAX_UPRIGHT⟩ := T.i_MAX_UPRIGHT
  refine def_ok D.F sc__law_turn (fun Γ cs R g => ?len) (fun cdv A outer s H E hr Γ cs R g => ?_)
  case len => obtain ⟨c, rfl, _⟩ := g; rfl
  obtain ⟨x, rfl, hx, rfl⟩ := g
  refine ⟨_, (pss_one (ps_ret (pe_joinK pe_str (pe_lc (own := [("_law_sign", 1)]) (g := (gName 1)) (tt := tYes) rfl sc__law_turn.nd (pi_str (pv 0)) (blkOk_by (N := ["_law_row", "_law_sign"]) (sc := defScope s__law_turn) (by decide +kernel)) (fun _ _ _ _ _ => (pg_name (i := 1) sc__law_turn.nd rfl (by first | exact .inl rfl | exact .inr rfl))) (fun _ _ _ _ _ => pts_nil) (fun _ _ _ _ _ => (pe_call G__law_flip (hr.mono (by decide)) (by rfl) D__law_flip.g D__law_flip.kp D__law_flip.b .nil pass0 (pa_cons (pv 1) pa_nil))))))), fun Δ0 D' hf hn => wp_ret hf (ev_mk hx.len (src_str (ev_var (i := 0)) (fun i hi => sg_at hi) (ltr rfl)) (by decide) fun i hi => ?_)⟩
  exact ev_call1 (ea_1 (ev_var (i := 1)) ea_nil) ⟨_, rfl, hx.sg hi, rfl⟩
def hasI (x : Tx) : List Int := ix x.s.length fun i => !decide (sg x i = 48)
theorem flat_signs : ∀ {xs : List Tx}, (∀ y ∈ xs, ∃ c, isSign c = true ∧ y = (⟨[c]⟩ : Tx)) → ((xs.map (·.s)).flatten).length = xs.length ∧ ((xs.map (·.s)).flatten).all isSign = true
  | [], _ => ⟨rfl, rfl⟩
  | x :: xs, h => by
    obtain ⟨c, hc, rfl⟩ := h x List.mem_cons_self
    obtain ⟨h1, h2⟩ := flat_signs fun y hy => h y (List.mem_cons_of_mem _ hy)
    constructor
    · simp only [List.map_cons, List.flatten_cons, List.length_append, List.length_cons, List.length_nil, h1]
      omega
    · simp only [List.map_cons, List.flatten_cons, List.all_append, h2, List.all_cons, hc]
      rfl
abbrev DR (n : Nat) : Tx → Prop := fun x => Row x ∧ x.s.length = n
def F__law_drawn_row : Pm Tx := fun Γ cs R => ∃ (p : Addr) (n : Nat), cs = [⟨(⟨p⟩ : Z.Loc)⟩, ⟨(n : Int)⟩] ∧ (p, DiceI) ∈ Γ ∧ n ≤ 9 ∧ R = DR n
theorem sgi3 {i : Nat} (hi : i < 3) : isSign (sg (⟨[43, 45, 48]⟩ : Tx) i) = true := by
  match i, hi with
  | 0, _ => rfl
  | 1, _ => rfl
  | 2, _ => rfl
theorem sc__law_drawn_row : FnScope ["_law_dice_here", "_law_size", "_law_at"] ["_law_dice_here", "_law_size"] (defScope s__law_drawn_row) := ⟨rfl, rfl, rfl, by decide +kernel, rfl, by decide +kernel, by decide +kernel⟩
theorem ok__law_drawn_row (T : Txt K mg) {f : Addr} {fd : FuncData} (D : Df K mg "_law_drawn_row" s__law_drawn_row ["_law_dice_here", "_law_size"] f fd) {f__law_pick : Addr} {fd__law_pick : FuncData} (D__law_pick : Df K mg "_law_pick" s__law_pick ["_law_dice_here", "_law_items"] f__law_pick fd__law_pick) (G__law_pick : FnOk P w K mg base CX0 3 f__law_pick fd__law_pick ["_law_dice_here", "_law_items"] (spD K F__law_pick)) : FnOk P w K mg base CX0 4 f fd ["_law_dice_here", "_law_size"] (spD K F__law_drawn_row) := by
  obtain ⟨_, hI_SHIFT⟩ := T.i_SHIFT
  obtain ⟨_, hI_LOW⟩ := T.i_LOW
  obtain ⟨_, hI_MAX_THINGS⟩ := T.i_MAX_THINGS
  obtain ⟨_, hI_MAX_LAYINGS⟩ := T.i_MAX_LAYINGS
  obtain ⟨_, hI_MAX_UPRIGHT⟩ := T.i_MAX_UPRIGHT
  refine def_ok D.F sc__law_drawn_row (fun Γ cs R g => ?len) (fun cdv A outer s H E hr Γ cs R g => ?_)
  case len => obtain ⟨x, n, rfl, _⟩ := g; rfl
  obtain ⟨p, n, rfl, hp, hn9, rfl⟩ := g
  refine ⟨_, (pss_one (ps_ret (pe_joinK pe_str (pe_lc (own := [("_law_at", 2)]) (g := (gName 2)) (tt := tYes) rfl sc__law_drawn_row.nd (pi_range1 (by rfl) T.z_range (pa_cons (pv 1) pa_nil)) (blkOk_by (N := ["_law_dice_here", "_law_size", "_law_at"]) (sc := defScope s__law_drawn_row) (by decide +kernel)) (fun _ _ _ _ _ => (pg_name (i := 2) sc__law_drawn_row.nd rfl (by first | exact .inl rfl | exact .inr rfl))) (fun _ _ _ _ _ => pts_nil) (fun _ _ _ _ _ => (pe_call G__law_pick (hr.mono (by decide)) (by rfl) D__law_pick.g D__law_pick.kp D__law_pick.b .nil pass0 (pa_cons (pv 0) (pa_cons pe_str pa_nil)))))))), fun Δ0 D' hf hn => wp_ret hf ?_⟩
  refine (ev_joinP rfl (ev_lc (fun i (acc : List Tx) => acc.length = i ∧ ∀ y ∈ acc, ∃ c, isSign c = true ∧ y = (⟨[c]⟩ : Tx)) (src_rng1 (n := n) (ea_1 (ev_var (i := 1)) ea_nil) (by omega) (ltr rfl)) (by omega) (by decide) ⟨rfl, fun y hy => by cases hy⟩ fun i acc hi ⟨h1, h2⟩ => ⟨_, et_yes, fun h => (by cases h), fun _ => ⟨_, ev_call1 (ea_1 (ev_var (i := 0)) (ea_1 (ev_strc [43, 45, 48]) ea_nil)) (Fp1 hp (by decide) (by decide)), fun b hb => ?_⟩⟩) fun xs h => ?_).imp fun x h => ?_
  · obtain ⟨j, hj, rfl⟩ := hb
    refine ⟨by rw [List.length_append, h1]; rfl, fun y hy => ?_⟩
    rcases List.mem_append.mp hy with hy | hy
    · exact h2 y hy
    · rw [List.mem_singleton.mp hy]
      exact ⟨_, sgi3 hj, rfl⟩
  · rw [(flat_signs h.2).1]
    omega
  · obtain ⟨xs, ⟨h1, h2⟩, rfl⟩ := h
    obtain ⟨q1, q2⟩ := flat_signs h2
    exact ⟨⟨q2, by show _ ≤ 9; rw [q1]; omega⟩, by show _ = n; rw [q1]; exact h1⟩
end
end K03

set_option Elab.async false
set_option linter.all false
set_option maxRecDepth 100000
set_option maxHeartbeats 1000000
namespace K03
open PySem PySem.Spec PyProof.Rows L2 Z K00
/-- the things of a row, as bits -/
def maskN (c : Nat) : Nat := (c / 2 ^ 9 ||| c) &&& 511
abbrev zs (ms : List Nat) : List Int := ms.map fun i => ((i : Nat) : Int)
section
variable {P : Program} {w : World} {K : PySem.W.Frag} {mg : Str → Option Value} {base : Heap}
def F_mask_of : Pm Int := fun _ cs R => ∃ c : Nat, cs = [⟨(c : Int)⟩] ∧ R = Is ((maskN c : Nat) : Int)
theorem sc_mask_of : FnScope ["code"] ["code"] (defScope s_mask_of) := ⟨rfl, rfl, rfl, by decide +kernel, rfl, by decide +kernel, by decide +kernel⟩
theorem ok_mask_of (T : Txt K mg) {f : Addr} {fd : FuncData} (D : Df K mg "mask_of" s_mask_of ["code"] f fd) : FnOk P w K mg base CX0 2 f fd ["code"] (spD K F_mask_of) := by
  obtain ⟨_, hI_SHIFT⟩ := T.i_SHIFT
  obtain ⟨_, hI_LOW⟩ := T.i_LOW
  obtain ⟨_, hI_MAX_THINGS⟩ := T.i_MAX_THINGS
  obtain ⟨_, hI_MAX_LAYINGS⟩ := T.i_MAX_LAYINGS
  obtain ⟨_, hI_MAX_UPRIGHT⟩ := T.i_MAX_UPRIGHT
  refine def_ok D.F sc_mask_of (fun Γ cs R g => ?len) (fun cdv A outer s H E hr Γ cs R g => ?_)
  case len => obtain ⟨x, rfl, _⟩ := g; rfl
  obtain ⟨c, rfl, rfl⟩ := g
  refine ⟨_, (pss_one (ps_ret (pe_op op_and (pe_op op_or (pe_op op_shr (pv 0) (pe_glob (v := .int 9) rfl hI_SHIFT ⟨_, rfl⟩)) (pv 0)) (pe_glob (v := .int 511) rfl hI_LOW ⟨_, rfl⟩)))), fun Δ0 D' hf hn => wp_ret hf ?_⟩
  refine ev_is (ev_op1 (ev_op1 (ev_op1 ev_var ev_int (o2_I (g := fun i j => i / 2 ^ j.toNat) (by decide))) ev_var (o2_I0 (g := Builtin.bitOr))) ev_int (o2_I0 (g := Builtin.bitAnd))) ?_
  have e1 : (c : Int) / 2 ^ (9 : Int).toNat = ((c / 2 ^ 9 : Nat) : Int) := by norm_cast
  rw [e1, or_nn, show (511 : Int) = ((511 : Nat) : Int) from rfl, and_nn]
  rfl
def F_size_of : Pm Int := fun _ cs R => ∃ m : Nat, cs = [⟨(m : Int)⟩] ∧ m < 1048576 ∧ R = Is ((Zk.pc m : Nat) : Int)
theorem bit_line {m : Nat} (h : m < 1048576) : (Zk.bitL m).length ≤ sizeLine := Nat.le_trans (Zk.bitL_len m 19 h) (by decide)
theorem sc_size_of : FnScope ["mask"] ["mask"] (defScope s_size_of) := ⟨rfl, rfl, rfl, by decide +kernel, rfl, by decide +kernel, by decide +kernel⟩
theorem ok_size_of (T : Txt K mg) {f : Addr} {fd : FuncData} (D : Df K mg "size_of" s_size_of ["mask"] f fd) : FnOk P w K mg base CX0 2 f fd ["mask"] (spD K F_size_of) := by
  obtain ⟨_, hI_SHIFT⟩ := T.i_SHIFT
  obtain ⟨_, hI_LOW⟩ := T.i_LOW
  obtain ⟨_, hI_MAX_THINGS⟩ := T.i_MAX_THINGS
  obtain ⟨_, hI_MAX_LAYINGS⟩ := T.i_MAX_LAYINGS
  obtain ⟨_, hI_MAX_UPRIGHT⟩ := T.i_MAX_UPRIGHT
  refine def_ok D.F sc_size_of (fun Γ cs R g => ?len) (fun cdv A outer s H E hr Γ cs R g => ?_)
  case len => obtain ⟨m, rfl, _⟩ := g; rfl
  obtain ⟨m, rfl, hm, rfl⟩ := g
  exact ⟨_, (pss_one (ps_ret (pe_bm PySem.F.plainAttrs_str PySem.F.slot_str_count PySem.F.type_str_count mt_count (pe_joined1 (pe_fmtB (pv 0))) (pa_cons pe_str pa_nil)))), fun Δ0 D' hf hn => wp_ret hf (ev_countBits (bit_line hm) ev_var)⟩
end
end K03

set_option Elab.async false
set_option linter.all false
set_option maxRecDepth 100000
set_option maxHeartbeats 1000000
namespace K03
open PySem PySem.Spec PyProof.Rows L2 Z K00
/-- rows of n signs -/
def RowsN (n : Nat) (S : List Tx) : Prop := ∀ x ∈ S, x.s.length = n ∧ x.s.all isSign = true
/-- a lot of the rows S -/
structure LotIs (n : Nat) (S : List Tx) (L : LotD) : Prop where
  m : L.many = n
  r : L.rows = srt S
  k : ∀ x, x ∈ L.known ↔ x ∈ S
theorem LotOf.is {n : Nat} {S : List Tx} {L : LotD} (h : LotOf n S L) : LotIs n S L := ⟨h.1, srt_sorted h.2.2, fun x => by rw [h.2.1, onceT_mem]; simp⟩
theorem LotIs.congr {n : Nat} {S T : List Tx} {L : LotD} (h : LotIs n S L) (m : ∀ x, x ∈ S ↔ x ∈ T) : LotIs n T L := ⟨h.m, by rw [h.r, srt_congr m], fun x => by rw [h.k, m]⟩
theorem LotIs.ok {n : Nat} {S : List Tx} {L : LotD} (h : LotIs n S L) (h9 : n ≤ 9) (hl : S.length ≤ 50000) (hr : RowsN n S) : LotOk L := ⟨by rw [h.m]; exact h9, by rw [h.r]; exact Nat.le_trans srt_len hl, fun x hx => by rw [h.m]; exact hr x (srt_mem.mp (h.r ▸ hx)), fun x => by rw [h.r, srt_mem, h.k]⟩
theorem LotOk.row {L : LotD} (h : LotOk L) {x : Tx} (hx : x ∈ L.rows) : Row x := ⟨(h.rows x hx).2, by rw [(h.rows x hx).1]; exact h.m9⟩
theorem getL {xs : List Tx} {i : Nat} {x : Tx} (h : xs[i]? = some x) : xs.getD i ⟨[]⟩ = x := by
  rw [List.getD_eq_getElem?_getD, h]
  rfl
theorem fmap_true {α β : Type} (xs : List α) (f : α → β) : (xs.filter fun _ => true).map f = xs.map f := by rw [List.filter_eq_self.mpr (fun _ _ => rfl)]
theorem tx_ok {x : Tx} (h : Row x) : PyData.canLay0 (Dt.d x) = true := by
  show (x.s.toArray.all fun c => decide (c < 0x110000)) = true
  rw [List.all_toArray, List.all_eq_true]
  intro c hc
  have q := List.all_eq_true.mp h.all c hc
  unfold isSign at q
  simp only [Bool.or_eq_true, beq_iff_eq] at q
  have : c < 0x110000 := by omega
  simpa using this
section
variable {P : Program} {w : World} {K : PySem.W.Frag} {mg : Str → Option Value} {base : Heap}
theorem dv_non2 : ∀ (Δ : Gh) (H : Hp), ArgsOk K Δ H [V.non] [⟨()⟩] := fun _ _ => ⟨rfl, trivial⟩
theorem ev_call1D {β : Type} [Rp β] {Γ : Own} {ρ : Z.Env} {Pb : β → Prop} {F : Own → List Cell → (β → Prop) → Prop} {E : XK} {ta : TA} {cs : List Cell} (ha : EvA K Γ ta ρ (Is cs)) (hf : F Γ (cs ++ [⟨()⟩]) Pb) : Ev K Γ (tCall (spD K F) [V.non] E ta) ρ Pb := ev_callD dv_non2 ha fun cs' e => by rw [show cs' = cs from e]; exact hf
theorem src_rows {Γ : Own} {ρ : Z.Env} {L : LotD} {te : TE} {j : Nat} (CL : LotT K) (h : Ev K Γ te ρ (Is L)) (hj : j < ρ.length) : Src K Γ (iTup K (tFld K te "_rows")) (gName j) ρ [j] L.rows.length (fun i ρ => ρ.set j (some ⟨L.rows.getD i ⟨[]⟩⟩)) :=
  src_tup (x0 := fun i => L.rows.getD i ⟨[]⟩) (ev_lotRows CL h) (fun i hi => getD_of hi) hj
def F_Lot___iter__ (K : PySem.W.Frag) : Own → List Cell → (Gh → Hp → V → Hp → Prop) → Prop := fun _ cs T => ∃ L : LotD, cs = [⟨L⟩] ∧ T = TIt K (⟨L.rows⟩ : Tup Tx)
theorem sc_Lot___iter__ : FnScope ["self"] ["self"] (defScope s_Lot___iter__) := ⟨rfl, rfl, rfl, by decide +kernel, rfl, by decide +kernel, by decide +kernel⟩
theorem ok_Lot___iter__ (T : Txt K mg) (CL : LotT K) {f : Addr} {fd : FuncData} {dvs : List V} (D : DfM K dvs "__iter__" "Lot.__iter__" s_Lot___iter__ ["self"] f fd) : FnOk P w K mg base CX0 2 f fd ["self"] (spR K (F_Lot___iter__ K)) := by
  obtain ⟨_, hI_SHIFT⟩ := T.i_SHIFT
  obtain ⟨_, hI_LOW⟩ := T.i_LOW
  obtain ⟨_, hI_MAX_THINGS⟩ := T.i_MAX_THINGS
  obtain ⟨_, hI_MAX_LAYINGS⟩ := T.i_MAX_LAYINGS
  obtain ⟨_, hI_MAX_UPRIGHT⟩ := T.i_MAX_UPRIGHT
  refine def_okR D.F sc_Lot___iter__ (fun Γ cs R g => ?len) (fun cdv A outer s H E hr Γ cs R g => ?_)
  case len => obtain ⟨L, rfl, _⟩ := g; rfl
  obtain ⟨L, rfl, rfl⟩ := g
  refine ⟨_, (pss_one (ps_ret (pe_callB call_iterT (by rfl) T.z_iter (by decide +kernel) (pa_cons (pe_fldK (pv 0) (by rfl)) pa_nil)))), fun Δ0 D' hf => wp_retIt hf (ev_lotRows CL (ev_var (i := 0)))⟩
def F_Lot___or__ : Pm LotD := fun _ cs R => ∃ L M : LotD, cs = [⟨L⟩, ⟨M⟩] ∧ LotOk L ∧ LotOk M ∧ L.many = M.many ∧ L.rows.length + M.rows.length ≤ 50000 ∧ R = LotOf L.many (L.rows ++ M.rows)
theorem sc_Lot___or__ : FnScope ["self", "other"] ["self", "other"] (defScope s_Lot___or__) := ⟨rfl, rfl, rfl, by decide +kernel, rfl, by decide +kernel, by decide +kernel⟩
theorem ok_Lot___or__ (T : Txt K mg) (CL : LotT K) (CG : mg "Lot" = some (.ref (He.ga K "Lot"))) {f : Addr} {fd : FuncData} {dvs : List V} (D : DfM K dvs "__or__" "Lot.__or__" s_Lot___or__ ["self", "other"] f fd) {f__check_alike : Addr} {fd__check_alike : FuncData} (D__check_alike : Df K mg "_check_alike" s__check_alike ["one", "other"] f__check_alike fd__check_alike) (G__check_alike : FnOk P w K mg base CX0 4 f__check_alike fd__check_alike ["one", "other"] (spD K F__check_alike)) {f_Lot___init__ : Addr} {fd_Lot___init__ : FuncData} {dv_Lot___init__ : List V} (CP_Lot : Mk K (He.ga K "Lot") f_Lot___init__ ∧ DfM K dv_Lot___init__ "__init__" "Lot.__init__" s_Lot___init__ ["self", "many", "rows"] f_Lot___init__ fd_Lot___init__) (G_Lot___init__ : FnOk P w K mg base CX0 5 f_Lot___init__ fd_Lot___init__ ["self", "many", "rows"] (spI K (He.ga K "Lot") F_Lot___init__)) : FnOk P w K mg base CX0 7 f fd ["self", "other"] (spD K F_Lot___or__) := by
  obtain ⟨_, hI_SHIFT⟩ := T.i_SHIFT
  obtain ⟨_, hI_LOW⟩ := T.i_LOW
  obtain ⟨_, hI_MAX_THINGS⟩ := T.i_MAX_THINGS
  obtain ⟨_, hI_MAX_LAYINGS⟩ := T.i_MAX_LAYINGS
  obtain ⟨_, hI_MAX_UPRIGHT⟩ := T.i_MAX_UPRIGHT
  refine def_ok D.F sc_Lot___or__ (fun Γ cs R g => ?len) (fun cdv A outer s H E hr Γ cs R g => ?_)
  case len => obtain ⟨L, M, rfl, _⟩ := g; rfl
  obtain ⟨L, M, rfl, hL, hM, hm, hz, rfl⟩ := g
  refine ⟨_, (pss_cons (ps_if (pt_not (pt_val (pe_callB call_isK (by rfl) T.z_isinstance (by decide +kernel) (pa_cons (pv 1) (pa_cons (pe_glob (v := .ref (He.ga K "Lot")) (u := .ref (He.ga K "Lot")) rfl CG rfl) pa_nil))))) (pss_one ps_never) pss_nil)
      (pss_cons (ps_expr (pe_call G__check_alike (hr.mono (by decide)) (by rfl) D__check_alike.g D__check_alike.kp D__check_alike.b .nil pass0 (pa_cons (pv 0) (pa_cons (pv 1) pa_nil))))
      (pss_one (ps_ret (pe_make CP_Lot.1 G_Lot___init__ (hr.mono (by decide)) (by rfl) CG CP_Lot.2.b .nil pass0 (pa_cons (pe_fldK (pv 0) (by rfl)) (pa_cons (pe_op op_catA (pe_fldK (pv 0) (by rfl)) (pe_fldK (pv 1) (by rfl))) pa_nil))))))), fun Δ0 D' hf hn => ?_⟩
  refine wp_no (b := false) rfl (et_not (a := true) (et_B (ev_isLot CL (ev_var (i := 1) (a := M))))) ?_
  refine wp_drop (ev_call1 (ea_1 (ev_var (i := 0)) (ea_1 (ev_var (i := 1)) ea_nil)) ⟨L, M, rfl, hm, rfl⟩) ?_
  refine wp_ret hf (ev_make (dcs := []) (fun _ _ => trivial) (ea_1 (ev_lotMany CL (ev_var (i := 0))) (ea_1 (ev_op1 (ev_lotRows CL (ev_var (i := 0) (a := L))) (ev_lotRows CL (ev_var (i := 1) (a := M))) (o2_catTA (Nat.le_trans hz (by decide)))) ea_nil)) ⟨L.many, ⟨_⟩, rfl, hL.m9, fun x hx => ?_, ?_, rfl⟩)
  · rcases List.mem_append.mp hx with h | h
    · exact hL.rows x h
    · rw [hm]
      exact hM.rows x h
  · rw [List.length_append]
    exact hz
end
end K03

set_option Elab.async false
set_option linter.all false
set_option maxRecDepth 100000
set_option maxHeartbeats 1000000
namespace K03
open PySem PySem.Spec PyProof.Rows L2 Z K00
theorem tb_code (x : Tx) : ∀ (n j : Nat), n ≤ 9 → (codeUp x n).testBit j = ((decide (j < n) && decide (sg x j = 43)) || (decide (9 ≤ j) && (decide (j - 9 < n) && decide (sg x (j - 9) = 45))))
  | 0, j, _ => by simp [codeUp]
  | n + 1, j, h => by
    rw [codeUp, Nat.testBit_or, tb_code x n j (by omega), bitAt]
    by_cases h1 : sg x n = 43
    · rw [if_pos h1, Nat.testBit_two_pow]
      by_cases e : n = j
      · subst e
        simp [h1]
      · have e1 : decide (j < n + 1) = decide (j < n) := decide_eq_decide.mpr ⟨fun _ => by omega, fun _ => by omega⟩
        rw [e1, decide_eq_false e, Bool.or_false]
        by_cases e2 : j - 9 = n
        · have e3 : ¬ (sg x (j - 9) = 45) := by rw [e2, h1]; decide
          rw [decide_eq_false e3]
          simp
        · have e3 : decide (j - 9 < n + 1) = decide (j - 9 < n) := decide_eq_decide.mpr ⟨fun _ => by omega, fun _ => by omega⟩
          rw [e3]
    · rw [if_neg h1]
      by_cases h2 : sg x n = 45
      · rw [if_pos h2, Nat.testBit_two_pow]
        have e0 : (decide (j < n + 1) && decide (sg x j = 43)) = (decide (j < n) && decide (sg x j = 43)) := by
          by_cases e : j = n
          · subst e
            simp [h1]
          · have e1 : decide (j < n + 1) = decide (j < n) := decide_eq_decide.mpr ⟨fun _ => by omega, fun _ => by omega⟩
            rw [e1]
        rw [e0]
        by_cases e : n + 9 = j
        · subst e
          simp [h2]
        · rw [decide_eq_false e, Bool.or_false]
          by_cases e9 : 9 ≤ j
          · have e1 : decide (j - 9 < n + 1) = decide (j - 9 < n) := decide_eq_decide.mpr ⟨fun _ => by omega, fun _ => by omega⟩
            rw [e1]
          · rw [decide_eq_false e9]
            simp
      · rw [if_neg h2, Nat.zero_testBit, Bool.or_false]
        have e0 : (decide (j < n + 1) && decide (sg x j = 43)) = (decide (j < n) && decide (sg x j = 43)) := by
          by_cases e : j = n
          · subst e
            simp [h1]
          · have e1 : decide (j < n + 1) = decide (j < n) := decide_eq_decide.mpr ⟨fun _ => by omega, fun _ => by omega⟩
            rw [e1]
        have e5 : (decide (j - 9 < n + 1) && decide (sg x (j - 9) = 45)) = (decide (j - 9 < n) && decide (sg x (j - 9) = 45)) := by
          by_cases e : j - 9 = n
          · rw [e]
            simp [h2]
          · have e1 : decide (j - 9 < n + 1) = decide (j - 9 < n) := decide_eq_decide.mpr ⟨fun _ => by omega, fun _ => by omega⟩
            rw [e1]
        rw [e0, e5]
section
variable {P : Program} {w : World} {K : PySem.W.Frag} {mg : Str → Option Value} {base : Heap}
def F_turned_code : Pm Int := fun _ cs R => ∃ c : Nat, cs = [⟨(c : Int)⟩] ∧ R = Is ((tcode c : Nat) : Int)
theorem sc_turned_code : FnScope ["code"] ["code"] (defScope s_turned_code) := ⟨rfl, rfl, rfl, by decide +kernel, rfl, by decide +kernel, by decide +kernel⟩
theorem ok_turned_code (T : Txt K mg) {f : Addr} {fd : FuncData} (D : Df K mg "turned_code" s_turned_code ["code"] f fd) : FnOk P w K mg base CX0 2 f fd ["code"] (spD K F_turned_code) := by
  obtain ⟨_, hI_SHIFT⟩ := T.i_SHIFT
  obtain ⟨_, hI_LOW⟩ := T.i_LOW
  obtain ⟨_, hI_MAX_THINGS⟩ := T.i_MAX_THINGS
  obtain ⟨_, hI_MAX_LAYINGS⟩ := T.i_MAX_LAYINGS
  obtain ⟨_, hI_MAX_UPRIGHT⟩ := T.i_MAX_UPRIGHT
  refine def_ok D.F sc_turned_code (fun Γ cs R g => ?len) (fun cdv A outer s H E hr Γ cs R g => ?_)
  case len => obtain ⟨x, rfl, _⟩ := g; rfl
  obtain ⟨c, rfl, rfl⟩ := g
  refine ⟨_, (pss_one (ps_ret (pe_op op_or (pe_op op_shr (pv 0) (pe_glob (v := .int 9) rfl hI_SHIFT ⟨_, rfl⟩)) (pe_op op_shl (pe_op op_and (pv 0) (pe_glob (v := .int 511) rfl hI_LOW ⟨_, rfl⟩)) (pe_glob (v := .int 9) rfl hI_SHIFT ⟨_, rfl⟩))))), fun Δ0 D' hf hn => wp_ret hf ?_⟩
  refine ev_is (ev_op1 (ev_op1 ev_var ev_int (o2_I (g := fun i j => i / 2 ^ j.toNat) (by decide))) (ev_op1 (ev_op1 ev_var ev_int (o2_I0 (g := Builtin.bitAnd))) ev_int (o2_I (C := CPow) ⟨by decide, by decide, ?_⟩)) (o2_I0 (g := Builtin.bitOr))) ?_
  · rw [show (511 : Int) = ((511 : Nat) : Int) from rfl, and_nn, Int.natAbs_natCast]
    exact Nat.lt_of_le_of_lt Nat.and_le_right (by decide)
  · have e1 : (c : Int) / 2 ^ (9 : Int).toNat = ((c / 2 ^ 9 : Nat) : Int) := by norm_cast
    have e2 : Builtin.bitAnd (c : Int) 511 * 2 ^ (9 : Int).toNat = (((c &&& 511) * 2 ^ 9 : Nat) : Int) := by
      rw [show (511 : Int) = ((511 : Nat) : Int) from rfl, and_nn]
      norm_cast
    rw [e1, e2, or_nn]
    rfl
theorem dec_zero {n : Nat} : decide ((n : Int) = 0) = decide (n = 0) := by rw [decide_eq_decide]; omega
def F__is_code_upright : Pm Bool := fun _ cs R => ∃ (a b : Nat), cs = [⟨(a : Int)⟩, ⟨(b : Int)⟩] ∧ R = Is (decide (decide (a &&& b = 0) = decide (a &&& tcode b = 0)))
theorem sc__is_code_upright : FnScope ["one", "other"] ["one", "other"] (defScope s__is_code_upright) := ⟨rfl, rfl, rfl, by decide +kernel, rfl, by decide +kernel, by decide +kernel⟩
theorem ok__is_code_upright (T : Txt K mg) {f : Addr} {fd : FuncData} (D : Df K mg "_is_code_upright" s__is_code_upright ["one", "other"] f fd) {f_turned_code : Addr} {fd_turned_code : FuncData} (D_turned_code : Df K mg "turned_code" s_turned_code ["code"] f_turned_code fd_turned_code) (G_turned_code : FnOk P w K mg base CX0 2 f_turned_code fd_turned_code ["code"] (spD K F_turned_code)) : FnOk P w K mg base CX0 3 f fd ["one", "other"] (spD K F__is_code_upright) := by
  obtain ⟨_, hI_SHIFT⟩ := T.i_SHIFT
  obtain ⟨_, hI_LOW⟩ := T.i_LOW
  obtain ⟨_, hI_MAX_THINGS⟩ := T.i_MAX_THINGS
  obtain ⟨_, hI_MAX_LAYINGS⟩ := T.i_MAX_LAYINGS
  obtain ⟨_, hI_MAX_UPRIGHT⟩ := T.i_MAX_UPRIGHT
  refine def_ok D.F sc__is_code_upright (fun Γ cs R g => ?len) (fun cdv A outer s H E hr Γ cs R g => ?_)
  case len => obtain ⟨x, y, rfl, _⟩ := g; rfl
  obtain ⟨a, b, rfl, rfl⟩ := g
  refine ⟨_, (pss_one (ps_ret (pe_cmpR op_eq (pe_cmpR op_eq (pe_op op_and (pv 0) (pv 1)) pe_int (nomark _)) (pe_cmpR op_eq (pe_op op_and (pv 0) (pe_call G_turned_code (hr.mono (by decide)) (by rfl) D_turned_code.g D_turned_code.kp D_turned_code.b .nil pass0 (pa_cons (pv 1) pa_nil))) pe_int (nomark _)) (nomark _)))), fun Δ0 D' hf hn => wp_ret hf ?_⟩
  refine ev_is (ev_op1 (ev_op1 (ev_op1 (ev_var (i := 0)) (ev_var (i := 1)) (o2_I0 (g := Builtin.bitAnd))) ev_int o2_eqI) (ev_op1 (ev_op1 (ev_var (i := 0)) (ev_call1 (ea_1 (ev_var (i := 1)) ea_nil) ⟨b, rfl, rfl⟩) (o2_I0 (g := Builtin.bitAnd))) ev_int o2_eqI) o2_eqB) ?_
  rw [and_nn, and_nn, dec_zero, dec_zero]
def both (m : Nat) : Nat := m ||| m * 2 ^ 9
def F_both_signs : Pm Int := fun _ cs R => ∃ m : Nat, cs = [⟨(m : Int)⟩] ∧ m < 2 ^ 20 ∧ R = Is ((both m : Nat) : Int)
theorem sc_both_signs : FnScope ["mask"] ["mask"] (defScope s_both_signs) := ⟨rfl, rfl, rfl, by decide +kernel, rfl, by decide +kernel, by decide +kernel⟩
theorem ok_both_signs (T : Txt K mg) {f : Addr} {fd : FuncData} (D : Df K mg "both_signs" s_both_signs ["mask"] f fd) : FnOk P w K mg base CX0 2 f fd ["mask"] (spD K F_both_signs) := by
  obtain ⟨_, hI_SHIFT⟩ := T.i_SHIFT
  obtain ⟨_, hI_LOW⟩ := T.i_LOW
  obtain ⟨_, hI_MAX_THINGS⟩ := T.i_MAX_THINGS
  obtain ⟨_, hI_MAX_LAYINGS⟩ := T.i_MAX_LAYINGS
  obtain ⟨_, hI_MAX_UPRIGHT⟩ := T.i_MAX_UPRIGHT
  refine def_ok D.F sc_both_signs (fun Γ cs R g => ?len) (fun cdv A outer s H E hr Γ cs R g => ?_)
  case len => obtain ⟨m, rfl, _⟩ := g; rfl
  obtain ⟨m, rfl, hm, rfl⟩ := g
  refine ⟨_, (pss_one (ps_ret (pe_op op_or (pv 0) (pe_op op_shl (pv 0) (pe_glob (v := .int 9) rfl hI_SHIFT ⟨_, rfl⟩))))), fun Δ0 D' hf hn => wp_ret hf ?_⟩
  refine ev_is (ev_op1 ev_var (ev_op1 ev_var ev_int (o2_I (C := CPow) ⟨by decide, by decide, ?_⟩)) (o2_I0 (g := Builtin.bitOr))) ?_
  · rw [Int.natAbs_natCast]
    exact Nat.lt_trans hm (by decide)
  · have e2 : (m : Int) * 2 ^ (9 : Int).toNat = ((m * 2 ^ 9 : Nat) : Int) := by norm_cast
    rw [e2, or_nn]
    rfl
def uprC (a b : Nat) : Bool := decide (decide (a &&& b = 0) = decide (a &&& tcode b = 0))
abbrev IvT (Γ : Own) (c : Nat) (ms : List Nat) : Nat → Own → Z.Env → Prop := fun i Γ' ρ' => Γ' = Γ ∧ (ms.take i).all (uprC c) = true ∧ ∃ a, ρ' = [some ⟨(c : Int)⟩, some ⟨zs ms⟩, a]
def F__is_upright_to_all : Pm Bool := fun _ cs R => ∃ (c : Nat) (ms : List Nat), cs = [⟨(c : Int)⟩, ⟨zs ms⟩] ∧ R = Is (ms.all (uprC c))
theorem sc__is_upright_to_all : FnScope ["code", "others", "other"] ["code", "others"] (defScope s__is_upright_to_all) := ⟨rfl, rfl, rfl, by decide +kernel, rfl, by decide +kernel, by decide +kernel⟩
theorem ok__is_upright_to_all (T : Txt K mg) {f : Addr} {fd : FuncData} (D : Df K mg "_is_upright_to_all" s__is_upright_to_all ["code", "others"] f fd) {f__is_code_upright : Addr} {fd__is_code_upright : FuncData} (D__is_code_upright : Df K mg "_is_code_upright" s__is_code_upright ["one", "other"] f__is_code_upright fd__is_code_upright) (G__is_code_upright : FnOk P w K mg base CX0 3 f__is_code_upright fd__is_code_upright ["one", "other"] (spD K F__is_code_upright)) : FnOk P w K mg base CX0 4 f fd ["code", "others"] (spD K F__is_upright_to_all) := by
  obtain ⟨_, hI_SHIFT⟩ := T.i_SHIFT
  obtain ⟨_, hI_LOW⟩ := T.i_LOW
  obtain ⟨_, hI_MAX_THINGS⟩ := T.i_MAX_THINGS
  obtain ⟨_, hI_MAX_LAYINGS⟩ := T.i_MAX_LAYINGS
  obtain ⟨_, hI_MAX_UPRIGHT⟩ := T.i_MAX_UPRIGHT
  refine def_ok D.F sc__is_upright_to_all (fun Γ cs R g => ?len) (fun cdv A outer s H E hr Γ cs R g => ?_)
  case len => obtain ⟨c, ms, rfl, _⟩ := g; rfl
  obtain ⟨c, ms, rfl, rfl⟩ := g
  refine ⟨_, (pss_cons (ps_for PassesOwn.never rfl (pi_listK (pv 1)) (pg_name (i := 2) sc__is_upright_to_all.nd rfl (by first | exact .inl rfl | exact .inr rfl))
        (pss_one (ps_if (pt_not (pt_val (pe_call G__is_code_upright (hr.mono (by decide)) (by rfl) D__is_code_upright.g D__is_code_upright.kp D__is_code_upright.b .nil pass0 (pa_cons (pv 0) (pa_cons (pv 2) pa_nil))))) (pss_one (ps_ret pe_bl)) pss_nil)))
      (pss_one (ps_ret pe_bl))), fun Δ0 D' hf hn => ?_⟩
  have hz : (zs ms).length = ms.length := List.length_map ..
  refine wp_for (IvT Γ c ms) (src_list (xs := zs ms) (x0 := fun i => ((ms.getD i 0 : Nat) : Int)) (ev_var (i := 1)) (fun i hi => ?_) (j := 2) (ltr rfl)) ⟨rfl, rfl, none, rfl⟩ (fun i Γ' ρ' h => by obtain ⟨_, _, a, rfl⟩ := h; rfl) ?_ ?_
  · rw [hz] at hi
    rw [List.getElem?_map, getD_of (d := 0) hi]
    rfl
  · rintro i Γ' ρ' F' hi ⟨rfl, ha, a, rfl⟩
    rw [hz] at hi
    have et : ms.take (i + 1) = ms.take i ++ [ms.getD i 0] := by
      rw [List.take_add_one, getD_of (d := 0) hi]
      rfl
    have one : (ms.take (i + 1)).all (uprC c) = uprC c (ms.getD i 0) := by
      rw [et, List.all_append, ha]
      simp
    refine wp_when (et_not (et_B (ev_call1 (ea_1 (ev_var (i := 0)) (ea_1 (ev_var (i := 2)) ea_nil)) ⟨c, ms.getD i 0, rfl, rfl⟩))) (fun h1 => ?_) (fun h1 => ?_)
    · refine wp_ret hf (ev_is ev_bl ?_)
      have h2 : uprC c (ms.getD i 0) = false := by simpa [uprC] using h1
      rw [← List.take_append_drop (i + 1) ms, List.all_append, one, h2]
      rfl
    · have h2 : uprC c (ms.getD i 0) = true := by simpa [uprC] using h1
      exact wp_turn (Iv := IvT Γ' c ms) ⟨rfl, by rw [one, h2], some ⟨((ms.getD i 0 : Nat) : Int)⟩, rfl⟩ rfl
  · rintro Γ' ρ' F' ⟨rfl, ha, a, rfl⟩
    rw [hz, List.take_length] at ha
    exact wp_ret hf (ev_is ev_bl ha.symm)
end
end K03

set_option Elab.async false
set_option linter.all false
set_option maxRecDepth 100000
set_option maxHeartbeats 1000000
namespace K03
open PySem PySem.Spec PyProof.Rows L2 Z K00
/-- a row with one more sign -/
def ext (r : Tx) : List Tx := [⟨r.s ++ [43]⟩, ⟨r.s ++ [45]⟩, ⟨r.s ++ [48]⟩]
/-- all rows of n signs, in the order of "+-0" -/
def rowsOf : Nat → List Tx
  | 0 => [⟨[]⟩]
  | n + 1 => (rowsOf n).flatMap ext
theorem flat_len3 : ∀ xs : List Tx, (xs.flatMap ext).length = 3 * xs.length
  | [] => rfl
  | x :: xs => by
    rw [List.flatMap_cons, List.length_append, flat_len3 xs, List.length_cons]
    show 3 + _ = _
    omega
theorem rows_len : ∀ n, (rowsOf n).length = 3 ^ n
  | 0 => rfl
  | n + 1 => by
    rw [rowsOf, flat_len3, rows_len n, Nat.pow_succ]
    omega
theorem rows_sz : ∀ n, ∀ x ∈ rowsOf n, x.s.length = n
  | 0, x, h => by rw [List.mem_singleton.mp h]; rfl
  | n + 1, x, h => by
    obtain ⟨r, hr, hx⟩ := List.mem_flatMap.mp h
    have := rows_sz n r hr
    simp only [ext, List.mem_cons, List.not_mem_nil, or_false] at hx
    rcases hx with rfl | rfl | rfl <;> simp [this]
/-- what stands ahead of turn i, j -/
def part (xs : List Tx) (i j : Nat) : List Tx := (xs.take i).flatMap ext ++ (ext (xs.getD i ⟨[]⟩)).take j
theorem part_next {xs : List Tx} {i : Nat} (h : i < xs.length) : part xs i 3 = part xs (i + 1) 0 := by
  have e : xs.take (i + 1) = xs.take i ++ [xs.getD i ⟨[]⟩] := by
    rw [List.take_add_one, getD_of (d := (⟨[]⟩ : Tx)) h]
    rfl
  unfold part
  rw [e, List.flatMap_append]
  simp [ext]
theorem part_len {xs : List Tx} {i j : Nat} : (part xs i j).length ≤ 3 * xs.length + 3 := by
  unfold part
  rw [List.length_append, flat_len3]
  have h1 : (xs.take i).length ≤ xs.length := List.length_take_le' i xs
  have h2 : ((ext (xs.getD i ⟨[]⟩)).take j).length ≤ 3 := List.length_take_le' j _
  omega
def sg3 : Nat → Nat
  | 0 => 43
  | 1 => 45
  | _ => 48
theorem part_sign {xs : List Tx} {i j : Nat} (h : j < 3) : part xs i (j + 1) = part xs i j ++ [⟨(xs.getD i ⟨[]⟩).s ++ [sg3 j]⟩] := by
  unfold part
  match j, h with
  | 0, _ => simp [ext, sg3]
  | 1, _ => simp [ext, sg3]
  | 2, _ => simp [ext, sg3]
theorem rows_sign : ∀ n, ∀ x ∈ rowsOf n, x.s.all isSign = true
  | 0, x, h => by rw [List.mem_singleton.mp h]; rfl
  | n + 1, x, h => by
    obtain ⟨r, hr, hx⟩ := List.mem_flatMap.mp h
    have := rows_sign n r hr
    simp only [ext, List.mem_cons, List.not_mem_nil, or_false] at hx
    rcases hx with rfl | rfl | rfl <;> (rw [List.all_append, this]; rfl)
theorem rows_all : ∀ n x, x.s.length = n → x.s.all isSign = true → x ∈ rowsOf n := by
  intro n
  induction n with
  | zero =>
    intro x h _
    have e : x = ⟨[]⟩ := by
      cases x with
      | mk s =>
        have : s = [] := List.eq_nil_of_length_eq_zero h
        rw [this]
    rw [e]
    exact List.mem_singleton_self _
  | succ n ih =>
    intro x h ha
    obtain ⟨s⟩ := x
    have hne : s ≠ [] := fun z => by
      rw [z] at h
      cases h
    have e := List.dropLast_concat_getLast hne
    have ha2 : (s.dropLast ++ [s.getLast hne]).all isSign = true := by rw [e]; exact ha
    rw [List.all_append, Bool.and_eq_true] at ha2
    have hl : s.dropLast.length = n := by
      rw [List.length_dropLast]
      change s.length = n + 1 at h
      omega
    refine List.mem_flatMap.mpr ⟨⟨s.dropLast⟩, ih ⟨s.dropLast⟩ hl ha2.1, ?_⟩
    have hs : isSign (s.getLast hne) = true := by simpa using ha2.2
    unfold isSign at hs
    simp only [Bool.or_eq_true, beq_iff_eq] at hs
    simp only [ext, List.mem_cons, List.not_mem_nil, or_false, Tx.mk.injEq]
    rcases hs with (hs | hs) | hs
    · exact .inl (by rw [← hs]; exact e.symm)
    · exact .inr (.inl (by rw [← hs]; exact e.symm))
    · exact .inr (.inr (by rw [← hs]; exact e.symm))
theorem rows_nd : ∀ n, (rowsOf n).Nodup
  | 0 => List.nodup_cons.mpr ⟨List.not_mem_nil, List.nodup_nil⟩
  | n + 1 => by
    rw [rowsOf, List.Nodup, List.pairwise_flatMap]
    refine ⟨fun r _ => ?_, (rows_nd n).imp fun {a b} hab => ?_⟩
    · simp [ext]
    · intro x hx y hy z
      subst z
      simp only [ext, List.mem_cons, List.not_mem_nil, or_false] at hx hy
      refine hab ?_
      obtain ⟨a⟩ := a
      obtain ⟨b⟩ := b
      rcases hx with rfl | rfl | rfl <;> rcases hy with h | h | h <;> (rw [Tx.mk.injEq] at h; have := List.append_inj' h rfl; simp_all)
/-! codes -/
def zp (t : Nat) (r : Tx) : Tx := ⟨List.replicate t 48 ++ r.s⟩
def cf (t : Nat) (r : Tx) : Nat := codeT (zp t r)
theorem zp_len {t : Nat} {r : Tx} : (zp t r).s.length = t + r.s.length := by simp [zp]
theorem codeUp_congr {x y : Tx} : ∀ n, (∀ i, i < n → sg x i = sg y i) → codeUp x n = codeUp y n
  | 0, _ => rfl
  | n + 1, h => by rw [codeUp, codeUp, codeUp_congr n fun i hi => h i (by omega), h n (by omega)]
theorem cf_snoc (t : Nat) (r : Tx) (c : Nat) : cf t ⟨r.s ++ [c]⟩ = cf t r ||| bitAt (t + r.s.length) c := by
  unfold cf codeT
  have e1 : (zp t ⟨r.s ++ [c]⟩).s.length = (t + r.s.length) + 1 := by simp [zp]; omega
  rw [e1, codeUp, zp_len]
  congr 1
  · refine codeUp_congr _ fun i hi => ?_
    unfold sg zp
    rw [← List.append_assoc, List.getD_eq_getElem?_getD, List.getD_eq_getElem?_getD, List.getElem?_append_left (by simp; omega)]
  · congr 1
    unfold sg zp
    rw [← List.append_assoc, List.getD_eq_getElem?_getD, List.getElem?_append_right (by simp)]
    simp
theorem code_inj {x y : Tx} (hx : x.s.all isSign = true) (hy : y.s.all isSign = true) (hl : x.s.length = y.s.length) (h9 : x.s.length ≤ 9) (h : codeT x = codeT y) : x = y := by
  have rx : Row x := ⟨hx, h9⟩
  have ry : Row y := ⟨hy, by omega⟩
  have key : ∀ i, i < x.s.length → sg x i = sg y i := fun i hi => by
    have b1 := congrArg (fun c => Nat.testBit c i) h
    have b2 := congrArg (fun c => Nat.testBit c (i + 9)) h
    simp only [codeT] at b1 b2
    rw [tb_code x _ _ h9, tb_code y _ _ (by omega)] at b1 b2
    have sx := rx.sg hi
    have sy := ry.sg (i := i) (by omega)
    unfold isSign at sx sy
    simp only [Bool.or_eq_true, beq_iff_eq] at sx sy
    have n1 : ¬ (9 ≤ i) := by omega
    have n2 : ¬ (i + 9 < x.s.length) := by omega
    have n3 : ¬ (i + 9 < y.s.length) := by omega
    have n4 : i < y.s.length := by omega
    simp only [decide_eq_true hi, decide_eq_true n4, decide_eq_false n1, decide_eq_false n2, decide_eq_false n3, Nat.add_sub_cancel, Bool.true_and, Bool.false_and, Bool.or_false, Bool.false_or, decide_eq_true (show 9 ≤ i + 9 by omega)] at b1 b2
    rw [decide_eq_decide] at b1 b2
    rcases sx with (sx | sx) | sx <;> rcases sy with (sy | sy) | sy <;> simp_all
  rw [← mk_self x, ← mk_self y, hl]
  exact mk_congr fun i hi => key i (by omega)
theorem cf_inj {t : Nat} {x y : Tx} (hx : x.s.all isSign = true) (hy : y.s.all isSign = true) (hl : x.s.length = y.s.length) (h9 : t + x.s.length ≤ 9) (h : cf t x = cf t y) : x = y := by
  have rep : ∀ n, (List.replicate n 48).all isSign = true := fun n => by
    rw [List.all_replicate]
    split <;> rfl
  have e := code_inj (x := zp t x) (y := zp t y) (by unfold zp; rw [List.all_append, rep, hx]; rfl) (by unfold zp; rw [List.all_append, rep, hy]; rfl) (by rw [zp_len, zp_len, hl]) (by rw [zp_len]; exact h9) h
  unfold zp at e
  rw [Tx.mk.injEq] at e
  have := List.append_cancel_left e
  cases x
  cases y
  rw [Tx.mk.injEq]
  exact this
/-- the dict of the rows by their codes -/
def kvR (t : Nat) (l : List Tx) : List (Key × V) := l.map fun r => (.inl ((cf t r : Nat) : Int), .str (tS r))
theorem putK_kvR {t : Nat} {l : List Tx} {x : Tx} (h : ∀ y ∈ l, cf t y ≠ cf t x) : putK (kvR t l) (.inl ((cf t x : Nat) : Int)) (.str (tS x)) = kvR t (l ++ [x]) := by
  have ha : ((kvR t l).any fun kv => decide (kv.1 = (.inl ((cf t x : Nat) : Int) : Key))) = false := by
    rw [List.any_eq_false]
    intro kv hk
    obtain ⟨y, hy, rfl⟩ := List.mem_map.mp hk
    intro e
    have e2 : ((cf t y : Nat) : Int) = ((cf t x : Nat) : Int) := Sum.inl.inj (of_decide_eq_true e)
    exact h y hy (by omega)
  unfold putK
  rw [ha, if_neg Bool.false_ne_true]
  unfold kvR
  rw [List.map_append]
  rfl
theorem valV_kvR {t : Nat} {l : List Tx} {x : Tx} (hx : x ∈ l) (h : ∀ y ∈ l, cf t y = cf t x → y = x) : valV (kvR t l) (.inl ((cf t x : Nat) : Int) : Key) = some (.str (tS x)) := by
  induction l with
  | nil => cases hx
  | cons y ys ih =>
    by_cases e : y = x
    · subst e
      exact valV_pos rfl
    · show valV ((.inl ((cf t y : Nat) : Int), .str (tS y)) :: kvR t ys) _ = _
      rw [valV_neg (fun z => e (h y List.mem_cons_self (by have := Sum.inl.inj z; omega)))]
      refine ih ?_ fun z hz => h z (List.mem_cons_of_mem _ hz)
      rcases List.mem_cons.mp hx with z | z
      · exact absurd z.symm e
      · exact z
theorem part_ne {n t i j : Nat} (h9 : t + (n + 1) ≤ 9) (hi : i < (rowsOf n).length) (hj : j < 3) : ∀ y ∈ part (rowsOf n) i j, cf t y ≠ cf t ⟨((rowsOf n).getD i ⟨[]⟩).s ++ [sg3 j]⟩ := fun y hy e => by
  have pre : (part (rowsOf n) i (j + 1)).Nodup ∧ ∀ z ∈ part (rowsOf n) i (j + 1), z ∈ rowsOf (n + 1) := by
    have e1 : rowsOf (n + 1) = (rowsOf n |>.take i).flatMap ext ++ (ext ((rowsOf n).getD i ⟨[]⟩) ++ ((rowsOf n).drop (i + 1)).flatMap ext) := by
      rw [rowsOf]
      conv => lhs; rw [← List.take_append_drop i (rowsOf n)]
      rw [List.flatMap_append, List.drop_eq_getElem_cons hi, List.flatMap_cons]
      rw [List.getD_eq_getElem?_getD, List.getElem?_eq_getElem hi]
      rfl
    have e2 : rowsOf (n + 1) = part (rowsOf n) i (j + 1) ++ ((ext ((rowsOf n).getD i ⟨[]⟩)).drop (j + 1) ++ ((rowsOf n).drop (i + 1)).flatMap ext) := by
      rw [e1]
      unfold part
      rw [List.append_assoc, ← List.append_assoc (List.take (j + 1) _), List.take_append_drop]
    have nd := rows_nd (n + 1)
    rw [e2] at nd
    refine ⟨(List.nodup_append.mp nd).1, fun z hz => ?_⟩
    rw [e2]
    exact List.mem_append_left _ hz
  rw [part_sign hj] at pre
  have hx := pre.2 ⟨((rowsOf n).getD i ⟨[]⟩).s ++ [sg3 j]⟩ (List.mem_append_right _ List.mem_cons_self)
  have hy' := pre.2 y (List.mem_append_left _ hy)
  have ly := rows_sz (n + 1) y hy'
  have lx := rows_sz (n + 1) _ hx
  have := cf_inj (rows_sign _ _ hy') (rows_sign _ _ hx) (by rw [ly, lx]) (by rw [ly]; exact h9) e
  subst this
  have nd := (List.nodup_append.mp pre.1).2.2 _ hy _ List.mem_cons_self
  exact nd rfl
end K03

set_option Elab.async false
set_option linter.all false
set_option maxRecDepth 100000
set_option maxHeartbeats 1000000
namespace K03
open PySem PySem.Spec PyProof.Rows L2 Z K00
section
variable {P : Program} {w : World} {K : PySem.W.Frag} {mg : Str → Option Value} {base : Heap}
def F_rows_by_code : Own → List Cell → (HO → Prop) → Prop := fun _ cs I => ∃ (t n : Nat), cs = [⟨(t : Int)⟩, ⟨((t + n : Nat) : Int)⟩] ∧ t + n ≤ 9 ∧ I = ObIs (.dK (kvR t (rowsOf n)))
def SG (t : Nat) : Tup (Int × Tx) := ⟨[(((2 ^ t : Nat) : Int), ⟨[43]⟩), (((2 ^ (t + 9) : Nat) : Int), ⟨[45]⟩), (0, ⟨[48]⟩)]⟩
def sgb (t : Nat) : Nat → Nat
  | 0 => 2 ^ t
  | 1 => 2 ^ (t + 9)
  | _ => 0
theorem bit_sg {t j : Nat} (h : j < 3) : bitAt t (sg3 j) = sgb t j := by
  match j, h with
  | 0, _ => rfl
  | 1, _ => rfl
  | 2, _ => rfl
theorem SG_at {t j : Nat} (h : j < 3) : (SG t).l[j]? = some (((sgb t j : Nat) : Int), (⟨[sg3 j]⟩ : Tx)) := by
  match j, h with
  | 0, _ => rfl
  | 1, _ => rfl
  | 2, _ => rfl
theorem cf_nil {t : Nat} : cf t ⟨[]⟩ = 0 := by
  unfold cf codeT
  have h : ∀ n, n ≤ t → codeUp (zp t ⟨[]⟩) n = 0 := by
    intro n
    induction n with
    | zero => intro _; rfl
    | succ n ih =>
      intro hn
      rw [codeUp, ih (by omega)]
      have e : sg (zp t ⟨[]⟩) n = 48 := by
        unfold sg zp
        rw [List.append_nil, List.getD_eq_getElem?_getD, List.getElem?_replicate, if_pos (by omega)]
        rfl
      rw [e]
      rw [show bitAt n 48 = 0 from rfl]
      rfl
  rw [zp_len]
  exact h _ (Nat.le_refl _)
theorem wp_asgNL {Δ0 : Gh} {H0 : Hp} {Γ : Own} {F : List (V × Cell)} {ρ : Z.Env} {te : TE} {D : Ends} {i : Nat} {I : HO → Prop} (h : EvN K Γ te ρ I) (hi : i < ρ.length)
    (k : ∀ d o, I o → OwnP Δ0 Γ d → Wp K Δ0 H0 ((d, ObIs o) :: Γ) F (ρ.set i (some ⟨(⟨d⟩ : Z.Loc)⟩)) tNext D) : Wp K Δ0 H0 Γ F ρ (tAsg te (gName i)) D := wp_asgN (tz := tNext) h hi k
abbrev IvB (Γ : Own) (Δ0 : Gh) (t n : Nat) : Nat → Own → Z.Env → Prop := fun i Γ' ρ' => ∃ (d : Addr) (Γ2 : Own) (a b c e f g : Option Cell), Γ' = (d, ObIs (.dK (kvR t (rowsOf i)))) :: Γ2 ∧ OwnP Δ0 Γ2 d ∧ ρ' = [some ⟨(t : Int)⟩, some ⟨((t + n : Nat) : Int)⟩, some ⟨(⟨d⟩ : Z.Loc)⟩, a, b, c, e, f, g]
theorem rows_le {n : Nat} (h : n ≤ 9) : (rowsOf n).length ≤ 19683 := by
  rw [rows_len]
  exact Nat.le_trans (Nat.pow_le_pow_right (by decide) h) (by decide)
theorem kvR_len {t : Nat} {l : List Tx} : (kvR t l).length = l.length := by unfold kvR; rw [List.length_map]
theorem shl_one {Γ : Own} {ρ : Z.Env} {tb : TE} {k : Nat} (hk : k ≤ 100) (h : Ev K Γ tb ρ (Is (k : Int))) : Ev K Γ (tOp (rI CPow fun i j => .int (i * 2 ^ j.toNat)) (tC (.int 1)) tb) ρ (Is ((2 ^ k : Nat) : Int)) :=
  ev_is (ev_op1 ev_int h (o2_I (C := CPow) (g := fun i j => i * 2 ^ j.toNat) ⟨by omega, by omega, by decide⟩)) (by
    show (1 : Int) * 2 ^ ((k : Int).toNat) = _
    rw [Int.toNat_natCast, Int.one_mul, Int.natCast_pow]
    rfl)
theorem sc_rows_by_code : FnScope ["first", "behind", "rows", "thing", "signs", "code", "row", "bit", "sign"] ["first", "behind"] (defScope s_rows_by_code) := ⟨rfl, rfl, rfl, by decide +kernel, rfl, by decide +kernel, by decide +kernel⟩
theorem ok_rows_by_code (T : Txt K mg) {f : Addr} {fd : FuncData} (D : Df K mg "rows_by_code" s_rows_by_code ["first", "behind"] f fd) : FnOk P w K mg base CX0 2 f fd ["first", "behind"] (spX K F_rows_by_code) := by
  obtain ⟨_, hI_SHIFT⟩ := T.i_SHIFT
  obtain ⟨_, hI_LOW⟩ := T.i_LOW
  obtain ⟨_, hI_MAX_THINGS⟩ := T.i_MAX_THINGS
  obtain ⟨_, hI_MAX_LAYINGS⟩ := T.i_MAX_LAYINGS
  obtain ⟨_, hI_MAX_UPRIGHT⟩ := T.i_MAX_UPRIGHT
  refine def_okX D.F sc_rows_by_code (fun Γ cs R g => ?len) (fun cdv A outer s H E hr Γ cs R g => ?_)
  case len => obtain ⟨t, n, rfl, _⟩ := g; rfl
  obtain ⟨t, n, rfl, h9, rfl⟩ := g
  refine ⟨_, (pss_cons (ps_set (i := 2) sc_rows_by_code.nd rfl (by first | exact .inl rfl | exact .inr rfl) (pe_disp (pps_cons pe_int pe_str pps_nil) (by rfl) (by rfl) (fun z => by cases z) (by decide)))
      (pss_cons (ps_for PassesOwn.never rfl (pi_range2 (by rfl) T.z_range (pa_cons (pv 0) (pa_cons (pv 1) pa_nil))) (pg_name (i := 3) sc_rows_by_code.nd rfl (by first | exact .inl rfl | exact .inr rfl))
        (pss_cons (ps_set (i := 4) sc_rows_by_code.nd rfl (by first | exact .inl rfl | exact .inr rfl) (pe_tup (pa_cons (pe_tup (pa_cons (pe_op op_shl pe_int (pv 3)) (pa_cons pe_str pa_nil))) (pa_cons (pe_tup (pa_cons (pe_op op_shl pe_int (pe_op op_add (pv 3) (pe_glob (v := .int 9) rfl hI_SHIFT ⟨_, rfl⟩))) (pa_cons pe_str pa_nil))) (pa_cons (pe_tup (pa_cons pe_int (pa_cons pe_str pa_nil))) pa_nil)))))
        (pss_one (ps_lockA (ps_setDc2 (i := 2) (own := [("code", 5), ("row", 6), ("bit", 7), ("sign", 8)]) (vs1 := [7, 8]) (g := (gTup K 2 (gCons (gName 5) (gCons (gName 6) gNil)))) (g1 := (gTup K 2 (gCons (gName 7) (gCons (gName 8) gNil)))) (tt := tYes) (tt1 := tYes) rfl sc_rows_by_code.nd rfl rfl (sw_dict rfl rfl rfl (by decide +kernel)) (pi_items (pv 2)) (blkOk_by (N := ["first", "behind", "rows", "thing", "signs", "code", "row", "bit", "sign"]) (sc := defScope s_rows_by_code) (by decide +kernel)) (by decide) (fun _ _ _ _ _ => (pg_tup rfl (pgs_cons (pg_name (i := 5) sc_rows_by_code.nd rfl (by first | exact .inl rfl | exact .inr rfl)) (pgs_cons (pg_name (i := 6) sc_rows_by_code.nd rfl (by first | exact .inl rfl | exact .inr rfl)) pgs_nil)))) (fun _ _ _ _ _ => pts_nil) (fun _ _ _ _ _ => (pi_tupK (pv 4))) (fun _ _ _ _ _ => (pg_tup rfl (pgs_cons (pg_name (i := 7) sc_rows_by_code.nd rfl (by first | exact .inl rfl | exact .inr rfl)) (pgs_cons (pg_name (i := 8) sc_rows_by_code.nd rfl (by first | exact .inl rfl | exact .inr rfl)) pgs_nil)))) (fun _ _ _ _ _ => pts_nil) (fun _ _ _ _ _ => (pe_op op_or (pv 5) (pv 7))) (fun _ _ _ _ _ => (pe_op op_add_str (pv 6) (pv 8))))))))
      (pss_one (ps_ret (pv 2))))), fun Δ0 D' hf => ?_⟩
  refine wp_asgN (I := ObIs (.dK [(.inl 0, Flat.val (⟨[]⟩ : Tx))])) (en_disp1 (κ := Int) (ν := Tx) (x := 0) (y := ⟨[]⟩) (k0 := .inl 0) rfl ev_int ?_) (ltr rfl) fun d o io od => ?_
  · exact ev_strc []
  have eo : o = HO.dK (kvR t (rowsOf 0)) := by
    rw [show o = _ from io]
    show HO.dK [(.inl 0, .str (tS ⟨[]⟩))] = HO.dK [(.inl ((cf t ⟨[]⟩ : Nat) : Int), .str (tS ⟨[]⟩))]
    rw [cf_nil]
    rfl
  subst eo
  refine wp_for (IvB Γ Δ0 t n) (src_rng2 (lo := t) (n := n) (ea_1 (ev_var (i := 0)) (ea_1 (ev_var (i := 1)) ea_nil)) (by omega) (ltr rfl)) ⟨d, Γ, none, none, none, none, none, none, rfl, od, rfl⟩ (fun i Γ' ρ' h => by obtain ⟨d, Γ2, a, b, c, e, f, g, _, _, rfl⟩ := h; rfl) ?_ ?_
  · rintro i Γ' ρ' F' hi ⟨d, Γ2, a, b, c, e, f, g, rfl, od, rfl⟩
    have h3 : (rowsOf i).length ≤ 6561 := by
      rw [rows_len]
      exact Nat.le_trans (Nat.pow_le_pow_right (by decide) (show i ≤ 8 by omega)) (by decide)
    refine wp_asg1 (a := SG (t + i)) (ev_tupN (ea_1 (ev_tup2 (ea_1 (shl_one (k := t + i) (by omega) (ev_var (i := 3))) (ea_1 (ev_strc [43]) ea_nil))) (ea_1 (ev_tup2 (ea_1 (shl_one (k := t + i + 9) (by omega) (ev_is (ev_op1 (ev_var (i := 3) (a := ((t + i : Nat) : Int))) ev_int (o2_I0 (g := fun i j => i + j))) (by omega))) (ea_1 (ev_strc [45]) ea_nil))) (ea_1 (ev_tup2 (ea_1 ev_int (ea_1 (ev_strc [48]) ea_nil))) ea_nil))) (by show 3 ≤ 100000; decide)) (ltr rfl) ?_
    refine wp_asgNL (I := ObIs (.dK (kvR t (part (rowsOf i) (rowsOf i).length 0)))) (en_lock (i := 2) trivial od.ne rfl ?_) (ltr rfl) fun d2 o2 io2 od2 => ?_
    · have S := src_items (K := K) (Γ := Γ2) (te := tVar 2) (ja := 5) (jb := 6) (κ := Int) (ν := Tx) (x0 := fun k => ((cf t ((rowsOf i).getD k ⟨[]⟩) : Nat) : Int)) (y0 := fun k => (rowsOf i).getD k ⟨[]⟩) (ev_var (ρ := [some ⟨(t : Int)⟩, some ⟨((t + n : Nat) : Int)⟩, some ⟨(⟨d, HO.dK (kvR t (rowsOf i))⟩ : Fz)⟩, some ⟨((t + i : Nat) : Int)⟩, some ⟨SG (t + i)⟩, c, e, f, g]) (i := 2)) (fun k hk => ⟨.inl ((cf t ((rowsOf i).getD k ⟨[]⟩) : Nat) : Int), by
        rw [kvR_len] at hk
        unfold kvR
        rw [List.getElem?_map, getD_of (d := ⟨[]⟩) hk]
        rfl, rfl⟩) (ltr rfl) (ltr rfl)
      rw [kvR_len] at S
      refine en_dc2 (κ := Int) (ν := Tx) (vs := [5, 6, 7, 8]) (vs1 := [7, 8]) (m := fun _ => 3) (fun i' j => kvR t (part (rowsOf i) i' j)) rfl (fun i' j _ _ => ?_) S (by decide) (fun i' _ => src_tupP (xs := SG (t + i)) (x0 := fun j => (((sgb (t + i) j : Nat) : Int), (⟨[sg3 j]⟩ : Tx))) (ev_var (i := 4)) (fun j hj => SG_at hj) (ltr rfl) (ltr rfl)) (by decide) (fun i' j hi' hj => ?_) (fun i' hi' => ?_)
      · rw [kvR_len]
        have := part_len (xs := rowsOf i) (i := i') (j := j)
        omega
      · have hl : ((rowsOf i).getD i' ⟨[]⟩).s.length = i := rows_sz i _ (List.mem_of_getElem? (getD_of hi'))
        refine ⟨((cf t ⟨((rowsOf i).getD i' ⟨[]⟩).s ++ [sg3 j]⟩ : Nat) : Int), ⟨((rowsOf i).getD i' ⟨[]⟩).s ++ [sg3 j]⟩, .inl ((cf t ⟨((rowsOf i).getD i' ⟨[]⟩).s ++ [sg3 j]⟩ : Nat) : Int), rfl, ?_, ?_, ?_⟩
        · refine ev_is (ev_op1 (ev_var (i := 5) (a := ((cf t ((rowsOf i).getD i' ⟨[]⟩) : Nat) : Int))) (ev_var (i := 7) (a := ((sgb (t + i) j : Nat) : Int))) (o2_I0 (g := Builtin.bitOr))) ?_
          rw [or_nn, cf_snoc, hl, bit_sg hj]
        · exact ev_op1 (ev_var (i := 6) (a := (rowsOf i).getD i' ⟨[]⟩)) (ev_var (i := 8) (a := (⟨[sg3 j]⟩ : Tx))) (o2_addS (by rw [hl]; show i + 1 ≤ _; omega))
        · show kvR t (part (rowsOf i) i' (j + 1)) = putK (kvR t (part (rowsOf i) i' j)) _ (.str (tS _))
          rw [putK_kvR (part_ne (by omega) hi' hj), part_sign hj]
      · show kvR t (part (rowsOf i) (i' + 1) 0) = kvR t (part (rowsOf i) i' 3)
        rw [part_next hi']
    · have eo : o2 = HO.dK (kvR t (rowsOf (i + 1))) := by
        rw [show o2 = _ from io2]
        congr 2
        unfold part
        rw [List.take_length]
        simp [rowsOf]
      subst eo
      exact wp_turn (Iv := IvB Γ Δ0 t n) ⟨d2, _, _, _, _, _, _, _, rfl, od2, rfl⟩ rfl
  · rintro Γ' ρ' F' ⟨d, Γ2, a, b, c, e, f, g, rfl, od, rfl⟩
    exact wp_retO od hf rfl (ev_var (i := 2))
end
end K03

set_option Elab.async false
set_option linter.all false
set_option maxRecDepth 100000
set_option maxHeartbeats 1000000
namespace K03
open PySem PySem.Spec PyProof.Rows L2 Z K00
theorem low_tb (h j : Nat) : (both (2 ^ h - 1)).testBit j = (decide (j < h) || (decide (9 ≤ j) && decide (j - 9 < h))) := by
  unfold both
  rw [Nat.testBit_or, Nat.testBit_two_pow_sub_one, Nat.testBit_mul_two_pow, Nat.testBit_two_pow_sub_one]
theorem sg_take {x : Tx} {h j : Nat} (hj : j < h) : sg (zp 0 ⟨x.s.take h⟩) j = sg x j := by
  unfold sg zp
  rw [List.replicate_zero, List.nil_append, List.getD_eq_getElem?_getD, List.getD_eq_getElem?_getD, List.getElem?_take, if_pos hj]
theorem sg_zdrop {x : Tx} {h j : Nat} : sg (zp h ⟨x.s.drop h⟩) j = if j < h then 48 else sg x j := by
  unfold sg zp
  rw [List.getD_eq_getElem?_getD]
  by_cases c : j < h
  · rw [List.getElem?_append_left (by rw [List.length_replicate]; exact c), List.getElem?_replicate, if_pos c, if_pos c]
    rfl
  · rw [List.getElem?_append_right (by rw [List.length_replicate]; omega), List.getElem?_drop, List.length_replicate, if_neg c, List.getD_eq_getElem?_getD, show h + (j - h) = j by omega]
theorem tb_head {x : Tx} {h j : Nat} (hn : h ≤ x.s.length) (h9 : x.s.length ≤ 9) : (cf 0 ⟨x.s.take h⟩).testBit j = true ↔ (j < h ∧ sg x j = 43) ∨ (9 ≤ j ∧ j - 9 < h ∧ sg x (j - 9) = 45) := by
  have hl : (zp 0 ⟨x.s.take h⟩).s.length = h := by rw [zp_len, List.length_take]; omega
  unfold cf codeT
  rw [tb_code _ _ _ (by omega), hl]
  simp only [Bool.and_eq_true, Bool.or_eq_true, decide_eq_true_eq]
  refine ⟨fun z => ?_, fun z => ?_⟩
  · rcases z with ⟨a, b⟩ | ⟨a, b, c⟩
    · exact .inl ⟨a, by rw [← b, sg_take a]⟩
    · exact .inr ⟨a, b, by rw [← c, sg_take b]⟩
  · rcases z with ⟨a, b⟩ | ⟨a, b, c⟩
    · exact .inl ⟨a, by rw [← b, sg_take a]⟩
    · exact .inr ⟨a, b, by rw [← c, sg_take b]⟩
theorem tb_tail {x : Tx} {h j : Nat} (hn : h ≤ x.s.length) (h9 : x.s.length ≤ 9) : (cf h ⟨x.s.drop h⟩).testBit j = true ↔ (h ≤ j ∧ j < x.s.length ∧ sg x j = 43) ∨ (9 ≤ j ∧ h ≤ j - 9 ∧ j - 9 < x.s.length ∧ sg x (j - 9) = 45) := by
  have hl : (zp h ⟨x.s.drop h⟩).s.length = x.s.length := by rw [zp_len, List.length_drop]; omega
  unfold cf codeT
  rw [tb_code _ _ _ (by omega), hl]
  simp only [Bool.and_eq_true, Bool.or_eq_true, decide_eq_true_eq, sg_zdrop]
  refine ⟨fun z => ?_, fun z => ?_⟩
  · rcases z with ⟨a, b⟩ | ⟨a, b, c⟩
    · by_cases q : j < h
      · rw [if_pos q] at b
        cases b
      · rw [if_neg q] at b
        exact .inl ⟨by omega, a, b⟩
    · by_cases q : j - 9 < h
      · rw [if_pos q] at c
        cases c
      · rw [if_neg q] at c
        exact .inr ⟨a, by omega, b, c⟩
  · rcases z with ⟨a, b, c⟩ | ⟨a, b, c, d⟩
    · exact .inl ⟨b, by rw [if_neg (by omega), c]⟩
    · exact .inr ⟨a, c, by rw [if_neg (by omega), d]⟩
theorem tb_whole {x : Tx} {j : Nat} (h9 : x.s.length ≤ 9) : (codeT x).testBit j = true ↔ (j < x.s.length ∧ sg x j = 43) ∨ (9 ≤ j ∧ j - 9 < x.s.length ∧ sg x (j - 9) = 45) := by
  unfold codeT
  rw [tb_code _ _ _ h9]
  simp only [Bool.and_eq_true, Bool.or_eq_true, decide_eq_true_eq]
theorem code_low {x : Tx} {h : Nat} (hn : h ≤ x.s.length) (h9 : x.s.length ≤ 9) : codeT x &&& both (2 ^ h - 1) = cf 0 ⟨x.s.take h⟩ := by
  refine Nat.eq_of_testBit_eq fun j => ?_
  rw [Bool.eq_iff_iff, tb_head hn h9, Nat.testBit_and, Bool.and_eq_true, tb_whole h9, low_tb]
  simp only [Bool.and_eq_true, Bool.or_eq_true, decide_eq_true_eq]
  refine ⟨fun ⟨y, z⟩ => ?_, fun z => ?_⟩
  · rcases y with ⟨a, b⟩ | ⟨a, b, c⟩
    · exact .inl ⟨by omega, b⟩
    · exact .inr ⟨a, by omega, c⟩
  · rcases z with ⟨a, b⟩ | ⟨a, b, c⟩
    · exact ⟨.inl ⟨by omega, b⟩, .inl a⟩
    · exact ⟨.inr ⟨a, by omega, c⟩, .inr ⟨a, b⟩⟩
theorem code_or {x : Tx} {h : Nat} (hn : h ≤ x.s.length) (h9 : x.s.length ≤ 9) : cf 0 ⟨x.s.take h⟩ ||| cf h ⟨x.s.drop h⟩ = codeT x := by
  refine Nat.eq_of_testBit_eq fun j => ?_
  rw [Bool.eq_iff_iff, Nat.testBit_or, Bool.or_eq_true, tb_head hn h9, tb_tail hn h9, tb_whole h9]
  refine ⟨fun y => ?_, fun z => ?_⟩
  · rcases y with (⟨a, b⟩ | ⟨a, b, c⟩) | (⟨a, b, c⟩ | ⟨a, b, c, d⟩)
    · exact .inl ⟨by omega, b⟩
    · exact .inr ⟨a, by omega, c⟩
    · exact .inl ⟨b, c⟩
    · exact .inr ⟨a, c, d⟩
  · rcases z with ⟨a, b⟩ | ⟨a, b, c⟩
    · by_cases q : j < h
      · exact .inl (.inl ⟨q, b⟩)
      · exact .inr (.inl ⟨by omega, a, b⟩)
    · by_cases q : j - 9 < h
      · exact .inl (.inr ⟨a, q, c⟩)
      · exact .inr (.inr ⟨a, by omega, b, c⟩)
theorem code_and {x : Tx} {h : Nat} (hn : h ≤ x.s.length) (h9 : x.s.length ≤ 9) : cf 0 ⟨x.s.take h⟩ &&& cf h ⟨x.s.drop h⟩ = 0 := by
  refine Nat.eq_of_testBit_eq fun j => ?_
  rw [Nat.zero_testBit, Bool.eq_false_iff, Nat.testBit_and]
  intro z
  rw [Bool.and_eq_true, tb_head hn h9, tb_tail hn h9] at z
  omega
theorem code_high {x : Tx} {h : Nat} (hn : h ≤ x.s.length) (h9 : x.s.length ≤ 9) : Builtin.bitAnd (codeT x : Int) (Builtin.bitNot ((both (2 ^ h - 1) : Nat) : Int)) = ((cf h ⟨x.s.drop h⟩ : Nat) : Int) := by
  rw [bitAnd_not, and_nn, code_low hn h9]
  have e := bitOr_and ((cf 0 ⟨x.s.take h⟩ : Nat) : Int) ((cf h ⟨x.s.drop h⟩ : Nat) : Int)
  rw [or_nn, and_nn, code_or hn h9, code_and hn h9] at e
  omega
theorem get_rows {t n : Nat} {x : Tx} (h9 : t + n ≤ 9) (hl : x.s.length = n) (ha : x.s.all isSign = true) : valV (kvR t (rowsOf n)) (.inl ((cf t x : Nat) : Int) : Key) = some (.str (tS x)) :=
  valV_kvR (rows_all n x hl ha) fun y hy e => cf_inj (rows_sign n y hy) ha (by rw [rows_sz n y hy, hl]) (by rw [rows_sz n y hy]; exact h9) e
theorem all_take {x : Tx} (h : x.s.all isSign = true) (n : Nat) : (x.s.take n).all isSign = true := by
  rw [List.all_eq_true] at h ⊢
  exact fun z hz => h z (List.mem_of_mem_take hz)
theorem all_drop {x : Tx} (h : x.s.all isSign = true) (n : Nat) : (x.s.drop n).all isSign = true := by
  rw [List.all_eq_true] at h ⊢
  exact fun z hz => h z (List.mem_of_mem_drop hz)
theorem ev_inv {K : PySem.W.Frag} {Γ : Own} {ρ : Z.Env} {te : TE} {i : Int} (h : Ev K Γ te ρ (Is i)) : Ev K Γ (tUn (rU fun i => .int (Builtin.bitNot i)) te) ρ (Is (Builtin.bitNot i)) := fun Δ σ H Q s hh e k =>
  h Δ σ H _ s hh e fun v H1 a pa e1 r => by
    have ea : a = i := pa
    subst ea
    have ev : v = .int a := r
    subst ev
    exact ⟨a, rfl, k _ H1 _ rfl e1 rfl⟩
section
variable {P : Program} {w : World} {K : PySem.W.Frag} {mg : Str → Option Value} {base : Heap}
def F_rows_of : Pm (List Tx) := fun _ cs R => ∃ (n : Nat) (xs : List Tx), cs = [⟨zs (xs.map codeT)⟩, ⟨(n : Int)⟩] ∧ n ≤ 9 ∧ xs.length ≤ 50000 ∧ (∀ x ∈ xs, x.s.length = n ∧ x.s.all isSign = true) ∧ R = Is xs
theorem sc_rows_of : FnScope ["codes", "many", "half", "heads", "tails", "low", "code"] ["codes", "many"] (defScope s_rows_of) := ⟨rfl, rfl, rfl, by decide +kernel, rfl, by decide +kernel, by decide +kernel⟩
theorem ok_rows_of (T : Txt K mg) {f : Addr} {fd : FuncData} (D : Df K mg "rows_of" s_rows_of ["codes", "many"] f fd) {f_rows_by_code : Addr} {fd_rows_by_code : FuncData} (D_rows_by_code : Df K mg "rows_by_code" s_rows_by_code ["first", "behind"] f_rows_by_code fd_rows_by_code) (G_rows_by_code : FnOk P w K mg base CX0 2 f_rows_by_code fd_rows_by_code ["first", "behind"] (spX K F_rows_by_code)) {f_both_signs : Addr} {fd_both_signs : FuncData} (D_both_signs : Df K mg "both_signs" s_both_signs ["mask"] f_both_signs fd_both_signs) (G_both_signs : FnOk P w K mg base CX0 2 f_both_signs fd_both_signs ["mask"] (spD K F_both_signs)) : FnOk P w K mg base CX0 3 f fd ["codes", "many"] (spD K F_rows_of) := by
  obtain ⟨_, hI_SHIFT⟩ := T.i_SHIFT
  obtain ⟨_, hI_LOW⟩ := T.i_LOW
  obtain ⟨_, hI_MAX_THINGS⟩ := T.i_MAX_THINGS
  obtain ⟨_, hI_MAX_LAYINGS⟩ := T.i_MAX_LAYINGS
  obtain ⟨_, hI_MAX_UPRIGHT⟩ := T.i_MAX_UPRIGHT
  refine def_ok D.F sc_rows_of (fun Γ cs R g => ?len) (fun cdv A outer s H E hr Γ cs R g => ?_)
  case len => obtain ⟨n, xs, rfl, _⟩ := g; rfl
  obtain ⟨n, xs, rfl, h9, hz, hx, rfl⟩ := g
  refine ⟨_, (pss_cons (ps_set (i := 2) sc_rows_of.nd rfl (by first | exact .inl rfl | exact .inr rfl) (pe_op op_fdivN (pv 1) pe_int))
      (pss_cons (ps_set (i := 3) sc_rows_of.nd rfl (by first | exact .inl rfl | exact .inr rfl) (pe_call G_rows_by_code (hr.mono (by decide)) (by rfl) D_rows_by_code.g D_rows_by_code.kp D_rows_by_code.b .nil pass0 (pa_cons pe_int (pa_cons (pv 2) pa_nil))))
      (pss_cons (ps_set (i := 4) sc_rows_of.nd rfl (by first | exact .inl rfl | exact .inr rfl) (pe_call G_rows_by_code (hr.mono (by decide)) (by rfl) D_rows_by_code.g D_rows_by_code.kp D_rows_by_code.b .nil pass0 (pa_cons (pv 2) (pa_cons (pv 1) pa_nil))))
      (pss_cons (ps_set (i := 5) sc_rows_of.nd rfl (by first | exact .inl rfl | exact .inr rfl) (pe_call G_both_signs (hr.mono (by decide)) (by rfl) D_both_signs.g D_both_signs.kp D_both_signs.b .nil pass0 (pa_cons (pe_op op_sub (pe_op op_shl pe_int (pv 2)) pe_int) pa_nil)))
      (pss_one (ps_ret (pe_lc (own := [("code", 6)]) (g := (gName 6)) (tt := tYes) rfl sc_rows_of.nd (pi_listK (pv 0)) (blkOk_by (N := ["codes", "many", "half", "heads", "tails", "low", "code"]) (sc := defScope s_rows_of) (by decide +kernel)) (fun _ _ _ _ _ => (pg_name (i := 6) sc_rows_of.nd rfl (by first | exact .inl rfl | exact .inr rfl))) (fun _ _ _ _ _ => pts_nil) (fun _ _ _ _ _ => (pe_op op_add_str (pe_dget (hu_of hr) (pv 3) (pe_op op_and (pv 6) (pv 5)) (fun _ _ => rfl)) (pe_dget (hu_of hr) (pv 4) (pe_op op_and (pv 6) (pe_un un_inv (pv 5))) (fun _ _ => rfl))))))))))), fun Δ0 D' hf hn => ?_⟩
  refine wp_asg1 (a := ((n / 2 : Nat) : Int)) (ev_is (ev_op1 (ev_var (i := 1) (a := (n : Int))) ev_int (o2_I (C := CDivN) (g := Int.fdiv) ⟨by decide, by decide⟩)) (by rw [Int.fdiv_eq_ediv_of_nonneg _ (by decide)]; norm_cast)) (ltr rfl) ?_
  have e2 : n / 2 + (n - n / 2) = n := by omega
  refine wp_asgN (I := ObIs (.dK (kvR 0 (rowsOf (n / 2))))) (en_callX (ea_1 ev_int (ea_1 (ev_var (i := 2) (a := ((n / 2 : Nat) : Int))) ea_nil)) ⟨0, n / 2, by rw [Nat.zero_add]; rfl, by omega, rfl⟩) (ltr rfl) fun d1 o1 i1 od1 => ?_
  have eo1 : o1 = HO.dK (kvR 0 (rowsOf (n / 2))) := i1
  subst eo1
  refine wp_asgN (I := ObIs (.dK (kvR (n / 2) (rowsOf (n - n / 2))))) (en_callX (ea_1 (ev_var (i := 2) (a := ((n / 2 : Nat) : Int))) (ea_1 (ev_var (i := 1) (a := (n : Int))) ea_nil)) ⟨n / 2, n - n / 2, by rw [e2], by omega, rfl⟩) (ltr rfl) fun d2 o2 i2 od2 => ?_
  have eo2 : o2 = HO.dK (kvR (n / 2) (rowsOf (n - n / 2))) := i2
  subst eo2
  refine wp_asg1 (a := ((both (2 ^ (n / 2) - 1) : Nat) : Int)) (ev_call1 (ea_1 (ev_is (ev_op1 (shl_one (k := n / 2) (by omega) (ev_var (i := 2) (a := ((n / 2 : Nat) : Int)))) ev_int (o2_I0 (g := fun i j => i - j))) ?_) ea_nil) ⟨2 ^ (n / 2) - 1, rfl, ?_, rfl⟩) (ltr rfl) ?_
  · have := Nat.two_pow_pos (n / 2)
    omega
  · have := Nat.pow_le_pow_right (show 0 < 2 by decide) (show n / 2 ≤ 9 by omega)
    omega
  have hl : (zs (xs.map codeT)).length = xs.length := by simp [zs]
  have hc := ev_lcD (K := K) (Γ := (d2, ObIs (.dK (kvR (n / 2) (rowsOf (n - n / 2))))) :: (d1, ObIs (.dK (kvR 0 (rowsOf (n / 2))))) :: Γ) (xs := xs) (fun _ => true) (fun x => x) (by
    have S := src_list (K := K) (Γ := (d2, ObIs (.dK (kvR (n / 2) (rowsOf (n - n / 2))))) :: (d1, ObIs (.dK (kvR 0 (rowsOf (n / 2))))) :: Γ) (xs := zs (xs.map codeT)) (x0 := fun i => ((codeT (xs.getD i ⟨[]⟩) : Nat) : Int)) (ev_var (ρ := [some ⟨zs (xs.map codeT)⟩, some ⟨(n : Int)⟩, some ⟨((n / 2 : Nat) : Int)⟩, some ⟨(⟨d1⟩ : Z.Loc)⟩, some ⟨(⟨d2⟩ : Z.Loc)⟩, some ⟨((both (2 ^ (n / 2) - 1) : Nat) : Int)⟩, none]) (i := 0)) (fun i hi => ?_) (j := 6) (ltr rfl)
    · rw [hl] at S
      exact S
    · rw [hl] at hi
      unfold zs
      rw [List.getElem?_map, List.getElem?_map, getD_of (d := (⟨[]⟩ : Tx)) hi]
      rfl) hz (vs := [6]) (by decide) (t := tYes) (te := tOp (fun x y H Q => ∃ i j, x = V.str i ∧ y = V.str j ∧ i.length + j.length ≤ sizeLine ∧ Q (V.str (i ++ j)) H) (tDGet (tVar 3) (tOp (rI0 fun i j => .int (Builtin.bitAnd i j)) (tVar 6) (tVar 5))) (tDGet (tVar 4) (tOp (rI0 fun i j => .int (Builtin.bitAnd i j)) (tVar 6) (tUn (rU fun i => .int (Builtin.bitNot i)) (tVar 5))))) fun i x hi => by
    have hm := List.mem_of_getElem? hi
    obtain ⟨xl, xa⟩ := hx x hm
    have e : xs.getD i ⟨[]⟩ = x := by rw [List.getD_eq_getElem?_getD, hi]; rfl
    refine ⟨et_yes, fun _ => ?_⟩
    show Ev K _ _ [_, _, _, _, _, _, some ⟨((codeT (xs.getD i ⟨[]⟩) : Nat) : Int)⟩] _
    rw [e]
    refine ev_is (ev_op1 (ev_dgetO (κ := Int) (ν := Tx) (x := ((cf 0 ⟨x.s.take (n / 2)⟩ : Nat) : Int)) (y := ⟨x.s.take (n / 2)⟩) (k0 := .inl ((cf 0 ⟨x.s.take (n / 2)⟩ : Nat) : Int)) (List.mem_cons_of_mem _ List.mem_cons_self) rfl (get_rows (by omega) (by show (x.s.take (n / 2)).length = _; rw [List.length_take]; omega) (all_take xa _)) (ev_var (i := 3)) (ev_is (ev_op1 (ev_var (i := 6) (a := ((codeT x : Nat) : Int))) (ev_var (i := 5) (a := ((both (2 ^ (n / 2) - 1) : Nat) : Int))) (o2_I0 (g := Builtin.bitAnd))) (by rw [and_nn, code_low (by omega) (by omega)])))
      (ev_dgetO (κ := Int) (ν := Tx) (x := ((cf (n / 2) ⟨x.s.drop (n / 2)⟩ : Nat) : Int)) (y := ⟨x.s.drop (n / 2)⟩) (k0 := .inl ((cf (n / 2) ⟨x.s.drop (n / 2)⟩ : Nat) : Int)) List.mem_cons_self rfl (get_rows (by omega) (by show (x.s.drop (n / 2)).length = _; rw [List.length_drop]; omega) (all_drop xa _)) (ev_var (i := 4)) (ev_is (ev_op1 (ev_var (i := 6) (a := ((codeT x : Nat) : Int))) (ev_inv (ev_var (i := 5) (a := ((both (2 ^ (n / 2) - 1) : Nat) : Int)))) (o2_I0 (g := Builtin.bitAnd))) (code_high (by omega) (by omega)))) (o2_addS ?_)) ?_
    · show (x.s.take (n / 2)).length + (x.s.drop (n / 2)).length ≤ _
      rw [List.length_take, List.length_drop]
      omega
    · show (⟨x.s.take (n / 2) ++ x.s.drop (n / 2)⟩ : Tx) = x
      rw [List.take_append_drop]
  rw [List.filter_eq_self.mpr (fun _ _ => rfl), show (fun x : Tx => x) = id from rfl, List.map_id] at hc
  exact wp_ret hf hc
end
end K03

set_option Elab.async false
set_option linter.all false
set_option maxRecDepth 100000
set_option maxHeartbeats 1000000
namespace K03
open PySem PySem.Spec PyProof.Rows L2 Z K00
/-- numbers, each once -/
def addN (l : List Nat) (p : Nat) : List Nat := if p ∈ l then l else l ++ [p]
def kvB (l : List Nat) : List (Key × V) := l.map fun c => (.inl ((c : Nat) : Int), .bl true)
theorem putK_kvB {l : List Nat} {p : Nat} : putK (kvB l) (.inl ((p : Nat) : Int)) (.bl true) = kvB (addN l p) := by
  have ha : ((kvB l).any fun kv => decide (kv.1 = (.inl ((p : Nat) : Int) : Key))) = decide (p ∈ l) := by
    rw [Bool.eq_iff_iff, List.any_eq_true, decide_eq_true_eq]
    refine ⟨fun ⟨kv, hk, e⟩ => ?_, fun h => ⟨(.inl ((p : Nat) : Int), .bl true), List.mem_map.mpr ⟨p, h, rfl⟩, decide_eq_true rfl⟩⟩
    obtain ⟨y, hy, rfl⟩ := List.mem_map.mp hk
    have e2 : ((y : Nat) : Int) = ((p : Nat) : Int) := Sum.inl.inj (of_decide_eq_true e)
    have e3 : y = p := by omega
    exact e3 ▸ hy
  unfold putK addN
  rw [ha]
  by_cases h : p ∈ l
  · rw [decide_eq_true h, if_pos rfl, if_pos h]
    unfold kvB
    rw [List.map_map]
    refine List.map_congr_left fun c _ => ?_
    show (if _ then _ else _) = _
    split <;> rfl
  · rw [decide_eq_false h, if_neg Bool.false_ne_true, if_neg h]
    unfold kvB
    rw [List.map_append]
    rfl
theorem mem_addN {l : List Nat} {p x : Nat} : x ∈ addN l p ↔ x ∈ l ∨ x = p := by
  unfold addN
  split
  · rename_i h
    exact ⟨.inl, fun z => z.elim id fun e => e ▸ h⟩
  · rw [List.mem_append, List.mem_singleton]
theorem nd_addN {l : List Nat} {p : Nat} (h : l.Nodup) : (addN l p).Nodup := by
  unfold addN
  split
  · exact h
  · rename_i hp
    rw [List.nodup_append]
    refine ⟨h, List.nodup_cons.mpr ⟨List.not_mem_nil, List.nodup_nil⟩, fun a ha b hb e => ?_⟩
    rw [List.mem_singleton.mp hb] at e
    exact hp (e ▸ ha)
theorem len_addN {l : List Nat} {p : Nat} : (addN l p).length ≤ l.length + 1 := by
  unfold addN
  split
  · omega
  · rw [List.length_append]
    exact Nat.le_refl _
def upN (l ps : List Nat) : List Nat := ps.foldl addN l
theorem mem_upN : ∀ {ps l : List Nat} {x : Nat}, x ∈ upN l ps ↔ x ∈ l ∨ x ∈ ps
  | [], l, x => ⟨.inl, fun h => h.elim id fun z => nomatch z⟩
  | p :: ps, l, x => by
    show x ∈ upN (addN l p) ps ↔ _
    rw [mem_upN, mem_addN, List.mem_cons, or_assoc]
theorem nd_upN : ∀ {ps l : List Nat}, l.Nodup → (upN l ps).Nodup
  | [], l, h => h
  | p :: ps, l, h => nd_upN (ps := ps) (nd_addN h)
theorem len_upN : ∀ {ps l : List Nat}, (upN l ps).length ≤ l.length + ps.length
  | [], l => Nat.le_refl _
  | p :: ps, l => by
    show (upN (addN l p) ps).length ≤ _
    have h1 := len_upN (ps := ps) (l := addN l p)
    have h2 := len_addN (l := l) (p := p)
    rw [List.length_cons]
    omega
theorem upN_snoc {l ps : List Nat} {p : Nat} : upN l (ps ++ [p]) = addN (upN l ps) p := by
  unfold upN
  rw [List.foldl_append]
  rfl
/-- what a row shows beside the things of m -/
def besC (m r : Nat) : Nat := r &&& both (511 ^^^ m)
def GrpR (codes : List Nat) (m : Nat) (gs : List (Nat × List Nat)) : Prop :=
  (∀ e ∈ gs, e.2.length ≤ codes.length ∧ e.1 < 512 ∧ ∀ p ∈ e.2, maskN p = e.1 ∧ ∃ r ∈ codes, p = besC m r) ∧ (∀ r ∈ codes, ∃ e ∈ gs, e.1 = maskN (besC m r) ∧ besC m r ∈ e.2)
theorem mask_lt (c : Nat) : maskN c < 512 := Nat.lt_of_le_of_lt Nat.and_le_right (by decide)
/-- the groups of some numbers by their masks -/
structure GI (l : List Nat) (es : List Ent) : Prop where
  a : ∀ e ∈ es, ∀ p ∈ e.2.2, maskN p = e.1 ∧ p ∈ l
  b : ∀ p ∈ l, ∃ e ∈ es, e.1 = maskN p ∧ p ∈ e.2.2
  c : ∀ e ∈ es, e.2.2.length ≤ l.length
  d : es.length ≤ l.length
  f : ∀ e ∈ es, e.1 < 512
theorem GI.step {l : List Nat} {es l1 r : List Ent} {p : Addr} {x : Nat} {cs : List Nat} (h : GI l es) (hor : l1 ++ (maskN x, p, cs) :: r = es ∨ (l1 = es ∧ r = [] ∧ cs = [] ∧ maskN x ∉ es.map (·.1))) : GI (l ++ [x]) (l1 ++ (maskN x, p, cs ++ [x]) :: r) := by
  have inn : ∀ e ∈ l1 ++ (maskN x, p, cs ++ [x]) :: r, e ∈ es ∨ (e = (maskN x, p, cs ++ [x]) ∧ ((maskN x, p, cs) ∈ es ∨ cs = [])) := by
    intro e he
    rcases hor with z | ⟨z1, z2, z3, _⟩
    · rcases List.mem_append.mp he with y | y
      · exact .inl (by rw [← z]; exact List.mem_append_left _ y)
      · rcases List.mem_cons.mp y with y | y
        · exact .inr ⟨y, .inl (by rw [← z]; exact List.mem_append_right _ List.mem_cons_self)⟩
        · exact .inl (by rw [← z]; exact List.mem_append_right _ (List.mem_cons_of_mem _ y))
    · subst z1 z2
      rcases List.mem_append.mp he with y | y
      · exact .inl y
      · rw [List.mem_singleton] at y
        exact .inr ⟨y, .inr z3⟩
  have out : ∀ e ∈ es, e ∈ l1 ++ (maskN x, p, cs ++ [x]) :: r ∨ e = (maskN x, p, cs) := by
    intro e he
    rcases hor with z | ⟨z1, z2, z3, _⟩
    · rw [← z] at he
      rcases List.mem_append.mp he with y | y
      · exact .inl (List.mem_append_left _ y)
      · rcases List.mem_cons.mp y with y | y
        · exact .inr y
        · exact .inl (List.mem_append_right _ (List.mem_cons_of_mem _ y))
    · subst z1
      exact .inl (List.mem_append_left _ he)
  refine ⟨fun e he q hq => ?_, fun q hq => ?_, fun e he => ?_, ?_, fun e he => (inn e he).elim (fun y => h.f e y) fun y => by rw [y.1]; exact mask_lt x⟩
  · rcases inn e he with y | ⟨y, z⟩
    · have := h.a e y q hq
      exact ⟨this.1, List.mem_append_left _ this.2⟩
    · subst y
      rcases List.mem_append.mp (show q ∈ cs ++ [x] from hq) with w | w
      · rcases z with z | z
        · have := h.a _ z q w
          exact ⟨this.1, List.mem_append_left _ this.2⟩
        · rw [z] at w
          cases w
      · rw [List.mem_singleton.mp w]
        exact ⟨rfl, List.mem_append_right _ List.mem_cons_self⟩
  · rcases List.mem_append.mp hq with w | w
    · obtain ⟨e, he, e1, e2⟩ := h.b q w
      rcases out e he with y | y
      · exact ⟨e, y, e1, e2⟩
      · subst y
        exact ⟨(maskN x, p, cs ++ [x]), List.mem_append_right _ List.mem_cons_self, e1, List.mem_append_left _ e2⟩
    · rw [List.mem_singleton.mp w]
      exact ⟨(maskN x, p, cs ++ [x]), List.mem_append_right _ List.mem_cons_self, rfl, List.mem_append_right _ List.mem_cons_self⟩
  · rw [List.length_append]
    rcases inn e he with y | ⟨y, z⟩
    · have := h.c e y
      show e.2.2.length ≤ l.length + 1
      omega
    · subst y
      show (cs ++ [x]).length ≤ l.length + 1
      rw [List.length_append]
      rcases z with z | z
      · have := h.c _ z
        show cs.length + 1 ≤ l.length + 1
        have h3 : cs.length ≤ l.length := this
        omega
      · rw [z]
        show 0 + 1 ≤ _
        omega
  · have := h.d
    have hlx : (l ++ [x]).length = l.length + 1 := by simp
    rw [hlx]
    rcases hor with z | ⟨z1, z2, z3, _⟩
    · have e1 : (l1 ++ (maskN x, p, cs ++ [x]) :: r).length = es.length := by rw [← z]; simp
      omega
    · subst z1 z2
      rw [List.length_append]
      show l1.length + 1 ≤ _
      omega
section
variable {P : Program} {w : World} {K : PySem.W.Frag} {mg : Str → Option Value} {base : Heap}
theorem xor_nn (m n : Nat) : Builtin.bitXor (m : Int) (n : Int) = ((m ^^^ n : Nat) : Int) := by
  have h : ((m ||| n : Nat) : Int) - ((m &&& n : Nat) : Int) = ((m ^^^ n : Nat) : Int) := by
    have e : (m ^^^ n) + (m &&& n) = m ||| n := by
      have := bitOr_and ((m ^^^ n : Nat) : Int) ((m &&& n : Nat) : Int)
      rw [or_nn, and_nn] at this
      have z : (m ^^^ n) &&& (m &&& n) = 0 := Nat.eq_of_testBit_eq fun i => by
        rw [Nat.testBit_and, Nat.testBit_xor, Nat.testBit_and, Nat.zero_testBit]
        cases m.testBit i <;> cases n.testBit i <;> rfl
      have y : (m ^^^ n) ||| (m &&& n) = m ||| n := Nat.eq_of_testBit_eq fun i => by
        rw [Nat.testBit_or, Nat.testBit_xor, Nat.testBit_and, Nat.testBit_or]
        cases m.testBit i <;> cases n.testBit i <;> rfl
      rw [z, y] at this
      omega
    omega
  show Builtin.bitOr m n - Builtin.bitAnd m n = _
  rw [or_nn, and_nn]
  exact h
theorem xor_small {m : Nat} (h : m < 512) : 511 ^^^ m < 2 ^ 20 := Nat.lt_of_lt_of_le (Nat.xor_lt_two_pow (n := 9) (by decide) (by omega)) (by decide)
abbrev IvP (Γ : Own) (Δ0 : Gh) (codes : List Nat) (m : Nat) (d g : Addr) (ks : List Nat) : Nat → Own → Z.Env → Prop := fun i Γ' ρ' => ∃ (es : List Ent) (a b : Option Cell), Γ' = OwnN g obL es Γ ∧ NestP Δ0 Γ g es ∧ GI (ks.take i) es ∧ ρ' = [some ⟨zN codes⟩, some ⟨(m : Int)⟩, some ⟨((both (511 ^^^ m) : Nat) : Int)⟩, some ⟨(⟨d, .dK (kvB ks)⟩ : Fz)⟩, some ⟨(⟨g⟩ : Z.Loc)⟩, a, b]
theorem wp_newD {Δ0 : Gh} {H0 : Hp} {Γ : Own} {F : List (V × Cell)} {ρ : Z.Env} {tz : TS} {D : Ends} {i : Nat} (hi : i < ρ.length) (k : ∀ p, OwnP Δ0 Γ p → Wp K Δ0 H0 ((p, ObIs (.dK [])) :: Γ) F (ρ.set i (some ⟨(⟨p⟩ : Z.Loc)⟩)) tz D) : Wp K Δ0 H0 Γ F ρ (tSeq (tAsg tDNewK (gName i)) tz) D := fun σ H st => fun p hp => by
  obtain ⟨op, st1⟩ := stt_new (o := .dK []) hp st
  obtain ⟨Δ, s, hh, e, f, r⟩ := st1
  exact k p op _ _ ⟨Δ, s, hh, e.set (c := ⟨(⟨p⟩ : Z.Loc)⟩) hi rfl, f, r⟩
def F__parts_beside : Own → List Cell → (List (Nat × List Nat) → Prop) → Prop := fun _ cs R => ∃ (codes : List Nat) (m : Nat), cs = [⟨zN codes⟩, ⟨(m : Int)⟩] ∧ m < 512 ∧ codes.length ≤ 40000 ∧ R = GrpR codes m
theorem sc__parts_beside : FnScope ["codes", "mask", "free", "parts", "groups", "part", "code"] ["codes", "mask"] (defScope s__parts_beside) := ⟨rfl, rfl, rfl, by decide +kernel, rfl, by decide +kernel, by decide +kernel⟩
theorem ok__parts_beside (T : Txt K mg) {f : Addr} {fd : FuncData} (D : Df K mg "_parts_beside" s__parts_beside ["codes", "mask"] f fd) {f_both_signs : Addr} {fd_both_signs : FuncData} (D_both_signs : Df K mg "both_signs" s_both_signs ["mask"] f_both_signs fd_both_signs) (G_both_signs : FnOk P w K mg base CX0 2 f_both_signs fd_both_signs ["mask"] (spD K F_both_signs)) {f_mask_of : Addr} {fd_mask_of : FuncData} (D_mask_of : Df K mg "mask_of" s_mask_of ["code"] f_mask_of fd_mask_of) (G_mask_of : FnOk P w K mg base CX0 2 f_mask_of fd_mask_of ["code"] (spD K F_mask_of)) : FnOk P w K mg base CX0 3 f fd ["codes", "mask"] (spN K F__parts_beside) := by
  obtain ⟨_, hI_SHIFT⟩ := T.i_SHIFT
  obtain ⟨_, hI_LOW⟩ := T.i_LOW
  obtain ⟨_, hI_MAX_THINGS⟩ := T.i_MAX_THINGS
  obtain ⟨_, hI_MAX_LAYINGS⟩ := T.i_MAX_LAYINGS
  obtain ⟨_, hI_MAX_UPRIGHT⟩ := T.i_MAX_UPRIGHT
  refine def_okN D.F sc__parts_beside (fun Γ cs R g => ?len) (fun cdv A outer s H E hr Γ cs R g => ?_)
  case len => obtain ⟨c, m, rfl, _⟩ := g; rfl
  obtain ⟨codes, m, rfl, hm, hz, rfl⟩ := g
  refine ⟨_, (pss_cons (ps_set (i := 2) sc__parts_beside.nd rfl (by first | exact .inl rfl | exact .inr rfl) (pe_call G_both_signs (hr.mono (by decide)) (by rfl) D_both_signs.g D_both_signs.kp D_both_signs.b .nil pass0 (pa_cons (pe_op op_xor (pe_glob (v := .int 511) rfl hI_LOW ⟨_, rfl⟩) (pv 1)) pa_nil)))
      (pss_cons (ps_setDc (i := 3) (own := [("code", 6)]) (g := (gName 6)) (tt := tYes) rfl sc__parts_beside.nd rfl rfl (sw_dict rfl rfl rfl (by decide +kernel)) (pi_listK (pv 0)) (blkOk_by (N := ["codes", "mask", "free", "parts", "groups", "part", "code"]) (sc := defScope s__parts_beside) (by decide +kernel)) (fun _ _ _ _ _ => (pg_name (i := 6) sc__parts_beside.nd rfl (by first | exact .inl rfl | exact .inr rfl))) (fun _ _ _ _ _ => pts_nil) (fun _ _ _ _ _ => (pe_op op_and (pv 6) (pv 2))) (fun _ _ _ _ _ => pe_bl))
      (pss_cons (ps_set (i := 4) sc__parts_beside.nd rfl (by first | exact .inl rfl | exact .inr rfl) pe_dnewK)
      (pss_cons (ps_for PassesOwn.never rfl (pi_keys (pe_frzs (pv 3))) (pg_name (i := 5) sc__parts_beside.nd rfl (by first | exact .inl rfl | exact .inr rfl))
        (pss_one (ps_expr (pe_bm PySem.F.plainAttrs_list PySem.F.slot_list_append PySem.F.type_list_append mt_append (pe_dsetd (pv 4) (pe_call G_mask_of (hr.mono (by decide)) (by rfl) D_mask_of.g D_mask_of.kp D_mask_of.b .nil pass0 (pa_cons (pv 5) pa_nil)) (pe_lst pa_nil) ⟨by rfl, by rfl, by rfl, by rfl⟩) (pa_cons (pv 5) pa_nil)))))
      (pss_one (ps_ret (pv 4))))))), fun Δ0 D' hf => ?_⟩
  have hl : (zN codes).length = codes.length := List.length_map ..
  refine wp_asg1 (a := ((both (511 ^^^ m) : Nat) : Int)) (ev_call1 (ea_1 (ev_is (ev_op1 ev_int (ev_var (i := 1) (a := (m : Int))) (o2_I0 (g := Builtin.bitXor))) (xor_nn 511 m)) ea_nil) ⟨511 ^^^ m, rfl, xor_small hm, rfl⟩) (ltr rfl) ?_
  have um : ∀ i, i < codes.length → upN [] ((codes.take (i + 1)).map (besC m)) = addN (upN [] ((codes.take i).map (besC m))) (besC m (codes.getD i 0)) := fun i hi => by
    rw [List.take_add_one, getD_of (d := 0) hi, List.map_append]
    exact upN_snoc
  have ln : ∀ i, (upN [] ((codes.take i).map (besC m))).length ≤ 40000 := fun i => by
    have h1 := len_upN (ps := (codes.take i).map (besC m)) (l := [])
    rw [List.length_map] at h1
    have h2 : (codes.take i).length ≤ codes.length := List.length_take_le' i codes
    simp only [List.length_nil] at h1
    omega
  refine wp_asgN (I := ObIs (.dK (kvB (upN [] (codes.map (besC m)))))) ?_ (ltr rfl) fun d o io od => ?_
  · have h := en_dcA (K := K) (Γ := Γ) (κ := Int) (ν := Bool) (tt := tYes) (tv := tC (.bl true)) (tk := tOp (rI0 fun i j => .int (Builtin.bitAnd i j)) (tVar 6) (tVar 2)) (fun i => kvB (upN [] ((codes.take i).map (besC m)))) rfl (n := (zN codes).length) (fun i hi => by
      unfold kvB
      rw [List.length_map]
      exact Nat.le_trans (ln i) (by decide)) (src_list (xs := zN codes) (x0 := fun i => ((codes.getD i 0 : Nat) : Int)) (ev_var (ρ := [some ⟨zN codes⟩, some ⟨(m : Int)⟩, some ⟨((both (511 ^^^ m) : Nat) : Int)⟩, none, none, none, none]) (i := 0)) (fun i hi => by
      rw [hl] at hi
      unfold zN
      rw [List.getElem?_map, getD_of (d := 0) hi]
      rfl) (j := 6) (ltr rfl)) (vs := [6]) (by decide) fun i hi => ⟨true, et_yes, fun z => (by cases z), fun _ => ⟨((besC m (codes.getD i 0) : Nat) : Int), true, .inl ((besC m (codes.getD i 0) : Nat) : Int), rfl, ev_is (ev_op1 (ev_var (i := 6) (a := ((codes.getD i 0 : Nat) : Int))) (ev_var (i := 2) (a := ((both (511 ^^^ m) : Nat) : Int))) (o2_I0 (g := Builtin.bitAnd))) (and_nn _ _), ev_bl, ?_⟩⟩
    · rw [hl, List.take_length] at h
      exact h
    · rw [hl] at hi
      show kvB (upN [] ((codes.take (i + 1)).map (besC m))) = putK (kvB _) _ (.bl true)
      rw [um i hi, putK_kvB]
  have eo : o = HO.dK (kvB (upN [] (codes.map (besC m)))) := io
  subst eo
  refine wp_newD (ltr rfl) fun g og => ?_
  have og0 : OwnP Δ0 Γ g := ⟨og.n0, fun q hq => og.ne q (List.mem_cons_of_mem _ hq)⟩
  have dg : d ≠ g := og.ne _ List.mem_cons_self
  refine wp_mem (Γ' := (d, ObIs (.dK (kvB (upN [] (codes.map (besC m)))))) :: (OwnN g obL [] Γ)) (fun q hq => ?_) ?_
  · rcases List.mem_cons.mp hq with z | z
    · rw [z]; exact List.mem_cons_of_mem _ List.mem_cons_self
    · rcases List.mem_cons.mp z with z | z
      · rw [z]; exact List.mem_cons_self
      · exact List.mem_cons_of_mem _ (List.mem_cons_of_mem _ z)
  have odg : OwnP Δ0 (OwnN g obL [] Γ) d := ⟨od.n0, fun q hq => by
    rcases List.mem_cons.mp hq with z | z
    · rw [z]; exact fun w => dg w.symm
    · exact od.ne q z⟩
  refine wp_forFz (i := 3) odg rfl ?_
  have kl : (kvB (upN [] (codes.map (besC m)))).length = (upN [] (codes.map (besC m))).length := List.length_map ..
  have lf : (upN [] (codes.map (besC m))).length ≤ 40000 := by
    have := ln codes.length
    rw [List.take_length] at this
    exact this
  have S := src_keysZ (K := K) (Γ := OwnN g obL [] Γ) (j := 5) (κ := Int) (x0 := fun i => (((upN [] (codes.map (besC m))).getD i 0 : Nat) : Int)) (ev_var (ρ := [some ⟨zN codes⟩, some ⟨(m : Int)⟩, some ⟨((both (511 ^^^ m) : Nat) : Int)⟩, some ⟨(⟨d, .dK (kvB (upN [] (codes.map (besC m))))⟩ : Fz)⟩, some ⟨(⟨g⟩ : Z.Loc)⟩, none, none]) (i := 3)) (fun i hi => by
    rw [kl] at hi
    refine ⟨.inl (((upN [] (codes.map (besC m))).getD i 0 : Nat) : Int), .bl true, ?_, rfl⟩
    unfold kvB
    rw [List.getElem?_map, getD_of (d := 0) hi]
    rfl) (ltr rfl)
  rw [kl] at S
  refine wp_for (IvP Γ Δ0 codes m d g (upN [] (codes.map (besC m)))) S ⟨[], none, none, rfl, ⟨og0, fun e he => (nomatch he), List.nodup_nil, List.nodup_nil⟩, ⟨fun e he => (nomatch he), fun p hp => (nomatch hp), fun e he => (nomatch he), Nat.zero_le _, fun e he => (nomatch he)⟩, rfl⟩ (fun i Γ' ρ' h => by obtain ⟨es, a, b, _, _, _, rfl⟩ := h; rfl) ?_ ?_
  · rintro i Γ' ρ' F' hi ⟨es, a, b, rfl, np, gi, rfl⟩
    have lt : ((upN [] (codes.map (besC m))).take i).length ≤ 40000 := Nat.le_trans (List.length_take_le' i _) lf
    have et : (upN [] (codes.map (besC m))).take (i + 1) = (upN [] (codes.map (besC m))).take i ++ [(upN [] (codes.map (besC m))).getD i 0] := by
      rw [List.take_add_one, getD_of (d := 0) hi]
      rfl
    refine wp_sdApp (k := maskN ((upN [] (codes.map (besC m))).getD i 0)) (x := (upN [] (codes.map (besC m))).getD i 0) np (Nat.lt_of_le_of_lt (Nat.le_trans gi.d lt) (by decide)) (fun e he => Nat.lt_of_le_of_lt (Nat.le_trans (gi.c e he) lt) (by decide)) (ev_var (i := 4)) (ev_call1 (ea_1 (ev_var (i := 5) (a := (((upN [] (codes.map (besC m))).getD i 0 : Nat) : Int))) ea_nil) ⟨_, rfl, rfl⟩) (fun es => ev_var (i := 5)) fun l r p cs np' hor => ?_
    exact wp_turn (Iv := IvP Γ Δ0 codes m d g (upN [] (codes.map (besC m)))) ⟨_, _, _, rfl, np', by rw [et]; exact gi.step hor, rfl⟩ rfl
  · rintro Γ' ρ' F' ⟨es, a, b, rfl, np, gi, rfl⟩
    rw [List.take_length] at gi
    refine wp_retG np hf ⟨fun e he => ?_, fun r hr => ?_⟩ (ev_var (i := 4))
    · obtain ⟨e0, he0, rfl⟩ := List.mem_map.mp he
      refine ⟨?_, gi.f e0 he0, fun p hp => ?_⟩
      · have h1 := gi.c e0 he0
        have h2 := len_upN (ps := codes.map (besC m)) (l := [])
        rw [List.length_map] at h2
        simp only [List.length_nil] at h2
        show e0.2.2.length ≤ _
        omega
      · have h1 := gi.a e0 he0 p hp
        refine ⟨h1.1, ?_⟩
        rcases mem_upN.mp h1.2 with z | z
        · cases z
        · obtain ⟨r, hr, rfl⟩ := List.mem_map.mp z
          exact ⟨r, hr, rfl⟩
    · obtain ⟨e, he, e1, e2⟩ := gi.b (besC m r) (mem_upN.mpr (.inr (List.mem_map.mpr ⟨r, hr, rfl⟩)))
      exact ⟨(e.1, e.2.2), List.mem_map.mpr ⟨e, he, rfl⟩, e1, e2⟩
end
end K03

set_option Elab.async false
set_option linter.all false
set_option maxRecDepth 100000
set_option maxHeartbeats 1000000
namespace K03
open PySem PySem.Spec PyProof.Rows L2 Z K00
/-- all layings of a layer's codes over parts -/
def layL (layer parts : List Nat) : List Nat := parts.flatMap fun part => layer.map fun c => c ||| part
theorem merge_kvB : ∀ (l gs : List Nat), mergeK (kvB gs) (kvB l) = kvB (upN gs l)
  | [], gs => rfl
  | p :: l, gs => by
    show mergeK (putK (kvB gs) (.inl ((p : Nat) : Int)) (.bl true)) (kvB l) = kvB (upN (addN gs p) l)
    rw [putK_kvB, merge_kvB l]
theorem len_layL (layer : List Nat) : ∀ parts : List Nat, (layL layer parts).length = parts.length * layer.length
  | [] => by simp [layL]
  | p :: ps => by
    unfold layL
    rw [List.flatMap_cons, List.length_append, List.length_map]
    have := len_layL layer ps
    unfold layL at this
    rw [this, List.length_cons, Nat.succ_mul]
    omega
def layP (layer parts : List Nat) (i j : Nat) : List Nat := layL layer (parts.take i) ++ (layer.take j).map fun c => c ||| parts.getD i 0
theorem layP_len {layer parts : List Nat} {i j : Nat} (hi : i < parts.length) (hj : j < layer.length) : (layP layer parts i j).length ≤ parts.length * layer.length := by
  unfold layP
  rw [List.length_append, len_layL, List.length_map, List.length_take, List.length_take, Nat.min_eq_left (Nat.le_of_lt hi), Nat.min_eq_left (Nat.le_of_lt hj)]
  have : (i + 1) * layer.length ≤ parts.length * layer.length := Nat.mul_le_mul_right _ hi
  rw [Nat.succ_mul] at this
  omega
theorem layP_next {layer parts : List Nat} {i : Nat} (hi : i < parts.length) : layP layer parts (i + 1) 0 = layP layer parts i layer.length := by
  unfold layP layL
  rw [List.take_add_one, getD_of (d := 0) hi, List.flatMap_append, List.take_length]
  simp
theorem layP_step {layer parts : List Nat} {i j : Nat} (hj : j < layer.length) : layP layer parts i (j + 1) = layP layer parts i j ++ [layer.getD j 0 ||| parts.getD i 0] := by
  unfold layP
  rw [List.take_add_one, getD_of (d := 0) hj, List.map_append, ← List.append_assoc]
  rfl
theorem layP_end {layer parts : List Nat} : layP layer parts parts.length 0 = layL layer parts := by
  unfold layP
  rw [List.take_length]
  simp
def fillN (m : Nat) (gs layer parts : List Nat) : List Nat := if gs.length < 2 ^ Zk.pc m then upN gs (upN [] (layL layer parts)) else gs
theorem kvB_len {l : List Nat} : (kvB l).length = l.length := List.length_map ..
theorem zN_len {l : List Nat} : (zN l).length = l.length := List.length_map ..
theorem zN_get {l : List Nat} {i : Nat} (h : i < (zN l).length) : (zN l)[i]? = some ((l.getD i 0 : Nat) : Int) := by
  rw [zN_len] at h
  unfold zN
  rw [List.getElem?_map, getD_of (d := 0) h]
  rfl
section
variable {P : Program} {w : World} {K : PySem.W.Frag} {mg : Str → Option Value} {base : Heap}
def F__fill : Own → List Cell → Addr → HO → HO → (Int → Prop) → Prop := fun _ cs p o o' R => ∃ (m : Nat) (gs layer parts : List Nat), cs = [⟨(⟨p⟩ : Z.Loc)⟩, ⟨(m : Int)⟩, ⟨zN layer⟩, ⟨zN parts⟩] ∧ m < 1048576 ∧ Zk.pc m ≤ 100 ∧ gs.length ≤ 40000 ∧ parts.length * layer.length ≤ 40000 ∧
  o = .dK (kvB gs) ∧ o' = .dK (kvB (fillN m gs layer parts)) ∧ R = Is ((fillN m gs layer parts).length - gs.length : Int)
theorem sc__fill : FnScope ["goal", "mask", "layer", "parts", "before", "part", "code"] ["goal", "mask", "layer", "parts"] (defScope s__fill) := ⟨rfl, rfl, rfl, by decide +kernel, rfl, by decide +kernel, by decide +kernel⟩
theorem ok__fill (T : Txt K mg) {f : Addr} {fd : FuncData} (D : Df K mg "_fill" s__fill ["goal", "mask", "layer", "parts"] f fd) {f_size_of : Addr} {fd_size_of : FuncData} (D_size_of : Df K mg "size_of" s_size_of ["mask"] f_size_of fd_size_of) (G_size_of : FnOk P w K mg base CX0 2 f_size_of fd_size_of ["mask"] (spD K F_size_of)) : FnOk P w K mg base CX0 3 f fd ["goal", "mask", "layer", "parts"] (spU K F__fill) := by
  obtain ⟨_, hI_SHIFT⟩ := T.i_SHIFT
  obtain ⟨_, hI_LOW⟩ := T.i_LOW
  obtain ⟨_, hI_MAX_THINGS⟩ := T.i_MAX_THINGS
  obtain ⟨_, hI_MAX_LAYINGS⟩ := T.i_MAX_LAYINGS
  obtain ⟨_, hI_MAX_UPRIGHT⟩ := T.i_MAX_UPRIGHT
  refine def_okU D.F sc__fill (fun Γ cs p o o' R g => ?len) (fun cdv A outer s H E hr Γ cs p o o' R g => ?_)
  case len => obtain ⟨m, gs, layer, parts, rfl, _⟩ := g; rfl
  obtain ⟨m, gs, layer, parts, rfl, hm, hpc, hg, hprod, rfl, rfl, rfl⟩ := g
  refine ⟨_, (pss_cons (ps_set (i := 4) sc__fill.nd rfl (by first | exact .inl rfl | exact .inr rfl) (pe_callB call_lenD (by rfl) T.z_len (by decide +kernel) (pa_cons (pv 0) pa_nil)))
      (pss_cons (ps_if (pt_cmpR op_lt (pv 4) (pe_op op_shl pe_int (pe_call G_size_of (hr.mono (by decide)) (by rfl) D_size_of.g D_size_of.kp D_size_of.b .nil pass0 (pa_cons (pv 1) pa_nil))) (nomark _)) (pss_one (ps_expr (pe_bm PySem.F.plainAttrs_dict PySem.F.slot_dict_update PySem.F.type_dict_update mt_upd (pv 0) (pa_cons (Zd.pe_dc2 (own := [("part", 5), ("code", 6)]) (vs1 := [6]) (g := (gName 5)) (g1 := (gName 6)) (tt := tYes) (tt1 := tYes) rfl sc__fill.nd (pi_listK (pv 3)) (blkOk_by (N := ["goal", "mask", "layer", "parts", "before", "part", "code"]) (sc := defScope s__fill) (by decide +kernel)) (by decide) (fun _ _ _ _ _ => (pg_name (i := 5) sc__fill.nd rfl (by first | exact .inl rfl | exact .inr rfl))) (fun _ _ _ _ _ => pts_nil) (fun _ _ _ _ _ => (pi_listK (pv 2))) (fun _ _ _ _ _ => (pg_name (i := 6) sc__fill.nd rfl (by first | exact .inl rfl | exact .inr rfl))) (fun _ _ _ _ _ => pts_nil) (fun _ _ _ _ _ => (pe_op op_or (pv 6) (pv 5))) (fun _ _ _ _ _ => pe_bl)) pa_nil)))) pss_nil)
      (pss_one (ps_ret (pe_op op_sub (pe_callB call_lenD (by rfl) T.z_len (by decide +kernel) (pa_cons (pv 0) pa_nil)) (pv 4)))))), fun Δ0 H0 D' hf ow => ?_⟩
  refine wp_asg1 (a := (gs.length : Int)) (ev_is (ev_lenD List.mem_cons_self (ev_var (i := 0))) (by rw [kvB_len])) (ltr rfl) ?_
  have fin : ∀ {F : List (V × Cell)}, Wp K Δ0 H0 ((p, ObIs (.dK (kvB (fillN m gs layer parts)))) :: Γ) F [some ⟨(⟨p⟩ : Z.Loc)⟩, some ⟨(m : Int)⟩, some ⟨zN layer⟩, some ⟨zN parts⟩, some ⟨(gs.length : Int)⟩, none, none] (tRet (tOp (rI0 fun i j => .int (i - j)) (tCB (fun xs H Q => ∃ a kvs, xs = [V.ref a] ∧ H a = some (.dK kvs) ∧ Q (.int kvs.length) H) (tCons (tVar 0) tNil)) (tVar 4))) D' := fun {F} => by
    refine wp_retU hf rfl (ev_is (ev_op1 (ev_lenD List.mem_cons_self (ev_var (i := 0))) (ev_var (i := 4) (a := (gs.length : Int))) (o2_I0 (g := fun i j => i - j))) ?_)
    rw [kvB_len]
  have hsz : Ev K ((p, ObIs (.dK (kvB gs))) :: Γ) (tCall (spD K F_size_of) [] E (tCons (tVar 1) tNil)) [some ⟨(⟨p⟩ : Z.Loc)⟩, some ⟨(m : Int)⟩, some ⟨zN layer⟩, some ⟨zN parts⟩, some ⟨(gs.length : Int)⟩, none, none] (Is ((Zk.pc m : Nat) : Int)) := ev_call1 (ea_1 (ev_var (i := 1) (a := (m : Int))) ea_nil) ⟨m, rfl, hm, rfl⟩
  refine wp_when (b := decide (gs.length < 2 ^ Zk.pc m)) (et_is (et_test (ev_op1 (ev_var (i := 4) (a := (gs.length : Int))) (shl_one (k := Zk.pc m) hpc hsz) (o2_B0 (g := fun i j => decide (i < j))))) ?_) (fun h1 => ?_) (fun h1 => ?_)
  · rw [decide_eq_decide]
    omega
  · have lt := of_decide_eq_true h1
    have ef : fillN m gs layer parts = upN gs (upN [] (layL layer parts)) := if_pos lt
    have hd := en_dc2 (K := K) (Γ := (p, ObIs (.dK (kvB gs))) :: Γ) (κ := Int) (ν := Bool) (vs := [5, 6]) (vs1 := [6]) (tk := tOp (rI0 fun i j => .int (Builtin.bitOr i j)) (tVar 6) (tVar 5)) (tv := tC (.bl true)) (n := (zN parts).length) (m := fun _ => (zN layer).length) (fun i j => kvB (upN [] (layP layer parts i j))) rfl (fun i j hi hj => ?_)
      (src_list (xs := zN parts) (x0 := fun i => ((parts.getD i 0 : Nat) : Int)) (ev_var (ρ := [some ⟨(⟨p⟩ : Z.Loc)⟩, some ⟨(m : Int)⟩, some ⟨zN layer⟩, some ⟨zN parts⟩, some ⟨(gs.length : Int)⟩, none, none]) (i := 3)) (fun i hi => zN_get hi) (j := 5) (ltr rfl)) (by decide)
      (fun i hi => src_list (xs := zN layer) (x0 := fun j => ((layer.getD j 0 : Nat) : Int)) (ev_var (i := 2)) (fun j hj => zN_get hj) (j := 6) (ltr rfl)) (by decide) (fun i j hi hj => ?_) (fun i hi => ?_)
    · rw [zN_len, layP_end] at hd
      refine wp_updD ow (ev_var (i := 0)) hd ?_ ?_
      · rw [kvB_len, kvB_len]
        have h2 := len_upN (ps := layL layer parts) (l := [])
        rw [len_layL] at h2
        simp only [List.length_nil] at h2
        omega
      · rw [merge_kvB, ← ef]
        exact fun σ H st => fin σ H st
    · rw [zN_len] at hi hj
      rw [kvB_len]
      have h2 := len_upN (ps := layP layer parts i j) (l := [])
      have h3 := layP_len hi hj
      simp only [List.length_nil] at h2
      omega
    · rw [zN_len] at hi hj
      refine ⟨((layer.getD j 0 ||| parts.getD i 0 : Nat) : Int), true, .inl ((layer.getD j 0 ||| parts.getD i 0 : Nat) : Int), rfl, ev_is (ev_op1 (ev_var (i := 6) (a := ((layer.getD j 0 : Nat) : Int))) (ev_var (i := 5) (a := ((parts.getD i 0 : Nat) : Int))) (o2_I0 (g := Builtin.bitOr))) (or_nn _ _), ev_bl, ?_⟩
      show kvB (upN [] (layP layer parts i (j + 1))) = putK (kvB _) _ (.bl true)
      rw [layP_step hj, upN_snoc, putK_kvB]
    · rw [zN_len] at hi
      show kvB (upN [] (layP layer parts (i + 1) 0)) = kvB (upN [] (layP layer parts i (zN layer).length))
      rw [layP_next hi, zN_len]
  · have ef : fillN m gs layer parts = gs := if_neg (of_decide_eq_false h1)
    rw [← ef]
    rw [ef]
    have := fin (F := [])
    rw [ef] at this
    exact this
end
end K03

set_option Elab.async false
set_option linter.all false
set_option maxRecDepth 100000
set_option maxHeartbeats 1000000
namespace K03
open PySem PySem.Spec PyProof.Rows L2 Z K00
def lay (c r : Nat) : Nat := c ||| besC (maskN c) r
inductive Lay (cs : List Nat) : Nat → Prop
  | z : Lay cs 0
  | s {c r : Nat} : Lay cs c → r ∈ cs → Lay cs (lay c r)
theorem mask_bit (c j : Nat) : (maskN c).testBit j = ((c.testBit (j + 9) || c.testBit j) && decide (j < 9)) := by
  unfold maskN
  rw [Nat.testBit_and, Nat.testBit_or, Nat.testBit_div_two_pow, show (511 : Nat) = 2 ^ 9 - 1 from rfl, Nat.testBit_two_pow_sub_one]
theorem mask_or (c d : Nat) : maskN (c ||| d) = maskN c ||| maskN d := Nat.eq_of_testBit_eq fun j => by
  rw [Nat.testBit_or, mask_bit, mask_bit, mask_bit, Nat.testBit_or, Nat.testBit_or]
  cases c.testBit (j + 9) <;> cases d.testBit (j + 9) <;> cases c.testBit j <;> cases d.testBit j <;> cases decide (j < 9) <;> rfl
theorem bit_lo {x : Tx} {j : Nat} (h9 : x.s.length ≤ 9) (hj : j < 9) : (codeT x).testBit j = true ↔ j < x.s.length ∧ sg x j = 43 := by
  rw [tb_whole h9]
  refine ⟨fun z => z.elim id fun w => by omega, .inl⟩
theorem bit_hi {x : Tx} {j : Nat} (h9 : x.s.length ≤ 9) : (codeT x).testBit (j + 9) = true ↔ j < x.s.length ∧ sg x j = 45 := by
  rw [tb_whole h9, Nat.add_sub_cancel]
  refine ⟨fun z => z.elim (fun w => by omega) fun w => w.2, fun z => .inr ⟨by omega, z⟩⟩
theorem mask_code {x : Tx} {j : Nat} (h9 : x.s.length ≤ 9) : (maskN (codeT x)).testBit j = true ↔ j < x.s.length ∧ (sg x j = 43 ∨ sg x j = 45) := by
  rw [mask_bit, Bool.and_eq_true, Bool.or_eq_true, decide_eq_true_eq, bit_hi h9]
  refine ⟨fun ⟨a, b⟩ => ?_, fun ⟨a, b⟩ => ⟨?_, by omega⟩⟩
  · rw [bit_lo h9 b] at a
    rcases a with a | a
    · exact ⟨a.1, .inr a.2⟩
    · exact ⟨a.1, .inl a.2⟩
  · rw [bit_lo h9 (by omega)]
    exact b.elim (fun z => .inr ⟨a, z⟩) fun z => .inl ⟨a, z⟩
theorem both_lo {m j : Nat} (hj : j < 9) : (both (511 ^^^ m)).testBit j = !m.testBit j := by
  unfold both
  rw [Nat.testBit_or, Nat.testBit_mul_two_pow, decide_eq_false (show ¬ (9 ≤ j) by omega), Bool.false_and, Bool.or_false, Nat.testBit_xor, show (511 : Nat) = 2 ^ 9 - 1 from rfl, Nat.testBit_two_pow_sub_one, decide_eq_true hj]
  cases m.testBit j <;> rfl
theorem both_hi {m j : Nat} (hm : m < 512) (hj : j < 9) : (both (511 ^^^ m)).testBit (j + 9) = !m.testBit j := by
  have hu : 511 ^^^ m < 2 ^ 9 := Nat.xor_lt_two_pow (by decide) hm
  unfold both
  rw [Nat.testBit_or, Nat.testBit_lt_two_pow (Nat.lt_of_lt_of_le hu (Nat.pow_le_pow_right (by decide) (by omega))), Bool.false_or, Nat.testBit_mul_two_pow, decide_eq_true (show 9 ≤ j + 9 by omega), Bool.true_and, Nat.add_sub_cancel, Nat.testBit_xor, show (511 : Nat) = 2 ^ 9 - 1 from rfl, Nat.testBit_two_pow_sub_one, decide_eq_true hj]
  cases m.testBit j <;> rfl
def laidT (x y : Tx) : Tx := mk x.s.length fun i => if sg x i = 48 then sg y i else sg x i
theorem laid_len (x y : Tx) : (laidT x y).s.length = x.s.length := by rw [laidT, mk_len]
theorem laid_sg {x y : Tx} {i : Nat} (h : i < x.s.length) : sg (laidT x y) i = if sg x i = 48 then sg y i else sg x i := by
  unfold laidT
  rw [mk_sg h]
theorem sign3 {x : Tx} (h : x.s.all isSign = true) (h9 : x.s.length ≤ 9) {i : Nat} (hi : i < x.s.length) : sg x i = 43 ∨ sg x i = 45 ∨ sg x i = 48 := by
  have s := (show Row x from ⟨h, h9⟩).sg hi
  unfold isSign at s
  simp only [Bool.or_eq_true, beq_iff_eq] at s
  rcases s with (s | s) | s
  · exact .inl s
  · exact .inr (.inl s)
  · exact .inr (.inr s)
theorem lay_laid {x y : Tx} (hx : x.s.all isSign = true) (h9 : x.s.length ≤ 9) (hl : y.s.length = x.s.length) : lay (codeT x) (codeT y) = codeT (laidT x y) := by
  have hm := mask_lt (codeT x)
  refine Nat.eq_of_testBit_eq fun j => ?_
  unfold lay besC
  rw [Bool.eq_iff_iff, Nat.testBit_or, Nat.testBit_and, Bool.or_eq_true, Bool.and_eq_true]
  by_cases hj : j < 9
  · rw [both_lo hj, bit_lo h9 hj, bit_lo (by omega) hj, bit_lo (by rw [laid_len]; exact h9) hj, laid_len, Bool.not_eq_true', Bool.eq_false_iff, Ne, mask_code h9, hl]
    by_cases hn : j < x.s.length
    · rw [laid_sg hn]
      rcases sign3 hx h9 hn with s | s | s <;> simp [hn, s]
    · simp [hn]
  · obtain ⟨i, rfl⟩ : ∃ i, j = i + 9 := ⟨j - 9, by omega⟩
    rw [bit_hi h9, bit_hi (by omega), bit_hi (by rw [laid_len]; exact h9), laid_len, hl]
    by_cases hn : i < x.s.length
    · rw [both_hi hm (by omega), Bool.not_eq_true', Bool.eq_false_iff, Ne, mask_code h9, laid_sg hn]
      rcases sign3 hx h9 hn with s | s | s <;> simp [hn, s]
    · simp [hn]
/-! numbers, counted -/
theorem nodup_len : ∀ {G P : List Nat}, G.Nodup → (∀ x ∈ G, x ∈ P) → G.length ≤ P.length
  | [], P, _, _ => Nat.zero_le _
  | g :: G, P, nd, h => by
    obtain ⟨h1, h2⟩ := List.nodup_cons.mp nd
    have hg := h g List.mem_cons_self
    have := nodup_len (P := P.erase g) h2 fun x hx => (List.mem_erase_of_ne (fun z : x = g => h1 (z ▸ hx))).mpr (h x (List.mem_cons_of_mem _ hx))
    rw [List.length_erase_of_mem hg] at this
    have := List.length_pos_of_mem hg
    rw [List.length_cons]
    omega
theorem nodup_full {G P : List Nat} (nd : G.Nodup) (h : ∀ x ∈ G, x ∈ P) (hl : P.length ≤ G.length) : ∀ x ∈ P, x ∈ G := fun x hx => by
  by_cases c : x ∈ G
  · exact c
  · have := nodup_len (P := P.erase x) nd fun y hy => (List.mem_erase_of_ne (fun z : y = x => c (z ▸ hy))).mpr (h y hy)
    rw [List.length_erase_of_mem hx] at this
    have := List.length_pos_of_mem hx
    omega
def U (n : Nat) : List Nat := (rowsOf n).map codeT
def pats (m : Nat) : List Nat := ((List.range 32).filter fun s => s &&& m == s).map fun s => s ||| (m ^^^ s) * 512
def pcF : Nat → Nat → Nat
  | 0, _ => 0
  | k + 1, n => n % 2 + pcF k (n / 2)
theorem pc_F : ∀ (k n : Nat), n < 2 ^ k → Zk.pc n = pcF k n
  | 0, n, h => by
    have : n = 0 := by rw [Nat.pow_zero] at h; omega
    subst this
    exact Zk.pc_zero
  | k + 1, n, h => by
    by_cases z : n = 0
    · subst z
      rw [Zk.pc_zero]
      show 0 = 0 + pcF k 0
      rw [← pc_F k 0 (Nat.two_pow_pos k), Zk.pc_zero]
    · rw [Zk.pc, dif_neg z, pc_F k (n / 2) (by rw [Nat.pow_succ] at h; omega)]
      rfl
theorem pats_len {m : Nat} (h : m < 32) : (pats m).length = 2 ^ Zk.pc m := by
  have key : ∀ m, m < 32 → (pats m).length = 2 ^ pcF 5 m := by decide +kernel
  rw [pc_F 5 m h, key m h]
theorem pats_le (m : Nat) : (pats m).length ≤ 32 := by
  unfold pats
  rw [List.length_map]
  exact Nat.le_trans (List.length_filter_le _ _) (by decide)
theorem U_facts {n : Nat} (h : n ≤ 5) {c : Nat} (hc : c ∈ U n) : maskN c < 32 ∧ c ∈ pats (maskN c) := by
  have key : ∀ n, n < 6 → ∀ c ∈ U n, maskN c < 32 ∧ c ∈ pats (maskN c) := by decide +kernel
  exact key n (by omega) c hc
theorem U_len {n : Nat} (h : n ≤ 5) : (U n).length ≤ 243 := by
  unfold U
  rw [List.length_map, rows_len]
  exact Nat.le_trans (Nat.pow_le_pow_right (by decide) h) (by decide)
theorem U_zero {n : Nat} (h : n ≤ 5) : 0 ∈ U n := by
  have key : ∀ n, n < 6 → 0 ∈ U n := by decide +kernel
  exact key n (by omega)
theorem laid_mem {n : Nat} {x y : Tx} (h9 : n ≤ 9) (hx : x ∈ rowsOf n) (hy : y ∈ rowsOf n) : laidT x y ∈ rowsOf n := by
  have lx := rows_sz n x hx
  have ly := rows_sz n y hy
  refine rows_all n _ (by rw [laid_len, lx]) ?_
  have rx : Row x := ⟨rows_sign n x hx, by omega⟩
  have ry : Row y := ⟨rows_sign n y hy, by omega⟩
  unfold laidT
  refine (row_mk (by omega) fun i hi => ?_).all
  split
  · exact ry.sg (by omega)
  · exact rx.sg hi
theorem U_lay {n c r : Nat} (h : n ≤ 5) (hc : c ∈ U n) (hr : r ∈ U n) : lay c r ∈ U n := by
  obtain ⟨x, hx, rfl⟩ := List.mem_map.mp hc
  obtain ⟨y, hy, rfl⟩ := List.mem_map.mp hr
  have lx := rows_sz n x hx
  have ly := rows_sz n y hy
  rw [lay_laid (rows_sign n x hx) (by omega) (by omega)]
  exact List.mem_map.mpr ⟨_, laid_mem (by omega) hx hy, rfl⟩
end K03

set_option Elab.async false
set_option linter.all false
set_option maxRecDepth 100000
set_option maxHeartbeats 1000000
namespace K03
open PySem PySem.Spec PyProof.Rows L2 Z K00
structure LI (cs : List Nat) (n M : Nat) (es : List Ent) : Prop where
  a : ∀ e ∈ es, e.2.2.Nodup ∧ e.1 < 512 ∧ ∀ c ∈ e.2.2, Lay cs c ∧ c ∈ U n ∧ maskN c = e.1
  b : ∃ e ∈ es, 0 ∈ e.2.2
  c : ∀ e ∈ es, e.1 < M → ∀ c ∈ e.2.2, ∀ r ∈ cs, ∃ e' ∈ es, lay c r ∈ e'.2.2
  kd : (es.map (·.1)).Nodup
structure LJ (cs : List Nat) (n M : Nat) (L : List Nat) (gs : List (Nat × List Nat)) (j : Nat) (es : List Ent) : Prop where
  li : LI cs n M es
  m : ∃ e ∈ es, e.1 = M ∧ ∀ c ∈ e.2.2, c ∈ L
  d : ∀ j', j' < j → ∀ c ∈ L, ∀ p ∈ (gs.getD j' (0, [])).2, ∃ e' ∈ es, c ||| p ∈ e'.2.2
theorem bes_zero {M r : Nat} (hM : M < 512) (h : M ||| maskN (besC M r) = M) : besC M r = 0 := by
  have sub : ∀ i, (maskN (besC M r)).testBit i = true → M.testBit i = true := fun i hi => by
    rw [← h, Nat.testBit_or, hi, Bool.or_true]
  refine Nat.eq_of_testBit_eq fun j => ?_
  rw [Nat.zero_testBit, Bool.eq_false_iff]
  intro hb
  have hb2 := hb
  unfold besC at hb2
  rw [Nat.testBit_and, Bool.and_eq_true] at hb2
  by_cases hj : j < 9
  · have h1 := sub j (by rw [mask_bit, hb, Bool.or_true, decide_eq_true hj]; rfl)
    rw [both_lo hj, h1] at hb2
    exact Bool.false_ne_true hb2.2
  · obtain ⟨i, rfl⟩ : ∃ i, j = i + 9 := ⟨j - 9, by omega⟩
    by_cases hi : i < 9
    · have h1 := sub i (by rw [mask_bit, hb, Bool.true_or, decide_eq_true hi]; rfl)
      rw [both_hi hM hi, h1] at hb2
      exact Bool.false_ne_true hb2.2
    · have hu : 511 ^^^ M < 2 ^ 9 := Nat.xor_lt_two_pow (by decide) hM
      have h2 : (both (511 ^^^ M)).testBit (i + 9) = false := by
        unfold both
        rw [Nat.testBit_or, Nat.testBit_lt_two_pow (Nat.lt_of_lt_of_le hu (Nat.pow_le_pow_right (by decide) (by omega))), Bool.false_or, Nat.testBit_mul_two_pow, Nat.add_sub_cancel, Nat.testBit_lt_two_pow (Nat.lt_of_lt_of_le hu (Nat.pow_le_pow_right (by decide) (by omega))), Bool.and_false]
      rw [h2] at hb2
      exact Bool.false_ne_true hb2.2
section
variable {cs : List Nat} {n M : Nat} {L : List Nat} {gs : List (Nat × List Nat)} {es l r : List Ent} {p : Addr} {G : List Nat}
theorem uniq {e e' : Ent} : ∀ {es : List Ent}, (es.map (·.1)).Nodup → e ∈ es → e' ∈ es → e.1 = e'.1 → e = e'
  | x :: xs, nd, h, h', q => by
    rw [List.map_cons, List.nodup_cons] at nd
    rcases List.mem_cons.mp h with z | z <;> rcases List.mem_cons.mp h' with y | y
    · rw [z, y]
    · subst z
      exact absurd (List.mem_map.mpr ⟨e', y, q.symm⟩) nd.1
    · subst y
      exact absurd (List.mem_map.mpr ⟨e, z, q⟩) nd.1
    · exact uniq nd.2 z y q
/-- what _fill does, told by the layers -/
structure FillOk (cs : List Nat) (n M : Nat) (L : List Nat) (k : Nat) (G NG parts : List Nat) : Prop where
  sub : ∀ c ∈ G, c ∈ NG
  new : ∀ c ∈ L, ∀ q ∈ parts, c ||| q ∈ NG
  old : ∀ c ∈ NG, c ∈ G ∨ ∃ c0 ∈ L, ∃ q ∈ parts, c = c0 ||| q
  nd : NG.Nodup
theorem fill_ok {k : Nat} {parts : List Nat} (hn : n ≤ 5) (nd : G.Nodup) (hG : ∀ c ∈ G, c ∈ U n ∧ maskN c = k) (hP : ∀ c ∈ L, ∀ q ∈ parts, c ||| q ∈ U n ∧ maskN (c ||| q) = k) : FillOk cs n M L k G (fillN k G L parts) parts := by
  have hL : ∀ x, x ∈ layL L parts ↔ ∃ c0 ∈ L, ∃ q ∈ parts, x = c0 ||| q := fun x => by
    unfold layL
    rw [List.mem_flatMap]
    refine ⟨fun ⟨q, hq, h⟩ => ?_, fun ⟨c, hc, q, hq, e⟩ => ⟨q, hq, List.mem_map.mpr ⟨c, hc, e.symm⟩⟩⟩
    obtain ⟨c, hc, e⟩ := List.mem_map.mp h
    exact ⟨c, hc, q, hq, e.symm⟩
  by_cases lt : G.length < 2 ^ Zk.pc k
  · have e : fillN k G L parts = upN G (upN [] (layL L parts)) := if_pos lt
    have me : ∀ x, x ∈ fillN k G L parts ↔ x ∈ G ∨ x ∈ layL L parts := fun x => by
      rw [e, mem_upN, mem_upN]
      refine ⟨fun z => z.elim .inl fun z => z.elim (fun z => nomatch z) .inr, fun z => z.elim .inl fun z => .inr (.inr z)⟩
    exact ⟨fun c hc => (me c).mpr (.inl hc), fun c hc q hq => (me _).mpr (.inr ((hL _).mpr ⟨c, hc, q, hq, rfl⟩)), fun c hc => ((me c).mp hc).elim .inl fun z => .inr ((hL c).mp z), by rw [e]; exact nd_upN nd⟩
  · have e : fillN k G L parts = G := if_neg lt
    rw [e]
    refine ⟨fun c hc => hc, fun c hc q hq => ?_, fun c hc => .inl hc, nd⟩
    obtain ⟨hu, hm⟩ := hP c hc q hq
    have f := U_facts hn hu
    rw [hm] at f
    refine nodup_full nd (fun x hx => ?_) ?_ _ f.2
    · have hx' := hG x hx
      have := (U_facts hn hx'.1).2
      rw [hx'.2] at this
      exact this
    · rw [pats_len f.1]
      omega
theorem lj_step {j : Nat} {more : Nat} {parts : List Nat} (hn : n ≤ 5) (hM : M < 512) (hcs : ∀ r ∈ cs, r ∈ U n) (h : LJ cs n M L gs j es) (hL : ∀ c ∈ L, Lay cs c ∧ c ∈ U n ∧ maskN c = M) (hgs : GrpR cs M gs) (hg : gs[j]? = some (more, parts))
    (kd : ((l ++ (M ||| more, p, G) :: r).map (·.1)).Nodup) (hor : l ++ (M ||| more, p, G) :: r = es ∨ (l = es ∧ r = [] ∧ G = [] ∧ (M ||| more) ∉ es.map (·.1))) :
    LJ cs n M L gs (j + 1) (l ++ (M ||| more, p, fillN (M ||| more) G L parts) :: r) ∧ G.Nodup ∧ (∀ c ∈ G, c ∈ U n) ∧ (M ||| more) < 512 := by
  have hge := hgs.1 (more, parts) (List.mem_of_getElem? hg)
  have mE : ∀ e, e ∈ l ∨ e ∈ r → e ∈ es := fun e he => by
    rcases hor with z | ⟨z1, z2, _, _⟩
    · rw [← z]
      exact he.elim (List.mem_append_left _) fun y => List.mem_append_right _ (List.mem_cons_of_mem _ y)
    · subst z1 z2
      exact he.elim id fun y => nomatch y
  have gE : (M ||| more, p, G) ∈ es ∨ G = [] := hor.elim (fun z => .inl (by rw [← z]; exact List.mem_append_right _ List.mem_cons_self)) fun z => .inr z.2.2.1
  have gnd : G.Nodup := gE.elim (fun z => (h.li.a _ z).1) fun z => by rw [z]; exact List.nodup_nil
  have gU : ∀ c ∈ G, Lay cs c ∧ c ∈ U n ∧ maskN c = M ||| more := fun c hc => gE.elim (fun z => (h.li.a _ z).2.2 c hc) fun z => by rw [z] at hc; cases hc
  have hmore : ∀ q ∈ parts, maskN q = more ∧ ∃ r ∈ cs, q = besC M r := fun q hq => hge.2.2 q hq
  have hP : ∀ c ∈ L, ∀ q ∈ parts, Lay cs (c ||| q) ∧ c ||| q ∈ U n ∧ maskN (c ||| q) = M ||| more := fun c hc q hq => by
    obtain ⟨h1, r, hr, h2⟩ := hmore q hq
    obtain ⟨a1, a2, a3⟩ := hL c hc
    have e : c ||| q = lay c r := by unfold lay; rw [a3, h2]
    refine ⟨by rw [e]; exact .s a1 hr, by rw [e]; exact U_lay hn a2 (hcs r hr), by rw [mask_or, a3, h1]⟩
  have F := fill_ok (cs := cs) (M := M) (k := M ||| more) hn gnd (fun c hc => (gU c hc).2) fun c hc q hq => (hP c hc q hq).2
  have hk : M ||| more < 512 := Nat.or_lt_two_pow (n := 9) hM hge.2.1
  have mono : ∀ e ∈ es, ∀ c ∈ e.2.2, ∃ e' ∈ l ++ (M ||| more, p, fillN (M ||| more) G L parts) :: r, c ∈ e'.2.2 := fun e he c hc => by
    have hin : e ∈ l ∨ e ∈ r ∨ e = (M ||| more, p, G) := by
      rcases hor with z | ⟨z1, z2, _, _⟩
      · rw [← z] at he
        rcases List.mem_append.mp he with y | y
        · exact .inl y
        · rcases List.mem_cons.mp y with y | y
          · exact .inr (.inr y)
          · exact .inr (.inl y)
      · rw [z1]
        exact .inl he
    rcases hin with y | y | y
    · exact ⟨e, List.mem_append_left _ y, hc⟩
    · exact ⟨e, List.mem_append_right _ (List.mem_cons_of_mem _ y), hc⟩
    · subst y
      exact ⟨_, List.mem_append_right _ List.mem_cons_self, F.sub c hc⟩
  have split : ∀ e ∈ l ++ (M ||| more, p, fillN (M ||| more) G L parts) :: r, e ∈ es ∨ e = (M ||| more, p, fillN (M ||| more) G L parts) := fun e he => by
    rcases List.mem_append.mp he with y | y
    · exact .inl (mE e (.inl y))
    · rcases List.mem_cons.mp y with y | y
      · exact .inr y
      · exact .inl (mE e (.inr y))
  have splitlt : ∀ e ∈ l ++ (M ||| more, p, fillN (M ||| more) G L parts) :: r, e.1 < M → e ∈ es := fun e he hlt => (split e he).elim id fun y => by
    rw [y] at hlt
    have : M ≤ M ||| more := Nat.left_le_or
    have h2 : M ||| more < M := hlt
    omega
  have kd' : ((l ++ (M ||| more, p, fillN (M ||| more) G L parts) :: r).map (·.1)).Nodup := by
    rw [List.map_append] at kd ⊢
    exact kd
  have newU : ∀ c ∈ fillN (M ||| more) G L parts, Lay cs c ∧ c ∈ U n ∧ maskN c = M ||| more := fun c hc => (F.old c hc).elim (gU c) fun ⟨c0, h0, q, hq, e⟩ => by rw [e]; exact hP c0 h0 q hq
  refine ⟨⟨⟨fun e he => ?_, ?_, fun e he hlt c hc r' hr => ?_, kd'⟩, ?_, fun j' hj c hc q hq => ?_⟩, gnd, fun c hc => (gU c hc).2.1, hk⟩
  · rcases split e he with y | y
    · exact h.li.a e y
    · subst y
      exact ⟨F.nd, hk, newU⟩
  · obtain ⟨e, he, h0⟩ := h.li.b
    exact mono e he 0 h0
  · obtain ⟨e', he', hc'⟩ := h.li.c e (splitlt e he hlt) hlt c hc r' hr
    exact mono e' he' _ hc'
  · obtain ⟨e, he, e1, e2⟩ := h.m
    by_cases z : M ||| more = M
    · have hz : ∀ q ∈ parts, q = 0 := fun q hq => by
        obtain ⟨h1, r', hr, h2⟩ := hmore q hq
        rw [h2]
        exact bes_zero hM (by rw [← h2, h1]; exact z)
      refine ⟨_, List.mem_append_right _ List.mem_cons_self, z, fun c hc => ?_⟩
      rcases F.old c hc with y | ⟨c0, h0, q, hq, y⟩
      · rcases hor with w | ⟨w1, _, w3, w4⟩
        · have := uniq h.li.kd he (by rw [← w]; exact List.mem_append_right _ List.mem_cons_self : (M ||| more, p, G) ∈ es) (by rw [e1]; exact z.symm)
          subst this
          exact e2 c y
        · rw [w3] at y
          cases y
      · rw [hz q hq, Nat.or_zero] at y
        rw [y]
        exact h0
    · refine ⟨e, ?_, e1, e2⟩
      rcases hor with w | ⟨w1, _, _, _⟩
      · rw [← w] at he
        rcases List.mem_append.mp he with y | y
        · exact List.mem_append_left _ y
        · rcases List.mem_cons.mp y with y | y
          · subst y
            exact absurd e1 z
          · exact List.mem_append_right _ (List.mem_cons_of_mem _ y)
      · rw [w1]
        exact List.mem_append_left _ he
  · by_cases z : j' < j
    · obtain ⟨e', he', hc'⟩ := h.d j' z c hc q hq
      exact mono e' he' _ hc'
    · have ej : j' = j := by omega
      subst ej
      rw [List.getD_eq_getElem?_getD, hg] at hq
      exact ⟨_, List.mem_append_right _ List.mem_cons_self, F.new c hc q hq⟩
/-- a mask is done -/
theorem li_next (hM : M < 512) (hL : ∀ c ∈ L, maskN c = M) (hgs : GrpR cs M gs) (h : LJ cs n M L gs gs.length es) : LI cs n (M + 1) es := by
  refine ⟨h.li.a, h.li.b, fun e he hlt c hc r hr => ?_, h.li.kd⟩
  by_cases z : e.1 < M
  · exact h.li.c e he z c hc r hr
  · have e1 : e.1 = M := by omega
    obtain ⟨e0, he0, e01, e02⟩ := h.m
    have := uniq h.li.kd he he0 (by rw [e1, e01])
    subst this
    have cL := e02 c hc
    obtain ⟨g, hg, g1, g2⟩ := hgs.2 r hr
    obtain ⟨j, hj, ej⟩ := List.getElem_of_mem hg
    obtain ⟨e', he', hc'⟩ := h.d j hj c cL (besC M r) (by rw [List.getD_eq_getElem?_getD, List.getElem?_eq_getElem hj, ej]; exact g2)
    refine ⟨e', he', ?_⟩
    unfold lay
    rw [hL c cL]
    exact hc'
theorem li_skip (h : LI cs n M es) (hk : M ∉ es.map (·.1)) : LI cs n (M + 1) es := by
  refine ⟨h.a, h.b, fun e he hlt c hc r hr => ?_, h.kd⟩
  by_cases z : e.1 < M
  · exact h.c e he z c hc r hr
  · exact absurd (List.mem_map.mpr ⟨e, he, by omega⟩) hk
theorem li_start {g : Addr} (hn : n ≤ 5) : LI cs n 0 [(0, g, [0])] := by
  refine ⟨fun e he => ?_, ⟨_, List.mem_cons_self, List.mem_cons_self⟩, fun e he hlt => absurd hlt (Nat.not_lt_zero _), List.nodup_cons.mpr ⟨List.not_mem_nil, List.nodup_nil⟩⟩
  rw [List.mem_singleton.mp he]
  refine ⟨List.nodup_cons.mpr ⟨List.not_mem_nil, List.nodup_nil⟩, show 0 < 512 by decide, fun c hc => ?_⟩
  rw [List.mem_singleton.mp hc]
  exact ⟨.z, U_zero hn, show maskN 0 = 0 by decide⟩
def flat (es : List Ent) : List Nat := es.flatMap (·.2.2)
theorem li_mem (h : LI cs n 512 es) (c : Nat) : c ∈ flat es ↔ Lay cs c := by
  unfold flat
  rw [List.mem_flatMap]
  refine ⟨fun ⟨e, he, hc⟩ => ((h.a e he).2.2 c hc).1, fun hl => ?_⟩
  induction hl with
  | z => exact h.b
  | s _ hr ih =>
    obtain ⟨e, he, hc⟩ := ih
    exact h.c e he (h.a e he).2.1 _ hc _ hr
theorem li_flat (h : LI cs n M es) : (flat es).Nodup ∧ ∀ c ∈ flat es, c ∈ U n := by
  unfold flat
  refine ⟨?_, fun c hc => ?_⟩
  · rw [List.Nodup, List.pairwise_flatMap]
    refine ⟨fun e he => (h.a e he).1, ?_⟩
    have kd := h.kd
    have ha := h.a
    clear h
    induction es with
    | nil => exact .nil
    | cons x xs ih =>
      rw [List.map_cons, List.nodup_cons] at kd
      refine .cons (fun y hy => ?_) (ih kd.2 fun e he => ha e (List.mem_cons_of_mem _ he))
      intro u hu v hv z
      subst z
      have h1 := ((ha x List.mem_cons_self).2.2 u hu).2.2
      have h2 := ((ha y (List.mem_cons_of_mem _ hy)).2.2 u hv).2.2
      exact kd.1 (List.mem_map.mpr ⟨y, hy, by rw [← h1, ← h2]⟩)
  · obtain ⟨e, he, hc⟩ := List.mem_flatMap.mp hc
    exact ((h.a e he).2.2 c hc).2.1
theorem li_tot (hn : n ≤ 5) (h : LI cs n M es) : (flat es).length ≤ 243 := Nat.le_trans (nodup_len (li_flat h).1 (li_flat h).2) (U_len hn)
theorem li_keys (h : LI cs n M es) : es.length ≤ 512 := by
  have h1 : (es.map (·.1)).length ≤ (List.range 512).length := nodup_len h.kd fun x hx => by
    obtain ⟨e, he, rfl⟩ := List.mem_map.mp hx
    exact List.mem_range.mpr (h.a e he).2.1
  rw [List.length_map, List.length_range] at h1
  exact h1
theorem flat_mid {k : Nat} {X : List Nat} : (flat (l ++ (k, p, X) :: r)).length = (flat l).length + X.length + (flat r).length := by
  unfold flat
  rw [List.flatMap_append, List.flatMap_cons, List.length_append, List.length_append]
  show _ + (X.length + _) = _
  omega
end
end K03

set_option Elab.async false
set_option linter.all false
set_option maxRecDepth 100000
set_option maxHeartbeats 1000000
namespace K03
open PySem PySem.Spec PyProof.Rows L2 Z K00
theorem locks_mono {P Q : Hp → Prop} (h : ∀ H, P H → Q H) : ∀ (ds : List Addr) (H : Hp), tLocks P ds H → tLocks Q ds H
  | [], H, q => h H q
  | d :: ds, H, ⟨u, hd, mu, q⟩ => ⟨u, hd, mu, fun od => locks_mono h ds _ (q od)⟩
section
variable {P : Program} {w : World} {K : PySem.W.Frag} {mg : Str → Option Value} {base : Heap}
abbrev IvO (Γ : Own) (Δ0 : Gh) (codes : List Nat) (n : Nat) (g : Addr) : Nat → Own → Z.Env → Prop := fun M Γ' ρ' => ∃ (es : List Ent) (x3 x4 x5 x6 x7 x8 : Option Cell), Γ' = OwnN g obD es Γ ∧ NestP Δ0 Γ g es ∧ LI codes n M es ∧ ρ' = [some ⟨zN codes⟩, some ⟨(⟨g⟩ : Z.Loc)⟩, some ⟨(((flat es).length : Nat) : Int)⟩, x3, x4, x5, x6, x7, x8]
abbrev IvJ (Γ : Own) (Δ0 : Gh) (codes : List Nat) (n : Nat) (g : Addr) (M : Nat) (L : List Nat) (gs : List (Nat × List Nat)) : Nat → Own → Z.Env → Prop := fun j Γ' ρ' => ∃ (es : List Ent) (x5 x6 x7 x8 : Option Cell), Γ' = OwnN g obD es Γ ∧ NestP Δ0 Γ g es ∧ LJ codes n M L gs j es ∧ ρ' = [some ⟨zN codes⟩, some ⟨(⟨g⟩ : Z.Loc)⟩, some ⟨(((flat es).length : Nat) : Int)⟩, some ⟨(M : Int)⟩, some ⟨zN L⟩, x5, x6, x7, x8]
theorem zN_app {a b : List Nat} : zN (a ++ b) = zN a ++ zN b := List.map_append ..
theorem pc_small {k : Nat} (h : k < 512) : Zk.pc k ≤ 100 := by
  have key : ∀ k, k < 512 → pcF 9 k ≤ 100 := by decide +kernel
  rw [pc_F 9 k h]
  exact key k h
def F__laid_codes : Pm (List Int) := fun _ cs R => ∃ (n : Nat) (codes : List Nat), cs = [⟨zN codes⟩] ∧ n ≤ 5 ∧ codes.length ≤ 1000 ∧ (∀ c ∈ codes, c ∈ U n) ∧ R = fun ys => ∃ l, ys = zN l ∧ l.length ≤ 243 ∧ (∀ c, c ∈ l ↔ Lay codes c) ∧ ∀ c ∈ l, c ∈ U n
theorem sc__laid_codes : FnScope ["codes", "layers", "many", "mask", "layer", "more", "parts", "goal", "code"] ["codes"] (defScope s__laid_codes) := ⟨rfl, rfl, rfl, by decide +kernel, rfl, by decide +kernel, by decide +kernel⟩
theorem ok__laid_codes (T : Txt K mg) {f : Addr} {fd : FuncData} (D : Df K mg "_laid_codes" s__laid_codes ["codes"] f fd) {f__parts_beside : Addr} {fd__parts_beside : FuncData} (D__parts_beside : Df K mg "_parts_beside" s__parts_beside ["codes", "mask"] f__parts_beside fd__parts_beside) (G__parts_beside : FnOk P w K mg base CX0 3 f__parts_beside fd__parts_beside ["codes", "mask"] (spN K F__parts_beside)) {f__fill : Addr} {fd__fill : FuncData} (D__fill : Df K mg "_fill" s__fill ["goal", "mask", "layer", "parts"] f__fill fd__fill) (G__fill : FnOk P w K mg base CX0 3 f__fill fd__fill ["goal", "mask", "layer", "parts"] (spU K F__fill)) : FnOk P w K mg base CX0 4 f fd ["codes"] (spD K F__laid_codes) := by
  obtain ⟨_, hI_SHIFT⟩ := T.i_SHIFT
  obtain ⟨_, hI_LOW⟩ := T.i_LOW
  obtain ⟨_, hI_MAX_THINGS⟩ := T.i_MAX_THINGS
  obtain ⟨_, hI_MAX_LAYINGS⟩ := T.i_MAX_LAYINGS
  obtain ⟨_, hI_MAX_UPRIGHT⟩ := T.i_MAX_UPRIGHT
  refine def_ok D.F sc__laid_codes (fun Γ cs R g => ?len) (fun cdv A outer s H E hr Γ cs R g => ?_)
  case len => obtain ⟨n, c, rfl, _⟩ := g; rfl
  obtain ⟨n, codes, rfl, hn, hz, hU, rfl⟩ := g
  refine ⟨_, (pss_cons (ps_set (i := 1) sc__laid_codes.nd rfl (by first | exact .inl rfl | exact .inr rfl) (pe_disp (pps_cons pe_int (pe_disp (pps_cons pe_int pe_bl pps_nil) (by rfl) (by rfl) (fun z => by cases z) (by decide)) pps_nil) (by rfl) (by rfl) (fun z => by cases z) (by decide)))
      (pss_cons (ps_set (i := 2) sc__laid_codes.nd rfl (by first | exact .inl rfl | exact .inr rfl) pe_int)
      (pss_cons (ps_for PassesOwn.never rfl (pi_range1 (by rfl) T.z_range (pa_cons (pe_op op_add (pe_glob (v := .int 511) rfl hI_LOW ⟨_, rfl⟩) pe_int) pa_nil)) (pg_name (i := 3) sc__laid_codes.nd rfl (by first | exact .inl rfl | exact .inr rfl))
        (pss_one (ps_if (pt_cmp (pc_din (by exact hu_of hr) (pv 3) (by exact (pv 1))) (by rfl)) (pss_cons (ps_set (i := 4) sc__laid_codes.nd rfl (by first | exact .inl rfl | exact .inr rfl) (pe_callTy (call_list_dK rfl) (by rfl) T.z_list (by decide +kernel) (pa_cons (pe_dget (hu_of hr) (pv 1) (pv 3) (fun _ _ => rfl)) pa_nil)))
          (pss_one (ps_for PassesOwn.never rfl (pi_items (pe_frzs (pe_call G__parts_beside (hr.mono (by decide)) (by rfl) D__parts_beside.g D__parts_beside.kp D__parts_beside.b .nil pass0 (pa_cons (pv 0) (pa_cons (pv 3) pa_nil))))) (pg_tup rfl (pgs_cons (pg_name (i := 5) sc__laid_codes.nd rfl (by first | exact .inl rfl | exact .inr rfl)) (pgs_cons (pg_name (i := 6) sc__laid_codes.nd rfl (by first | exact .inl rfl | exact .inr rfl)) pgs_nil)))
            (pss_cons (ps_set (i := 7) sc__laid_codes.nd rfl (by first | exact .inl rfl | exact .inr rfl) (pe_dsetd (pv 1) (pe_op op_or (pv 3) (pv 5)) pe_dnewK ⟨by rfl, by rfl, by rfl, by rfl⟩))
            (pss_cons (ps_set (i := 2) sc__laid_codes.nd rfl (by first | exact .inl rfl | exact .inr rfl) (pe_op op_add (pv 2) (pe_call G__fill (hr.mono (by decide)) (by rfl) D__fill.g D__fill.kp D__fill.b .nil pass0 (pa_cons (pv 7) (pa_cons (pe_op op_or (pv 3) (pv 5)) (pa_cons (pv 4) (pa_cons (pv 6) pa_nil)))))))
            (pss_one (ps_if (pt_cmpR op_gt (pv 2) (pe_glob (v := .int 7000) rfl hI_MAX_LAYINGS ⟨_, rfl⟩) (nomark _)) (pss_one ps_never) pss_nil))))))) pss_nil)))
      (pss_one (ps_ret (pe_lc2 (own := [("layer", 4), ("code", 8)]) (vs1 := [8]) (g := (gName 4)) (g1 := (gName 8)) (tt := tYes) (tt1 := tYes) rfl sc__laid_codes.nd (pi_values (pe_frzs (pv 1))) (blkOk_by (N := ["codes", "layers", "many", "mask", "layer", "more", "parts", "goal", "code"]) (sc := defScope s__laid_codes) (by decide +kernel)) (by decide) (fun _ _ _ _ _ => (pg_name (i := 4) sc__laid_codes.nd rfl (by first | exact .inl rfl | exact .inr rfl))) (fun _ _ _ _ _ => pts_nil) (fun _ _ _ _ _ => (pi_keys (pv 4))) (fun _ _ _ _ _ => (pg_name (i := 8) sc__laid_codes.nd rfl (by first | exact .inl rfl | exact .inr rfl))) (fun _ _ _ _ _ => pts_nil) (fun _ _ _ _ _ => (pv 8)))))))), fun Δ0 D' hf hn' => ?_⟩
  refine wp_disp2 (ltr rfl) fun g p0 np0 => ?_
  refine wp_asg1 (a := (1 : Int)) ev_int (ltr rfl) ?_
  refine wp_for (IvO Γ Δ0 codes n g) (src_rng1 (n := 512) (ea_1 (ev_is (ev_op1 ev_int ev_int (o2_I0 (g := fun i j => i + j))) rfl) ea_nil) (by decide) (ltr rfl)) ⟨_, none, none, none, none, none, none, rfl, np0, li_start hn, rfl⟩ (fun M Γ' ρ' h => by obtain ⟨es, a, b, c, d, e, f, _, _, _, rfl⟩ := h; rfl) ?_ ?_
  · rintro M Γ' ρ' F' hM ⟨es, x3, x4, x5, x6, x7, x8, rfl, np, li, rfl⟩
    refine wp_if (et_B (ev_inN (k := M) np.kd (ev_var (i := 3)) (ev_var (i := 1)))) (fun hb => ?_) (fun hb => ?_)
    · obtain ⟨e, he, e1⟩ := List.mem_map.mp (of_decide_eq_true hb)
      obtain ⟨k0, a0, L⟩ := e
      have e1' : k0 = M := e1
      subst e1'
      have La := li.a _ he
      have LL : ∀ c ∈ L, Lay codes c ∧ c ∈ U n ∧ maskN c = k0 := La.2.2
      have L32 : L.length ≤ 32 := Nat.le_trans (nodup_len La.1 fun c hc => by
        have f := (U_facts hn (LL c hc).2.1).2
        rw [(LL c hc).2.2] at f
        exact f) (pats_le k0)
      refine wp_asg1 (a := zN L) (ev_listK (d := a0) (kvs := kvB0 L) (xs := zN L) (ownN_e (e := (k0, a0, L)) he) ?_ (ev_dgetO (κ := Int) (ν := Z.Loc) (x := (k0 : Int)) (y := ⟨a0⟩) (k0 := .inl ((k0 : Nat) : Int)) ownN_g rfl (outV_get (e := (k0, a0, L)) np.kd he) (ev_var (i := 1)) (ev_var (i := 3)))) (ltr rfl) ?_
      · unfold kvB0 zN
        rw [List.map_map, List.map_map]
        rfl
      refine wp_forPN (tz := tNext) (IvJ Γ Δ0 codes n g k0 L) (srcP_itemsG (G := F__parts_beside) (R := GrpR codes k0) (ja := 5) (jb := 6) (ea_1 (ev_var (i := 0)) (ea_1 (ev_var (i := 3) (a := (k0 : Int))) ea_nil)) ⟨codes, k0, rfl, hM, by omega, rfl⟩ (ltr rfl) (ltr rfl)) (fun gs hgs => ⟨es, _, _, _, _, rfl, np, ⟨li, ⟨_, he, rfl, fun c hc => hc⟩, fun j' hj => absurd hj (Nat.not_lt_zero _)⟩, rfl⟩) (fun gs i Γ' ρ' h => by obtain ⟨es, a, b, c, d, _, _, _, rfl⟩ := h; rfl) ?_ ?_
      · rintro gs hgs j Γ' ρ' F2 hj ⟨es2, y5, y6, y7, y8, rfl, np2, lj, rfl⟩
        have hg : gs[j]? = some ((gs.getD j (0, [])).1, (gs.getD j (0, [])).2) := getD_of (d := (0, [])) hj
        have hge := hgs.1 _ (List.mem_of_getElem? hg)
        refine wp_setdD (k := k0 ||| (gs.getD j (0, [])).1) np2 (Nat.lt_of_le_of_lt (li_keys lj.li) (by decide)) (ltr rfl) (ev_var (i := 1)) (ev_is (ev_op1 (ev_var (i := 3) (a := (k0 : Int))) (ev_var (i := 5) (a := (((gs.getD j (0, [])).1 : Nat) : Int))) (o2_I0 (g := Builtin.bitOr))) (or_nn _ _)) fun l r p G np3 hor => ?_
        obtain ⟨lj', gnd, gU, hk⟩ := lj_step hn hM hU lj LL hgs hg np3.kd hor
        have G243 : G.length ≤ 243 := Nat.le_trans (nodup_len gnd gU) (U_len hn)
        have hprod : (gs.getD j (0, [])).2.length * L.length ≤ 40000 := Nat.le_trans (Nat.mul_le_mul (Nat.le_trans hge.1 hz) L32) (by decide)
        refine wp_addU (i := 2) (m := (((flat es2).length : Nat) : Int)) (args := [⟨(⟨p⟩ : Z.Loc)⟩, ⟨((k0 ||| (gs.getD j (0, [])).1 : Nat) : Int)⟩, ⟨zN L⟩, ⟨zN (gs.getD j (0, [])).2⟩]) np3 (ltr rfl) (fun Γ' => ev_var (i := 2)) (fun Γ' => ea_1 (ev_var (i := 7)) (ea_1 (ev_is (ev_op1 (ev_var (i := 3) (a := (k0 : Int))) (ev_var (i := 5) (a := (((gs.getD j (0, [])).1 : Nat) : Int))) (o2_I0 (g := Builtin.bitOr))) (or_nn _ _)) (ea_1 (ev_var (i := 4)) (ea_1 (ev_var (i := 6)) ea_nil)))) (fun Γ' => ⟨_, G, L, _, rfl, Nat.lt_trans hk (by decide), pc_small hk, by omega, hprod, rfl, rfl, rfl⟩) fun c hc np4 => ?_
        have em : (((flat es2).length : Nat) : Int) + c = (((flat (l ++ (k0 ||| (gs.getD j (0, [])).1, p, fillN (k0 ||| (gs.getD j (0, [])).1) G L (gs.getD j (0, [])).2) :: r)).length : Nat) : Int) := by
          have h1 : (flat es2).length = (flat l).length + G.length + (flat r).length := by
            rcases hor with z | ⟨z1, z2, z3, _⟩
            · rw [← z, flat_mid]
            · rw [z1, z2, z3]
              rfl
          rw [show c = _ from hc, h1, flat_mid]
          omega
        rw [em]
        refine wp_noL (b := decide ((7000 : Int) < _)) ?_ (et_test (ev_op1 (ev_var (i := 2)) ev_int (o2_B0 (g := fun i j => decide (j < i))))) ?_
        · rw [decide_eq_false_iff_not]
          have := li_tot hn lj'.li
          omega
        · exact wp_turn (Iv := IvJ Γ Δ0 codes n g k0 L gs) ⟨_, _, _, _, _, rfl, np4, lj', rfl⟩ rfl
      · rintro gs hgs Γ' ρ' ⟨es2, y5, y6, y7, y8, rfl, np2, lj, rfl⟩
        exact wp_turn (Iv := IvO Γ Δ0 codes n g) ⟨es2, _, _, _, _, _, _, rfl, np2, li_next hM (fun c hc => (LL c hc).2.2) hgs lj, rfl⟩ rfl
    · exact wp_turn (Iv := IvO Γ Δ0 codes n g) ⟨es, _, _, _, _, _, _, rfl, np, li_skip li (of_decide_eq_false hb), rfl⟩ rfl
  · rintro Γ' ρ' F' ⟨es, x3, x4, x5, x6, x7, x8, rfl, np, li, rfl⟩
    refine wp_retFrz (i := 1) (TEf := fun te => tLc2 (iVals te) (gName 4) tYes (iKeys (tVar 4)) (gName 8) tYes (tVar 8) [4, 8] [8]) np rfl (fun σ H Q ds hv h => ⟨.ref g, hv, ds, locks_mono (fun H' q => by
      obtain ⟨v, hv2, q2⟩ := q
      rw [hv] at hv2
      cases hv2
      exact q2) ds H h⟩) fun F2 => ?_
    have fl : ∀ i, i < es.length → flat (es.take (i + 1)) = flat (es.take i) ++ (es.getD i (0, g, [])).2.2 := fun i hi => by
      rw [List.take_add_one, getD_of (d := (0, g, [])) hi]
      unfold flat
      rw [List.flatMap_append]
      simp
    have tl := li_tot hn li
    have sub : ∀ i, (flat (es.take i)).length ≤ 243 := fun i => by
      have e : flat es = flat (es.take i) ++ flat (es.drop i) := by
        unfold flat
        rw [← List.flatMap_append, List.take_append_drop]
      rw [e, List.length_append] at tl
      omega
    have ent : ∀ i, (es.getD i (0, g, [])).2.2.length ≤ 243 := fun i => by
      by_cases hi : i < es.length
      · have := sub (i + 1)
        rw [fl i hi, List.length_append] at this
        omega
      · rw [List.getD_eq_getElem?_getD, List.getElem?_eq_none (by omega)]
        exact Nat.zero_le _
    have hc := ev_lc2 (K := K) (Γ := Γ) (β := Int) (te := tVar 8) (vs := [4, 8]) (vs1 := [8]) (n := es.length) (m := fun i => (kvB0 (es.getD i (0, g, [])).2.2).length) (fun i j acc => acc = zN (flat (es.take i) ++ (es.getD i (0, g, [])).2.2.take j))
      (src_valsN (d0 := (0, g, [])) (ev_var (ρ := [some ⟨zN codes⟩, some ⟨(⟨g, es⟩ : Nz)⟩, some ⟨(((flat es).length : Nat) : Int)⟩, x3, x4, x5, x6, x7, x8]) (i := 1)) (j := 4) (ltr rfl)) (by decide)
      (fun i hi => src_keysZ (kvs := kvB0 (es.getD i (0, g, [])).2.2) (κ := Int) (x0 := fun j => (((es.getD i (0, g, [])).2.2.getD j 0 : Nat) : Int)) (ev_var (i := 4)) (fun j hj => ⟨.inl (((es.getD i (0, g, [])).2.2.getD j 0 : Nat) : Int), .bl true, by
        unfold kvB0 at hj ⊢
        rw [List.length_map] at hj
        rw [List.getElem?_map, getD_of (d := 0) hj]
        rfl, rfl⟩) (j := 8) (ltr rfl)) (by decide) rfl (fun i j acc h => ?_) (fun i j acc hi hj h => ⟨Is ((((es.getD i (0, g, [])).2.2.getD j 0 : Nat) : Int)), ev_var (i := 8), fun b hb => ?_⟩) (fun i acc hi h => ?_)
    · refine wp_ret hf ((ev_ofNL (y := ⟨zN (flat es)⟩) (hc.imp fun y hy => ?_)).imp fun ys hy => ⟨flat es, hy, tl, li_mem li, (li_flat li).2⟩)
      obtain ⟨y⟩ := y
      have hy' : y = zN (flat (es.take es.length) ++ (es.getD es.length (0, g, [])).2.2.take 0) := hy
      rw [List.take_length, List.take_zero, List.append_nil] at hy'
      rw [hy']
      rfl
    · rw [h, zN_len, List.length_append]
      have h1 := sub i
      have h2 := ent i
      have h3 : ((es.getD i (0, g, [])).2.2.take j).length ≤ (es.getD i (0, g, [])).2.2.length := List.length_take_le' j _
      omega
    · have hj' : j < (es.getD i (0, g, [])).2.2.length := by
        unfold kvB0 at hj
        rw [List.length_map] at hj
        exact hj
      rw [show b = _ from hb, h, List.take_add_one, getD_of (d := 0) hj', ← List.append_assoc, zN_app (a := _ ++ _)]
      rfl
    · rw [h, List.take_zero, List.append_nil, fl i hi]
      congr 2
      unfold kvB0
      rw [List.length_map, List.take_length]
end
end K03

set_option Elab.async false
set_option linter.all false
set_option maxRecDepth 100000
set_option maxHeartbeats 1000000
namespace K03
open PySem PySem.Spec PyProof.Rows L2 Z K00
section
variable {P : Program} {w : World} {K : PySem.W.Frag} {mg : Str → Option Value} {base : Heap}
/-- name = Lot(n), one's own -/
theorem wp_makeLot {Δ0 : Gh} {H0 : Hp} {Γ : Own} {F : List (V × Cell)} {ρ : Z.Env} {tA : TA} {tz : TS} {D : Ends} {E : XK} {i n : Nat} {a : Addr} (hi : i < ρ.length) (kt : KT K a []) (ha : EvA K Γ tA ρ (Is [⟨(n : Int)⟩])) (h9 : n ≤ 9)
    (k : ∀ x dx d vt, OwnP Δ0 Γ x → Wp K Δ0 H0 ((x, ObIs (.ins (He.ga K "Lot") dx [("_many", .int n), ("_known", .ref d), ("_rows", vt)])) :: Γ) F (ρ.set i (some ⟨(⟨x⟩ : Z.Loc)⟩)) tz D) :
    Wp K Δ0 H0 Γ F ρ (tSeq (tAsg (tMake (He.ga K "Lot") (spI K (He.ga K "Lot") F_Lot___init__) [.ref a] E tA) (gName i)) tz) D := fun σ H ⟨Δ, s, hh, e, ff, e0, s1, s2⟩ =>
  ha Δ σ H _ s hh e fun vs H1 cs' pcs e1 r x dx hx hdx ne => by
    have ec : cs' = [⟨(n : Int)⟩] := pcs
    subst ec
    refine ⟨Γ, Δ, [⟨(n : Int)⟩, ⟨(⟨[]⟩ : Tup Tx)⟩], LotOf n [], x, dx, vs ++ [.ref a], H1, rfl, ⟨n, ⟨[]⟩, rfl, h9, (fun x hx => by cases hx), by decide, rfl⟩, s, e1.2, All2.app r ⟨⟨a, [], rfl, .inr kt, .inr kt, trivial⟩, trivial⟩, hx, hdx, ne, rfl, fun H' L pL e2 r2 => ⟨rfl, ?_⟩⟩
    obtain ⟨x', dx', d, vt, ex, nx, hx', nd, hd, rt⟩ := r2
    cases ex
    rw [pL.1] at hx'
    obtain ⟨ow, st⟩ := own_come (K := K) (Δ0 := Δ0) (H0 := H0) (F := F) s e1.2 (e.mono e1.1) (fun q hq => q.2.r.mono e1.1 (ff q hq)) (ext0 e0 s1 s2 e1) s1 s2 hx e2 hx'
    exact k x dx' d vt ow _ _ (stt_set hi (fun _ _ _ => rfl) st)
def F_lot_of : Pm LotD := fun _ cs R => ∃ (n : Nat) (xs : List Tx), cs = [⟨(n : Int)⟩, ⟨xs⟩] ∧ n ≤ 9 ∧ xs.length ≤ 50000 ∧ R = LotOf n xs
theorem sc_lot_of : FnScope ["many", "rows", "made", "row"] ["many", "rows"] (defScope s_lot_of) := ⟨rfl, rfl, rfl, by decide +kernel, rfl, by decide +kernel, by decide +kernel⟩
theorem ok_lot_of (T : Txt K mg) (CL : LotT K) (CG : mg "Lot" = some (.ref (He.ga K "Lot"))) {f : Addr} {fd : FuncData} (D : Df K mg "lot_of" s_lot_of ["many", "rows"] f fd) {f_Lot___init__ : Addr} {fd_Lot___init__ : FuncData} {dv_Lot___init__ : List V} (CP_Lot : Mk K (He.ga K "Lot") f_Lot___init__ ∧ DfM K dv_Lot___init__ "__init__" "Lot.__init__" s_Lot___init__ ["self", "many", "rows"] f_Lot___init__ fd_Lot___init__) (G_Lot___init__ : FnOk P w K mg base CX0 5 f_Lot___init__ fd_Lot___init__ ["self", "many", "rows"] (spI K (He.ga K "Lot") F_Lot___init__)) {a_Lot : Addr} (CB_Lot : Binds K fd_Lot___init__ ["self", "many", "rows"] [.ref a_Lot] ∧ KT K a_Lot []) : FnOk P w K mg base CX0 7 f fd ["many", "rows"] (spD K F_lot_of) := by
  obtain ⟨_, hI_SHIFT⟩ := T.i_SHIFT
  obtain ⟨_, hI_LOW⟩ := T.i_LOW
  obtain ⟨_, hI_MAX_THINGS⟩ := T.i_MAX_THINGS
  obtain ⟨_, hI_MAX_LAYINGS⟩ := T.i_MAX_LAYINGS
  obtain ⟨_, hI_MAX_UPRIGHT⟩ := T.i_MAX_UPRIGHT
  refine def_ok D.F sc_lot_of (fun Γ cs R g => ?len) (fun cdv A outer s H E hr Γ cs R g => ?_)
  case len => obtain ⟨n, xs, rfl, _⟩ := g; rfl
  obtain ⟨n, xs, rfl, hn9, hl, rfl⟩ := g
  refine ⟨_, (pss_cons (ps_set (i := 2) sc_lot_of.nd rfl (by first | exact .inl rfl | exact .inr rfl) (pe_make (dvs := [.ref a_Lot]) CP_Lot.1 G_Lot___init__ (hr.mono (by decide)) (by rfl) CG CB_Lot.1 (.cons rfl .nil) pass0 (pa_cons (pv 0) pa_nil)))
      (pss_cons (ps_fld (pv 2) (pe_dc (own := [("row", 3)]) (g := (gName 3)) (tt := tYes) rfl sc_lot_of.nd (pi_listK (pv 1)) (blkOk_by (N := ["many", "rows", "made", "row"]) (sc := defScope s_lot_of) (by decide +kernel)) (fun _ _ _ _ _ => (pg_name (i := 3) sc_lot_of.nd rfl (by first | exact .inl rfl | exact .inr rfl))) (fun _ _ _ _ _ => pts_nil) (fun _ _ _ _ _ => (pv 3)) (fun _ _ _ _ _ => pe_bl)) rfl)
      (pss_cons (ps_fld (pv 2) (pe_callTy call_tupK (by rfl) T.z_tuple (by decide +kernel) (pa_cons (pe_callB cr_sortedT (by rfl) T.z_sorted (by decide +kernel) (pa_cons (pe_callTy (call_list_dK rfl) (by rfl) T.z_list (by decide +kernel) (pa_cons (pe_fldK (pv 2) (by rfl)) pa_nil)) pa_nil)) pa_nil)) rfl)
      (pss_one (ps_ret (pv 2)))))), fun Δ0 D' hf hn => ?_⟩
  have gx : ∀ {i : Nat} {x : Tx}, xs[i]? = some x → xs.getD i ⟨[]⟩ = x := fun {i x} h => by
    rw [List.getD_eq_getElem?_getD, h]
    rfl
  refine wp_makeLot (ltr rfl) CB_Lot.2 (ea_1 (ev_var (i := 0)) ea_nil) hn9 fun p dx d0 vt ow => ?_
  refine wp_fldN (I := ObIs (.dK (kvT (onceT [] xs)))) CL.cl CL.na_known (ltr rfl) ow (en_dc (xs := xs) (src_list (x0 := fun i => xs.getD i ⟨[]⟩) (ev_var (i := 1)) (fun i hi => getD_of hi) (j := 3) (ltr rfl)) hl (by decide) (fun i x hi => by have e := gx hi; subst e; exact ev_var (i := 3)) fun i hi => ev_bl) (fun d o _ => ev_var (i := 2)) fun d o io ow2 owd => ?_
  have eo : o = HO.dK (kvT (onceT [] xs)) := io
  subst eo
  refine wp_fld (P := fun t : Tup Tx => SortedT (onceT [] xs) t.l) CL.cl CL.na_rows (ltr rfl) ow2 (ev_tupleP (ev_cb (ev_listO (ks := onceT [] xs) (d := d) (by simp) (ev_fldO CL.cl CL.na_known List.mem_cons_self (by rfl) (ev_var (i := 2)))) o1_sortedT)) (ev_var (i := 2)) fun v2 t ht => ?_
  refine fun σ H st => ev_run (te := tVar 2) (a := (⟨p⟩ : Z.Loc)) (ev_var (i := 2)) st fun H1 st1 => ?_
  have c1 := stt_cell List.mem_cons_self st1
  have c2 := stt_cell (List.mem_cons_of_mem _ List.mem_cons_self) st1
  obtain ⟨Δ, s, hh, e, ff, e0, s1, s2⟩ := st1
  have rt := (Rp.weak (fun x o _ n => none0 s1 n) (ff (v2, ⟨t⟩) List.mem_cons_self) : Rp.rp K Δ0 H1 v2 t)
  exact hf _ H1 (⟨n, onceT [] xs, t.l⟩ : LotD) ⟨rfl, rfl, ht⟩ e0 ⟨p, dx, d, v2, rfl, ow.n0, c1, owd.n0, c2, rt⟩
end
end K03

set_option Elab.async false
set_option linter.all false
set_option maxRecDepth 100000
set_option maxHeartbeats 1000000
namespace K03
open PySem PySem.Spec PyProof.Rows L2 Z K00
def zeroT (n : Nat) : Tx := ⟨List.replicate n 48⟩
/-- all layings of rows, with the zero row -/
inductive LayT (n : Nat) (rows : List Tx) : Tx → Prop
  | z : LayT n rows (zeroT n)
  | s {x r : Tx} : LayT n rows x → r ∈ rows → LayT n rows (laidT x r)
theorem zero_facts {n : Nat} (h : n ≤ 5) : codeT (zeroT n) = 0 ∧ zeroT n ∈ rowsOf n := by
  have key : ∀ n, n < 6 → codeT (zeroT n) = 0 ∧ zeroT n ∈ rowsOf n := by decide +kernel
  exact key n (by omega)
section
variable {n : Nat} {rows : List Tx}
theorem layT_mem (hn : n ≤ 5) (hR : ∀ r ∈ rows, r ∈ rowsOf n) {x : Tx} (h : LayT n rows x) : x ∈ rowsOf n := by
  induction h with
  | z => exact (zero_facts hn).2
  | s _ hr ih => exact laid_mem (by omega) ih (hR _ hr)
theorem laid_code (hn : n ≤ 5) {x r : Tx} (hx : x ∈ rowsOf n) (hr : r ∈ rowsOf n) : lay (codeT x) (codeT r) = codeT (laidT x r) := by
  have lx := rows_sz n x hx
  have lr := rows_sz n r hr
  exact lay_laid (rows_sign n x hx) (by omega) (by omega)
theorem lay_of_T (hn : n ≤ 5) (hR : ∀ r ∈ rows, r ∈ rowsOf n) {x : Tx} (h : LayT n rows x) : Lay (rows.map codeT) (codeT x) := by
  induction h with
  | z => rw [(zero_facts hn).1]; exact .z
  | s hx hr ih =>
    rw [← laid_code hn (layT_mem hn hR hx) (hR _ hr)]
    exact .s ih (List.mem_map.mpr ⟨_, hr, rfl⟩)
theorem T_of_lay (hn : n ≤ 5) (hR : ∀ r ∈ rows, r ∈ rowsOf n) {c : Nat} (h : Lay (rows.map codeT) c) : ∃ x, LayT n rows x ∧ codeT x = c := by
  induction h with
  | z => exact ⟨_, .z, (zero_facts hn).1⟩
  | s _ hc ih =>
    obtain ⟨x, hx, rfl⟩ := ih
    obtain ⟨r, hr, rfl⟩ := List.mem_map.mp hc
    exact ⟨laidT x r, .s hx hr, (laid_code hn (layT_mem hn hR hx) (hR _ hr)).symm⟩
theorem codes_inj (hn : n ≤ 9) {x y : Tx} (hx : x ∈ rowsOf n) (hy : y ∈ rowsOf n) (h : codeT x = codeT y) : x = y :=
  code_inj (rows_sign n x hx) (rows_sign n y hy) (by rw [rows_sz n x hx, rows_sz n y hy]) (by rw [rows_sz n x hx]; exact hn) h
theorem lift_codes {l : List Nat} (h : ∀ c ∈ l, c ∈ U n) : ∃ xs : List Tx, xs.map codeT = l ∧ ∀ x ∈ xs, x ∈ rowsOf n := by
  induction l with
  | nil => exact ⟨[], rfl, fun x hx => nomatch hx⟩
  | cons c l ih =>
    obtain ⟨xs, e, hx⟩ := ih fun c hc => h c (List.mem_cons_of_mem _ hc)
    obtain ⟨x, hx1, ex⟩ := List.mem_map.mp (h c List.mem_cons_self)
    refine ⟨x :: xs, by rw [List.map_cons, ex, e], fun y hy => ?_⟩
    rcases List.mem_cons.mp hy with z | z
    · rw [z]; exact hx1
    · exact hx y z
open Classical in
noncomputable def layS (n : Nat) (rows : List Tx) : List Tx := (rowsOf n).filter fun x => decide (LayT n rows x)
open Classical in
theorem mem_layS (hn : n ≤ 5) (hR : ∀ r ∈ rows, r ∈ rowsOf n) {x : Tx} : x ∈ layS n rows ↔ LayT n rows x := by
  unfold layS
  simp only [List.mem_filter, decide_eq_true_eq]
  exact ⟨fun h => h.2, fun h => ⟨layT_mem hn hR h, h⟩⟩
def upS (n : Nat) (rows : List Tx) : List Tx := (rowsOf n).filter fun x => (rows.map codeT).all (uprC (codeT x))
theorem lot_rows {L : LotD} (h : LotOk L) : ∀ r ∈ L.rows, r ∈ rowsOf L.many := fun r hr => rows_all L.many r (h.rows r hr).1 (h.rows r hr).2
theorem cf_zero {x : Tx} : cf 0 x = codeT x := by
  unfold cf zp
  rw [List.replicate_zero, List.nil_append]
end
section
variable {P : Program} {w : World} {K : PySem.W.Frag} {mg : Str → Option Value} {base : Heap}
theorem wipe_len : ∀ (vs : List Nat) (ρ : Z.Env), (wipeE ρ vs).length = ρ.length
  | [], ρ => rfl
  | v :: vs, ρ => by
    show ((wipeE ρ vs).set v none).length = _
    rw [List.length_set, wipe_len vs]
theorem ev_codes {Γ : Own} {ρ : Z.Env} {E : XK} {L : LotD} {j : Nat} {te : TE} (CL : LotT K) (hL : LotOk L) (h : Ev K Γ te ρ (Is L)) (hj : j < ρ.length) (vs : List Nat) (hv : j ∈ vs) : Ev K Γ (tLc (iTup K (tFld K te "_rows")) (gName j) tYes (tCall (spD K F_code_of) [] E (tCons (tVar j) tNil)) vs) ρ (Is (zN (L.rows.map codeT))) := by
  have hc := ev_lcD (K := K) (Γ := Γ) (xs := L.rows) (t := tYes) (te := tCall (spD K F_code_of) [] E (tCons (tVar j) tNil)) (fun _ => true) (fun x => ((codeT x : Nat) : Int)) (src_rows CL h hj) hL.len (vs := vs) (fun k hk => by rw [List.mem_singleton.mp hk]; exact hv) fun i x hi => ⟨et_yes, fun _ => by
    have e : L.rows.getD i ⟨[]⟩ = x := by rw [List.getD_eq_getElem?_getD, hi]; rfl
    have hx := hL.rows x (List.mem_of_getElem? hi)
    have h9 := hL.m9
    rw [e]
    refine ev_call1 (ea_1 (ev_var (i := j) (a := x) ?_) ea_nil) ⟨x, rfl, by omega, rfl⟩
    have hw := wipe_len vs ρ
    rw [List.getElem?_set_self (by rw [hw]; exact hj)]⟩
  rw [List.filter_eq_self.mpr (fun _ _ => rfl)] at hc
  refine ev_is hc ?_
  unfold zN
  rw [List.map_map]
  rfl
theorem ev_frzN {Γ : Own} {ρ : Z.Env} {te : TE} {I : HO → Prop} (h : EvN K Γ te ρ I) (mu : ∀ o, I o → Mut (some o)) : Ev K Γ (tFrzs te) ρ (fun z : Fz => I z.u) := fun Δ σ H Q s hh e k =>
  h Δ σ H _ s hh e fun d H' o io hd nd e1 ho => ⟨[d], o, ho, mu o io, fun od => k (.ref d) (upd H' d (.frz od o)) ⟨d, o⟩ io ⟨fun a v na q => by
    have ne : a ≠ d := fun z => by rw [z, hd] at q; cases q
    rw [upd_ne ne]
    exact e1.1 a v na q, fun a J ha => by
    have ne : a ≠ d := fun z => by rw [z, nd] at ha; cases ha
    rw [upd_ne ne]
    exact e1.2 a J ha⟩ ⟨rfl, nd, od, upd_same⟩⟩
def F_Lot_layings : Pm LotD := fun _ cs R => ∃ L : LotD, cs = [⟨L⟩] ∧ LotOk L ∧ L.many ≤ 5 ∧ L.rows.length ≤ 1000 ∧ R = LotIs L.many (layS L.many L.rows)
theorem sc_Lot_layings : FnScope ["self", "codes", "row"] ["self"] (defScope s_Lot_layings) := ⟨rfl, rfl, rfl, by decide +kernel, rfl, by decide +kernel, by decide +kernel⟩
theorem ok_Lot_layings (T : Txt K mg) (CL : LotT K) (CG : mg "Lot" = some (.ref (He.ga K "Lot"))) {f : Addr} {fd : FuncData} {dvs : List V} (D : DfM K dvs "layings" "Lot.layings" s_Lot_layings ["self"] f fd) {f__laid_codes : Addr} {fd__laid_codes : FuncData} (D__laid_codes : Df K mg "_laid_codes" s__laid_codes ["codes"] f__laid_codes fd__laid_codes) (G__laid_codes : FnOk P w K mg base CX0 4 f__laid_codes fd__laid_codes ["codes"] (spD K F__laid_codes)) {f_lot_of : Addr} {fd_lot_of : FuncData} (D_lot_of : Df K mg "lot_of" s_lot_of ["many", "rows"] f_lot_of fd_lot_of) (G_lot_of : FnOk P w K mg base CX0 7 f_lot_of fd_lot_of ["many", "rows"] (spD K F_lot_of)) {f_rows_of : Addr} {fd_rows_of : FuncData} (D_rows_of : Df K mg "rows_of" s_rows_of ["codes", "many"] f_rows_of fd_rows_of) (G_rows_of : FnOk P w K mg base CX0 3 f_rows_of fd_rows_of ["codes", "many"] (spD K F_rows_of)) {f_code_of : Addr} {fd_code_of : FuncData} (D_code_of : Df K mg "code_of" s_code_of ["row"] f_code_of fd_code_of) (G_code_of : FnOk P w K mg base CX0 2 f_code_of fd_code_of ["row"] (spD K F_code_of)) : FnOk P w K mg base CX0 8 f fd ["self"] (spD K F_Lot_layings) := by
  obtain ⟨_, hI_SHIFT⟩ := T.i_SHIFT
  obtain ⟨_, hI_LOW⟩ := T.i_LOW
  obtain ⟨_, hI_MAX_THINGS⟩ := T.i_MAX_THINGS
  obtain ⟨_, hI_MAX_LAYINGS⟩ := T.i_MAX_LAYINGS
  obtain ⟨_, hI_MAX_UPRIGHT⟩ := T.i_MAX_UPRIGHT
  refine def_ok D.F sc_Lot_layings (fun Γ cs R g => ?len) (fun cdv A outer s H E hr Γ cs R g => ?_)
  case len => obtain ⟨L, rfl, _⟩ := g; rfl
  obtain ⟨L, rfl, hL, h5, hz, rfl⟩ := g
  refine ⟨_, (pss_cons (ps_set (i := 1) sc_Lot_layings.nd rfl (by first | exact .inl rfl | exact .inr rfl) (pe_call G__laid_codes (hr.mono (by decide)) (by rfl) D__laid_codes.g D__laid_codes.kp D__laid_codes.b .nil pass0 (pa_cons (pe_lc (own := [("row", 2)]) (g := (gName 2)) (tt := tYes) rfl sc_Lot_layings.nd (pi_tupK (pe_fldK (pv 0) (by rfl))) (blkOk_by (N := ["self", "codes", "row"]) (sc := defScope s_Lot_layings) (by decide +kernel)) (fun _ _ _ _ _ => (pg_name (i := 2) sc_Lot_layings.nd rfl (by first | exact .inl rfl | exact .inr rfl))) (fun _ _ _ _ _ => pts_nil) (fun _ _ _ _ _ => (pe_call G_code_of (hr.mono (by decide)) (by rfl) D_code_of.g D_code_of.kp D_code_of.b .nil pass0 (pa_cons (pv 2) pa_nil)))) pa_nil)))
      (pss_one (ps_ret (pe_call G_lot_of (hr.mono (by decide)) (by rfl) D_lot_of.g D_lot_of.kp D_lot_of.b .nil pass0 (pa_cons (pe_fldK (pv 0) (by rfl)) (pa_cons (pe_call G_rows_of (hr.mono (by decide)) (by rfl) D_rows_of.g D_rows_of.kp D_rows_of.b .nil pass0 (pa_cons (pv 1) (pa_cons (pe_fldK (pv 0) (by rfl)) pa_nil))) pa_nil)))))), fun Δ0 D' hf hn => ?_⟩
  have hR := lot_rows hL
  refine wp_asg (ev_call1 (ea_1 (ev_codes CL hL (ev_var (i := 0)) (j := 2) (ltr rfl) [2] (by decide)) ea_nil) ⟨L.many, _, rfl, h5, by rw [List.length_map]; exact hz, fun c hc => ?_, rfl⟩) (ltr rfl) fun ys hys => ?_
  · obtain ⟨x, hx, rfl⟩ := List.mem_map.mp hc
    exact List.mem_map.mpr ⟨x, hR x hx, rfl⟩
  obtain ⟨l, rfl, hl, hm, hU⟩ := hys
  obtain ⟨xs, rfl, hx⟩ := lift_codes hU
  have hlen : xs.length ≤ 243 := by
    rw [List.length_map] at hl
    exact hl
  refine wp_ret hf ((ev_call1 (Pb := LotOf L.many xs) (ea_1 (ev_lotMany CL (ev_var (i := 0))) (ea_1 (ev_call1 (ea_1 (ev_var (i := 1)) (ea_1 (ev_lotMany CL (ev_var (i := 0))) ea_nil)) ⟨L.many, xs, rfl, by omega, by omega, fun x h => ⟨rows_sz _ x (hx x h), rows_sign _ x (hx x h)⟩, rfl⟩) ea_nil)) ⟨L.many, xs, rfl, by omega, by omega, rfl⟩).imp fun M hM => (LotOf.is hM).congr fun x => ?_)
  rw [mem_layS h5 hR]
  refine ⟨fun h => ?_, fun h => ?_⟩
  · obtain ⟨y, hy, e⟩ := T_of_lay h5 hR ((hm (codeT x)).mp (List.mem_map.mpr ⟨x, h, rfl⟩))
    rw [← codes_inj (by omega) (layT_mem h5 hR hy) (hx x h) e]
    exact hy
  · obtain ⟨y, hy, e⟩ := List.mem_map.mp ((hm (codeT x)).mpr (lay_of_T h5 hR h))
    rw [← codes_inj (by omega) (hx y hy) (layT_mem h5 hR h) e]
    exact hy
def F_Lot_uprights : Pm LotD := fun _ cs R => ∃ L : LotD, cs = [⟨L⟩] ∧ LotOk L ∧ L.many ≤ 5 ∧ L.rows.length ≤ 1000 ∧ R = LotIs L.many (upS L.many L.rows)
theorem sc_Lot_uprights : FnScope ["self", "codes", "rows", "row", "code"] ["self"] (defScope s_Lot_uprights) := ⟨rfl, rfl, rfl, by decide +kernel, rfl, by decide +kernel, by decide +kernel⟩
theorem ok_Lot_uprights (T : Txt K mg) (CL : LotT K) (CG : mg "Lot" = some (.ref (He.ga K "Lot"))) {f : Addr} {fd : FuncData} {dvs : List V} (D : DfM K dvs "uprights" "Lot.uprights" s_Lot_uprights ["self"] f fd) {f_rows_by_code : Addr} {fd_rows_by_code : FuncData} (D_rows_by_code : Df K mg "rows_by_code" s_rows_by_code ["first", "behind"] f_rows_by_code fd_rows_by_code) (G_rows_by_code : FnOk P w K mg base CX0 2 f_rows_by_code fd_rows_by_code ["first", "behind"] (spX K F_rows_by_code)) {f_lot_of : Addr} {fd_lot_of : FuncData} (D_lot_of : Df K mg "lot_of" s_lot_of ["many", "rows"] f_lot_of fd_lot_of) (G_lot_of : FnOk P w K mg base CX0 7 f_lot_of fd_lot_of ["many", "rows"] (spD K F_lot_of)) {f_code_of : Addr} {fd_code_of : FuncData} (D_code_of : Df K mg "code_of" s_code_of ["row"] f_code_of fd_code_of) (G_code_of : FnOk P w K mg base CX0 2 f_code_of fd_code_of ["row"] (spD K F_code_of)) {f__is_upright_to_all : Addr} {fd__is_upright_to_all : FuncData} (D__is_upright_to_all : Df K mg "_is_upright_to_all" s__is_upright_to_all ["code", "others"] f__is_upright_to_all fd__is_upright_to_all) (G__is_upright_to_all : FnOk P w K mg base CX0 4 f__is_upright_to_all fd__is_upright_to_all ["code", "others"] (spD K F__is_upright_to_all)) : FnOk P w K mg base CX0 8 f fd ["self"] (spD K F_Lot_uprights) := by
  obtain ⟨_, hI_SHIFT⟩ := T.i_SHIFT
  obtain ⟨_, hI_LOW⟩ := T.i_LOW
  obtain ⟨_, hI_MAX_THINGS⟩ := T.i_MAX_THINGS
  obtain ⟨_, hI_MAX_LAYINGS⟩ := T.i_MAX_LAYINGS
  obtain ⟨_, hI_MAX_UPRIGHT⟩ := T.i_MAX_UPRIGHT
  refine def_ok D.F sc_Lot_uprights (fun Γ cs R g => ?len) (fun cdv A outer s H E hr Γ cs R g => ?_)
  case len => obtain ⟨L, rfl, _⟩ := g; rfl
  obtain ⟨L, rfl, hL, h5, hz, rfl⟩ := g
  refine ⟨_, (pss_cons (ps_if (pt_cmpR op_gt (pe_fldK (pv 0) (by rfl)) (pe_glob (v := .int 7) rfl hI_MAX_UPRIGHT ⟨_, rfl⟩) (nomark _)) (pss_one ps_never) pss_nil)
      (pss_cons (ps_set (i := 1) sc_Lot_uprights.nd rfl (by first | exact .inl rfl | exact .inr rfl) (pe_lc (own := [("row", 3)]) (g := (gName 3)) (tt := tYes) rfl sc_Lot_uprights.nd (pi_tupK (pe_fldK (pv 0) (by rfl))) (blkOk_by (N := ["self", "codes", "rows", "row", "code"]) (sc := defScope s_Lot_uprights) (by decide +kernel)) (fun _ _ _ _ _ => (pg_name (i := 3) sc_Lot_uprights.nd rfl (by first | exact .inl rfl | exact .inr rfl))) (fun _ _ _ _ _ => pts_nil) (fun _ _ _ _ _ => (pe_call G_code_of (hr.mono (by decide)) (by rfl) D_code_of.g D_code_of.kp D_code_of.b .nil pass0 (pa_cons (pv 3) pa_nil)))))
      (pss_cons (ps_set (i := 2) sc_Lot_uprights.nd rfl (by first | exact .inl rfl | exact .inr rfl) (pe_frzs (pe_call G_rows_by_code (hr.mono (by decide)) (by rfl) D_rows_by_code.g D_rows_by_code.kp D_rows_by_code.b .nil pass0 (pa_cons pe_int (pa_cons (pe_fldK (pv 0) (by rfl)) pa_nil)))))
      (pss_one (ps_ret (pe_call G_lot_of (hr.mono (by decide)) (by rfl) D_lot_of.g D_lot_of.kp D_lot_of.b .nil pass0 (pa_cons (pe_fldK (pv 0) (by rfl)) (pa_cons (pe_lc (own := [("code", 4), ("row", 3)]) (g := (gTup K 2 (gCons (gName 4) (gCons (gName 3) gNil)))) (tt := _) rfl sc_Lot_uprights.nd (pi_items (pv 2)) (blkOk_by (N := ["self", "codes", "rows", "row", "code"]) (sc := defScope s_Lot_uprights) (by decide +kernel)) (fun _ _ _ _ _ => (pg_tup rfl (pgs_cons (pg_name (i := 4) sc_Lot_uprights.nd rfl (by first | exact .inl rfl | exact .inr rfl)) (pgs_cons (pg_name (i := 3) sc_Lot_uprights.nd rfl (by first | exact .inl rfl | exact .inr rfl)) pgs_nil)))) (fun _ _ _ _ _ => (pts_one (pt_val (pe_call G__is_upright_to_all (hr.mono (by decide)) (by rfl) D__is_upright_to_all.g D__is_upright_to_all.kp D__is_upright_to_all.b .nil pass0 (pa_cons (pv 4) (pa_cons (pv 1) pa_nil)))))) (fun _ _ _ _ _ => (pv 3))) pa_nil)))))))), fun Δ0 D' hf hn => ?_⟩
  have hlen : (rowsOf L.many).length ≤ 243 := by
    rw [rows_len]
    exact Nat.le_trans (Nat.pow_le_pow_right (by decide) h5) (by decide)
  refine wp_no (b := decide ((7 : Int) < (L.many : Int))) (by rw [decide_eq_false_iff_not]; omega) (et_test (ev_op1 (ev_lotMany CL (ev_var (i := 0))) ev_int (o2_B0 (g := fun i j => decide (j < i))))) ?_
  refine wp_asg1 (a := zN (L.rows.map codeT)) (ev_codes CL hL (ev_var (i := 0)) (j := 3) (ltr rfl) [3] (by decide)) (ltr rfl) ?_
  refine wp_asg (ev_frzN (I := ObIs (.dK (kvR 0 (rowsOf L.many)))) (en_callX (ea_1 ev_int (ea_1 (ev_lotMany CL (ev_var (i := 0))) ea_nil)) ⟨0, L.many, by rw [Nat.zero_add]; rfl, by omega, rfl⟩) fun o ho => by rw [show o = _ from ho]; exact trivial) (ltr rfl) fun z hzz => ?_
  obtain ⟨d, u⟩ := z
  have eu : u = HO.dK (kvR 0 (rowsOf L.many)) := hzz
  subst eu
  have S := src_items (K := K) (Γ := Γ) (te := tVar 2) (ja := 4) (jb := 3) (κ := Int) (ν := Tx) (x0 := fun k => ((codeT ((rowsOf L.many).getD k ⟨[]⟩) : Nat) : Int)) (y0 := fun k => (rowsOf L.many).getD k ⟨[]⟩) (ev_var (ρ := [some ⟨L⟩, some ⟨zN (L.rows.map codeT)⟩, some ⟨(⟨d, HO.dK (kvR 0 (rowsOf L.many))⟩ : Fz)⟩, none, none]) (i := 2)) (fun k hk => ⟨.inl ((codeT ((rowsOf L.many).getD k ⟨[]⟩) : Nat) : Int), by
    rw [kvR_len] at hk
    unfold kvR
    rw [List.getElem?_map, getD_of (d := ⟨[]⟩) hk]
    show some ((Sum.inl ((cf 0 ((rowsOf L.many).getD k ⟨[]⟩) : Nat) : Int) : Key), _) = _
    rw [cf_zero]
    rfl, rfl⟩) (ltr rfl) (ltr rfl)
  rw [kvR_len] at S
  have hc := fun E : XK => ev_lcD (K := K) (Γ := Γ) (xs := rowsOf L.many) (t := tB (tCall (spD K F__is_upright_to_all) [] E (tCons (tVar 4) (tCons (tVar 1) tNil)))) (te := tVar 3) (fun x => (L.rows.map codeT).all (uprC (codeT x))) (fun x => x) S (by omega) (vs := [4, 3]) (by decide) fun i x hi => by
    have e : (rowsOf L.many).getD i ⟨[]⟩ = x := by rw [List.getD_eq_getElem?_getD, hi]; rfl
    subst e
    exact ⟨et_B (ev_call1 (ea_1 (ev_var (i := 4) (a := ((codeT ((rowsOf L.many).getD i ⟨[]⟩) : Nat) : Int))) (ea_1 (ev_var (i := 1)) ea_nil)) ⟨_, L.rows.map codeT, rfl, rfl⟩), fun _ => ev_var (i := 3)⟩
  have ef : ((rowsOf L.many).filter fun x => (L.rows.map codeT).all (uprC (codeT x))).map (fun x => x) = upS L.many L.rows := List.map_id' _
  rw [ef] at hc
  refine wp_ret hf ((ev_call1 (Pb := LotOf L.many (upS L.many L.rows)) (ea_1 (ev_lotMany CL (ev_var (i := 0))) (ea_1 (hc _) ea_nil)) ⟨L.many, _, rfl, by omega, ?_, rfl⟩).imp fun M hM => LotOf.is hM)
  exact Nat.le_trans (List.length_filter_le _ _) (by omega)
end
end K03

set_option Elab.async false
set_option linter.all false
set_option maxRecDepth 100000
set_option maxHeartbeats 1000000
namespace K03
open PySem PySem.Spec PyProof.Rows L2 Z K00
section
variable {P : Program} {w : World} {K : PySem.W.Frag} {mg : Str → Option Value} {base : Heap}
structure Row2 (a b : Tx) : Prop where
  x : Row a
  y : Row b
  l : b.s.length = a.s.length
theorem tx_ne {a b : Nat} : (!decide ((⟨[a]⟩ : Tx) = ⟨[b]⟩)) = !decide (a = b) := by rw [decide_eq_decide.mpr tx1]
def apI (x y : Tx) : List Int := ix x.s.length fun i => ap (sg x i) (sg y i)
def F__law_laid : Pm Tx := fun _ cs R => ∃ (x y : Tx), cs = [⟨x⟩, ⟨y⟩] ∧ Row2 x y ∧ R = Is (laidT x y)
theorem sc__law_laid : FnScope ["_law_one", "_law_other", "_law_first", "_law_second"] ["_law_one", "_law_other"] (defScope s__law_laid) := ⟨rfl, rfl, rfl, by decide +kernel, rfl, by decide +kernel, by decide +kernel⟩
theorem ok__law_laid (T : Txt K mg) {f : Addr} {fd : FuncData} (D : Df K mg "_law_laid" s__law_laid ["_law_one", "_law_other"] f fd) : FnOk P w K mg base CX0 2 f fd ["_law_one", "_law_other"] (spD K F__law_laid) := by
  obtain ⟨_, hI_SHIFT⟩ := T.i_SHIFT
  obtain ⟨_, hI_LOW⟩ := T.i_LOW
  obtain ⟨_, hI_MAX_THINGS⟩ := T.i_MAX_THINGS
  obtain ⟨_, hI_MAX_LAYINGS⟩ := T.i_MAX_LAYINGS
  obtain ⟨_, hI_MAX_UPRIGHT⟩ := T.i_MAX_UPRIGHT
  refine def_ok D.F sc__law_laid (fun Γ cs R g => ?len) (fun cdv A outer s H E hr Γ cs R g => ?_)
  case len => obtain ⟨x, y, rfl, _⟩ := g; rfl
  obtain ⟨x, y, rfl, hx, rfl⟩ := g
  refine ⟨_, (pss_one (ps_ret (pe_joinK pe_str (pe_lc (own := [("_law_first", 2), ("_law_second", 3)]) (g := (gTup K 2 (gCons (gName 2) (gCons (gName 3) gNil)))) (tt := tYes) rfl sc__law_laid.nd (pi_zipS (by rfl) T.z_zip (pa_cons (pv 0) (pa_cons (pv 1) pa_nil))) (blkOk_by (N := ["_law_one", "_law_other", "_law_first", "_law_second"]) (sc := defScope s__law_laid) (by decide +kernel)) (fun _ _ _ _ _ => (pg_tup rfl (pgs_cons (pg_name (i := 2) sc__law_laid.nd rfl (by first | exact .inl rfl | exact .inr rfl)) (pgs_cons (pg_name (i := 3) sc__law_laid.nd rfl (by first | exact .inl rfl | exact .inr rfl)) pgs_nil)))) (fun _ _ _ _ _ => pts_nil) (fun _ _ _ _ _ => (pe_ifExp (pt_cmpR op_eq (pv 2) pe_str (nomark _)) (pv 3) (pv 2))))))), fun Δ0 D' hf hn => wp_ret hf (ev_mk hx.x.len (src_zipS (ea_1 (ev_var (i := 0)) (ea_1 (ev_var (i := 1)) ea_nil)) hx.l.symm (fun i hi => ⟨sg_at hi, sg_at (by rw [hx.l]; exact hi)⟩) (ltr rfl) (ltr rfl)) (by decide) fun i hi => ?_)⟩
  refine ev_if (et_test (ev_op1 (ev_var (i := 2)) (ev_strc [48]) o2_eqS)) (fun h => ?_) (fun h => ?_)
  · rw [if_pos (tx1.mp (of_decide_eq_true h))]
    exact ev_var (i := 3)
  · rw [if_neg (fun z => of_decide_eq_false h (tx1.mpr z))]
    exact ev_var (i := 2)
theorem ap_flip {c d : Nat} (hc : isSign c = true) (hd : isSign d = true) : (!decide (c = 48) && decide (d = sw c)) = ap c d := by
  unfold isSign at hc hd
  simp only [Bool.or_eq_true, beq_iff_eq] at hc hd
  rcases hc with (rfl | rfl) | rfl <;> rcases hd with (rfl | rfl) | rfl <;> rfl
def F__law_apart : Pm (List Int) := fun _ cs R => ∃ (x y : Tx), cs = [⟨x⟩, ⟨y⟩] ∧ Row2 x y ∧ R = Is (apI x y)
theorem sc__law_apart : FnScope ["_law_one", "_law_other", "_law_at", "_law_sign"] ["_law_one", "_law_other"] (defScope s__law_apart) := ⟨rfl, rfl, rfl, by decide +kernel, rfl, by decide +kernel, by decide +kernel⟩
theorem ok__law_apart (T : Txt K mg) {f : Addr} {fd : FuncData} (D : Df K mg "_law_apart" s__law_apart ["_law_one", "_law_other"] f fd) {f__law_flip : Addr} {fd__law_flip : FuncData} (D__law_flip : Df K mg "_law_flip" s__law_flip ["_law_sign"] f__law_flip fd__law_flip) (G__law_flip : FnOk P w K mg base CX0 2 f__law_flip fd__law_flip ["_law_sign"] (spD K F__law_flip)) : FnOk P w K mg base CX0 3 f fd ["_law_one", "_law_other"] (spD K F__law_apart) := by
  obtain ⟨_, hI_SHIFT⟩ := T.i_SHIFT
  obtain ⟨_, hI_LOW⟩ := T.i_LOW
  obtain ⟨_, hI_MAX_THINGS⟩ := T.i_MAX_THINGS
  obtain ⟨_, hI_MAX_LAYINGS⟩ := T.i_MAX_LAYINGS
  obtain ⟨_, hI_MAX_UPRIGHT⟩ := T.i_MAX_UPRIGHT
  refine def_ok D.F sc__law_apart (fun Γ cs R g => ?len) (fun cdv A outer s H E hr Γ cs R g => ?_)
  case len => obtain ⟨x, y, rfl, _⟩ := g; rfl
  obtain ⟨x, y, rfl, hx, rfl⟩ := g
  refine ⟨_, (pss_one (ps_ret (pe_lc (own := [("_law_at", 2), ("_law_sign", 3)]) (g := (gTup K 2 (gCons (gName 2) (gCons (gName 3) gNil)))) (tt := _) rfl sc__law_apart.nd (pi_enumS (by rfl) T.z_enumerate (pa_cons (pv 0) pa_nil)) (blkOk_by (N := ["_law_one", "_law_other", "_law_at", "_law_sign"]) (sc := defScope s__law_apart) (by decide +kernel)) (fun _ _ _ _ _ => (pg_tup rfl (pgs_cons (pg_name (i := 2) sc__law_apart.nd rfl (by first | exact .inl rfl | exact .inr rfl)) (pgs_cons (pg_name (i := 3) sc__law_apart.nd rfl (by first | exact .inl rfl | exact .inr rfl)) pgs_nil)))) (fun _ _ _ _ _ => (pts_one (PW.pt (pw_and (pt_cmpR op_ne (pv 3) pe_str (nomark _)) (pw_and1 (pt_cmpR op_eq (pe_ix ix_str (pv 1) (pv 2) (fun _ _ => rfl)) (pe_call G__law_flip (hr.mono (by decide)) (by rfl) D__law_flip.g D__law_flip.kp D__law_flip.b .nil pass0 (pa_cons (pv 3) pa_nil)) (nomark _))))))) (fun _ _ _ _ _ => (pv 2))))), fun Δ0 D' hf hn => wp_ret hf (ev_ix hx.x.len (src_enumS (ea_1 (ev_var (i := 0)) ea_nil) (fun i hi => sg_at hi) (ltr rfl) (ltr rfl)) (by decide) fun i hi => ⟨?_, ev_var (i := 2)⟩)⟩
  have hy : i < y.s.length := by rw [hx.l]; exact hi
  refine et_is (et_and (et_test (ev_op1 (ev_var (i := 3)) (ev_strc [48]) o2_neS)) fun _ => et_test (ev_op1 (row1 hx.y hy (ev_var (i := 1)) (ev_var (i := 2))) (ev_call1 (ea_1 (ev_var (i := 3)) ea_nil) ⟨_, rfl, hx.x.sg hi, rfl⟩) o2_eqS)) ?_
  rw [tx_ne, decide_eq_decide.mpr (tx1 (a := sg y i) (b := sw (sg x i)))]
  exact ap_flip (hx.x.sg hi) (hx.y.sg hy)
end
def ag (c d : Nat) : Bool := (!decide (c = 48)) && ((!decide (d = 48)) && decide (c = d))
def cm (c d : Nat) : Bool := (!decide (c = 48)) && (!decide (d = 48))
theorem tb_t (c j : Nat) : (tcode c).testBit j = (c.testBit (j + 9) || (decide (9 ≤ j) && (decide (j - 9 < 9) && c.testBit (j - 9)))) := by
  have e511 : (511 : Nat) = 2 ^ 9 - 1 := rfl
  rw [tcode, Nat.testBit_or, Nat.testBit_div_two_pow, Nat.testBit_mul_two_pow, e511, Nat.testBit_and, Nat.testBit_two_pow_sub_one, Nat.add_comm, Bool.and_comm (c.testBit (j - 9))]
theorem and_zero (a b : Nat) : a &&& b = 0 ↔ ∀ j, ¬ (a.testBit j = true ∧ b.testBit j = true) := by
  constructor
  · intro h j ⟨h1, h2⟩
    have q := congrArg (fun t => Nat.testBit t j) h
    simp only [Nat.testBit_and, h1, h2, Nat.zero_testBit] at q
    cases q
  · intro h
    apply Nat.eq_of_testBit_eq
    intro j
    rw [Nat.testBit_and, Nat.zero_testBit]
    have := h j
    revert this
    cases a.testBit j <;> cases b.testBit j <;> simp
theorem up_ag {x y : Tx} (h : Row2 x y) : codeT x &&& codeT y = 0 ↔ ∀ i, i < x.s.length → ag (sg x i) (sg y i) = false := by
  have h9 := h.x.len
  rw [and_zero]
  unfold codeT
  rw [h.l]
  constructor
  · intro q i hi
    have sx := h.x.sg hi
    have sy := h.y.sg (i := i) (by rw [h.l]; exact hi)
    have q1 := q i
    have q2 := q (i + 9)
    rw [tb_code x _ _ h9, tb_code y _ _ h9] at q1 q2
    unfold isSign at sx sy
    simp only [Bool.or_eq_true, beq_iff_eq] at sx sy
    unfold ag
    rcases sx with (sx | sx) | sx <;> rcases sy with (sy | sy) | sy <;> rw [sx, sy] <;> first | rfl | skip
    · exact absurd ⟨by simp [sx, hi], by simp [sy, hi]⟩ q1
    · exact absurd ⟨by simp [sx, hi], by simp [sy, hi]⟩ q2
  · intro q j ⟨h1, h2⟩
    rw [tb_code x _ _ h9] at h1
    rw [tb_code y _ _ h9] at h2
    simp only [Bool.or_eq_true, Bool.and_eq_true, decide_eq_true_eq] at h1 h2
    rcases h1 with h1 | h1 <;> rcases h2 with h2 | h2
    · have := q j h1.1
      rw [h1.2, h2.2] at this
      cases this
    · omega
    · omega
    · have := q (j - 9) h1.2.1
      rw [h1.2.2, h2.2.2] at this
      cases this
theorem up_ap {x y : Tx} (h : Row2 x y) : codeT x &&& tcode (codeT y) = 0 ↔ ∀ i, i < x.s.length → ap (sg x i) (sg y i) = false := by
  have h9 := h.x.len
  rw [and_zero]
  unfold codeT
  rw [h.l]
  constructor
  · intro q i hi
    have sx := h.x.sg hi
    have sy := h.y.sg (i := i) (by rw [h.l]; exact hi)
    have q1 := q i
    have q2 := q (i + 9)
    rw [tb_t, tb_code x _ _ h9, tb_code y _ _ h9, tb_code y _ _ h9] at q1 q2
    unfold isSign at sx sy
    simp only [Bool.or_eq_true, beq_iff_eq] at sx sy
    unfold ap
    rcases sx with (sx | sx) | sx <;> rcases sy with (sy | sy) | sy <;> rw [sx, sy] <;> first | rfl | skip
    · exact absurd ⟨by simp [sx, hi], by simp [sy, hi]⟩ q1
    · exact absurd ⟨by simp [sx, hi], by simp [sy, hi]; omega⟩ q2
  · intro q j ⟨h1, h2⟩
    rw [tb_code x _ _ h9] at h1
    rw [tb_t, tb_code y _ _ h9, tb_code y _ _ h9] at h2
    simp only [Bool.or_eq_true, Bool.and_eq_true, decide_eq_true_eq, Nat.add_sub_cancel] at h1 h2
    rcases h1 with h1 | h1
    · have := q j h1.1
      rcases h2 with (h2 | h2) | h2
      · omega
      · rw [h1.2, h2.2.2] at this
        cases this
      · omega
    · have := q (j - 9) h1.2.1
      rcases h2 with (h2 | h2) | h2
      · omega
      · omega
      · rcases h2.2.2 with h3 | h3
        · rw [h1.2.2, h3.2] at this
          cases this
        · omega
theorem cnt {p q : Nat → Bool} (h : ∀ i, p i = true → q i = true) : ∀ l : List Nat, (l.filter p).length ≤ (l.filter q).length ∧ ((l.filter p).length < (l.filter q).length ↔ ∃ i ∈ l, q i = true ∧ p i = false)
  | [] => ⟨Nat.le_refl _, by simp⟩
  | a :: l => by
    obtain ⟨h1, h2⟩ := cnt h l
    cases ep : p a with
    | true =>
      have eq := h a ep
      rw [List.filter_cons_of_pos ep, List.filter_cons_of_pos eq, List.length_cons, List.length_cons]
      refine ⟨by omega, ?_⟩
      rw [Nat.add_lt_add_iff_right, h2]
      constructor
      · rintro ⟨i, hi, q⟩
        exact ⟨i, List.mem_cons_of_mem _ hi, q⟩
      · rintro ⟨i, hi, q⟩
        rcases List.mem_cons.mp hi with rfl | hi
        · rw [ep] at q
          cases q.2
        · exact ⟨i, hi, q⟩
    | false =>
      rw [List.filter_cons_of_neg (by rw [ep]; decide)]
      cases eq : q a with
      | true =>
        rw [List.filter_cons_of_pos eq, List.length_cons]
        exact ⟨by omega, fun _ => ⟨a, List.mem_cons_self, eq, ep⟩, fun _ => by omega⟩
      | false =>
        rw [List.filter_cons_of_neg (by rw [eq]; decide)]
        refine ⟨h1, ?_⟩
        rw [h2]
        constructor
        · rintro ⟨i, hi, q⟩
          exact ⟨i, List.mem_cons_of_mem _ hi, q⟩
        · rintro ⟨i, hi, q⟩
          rcases List.mem_cons.mp hi with rfl | hi
          · rw [eq] at q
            cases q.1
          · exact ⟨i, hi, q⟩
def comI (x y : Tx) : List Int := ix x.s.length fun i => cm (sg x i) (sg y i)
theorem ix_nil {n : Nat} {p : Nat → Bool} : ix n p = [] ↔ ∀ i, i < n → p i = false := by
  unfold ix
  rw [List.map_eq_nil_iff, List.filter_eq_nil_iff]
  constructor
  · intro h i hi
    have := h i (List.mem_range.mpr hi)
    simpa using this
  · intro h i hi
    rw [h i (List.mem_range.mp hi)]
    decide
def upL (x y : Tx) : Bool := decide (comI x y = []) || (decide ((0 : Int) < (apI x y).length) && decide (((apI x y).length : Int) < (comI x y).length))
theorem upL_eq {x y : Tx} (h : Row2 x y) : upL x y = upr x y := by
  have e1 : (comI x y = []) ↔ (codeT x &&& codeT y = 0) ∧ (codeT x &&& tcode (codeT y) = 0) := by
    unfold comI
    rw [ix_nil, up_ag h, up_ap h]
    constructor
    · intro q
      refine ⟨fun i hi => ?_, fun i hi => ?_⟩
      · have := q i hi
        revert this
        unfold cm ag
        cases decide (sg x i = 48) <;> cases decide (sg y i = 48) <;> simp
      · have := q i hi
        revert this
        unfold cm ap
        cases decide (sg x i = 48) <;> cases decide (sg y i = 48) <;> simp
    · rintro ⟨q1, q2⟩ i hi
      have a1 := q1 i hi
      have a2 := q2 i hi
      revert a1 a2
      unfold cm ap ag
      cases decide (sg x i = 48) <;> cases decide (sg y i = 48) <;> cases decide (sg x i = sg y i) <;> simp
  have e2 : ((0 : Int) < (apI x y).length) ↔ ¬ (codeT x &&& tcode (codeT y) = 0) := by
    rw [up_ap h]
    have z : apI x y = [] ↔ ∀ i, i < x.s.length → ap (sg x i) (sg y i) = false := ix_nil
    rw [← z, ← List.length_eq_zero_iff]
    omega
  have e3 : (((apI x y).length : Int) < (comI x y).length) ↔ ¬ (codeT x &&& codeT y = 0) := by
    rw [up_ag h]
    unfold apI comI ix
    rw [List.length_map, List.length_map, Int.ofNat_lt, (cnt (fun i hi => ?_) _).2]
    · constructor
      · rintro ⟨i, hi, q1, q2⟩ q
        have a1 := q i (List.mem_range.mp hi)
        revert a1 q1 q2
        unfold cm ap ag
        cases decide (sg x i = 48) <;> cases decide (sg y i = 48) <;> cases decide (sg x i = sg y i) <;> simp
      · intro q
        refine Classical.byContradiction fun z => q fun i hi => ?_
        cases e : ag (sg x i) (sg y i) with
        | false => rfl
        | true =>
          refine absurd ⟨i, List.mem_range.mpr hi, ?_, ?_⟩ z
          · revert e
            unfold cm ag
            cases decide (sg x i = 48) <;> cases decide (sg y i = 48) <;> simp
          · revert e
            unfold ap ag
            cases decide (sg x i = 48) <;> cases decide (sg y i = 48) <;> cases decide (sg x i = sg y i) <;> simp
    · revert hi
      unfold cm ap
      cases decide (sg x i = 48) <;> cases decide (sg y i = 48) <;> simp
  unfold upL upr
  generalize codeT x &&& codeT y = A at e1 e3 ⊢
  generalize codeT x &&& tcode (codeT y) = B at e1 e2 ⊢
  by_cases a : A = 0
  · have d3 := decide_eq_false (fun z => e3.mp z a)
    by_cases b : B = 0
    · have d1 := decide_eq_true (e1.mpr ⟨a, b⟩)
      have d2 := decide_eq_false (fun z => e2.mp z b)
      rw [d1, d2, d3]
      simp [a, b]
    · have d1 := decide_eq_false (fun z => b (e1.mp z).2)
      have d2 := decide_eq_true (e2.mpr b)
      rw [d1, d2, d3]
      simp [a, b]
  · have d3 := decide_eq_true (e3.mpr a)
    have d1 := decide_eq_false (fun z => a (e1.mp z).1)
    by_cases b : B = 0
    · have d2 := decide_eq_false (fun z => e2.mp z b)
      rw [d1, d2, d3]
      simp [a, b]
    · have d2 := decide_eq_true (e2.mpr b)
      rw [d1, d2, d3]
      simp [a, b]
section
variable {P : Program} {w : World} {K : PySem.W.Frag} {mg : Str → Option Value} {base : Heap}
def F__law_upright : Pm Bool := fun _ cs R => ∃ (x y : Tx), cs = [⟨x⟩, ⟨y⟩] ∧ Row2 x y ∧ R = Is (upr x y)
theorem sc__law_upright : FnScope ["_law_one", "_law_other", "_law_common", "_law_unlike", "_law_at", "_law_sign"] ["_law_one", "_law_other"] (defScope s__law_upright) := ⟨rfl, rfl, rfl, by decide +kernel, rfl, by decide +kernel, by decide +kernel⟩
theorem ok__law_upright (T : Txt K mg) {f : Addr} {fd : FuncData} (D : Df K mg "_law_upright" s__law_upright ["_law_one", "_law_other"] f fd) {f__law_apart : Addr} {fd__law_apart : FuncData} (D__law_apart : Df K mg "_law_apart" s__law_apart ["_law_one", "_law_other"] f__law_apart fd__law_apart) (G__law_apart : FnOk P w K mg base CX0 3 f__law_apart fd__law_apart ["_law_one", "_law_other"] (spD K F__law_apart)) : FnOk P w K mg base CX0 4 f fd ["_law_one", "_law_other"] (spD K F__law_upright) := by
  obtain ⟨_, hI_SHIFT⟩ := T.i_SHIFT
  obtain ⟨_, hI_LOW⟩ := T.i_LOW
  obtain ⟨_, hI_MAX_THINGS⟩ := T.i_MAX_THINGS
  obtain ⟨_, hI_MAX_LAYINGS⟩ := T.i_MAX_LAYINGS
  obtain ⟨_, hI_MAX_UPRIGHT⟩ := T.i_MAX_UPRIGHT
  refine def_ok D.F sc__law_upright (fun Γ cs R g => ?len) (fun cdv A outer s H E hr Γ cs R g => ?_)
  case len => obtain ⟨x, y, rfl, _⟩ := g; rfl
  obtain ⟨x, y, rfl, hx, rfl⟩ := g
  refine ⟨_, (pss_cons (ps_setLc (i := 2) (own := [("_law_at", 4), ("_law_sign", 5)]) (g := (gTup K 2 (gCons (gName 4) (gCons (gName 5) gNil)))) (tt := _) rfl sc__law_upright.nd rfl rfl (sw_true rfl rfl rfl (by decide +kernel)) (pi_enumS (by rfl) T.z_enumerate (pa_cons (pv 0) pa_nil)) (blkOk_by (N := ["_law_one", "_law_other", "_law_common", "_law_unlike", "_law_at", "_law_sign"]) (sc := defScope s__law_upright) (by decide +kernel)) (fun _ _ _ _ _ => (pg_tup rfl (pgs_cons (pg_name (i := 4) sc__law_upright.nd rfl (by first | exact .inl rfl | exact .inr rfl)) (pgs_cons (pg_name (i := 5) sc__law_upright.nd rfl (by first | exact .inl rfl | exact .inr rfl)) pgs_nil)))) (fun _ _ _ _ _ => (pts_one (PW.pt (pw_and (pt_cmpR op_ne (pv 5) pe_str (nomark _)) (pw_and1 (pt_cmpR op_ne (pe_ix ix_str (pv 1) (pv 4) (fun _ _ => rfl)) pe_str (nomark _))))))) (fun _ _ _ _ _ => (pv 4)))
      (pss_cons (ps_set (i := 3) sc__law_upright.nd rfl (by first | exact .inl rfl | exact .inr rfl) (pe_call G__law_apart (hr.mono (by decide)) (by rfl) D__law_apart.g D__law_apart.kp D__law_apart.b .nil pass0 (pa_cons (pv 0) (pa_cons (pv 1) pa_nil))))
      (pss_one (ps_ret (pe_or (pe_cmpR (op_eqK hr.units) (pv 2) (pe_lst pa_nil) (nomark _)) (pe_one (pe_chain op_lt op_lt pe_int (pe_callB call_lenK (by rfl) T.z_len (by decide +kernel) (pa_cons (pv 3) pa_nil)) (pe_callB call_lenK (by rfl) T.z_len (by decide +kernel) (pa_cons (pv 2) pa_nil))))))))), fun Δ0 D' hf hn => ?_⟩
  refine wp_asg1 (a := comI x y) (ev_ix hx.x.len (src_enumS (ea_1 (ev_var (i := 0)) ea_nil) (fun i hi => sg_at hi) (ltr rfl) (ltr rfl)) (by decide) fun i hi => ⟨?_, ev_var (i := 4)⟩) (ltr rfl) ?_
  · refine et_is (et_and (et_test (ev_op1 (ev_var (i := 5)) (ev_strc [48]) o2_neS)) fun _ => et_test (ev_op1 (row1 hx.y (i := i) (by rw [hx.l]; exact hi) (ev_var (i := 1)) (ev_var (i := 4))) (ev_strc [48]) o2_neS)) ?_
    rw [tx_ne, tx_ne]
    rfl
  refine wp_asg1 (ev_call1 (ea_1 (ev_var (i := 0)) (ea_1 (ev_var (i := 1)) ea_nil)) ⟨x, y, rfl, hx, rfl⟩) (ltr rfl) ?_
  refine wp_ret hf (ev_is (ev_orV (ev_op1 (ev_var (i := 2) (a := comI x y)) (ev_lst (xs := ([] : List Int)) ea_nil (by decide)) o2_eqLI) fun _ => ev_chain ev_int (ev_cb (ev_var (i := 3) (a := apI x y)) o1_lenL) (ev_cb (ev_var (i := 2) (a := comI x y)) o1_lenL) o2_B0 o2_B0) (upL_eq hx))
end
end K03

set_option Elab.async false
set_option linter.all false
set_option maxRecDepth 100000
set_option maxHeartbeats 1000000
namespace K03
open PySem PySem.Spec PyProof.Rows L2 Z K00
theorem nodupT_len : ∀ {G P : List Tx}, G.Nodup → (∀ x ∈ G, x ∈ P) → G.length ≤ P.length
  | [], P, _, _ => Nat.zero_le _
  | g :: G, P, nd, h => by
    obtain ⟨h1, h2⟩ := List.nodup_cons.mp nd
    have hg := h g List.mem_cons_self
    have := nodupT_len (P := P.erase g) h2 fun x hx => (List.mem_erase_of_ne (fun z : x = g => h1 (z ▸ hx))).mpr (h x (List.mem_cons_of_mem _ hx))
    rw [List.length_erase_of_mem hg] at this
    have := List.length_pos_of_mem hg
    rw [List.length_cons]
    omega
structure BI (n : Nat) (rows fs ly : List Tx) : Prop where
  nd : fs.Nodup
  a : ∀ x ∈ fs, LayT n rows x
  z : zeroT n ∈ fs
  sub : ∀ x ∈ ly, x ∈ fs
  c : ∀ x ∈ fs, x ∉ ly → ∀ r ∈ rows, laidT x r ∈ fs
structure BL (n : Nat) (rows fs done ls : List Tx) : Prop where
  nd : ls.Nodup
  a : ∀ x ∈ ls, x ∉ fs ∧ LayT n rows x
  c : ∀ x ∈ done, ∀ r ∈ rows, laidT x r ∈ fs ∨ laidT x r ∈ ls
theorem mem_addT {ks : List Tx} {x y : Tx} : y ∈ addT ks x ↔ y ∈ ks ∨ y = x := by
  unfold addT
  split
  · rename_i h
    exact ⟨.inl, fun z => z.elim id fun e => e ▸ h⟩
  · rw [List.mem_append, List.mem_singleton]
theorem nd_addT {ks : List Tx} {x : Tx} (h : ks.Nodup) : (addT ks x).Nodup := by
  unfold addT
  split
  · exact h
  · rename_i hp
    rw [List.nodup_append]
    refine ⟨h, List.nodup_cons.mpr ⟨List.not_mem_nil, List.nodup_nil⟩, fun a ha b hb e => ?_⟩
    rw [List.mem_singleton.mp hb] at e
    exact hp (e ▸ ha)
section
variable {n : Nat} {rows fs ly ls : List Tx}
theorem bi_len (hn : n ≤ 5) (hR : ∀ r ∈ rows, r ∈ rowsOf n) {xs : List Tx} (nd : xs.Nodup) (h : ∀ x ∈ xs, LayT n rows x) : xs.length ≤ 243 := by
  have := nodupT_len nd fun x hx => layT_mem hn hR (h x hx)
  rw [rows_len] at this
  exact Nat.le_trans this (Nat.le_trans (Nat.pow_le_pow_right (by decide) hn) (by decide))
theorem bi_next (h : BI n rows fs ly) (b : BL n rows fs ly ls) : BI n rows (onceT fs ls) ls := by
  refine ⟨onceT_nodup _ _ h.nd, fun x hx => ?_, (onceT_mem _ _ _).mpr (.inl h.z), fun x hx => (onceT_mem _ _ _).mpr (.inr hx), fun x hx hn r hr => ?_⟩
  · rcases (onceT_mem _ _ _).mp hx with z | z
    · exact h.a x z
    · exact (b.a x z).2
  · rw [onceT_mem]
    rcases (onceT_mem _ _ _).mp hx with z | z
    · by_cases q : x ∈ ly
      · exact b.c x q r hr
      · exact .inl (h.c x z q r hr)
    · exact absurd z hn
theorem bi_grow (h : BI n rows fs ly) (b : BL n rows fs ly ls) (hne : ls ≠ []) : fs.length < (onceT fs ls).length := by
  obtain ⟨x, xs, rfl⟩ := List.exists_cons_of_ne_nil hne
  have hx := (b.a x List.mem_cons_self).1
  have := nodupT_len (G := x :: fs) (P := onceT fs (x :: xs)) (List.nodup_cons.mpr ⟨hx, h.nd⟩) fun y hy => (onceT_mem _ _ _).mpr (by
    rcases List.mem_cons.mp hy with z | z
    · exact .inr (by rw [z]; exact List.mem_cons_self)
    · exact .inl z)
  exact this
theorem bi_start (hn : n ≤ 5) : BI n rows [zeroT n] [zeroT n] := ⟨List.nodup_cons.mpr ⟨List.not_mem_nil, List.nodup_nil⟩, fun x hx => by rw [List.mem_singleton.mp hx]; exact .z, List.mem_cons_self, fun x hx => hx, fun x hx hn => absurd hx hn⟩
theorem bi_end (hn : n ≤ 5) (hR : ∀ r ∈ rows, r ∈ rowsOf n) (h : BI n rows fs []) {l : List Tx} (hs : SortedT fs l) : l = srt (layS n rows) := by
  refine srt_of (hs.1.nodup_iff.mpr h.nd) hs.2 fun x => ?_
  rw [hs.1.mem_iff, mem_layS hn hR]
  refine ⟨h.a x, fun q => ?_⟩
  induction q with
  | z => exact h.z
  | s _ hr ih => exact h.c _ ih (fun z => nomatch z) _ hr
end
section
variable {P : Program} {w : World} {K : PySem.W.Frag} {mg : Str → Option Value} {base : Heap}
def F__law_some : Pm (List Tx) := fun Γ cs R => ∃ (p : Addr) (xs : List Tx), cs = [⟨(⟨p⟩ : Z.Loc)⟩, ⟨xs⟩] ∧ (p, DiceI) ∈ Γ ∧ xs.length ≤ 1000 ∧ R = fun ys => ys.length ≤ xs.length ∧ ∀ y ∈ ys, y ∈ xs
theorem sc__law_some : FnScope ["_law_dice_here", "_law_items", "_law_item"] ["_law_dice_here", "_law_items"] (defScope s__law_some) := ⟨rfl, rfl, rfl, by decide +kernel, rfl, by decide +kernel, by decide +kernel⟩
theorem ok__law_some (T : Txt K mg) {f : Addr} {fd : FuncData} (D : Df K mg "_law_some" s__law_some ["_law_dice_here", "_law_items"] f fd) {f__law_roll : Addr} {fd__law_roll : FuncData} (D__law_roll : Df K mg "_law_roll" s__law_roll ["_law_dice_here", "_law_total"] f__law_roll fd__law_roll) (G__law_roll : FnOk P w K mg base CX0 2 f__law_roll fd__law_roll ["_law_dice_here", "_law_total"] (spD K F__law_roll)) : FnOk P w K mg base CX0 3 f fd ["_law_dice_here", "_law_items"] (spD K F__law_some) := by
  obtain ⟨_, hI_SHIFT⟩ := T.i_SHIFT
  obtain ⟨_, hI_LOW⟩ := T.i_LOW
  obtain ⟨_, hI_MAX_THINGS⟩ := T.i_MAX_THINGS
  obtain ⟨_, hI_MAX_LAYINGS⟩ := T.i_MAX_LAYINGS
  obtain ⟨_, hI_MAX_UPRIGHT⟩ := T.i_MAX_UPRIGHT
  refine def_ok D.F sc__law_some (fun Γ cs R g => ?len) (fun cdv A outer s H E hr Γ cs R g => ?_)
  case len => obtain ⟨p, xs, rfl, _⟩ := g; rfl
  obtain ⟨p, xs, rfl, hp, hz, rfl⟩ := g
  refine ⟨_, (pss_one (ps_ret (pe_lc (own := [("_law_item", 2)]) (g := (gName 2)) (tt := _) rfl sc__law_some.nd (pi_listK (pv 1)) (blkOk_by (N := ["_law_dice_here", "_law_items", "_law_item"]) (sc := defScope s__law_some) (by decide +kernel)) (fun _ _ _ _ _ => (pg_name (i := 2) sc__law_some.nd rfl (by first | exact .inl rfl | exact .inr rfl))) (fun _ _ _ _ _ => (pts_one (pt_cmpR op_eq (pe_call G__law_roll (hr.mono (by decide)) (by rfl) D__law_roll.g D__law_roll.kp D__law_roll.b .nil pass0 (pa_cons (pv 0) (pa_cons pe_int pa_nil))) pe_int (nomark _)))) (fun _ _ _ _ _ => (pv 2))))), fun Δ0 D' hf hn => ?_⟩
  refine wp_ret hf (ev_lc (fun i (acc : List Tx) => acc.length ≤ i ∧ ∀ y ∈ acc, y ∈ xs) (src_list (xs := xs) (x0 := fun i => xs.getD i ⟨[]⟩) (ev_var (i := 1)) (fun i hi => getD_of hi) (j := 2) (ltr rfl)) (by omega) (by decide) ⟨Nat.le_refl _, fun y hy => nomatch hy⟩ fun i acc hi h => ⟨_, et_eqP (ev_call1 (ea_1 (ev_var (i := 0)) (ea_1 ev_int ea_nil)) ⟨p, 2, rfl, hp, by decide, by decide, rfl⟩) ev_int, fun _ => ⟨Nat.le_succ_of_le h.1, h.2⟩, fun _ => ⟨Is (xs.getD i ⟨[]⟩), ev_var (i := 2), fun b hb => ⟨?_, fun y hy => ?_⟩⟩⟩)
  · rw [List.length_append]
    exact Nat.succ_le_succ h.1
  · rcases List.mem_append.mp hy with z | z
    · exact h.2 y z
    · rw [List.mem_singleton.mp z, show b = _ from hb]
      exact List.mem_of_getElem? (getD_of hi)
abbrev IvE (n : Nat) : Nat → Own → Z.Env → Prop := fun i Γ' ρ' => ∃ a b c d, ρ' = [some ⟨(n : Int)⟩, some ⟨(⟨rowsOf i⟩ : NL Tx)⟩, a, b, c, d]
abbrev IvE2 (Γ : Own) (p : Addr) (n i : Nat) (x : Option Cell) : Nat → Own → Z.Env → Prop := fun k Γ' ρ' => Γ' = OwnL p (((rowsOf i).take k).flatMap ext) :: Γ ∧ ∃ c d, ρ' = [some ⟨(n : Int)⟩, some ⟨(⟨rowsOf i⟩ : NL Tx)⟩, x, some ⟨(⟨p⟩ : Z.Loc)⟩, c, d]
def F__law_every_row : Own → List Cell → (NL Tx → Prop) → Prop := fun _ cs R => ∃ n : Nat, cs = [⟨(n : Int)⟩] ∧ n ≤ 9 ∧ R = Is ⟨rowsOf n⟩
theorem sc__law_every_row : FnScope ["_law_size", "_law_found", "_law_at", "_law_longer", "_law_row", "_law_sign"] ["_law_size"] (defScope s__law_every_row) := ⟨rfl, rfl, rfl, by decide +kernel, rfl, by decide +kernel, by decide +kernel⟩
theorem ok__law_every_row (T : Txt K mg) {f : Addr} {fd : FuncData} (D : Df K mg "_law_every_row" s__law_every_row ["_law_size"] f fd) : FnOk P w K mg base CX0 2 f fd ["_law_size"] (spD K F__law_every_row) := by
  obtain ⟨_, hI_SHIFT⟩ := T.i_SHIFT
  obtain ⟨_, hI_LOW⟩ := T.i_LOW
  obtain ⟨_, hI_MAX_THINGS⟩ := T.i_MAX_THINGS
  obtain ⟨_, hI_MAX_LAYINGS⟩ := T.i_MAX_LAYINGS
  obtain ⟨_, hI_MAX_UPRIGHT⟩ := T.i_MAX_UPRIGHT
  refine def_ok D.F sc__law_every_row (fun Γ cs R g => ?len) (fun cdv A outer s H E hr Γ cs R g => ?_)
  case len => obtain ⟨n, rfl, _⟩ := g; rfl
  obtain ⟨n, rfl, hn9, rfl⟩ := g
  refine ⟨_, (pss_cons (ps_set (i := 1) sc__law_every_row.nd rfl (by first | exact .inl rfl | exact .inr rfl) (pe_lst (pa_cons pe_str pa_nil)))
      (pss_cons (ps_for PassesOwn.never rfl (pi_range1 (by rfl) T.z_range (pa_cons (pv 0) pa_nil)) (pg_name (i := 2) sc__law_every_row.nd rfl (by first | exact .inl rfl | exact .inr rfl))
        (pss_cons (ps_set (i := 3) sc__law_every_row.nd rfl (by first | exact .inl rfl | exact .inr rfl) (pe_lst pa_nil))
        (pss_cons (ps_for PassesOwn.never rfl (pi_listK (pv 1)) (pg_name (i := 4) sc__law_every_row.nd rfl (by first | exact .inl rfl | exact .inr rfl))
          (pss_one (ps_expr (pe_bm PySem.F.plainAttrs_list PySem.F.slot_list_extend PySem.F.type_list_extend mt_extend (pv 3) (pa_cons (pe_lc (own := [("_law_sign", 5)]) (g := (gName 5)) (tt := tYes) rfl sc__law_every_row.nd (pi_str pe_str) (blkOk_by (N := ["_law_size", "_law_found", "_law_at", "_law_longer", "_law_row", "_law_sign"]) (sc := defScope s__law_every_row) (by decide +kernel)) (fun _ _ _ _ _ => (pg_name (i := 5) sc__law_every_row.nd rfl (by first | exact .inl rfl | exact .inr rfl))) (fun _ _ _ _ _ => pts_nil) (fun _ _ _ _ _ => (pe_op op_add_str (pv 4) (pv 5)))) pa_nil)))))
        (pss_one (ps_set (i := 1) sc__law_every_row.nd rfl (by first | exact .inl rfl | exact .inr rfl) (pe_callTy call_lstK (by rfl) T.z_list (by decide +kernel) (pa_cons (pv 3) pa_nil)))))))
      (pss_one (ps_ret (pv 1))))), fun Δ0 D' hf hn => ?_⟩
  refine wp_asg1 (a := (⟨rowsOf 0⟩ : NL Tx)) (ev_lstN (xs := [(⟨[]⟩ : Tx)]) (ea_1 (ev_strc []) ea_nil) (by decide)) (ltr rfl) ?_
  refine wp_for (IvE n) (src_rng1 (n := n) (ea_1 (ev_var (i := 0)) ea_nil) (by omega) (ltr rfl)) ⟨none, none, none, none, rfl⟩ (fun i Γ' ρ' h => by obtain ⟨a, b, c, d, rfl⟩ := h; rfl) ?_ ?_
  · rintro i Γ1 ρ' F' hi ⟨a, b, c, d, rfl⟩
    have hlen : (rowsOf i).length ≤ 6561 := by
      rw [rows_len]
      exact Nat.pow_le_pow_right (n := 3) (by decide) (show i ≤ 8 by omega)
    refine wp_newL (α := Tx) (ltr rfl) fun p ow => ?_
    refine wp_forN (IvE2 Γ1 p n i (some ⟨(i : Int)⟩)) (src_list (xs := rowsOf i) (x0 := fun k => (rowsOf i).getD k ⟨[]⟩) (ev_ofNL (y := ⟨rowsOf i⟩) (ev_var (i := 1))) (fun k hk => getD_of hk) (j := 4) (ltr rfl)) ⟨by simp, c, d, rfl⟩ (fun k Γ' ρ' h => by obtain ⟨_, x, y, rfl⟩ := h; rfl) ?_ ?_
    · rintro k Γ2 ρ' F2 hk ⟨rfl, x, y, rfl⟩
      have et : (rowsOf i).take (k + 1) = (rowsOf i).take k ++ [(rowsOf i).getD k ⟨[]⟩] := by
        rw [List.take_add_one, getD_of (d := (⟨[]⟩ : Tx)) hk]
        rfl
      have hs := rows_sz i ((rowsOf i).getD k ⟨[]⟩) (List.mem_of_getElem? (getD_of hk))
      refine wp_extL (P := fun ys : FL Tx => ys.l = ext ((rowsOf i).getD k ⟨[]⟩)) ow (fun ys hy => ?_) (ev_var (i := 3)) ((ev_lcF (β := Tx) (fun j acc => acc = (ext ((rowsOf i).getD k ⟨[]⟩)).take j) (src_str (x := ⟨[43, 45, 48]⟩) (c0 := sg3) (ev_strc [43, 45, 48]) (fun j hj => ?_) (j := 5) (ltr rfl)) (by decide) (by decide) rfl fun j acc hj h => ⟨_, et_yes, fun q => (by cases q), fun _ => ⟨_, ev_op1 (ev_var (i := 4)) (ev_var (i := 5)) (o2_addS (x := (rowsOf i).getD k ⟨[]⟩) (y := ⟨[sg3 j]⟩) (by rw [hs]; simp; omega)), fun b hb => ?_⟩⟩).imp fun ys hy => ?_) fun ys hy => ?_
      · rw [flat_len3, hy]
        have h1 : ((rowsOf i).take k).length ≤ (rowsOf i).length := List.length_take_le' k _
        show _ + 3 ≤ _
        omega
      · match j, hj with
        | 0, _ => rfl
        | 1, _ => rfl
        | 2, _ => rfl
      · rw [h, show b = _ from hb]
        match j, hj with
        | 0, _ => rfl
        | 1, _ => rfl
        | 2, _ => rfl
      · exact hy
      · refine wp_turn (Iv := IvE2 Γ1 p n i (some ⟨(i : Int)⟩)) ⟨?_, _, _, rfl⟩ rfl
        rw [et, List.flatMap_append, hy]
        simp
    · rintro Γ2 ρ' ⟨rfl, x, y, rfl⟩
      refine wp_asgL (P := Is (⟨rowsOf (i + 1)⟩ : NL Tx)) ((ev_lstO (xs := ((rowsOf i).take (rowsOf i).length).flatMap ext) List.mem_cons_self (ev_var (i := 3))).imp fun r hr => ?_) (ltr rfl) fun r hr => wp_turn (Iv := IvE n) ⟨some ⟨(i : Int)⟩, some ⟨(⟨p⟩ : Z.Loc)⟩, x, y, by rw [show r = _ from hr]; rfl⟩ rfl
      rw [show r = _ from hr, List.take_length]
      rfl
  · rintro Γ1 ρ' F' ⟨a, b, c, d, rfl⟩
    exact wp_ret hf (ev_var (i := 1))
def F__law_layings : Pm (List Tx) := fun _ cs R => ∃ (n : Nat) (rows : List Tx), cs = [⟨rows⟩, ⟨(n : Int)⟩] ∧ n ≤ 5 ∧ rows.length ≤ 1000 ∧ (∀ r ∈ rows, r ∈ rowsOf n) ∧ R = Is (srt (layS n rows))
abbrev IvW (Γ : Own) (Δ0 : Gh) (n : Nat) (rows : List Tx) : Nat → Own → Z.Env → Prop := fun m Γ' ρ' => ∃ (f : Addr) (fs ly : List Tx) (x4 x5 x6 x7 : Option Cell), Γ' = (f, ObIs (.dK (kvT fs))) :: Γ ∧ OwnP Δ0 Γ f ∧ BI n rows fs ly ∧ m = 2 * (243 - fs.length) + (if ly = [] then 0 else 1) ∧ ρ' = [some ⟨rows⟩, some ⟨(n : Int)⟩, some ⟨(⟨f⟩ : Z.Loc)⟩, some ⟨ly⟩, x4, x5, x6, x7]
abbrev IvA (Γ : Own) (n : Nat) (rows : List Tx) (f l : Addr) (fs ly : List Tx) : Nat → Own → Z.Env → Prop := fun i Γ' ρ' => ∃ (ls : List Tx) (x5 x6 x7 : Option Cell), Γ' = (l, ObIs (.dK (kvT ls))) :: (f, ObIs (.dK (kvT fs))) :: Γ ∧ BL n rows fs (ly.take i) ls ∧ ρ' = [some ⟨rows⟩, some ⟨(n : Int)⟩, some ⟨(⟨f⟩ : Z.Loc)⟩, some ⟨ly⟩, some ⟨(⟨l⟩ : Z.Loc)⟩, x5, x6, x7]
abbrev IvB2 (Γ : Own) (n : Nat) (rows : List Tx) (f l : Addr) (fs ly : List Tx) (i : Nat) (one : Tx) : Nat → Own → Z.Env → Prop := fun j Γ' ρ' => ∃ (ls : List Tx) (x6 x7 : Option Cell), Γ' = (l, ObIs (.dK (kvT ls))) :: (f, ObIs (.dK (kvT fs))) :: Γ ∧ BL n rows fs (ly.take i) ls ∧ (∀ r ∈ rows.take j, laidT one r ∈ fs ∨ laidT one r ∈ ls) ∧ ρ' = [some ⟨rows⟩, some ⟨(n : Int)⟩, some ⟨(⟨f⟩ : Z.Loc)⟩, some ⟨ly⟩, some ⟨(⟨l⟩ : Z.Loc)⟩, some ⟨one⟩, x6, x7]
abbrev IvC2 (Γ : Own) (n : Nat) (rows : List Tx) (f l : Addr) (fs ly ls : List Tx) (x5 x7 : Option Cell) : Nat → Own → Z.Env → Prop := fun k Γ' ρ' => ∃ (x6 : Option Cell), Γ' = (f, ObIs (.dK (kvT (onceT fs (ls.take k))))) :: Γ ∧ ρ' = [some ⟨rows⟩, some ⟨(n : Int)⟩, some ⟨(⟨f⟩ : Z.Loc)⟩, some ⟨ly⟩, some ⟨(⟨l, .dK (kvT ls)⟩ : Fz)⟩, x5, x6, x7]
theorem sc__law_layings : FnScope ["_law_rows", "_law_many", "_law_found", "_law_layer", "_law_later", "_law_one", "_law_row", "_law_here"] ["_law_rows", "_law_many"] (defScope s__law_layings) := ⟨rfl, rfl, rfl, by decide +kernel, rfl, by decide +kernel, by decide +kernel⟩
theorem ok__law_layings (T : Txt K mg) {f : Addr} {fd : FuncData} (D : Df K mg "_law_layings" s__law_layings ["_law_rows", "_law_many"] f fd) {f__law_laid : Addr} {fd__law_laid : FuncData} (D__law_laid : Df K mg "_law_laid" s__law_laid ["_law_one", "_law_other"] f__law_laid fd__law_laid) (G__law_laid : FnOk P w K mg base CX0 2 f__law_laid fd__law_laid ["_law_one", "_law_other"] (spD K F__law_laid)) : FnOk P w K mg base CX0 3 f fd ["_law_rows", "_law_many"] (spD K F__law_layings) := by
  obtain ⟨_, hI_SHIFT⟩ := T.i_SHIFT
  obtain ⟨_, hI_LOW⟩ := T.i_LOW
  obtain ⟨_, hI_MAX_THINGS⟩ := T.i_MAX_THINGS
  obtain ⟨_, hI_MAX_LAYINGS⟩ := T.i_MAX_LAYINGS
  obtain ⟨_, hI_MAX_UPRIGHT⟩ := T.i_MAX_UPRIGHT
  refine def_ok D.F sc__law_layings (fun Γ cs R g => ?len) (fun cdv A outer s H E hr Γ cs R g => ?_)
  case len => obtain ⟨n, rows, rfl, _⟩ := g; rfl
  obtain ⟨n, rows, rfl, h5, hz, hR, rfl⟩ := g
  refine ⟨_, (pss_cons (ps_par (i := 2) (j := 3) (by rfl) sc__law_layings.nd rfl rfl (by decide) rfl rfl (pa_cons (pe_disp (pps_cons (pe_op op_mulS pe_str (pv 1)) pe_bl pps_nil) (by rfl) (by rfl) (fun z => by cases z) (by decide)) (pa_cons (pe_lst (pa_cons (pe_op op_mulS pe_str (pv 1)) pa_nil)) pa_nil)) (by kernel_rfl))
      (pss_cons (ps_while PassesOwn.never (pt_cmpR (op_neK hr.units) (pv 3) (pe_lst pa_nil) (nomark _))
        (pss_cons (ps_set (i := 4) sc__law_layings.nd rfl (by first | exact .inl rfl | exact .inr rfl) pe_dnewK)
        (pss_cons (ps_for PassesOwn.never rfl (pi_listK (pv 3)) (pg_name (i := 5) sc__law_layings.nd rfl (by first | exact .inl rfl | exact .inr rfl))
          (pss_one (ps_for PassesOwn.never rfl (pi_listK (pv 0)) (pg_name (i := 6) sc__law_layings.nd rfl (by first | exact .inl rfl | exact .inr rfl))
            (pss_cons (ps_set (i := 7) sc__law_layings.nd rfl (by first | exact .inl rfl | exact .inr rfl) (pe_call G__law_laid (hr.mono (by decide)) (by rfl) D__law_laid.g D__law_laid.kp D__law_laid.b .nil pass0 (pa_cons (pv 5) (pa_cons (pv 6) pa_nil))))
            (pss_one (ps_if (pt_cmp (pc_dnotin (by exact hu_of hr) (pv 7) (by exact (pv 2))) (by rfl)) (pss_one (ps_dput (hu_of hr) (pv 4) (pv 7) pe_bl rfl)) pss_nil))))))
        (pss_cons (ps_for PassesOwn.never rfl (pi_keys (pe_frzs (pv 4))) (pg_name (i := 6) sc__law_layings.nd rfl (by first | exact .inl rfl | exact .inr rfl))
          (pss_one (ps_dput (hu_of hr) (pv 2) (pv 6) pe_bl rfl)))
        (pss_one (ps_set (i := 3) sc__law_layings.nd rfl (by first | exact .inl rfl | exact .inr rfl) (pe_callTy (call_listD rfl) (by rfl) T.z_list (by decide +kernel) (pa_cons (pv 4) pa_nil))))))))
      (pss_one (ps_ret (pe_callB (cr_sortedDT rfl) (by rfl) T.z_sorted (by decide +kernel) (pa_cons (pv 2) pa_nil)))))), fun Δ0 D' hf hn => ?_⟩
  have hrow : ∀ x ∈ rowsOf n, Row x := fun x hx => ⟨rows_sign n x hx, by rw [rows_sz n x hx]; omega⟩
  have ez : (zeroT n) = (⟨List.replicate n 48⟩ : Tx) := rfl
  have mz : ∀ {Γ' : Own} {ρ : Z.Env}, ρ[1]? = some (some ⟨(n : Int)⟩) → Ev K Γ' (tOp rMulS (tC (.str "0")) (tVar 1)) ρ (Is (zeroT n)) := fun h => ev_op1 (ev_strc [48]) (ev_var (i := 1) (a := (n : Int)) h) (o2_mulS rfl (by omega))
  refine wp_parDL (x := zeroT n) (y := zeroT n) (fun Γ' => mz rfl) (fun Γ' => ev_bl) (fun Γ' => mz rfl) (ltr rfl) (ltr rfl) fun f of => ?_
  refine wp_while (IvW Γ Δ0 n rows) ⟨f, _, _, none, none, none, none, rfl, of, bi_start h5, rfl, rfl⟩ fun m Γ' ρ' iv => ?_
  obtain ⟨f, fs, ly, x4, x5, x6, x7, rfl, of, bi, em, rfl⟩ := iv
  have lf := bi_len h5 hR bi.nd bi.a
  have tok : TOk ly := fun x hx => tx_ok (hrow x (layT_mem h5 hR (bi.a x (bi.sub x hx))))
  refine ⟨!decide (ly = []), et_test (ev_op1 (ev_var (i := 3) (a := ly)) (ev_lst (xs := ([] : List Tx)) ea_nil (by decide)) (o2_neLS tok (fun x hx => nomatch hx))), fun hb => ?_, fun hb => ?_⟩
  · have hne : ly ≠ [] := by simpa using hb
    have e1 : m = 2 * (243 - fs.length) + 1 := by rw [em, if_neg hne]
    refine wp_newD (ltr rfl) fun l ol => ?_
    have ol0 : OwnP Δ0 Γ l := ⟨ol.n0, fun q hq => ol.ne q (List.mem_cons_of_mem _ hq)⟩
    have fl : f ≠ l := ol.ne _ List.mem_cons_self
    have of2 : ∀ ls : List Tx, OwnP Δ0 ((l, ObIs (.dK (kvT ls))) :: Γ) f := fun ls => ⟨of.n0, fun q hq => by
      rcases List.mem_cons.mp hq with z | z
      · rw [z]; exact fun w => fl w.symm
      · exact of.ne q z⟩
    refine wp_forN (IvA Γ n rows f l fs ly) (src_list (xs := ly) (x0 := fun i => ly.getD i ⟨[]⟩) (ev_var (i := 3)) (fun i hi => getD_of hi) (j := 5) (ltr rfl)) ⟨[], x5, x6, x7, rfl, ⟨List.nodup_nil, (fun x hx => nomatch hx), (fun x hx => nomatch hx)⟩, rfl⟩ (fun i Γ' ρ' h => by obtain ⟨ls, a, b, c, _, _, rfl⟩ := h; rfl) ?_ ?_
    · rintro i Γ' ρ' F' hi ⟨ls, y5, y6, y7, rfl, bl, rfl⟩
      have hm : ly.getD i ⟨[]⟩ ∈ ly := List.mem_of_getElem? (getD_of hi)
      have hlay := bi.a _ (bi.sub _ hm)
      have et : ly.take (i + 1) = ly.take i ++ [ly.getD i ⟨[]⟩] := by
        rw [List.take_add_one, getD_of (d := (⟨[]⟩ : Tx)) hi]
        rfl
      refine wp_forN (tz := tNext) (IvB2 Γ n rows f l fs ly i (ly.getD i ⟨[]⟩)) (src_list (xs := rows) (x0 := fun i => rows.getD i ⟨[]⟩) (ev_var (i := 0)) (fun i hi => getD_of hi) (j := 6) (ltr rfl)) ⟨ls, y6, y7, rfl, bl, (fun r hr => nomatch hr), rfl⟩ (fun i Γ' ρ' h => by obtain ⟨ls, a, b, _, _, _, rfl⟩ := h; rfl) ?_ ?_
      · rintro j Γ' ρ' F2 hj ⟨ls, z6, z7, rfl, bl, hd, rfl⟩
        have hr : rows.getD j ⟨[]⟩ ∈ rows := List.mem_of_getElem? (getD_of hj)
        have etj : rows.take (j + 1) = rows.take j ++ [rows.getD j ⟨[]⟩] := by
          rw [List.take_add_one, getD_of (d := (⟨[]⟩ : Tx)) hj]
          rfl
        have s1 := rows_sz n _ (layT_mem h5 hR hlay)
        have s2 := rows_sz n _ (hR _ hr)
        refine wp_asg1 (a := laidT (ly.getD i ⟨[]⟩) (rows.getD j ⟨[]⟩)) (ev_call1 (ea_1 (ev_var (i := 5)) (ea_1 (ev_var (i := 6)) ea_nil)) ⟨_, _, rfl, ⟨hrow _ (layT_mem h5 hR hlay), hrow _ (hR _ hr), by rw [s1, s2]⟩, rfl⟩) (ltr rfl) ?_
        refine wp_if (et_B (ev_notInT (ks := fs) (List.mem_cons_of_mem _ List.mem_cons_self) (ev_var (i := 7)) (ev_var (i := 2)))) (fun hb => ?_) (fun hb => ?_)
        · have hnf : laidT (ly.getD i ⟨[]⟩) (rows.getD j ⟨[]⟩) ∉ fs := by simpa using hb
          have lls := bi_len h5 hR bl.nd fun x hx => (bl.a x hx).2
          refine wp_putT ol (by omega) ev_bl (ev_var (i := 4)) (ev_var (i := 7)) ?_
          refine wp_turn (Iv := IvB2 Γ n rows f l fs ly i (ly.getD i ⟨[]⟩)) ⟨_, _, _, rfl, ⟨nd_addT bl.nd, fun x hx => ?_, fun x hx r hr => (bl.c x hx r hr).imp id fun q => mem_addT.mpr (.inl q)⟩, fun r hr => ?_, rfl⟩ rfl
          · rcases mem_addT.mp hx with q | q
            · exact bl.a x q
            · rw [q]
              exact ⟨hnf, .s hlay hr⟩
          · rw [etj] at hr
            rcases List.mem_append.mp hr with q | q
            · exact (hd r q).imp id fun q => mem_addT.mpr (.inl q)
            · rw [List.mem_singleton.mp q]
              exact .inr (mem_addT.mpr (.inr rfl))
        · have hif : laidT (ly.getD i ⟨[]⟩) (rows.getD j ⟨[]⟩) ∈ fs := by simpa using hb
          refine wp_turn (Iv := IvB2 Γ n rows f l fs ly i (ly.getD i ⟨[]⟩)) ⟨ls, _, _, rfl, bl, fun r hr => ?_, rfl⟩ rfl
          rw [etj] at hr
          rcases List.mem_append.mp hr with q | q
          · exact hd r q
          · rw [List.mem_singleton.mp q]
            exact .inl hif
      · rintro Γ' ρ' ⟨ls, z6, z7, rfl, bl, hd, rfl⟩
        rw [List.take_length] at hd
        refine wp_turn (Iv := IvA Γ n rows f l fs ly) ⟨ls, _, _, _, rfl, ⟨bl.nd, bl.a, fun x hx r hr => ?_⟩, rfl⟩ rfl
        rw [et] at hx
        rcases List.mem_append.mp hx with q | q
        · exact bl.c x q r hr
        · rw [List.mem_singleton.mp q]
          exact hd r hr
    · rintro Γ' ρ' ⟨ls, y5, y6, y7, rfl, bl, rfl⟩
      rw [List.take_length] at bl
      have lls := bi_len h5 hR bl.nd fun x hx => (bl.a x hx).2
      have kl : (kvT ls).length = ls.length := List.length_map ..
      refine wp_forFz (i := 4) ⟨ol.n0, fun q hq => ol.ne q hq⟩ rfl ?_
      have S := src_keysZ (K := K) (Γ := (f, ObIs (.dK (kvT fs))) :: Γ) (j := 6) (κ := Tx) (x0 := fun i => ls.getD i ⟨[]⟩) (ev_var (ρ := [some ⟨rows⟩, some ⟨(n : Int)⟩, some ⟨(⟨f⟩ : Z.Loc)⟩, some ⟨ly⟩, some ⟨(⟨l, .dK (kvT ls)⟩ : Fz)⟩, y5, y6, y7]) (i := 4)) (fun i hi => by
        rw [kl] at hi
        refine ⟨.inr (tS (ls.getD i ⟨[]⟩)), .bl true, ?_, rfl⟩
        unfold kvT
        rw [List.getElem?_map, getD_of (d := ⟨[]⟩) hi]
        rfl) (ltr rfl)
      rw [kl] at S
      refine wp_forN (IvC2 Γ n rows f l fs ly ls y5 y7) S ⟨y6, by rw [List.take_zero]; rfl, rfl⟩ (fun i Γ' ρ' h => by obtain ⟨a, _, rfl⟩ := h; rfl) ?_ ?_
      · rintro k Γ' ρ' F' hk ⟨z6, rfl, rfl⟩
        have h1 := onceT_len (ls.take k) fs
        have h2 : (ls.take k).length ≤ ls.length := List.length_take_le' k ls
        refine wp_putT of (by omega) ev_bl (ev_var (i := 2)) (ev_var (i := 6) (a := ls.getD k ⟨[]⟩)) ?_
        have e : addT (onceT fs (ls.take k)) (ls.getD k ⟨[]⟩) = onceT fs (ls.take (k + 1)) := by
          rw [List.take_add_one, getD_of (d := (⟨[]⟩ : Tx)) hk]
          exact (onceT_snoc _ _ _).symm
        rw [e]
        exact wp_turn (Iv := IvC2 Γ n rows f l fs ly ls y5 y7) ⟨_, rfl, rfl⟩ rfl
      · rintro Γ' ρ' ⟨z6, rfl, rfl⟩
        rw [List.take_length]
        have bi2 := bi_next bi bl
        have l2 := bi_len h5 hR bi2.nd bi2.a
        refine wp_asgL (P := Is ls) (ev_listZ (ev_var (i := 4))) (ltr rfl) fun r hr => wp_turnW (Iv := IvW Γ Δ0 n rows) ⟨f, _, ls, some ⟨(⟨l, .dK (kvT ls)⟩ : Fz)⟩, y5, z6, y7, rfl, of, bi2, rfl, by rw [show r = ls from hr]; rfl⟩ ?_ rfl
        rw [e1]
        by_cases q : ls = []
        · rw [if_pos q, q]
          show 2 * (243 - fs.length) + 0 < _
          omega
        · have := bi_grow bi bl q
          rw [if_neg q]
          omega
  · have hl : ly = [] := by simpa using hb
    subst hl
    exact wp_ret hf ((ev_sortedD List.mem_cons_self (ev_var (i := 2))).imp fun l hs => bi_end h5 hR bi hs)
end
end K03

set_option Elab.async false
set_option linter.all false
set_option maxRecDepth 100000
set_option maxHeartbeats 2000000
namespace K03
open PySem PySem.Spec PyProof.Rows L2 Z K00
section
variable {α : Type} [Rp α] [Dt α]
theorem lay_all : ∀ {xs : List α}, (∀ x ∈ xs, PyData.canLay0 (Dt.d x) = true ∧ PyData.depth (Dt.d x) ≤ 5) → PyData.canLayAll0 (xs.map Dt.d) = true ∧ PyData.depthAll (xs.map Dt.d) ≤ 5
  | [], _ => by simp [PyData.canLayAll0, PyData.depthAll]
  | x :: xs, h => by
    have more := lay_all (xs := xs) fun y hy => h y (List.mem_cons_of_mem _ hy)
    have h1 := h x List.mem_cons_self
    rw [List.map_cons, PyData.canLayAll0, PyData.depthAll, more.1, h1.1]
    exact ⟨rfl, by omega⟩
theorem shaped_L {xs : List α} (h : ∀ x ∈ xs, PyData.canLay0 (Dt.d x) = true ∧ PyData.depth (Dt.d x) ≤ 5) : SeqAt.shaped (Dt.d xs) = true := by
  have q := lay_all h
  unfold SeqAt.shaped
  show (PyData.canLay0 (.list _) && decide (PyData.depth (.list _) ≤ 64)) = true
  rw [PyData.canLay0, PyData.depth, q.1, decide_eq_true (by omega)]
  rfl
theorem lay_tup {xs : Tup Tx} (h : TOk xs.l) : PyData.canLay0 (Dt.d xs) = true ∧ PyData.depth (Dt.d xs) ≤ 5 := by
  show PyData.canLay0 (.tuple _) = true ∧ PyData.depth (.tuple _) ≤ 5
  rw [PyData.canLay0, PyData.depth, (lay_txs h).1, (lay_txs h).2]
  exact ⟨rfl, by omega⟩
theorem lay_lst {xs : List Tx} (h : TOk xs) : PyData.canLay0 (Dt.d xs) = true ∧ PyData.depth (Dt.d xs) ≤ 5 := by
  show PyData.canLay0 (.list _) = true ∧ PyData.depth (.list _) ≤ 5
  rw [PyData.canLay0, PyData.depth, (lay_txs h).1, (lay_txs h).2]
  exact ⟨rfl, by omega⟩
theorem lay_tx {x : Tx} (h : PyData.canLay0 (Dt.d x) = true) : PyData.canLay0 (Dt.d x) = true ∧ PyData.depth (Dt.d x) ≤ 5 := ⟨h, Nat.zero_le _⟩
theorem lay_int {x : Int} : PyData.canLay0 (Dt.d x) = true ∧ PyData.depth (Dt.d x) ≤ 5 := ⟨rfl, Nat.zero_le _⟩
theorem lay_bl {x : Bool} : PyData.canLay0 (Dt.d x) = true ∧ PyData.depth (Dt.d x) ≤ 5 := ⟨rfl, Nat.zero_le _⟩
variable {K : PySem.W.Frag}
theorem canLay_of {d : PyData} (h : SeqAt.shaped d = true) : PyData.canLay0 d = true := by
  unfold SeqAt.shaped at h
  rw [Bool.and_eq_true] at h
  exact h.1
theorem o2_neSame {x : α} (h : SeqAt.shaped (Dt.d x) = true) : Op2 K (rNeD K) x x (Is false) := by
  have q := o2_neD (K := K) h h
  rw [SeqAt.eqv_refl _ (canLay_of h)] at q
  exact q
theorem o2_eqSame {x : α} (h : SeqAt.shaped (Dt.d x) = true) : Op2 K (rEqD K) x x (Is true) := by
  have q := o2_eqD (K := K) h h
  rw [SeqAt.eqv_refl _ (canLay_of h)] at q
  exact q
end
section
variable {K : PySem.W.Frag} {Γ : Own} {ρ : Z.Env} {ta tb te : TE} {tl : TA}
theorem o2_neLB {x y : List Bool} : Op2 K (rNeD K) x y (Is (!decide (x = y))) := by
  rw [← eqv_bls x y]
  exact o2_neD shaped_lB shaped_lB
/-- a fresh list, as a list -/
theorem ev_fl {α : Type} [Rp α] {xs : List α} (h : Ev K Γ te ρ (Is (⟨xs⟩ : FL α))) : Ev K Γ te ρ (Is xs) := ev_ofFL (h.imp fun y hy => by rw [show y = ⟨xs⟩ from hy]; rfl)
/-- Lot(n, rows) -/
theorem ev_lotNew {E : XK} {n : Nat} {xs : List Tx} (ha : EvA K Γ tl ρ (Is [⟨(n : Int)⟩, ⟨(⟨xs⟩ : Tup Tx)⟩])) (h9 : n ≤ 9) (hr : RowsN n xs) (hz : xs.length ≤ 50000) : Ev K Γ (tMake (He.ga K "Lot") (spI K (He.ga K "Lot") F_Lot___init__) [] E tl) ρ (LotIs n xs) :=
  (ev_make (F := F_Lot___init__) (Pb := LotOf n xs) (dvs := []) (dcs := []) (fun _ _ => trivial) ha ⟨n, ⟨xs⟩, rfl, h9, hr, hz, rfl⟩).imp fun _ h => h.is
/-- Lot(n) -/
theorem ev_lotEmpty {E : XK} {n : Nat} {a : Addr} (kt : KT K a []) (ha : EvA K Γ tl ρ (Is [⟨(n : Int)⟩])) (h9 : n ≤ 9) : Ev K Γ (tMake (He.ga K "Lot") (spI K (He.ga K "Lot") F_Lot___init__) [.ref a] E tl) ρ (LotIs n []) :=
  (ev_make (F := F_Lot___init__) (Pb := LotOf n []) (dvs := [.ref a]) (dcs := [⟨(⟨[]⟩ : Tup Tx)⟩]) (fun Δ H => ⟨⟨a, [], rfl, .inr kt, .inr kt, trivial⟩, trivial⟩) ha ⟨n, ⟨[]⟩, rfl, h9, (fun x hx => by cases hx), by decide, rfl⟩).imp fun _ h => h.is
theorem isInsM_lot {m : Str} (h1 : (m == ("_many" : Str)) = false) (h2 : (m == ("_known" : Str)) = false) (h3 : (m == ("_rows" : Str)) = false) : IsInsM K (He.ga K "Lot") m LotD := fun Δ H v L r => by
  obtain ⟨x, dx, d, vt, e, n, hx, _⟩ := r
  exact ⟨x, dx, _, e, hx, by simp only [List.lookup, h1, h2, h3]⟩
end
theorem tok_srt {n : Nat} {S : List Tx} (h9 : n ≤ 9) (h : RowsN n S) : TOk (srt S) := fun x hx => tx_ok ⟨(h x (srt_mem.mp hx)).2, by rw [(h x (srt_mem.mp hx)).1]; exact h9⟩
theorem rows_row {n : Nat} {S : List Tx} (h9 : n ≤ 9) (h : RowsN n S) {x : Tx} (hx : x ∈ S) : Row x := ⟨(h x hx).2, by rw [(h x hx).1]; exact h9⟩
theorem rows_srt {n : Nat} {S : List Tx} (h : RowsN n S) : RowsN n (srt S) := fun x hx => h x (srt_mem.mp hx)
/-- one == other, two lots -/
theorem eq_lots {n : Nat} {S T : List Tx} {L M : LotD} (hL : LotIs n S L) (hM : LotIs n T M) : (decide (L.many = M.many) && decide (L.rows = M.rows)) = decide (srt S = srt T) := by
  rw [hL.m, hM.m, decide_eq_true rfl, Bool.true_and, hL.r, hM.r]
section
variable {P : Program} {w : World} {K : PySem.W.Frag} {mg : Str → Option Value} {base : Heap}
/-- a lot well made -/
structure LotW (n : Nat) (S : List Tx) (L : LotD) : Prop where
  i : LotIs n S L
  o : LotOk L
theorem LotIs.well {n : Nat} {S : List Tx} {L : LotD} (h : LotIs n S L) (h9 : n ≤ 9) (hl : S.length ≤ 50000) (hr : RowsN n S) : LotW n S L := ⟨h, h.ok h9 hl hr⟩
theorem LotW.tok {n : Nat} {S : List Tx} {L : LotD} (h : LotW n S L) : TOk L.rows := fun x hx => tx_ok (h.o.row hx)
theorem LotW.rn {n : Nat} {S : List Tx} {L : LotD} (h : LotW n S L) : RowsN n S := fun x hx => by
  rw [← h.i.m]
  exact h.o.rows x (by rw [h.i.r]; exact srt_mem.mpr hx)
def inB (T : List Tx) (x : Tx) : Bool := decide (x ∈ T)
theorem rn_filter {n : Nat} {S : List Tx} {p : Tx → Bool} (h : RowsN n S) : RowsN n (S.filter p) := fun x hx => h x (List.mem_filter.mp hx).1
theorem rn_app {n : Nat} {S T : List Tx} (h : RowsN n S) (h2 : RowsN n T) : RowsN n (S ++ T) := fun x hx => (List.mem_append.mp hx).elim (h x) (h2 x)
variable {Γ : Own} {ρ : Z.Env} {ta tb : TE} {E : XK} {n : Nat} {S T : List Tx}
/-- one | other -/
theorem ev_orL (h9 : n ≤ 9) (hz : S.length + T.length ≤ 50000) (ha : Ev K Γ ta ρ (LotW n S)) (hb : Ev K Γ tb ρ (LotW n T)) : Ev K Γ (tOp (rOwnI (He.ga K "Lot") (spD K F_Lot___or__) E) ta tb) ρ (LotW n (S ++ T)) :=
  ev_binP isIns_lot ha hb fun a b hA hB => ⟨_, ⟨a, b, rfl, hA.o, hB.o, by rw [hA.i.m, hB.i.m], by
    rw [hA.i.r, hB.i.r]
    exact Nat.le_trans (Nat.add_le_add srt_len srt_len) hz, rfl⟩, fun c hc => by
    have h := (LotOf.is hc).congr (T := S ++ T) fun x => by rw [List.mem_append, List.mem_append, hA.i.r, hB.i.r, srt_mem, srt_mem]
    rw [hA.i.m] at h
    exact h.well h9 (by rw [List.length_append]; exact hz) (rn_app hA.rn hB.rn)⟩
/-- one & other -/
theorem ev_andL (h9 : n ≤ 9) (hz : S.length ≤ 50000) (ha : Ev K Γ ta ρ (LotW n S)) (hb : Ev K Γ tb ρ (LotW n T)) : Ev K Γ (tOp (rOwnI (He.ga K "Lot") (spD K F_Lot___and__) E) ta tb) ρ (LotW n (S.filter (inB T))) :=
  ev_binP isIns_lot ha hb fun a b hA hB => ⟨_, ⟨a, b, rfl, hA.o, by rw [hA.i.m, hB.i.m], rfl⟩, fun c hc => by
    have h := (LotOf.is hc).congr (T := S.filter (inB T)) fun x => by
      rw [List.mem_filter, List.mem_filter, hA.i.r, srt_mem]
      show _ ∧ decide (x ∈ b.known) = true ↔ _ ∧ decide (x ∈ T) = true
      rw [decide_eq_decide.mpr (hB.i.k x)]
    rw [hA.i.m] at h
    exact h.well h9 (Nat.le_trans (List.length_filter_le _ _) hz) (rn_filter hA.rn)⟩
/-- one - other -/
theorem ev_subL (h9 : n ≤ 9) (hz : S.length ≤ 50000) (ha : Ev K Γ ta ρ (LotW n S)) (hb : Ev K Γ tb ρ (LotW n T)) : Ev K Γ (tOp (rOwnI (He.ga K "Lot") (spD K F_Lot___sub__) E) ta tb) ρ (LotW n (S.filter fun x => !inB T x)) :=
  ev_binP isIns_lot ha hb fun a b hA hB => ⟨_, ⟨a, b, rfl, hA.o, by rw [hA.i.m, hB.i.m], rfl⟩, fun c hc => by
    have h := (LotOf.is hc).congr (T := S.filter fun x => !inB T x) fun x => by
      rw [List.mem_filter, List.mem_filter, hA.i.r, srt_mem]
      show _ ∧ (!decide (x ∈ b.known)) = true ↔ _ ∧ (!decide (x ∈ T)) = true
      rw [decide_eq_decide.mpr (hB.i.k x)]
    rw [hA.i.m] at h
    exact h.well h9 (Nat.le_trans (List.length_filter_le _ _) hz) (rn_filter hA.rn)⟩
/-- one == other, one != other -/
theorem ev_eqL (ha : Ev K Γ ta ρ (LotW n S)) (hb : Ev K Γ tb ρ (LotW n T)) : Ev K Γ (tOp (rOwnI (He.ga K "Lot") (spD K F_Lot___eq__) E) ta tb) ρ (Is (decide (srt S = srt T))) :=
  ev_binP isIns_lot ha hb fun a b hA hB => ⟨_, Fe1 hA.tok hB.tok, fun c hc => by
    show c = _
    rw [show c = _ from hc, eq_lots hA.i hB.i]⟩
theorem ev_neL (ha : Ev K Γ ta ρ (LotW n S)) (hb : Ev K Γ tb ρ (LotW n T)) : Ev K Γ (tOp (rOwnNe (He.ga K "Lot") (spD K F_Lot___eq__) E) ta tb) ρ (Is (!decide (srt S = srt T))) :=
  ev_neP isIns_lot ha hb fun a b hA hB => by
    rw [← eq_lots hA.i hB.i]
    exact Fe1 hA.tok hB.tok
/-- one.rows -/
theorem ev_rowsL (ha : Ev K Γ ta ρ (LotW n S)) : Ev K Γ (tProp (He.ga K "Lot") (spD K F_Lot_rows) [] E ta) ρ (Is (⟨srt S⟩ : Tup Tx)) :=
  ev_propP isIns_lot ha fun b hb => ⟨_, ⟨b, rfl, rfl⟩, fun c hc => by
    show c = _
    rw [show c = _ from hc, hb.i.r]⟩
theorem ev_unl {α β : Type} [Rp α] [Rp β] {te : TE} {x : α} (h : Ev K Γ te ρ (Is (.inl x : α ⊕ β))) : Ev K Γ te ρ (Is x) := fun Δ σ H Q s hh e k => h Δ σ H Q s hh e fun v H' a pa e1 r => by
  have ea : a = .inl x := pa
  subst ea
  exact k v H' x rfl e1 r
theorem ev_unr {α β : Type} [Rp α] [Rp β] {te : TE} {x : β} (h : Ev K Γ te ρ (Is (.inr x : α ⊕ β))) : Ev K Γ te ρ (Is x) := fun Δ σ H Q s hh e k => h Δ σ H Q s hh e fun v H' a pa e1 r => by
  have ea : a = .inr x := pa
  subst ea
  exact k v H' x rfl e1 r
theorem ev_inlP {α β : Type} [Rp α] [Rp β] {te : TE} {P : α → Prop} {Q : α ⊕ β → Prop} (h : Ev K Γ te ρ P) (q : ∀ a, P a → Q (.inl a)) : Ev K Γ te ρ Q := fun Δ σ H R s hh e k => h Δ σ H R s hh e fun v H' a pa e1 r => k v H' (.inl a) (q a pa) e1 r
theorem ev_inrP {α β : Type} [Rp α] [Rp β] {te : TE} {P : β → Prop} {Q : α ⊕ β → Prop} (h : Ev K Γ te ρ P) (q : ∀ a, P a → Q (.inr a)) : Ev K Γ te ρ Q := fun Δ σ H R s hh e k => h Δ σ H R s hh e fun v H' a pa e1 r => k v H' (.inr a) (q a pa) e1 r
/-- b.m(), b told by a predicate -/
theorem ev_methP {β γ : Type} [Rp β] [Rp γ] {Γ : Own} {ρ : Z.Env} {te : TE} {C : Addr} {E : XK} {m : Str} {F : Own → List Cell → (γ → Prop) → Prop} {Q : β → Prop} {Pb : γ → Prop} (hI : IsInsM K C m β) (h : Ev K Γ te ρ Q) (hF : ∀ b, Q b → ∃ R, F Γ [⟨b⟩] R ∧ ∀ c, R c → Pb c) : Ev K Γ (tMeth C m (spD K F) [] E te tNil) ρ Pb := fun Δ σ H Q' s hh e k =>
  h Δ σ H _ s hh e fun v H1 b pb e1 r1 => by
    obtain ⟨p, dx, fs, rfl, hp, hm⟩ := hI Δ H1 v _ r1
    obtain ⟨R, hR, hc⟩ := hF b pb
    exact ⟨p, dx, fs, rfl, hp, hm, Γ, Δ, [⟨b⟩], R, hR, s, e1.2, ⟨r1, trivial⟩, fun z H' c pc e3 r3 => k z H' c (hc c pc) (e1.trans e3) r3⟩
end
end K03

set_option Elab.async false
set_option linter.all false
set_option maxRecDepth 100000
set_option maxHeartbeats 2000000
namespace K03
open PySem PySem.Spec PyProof.Rows L2 Z K00
/-! rows upright to one another -/
def Up (x y : Tx) : Prop := uprC (codeT x) (codeT y) = true
theorem up_iff {x y : Tx} (h : Row2 x y) : Up x y ↔ ((∀ i, i < x.s.length → ag (sg x i) (sg y i) = false) ↔ ∀ i, i < x.s.length → ap (sg x i) (sg y i) = false) := by
  unfold Up uprC
  rw [decide_eq_true_eq, decide_eq_decide, up_ag h, up_ap h]
theorem ag_comm (c d : Nat) : ag c d = ag d c := by
  unfold ag
  by_cases h : c = d
  · subst h; rfl
  · have h2 : ¬ d = c := fun z => h z.symm
    rw [decide_eq_false h, decide_eq_false h2]
    simp
theorem ap_comm (c d : Nat) : ap c d = ap d c := by
  unfold ap
  by_cases h : c = d
  · subst h; rfl
  · have h2 : ¬ d = c := fun z => h z.symm
    rw [decide_eq_false h, decide_eq_false h2]
    cases decide (c = 48) <;> cases decide (d = 48) <;> rfl
section
variable {n : Nat} {S T : List Tx} {x y a b r : Tx}
theorem row2_of (hn : n ≤ 5) (hx : x ∈ rowsOf n) (hy : y ∈ rowsOf n) : Row2 x y := ⟨⟨rows_sign n x hx, by rw [rows_sz n x hx]; omega⟩, ⟨rows_sign n y hy, by rw [rows_sz n y hy]; omega⟩, by rw [rows_sz n x hx, rows_sz n y hy]⟩
theorem up_sym (hn : n ≤ 5) (hx : x ∈ rowsOf n) (hy : y ∈ rowsOf n) (h : Up x y) : Up y x := by
  rw [up_iff (row2_of hn hx hy), rows_sz n x hx] at h
  rw [up_iff (row2_of hn hy hx), rows_sz n y hy]
  have e1 : (∀ i, i < n → ag (sg y i) (sg x i) = false) ↔ ∀ i, i < n → ag (sg x i) (sg y i) = false := ⟨fun q i hi => by rw [ag_comm]; exact q i hi, fun q i hi => by rw [ag_comm]; exact q i hi⟩
  have e2 : (∀ i, i < n → ap (sg y i) (sg x i) = false) ↔ ∀ i, i < n → ap (sg x i) (sg y i) = false := ⟨fun q i hi => by rw [ap_comm]; exact q i hi, fun q i hi => by rw [ap_comm]; exact q i hi⟩
  rw [e1, e2]
  exact h
theorem sg_zero {i : Nat} (h : i < n) : sg (zeroT n) i = 48 := by
  unfold sg zeroT
  rw [List.getD_eq_getElem?_getD, List.getElem?_replicate, if_pos h]
  rfl
theorem up_zero (hn : n ≤ 5) (hx : x ∈ rowsOf n) : Up x (zeroT n) := by
  rw [up_iff (row2_of hn hx (zero_facts hn).2), rows_sz n x hx]
  refine ⟨fun _ i hi => ?_, fun _ i hi => ?_⟩
  · rw [sg_zero hi]
    unfold ap
    cases decide (sg x i = 48) <;> rfl
  · rw [sg_zero hi]
    unfold ag
    cases decide (sg x i = 48) <;> rfl
theorem up_laid (hn : n ≤ 5) (hx : x ∈ rowsOf n) (ha : a ∈ rowsOf n) (hb : b ∈ rowsOf n) (h1 : Up x a) (h2 : Up x b) : Up x (laidT a b) := by
  have hl := laid_mem (by omega) ha hb
  rw [up_iff (row2_of hn hx ha), rows_sz n x hx] at h1
  rw [up_iff (row2_of hn hx hb), rows_sz n x hx] at h2
  rw [up_iff (row2_of hn hx hl), rows_sz n x hx]
  have sl : ∀ i, i < n → sg (laidT a b) i = if sg a i = 48 then sg b i else sg a i := fun i hi => laid_sg (by rw [rows_sz n a ha]; exact hi)
  by_cases c : ∀ i, i < n → ag (sg x i) (sg a i) = false
  · have d := h1.mp c
    have eg : ∀ i, i < n → ag (sg x i) (sg (laidT a b) i) = ag (sg x i) (sg b i) ∧ ap (sg x i) (sg (laidT a b) i) = ap (sg x i) (sg b i) := fun i hi => by
      rw [sl i hi]
      by_cases q : sg a i = 48
      · rw [if_pos q]
        exact ⟨rfl, rfl⟩
      · rw [if_neg q]
        have c1 := c i hi
        have d1 := d i hi
        have hx48 : sg x i = 48 := Classical.byContradiction fun z => by
          unfold ag at c1
          unfold ap at d1
          rw [decide_eq_false z, decide_eq_false q] at c1 d1
          by_cases w : sg x i = sg a i
          · rw [decide_eq_true w] at c1
            cases c1
          · rw [decide_eq_false w] at d1
            cases d1
        unfold ag ap
        rw [decide_eq_true hx48]
        exact ⟨rfl, rfl⟩
    have e1 : (∀ i, i < n → ag (sg x i) (sg (laidT a b) i) = false) ↔ ∀ i, i < n → ag (sg x i) (sg b i) = false := ⟨fun q i hi => by rw [← (eg i hi).1]; exact q i hi, fun q i hi => by rw [(eg i hi).1]; exact q i hi⟩
    have e2 : (∀ i, i < n → ap (sg x i) (sg (laidT a b) i) = false) ↔ ∀ i, i < n → ap (sg x i) (sg b i) = false := ⟨fun q i hi => by rw [← (eg i hi).2]; exact q i hi, fun q i hi => by rw [(eg i hi).2]; exact q i hi⟩
    rw [e1, e2]
    exact h2
  · have d : ¬ ∀ i, i < n → ap (sg x i) (sg a i) = false := fun z => c (h1.mpr z)
    have keep : ∀ i, i < n → sg a i ≠ 48 → sg (laidT a b) i = sg a i := fun i hi q => by rw [sl i hi, if_neg q]
    refine ⟨fun q => absurd (fun i hi => ?_) c, fun q => absurd (fun i hi => ?_) d⟩
    · by_cases w : sg a i = 48
      · rw [w]
        unfold ag
        cases decide (sg x i = 48) <;> rfl
      · rw [← keep i hi w]
        exact q i hi
    · by_cases w : sg a i = 48
      · rw [w]
        unfold ap
        cases decide (sg x i = 48) <;> rfl
      · rw [← keep i hi w]
        exact q i hi
theorem laid_zl (hr : r ∈ rowsOf n) : laidT (zeroT n) r = r := by
  have e : laidT (zeroT n) r = mk r.s.length (sg r) := by
    unfold laidT
    have hl : (zeroT n).s.length = r.s.length := by rw [rows_sz n r hr]; exact List.length_replicate
    rw [hl]
    exact mk_congr fun i hi => by rw [sg_zero (by rw [← rows_sz n r hr]; exact hi), if_pos rfl]
  rw [e, mk_self]
theorem laid_zr (hx : x ∈ rowsOf n) : laidT x (zeroT n) = x := by
  have e : laidT x (zeroT n) = mk x.s.length (sg x) := mk_congr fun i hi => by
    by_cases q : sg x i = 48
    · rw [if_pos q, sg_zero (by rw [← rows_sz n x hx]; exact hi), q]
    · rw [if_neg q]
  rw [e, mk_self]
theorem laid_as {z : Tx} (hl : y.s.length = x.s.length) : laidT (laidT x y) z = laidT x (laidT y z) := by
  unfold laidT
  rw [mk_len]
  refine mk_congr fun i hi => ?_
  rw [mk_sg hi, mk_sg (by rw [hl]; exact hi)]
  by_cases q : sg x i = 48
  · rw [if_pos q, if_pos q]
  · rw [if_neg q, if_neg q, if_neg q]
theorem layT_in (hS : ∀ r ∈ S, r ∈ rowsOf n) (hr : r ∈ S) : LayT n S r := by
  have h := LayT.s (n := n) (rows := S) .z hr
  rw [laid_zl (hS r hr)] at h
  exact h
theorem layT_laid (hn : n ≤ 5) (hS : ∀ r ∈ S, r ∈ rowsOf n) (hx : LayT n S x) (hy : LayT n S y) : LayT n S (laidT x y) := by
  induction hy with
  | z => rw [laid_zr (layT_mem hn hS hx)]; exact hx
  | s hy' hr ih =>
    rw [← laid_as (by rw [rows_sz n _ (layT_mem hn hS hx), rows_sz n _ (layT_mem hn hS hy')])]
    exact .s ih hr
theorem layT_mono (h : ∀ r ∈ S, r ∈ T) (hx : LayT n S x) : LayT n T x := by
  induction hx with
  | z => exact .z
  | s _ hr ih => exact .s ih (h _ hr)
theorem mem_upS : x ∈ upS n S ↔ x ∈ rowsOf n ∧ ∀ r ∈ S, Up x r := by
  unfold upS
  rw [List.mem_filter, List.all_eq_true]
  refine and_congr_right fun _ => ⟨fun h r hr => h _ (List.mem_map.mpr ⟨r, hr, rfl⟩), fun h c hc => ?_⟩
  obtain ⟨r, hr, rfl⟩ := List.mem_map.mp hc
  exact h r hr
theorem layS_sub : ∀ r ∈ layS n S, r ∈ rowsOf n := fun r hr => by
  unfold layS at hr
  exact (List.mem_filter.mp hr).1
theorem upS_sub : ∀ r ∈ upS n S, r ∈ rowsOf n := fun r hr => (mem_upS.mp hr).1
theorem lay_idem (hn : n ≤ 5) (hS : ∀ r ∈ S, r ∈ rowsOf n) : x ∈ layS n (layS n S) ↔ x ∈ layS n S := by
  rw [mem_layS hn layS_sub, mem_layS hn hS]
  refine ⟨fun h => ?_, fun h => layT_in layS_sub ((mem_layS hn hS).mpr h)⟩
  induction h with
  | z => exact .z
  | s _ hr ih => exact layT_laid hn hS ih ((mem_layS hn hS).mp hr)
theorem up_lays (hn : n ≤ 5) (hS : ∀ r ∈ S, r ∈ rowsOf n) (hx : x ∈ rowsOf n) (h : ∀ r ∈ S, Up x r) (hy : LayT n S y) : Up x y := by
  induction hy with
  | z => exact up_zero hn hx
  | s hy' hr ih => exact up_laid hn hx (layT_mem hn hS hy') (hS _ hr) ih (h _ hr)
theorem up_of_lay (hn : n ≤ 5) (hS : ∀ r ∈ S, r ∈ rowsOf n) : x ∈ upS n (layS n S) ↔ x ∈ upS n S := by
  rw [mem_upS, mem_upS]
  exact ⟨fun h => ⟨h.1, fun r hr => h.2 r ((mem_layS hn hS).mpr (layT_in hS hr))⟩, fun h => ⟨h.1, fun y hy => up_lays hn hS h.1 h.2 ((mem_layS hn hS).mp hy)⟩⟩
theorem lay_of_up (hn : n ≤ 5) (hS : ∀ r ∈ S, r ∈ rowsOf n) : x ∈ layS n (upS n S) ↔ x ∈ upS n S := by
  rw [mem_layS hn upS_sub]
  refine ⟨fun h => mem_upS.mpr ⟨layT_mem hn upS_sub h, fun r hr => up_sym hn (hS r hr) (layT_mem hn upS_sub h) (up_lays hn upS_sub (hS r hr) (fun q hq => up_sym hn (upS_sub q hq) (hS r hr) ((mem_upS.mp hq).2 r hr)) h)⟩, fun h => layT_in upS_sub h⟩
theorem sub_twice (hn : n ≤ 5) (hS : ∀ r ∈ S, r ∈ rowsOf n) (hx : x ∈ S) : x ∈ upS n (upS n S) := mem_upS.mpr ⟨hS x hx, fun r hr => up_sym hn (upS_sub r hr) (hS x hx) ((mem_upS.mp hr).2 x hx)⟩
theorem up_three (hn : n ≤ 5) (hS : ∀ r ∈ S, r ∈ rowsOf n) : x ∈ upS n (upS n (upS n S)) ↔ x ∈ upS n S :=
  ⟨fun h => mem_upS.mpr ⟨upS_sub x h, fun r hr => (mem_upS.mp h).2 r (sub_twice hn hS hr)⟩, fun h => sub_twice hn upS_sub h⟩
theorem lay_sub_twice (hn : n ≤ 5) (hS : ∀ r ∈ S, r ∈ rowsOf n) (hx : x ∈ layS n S) : x ∈ upS n (upS n S) := mem_upS.mpr ⟨layS_sub x hx, fun r hr => up_sym hn (upS_sub r hr) (layS_sub x hx) ((mem_upS.mp ((up_of_lay hn hS).mpr hr)).2 x hx)⟩
theorem up_anti (h : ∀ r ∈ S, r ∈ T) (hx : x ∈ upS n T) : x ∈ upS n S := mem_upS.mpr ⟨upS_sub x hx, fun r hr => (mem_upS.mp hx).2 r (h r hr)⟩
theorem lay_mono2 (hn : n ≤ 5) (hT : ∀ r ∈ T, r ∈ rowsOf n) (h : ∀ r ∈ S, r ∈ T) (hx : x ∈ layS n S) : x ∈ layS n T := (mem_layS hn hT).mpr (layT_mono h ((mem_layS hn fun r hr => hT r (h r hr)).mp hx))
theorem rows_pw (hn : n ≤ 5) : (rowsOf n).Pairwise NL' := by
  have key : ∀ n, n < 6 → (rowsOf n).Pairwise NL' := by decide +kernel
  exact key n (by omega)
theorem srt_up (hn : n ≤ 5) : srt (upS n S) = upS n S := (srt_of ((rows_nd n).filter _) ((rows_pw hn).filter _) fun _ => Iff.rfl).symm
theorem layS_len (hn : n ≤ 5) : (layS n S).length ≤ 243 := by
  unfold layS
  refine Nat.le_trans (List.length_filter_le _ _) ?_
  rw [rows_len]
  exact Nat.le_trans (Nat.pow_le_pow_right (by decide) hn) (by decide)
theorem upS_len (hn : n ≤ 5) : (upS n S).length ≤ 243 := by
  unfold upS
  refine Nat.le_trans (List.length_filter_le _ _) ?_
  rw [rows_len]
  exact Nat.le_trans (Nat.pow_le_pow_right (by decide) hn) (by decide)
theorem rn_rows (h : RowsN n S) : ∀ r ∈ S, r ∈ rowsOf n := fun r hr => rows_all n r (h r hr).1 (h r hr).2
theorem rn_of (h : ∀ r ∈ S, r ∈ rowsOf n) : RowsN n S := fun r hr => ⟨rows_sz n r (h r hr), rows_sign n r (h r hr)⟩
theorem layS_congr (hn : n ≤ 5) (hS : ∀ r ∈ S, r ∈ rowsOf n) (m : ∀ x, x ∈ S ↔ x ∈ T) : x ∈ layS n S ↔ x ∈ layS n T := by
  rw [mem_layS hn hS, mem_layS hn fun r hr => hS r ((m r).mpr hr)]
  exact ⟨layT_mono fun r hr => (m r).mp hr, layT_mono fun r hr => (m r).mpr hr⟩
theorem upS_congr (m : ∀ x, x ∈ S ↔ x ∈ T) : x ∈ upS n S ↔ x ∈ upS n T := ⟨up_anti fun r hr => (m r).mpr hr, up_anti fun r hr => (m r).mp hr⟩
end
section
variable {P : Program} {w : World} {K : PySem.W.Frag} {mg : Str → Option Value} {base : Heap} {Γ : Own} {ρ : Z.Env} {ta tb te : TE} {E : XK} {n : Nat} {S : List Tx}
/-- one.layings(), one.uprights() -/
theorem ev_layL (hn : n ≤ 5) (hz : S.length ≤ 1000) (ha : Ev K Γ ta ρ (LotW n S)) : Ev K Γ (tMeth (He.ga K "Lot") "layings" (spD K F_Lot_layings) [] E ta tNil) ρ (LotW n (layS n S)) :=
  ev_methP (isInsM_lot (by decide +kernel) (by decide +kernel) (by decide +kernel)) ha fun b hb => ⟨_, ⟨b, rfl, hb.o, by rw [hb.i.m]; exact hn, by rw [hb.i.r]; exact Nat.le_trans srt_len hz, rfl⟩, fun c hc => by
    rw [hb.i.m, hb.i.r] at hc
    exact (hc.congr fun x => layS_congr hn (fun r hr => rn_rows hb.rn r (srt_mem.mp hr)) fun x => srt_mem).well (by omega) (Nat.le_trans (layS_len hn) (by decide)) (rn_of layS_sub)⟩
theorem ev_upL (hn : n ≤ 5) (hz : S.length ≤ 1000) (ha : Ev K Γ ta ρ (LotW n S)) : Ev K Γ (tMeth (He.ga K "Lot") "uprights" (spD K F_Lot_uprights) [] E ta tNil) ρ (LotW n (upS n S)) :=
  ev_methP (isInsM_lot (by decide +kernel) (by decide +kernel) (by decide +kernel)) ha fun b hb => ⟨_, ⟨b, rfl, hb.o, by rw [hb.i.m]; exact hn, by rw [hb.i.r]; exact Nat.le_trans srt_len hz, rfl⟩, fun c hc => by
    rw [hb.i.m, hb.i.r] at hc
    exact (hc.congr fun x => upS_congr fun x => srt_mem).well (by omega) (Nat.le_trans (upS_len hn) (by decide)) (rn_of upS_sub)⟩
theorem ev_listL (hz : S.length ≤ 1000) (ha : Ev K Γ ta ρ (LotW n S)) : Ev K Γ (tCB (rListI K (He.ga K "Lot") (spR K (F_Lot___iter__ K)) (spD K F_Lot___len__) E) (tCons ta tNil)) ρ (Is (srt S)) :=
  (ev_listI (Pb := LotW n S) (f := fun b => b.rows) isIns_lot ha (fun b hb => ⟨b, rfl, rfl⟩) (fun b hb => ⟨b, rfl, rfl⟩) (fun b hb => by
    rw [hb.i.r]
    exact Nat.le_trans srt_len (by omega))).imp fun ys hy => by
    obtain ⟨b, hb, rfl⟩ := hy
    exact hb.i.r
theorem wp_parP {Δ0 : Gh} {H0 : Hp} {F : List (V × Cell)} {tz : TS} {D : Ends} {i j : Nat} {tA : TA} {Q : List Cell → Prop} (h : EvA K Γ tA ρ Q) (hi : i < ρ.length) (hj : j < ρ.length) (k : ∀ cs, Q cs → ∃ c d : Cell, cs = [c, d] ∧ Wp K Δ0 H0 Γ F ((ρ.set i (some c)).set j (some d)) tz D) : Wp K Δ0 H0 Γ F ρ (tSeq (tPar i j tA) tz) D := fun σ H ⟨Δ, s, hh, e, f, e0, s1, s2⟩ =>
  h Δ σ H _ s hh e fun vs H' cs pcs e1 r => by
    obtain ⟨c, d, rfl, kk⟩ := k cs pcs
    match vs, r with
    | [v, w], r => exact ⟨v, w, rfl, kk _ H' ⟨Δ, s, e1.2, ((e.mono e1.1).set (c := c) hi r.1).set (c := d) (by rw [List.length_set]; exact hj) r.2.1, fun q hq => q.2.r.mono e1.1 (f q hq), ext0 e0 s1 s2 e1, s1, s2⟩⟩
/-- [.. for .. in range(n)], n some number -/
theorem ev_lcR {β : Type} [Rp β] {tA : TA} {g : TG} {t : TT} {vs : List Nat} {Pn : Nat → Prop} {Pb : β → Prop} (h : EvA K Γ tA ρ (fun cs => ∃ n : Nat, cs = [⟨(n : Int)⟩] ∧ Pn n)) (hs : ∀ n, Pn n → Ev K Γ (tLc (iRng1 (tCons (tC (.int (n : Int))) tNil)) g t te vs) ρ Pb) : Ev K Γ (tLc (iRng1 tA) g t te vs) ρ Pb := fun Δ σ H Q s hh e k =>
  h Δ σ H _ s hh e fun us H1 cs pcs e1 r => by
    obtain ⟨n, rfl, pn⟩ := pcs
    match us, r with
    | [v], r =>
      have ev : v = .int n := r.1
      subst ev
      exact hs n pn Δ σ H1 Q s e1.2 (e.mono e1.1) fun v H2 b pb e2 r2 => k v H2 b pb (e1.trans e2) r2
end
end K03

set_option Elab.async false
set_option linter.all false
set_option maxRecDepth 100000
set_option maxHeartbeats 2000000
namespace K03
open PySem PySem.Spec PyProof.Rows L2 Z K00
section
variable {P : Program} {w : World} {K : PySem.W.Frag} {mg : Str → Option Value} {base : Heap}
/-- if c: name = e -/
theorem wp_whenA {α : Type} [Rp α] {Δ0 : Gh} {H0 : Hp} {Γ : Own} {F : List (V × Cell)} {ρ : Z.Env} {c : TT} {te : TE} {tz : TS} {D : Ends} {i : Nat} {Pb : Bool → Prop} {Pa : α → Prop} {x : α} (hx : ρ[i]? = some (some ⟨x⟩)) (h : EvT K Γ c ρ Pb) (he : Pb true → Ev K Γ te ρ Pa) (h0 : Pb false → Pa x)
    (k : ∀ a, Pa a → Wp K Δ0 H0 Γ F (ρ.set i (some ⟨a⟩)) tz D) : Wp K Δ0 H0 Γ F ρ (tSeq (tIfS c (tAsg te (gName i)) tNext) tz) D :=
  wp_ifP (D := { D with nx := tz D }) h (fun hb => wp_asgL (he hb) (by rw [List.getElem?_eq_some_iff] at hx; exact hx.1) fun a ha => fun σ H st => k a ha σ H st) (fun hb => fun σ H st => by
    have e : ρ.set i (some ⟨x⟩) = ρ := List.ext_getElem? fun j => by
      by_cases hj : i = j
      · subst hj
        rw [List.getElem?_set_self (by rw [List.getElem?_eq_some_iff] at hx; exact hx.1), hx]
      · rw [List.getElem?_set_ne hj]
    have := k x (h0 hb) σ H
    rw [e] at this
    exact this st)
end
section
variable {K : PySem.W.Frag} {Γ : Own} {ρ : Z.Env} {ta tb te : TE} {tl : TA}
/-- told data, the items by f, chosen by p: a fresh list -/
theorem ev_lcDF {β : Type} [Rp β] {t : TT} {wi : TI} {g : TG} {js vs : List Nat} {τ : Type} {xs : List τ} {st : Nat → Z.Env → Z.Env} (p : τ → Bool) (f : τ → β) (S : Src K Γ wi g ρ js xs.length st) (hn : xs.length ≤ 50000) (hjs : ∀ j ∈ js, j ∈ vs)
    (hs : ∀ i x, xs[i]? = some x → EvT K Γ t (st i (wipeE ρ vs)) (Is (p x)) ∧ (p x = true → Ev K Γ te (st i (wipeE ρ vs)) (Is (f x)))) :
    Ev K Γ (tLc wi g t te vs) ρ (Is (⟨(xs.filter p).map f⟩ : FL β)) := by
  refine (ev_lcF (fun i acc => acc = ((xs.take i).filter p).map f) S hn hjs rfl fun i acc hi e => ?_).imp fun a h => by
    cases a
    show _ = _
    congr 1
    exact h.trans (by rw [List.take_length])
  have hx : xs[i]? = some xs[i] := List.getElem?_eq_getElem hi
  have et : xs.take (i + 1) = xs.take i ++ [xs[i]] := by rw [List.take_add_one, hx]; rfl
  obtain ⟨h1, h2⟩ := hs i _ hx
  refine ⟨_, h1, fun q => ?_, fun q => ⟨_, h2 (show true = _ from q).symm, fun b hb => ?_⟩⟩
  · have q' : p xs[i] = false := (show false = _ from q).symm
    rw [et, List.filter_append, List.filter_cons, q', e]
    simp
  · have q' : p xs[i] = true := (show true = _ from q).symm
    rw [et, List.filter_append, List.filter_cons, q', e, show b = f xs[i] from hb]
    simp
/-- Lot(n, some rows) -/
theorem ev_lotSome {Γ : Own} {ρ : Z.Env} {tl : TA} {E : XK} {n : Nat} {S : List Tx} (hr : RowsN n S) (h9 : n ≤ 9) (hz : S.length ≤ 50000) (ha : EvA K Γ tl ρ (fun cs => ∃ Z : List Tx, (Z.length ≤ S.length ∧ ∀ y ∈ Z, y ∈ S) ∧ cs = [⟨(n : Int)⟩, ⟨(⟨Z⟩ : Tup Tx)⟩])) :
    Ev K Γ (tMake (He.ga K "Lot") (spI K (He.ga K "Lot") F_Lot___init__) [] E tl) ρ (fun M : LotD => ∃ Z, LotW n Z M ∧ Z.length ≤ S.length ∧ ∀ x ∈ Z, x ∈ S) := fun Δ σ H Q s hh e k =>
  ha Δ σ H _ s hh e fun vs H1 cs pcs e1 r x dx hx hdx ne => by
    obtain ⟨Z, ⟨h1, h2⟩, rfl⟩ := pcs
    have hrZ : RowsN n Z := fun y hy => hr y (h2 y hy)
    exact ⟨Γ, Δ, [⟨(n : Int)⟩, ⟨(⟨Z⟩ : Tup Tx)⟩], LotOf n Z, x, dx, vs ++ [], H1, rfl, ⟨n, ⟨Z⟩, rfl, h9, hrZ, Nat.le_trans h1 hz, rfl⟩, s, e1.2, by rw [List.append_nil]; exact r, hx, hdx, ne, rfl, fun H' b pb e2 r2 => ⟨rfl, k _ H' b ⟨Z, (LotOf.is pb).well h9 (Nat.le_trans h1 hz) hrZ, h1, h2⟩ (e1.trans e2) r2⟩⟩
end
section
variable {P : Program} {w : World} {K : PySem.W.Frag} {mg : Str → Option Value} {base : Heap}
theorem rn_DR {n : Nat} {xs : List Tx} (h : ∀ x ∈ xs, DR n x) : RowsN n xs := fun x hx => ⟨(h x hx).2, (h x hx).1.all⟩
theorem well_is {n : Nat} {S T : List Tx} {L : LotD} (h : LotW n S L) (m : ∀ x, x ∈ S ↔ x ∈ T) : LotW n T L := ⟨h.i.congr m, h.o⟩
theorem srt_eq {S T : List Tx} (m : ∀ x, x ∈ S ↔ x ∈ T) : (!decide (srt S = srt T)) = false := by rw [decide_eq_true (srt_congr m)]; rfl
theorem no_rest {S T : List Tx} (h : ∀ x ∈ S, x ∈ T) : ∀ x, x ∈ (S.filter fun x => !inB T x) ↔ x ∈ ([] : List Tx) := fun x => by
  rw [List.mem_filter]
  refine ⟨fun ⟨a, b⟩ => ?_, fun z => nomatch z⟩
  unfold inB at b
  rw [decide_eq_true (h x a)] at b
  cases b
def F__law_right : Pm Bool := fun Γ cs R => ∃ p : Addr, cs = [⟨(⟨p⟩ : Z.Loc)⟩] ∧ (p, DiceI) ∈ Γ ∧ R = Is true
theorem sc__law_right : FnScope ["_law_dice_here", "_law_size", "_law_rows", "_law_lot", "_law_layings_here", "_law_uprights", "_law_due", "_law_twice", "_law_some_here", "_law_at", "_law_row", "_law_one"] ["_law_dice_here"] (defScope s__law_right) := ⟨rfl, rfl, rfl, by decide +kernel, rfl, by decide +kernel, by decide +kernel⟩
theorem ok__law_right (T : Txt K mg) (CL : LotT K) (CG : mg "Lot" = some (.ref (He.ga K "Lot"))) {f : Addr} {fd : FuncData} (D : Df K mg "_law_right" s__law_right ["_law_dice_here"] f fd) {f_Lot___iter__ : Addr} {fd_Lot___iter__ : FuncData} (CM_Lot___iter__ : Meth K (He.ga K "Lot") "__iter__" f_Lot___iter__ ∧ DfM K [] "__iter__" "Lot.__iter__" s_Lot___iter__ ["self"] f_Lot___iter__ fd_Lot___iter__) (G_Lot___iter__ : FnOk P w K mg base CX0 2 f_Lot___iter__ fd_Lot___iter__ ["self"] (spR K (F_Lot___iter__ K))) {f_Lot___len__ : Addr} {fd_Lot___len__ : FuncData} (CM_Lot___len__ : Meth K (He.ga K "Lot") "__len__" f_Lot___len__ ∧ DfM K [] "__len__" "Lot.__len__" s_Lot___len__ ["self"] f_Lot___len__ fd_Lot___len__) (G_Lot___len__ : FnOk P w K mg base CX0 2 f_Lot___len__ fd_Lot___len__ ["self"] (spD K F_Lot___len__)) {f_Lot___eq__ : Addr} {fd_Lot___eq__ : FuncData} (CM_Lot___eq__ : Meth K (He.ga K "Lot") "__eq__" f_Lot___eq__ ∧ DfM K [] "__eq__" "Lot.__eq__" s_Lot___eq__ ["self", "other"] f_Lot___eq__ fd_Lot___eq__) (G_Lot___eq__ : FnOk P w K mg base CX0 2 f_Lot___eq__ fd_Lot___eq__ ["self", "other"] (spD K F_Lot___eq__)) {f_Lot___sub__ : Addr} {fd_Lot___sub__ : FuncData} (CM_Lot___sub__ : Meth K (He.ga K "Lot") "__sub__" f_Lot___sub__ ∧ DfM K [] "__sub__" "Lot.__sub__" s_Lot___sub__ ["self", "other"] f_Lot___sub__ fd_Lot___sub__) (G_Lot___sub__ : FnOk P w K mg base CX0 7 f_Lot___sub__ fd_Lot___sub__ ["self", "other"] (spD K F_Lot___sub__)) {f_Lot_layings : Addr} {fd_Lot_layings : FuncData} (CM_Lot_layings : Meth K (He.ga K "Lot") "layings" f_Lot_layings ∧ DfM K [] "layings" "Lot.layings" s_Lot_layings ["self"] f_Lot_layings fd_Lot_layings) (G_Lot_layings : FnOk P w K mg base CX0 8 f_Lot_layings fd_Lot_layings ["self"] (spD K F_Lot_layings)) {f_Lot_uprights : Addr} {fd_Lot_uprights : FuncData} (CM_Lot_uprights : Meth K (He.ga K "Lot") "uprights" f_Lot_uprights ∧ DfM K [] "uprights" "Lot.uprights" s_Lot_uprights ["self"] f_Lot_uprights fd_Lot_uprights) (G_Lot_uprights : FnOk P w K mg base CX0 8 f_Lot_uprights fd_Lot_uprights ["self"] (spD K F_Lot_uprights)) {f__law_roll : Addr} {fd__law_roll : FuncData} (D__law_roll : Df K mg "_law_roll" s__law_roll ["_law_dice_here", "_law_total"] f__law_roll fd__law_roll) (G__law_roll : FnOk P w K mg base CX0 2 f__law_roll fd__law_roll ["_law_dice_here", "_law_total"] (spD K F__law_roll)) {f_Lot___init__ : Addr} {fd_Lot___init__ : FuncData} {dv_Lot___init__ : List V} (CP_Lot : Mk K (He.ga K "Lot") f_Lot___init__ ∧ DfM K dv_Lot___init__ "__init__" "Lot.__init__" s_Lot___init__ ["self", "many", "rows"] f_Lot___init__ fd_Lot___init__) (G_Lot___init__ : FnOk P w K mg base CX0 5 f_Lot___init__ fd_Lot___init__ ["self", "many", "rows"] (spI K (He.ga K "Lot") F_Lot___init__)) {a_Lot : Addr} (CB_Lot : Binds K fd_Lot___init__ ["self", "many", "rows"] [.ref a_Lot] ∧ KT K a_Lot []) {f__law_drawn_row : Addr} {fd__law_drawn_row : FuncData} (D__law_drawn_row : Df K mg "_law_drawn_row" s__law_drawn_row ["_law_dice_here", "_law_size"] f__law_drawn_row fd__law_drawn_row) (G__law_drawn_row : FnOk P w K mg base CX0 4 f__law_drawn_row fd__law_drawn_row ["_law_dice_here", "_law_size"] (spD K F__law_drawn_row)) {f__law_layings : Addr} {fd__law_layings : FuncData} (D__law_layings : Df K mg "_law_layings" s__law_layings ["_law_rows", "_law_many"] f__law_layings fd__law_layings) (G__law_layings : FnOk P w K mg base CX0 3 f__law_layings fd__law_layings ["_law_rows", "_law_many"] (spD K F__law_layings)) {f__law_every_row : Addr} {fd__law_every_row : FuncData} (D__law_every_row : Df K mg "_law_every_row" s__law_every_row ["_law_size"] f__law_every_row fd__law_every_row) (G__law_every_row : FnOk P w K mg base CX0 2 f__law_every_row fd__law_every_row ["_law_size"] (spD K F__law_every_row)) {f__law_some : Addr} {fd__law_some : FuncData} (D__law_some : Df K mg "_law_some" s__law_some ["_law_dice_here", "_law_items"] f__law_some fd__law_some) (G__law_some : FnOk P w K mg base CX0 3 f__law_some fd__law_some ["_law_dice_here", "_law_items"] (spD K F__law_some)) {f__law_turn : Addr} {fd__law_turn : FuncData} (D__law_turn : Df K mg "_law_turn" s__law_turn ["_law_row"] f__law_turn fd__law_turn) (G__law_turn : FnOk P w K mg base CX0 3 f__law_turn fd__law_turn ["_law_row"] (spD K F__law_turn)) {f__law_upright : Addr} {fd__law_upright : FuncData} (D__law_upright : Df K mg "_law_upright" s__law_upright ["_law_one", "_law_other"] f__law_upright fd__law_upright) (G__law_upright : FnOk P w K mg base CX0 4 f__law_upright fd__law_upright ["_law_one", "_law_other"] (spD K F__law_upright)) : FnOk P w K mg base CX0 15 f fd ["_law_dice_here"] (spD K F__law_right) := by
  obtain ⟨_, hI_SHIFT⟩ := T.i_SHIFT
  obtain ⟨_, hI_LOW⟩ := T.i_LOW
  obtain ⟨_, hI_MAX_THINGS⟩ := T.i_MAX_THINGS
  obtain ⟨_, hI_MAX_LAYINGS⟩ := T.i_MAX_LAYINGS
  obtain ⟨_, hI_MAX_UPRIGHT⟩ := T.i_MAX_UPRIGHT
  refine def_ok D.F sc__law_right (fun Γ cs R g => ?len) (fun cdv A outer s H E hr Γ cs R g => ?_)
  case len => obtain ⟨p, rfl, _⟩ := g; rfl
  obtain ⟨p, rfl, hp, rfl⟩ := g
  refine ⟨_, (pss_cons (ps_set (i := 1) sc__law_right.nd rfl (by first | exact .inl rfl | exact .inr rfl) (pe_call G__law_roll (hr.mono (by decide)) (by rfl) D__law_roll.g D__law_roll.kp D__law_roll.b .nil pass0 (pa_cons (pv 0) (pa_cons pe_int pa_nil))))
      (pss_cons (ps_set (i := 2) sc__law_right.nd rfl (by first | exact .inl rfl | exact .inr rfl) (pe_lc (own := [("_law_at", 9)]) (g := (gName 9)) (tt := tYes) rfl sc__law_right.nd (pi_range1 (by rfl) T.z_range (pa_cons (pe_call G__law_roll (hr.mono (by decide)) (by rfl) D__law_roll.g D__law_roll.kp D__law_roll.b .nil pass0 (pa_cons (pv 0) (pa_cons pe_int pa_nil))) pa_nil)) (blkOk_by (N := ["_law_dice_here", "_law_size", "_law_rows", "_law_lot", "_law_layings_here", "_law_uprights", "_law_due", "_law_twice", "_law_some_here", "_law_at", "_law_row", "_law_one"]) (sc := defScope s__law_right) (by decide +kernel)) (fun _ _ _ _ _ => (pg_name (i := 9) sc__law_right.nd rfl (by first | exact .inl rfl | exact .inr rfl))) (fun _ _ _ _ _ => pts_nil) (fun _ _ _ _ _ => (pe_call G__law_drawn_row (hr.mono (by decide)) (by rfl) D__law_drawn_row.g D__law_drawn_row.kp D__law_drawn_row.b .nil pass0 (pa_cons (pv 0) (pa_cons (pv 1) pa_nil))))))
      (pss_cons (ps_if (pt_cmpR op_eq (pe_call G__law_roll (hr.mono (by decide)) (by rfl) D__law_roll.g D__law_roll.kp D__law_roll.b .nil pass0 (pa_cons (pv 0) (pa_cons pe_int pa_nil))) pe_int (nomark _)) (pss_one (ps_set (i := 2) sc__law_right.nd rfl (by first | exact .inl rfl | exact .inr rfl) (pe_op op_cat (pv 2) (pe_lc (own := [("_law_row", 10)]) (g := (gName 10)) (tt := tYes) rfl sc__law_right.nd (pi_listK (pv 2)) (blkOk_by (N := ["_law_dice_here", "_law_size", "_law_rows", "_law_lot", "_law_layings_here", "_law_uprights", "_law_due", "_law_twice", "_law_some_here", "_law_at", "_law_row", "_law_one"]) (sc := defScope s__law_right) (by decide +kernel)) (fun _ _ _ _ _ => (pg_name (i := 10) sc__law_right.nd rfl (by first | exact .inl rfl | exact .inr rfl))) (fun _ _ _ _ _ => pts_nil) (fun _ _ _ _ _ => (pe_call G__law_turn (hr.mono (by decide)) (by rfl) D__law_turn.g D__law_turn.kp D__law_turn.b .nil pass0 (pa_cons (pv 10) pa_nil))))))) pss_nil)
      (pss_cons (ps_set (i := 3) sc__law_right.nd rfl (by first | exact .inl rfl | exact .inr rfl) (pe_make CP_Lot.1 G_Lot___init__ (hr.mono (by decide)) (by rfl) CG CP_Lot.2.b .nil pass0 (pa_cons (pv 1) (pa_cons (pe_callTy call_tupK (by rfl) T.z_tuple (by decide +kernel) (pa_cons (pv 2) pa_nil)) pa_nil))))
      (pss_cons (ps_par (i := 4) (j := 5) (by rfl) sc__law_right.nd rfl rfl (by decide) rfl rfl (pa_cons (pe_meth0 (pv 3) CL.cl CM_Lot_layings.1 G_Lot_layings (hr.mono (by decide)) CM_Lot_layings.2.b .nil pass0) (pa_cons (pe_meth0 (pv 3) CL.cl CM_Lot_uprights.1 G_Lot_uprights (hr.mono (by decide)) CM_Lot_uprights.2.b .nil pass0) pa_nil)) (by kernel_rfl))
      (pss_cons (ps_if (PW.pt (pw_or (pt_cmpR (op_neK hr.units) (pe_callTy (call_listI (n := 2) (E := fun _ _ _ => False) CM_Lot___iter__.1.at_ CM_Lot___iter__.1.fn (G_Lot___iter__.mono (by decide)) CM_Lot___iter__.2.b CM_Lot___len__.1.at_ CM_Lot___len__.1.fn (G_Lot___len__.mono (by decide)) CM_Lot___len__.2.b (hr.mono (by decide))) (by rfl) T.z_list (by decide +kernel) (pa_cons (pv 4) pa_nil)) (pe_call G__law_layings (hr.mono (by decide)) (by rfl) D__law_layings.g D__law_layings.kp D__law_layings.b .nil pass0 (pa_cons (pv 2) (pa_cons (pv 1) pa_nil))) (nomark _)) (pw_or1 (pt_cmpR ((fun a b c d e f => op_neI CL.ne a b CL.cm c d e f) (by first | exact CM_Lot___eq__.1.at_ | (rw [show dunder _ = ("__eq__" : Str) from by decide +kernel]; exact CM_Lot___eq__.1.at_)) CM_Lot___eq__.1.fn G_Lot___eq__ (hr.mono (by decide)) CM_Lot___eq__.2.b pass0) (pe_meth0 (pv 4) CL.cl CM_Lot_layings.1 G_Lot_layings (hr.mono (by decide)) CM_Lot_layings.2.b .nil pass0) (pv 4) (nomark _))))) (pss_one (ps_ret pe_bl)) pss_nil)
      (pss_cons (ps_setLc (i := 6) (own := [("_law_one", 11)]) (g := (gName 11)) (tt := _) rfl sc__law_right.nd rfl rfl (sw_true rfl rfl rfl (by decide +kernel)) (pi_listK (pe_call G__law_every_row (hr.mono (by decide)) (by rfl) D__law_every_row.g D__law_every_row.kp D__law_every_row.b .nil pass0 (pa_cons (pv 1) pa_nil))) (blkOk_by (N := ["_law_dice_here", "_law_size", "_law_rows", "_law_lot", "_law_layings_here", "_law_uprights", "_law_due", "_law_twice", "_law_some_here", "_law_at", "_law_row", "_law_one"]) (sc := defScope s__law_right) (by decide +kernel)) (fun _ _ _ _ _ => (pg_name (i := 11) sc__law_right.nd rfl (by first | exact .inl rfl | exact .inr rfl))) (fun _ _ _ _ _ => (pts_one (pt_val (pe_callB (cr_allK rfl) (by rfl) T.z_all (by decide +kernel) (pa_cons (pe_lc (own := [("_law_row", 10)]) (g := (gName 10)) (tt := tYes) rfl sc__law_right.nd (pi_listK (pv 2)) (blkOk_by (N := ["_law_dice_here", "_law_size", "_law_rows", "_law_lot", "_law_layings_here", "_law_uprights", "_law_due", "_law_twice", "_law_some_here", "_law_at", "_law_row", "_law_one"]) (sc := _) (by kernel_rfl)) (fun _ _ _ _ _ => (pg_name (i := 10) sc__law_right.nd rfl (by first | exact .inl rfl | exact .inr rfl))) (fun _ _ _ _ _ => pts_nil) (fun _ _ _ _ _ => (pe_call G__law_upright (hr.mono (by decide)) (by rfl) D__law_upright.g D__law_upright.kp D__law_upright.b .nil pass0 (pa_cons (pv 11) (pa_cons (pv 10) pa_nil))))) pa_nil))))) (fun _ _ _ _ _ => (pv 11)))
      (pss_cons (ps_if (PW.pt (pw_or (pt_cmpR (op_neK hr.units) (pe_callTy (call_listI (n := 2) (E := fun _ _ _ => False) CM_Lot___iter__.1.at_ CM_Lot___iter__.1.fn (G_Lot___iter__.mono (by decide)) CM_Lot___iter__.2.b CM_Lot___len__.1.at_ CM_Lot___len__.1.fn (G_Lot___len__.mono (by decide)) CM_Lot___len__.2.b (hr.mono (by decide))) (by rfl) T.z_list (by decide +kernel) (pa_cons (pv 5) pa_nil)) (pv 6) (nomark _)) (pw_or (pt_cmpR ((fun a b c d e f => op_neI CL.ne a b CL.cm c d e f) (by first | exact CM_Lot___eq__.1.at_ | (rw [show dunder _ = ("__eq__" : Str) from by decide +kernel]; exact CM_Lot___eq__.1.at_)) CM_Lot___eq__.1.fn G_Lot___eq__ (hr.mono (by decide)) CM_Lot___eq__.2.b pass0) (pe_meth0 (pv 4) CL.cl CM_Lot_uprights.1 G_Lot_uprights (hr.mono (by decide)) CM_Lot_uprights.2.b .nil pass0) (pv 5) (nomark _)) (pw_or1 (pt_cmpR ((fun a b c d e f => op_neI CL.ne a b CL.cm c d e f) (by first | exact CM_Lot___eq__.1.at_ | (rw [show dunder _ = ("__eq__" : Str) from by decide +kernel]; exact CM_Lot___eq__.1.at_)) CM_Lot___eq__.1.fn G_Lot___eq__ (hr.mono (by decide)) CM_Lot___eq__.2.b pass0) (pe_meth0 (pv 5) CL.cl CM_Lot_layings.1 G_Lot_layings (hr.mono (by decide)) CM_Lot_layings.2.b .nil pass0) (pv 5) (nomark _)))))) (pss_one (ps_ret pe_bl)) pss_nil)
      (pss_cons (ps_set (i := 7) sc__law_right.nd rfl (by first | exact .inl rfl | exact .inr rfl) (pe_meth0 (pv 5) CL.cl CM_Lot_uprights.1 G_Lot_uprights (hr.mono (by decide)) CM_Lot_uprights.2.b .nil pass0))
      (pss_cons (ps_if (PW.pt (pw_or (pt_cmpR ((fun a b c d e f => op_neI CL.ne a b CL.cm c d e f) (by first | exact CM_Lot___eq__.1.at_ | (rw [show dunder _ = ("__eq__" : Str) from by decide +kernel]; exact CM_Lot___eq__.1.at_)) CM_Lot___eq__.1.fn G_Lot___eq__ (hr.mono (by decide)) CM_Lot___eq__.2.b pass0) (pe_meth0 (pv 7) CL.cl CM_Lot_uprights.1 G_Lot_uprights (hr.mono (by decide)) CM_Lot_uprights.2.b .nil pass0) (pv 5) (nomark _)) (pw_or (pt_cmpR ((fun a b c d e f => op_neI CL.ne a b CL.cm c d e f) (by first | exact CM_Lot___eq__.1.at_ | (rw [show dunder _ = ("__eq__" : Str) from by decide +kernel]; exact CM_Lot___eq__.1.at_)) CM_Lot___eq__.1.fn G_Lot___eq__ (hr.mono (by decide)) CM_Lot___eq__.2.b pass0) (pe_op (op_binI CL.lo (by first | exact CM_Lot___sub__.1.at_ | (rw [show dunder _ = ("__sub__" : Str) from by decide +kernel]; exact CM_Lot___sub__.1.at_)) CM_Lot___sub__.1.fn G_Lot___sub__ (hr.mono (by decide)) CM_Lot___sub__.2.b pass0) (pv 3) (pv 7)) (pe_make (dvs := [.ref a_Lot]) CP_Lot.1 G_Lot___init__ (hr.mono (by decide)) (by rfl) CG CB_Lot.1 (.cons rfl .nil) pass0 (pa_cons (pv 1) pa_nil)) (nomark _)) (pw_or1 (pt_cmpR ((fun a b c d e f => op_neI CL.ne a b CL.cm c d e f) (by first | exact CM_Lot___eq__.1.at_ | (rw [show dunder _ = ("__eq__" : Str) from by decide +kernel]; exact CM_Lot___eq__.1.at_)) CM_Lot___eq__.1.fn G_Lot___eq__ (hr.mono (by decide)) CM_Lot___eq__.2.b pass0) (pe_op (op_binI CL.lo (by first | exact CM_Lot___sub__.1.at_ | (rw [show dunder _ = ("__sub__" : Str) from by decide +kernel]; exact CM_Lot___sub__.1.at_)) CM_Lot___sub__.1.fn G_Lot___sub__ (hr.mono (by decide)) CM_Lot___sub__.2.b pass0) (pv 4) (pv 7)) (pe_make (dvs := [.ref a_Lot]) CP_Lot.1 G_Lot___init__ (hr.mono (by decide)) (by rfl) CG CB_Lot.1 (.cons rfl .nil) pass0 (pa_cons (pv 1) pa_nil)) (nomark _)))))) (pss_one (ps_ret pe_bl)) pss_nil)
      (pss_cons (ps_set (i := 8) sc__law_right.nd rfl (by first | exact .inl rfl | exact .inr rfl) (pe_make CP_Lot.1 G_Lot___init__ (hr.mono (by decide)) (by rfl) CG CP_Lot.2.b .nil pass0 (pa_cons (pv 1) (pa_cons (pe_callTy call_tupK (by rfl) T.z_tuple (by decide +kernel) (pa_cons (pe_call G__law_some (hr.mono (by decide)) (by rfl) D__law_some.g D__law_some.kp D__law_some.b .nil pass0 (pa_cons (pv 0) (pa_cons (pv 2) pa_nil))) pa_nil)) pa_nil))))
      (pss_one (ps_ret (pe_and (pe_cmpR (op_eqI (by first | exact CM_Lot___eq__.1.at_ | (rw [show dunder _ = ("__eq__" : Str) from by decide +kernel]; exact CM_Lot___eq__.1.at_)) CM_Lot___eq__.1.fn G_Lot___eq__ (hr.mono (by decide)) CM_Lot___eq__.2.b pass0) (pe_op (op_binI CL.lo (by first | exact CM_Lot___sub__.1.at_ | (rw [show dunder _ = ("__sub__" : Str) from by decide +kernel]; exact CM_Lot___sub__.1.at_)) CM_Lot___sub__.1.fn G_Lot___sub__ (hr.mono (by decide)) CM_Lot___sub__.2.b pass0) (pv 5) (pe_meth0 (pv 8) CL.cl CM_Lot_uprights.1 G_Lot_uprights (hr.mono (by decide)) CM_Lot_uprights.2.b .nil pass0)) (pe_make (dvs := [.ref a_Lot]) CP_Lot.1 G_Lot___init__ (hr.mono (by decide)) (by rfl) CG CB_Lot.1 (.cons rfl .nil) pass0 (pa_cons (pv 1) pa_nil)) (nomark _)) (pe_one (pe_cmpR (op_eqI (by first | exact CM_Lot___eq__.1.at_ | (rw [show dunder _ = ("__eq__" : Str) from by decide +kernel]; exact CM_Lot___eq__.1.at_)) CM_Lot___eq__.1.fn G_Lot___eq__ (hr.mono (by decide)) CM_Lot___eq__.2.b pass0) (pe_op (op_binI CL.lo (by first | exact CM_Lot___sub__.1.at_ | (rw [show dunder _ = ("__sub__" : Str) from by decide +kernel]; exact CM_Lot___sub__.1.at_)) CM_Lot___sub__.1.fn G_Lot___sub__ (hr.mono (by decide)) CM_Lot___sub__.2.b pass0) (pe_meth0 (pv 8) CL.cl CM_Lot_layings.1 G_Lot_layings (hr.mono (by decide)) CM_Lot_layings.2.b .nil pass0) (pv 4)) (pe_make (dvs := [.ref a_Lot]) CP_Lot.1 G_Lot___init__ (hr.mono (by decide)) (by rfl) CG CB_Lot.1 (.cons rfl .nil) pass0 (pa_cons (pv 1) pa_nil)) (nomark _))))))))))))))))), fun Δ0 D' hf hn => ?_⟩
  refine wp_asg (ev_call1 (ea_1 (ev_var (i := 0)) (ea_1 ev_int ea_nil)) ⟨p, 6, rfl, hp, by decide, by decide, rfl⟩) (ltr rfl) fun r hr => ?_
  obtain ⟨n, rfl⟩ : ∃ n : Nat, r = (n : Int) := ⟨r.toNat, (Int.toNat_of_nonneg hr.1).symm⟩
  have h5 : n ≤ 5 := by have := hr.2; omega
  refine wp_asg (P := fun zs : FL Tx => zs.l.length ≤ 5 ∧ ∀ x ∈ zs.l, DR n x) (ev_lcR (Pn := fun m => m ≤ 5) (ea_cons (Ps := Is []) (ev_call1 (ea_1 (ev_var (i := 0)) (ea_1 ev_int ea_nil)) ⟨p, 6, rfl, hp, by decide, by decide, rfl⟩) ea_nil fun r cs hr hc => ⟨r.toNat, by rw [show cs = [] from hc, Int.toNat_of_nonneg hr.1], by omega⟩) fun m hm => (ev_lcF (fun i (acc : List Tx) => acc.length = i ∧ ∀ x ∈ acc, DR n x) (src_rng1 (n := m) (ea_1 ev_int ea_nil) (by omega) (ltr rfl)) (by omega) (by decide) ⟨rfl, fun x hx => nomatch hx⟩ fun i acc hi h => ⟨_, et_yes, fun q => (by cases q), fun _ => ⟨_, ev_call1 (ea_1 (ev_var (i := 0)) (ea_1 (ev_var (i := 1)) ea_nil)) ⟨p, n, rfl, hp, by omega, rfl⟩, fun b hb => ⟨by rw [List.length_append, h.1]; rfl, fun x hx => ?_⟩⟩⟩).imp fun zs hz => ⟨by rw [hz.1]; exact hm, hz.2⟩) (ltr rfl) fun xs hxs => ?_
  · rcases List.mem_append.mp hx with z | z
    · exact h.2 x z
    · rw [List.mem_singleton.mp z]
      exact hb
  obtain ⟨xs⟩ := xs
  refine wp_whenA (i := 2) (x := (⟨xs⟩ : FL Tx)) (Pa := fun zs : FL Tx => zs.l.length ≤ 10 ∧ ∀ x ∈ zs.l, DR n x) rfl (et_eqP (ev_call1 (ea_1 (ev_var (i := 0)) (ea_1 ev_int ea_nil)) ⟨p, 2, rfl, hp, by decide, by decide, rfl⟩) ev_int) (fun _ => (ev_op1 (x := (⟨xs⟩ : FL Tx)) (y := (⟨xs.map tn⟩ : FL Tx)) (ev_var (i := 2)) (ev_is (ev_lcDF (xs := xs) (fun _ => true) tn (src_list (x0 := fun i => xs.getD i ⟨[]⟩) (ev_fl (ev_var (i := 2) (a := (⟨xs⟩ : FL Tx)))) (fun i hi => getD_of hi) (j := 10) (ltr rfl)) (by have := hxs.1; show xs.length ≤ 50000; have h2 : xs.length ≤ 5 := this; omega) (by decide) fun i x hx => ⟨et_yes, fun _ => ?_⟩) (by rw [List.filter_eq_self.mpr (fun _ _ => rfl)])) (o2_catF ?_)).imp fun zs hz => ?_) (fun _ => ⟨Nat.le_trans hxs.1 (by decide), hxs.2⟩) fun xs2 hxs2 => ?_
  · have e : xs.getD i ⟨[]⟩ = x := by rw [List.getD_eq_getElem?_getD, hx]; rfl
    subst e
    exact ev_call1 (ea_1 (ev_var (i := 10) (a := xs.getD i ⟨[]⟩)) ea_nil) ⟨_, rfl, (hxs.2 _ (List.mem_of_getElem? hx)).1, rfl⟩
  · have h2 : xs.length ≤ 5 := hxs.1
    show xs.length + (xs.map tn).length ≤ _
    rw [List.length_map]
    omega
  · have h2 : xs.length ≤ 5 := hxs.1
    rw [show zs = _ from hz]
    refine ⟨?_, fun x hx => ?_⟩
    · show (xs ++ xs.map tn).length ≤ 10
      rw [List.length_append, List.length_map]
      omega
    · rcases List.mem_append.mp hx with z | z
      · exact hxs.2 x z
      · obtain ⟨y, hy, rfl⟩ := List.mem_map.mp z
        have hd := hxs.2 y hy
        exact ⟨tn_row hd.1, by rw [tn, mk_len]; exact hd.2⟩
  clear hxs
  obtain ⟨S⟩ := xs2
  have hlS : S.length ≤ 10 := hxs2.1
  have hRN : RowsN n S := rn_DR hxs2.2
  have hS := rn_rows hRN
  clear hxs2
  have row : ∀ x ∈ rowsOf n, Row x := fun x hx => ⟨rows_sign n x hx, by rw [rows_sz n x hx]; omega⟩
  have tok : ∀ {T : List Tx}, (∀ x ∈ T, x ∈ rowsOf n) → TOk T := fun h x hx => tx_ok (row x (h x hx))
  refine wp_asg (P := LotW n S) ((ev_lotNew (ea_1 (ev_var (i := 1)) (ea_1 (ev_cb (ev_fl (ev_var (i := 2) (a := (⟨S⟩ : FL Tx)))) o1_tuple) ea_nil)) (by omega) hRN (by omega)).imp fun L h => h.well (by omega) (by omega) hRN) (ltr rfl) fun L hL => ?_
  refine wp_parP (Q := fun cs => ∃ A B, LotW n (layS n S) A ∧ LotW n (upS n S) B ∧ cs = [⟨A⟩, ⟨B⟩]) (ea_cons (Ps := fun cs => ∃ B, LotW n (upS n S) B ∧ cs = [⟨B⟩]) (ev_layL (S := S) h5 (by omega) ((ev_var (i := 3) (a := L)).imp fun M hM => by rw [show M = L from hM]; exact hL)) (ea_cons (Ps := Is []) (ev_upL (S := S) h5 (by omega) ((ev_var (i := 3) (a := L)).imp fun M hM => by rw [show M = L from hM]; exact hL)) ea_nil fun B cs hB hc => ⟨B, hB, by rw [show cs = [] from hc]⟩) fun A cs hA hc => by obtain ⟨B, hB, rfl⟩ := hc; exact ⟨A, B, hA, hB, rfl⟩) (ltr rfl) (ltr rfl) fun cs hcs => ?_
  obtain ⟨A, B, hA, hB, rfl⟩ := hcs
  refine ⟨_, _, rfl, ?_⟩
  have vL : ∀ {ρ : Z.Env}, ρ[3]? = some (some ⟨L⟩) → Ev K Γ (tVar 3) ρ (LotW n S) := fun h => (ev_var (i := 3) (a := L) h).imp fun M hM => by rw [show M = L from hM]; exact hL
  have vA : ∀ {ρ : Z.Env}, ρ[4]? = some (some ⟨A⟩) → Ev K Γ (tVar 4) ρ (LotW n (layS n S)) := fun h => (ev_var (i := 4) (a := A) h).imp fun M hM => by rw [show M = A from hM]; exact hA
  have vB : ∀ {ρ : Z.Env}, ρ[5]? = some (some ⟨B⟩) → Ev K Γ (tVar 5) ρ (LotW n (upS n S)) := fun h => (ev_var (i := 5) (a := B) h).imp fun M hM => by rw [show M = B from hM]; exact hB
  have lA : (layS n S).length ≤ 1000 := Nat.le_trans (layS_len h5) (by decide)
  have lB : (upS n S).length ≤ 1000 := Nat.le_trans (upS_len h5) (by decide)
  refine wp_no (b := false) rfl (et_is (et_or (et_test (ev_op1 (x := srt (layS n S)) (y := srt (layS n S)) (ev_listL lA (vA rfl)) (ev_call1 (ea_1 (ev_fl (ev_var (i := 2) (a := (⟨S⟩ : FL Tx)))) (ea_1 (ev_var (i := 1)) ea_nil)) ⟨n, S, rfl, h5, by omega, hS, rfl⟩) (o2_neLS (tok fun x hx => layS_sub x (srt_mem.mp hx)) (tok fun x hx => layS_sub x (srt_mem.mp hx))))) fun _ => et_test (ev_neL (ev_layL h5 lA (vA rfl)) (vA rfl))) ?_) ?_
  · rw [decide_eq_true rfl, srt_eq fun x => lay_idem h5 hS]
    rfl
  have every : ∀ {ρ : Z.Env} {E : XK}, ρ[1]? = some (some ⟨(n : Int)⟩) → Ev K Γ (tCall (spD K F__law_every_row) [] E (tCons (tVar 1) tNil)) ρ (Is (rowsOf n)) := fun h => ev_ofNL (y := ⟨rowsOf n⟩) (ev_call1 (ea_1 (ev_var (i := 1) h) ea_nil) ⟨n, rfl, by omega, rfl⟩)
  have hlen : (rowsOf n).length ≤ 243 := by
    rw [rows_len]
    exact Nat.le_trans (Nat.pow_le_pow_right (by decide) h5) (by decide)
  refine wp_asg1 (a := upS n S) (ev_is (ev_lcD (xs := rowsOf n) (fun x => (S.map codeT).all (uprC (codeT x))) (fun x => x) (src_list (x0 := fun i => (rowsOf n).getD i ⟨[]⟩) (every rfl) (fun i hi => getD_of hi) (j := 11) (ltr rfl)) (by omega) (by decide) fun i x hx => ⟨et_B (ev_is (ev_cb (ev_lcD (xs := S) (fun _ => true) (fun y => uprC (codeT x) (codeT y)) (src_list (x0 := fun i => S.getD i ⟨[]⟩) (ev_fl (ev_var (i := 2) (a := (⟨S⟩ : FL Tx)))) (fun i hi => getD_of hi) (j := 10) (ltr rfl)) (by omega) (by decide) fun j y hy => ⟨et_yes, fun _ => ?_⟩) o1_all) ?_), fun _ => ?_⟩) (List.map_id' _)) (ltr rfl) ?_
  · have e : (rowsOf n).getD i ⟨[]⟩ = x := by rw [List.getD_eq_getElem?_getD, hx]; rfl
    have e2 : S.getD j ⟨[]⟩ = y := by rw [List.getD_eq_getElem?_getD, hy]; rfl
    subst e e2
    exact ev_call1 (ea_1 (ev_var (i := 11)) (ea_1 (ev_var (i := 10)) ea_nil)) ⟨_, _, rfl, row2_of h5 (List.mem_of_getElem? hx) (hS _ (List.mem_of_getElem? hy)), rfl⟩
  · rw [List.filter_eq_self.mpr (fun _ _ => rfl), List.all_map, List.all_map]
    rfl
  · have e : (rowsOf n).getD i ⟨[]⟩ = x := by rw [List.getD_eq_getElem?_getD, hx]; rfl
    subst e
    exact ev_var (i := 11)
  refine wp_no (b := false) rfl (et_is (et_or (et_test (ev_op1 (x := srt (upS n S)) (y := upS n S) (ev_listL lB (vB rfl)) (ev_var (i := 6)) (o2_neLS (tok fun x hx => upS_sub x (srt_mem.mp hx)) (tok upS_sub)))) fun _ => et_or (et_test (ev_neL (ev_upL h5 lA (vA rfl)) (vB rfl))) fun _ => et_test (ev_neL (ev_layL h5 lB (vB rfl)) (vB rfl))) ?_) ?_
  · rw [show decide (srt (upS n S) = upS n S) = true from decide_eq_true (srt_up h5), srt_eq fun x => up_of_lay h5 hS, srt_eq fun x => lay_of_up h5 hS]
    rfl
  refine wp_asg (P := LotW n (upS n (upS n S))) (ev_upL h5 lB (vB rfl)) (ltr rfl) fun C hC => ?_
  have vC : ∀ {ρ : Z.Env}, ρ[7]? = some (some ⟨C⟩) → Ev K Γ (tVar 7) ρ (LotW n (upS n (upS n S))) := fun h => (ev_var (i := 7) (a := C) h).imp fun M hM => by rw [show M = C from hM]; exact hC
  have lC : (upS n (upS n S)).length ≤ 1000 := Nat.le_trans (upS_len h5) (by decide)
  have emp : ∀ {ρ : Z.Env} {E : XK}, ρ[1]? = some (some ⟨(n : Int)⟩) → Ev K Γ (tMake (He.ga K "Lot") (spI K (He.ga K "Lot") F_Lot___init__) [.ref a_Lot] E (tCons (tVar 1) tNil)) ρ (LotW n []) := fun h => (ev_lotEmpty CB_Lot.2 (ea_1 (ev_var (i := 1) h) ea_nil) (by omega)).imp fun M hM => hM.well (by omega) (by decide) (fun x hx => nomatch hx)
  refine wp_no (b := false) rfl (et_is (et_or (et_test (ev_neL (ev_upL h5 lC (vC rfl)) (vB rfl))) fun _ => et_or (et_test (ev_neL (ev_subL (by omega) (by omega) (vL rfl) (vC rfl)) (emp rfl))) fun _ => et_test (ev_neL (ev_subL (by omega) (by omega) (vA rfl) (vC rfl)) (emp rfl))) ?_) ?_
  · rw [srt_eq fun x => up_three h5 hS, srt_eq (no_rest fun x hx => sub_twice h5 hS hx), srt_eq (no_rest fun x hx => lay_sub_twice h5 hS hx)]
    rfl
  refine wp_asg (P := fun M : LotD => ∃ Z, LotW n Z M ∧ Z.length ≤ 10 ∧ ∀ x ∈ Z, x ∈ S) ((ev_lotSome hRN (by omega) (by omega) (ea_cons (Ps := fun cs => ∃ Z : List Tx, (Z.length ≤ S.length ∧ ∀ y ∈ Z, y ∈ S) ∧ cs = [⟨(⟨Z⟩ : Tup Tx)⟩]) (ev_var (i := 1)) (ea_cons (Ps := Is []) (ev_tupleP (ev_call1 (ea_1 (ev_var (i := 0)) (ea_1 (ev_fl (ev_var (i := 2) (a := (⟨S⟩ : FL Tx)))) ea_nil)) ⟨p, S, rfl, hp, by omega, rfl⟩)) ea_nil fun t cs ht hc => ⟨t.l, ht, by rw [show cs = [] from hc]⟩) fun a cs ha hc => by obtain ⟨Z, hZ, rfl⟩ := hc; exact ⟨Z, hZ, by rw [show a = (n : Int) from ha]⟩)).imp fun M hM => by obtain ⟨Z, hZ, h1, h2⟩ := hM; exact ⟨Z, hZ, by omega, h2⟩) (ltr rfl) fun M hM => ?_
  obtain ⟨S1, hZ, lZ, sZ⟩ := hM
  have vZ : ∀ {ρ : Z.Env}, ρ[8]? = some (some ⟨M⟩) → Ev K Γ (tVar 8) ρ (LotW n S1) := fun h => (ev_var (i := 8) (a := M) h).imp fun N hN => by rw [show N = M from hN]; exact hZ
  have hZS : ∀ r ∈ S1, r ∈ rowsOf n := fun r hr => hS r (sZ r hr)
  refine wp_ret hf (ev_is (ev_andV (a := true) (b := true) (ev_is (ev_eqL (ev_subL (by omega) (by omega) (vB rfl) (ev_upL h5 (by omega) (vZ rfl))) (emp rfl)) ?_) fun _ => ev_is (ev_eqL (ev_subL (by omega) (Nat.le_trans (layS_len h5) (by decide)) (ev_layL h5 (by omega) (vZ rfl)) (vA rfl)) (emp rfl)) ?_) rfl)
  · exact decide_eq_true (srt_congr (no_rest fun x hx => up_anti sZ hx))
  · exact decide_eq_true (srt_congr (no_rest fun x hx => lay_mono2 h5 hS sZ hx))
end
end K03

set_option Elab.async false
set_option linter.all false
set_option maxRecDepth 100000
set_option maxHeartbeats 2000000
namespace K03
open PySem PySem.Spec PyProof.Rows L2 Z K00
def A0 : List Tx := [⟨[43, 48]⟩, ⟨[48, 45]⟩]
def A1 : List Tx := [⟨[43, 45, 48]⟩, ⟨[48, 43, 45]⟩]
def B0 : List Tx := [⟨[43, 45]⟩, ⟨[43, 48]⟩, ⟨[48, 45]⟩, ⟨[48, 48]⟩]
def B1 : List Tx := [⟨[43, 43, 43]⟩, ⟨[45, 45, 45]⟩, ⟨[48, 48, 48]⟩]
def B2 : List Tx := [⟨[48, 48]⟩]
def B3 : List Tx := [⟨[]⟩]
def B4 : List Tx := [⟨[43]⟩, ⟨[45]⟩, ⟨[48]⟩]
theorem rnA0 : RowsN 2 A0 := by unfold RowsN A0; decide +kernel
theorem rnA1 : RowsN 3 A1 := by unfold RowsN A1; decide +kernel
theorem up1 : srt (upS 3 A1) = B1 := by rw [srt_up (by decide)]; decide +kernel
theorem up3 : srt (upS 0 []) = B3 := by rw [srt_up (by decide)]; decide +kernel
theorem up4 : srt (upS 1 []) = B4 := by rw [srt_up (by decide)]; decide +kernel
theorem lay_list {n : Nat} {S D : List Tx} (h5 : n ≤ 5) (hS : ∀ r ∈ S, r ∈ rowsOf n) (nd : D.Nodup) (pw : D.Pairwise NL') (h1 : ∀ x ∈ D, LayT n S x) (h0 : zeroT n ∈ D) (h2 : ∀ x ∈ D, ∀ r ∈ S, laidT x r ∈ D) : srt (layS n S) = D := by
  refine (srt_of nd pw fun x => ?_).symm
  rw [mem_layS h5 hS]
  refine ⟨h1 x, fun h => ?_⟩
  induction h with
  | z => exact h0
  | s _ hr ih => exact h2 _ ih _ hr
theorem lay0 : srt (layS 2 A0) = B0 := by
  have hS := rn_rows rnA0
  have a1 : LayT 2 A0 ⟨[43, 48]⟩ := layT_in hS (by unfold A0; exact List.mem_cons_self)
  have a2 : LayT 2 A0 ⟨[48, 45]⟩ := layT_in hS (by unfold A0; exact List.mem_cons_of_mem _ List.mem_cons_self)
  have a3 : LayT 2 A0 ⟨[43, 45]⟩ := by
    have e : (⟨[43, 45]⟩ : Tx) = laidT ⟨[43, 48]⟩ ⟨[48, 45]⟩ := by decide +kernel
    rw [e]
    exact .s a1 (by unfold A0; exact List.mem_cons_of_mem _ List.mem_cons_self)
  refine lay_list (by decide) hS (by unfold B0; decide +kernel) (by unfold B0; decide +kernel) (fun x hx => ?_) (by unfold B0 zeroT; decide +kernel) (by unfold B0 A0; decide +kernel)
  unfold B0 at hx
  simp only [List.mem_cons, List.not_mem_nil, or_false] at hx
  rcases hx with rfl | rfl | rfl | rfl
  · exact a3
  · exact a1
  · exact a2
  · exact .z
theorem lay2 : srt (layS 2 []) = B2 := lay_list (by decide) (fun r hr => nomatch hr) (by unfold B2; decide +kernel) (by unfold B2; decide +kernel) (fun x hx => by
    unfold B2 at hx
    rw [List.mem_singleton.mp hx]
    exact .z) (by unfold B2 zeroT; decide +kernel) (fun x hx r hr => nomatch hr)
def WANT : List (Tup Tx) := [⟨B0⟩, ⟨B1⟩, ⟨B2⟩, ⟨B3⟩, ⟨B4⟩]
theorem tokB {n : Nat} {D : List Tx} (h5 : n ≤ 5) (h : ∀ x ∈ D, x ∈ rowsOf n) : TOk D := fun x hx => tx_ok ⟨rows_sign n x (h x hx), by rw [rows_sz n x (h x hx)]; omega⟩
theorem shapedW : SeqAt.shaped (Dt.d WANT) = true := by
  refine shaped_L fun x hx => ?_
  unfold WANT at hx
  simp only [List.mem_cons, List.not_mem_nil, or_false] at hx
  rcases hx with rfl | rfl | rfl | rfl | rfl
  · exact lay_tup (xs := ⟨B0⟩) (tokB (n := 2) (by decide) (by unfold B0; decide +kernel))
  · exact lay_tup (xs := ⟨B1⟩) (tokB (n := 3) (by decide) (by unfold B1; decide +kernel))
  · exact lay_tup (xs := ⟨B2⟩) (tokB (n := 2) (by decide) (by unfold B2; decide +kernel))
  · exact lay_tup (xs := ⟨B3⟩) (tokB (n := 0) (by decide) (by unfold B3; decide +kernel))
  · exact lay_tup (xs := ⟨B4⟩) (tokB (n := 1) (by decide) (by unfold B4; decide +kernel))
section
variable {P : Program} {w : World} {K : PySem.W.Frag} {mg : Str → Option Value} {base : Heap}
def F_law : Pm Bool := fun _ cs R => ∃ (xs : List Int), cs = [⟨xs⟩] ∧ R = Is true
abbrev IvL (Γ : Own) (xs : List Int) : Nat → Own → Z.Env → Prop := fun i Γ' ρ' => Γ' = Γ ∧ ∃ a, ρ' = [some ⟨xs⟩, a, none]
theorem sc_law : FnScope ["_law_script", "_law_spot", "_law_told"] ["_law_script"] (defScope s_law) := ⟨rfl, rfl, rfl, by decide +kernel, rfl, by decide +kernel, by decide +kernel⟩
theorem ok_law (T : Txt K mg) (CL : LotT K) (CG : mg "Lot" = some (.ref (He.ga K "Lot"))) {f : Addr} {fd : FuncData} (D : Df K mg "law" s_law ["_law_script"] f fd) {f_Lot_layings : Addr} {fd_Lot_layings : FuncData} (CM_Lot_layings : Meth K (He.ga K "Lot") "layings" f_Lot_layings ∧ DfM K [] "layings" "Lot.layings" s_Lot_layings ["self"] f_Lot_layings fd_Lot_layings) (G_Lot_layings : FnOk P w K mg base CX0 8 f_Lot_layings fd_Lot_layings ["self"] (spD K F_Lot_layings)) {f_Lot_uprights : Addr} {fd_Lot_uprights : FuncData} (CM_Lot_uprights : Meth K (He.ga K "Lot") "uprights" f_Lot_uprights ∧ DfM K [] "uprights" "Lot.uprights" s_Lot_uprights ["self"] f_Lot_uprights fd_Lot_uprights) (G_Lot_uprights : FnOk P w K mg base CX0 8 f_Lot_uprights fd_Lot_uprights ["self"] (spD K F_Lot_uprights)) {p_Lot_rows f_Lot_rows : Addr} {fd_Lot_rows : FuncData} (CP_Lot_rows : PropOf K (He.ga K "Lot") "rows" p_Lot_rows f_Lot_rows ∧ DfM K [] "rows" "Lot.rows" s_Lot_rows ["self"] f_Lot_rows fd_Lot_rows) (G_Lot_rows : FnOk P w K mg base CX0 2 f_Lot_rows fd_Lot_rows ["self"] (spD K F_Lot_rows)) {f__law_right : Addr} {fd__law_right : FuncData} (D__law_right : Df K mg "_law_right" s__law_right ["_law_dice_here"] f__law_right fd__law_right) (G__law_right : FnOk P w K mg base CX0 15 f__law_right fd__law_right ["_law_dice_here"] (spD K F__law_right)) {f__law_dice : Addr} {fd__law_dice : FuncData} (D__law_dice : Df K mg "_law_dice" s__law_dice ["_law_script", "_law_spot"] f__law_dice fd__law_dice) (G__law_dice : FnOk P w K mg base CX0 2 f__law_dice fd__law_dice ["_law_script", "_law_spot"] (spF K F__law_dice DiceI)) {f_Lot___init__ : Addr} {fd_Lot___init__ : FuncData} {dv_Lot___init__ : List V} (CP_Lot : Mk K (He.ga K "Lot") f_Lot___init__ ∧ DfM K dv_Lot___init__ "__init__" "Lot.__init__" s_Lot___init__ ["self", "many", "rows"] f_Lot___init__ fd_Lot___init__) (G_Lot___init__ : FnOk P w K mg base CX0 5 f_Lot___init__ fd_Lot___init__ ["self", "many", "rows"] (spI K (He.ga K "Lot") F_Lot___init__)) {a_Lot : Addr} (CB_Lot : Binds K fd_Lot___init__ ["self", "many", "rows"] [.ref a_Lot] ∧ KT K a_Lot []) : FnOk P w K mg base CX0 16 f fd ["_law_script"] (spD K F_law) := by
  obtain ⟨_, hI_SHIFT⟩ := T.i_SHIFT
  obtain ⟨_, hI_LOW⟩ := T.i_LOW
  obtain ⟨_, hI_MAX_THINGS⟩ := T.i_MAX_THINGS
  obtain ⟨_, hI_MAX_LAYINGS⟩ := T.i_MAX_LAYINGS
  obtain ⟨_, hI_MAX_UPRIGHT⟩ := T.i_MAX_UPRIGHT
  refine def_ok D.F sc_law (fun Γ cs R g => ?len) (fun cdv A outer s H E hr Γ cs R g => ?_)
  case len => obtain ⟨xs, rfl, _⟩ := g; rfl
  obtain ⟨xs, rfl, rfl⟩ := g
  refine ⟨_, (pss_cons (ps_for PassesOwn.never rfl (pi_range1 (by rfl) T.z_range (pa_cons (pe_callB (call_max2 rfl) (by rfl) T.z_max (by decide +kernel) (pa_cons pe_int (pa_cons (pe_callB (call_min2 rfl) (by rfl) T.z_min (by decide +kernel) (pa_cons pe_int (pa_cons (pe_callB call_lenK (by rfl) T.z_len (by decide +kernel) (pa_cons (pv 0) pa_nil)) pa_nil))) pa_nil))) pa_nil)) (pg_name (i := 1) sc_law.nd rfl (by first | exact .inl rfl | exact .inr rfl))
        (pss_one (ps_if (pt_not (pt_val (pe_call G__law_right (hr.mono (by decide)) (by rfl) D__law_right.g D__law_right.kp D__law_right.b .nil pass0 (pa_cons (pe_call G__law_dice (hr.mono (by decide)) (by rfl) D__law_dice.g D__law_dice.kp D__law_dice.b .nil pass0 (pa_cons (pv 0) (pa_cons (pv 1) pa_nil))) pa_nil)))) (pss_one (ps_ret pe_bl)) pss_nil)))
      (pss_cons (ps_set (i := 2) sc_law.nd rfl (by first | exact .inl rfl | exact .inr rfl) (pe_lst (pa_cons (pe_prop (pe_meth0 (pe_make CP_Lot.1 G_Lot___init__ (hr.mono (by decide)) (by rfl) CG CP_Lot.2.b .nil pass0 (pa_cons pe_int (pa_cons (pe_tup (pa_cons pe_str (pa_cons pe_str pa_nil))) pa_nil))) CL.cl CM_Lot_layings.1 G_Lot_layings (hr.mono (by decide)) CM_Lot_layings.2.b .nil pass0) CL.cl CP_Lot_rows.1 G_Lot_rows (hr.mono (by decide)) CP_Lot_rows.2.b .nil pass0 rfl) (pa_cons (pe_prop (pe_meth0 (pe_make CP_Lot.1 G_Lot___init__ (hr.mono (by decide)) (by rfl) CG CP_Lot.2.b .nil pass0 (pa_cons pe_int (pa_cons (pe_tup (pa_cons pe_str (pa_cons pe_str pa_nil))) pa_nil))) CL.cl CM_Lot_uprights.1 G_Lot_uprights (hr.mono (by decide)) CM_Lot_uprights.2.b .nil pass0) CL.cl CP_Lot_rows.1 G_Lot_rows (hr.mono (by decide)) CP_Lot_rows.2.b .nil pass0 rfl) (pa_cons (pe_prop (pe_meth0 (pe_make (dvs := [.ref a_Lot]) CP_Lot.1 G_Lot___init__ (hr.mono (by decide)) (by rfl) CG CB_Lot.1 (.cons rfl .nil) pass0 (pa_cons pe_int pa_nil)) CL.cl CM_Lot_layings.1 G_Lot_layings (hr.mono (by decide)) CM_Lot_layings.2.b .nil pass0) CL.cl CP_Lot_rows.1 G_Lot_rows (hr.mono (by decide)) CP_Lot_rows.2.b .nil pass0 rfl) pa_nil)))))
      (pss_cons (ps_set (i := 2) sc_law.nd rfl (by first | exact .inl rfl | exact .inr rfl) (pe_op op_cat (pv 2) (pe_lst (pa_cons (pe_prop (pe_meth0 (pe_make (dvs := [.ref a_Lot]) CP_Lot.1 G_Lot___init__ (hr.mono (by decide)) (by rfl) CG CB_Lot.1 (.cons rfl .nil) pass0 (pa_cons pe_int pa_nil)) CL.cl CM_Lot_uprights.1 G_Lot_uprights (hr.mono (by decide)) CM_Lot_uprights.2.b .nil pass0) CL.cl CP_Lot_rows.1 G_Lot_rows (hr.mono (by decide)) CP_Lot_rows.2.b .nil pass0 rfl) (pa_cons (pe_prop (pe_meth0 (pe_make (dvs := [.ref a_Lot]) CP_Lot.1 G_Lot___init__ (hr.mono (by decide)) (by rfl) CG CB_Lot.1 (.cons rfl .nil) pass0 (pa_cons pe_int pa_nil)) CL.cl CM_Lot_uprights.1 G_Lot_uprights (hr.mono (by decide)) CM_Lot_uprights.2.b .nil pass0) CL.cl CP_Lot_rows.1 G_Lot_rows (hr.mono (by decide)) CP_Lot_rows.2.b .nil pass0 rfl) pa_nil)))))
      (pss_one (ps_ret (pe_cmpR (op_eqK hr.units) (pv 2) (pe_lst (pa_cons (pe_tup (pa_cons pe_str (pa_cons pe_str (pa_cons pe_str (pa_cons pe_str pa_nil))))) (pa_cons (pe_tup (pa_cons pe_str (pa_cons pe_str (pa_cons pe_str pa_nil)))) (pa_cons (pe_tup (pa_cons pe_str pa_nil)) (pa_cons (pe_tup (pa_cons pe_str pa_nil)) (pa_cons (pe_tup (pa_cons pe_str (pa_cons pe_str (pa_cons pe_str pa_nil)))) pa_nil)))))) (nomark _))))))), fun Δ0 D' hf hn => ?_⟩
  obtain ⟨n, hn5, en⟩ : ∃ n : Nat, n ≤ 3 ∧ (if (if (xs.length : Int) < 3 then (xs.length : Int) else 3) > 1 then (if (xs.length : Int) < 3 then (xs.length : Int) else 3) else 1) = (n : Int) := by
    refine ⟨(if (if (xs.length : Int) < 3 then (xs.length : Int) else 3) > 1 then (if (xs.length : Int) < 3 then (xs.length : Int) else 3) else 1).toNat, ?_, ?_⟩
    · split <;> (try split) <;> omega
    · rw [Int.toNat_of_nonneg]
      split <;> (try split) <;> omega
  refine wp_for (IvL Γ xs) (src_rng1 (n := n) (ea_1 (ev_is (ev_max2 ev_int (ev_min2 ev_int (ev_cb (ev_var (i := 0) (a := xs)) o1_lenL))) en) ea_nil) (by omega) (ltr rfl)) ⟨rfl, none, rfl⟩ (fun i Γ' ρ' h => by obtain ⟨_, a, rfl⟩ := h; rfl) ?_ ?_
  · rintro i Γ' ρ' F' hi ⟨rfl, a, rfl⟩
    exact wp_noL (b := false) rfl (et_not (a := true) (et_B (ev_callF (ea_1 (ev_var (i := 0) (a := xs)) (ea_1 (ev_var (i := 1)) ea_nil)) ⟨xs, i, rfl⟩ fun p => ⟨p, rfl, List.mem_cons_self, rfl⟩))) (wp_turn (Iv := IvL Γ' xs) ⟨rfl, some ⟨(i : Int)⟩, rfl⟩ rfl)
  · rintro Γ' ρ' F' ⟨rfl, a, rfl⟩
    have emp : ∀ {ρ : Z.Env} {E : XK} (k : Nat), k ≤ 9 → Ev K Γ' (tMake (He.ga K "Lot") (spI K (He.ga K "Lot") F_Lot___init__) [.ref a_Lot] E (tCons (tC (.int (k : Int))) tNil)) ρ (LotW k []) := fun k h9 => (ev_lotEmpty CB_Lot.2 (ea_1 ev_int ea_nil) h9).imp fun M hM => hM.well h9 (by decide) (fun x hx => nomatch hx)
    refine wp_asg1 (a := (⟨[⟨B0⟩, ⟨B1⟩, ⟨B2⟩]⟩ : FL (Tup Tx))) (ev_lstF (xs := ([⟨B0⟩, ⟨B1⟩, ⟨B2⟩] : List (Tup Tx))) (ea_1 (ev_is (ev_rowsL (ev_layL (n := 2) (S := A0) (by decide) (by decide) ((ev_lotNew (n := 2) (xs := A0) (ea_1 (ev_int (i := ((2 : Nat) : Int))) (ea_1 (ev_tupN (xs := A0) (ea_1 (ev_strc [43, 48]) (ea_1 (ev_strc [48, 45]) ea_nil)) (by decide)) ea_nil)) (by decide) rnA0 (by decide)).imp fun L h => h.well (by decide) (by decide) rnA0))) (by rw [lay0])) (ea_1 (ev_is (ev_rowsL (ev_upL (n := 3) (S := A1) (by decide) (by decide) ((ev_lotNew (n := 3) (xs := A1) (ea_1 (ev_int (i := ((3 : Nat) : Int))) (ea_1 (ev_tupN (xs := A1) (ea_1 (ev_strc [43, 45, 48]) (ea_1 (ev_strc [48, 43, 45]) ea_nil)) (by decide)) ea_nil)) (by decide) rnA1 (by decide)).imp fun L h => h.well (by decide) (by decide) rnA1))) (by rw [up1])) (ea_1 (ev_is (ev_rowsL (ev_layL (n := 2) (S := []) (by decide) (by decide) (emp 2 (by decide)))) (by rw [lay2])) ea_nil))) (by show 3 ≤ 100000; decide)) (ltr rfl) ?_
    refine wp_asg1 (a := (⟨WANT⟩ : FL (Tup Tx))) (ev_op1 (x := (⟨[⟨B0⟩, ⟨B1⟩, ⟨B2⟩]⟩ : FL (Tup Tx))) (y := (⟨[⟨B3⟩, ⟨B4⟩]⟩ : FL (Tup Tx))) (ev_var (i := 2)) (ev_lstF (xs := ([⟨B3⟩, ⟨B4⟩] : List (Tup Tx))) (ea_1 (ev_is (ev_rowsL (ev_upL (n := 0) (S := []) (by decide) (by decide) (emp 0 (by decide)))) (by rw [up3])) (ea_1 (ev_is (ev_rowsL (ev_upL (n := 1) (S := []) (by decide) (by decide) (emp 1 (by decide)))) (by rw [up4])) ea_nil)) (by show 2 ≤ 100000; decide)) (o2_catF (by show 3 + 2 ≤ 100000; decide))) (ltr rfl) ?_
    refine wp_ret hf (ev_op1 (x := WANT) (y := WANT) (ev_fl (ev_var (i := 2) (a := (⟨WANT⟩ : FL (Tup Tx))))) (ev_lst (xs := WANT) (ea_1 (ev_tupN (xs := B0) (ea_1 (ev_strc [43, 45]) (ea_1 (ev_strc [43, 48]) (ea_1 (ev_strc [48, 45]) (ea_1 (ev_strc [48, 48]) ea_nil)))) (by decide)) (ea_1 (ev_tupN (xs := B1) (ea_1 (ev_strc [43, 43, 43]) (ea_1 (ev_strc [45, 45, 45]) (ea_1 (ev_strc [48, 48, 48]) ea_nil))) (by decide)) (ea_1 (ev_tupN (xs := B2) (ea_1 (ev_strc [48, 48]) ea_nil) (by decide)) (ea_1 (ev_tupN (xs := B3) (ea_1 (ev_strc []) ea_nil) (by decide)) (ea_1 (ev_tupN (xs := B4) (ea_1 (ev_strc [43]) (ea_1 (ev_strc [45]) (ea_1 (ev_strc [48]) ea_nil))) (by decide)) ea_nil))))) (by show 5 ≤ 100000; decide)) (o2_eqSame shapedW))
end
end K03

set_option Elab.async false
set_option linter.all false
set_option maxRecDepth 100000
set_option maxHeartbeats 0
namespace Hd
open PySem PySem.Spec PyProof.Rows L2
def top (i : Nat) : Stmt := PySem.Challenge.pw_sidesigns_k03_whole_layings_and_uprights.main.body.getD i (.Pass ⟨0, 0, 0, 0⟩)
abbrev s_wall : Stmt := top 0
def d_wall : He.DefD := ⟨("_wall", none), "_wall", "_wall", defArgs s_wall, defBody s_wall, defScope s_wall, [], []⟩
abbrev s_InvalidNumber_init : Stmt := inClass (top 4) 0
def d_InvalidNumber_init : He.DefD := ⟨("InvalidNumber", some "__init__"), "__init__", "InvalidNumber.__init__", defArgs s_InvalidNumber_init, defBody s_InvalidNumber_init, defScope s_InvalidNumber_init, [], []⟩
abbrev s_TooMany_init : Stmt := inClass (top 5) 0
def d_TooMany_init : He.DefD := ⟨("TooMany", some "__init__"), "__init__", "TooMany.__init__", defArgs s_TooMany_init, defBody s_TooMany_init, defScope s_TooMany_init, [], []⟩
abbrev s_is_integer : Stmt := top 7
def d_is_integer : He.DefD := ⟨("is_integer", none), "is_integer", "is_integer", defArgs s_is_integer, defBody s_is_integer, defScope s_is_integer, [], []⟩
abbrev s_is_between : Stmt := top 8
def d_is_between : He.DefD := ⟨("is_between", none), "is_between", "is_between", defArgs s_is_between, defBody s_is_between, defScope s_is_between, [], []⟩
abbrev s_code_of : Stmt := top 12
def d_code_of : He.DefD := ⟨("code_of", none), "code_of", "code_of", defArgs s_code_of, defBody s_code_of, defScope s_code_of, [], []⟩
abbrev s_rows_by_code : Stmt := top 13
def d_rows_by_code : He.DefD := ⟨("rows_by_code", none), "rows_by_code", "rows_by_code", defArgs s_rows_by_code, defBody s_rows_by_code, defScope s_rows_by_code, [], []⟩
abbrev s_rows_of : Stmt := top 14
def d_rows_of : He.DefD := ⟨("rows_of", none), "rows_of", "rows_of", defArgs s_rows_of, defBody s_rows_of, defScope s_rows_of, [], []⟩
abbrev s_turned_code : Stmt := top 15
def d_turned_code : He.DefD := ⟨("turned_code", none), "turned_code", "turned_code", defArgs s_turned_code, defBody s_turned_code, defScope s_turned_code, [], []⟩
abbrev s_mask_of : Stmt := top 16
def d_mask_of : He.DefD := ⟨("mask_of", none), "mask_of", "mask_of", defArgs s_mask_of, defBody s_mask_of, defScope s_mask_of, [], []⟩
abbrev s_has_within : Stmt := top 17
def d_has_within : He.DefD := ⟨("has_within", none), "has_within", "has_within", defArgs s_has_within, defBody s_has_within, defScope s_has_within, [], []⟩
abbrev s_least_masks : Stmt := top 18
def d_least_masks : He.DefD := ⟨("least_masks", none), "least_masks", "least_masks", defArgs s_least_masks, defBody s_least_masks, defScope s_least_masks, [], []⟩
abbrev s_size_of : Stmt := top 19
def d_size_of : He.DefD := ⟨("size_of", none), "size_of", "size_of", defArgs s_size_of, defBody s_size_of, defScope s_size_of, [], []⟩
abbrev s_both_signs : Stmt := top 20
def d_both_signs : He.DefD := ⟨("both_signs", none), "both_signs", "both_signs", defArgs s_both_signs, defBody s_both_signs, defScope s_both_signs, [], []⟩
abbrev s_is_row : Stmt := top 25
def d_is_row : He.DefD := ⟨("is_row", none), "is_row", "is_row", defArgs s_is_row, defBody s_is_row, defScope s_is_row, [], []⟩
abbrev s_check_many : Stmt := top 26
def d_check_many : He.DefD := ⟨("check_many", none), "check_many", "check_many", defArgs s_check_many, defBody s_check_many, defScope s_check_many, [], []⟩
abbrev s_is_code_upright : Stmt := top 27
def d_is_code_upright : He.DefD := ⟨("_is_code_upright", none), "_is_code_upright", "_is_code_upright", defArgs s_is_code_upright, defBody s_is_code_upright, defScope s_is_code_upright, [], []⟩
abbrev s_laid_codes : Stmt := top 28
def d_laid_codes : He.DefD := ⟨("_laid_codes", none), "_laid_codes", "_laid_codes", defArgs s_laid_codes, defBody s_laid_codes, defScope s_laid_codes, [], []⟩
abbrev s_parts_beside : Stmt := top 29
def d_parts_beside : He.DefD := ⟨("_parts_beside", none), "_parts_beside", "_parts_beside", defArgs s_parts_beside, defBody s_parts_beside, defScope s_parts_beside, [], []⟩
abbrev s_fill : Stmt := top 30
def d_fill : He.DefD := ⟨("_fill", none), "_fill", "_fill", defArgs s_fill, defBody s_fill, defScope s_fill, [], []⟩
abbrev s_is_upright_to_all : Stmt := top 31
def d_is_upright_to_all : He.DefD := ⟨("_is_upright_to_all", none), "_is_upright_to_all", "_is_upright_to_all", defArgs s_is_upright_to_all, defBody s_is_upright_to_all, defScope s_is_upright_to_all, [], []⟩
abbrev s_Lot_init : Stmt := inClass (top 32) 0
def d_Lot_init : He.DefD := ⟨("Lot", some "__init__"), "__init__", "Lot.__init__", defArgs s_Lot_init, defBody s_Lot_init, defScope s_Lot_init, [.adr (He.dflAt ("Lot", some "__init__") 0)], []⟩
abbrev s_Lot_many : Stmt := inClass (top 32) 1
def d_Lot_many : Zh.GetD := ⟨"Lot", "many", "Lot.many", defArgs s_Lot_many, defBody s_Lot_many, defScope s_Lot_many⟩
abbrev s_Lot_rows : Stmt := inClass (top 32) 2
def d_Lot_rows : Zh.GetD := ⟨"Lot", "rows", "Lot.rows", defArgs s_Lot_rows, defBody s_Lot_rows, defScope s_Lot_rows⟩
abbrev s_Lot_is_even : Stmt := inClass (top 32) 3
def d_Lot_is_even : Zh.GetD := ⟨"Lot", "is_even", "Lot.is_even", defArgs s_Lot_is_even, defBody s_Lot_is_even, defScope s_Lot_is_even⟩
abbrev s_Lot_len : Stmt := inClass (top 32) 4
def d_Lot_len : He.DefD := ⟨("Lot", some "__len__"), "__len__", "Lot.__len__", defArgs s_Lot_len, defBody s_Lot_len, defScope s_Lot_len, [], []⟩
abbrev s_Lot_iter : Stmt := inClass (top 32) 5
def d_Lot_iter : He.DefD := ⟨("Lot", some "__iter__"), "__iter__", "Lot.__iter__", defArgs s_Lot_iter, defBody s_Lot_iter, defScope s_Lot_iter, [], []⟩
abbrev s_Lot_contains : Stmt := inClass (top 32) 6
def d_Lot_contains : He.DefD := ⟨("Lot", some "__contains__"), "__contains__", "Lot.__contains__", defArgs s_Lot_contains, defBody s_Lot_contains, defScope s_Lot_contains, [], []⟩
abbrev s_Lot_eq : Stmt := inClass (top 32) 7
def d_Lot_eq : He.DefD := ⟨("Lot", some "__eq__"), "__eq__", "Lot.__eq__", defArgs s_Lot_eq, defBody s_Lot_eq, defScope s_Lot_eq, [], []⟩
abbrev s_Lot_str : Stmt := inClass (top 32) 8
def d_Lot_str : He.DefD := ⟨("Lot", some "__str__"), "__str__", "Lot.__str__", defArgs s_Lot_str, defBody s_Lot_str, defScope s_Lot_str, [], []⟩
abbrev s_Lot_or : Stmt := inClass (top 32) 9
def d_Lot_or : He.DefD := ⟨("Lot", some "__or__"), "__or__", "Lot.__or__", defArgs s_Lot_or, defBody s_Lot_or, defScope s_Lot_or, [], []⟩
abbrev s_Lot_and : Stmt := inClass (top 32) 10
def d_Lot_and : He.DefD := ⟨("Lot", some "__and__"), "__and__", "Lot.__and__", defArgs s_Lot_and, defBody s_Lot_and, defScope s_Lot_and, [], []⟩
abbrev s_Lot_sub : Stmt := inClass (top 32) 11
def d_Lot_sub : He.DefD := ⟨("Lot", some "__sub__"), "__sub__", "Lot.__sub__", defArgs s_Lot_sub, defBody s_Lot_sub, defScope s_Lot_sub, [], []⟩
abbrev s_Lot_least : Stmt := inClass (top 32) 12
def d_Lot_least : He.DefD := ⟨("Lot", some "least"), "least", "Lot.least", defArgs s_Lot_least, defBody s_Lot_least, defScope s_Lot_least, [], []⟩
abbrev s_Lot_with_turned : Stmt := inClass (top 32) 13
def d_Lot_with_turned : He.DefD := ⟨("Lot", some "with_turned"), "with_turned", "Lot.with_turned", defArgs s_Lot_with_turned, defBody s_Lot_with_turned, defScope s_Lot_with_turned, [], []⟩
abbrev s_Lot_turned_at : Stmt := inClass (top 32) 14
def d_Lot_turned_at : He.DefD := ⟨("Lot", some "turned_at"), "turned_at", "Lot.turned_at", defArgs s_Lot_turned_at, defBody s_Lot_turned_at, defScope s_Lot_turned_at, [], []⟩
abbrev s_Lot_layings : Stmt := inClass (top 32) 15
def d_Lot_layings : He.DefD := ⟨("Lot", some "layings"), "layings", "Lot.layings", defArgs s_Lot_layings, defBody s_Lot_layings, defScope s_Lot_layings, [], []⟩
abbrev s_Lot_uprights : Stmt := inClass (top 32) 16
def d_Lot_uprights : He.DefD := ⟨("Lot", some "uprights"), "uprights", "Lot.uprights", defArgs s_Lot_uprights, defBody s_Lot_uprights, defScope s_Lot_uprights, [], []⟩
abbrev s_lot_of : Stmt := top 33
def d_lot_of : He.DefD := ⟨("lot_of", none), "lot_of", "lot_of", defArgs s_lot_of, defBody s_lot_of, defScope s_lot_of, [], []⟩
abbrev s_check_alike : Stmt := top 34
def d_check_alike : He.DefD := ⟨("_check_alike", none), "_check_alike", "_check_alike", defArgs s_check_alike, defBody s_check_alike, defScope s_check_alike, [], []⟩
abbrev s_law_dice : Stmt := top 36
def d_law_dice : He.DefD := ⟨("_law_dice", none), "_law_dice", "_law_dice", defArgs s_law_dice, defBody s_law_dice, defScope s_law_dice, [], []⟩
abbrev s_law_roll : Stmt := top 37
def d_law_roll : He.DefD := ⟨("_law_roll", none), "_law_roll", "_law_roll", defArgs s_law_roll, defBody s_law_roll, defScope s_law_roll, [], []⟩
abbrev s_law_pick : Stmt := top 38
def d_law_pick : He.DefD := ⟨("_law_pick", none), "_law_pick", "_law_pick", defArgs s_law_pick, defBody s_law_pick, defScope s_law_pick, [], []⟩
abbrev s_law_some : Stmt := top 39
def d_law_some : He.DefD := ⟨("_law_some", none), "_law_some", "_law_some", defArgs s_law_some, defBody s_law_some, defScope s_law_some, [], []⟩
abbrev s_law_flip : Stmt := top 40
def d_law_flip : He.DefD := ⟨("_law_flip", none), "_law_flip", "_law_flip", defArgs s_law_flip, defBody s_law_flip, defScope s_law_flip, [], []⟩
abbrev s_law_turn : Stmt := top 41
def d_law_turn : He.DefD := ⟨("_law_turn", none), "_law_turn", "_law_turn", defArgs s_law_turn, defBody s_law_turn, defScope s_law_turn, [], []⟩
abbrev s_law_laid : Stmt := top 42
def d_law_laid : He.DefD := ⟨("_law_laid", none), "_law_laid", "_law_laid", defArgs s_law_laid, defBody s_law_laid, defScope s_law_laid, [], []⟩
abbrev s_law_apart : Stmt := top 43
def d_law_apart : He.DefD := ⟨("_law_apart", none), "_law_apart", "_law_apart", defArgs s_law_apart, defBody s_law_apart, defScope s_law_apart, [], []⟩
abbrev s_law_upright : Stmt := top 44
def d_law_upright : He.DefD := ⟨("_law_upright", none), "_law_upright", "_law_upright", defArgs s_law_upright, defBody s_law_upright, defScope s_law_upright, [], []⟩
abbrev s_law_layings : Stmt := top 45
def d_law_layings : He.DefD := ⟨("_law_layings", none), "_law_layings", "_law_layings", defArgs s_law_layings, defBody s_law_layings, defScope s_law_layings, [], []⟩
abbrev s_law_drawn_row : Stmt := top 46
def d_law_drawn_row : He.DefD := ⟨("_law_drawn_row", none), "_law_drawn_row", "_law_drawn_row", defArgs s_law_drawn_row, defBody s_law_drawn_row, defScope s_law_drawn_row, [], []⟩
abbrev s_law_every_row : Stmt := top 47
def d_law_every_row : He.DefD := ⟨("_law_every_row", none), "_law_every_row", "_law_every_row", defArgs s_law_every_row, defBody s_law_every_row, defScope s_law_every_row, [], []⟩
abbrev s_law_right : Stmt := top 48
def d_law_right : He.DefD := ⟨("_law_right", none), "_law_right", "_law_right", defArgs s_law_right, defBody s_law_right, defScope s_law_right, [], []⟩
abbrev s_law : Stmt := top 49
def d_law : He.DefD := ⟨("law", none), "law", "law", defArgs s_law, defBody s_law, defScope s_law, [], []⟩
def fn : List He.DefD := [d_wall, d_InvalidNumber_init, d_TooMany_init, d_is_integer, d_is_between, d_code_of, d_rows_by_code, d_rows_of, d_turned_code, d_mask_of, d_has_within, d_least_masks, d_size_of, d_both_signs, d_is_row, d_check_many, d_is_code_upright, d_laid_codes, d_parts_beside, d_fill, d_is_upright_to_all, d_Lot_init, d_Lot_len, d_Lot_iter, d_Lot_contains, d_Lot_eq, d_Lot_str, d_Lot_or, d_Lot_and, d_Lot_sub, d_Lot_least, d_Lot_with_turned, d_Lot_turned_at, d_Lot_layings, d_Lot_uprights, d_lot_of, d_check_alike, d_law_dice, d_law_roll, d_law_pick, d_law_some, d_law_flip, d_law_turn, d_law_laid, d_law_apart, d_law_upright, d_law_layings, d_law_drawn_row, d_law_every_row, d_law_right, d_law]
def gs : List Zh.GetD := [d_Lot_many, d_Lot_rows, d_Lot_is_even]
def ts : List (PySem.W.Frag → Bool) := [fun K => Zo.lineOk K (He.ga K "Lot"), fun K => decide (PySem.W.findIn K (.ref (He.ga K "Lot")) "__ne__" = some (some (.builtin "object.__ne__"))), fun K => decide (PySem.W.mroIn K (He.ga K "Lot") (.type "object") = some true), fun K => decide (PySem.W.findIn K (.ref (He.ga K "Lot")) "__class__" = some (some (.builtin "object.__class__"))), fun K => decide (PySem.W.specialIn K (.builtin "object.__class__") "__get__" = some (some (.builtin "getset_descriptor.__get__"))), fun K => decide (PySem.W.takesIn K (.builtin "object.__class__") = some true), fun K => decide (PySem.W.typeIn K (.ref (He.ga K "Lot")) = some (.type "type")), fun K => decide (PySem.W.mroIn K (He.ga K "Lot") (.type "str") = some false), fun K => Zh.emptyT K (He.dflAt ("Lot", some "__init__") 0 K)]
def fa : List He.Fa := [.glo "_wall", .glo "is_integer", .glo "is_between", .glo "code_of", .glo "rows_by_code", .glo "rows_of", .glo "turned_code", .glo "mask_of", .glo "has_within", .glo "least_masks", .glo "size_of", .glo "both_signs", .glo "is_row", .glo "check_many", .glo "_is_code_upright", .glo "_laid_codes", .glo "_parts_beside", .glo "_fill", .glo "_is_upright_to_all", .glo "lot_of", .glo "_check_alike", .glo "_law_dice", .glo "_law_roll", .glo "_law_pick", .glo "_law_some", .glo "_law_flip", .glo "_law_turn", .glo "_law_laid", .glo "_law_apart", .glo "_law_upright", .glo "_law_layings", .glo "_law_drawn_row", .glo "_law_every_row", .glo "_law_right", .glo "law", .int "SHIFT" 9, .int "LOW" 511, .int "MAX_THINGS" 9, .int "MAX_LAYINGS" 7000, .int "MAX_UPRIGHT" 7, .free "IndexError", .free "NotImplemented", .free "OverflowError", .free "ValueError", .free "abs", .free "all", .free "bool", .free "enumerate", .free "int", .free "isinstance", .free "iter", .free "len", .free "list", .free "max", .free "min", .free "property", .free "range", .free "sorted", .free "str", .free "tuple", .free "zip", .glo "SignsError", .glo "InvalidLot", .glo "InvalidNumber", .glo "TooMany", .glo "Lot", .cls "Lot", .mkr "Lot", .noat "Lot" "_known", .noat "Lot" "_many", .noat "Lot" "_rows", .meth "Lot" "__init__", .meth "Lot" "__len__", .meth "Lot" "__iter__", .meth "Lot" "__contains__", .meth "Lot" "__eq__", .meth "Lot" "__str__", .meth "Lot" "__or__", .meth "Lot" "__and__", .meth "Lot" "__sub__", .meth "Lot" "least", .meth "Lot" "with_turned", .meth "Lot" "turned_at", .meth "Lot" "layings", .meth "Lot" "uprights"]
def names : List PySem.Str := (["_wall", "SignsError", "InvalidLot", "InvalidNumber", "TooMany", "is_integer", "is_between", "SHIFT", "LOW", "code_of", "rows_by_code", "rows_of", "turned_code", "mask_of", "has_within", "least_masks", "size_of", "both_signs", "MAX_THINGS", "MAX_LAYINGS", "MAX_UPRIGHT", "is_row", "check_many", "_is_code_upright", "_laid_codes", "_parts_beside", "_fill", "_is_upright_to_all", "Lot", "lot_of"] : List PySem.Str) ++ (["_check_alike", "_law_dice", "_law_roll", "_law_pick", "_law_some", "_law_flip", "_law_turn", "_law_laid", "_law_apart", "_law_upright", "_law_layings", "_law_drawn_row", "_law_every_row", "_law_right"] : List PySem.Str)
abbrev R : PySem.W.OpenRow := PySem.W.OpenLaw.row PySem.Challenge.rw_sidesigns_k03_whole_layings_and_uprights
abbrev hk : PySem.W.Hook := Zh.hookP 5 fa fn gs ts
def ob (s : PySem.W.SharedT) : Zh.AlP := Zh.obsPG 5 fa fn gs ts (HandSHeadRun.getT s)
theorem ob_eq (s : PySem.W.SharedT) : ob s = hk.obs s.abs := Zh.obsPG_eq (HandSHeadRun.getT_eq s)
theorem run (w : World) : HandSHeadRun.RunEq R (PySem.W.view R.prog [49]) hk ob 9000 names w := by
  intro os
  kernel_rfl
end Hd

set_option Elab.async false
set_option linter.all false
set_option maxRecDepth 100000
set_option maxHeartbeats 0
namespace K03
open PySem PySem.Spec PyProof.Rows L2 Z
theorem all2_ints {K : PySem.W.Frag} {Δ : Gh} {H : Hp} : ∀ ns : List Int, All2 (fun (u : V) (a : Int) => Rp.rp K Δ H u a) (ns.map V.int) ns
  | [] => trivial
  | _ :: ns => ⟨rfl, all2_ints ns⟩
theorem start_law {K : PySem.W.Frag} {H : Hp} {a : Addr} {ns : List Int} (hS : SqL K H a (ns.map V.int)) : spD K F_law [.ref a] H (fun v _ => v = .bl true) fun _ _ _ => False := by
  refine ⟨[], fun _ => none, [⟨ns⟩], Is true, ⟨ns, rfl, rfl⟩, fun p hp => (nomatch hp), fun a I h => (nomatch h), ⟨⟨a, ns.map V.int, rfl, ?_, hS, ?_⟩, trivial⟩, fun v H' b hb _ r => ?_⟩
  · rcases hS with h | h
    · exact .inl ⟨rfl, h⟩
    · exact .inr h
  · exact all2_ints ns
  · rw [show v = .bl b from r, show b = true from hb]
theorem facts {P : Program} {w : World} {K : PySem.W.Frag} {h : Heap} {mg : Str → Option Value} {f : Addr} (X : K.In h) (G : h.Ns mainGlobals mg) (hfa : mg ("law" : Str) = some (.ref f)) (c : Zh.SaysP Hd.fa Hd.fn Hd.gs Hd.ts K) :
    ∃ fd : FuncData, (∀ (s : Shared) (v : Value), BindsTo s fd ⟨[v], []⟩ [("_law_script", v)]) ∧ ∀ base : Heap, K.In base → base.Ns mainGlobals mg → FnOk P w K mg base CX0 16 f fd ["_law_script"] (spD K F_law) := by
  have T : Txt K mg := ⟨He.free_ok X G (c.d.fact 44 (f := .free "abs") rfl), He.free_ok X G (c.d.fact 45 (f := .free "all") rfl), He.free_ok X G (c.d.fact 46 (f := .free "bool") rfl), He.free_ok X G (c.d.fact 47 (f := .free "enumerate") rfl), He.free_ok X G (c.d.fact 48 (f := .free "int") rfl), He.free_ok X G (c.d.fact 49 (f := .free "isinstance") rfl), He.free_ok X G (c.d.fact 50 (f := .free "iter") rfl), He.free_ok X G (c.d.fact 51 (f := .free "len") rfl), He.free_ok X G (c.d.fact 52 (f := .free "list") rfl), He.free_ok X G (c.d.fact 53 (f := .free "max") rfl), He.free_ok X G (c.d.fact 54 (f := .free "min") rfl), He.free_ok X G (c.d.fact 55 (f := .free "property") rfl), He.free_ok X G (c.d.fact 56 (f := .free "range") rfl), He.free_ok X G (c.d.fact 57 (f := .free "sorted") rfl), He.free_ok X G (c.d.fact 58 (f := .free "str") rfl), He.free_ok X G (c.d.fact 59 (f := .free "tuple") rfl), He.free_ok X G (c.d.fact 60 (f := .free "zip") rfl), He.int_ok X G (c.d.fact 35 (f := .int "SHIFT" 9) rfl), He.int_ok X G (c.d.fact 36 (f := .int "LOW" 511) rfl), He.int_ok X G (c.d.fact 37 (f := .int "MAX_THINGS" 9) rfl), He.int_ok X G (c.d.fact 38 (f := .int "MAX_LAYINGS" 7000) rfl), He.int_ok X G (c.d.fact 39 (f := .int "MAX_UPRIGHT" 7) rfl)⟩
  have CL : LotT K := ⟨He.cls_ok (c.d.fact 66 (f := .cls "Lot") rfl), He.noat_ok (c.d.fact 69 (f := .noat "Lot" "_many") rfl), He.noat_ok (c.d.fact 68 (f := .noat "Lot" "_known") rfl), He.noat_ok (c.d.fact 70 (f := .noat "Lot" "_rows") rfl), of_decide_eq_true (c.test 3), of_decide_eq_true (c.test 4), of_decide_eq_true (c.test 5), of_decide_eq_true (c.test 2), c.test 0, of_decide_eq_true (c.test 1), of_decide_eq_true (c.test 6), of_decide_eq_true (c.test 7)⟩
  have CG : mg "Lot" = some (.ref (He.ga K "Lot")) := He.glo_ok X G (c.d.fact 65 (f := .glo "Lot") rfl)
  obtain ⟨fd_both_signs, F_both_signs'⟩ := c.d.def_ 13 (d := Hd.d_both_signs) rfl
  have D_both_signs : Df K mg "both_signs" s_both_signs ["mask"] _ fd_both_signs := ⟨F_both_signs', He.glo_ok X G (c.d.fact 11 (f := .glo "both_signs") rfl), F_both_signs'.bindsN fun _ _ _ _ _ _ us hl => match us, hl with | [_], _ => rfl⟩
  obtain ⟨fd_mask_of, F_mask_of'⟩ := c.d.def_ 9 (d := Hd.d_mask_of) rfl
  have D_mask_of : Df K mg "mask_of" s_mask_of ["code"] _ fd_mask_of := ⟨F_mask_of', He.glo_ok X G (c.d.fact 7 (f := .glo "mask_of") rfl), F_mask_of'.bindsN fun _ _ _ _ _ _ us hl => match us, hl with | [_], _ => rfl⟩
  obtain ⟨fd__parts_beside, F__parts_beside'⟩ := c.d.def_ 18 (d := Hd.d_parts_beside) rfl
  have D__parts_beside : Df K mg "_parts_beside" s__parts_beside ["codes", "mask"] _ fd__parts_beside := ⟨F__parts_beside', He.glo_ok X G (c.d.fact 16 (f := .glo "_parts_beside") rfl), F__parts_beside'.bindsN fun _ _ _ _ _ _ us hl => match us, hl with | [_,_], _ => rfl⟩
  obtain ⟨fd_size_of, F_size_of'⟩ := c.d.def_ 12 (d := Hd.d_size_of) rfl
  have D_size_of : Df K mg "size_of" s_size_of ["mask"] _ fd_size_of := ⟨F_size_of', He.glo_ok X G (c.d.fact 10 (f := .glo "size_of") rfl), F_size_of'.bindsN fun _ _ _ _ _ _ us hl => match us, hl with | [_], _ => rfl⟩
  obtain ⟨fd__fill, F__fill'⟩ := c.d.def_ 19 (d := Hd.d_fill) rfl
  have D__fill : Df K mg "_fill" s__fill ["goal", "mask", "layer", "parts"] _ fd__fill := ⟨F__fill', He.glo_ok X G (c.d.fact 17 (f := .glo "_fill") rfl), F__fill'.bindsN fun _ _ _ _ _ _ us hl => match us, hl with | [_,_,_,_], _ => rfl⟩
  obtain ⟨fd__laid_codes, F__laid_codes'⟩ := c.d.def_ 17 (d := Hd.d_laid_codes) rfl
  have D__laid_codes : Df K mg "_laid_codes" s__laid_codes ["codes"] _ fd__laid_codes := ⟨F__laid_codes', He.glo_ok X G (c.d.fact 15 (f := .glo "_laid_codes") rfl), F__laid_codes'.bindsN fun _ _ _ _ _ _ us hl => match us, hl with | [_], _ => rfl⟩
  obtain ⟨fd_is_integer, F_is_integer'⟩ := c.d.def_ 3 (d := Hd.d_is_integer) rfl
  have D_is_integer : Df K mg "is_integer" s_is_integer ["value"] _ fd_is_integer := ⟨F_is_integer', He.glo_ok X G (c.d.fact 1 (f := .glo "is_integer") rfl), F_is_integer'.bindsN fun _ _ _ _ _ _ us hl => match us, hl with | [_], _ => rfl⟩
  obtain ⟨fd_is_between, F_is_between'⟩ := c.d.def_ 4 (d := Hd.d_is_between) rfl
  have D_is_between : Df K mg "is_between" s_is_between ["value", "least", "most"] _ fd_is_between := ⟨F_is_between', He.glo_ok X G (c.d.fact 2 (f := .glo "is_between") rfl), F_is_between'.bindsN fun _ _ _ _ _ _ us hl => match us, hl with | [_,_,_], _ => rfl⟩
  obtain ⟨fd_check_many, F_check_many'⟩ := c.d.def_ 15 (d := Hd.d_check_many) rfl
  have D_check_many : Df K mg "check_many" s_check_many ["many"] _ fd_check_many := ⟨F_check_many', He.glo_ok X G (c.d.fact 13 (f := .glo "check_many") rfl), F_check_many'.bindsN fun _ _ _ _ _ _ us hl => match us, hl with | [_], _ => rfl⟩
  obtain ⟨fd_is_row, F_is_row'⟩ := c.d.def_ 14 (d := Hd.d_is_row) rfl
  have D_is_row : Df K mg "is_row" s_is_row ["value", "many"] _ fd_is_row := ⟨F_is_row', He.glo_ok X G (c.d.fact 12 (f := .glo "is_row") rfl), F_is_row'.bindsN fun _ _ _ _ _ _ us hl => match us, hl with | [_,_], _ => rfl⟩
  obtain ⟨fd_Lot___init__, F_Lot___init__'⟩ := c.d.def_ 21 (d := Hd.d_Lot_init) rfl
  have B_Lot___init__ : Binds K fd_Lot___init__ ["self", "many", "rows"] [] := by
    obtain ⟨ds, v, h⟩ := FunD.binds1 (ps := ["self", "many", "rows"]) F_Lot___init__' 3 1 (fun z => by cases z) rfl fun T kV doc pm an cdv ct us its hl hi => match us, hl, its, hi with
      | [_,_,_], _, [_], _ => ⟨_, rfl, rfl⟩
    cases v
    exact h
  have B1_Lot___init__ : ∃ a, Binds K fd_Lot___init__ ["self", "many", "rows"] [.ref a] ∧ KT K a [] := by
    obtain ⟨ds, v, h⟩ := FunD.binds1 (ps := ["self", "many", "rows"]) F_Lot___init__' 2 0 (fun z => by cases z) rfl fun T kV doc pm an cdv ct us its hl hi => match us, hl, its, hi with
      | [_,_], _, [_], _ => ⟨_, rfl, rfl⟩
    cases v with
    | cons r t =>
      cases t
      cases r
      exact ⟨_, h, Zh.emptyT_kt (c.test 8)⟩
  obtain ⟨a_Lot, CB_Lot⟩ := B1_Lot___init__
  have D_Lot___init__ : DfM K _ "__init__" "Lot.__init__" s_Lot___init__ ["self", "many", "rows"] _ fd_Lot___init__ := ⟨F_Lot___init__', B_Lot___init__⟩
  obtain ⟨fd_lot_of, F_lot_of'⟩ := c.d.def_ 35 (d := Hd.d_lot_of) rfl
  have D_lot_of : Df K mg "lot_of" s_lot_of ["many", "rows"] _ fd_lot_of := ⟨F_lot_of', He.glo_ok X G (c.d.fact 19 (f := .glo "lot_of") rfl), F_lot_of'.bindsN fun _ _ _ _ _ _ us hl => match us, hl with | [_,_], _ => rfl⟩
  obtain ⟨fd_rows_by_code, F_rows_by_code'⟩ := c.d.def_ 6 (d := Hd.d_rows_by_code) rfl
  have D_rows_by_code : Df K mg "rows_by_code" s_rows_by_code ["first", "behind"] _ fd_rows_by_code := ⟨F_rows_by_code', He.glo_ok X G (c.d.fact 4 (f := .glo "rows_by_code") rfl), F_rows_by_code'.bindsN fun _ _ _ _ _ _ us hl => match us, hl with | [_,_], _ => rfl⟩
  obtain ⟨fd_rows_of, F_rows_of'⟩ := c.d.def_ 7 (d := Hd.d_rows_of) rfl
  have D_rows_of : Df K mg "rows_of" s_rows_of ["codes", "many"] _ fd_rows_of := ⟨F_rows_of', He.glo_ok X G (c.d.fact 5 (f := .glo "rows_of") rfl), F_rows_of'.bindsN fun _ _ _ _ _ _ us hl => match us, hl with | [_,_], _ => rfl⟩
  obtain ⟨fd_code_of, F_code_of'⟩ := c.d.def_ 5 (d := Hd.d_code_of) rfl
  have D_code_of : Df K mg "code_of" s_code_of ["row"] _ fd_code_of := ⟨F_code_of', He.glo_ok X G (c.d.fact 3 (f := .glo "code_of") rfl), F_code_of'.bindsN fun _ _ _ _ _ _ us hl => match us, hl with | [_], _ => rfl⟩
  obtain ⟨fd_Lot_layings, F_Lot_layings'⟩ := c.d.def_ 33 (d := Hd.d_Lot_layings) rfl
  have B_Lot_layings : Binds K fd_Lot_layings ["self"] [] := F_Lot_layings'.bindsN fun _ _ _ _ _ _ us hl => match us, hl with | [_], _ => rfl
  have D_Lot_layings : DfM K _ "layings" "Lot.layings" s_Lot_layings ["self"] _ fd_Lot_layings := ⟨F_Lot_layings', B_Lot_layings⟩
  obtain ⟨fd_turned_code, F_turned_code'⟩ := c.d.def_ 8 (d := Hd.d_turned_code) rfl
  have D_turned_code : Df K mg "turned_code" s_turned_code ["code"] _ fd_turned_code := ⟨F_turned_code', He.glo_ok X G (c.d.fact 6 (f := .glo "turned_code") rfl), F_turned_code'.bindsN fun _ _ _ _ _ _ us hl => match us, hl with | [_], _ => rfl⟩
  obtain ⟨fd__is_code_upright, F__is_code_upright'⟩ := c.d.def_ 16 (d := Hd.d_is_code_upright) rfl
  have D__is_code_upright : Df K mg "_is_code_upright" s__is_code_upright ["one", "other"] _ fd__is_code_upright := ⟨F__is_code_upright', He.glo_ok X G (c.d.fact 14 (f := .glo "_is_code_upright") rfl), F__is_code_upright'.bindsN fun _ _ _ _ _ _ us hl => match us, hl with | [_,_], _ => rfl⟩
  obtain ⟨fd__is_upright_to_all, F__is_upright_to_all'⟩ := c.d.def_ 20 (d := Hd.d_is_upright_to_all) rfl
  have D__is_upright_to_all : Df K mg "_is_upright_to_all" s__is_upright_to_all ["code", "others"] _ fd__is_upright_to_all := ⟨F__is_upright_to_all', He.glo_ok X G (c.d.fact 18 (f := .glo "_is_upright_to_all") rfl), F__is_upright_to_all'.bindsN fun _ _ _ _ _ _ us hl => match us, hl with | [_,_], _ => rfl⟩
  obtain ⟨fd_Lot_uprights, F_Lot_uprights'⟩ := c.d.def_ 34 (d := Hd.d_Lot_uprights) rfl
  have B_Lot_uprights : Binds K fd_Lot_uprights ["self"] [] := F_Lot_uprights'.bindsN fun _ _ _ _ _ _ us hl => match us, hl with | [_], _ => rfl
  have D_Lot_uprights : DfM K _ "uprights" "Lot.uprights" s_Lot_uprights ["self"] _ fd_Lot_uprights := ⟨F_Lot_uprights', B_Lot_uprights⟩
  obtain ⟨P_Lot_rows, fd_Lot_rows, F_Lot_rows'⟩ := c.get 1 (d := Hd.d_Lot_rows) rfl
  have D_Lot_rows : DfM K [] "rows" "Lot.rows" s_Lot_rows ["self"] _ fd_Lot_rows := ⟨F_Lot_rows', F_Lot_rows'.bindsN fun _ _ _ _ _ _ us hl => match us, hl with | [_], _ => rfl⟩
  obtain ⟨fd_Lot___iter__, F_Lot___iter__'⟩ := c.d.def_ 23 (d := Hd.d_Lot_iter) rfl
  have B_Lot___iter__ : Binds K fd_Lot___iter__ ["self"] [] := F_Lot___iter__'.bindsN fun _ _ _ _ _ _ us hl => match us, hl with | [_], _ => rfl
  have D_Lot___iter__ : DfM K _ "__iter__" "Lot.__iter__" s_Lot___iter__ ["self"] _ fd_Lot___iter__ := ⟨F_Lot___iter__', B_Lot___iter__⟩
  obtain ⟨fd_Lot___len__, F_Lot___len__'⟩ := c.d.def_ 22 (d := Hd.d_Lot_len) rfl
  have B_Lot___len__ : Binds K fd_Lot___len__ ["self"] [] := F_Lot___len__'.bindsN fun _ _ _ _ _ _ us hl => match us, hl with | [_], _ => rfl
  have D_Lot___len__ : DfM K _ "__len__" "Lot.__len__" s_Lot___len__ ["self"] _ fd_Lot___len__ := ⟨F_Lot___len__', B_Lot___len__⟩
  obtain ⟨fd_Lot___eq__, F_Lot___eq__'⟩ := c.d.def_ 25 (d := Hd.d_Lot_eq) rfl
  have B_Lot___eq__ : Binds K fd_Lot___eq__ ["self", "other"] [] := F_Lot___eq__'.bindsN fun _ _ _ _ _ _ us hl => match us, hl with | [_,_], _ => rfl
  have D_Lot___eq__ : DfM K _ "__eq__" "Lot.__eq__" s_Lot___eq__ ["self", "other"] _ fd_Lot___eq__ := ⟨F_Lot___eq__', B_Lot___eq__⟩
  obtain ⟨P_Lot_many, fd_Lot_many, F_Lot_many'⟩ := c.get 0 (d := Hd.d_Lot_many) rfl
  have D_Lot_many : DfM K [] "many" "Lot.many" s_Lot_many ["self"] _ fd_Lot_many := ⟨F_Lot_many', F_Lot_many'.bindsN fun _ _ _ _ _ _ us hl => match us, hl with | [_], _ => rfl⟩
  obtain ⟨fd__check_alike, F__check_alike'⟩ := c.d.def_ 36 (d := Hd.d_check_alike) rfl
  have D__check_alike : Df K mg "_check_alike" s__check_alike ["one", "other"] _ fd__check_alike := ⟨F__check_alike', He.glo_ok X G (c.d.fact 20 (f := .glo "_check_alike") rfl), F__check_alike'.bindsN fun _ _ _ _ _ _ us hl => match us, hl with | [_,_], _ => rfl⟩
  obtain ⟨fd_Lot___sub__, F_Lot___sub__'⟩ := c.d.def_ 29 (d := Hd.d_Lot_sub) rfl
  have B_Lot___sub__ : Binds K fd_Lot___sub__ ["self", "other"] [] := F_Lot___sub__'.bindsN fun _ _ _ _ _ _ us hl => match us, hl with | [_,_], _ => rfl
  have D_Lot___sub__ : DfM K _ "__sub__" "Lot.__sub__" s_Lot___sub__ ["self", "other"] _ fd_Lot___sub__ := ⟨F_Lot___sub__', B_Lot___sub__⟩
  obtain ⟨fd__law_roll, F__law_roll'⟩ := c.d.def_ 38 (d := Hd.d_law_roll) rfl
  have D__law_roll : Df K mg "_law_roll" s__law_roll ["_law_dice_here", "_law_total"] _ fd__law_roll := ⟨F__law_roll', He.glo_ok X G (c.d.fact 22 (f := .glo "_law_roll") rfl), F__law_roll'.bindsN fun _ _ _ _ _ _ us hl => match us, hl with | [_,_], _ => rfl⟩
  obtain ⟨fd__law_pick, F__law_pick'⟩ := c.d.def_ 39 (d := Hd.d_law_pick) rfl
  have D__law_pick : Df K mg "_law_pick" s__law_pick ["_law_dice_here", "_law_items"] _ fd__law_pick := ⟨F__law_pick', He.glo_ok X G (c.d.fact 23 (f := .glo "_law_pick") rfl), F__law_pick'.bindsN fun _ _ _ _ _ _ us hl => match us, hl with | [_,_], _ => rfl⟩
  obtain ⟨fd__law_drawn_row, F__law_drawn_row'⟩ := c.d.def_ 47 (d := Hd.d_law_drawn_row) rfl
  have D__law_drawn_row : Df K mg "_law_drawn_row" s__law_drawn_row ["_law_dice_here", "_law_size"] _ fd__law_drawn_row := ⟨F__law_drawn_row', He.glo_ok X G (c.d.fact 31 (f := .glo "_law_drawn_row") rfl), F__law_drawn_row'.bindsN fun _ _ _ _ _ _ us hl => match us, hl with | [_,_], _ => rfl⟩
  obtain ⟨fd__law_laid, F__law_laid'⟩ := c.d.def_ 43 (d := Hd.d_law_laid) rfl
  have D__law_laid : Df K mg "_law_laid" s__law_laid ["_law_one", "_law_other"] _ fd__law_laid := ⟨F__law_laid', He.glo_ok X G (c.d.fact 27 (f := .glo "_law_laid") rfl), F__law_laid'.bindsN fun _ _ _ _ _ _ us hl => match us, hl with | [_,_], _ => rfl⟩
  obtain ⟨fd__law_layings, F__law_layings'⟩ := c.d.def_ 46 (d := Hd.d_law_layings) rfl
  have D__law_layings : Df K mg "_law_layings" s__law_layings ["_law_rows", "_law_many"] _ fd__law_layings := ⟨F__law_layings', He.glo_ok X G (c.d.fact 30 (f := .glo "_law_layings") rfl), F__law_layings'.bindsN fun _ _ _ _ _ _ us hl => match us, hl with | [_,_], _ => rfl⟩
  obtain ⟨fd__law_every_row, F__law_every_row'⟩ := c.d.def_ 48 (d := Hd.d_law_every_row) rfl
  have D__law_every_row : Df K mg "_law_every_row" s__law_every_row ["_law_size"] _ fd__law_every_row := ⟨F__law_every_row', He.glo_ok X G (c.d.fact 32 (f := .glo "_law_every_row") rfl), F__law_every_row'.bindsN fun _ _ _ _ _ _ us hl => match us, hl with | [_], _ => rfl⟩
  obtain ⟨fd__law_some, F__law_some'⟩ := c.d.def_ 40 (d := Hd.d_law_some) rfl
  have D__law_some : Df K mg "_law_some" s__law_some ["_law_dice_here", "_law_items"] _ fd__law_some := ⟨F__law_some', He.glo_ok X G (c.d.fact 24 (f := .glo "_law_some") rfl), F__law_some'.bindsN fun _ _ _ _ _ _ us hl => match us, hl with | [_,_], _ => rfl⟩
  obtain ⟨fd__law_flip, F__law_flip'⟩ := c.d.def_ 41 (d := Hd.d_law_flip) rfl
  have D__law_flip : Df K mg "_law_flip" s__law_flip ["_law_sign"] _ fd__law_flip := ⟨F__law_flip', He.glo_ok X G (c.d.fact 25 (f := .glo "_law_flip") rfl), F__law_flip'.bindsN fun _ _ _ _ _ _ us hl => match us, hl with | [_], _ => rfl⟩
  obtain ⟨fd__law_turn, F__law_turn'⟩ := c.d.def_ 42 (d := Hd.d_law_turn) rfl
  have D__law_turn : Df K mg "_law_turn" s__law_turn ["_law_row"] _ fd__law_turn := ⟨F__law_turn', He.glo_ok X G (c.d.fact 26 (f := .glo "_law_turn") rfl), F__law_turn'.bindsN fun _ _ _ _ _ _ us hl => match us, hl with | [_], _ => rfl⟩
  obtain ⟨fd__law_apart, F__law_apart'⟩ := c.d.def_ 44 (d := Hd.d_law_apart) rfl
  have D__law_apart : Df K mg "_law_apart" s__law_apart ["_law_one", "_law_other"] _ fd__law_apart := ⟨F__law_apart', He.glo_ok X G (c.d.fact 28 (f := .glo "_law_apart") rfl), F__law_apart'.bindsN fun _ _ _ _ _ _ us hl => match us, hl with | [_,_], _ => rfl⟩
  obtain ⟨fd__law_upright, F__law_upright'⟩ := c.d.def_ 45 (d := Hd.d_law_upright) rfl
  have D__law_upright : Df K mg "_law_upright" s__law_upright ["_law_one", "_law_other"] _ fd__law_upright := ⟨F__law_upright', He.glo_ok X G (c.d.fact 29 (f := .glo "_law_upright") rfl), F__law_upright'.bindsN fun _ _ _ _ _ _ us hl => match us, hl with | [_,_], _ => rfl⟩
  obtain ⟨fd__law_right, F__law_right'⟩ := c.d.def_ 49 (d := Hd.d_law_right) rfl
  have D__law_right : Df K mg "_law_right" s__law_right ["_law_dice_here"] _ fd__law_right := ⟨F__law_right', He.glo_ok X G (c.d.fact 33 (f := .glo "_law_right") rfl), F__law_right'.bindsN fun _ _ _ _ _ _ us hl => match us, hl with | [_], _ => rfl⟩
  obtain ⟨fd__law_dice, F__law_dice'⟩ := c.d.def_ 37 (d := Hd.d_law_dice) rfl
  have D__law_dice : Df K mg "_law_dice" s__law_dice ["_law_script", "_law_spot"] _ fd__law_dice := ⟨F__law_dice', He.glo_ok X G (c.d.fact 21 (f := .glo "_law_dice") rfl), F__law_dice'.bindsN fun _ _ _ _ _ _ us hl => match us, hl with | [_,_], _ => rfl⟩
  obtain ⟨fd_law, F_law'⟩ := c.d.def_ 50 (d := Hd.d_law) rfl
  have e := hfa.symm.trans (He.glo_ok X G (c.d.fact 34 (f := .glo "law") rfl))
  cases e
  have b := FunD.bindsA (ps := ["_law_script"]) F_law' fun _ _ _ _ _ _ us hl => match us, hl with | [_], _ => rfl
  have D_law : Df K mg "law" s_law ["_law_script"] _ fd_law := ⟨F_law', hfa, F_law'.bindsN fun _ _ _ _ _ _ us hl => match us, hl with | [_], _ => rfl⟩
  refine ⟨fd_law, fun s v => b s [v] rfl, fun base _ _ => ?_⟩
  have G_both_signs := ok_both_signs (P := P) (w := w) (base := base) T D_both_signs
  have G_mask_of := ok_mask_of (P := P) (w := w) (base := base) T D_mask_of
  have G__parts_beside := ok__parts_beside (P := P) (w := w) (base := base) T D__parts_beside D_both_signs G_both_signs D_mask_of G_mask_of
  have G_size_of := ok_size_of (P := P) (w := w) (base := base) T D_size_of
  have G__fill := ok__fill (P := P) (w := w) (base := base) T D__fill D_size_of G_size_of
  have G__laid_codes := ok__laid_codes (P := P) (w := w) (base := base) T D__laid_codes D__parts_beside G__parts_beside D__fill G__fill
  have G_is_integer := ok_is_integer (P := P) (w := w) (base := base) T D_is_integer
  have G_is_between := ok_is_between (P := P) (w := w) (base := base) T D_is_between D_is_integer G_is_integer
  have G_check_many := ok_check_many (P := P) (w := w) (base := base) T D_check_many D_is_between G_is_between
  have G_is_row := ok_is_row (P := P) (w := w) (base := base) T D_is_row
  have G_Lot___init__ := ok_Lot___init__ (P := P) (w := w) (base := base) T CL D_Lot___init__ D_check_many G_check_many D_is_row G_is_row
  have G_lot_of := ok_lot_of (P := P) (w := w) (base := base) T CL CG D_lot_of ⟨He.mkr_ok (c.d.fact 67 (f := .mkr "Lot") rfl), D_Lot___init__⟩ G_Lot___init__ CB_Lot
  have G_rows_by_code := ok_rows_by_code (P := P) (w := w) (base := base) T D_rows_by_code
  have G_rows_of := ok_rows_of (P := P) (w := w) (base := base) T D_rows_of D_rows_by_code G_rows_by_code D_both_signs G_both_signs
  have G_code_of := ok_code_of (P := P) (w := w) (base := base) T D_code_of
  have G_Lot_layings := ok_Lot_layings (P := P) (w := w) (base := base) T CL CG D_Lot_layings D__laid_codes G__laid_codes D_lot_of G_lot_of D_rows_of G_rows_of D_code_of G_code_of
  have G_turned_code := ok_turned_code (P := P) (w := w) (base := base) T D_turned_code
  have G__is_code_upright := ok__is_code_upright (P := P) (w := w) (base := base) T D__is_code_upright D_turned_code G_turned_code
  have G__is_upright_to_all := ok__is_upright_to_all (P := P) (w := w) (base := base) T D__is_upright_to_all D__is_code_upright G__is_code_upright
  have G_Lot_uprights := ok_Lot_uprights (P := P) (w := w) (base := base) T CL CG D_Lot_uprights D_rows_by_code G_rows_by_code D_lot_of G_lot_of D_code_of G_code_of D__is_upright_to_all G__is_upright_to_all
  have G_Lot_rows := ok_Lot_rows (P := P) (w := w) (base := base) T CL D_Lot_rows
  have G_Lot___iter__ := ok_Lot___iter__ (P := P) (w := w) (base := base) T CL D_Lot___iter__
  have G_Lot___len__ := ok_Lot___len__ (P := P) (w := w) (base := base) T CL D_Lot___len__
  have G_Lot___eq__ := ok_Lot___eq__ (P := P) (w := w) (base := base) T CL CG D_Lot___eq__
  have G_Lot_many := ok_Lot_many (P := P) (w := w) (base := base) T CL D_Lot_many
  have G__check_alike := ok__check_alike (P := P) (w := w) (base := base) T CL D__check_alike ⟨P_Lot_many, D_Lot_many⟩ G_Lot_many
  have G_Lot___sub__ := ok_Lot___sub__ (P := P) (w := w) (base := base) T CL CG D_Lot___sub__ D__check_alike G__check_alike ⟨He.mkr_ok (c.d.fact 67 (f := .mkr "Lot") rfl), D_Lot___init__⟩ G_Lot___init__
  have G__law_roll := ok__law_roll (P := P) (w := w) (base := base) T D__law_roll
  have G__law_pick := ok__law_pick (P := P) (w := w) (base := base) T D__law_pick D__law_roll G__law_roll
  have G__law_drawn_row := ok__law_drawn_row (P := P) (w := w) (base := base) T D__law_drawn_row D__law_pick G__law_pick
  have G__law_laid := ok__law_laid (P := P) (w := w) (base := base) T D__law_laid
  have G__law_layings := ok__law_layings (P := P) (w := w) (base := base) T D__law_layings D__law_laid G__law_laid
  have G__law_every_row := ok__law_every_row (P := P) (w := w) (base := base) T D__law_every_row
  have G__law_some := ok__law_some (P := P) (w := w) (base := base) T D__law_some D__law_roll G__law_roll
  have G__law_flip := ok__law_flip (P := P) (w := w) (base := base) T D__law_flip
  have G__law_turn := ok__law_turn (P := P) (w := w) (base := base) T D__law_turn D__law_flip G__law_flip
  have G__law_apart := ok__law_apart (P := P) (w := w) (base := base) T D__law_apart D__law_flip G__law_flip
  have G__law_upright := ok__law_upright (P := P) (w := w) (base := base) T D__law_upright D__law_apart G__law_apart
  have G__law_right := ok__law_right (P := P) (w := w) (base := base) T CL CG D__law_right ⟨He.meth_ok (c.d.fact 73 (f := .meth "Lot" "__iter__") rfl), D_Lot___iter__⟩ G_Lot___iter__ ⟨He.meth_ok (c.d.fact 72 (f := .meth "Lot" "__len__") rfl), D_Lot___len__⟩ G_Lot___len__ ⟨He.meth_ok (c.d.fact 75 (f := .meth "Lot" "__eq__") rfl), D_Lot___eq__⟩ G_Lot___eq__ ⟨He.meth_ok (c.d.fact 79 (f := .meth "Lot" "__sub__") rfl), D_Lot___sub__⟩ G_Lot___sub__ ⟨He.meth_ok (c.d.fact 83 (f := .meth "Lot" "layings") rfl), D_Lot_layings⟩ G_Lot_layings ⟨He.meth_ok (c.d.fact 84 (f := .meth "Lot" "uprights") rfl), D_Lot_uprights⟩ G_Lot_uprights D__law_roll G__law_roll ⟨He.mkr_ok (c.d.fact 67 (f := .mkr "Lot") rfl), D_Lot___init__⟩ G_Lot___init__ CB_Lot D__law_drawn_row G__law_drawn_row D__law_layings G__law_layings D__law_every_row G__law_every_row D__law_some G__law_some D__law_turn G__law_turn D__law_upright G__law_upright
  have G__law_dice := ok__law_dice (P := P) (w := w) (base := base) T D__law_dice
  exact ok_law T CL CG D_law ⟨He.meth_ok (c.d.fact 83 (f := .meth "Lot" "layings") rfl), D_Lot_layings⟩ G_Lot_layings ⟨He.meth_ok (c.d.fact 84 (f := .meth "Lot" "uprights") rfl), D_Lot_uprights⟩ G_Lot_uprights ⟨P_Lot_rows, D_Lot_rows⟩ G_Lot_rows D__law_right G__law_right D__law_dice G__law_dice ⟨He.mkr_ok (c.d.fact 67 (f := .mkr "Lot") rfl), D_Lot___init__⟩ G_Lot___init__ CB_Lot
end K03
open PySem PySem.W PySem.Calls PyProof.Rows
theorem PySem.Challenge.cw_sidesigns_k03_whole_layings_and_uprights_holds : PySem.Challenge.rw_sidesigns_k03_whole_layings_and_uprights.Holds := by
  w_on; o_law
  refine HandSHeadRun.head_any (r := OpenLaw.row PySem.Challenge.rw_sidesigns_k03_whole_layings_and_uprights) (q := view (OpenLaw.row PySem.Challenge.rw_sidesigns_k03_whole_layings_and_uprights).prog [49]) (H := Hd.hk) (ob := Hd.ob) (M := 9000) (loose := Hd.names) (d := HandSHeadRun.topDef (OpenLaw.row PySem.Challenge.rw_sidesigns_k03_whole_layings_and_uprights).prog 49) (kwd := []) Hd.ob_eq
    (by kernel_rfl) (fun s => by kernel_rfl) Hd.run (by kernel_rfl) (by kernel_rfl) (by kernel_rfl) (by rfl) (by first | assumption | decide +kernel) (by decide +kernel) ⟨rfl, rfl, rfl, rfl, rfl, by decide +kernel⟩ ?hw ?hc
  case hw => w_witness2
  case hc =>
    refine L2.walk_ofE (l := PySem.Challenge.rw_sidesigns_k03_whole_layings_and_uprights) (n := 63) (k := 16) (x := "_law_script") (CX := L2.CX0) rfl (by decide) (by kernel_rfl) ⟨rfl, by decide, by decide⟩ ?F (fun _ _ _ _ z => z)
    intro w mg fa h Y G hmg0
    obtain ⟨K, KX, c⟩ := Y
    have hmg : mg ("law" : PySem.Str) = some (.ref fa) := by
      have e : (HandSHeadRun.topDef (OpenLaw.row PySem.Challenge.rw_sidesigns_k03_whole_layings_and_uprights).prog 49).name = ("law" : PySem.Str) := by kernel_rfl
      rw [← e]
      exact hmg0
    obtain ⟨fd, hb, hF⟩ := K03.facts (P := (PySem.Challenge.rw_sidesigns_k03_whole_layings_and_uprights).prog) (w := w) KX G hmg c
    refine ⟨K, fd, Z.spD K K03.F_law, KX, hb, fun H a ns hl _ hS => ?_, hF⟩
    exact K03.start_law hS


