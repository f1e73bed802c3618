import PyProof.Rows.All
import HandS.Property
import HandS.HeadHook2
import Wide.All
import OpenK.AllK
import Wide.FinOn
import KE.GoesEnum
import KE.GoesZip
import HandS.ForMost
import HandS.Defaults
import HandS.ExpandTabs
import HandS.Translate
import HandS.Wide
import HandS.IsInst
import HandS.NoneIn
import HandS.StrMore
import HandS.Evl
import HandS.SortInts
import HandS.DictComp
import HandS.Conv
import HandS.HeadHook1
import HandS.OwnEq
import PyProof.InstNe
import HandS.SlotsOwn
import HandS.GenYield
import HandS.GenList
import HandS.GenCall
import HandS.Style
import HandS.Set
import HandS.SetFor
import HandS.SetTxt0
import HandS.Strs
import HandS.TupAny
import HandS.OwnIter
import HandS.IterNext
import HandS.FStr
import KE.KCallOwn
import PyProof.FString3
import PyProof.Rows.StrIntSpec
import KE.SortKeyHeap
import HandS.Base
import HandS.Call
import HandS.List
import HandS.Text
import HandS.SortKw
import PyProof.Rows.RegReprOcc
import HandS.SetKeys
import HandS.WordsDict
import KE.SortData
import HandS.Zip
import HandS.TupSets
import PyProof.CollectStr
import HandS.Codes
import PyProof.StrLawsIn
import PyProof.Rows.StrCountLaw
import PyProof.GenComp
import HandS.MakeKwOnly
import KE.KStateDown
import Lean
import HandS.Head0
import HandS.Head1
import HandS.Head2
import HandS.HeadEnd
import PySem.Challenge.RW_sidesigns_k31_paintings_listed
set_option Elab.async false
set_option linter.all false
set_option maxRecDepth 100000
set_option maxHeartbeats 1000000
/-! the head tells properties too -/
namespace Zh
open PySem PySem.Spec PyProof.Rows L2 He
/-- where the getter of x's property m stands -/
def pg (K : PySem.W.Frag) (x m : Str) : Addr := match PySem.W.recIn K (ma K (ga K x) m) "property" with
  | some (.ref g :: _) => g
  | _ => 0
/-- a function that stands at a -/
def lookW (K : PySem.W.Frag) (a : Addr) : FnW := match K.lookup a with
  | some ⟨_, _, .func fd, _⟩ => some (fd.name, fd.qualname, fd.params, fd.body, fd.scope, fd.globals, fd.closure, fd.builtins)
  | _ => none
structure GetD where
  cls : Str
  m : Str
  qual : Str
  params : Arguments
  body : List Stmt
  scope : Scope
def GetD.val (d : GetD) : FnW := some (d.m, d.qual, d.params, .stmts d.body, d.scope, mainGlobals, [], builtinsNs)
/-- keys of the property -/
def propB (K : PySem.W.Frag) (x m : Str) : Bool := decide (PySem.W.findIn K (.ref (ga K x)) m = some (some (.ref (ma K (ga K x) m)))) &&
  (decide (PySem.W.specialIn K (.ref (ma K (ga K x) m)) "__get__" = some (some (.builtin "property.__get__"))) && (decide (PySem.W.takesIn K (.ref (ma K (ga K x) m)) = some true) &&
  (match PySem.W.recIn K (ma K (ga K x) m) "property" with
    | some (.ref _ :: _) => true
    | _ => false)))
/-- the code and the defaults (none) of the function at a -/
def bareB (K : PySem.W.Frag) (a : Addr) (q : Str) : Bool := PySem.W.keepIn K (.ref a) && (match K.lookup a with
  | some ⟨_, _, .func fd, _⟩ => PySem.W.codeIn K fd.code q && (dflB K fd.defaults [] && kwdB K fd.kwdefaults [])
  | _ => false)
def GetD.ok (K : PySem.W.Frag) (d : GetD) : Bool := propB K d.cls d.m && bareB K (pg K d.cls d.m) d.qual
theorem both {a b : Bool} (h : (a && b) = true) : a = true ∧ b = true := by
  cases a <;> cases b <;> first | exact ⟨rfl, rfl⟩ | cases h
theorem prop_ok {K : PySem.W.Frag} {x m : Str} (h : propB K x m = true) : PropOf K (ga K x) m (ma K (ga K x) m) (pg K x m) := by
  obtain ⟨h1, h⟩ := both h
  obtain ⟨h2, h⟩ := both h
  obtain ⟨h3, h4⟩ := both h
  refine ⟨of_decide_eq_true h1, of_decide_eq_true h2, of_decide_eq_true h3, ?_⟩
  unfold pg
  split at h4
  · rename_i g r e
    rw [e]
    exact ⟨r, rfl⟩
  · cases h4
theorem GetD.funD {K : PySem.W.Frag} {d : GetD} (e : lookW K (pg K d.cls d.m) = d.val) (c : bareB K (pg K d.cls d.m) d.qual = true) : ∃ fd, FunD K d.m d.qual d.params d.body d.scope [] [] (pg K d.cls d.m) fd := by
  obtain ⟨kp, k⟩ := both c
  unfold lookW at e
  revert e k
  generalize hq : K.lookup (pg K d.cls d.m) = r
  intro e k
  match r, hq, e, k with
  | some ⟨oc, od, .func ⟨n1, n2, n3, n4, n5, n6, n7, n8, n9, n10, n11, n12, n13, n14, n15⟩, osl⟩, hq, e, k =>
    obtain ⟨k1, k2⟩ := both k
    obtain ⟨k3, k4⟩ := both k2
    unfold GetD.val at e
    simp only [Option.some.injEq, Prod.mk.injEq] at e
    obtain ⟨e1, e2, e3, e4, e5, e6, e7, e8⟩ := e
    subst e1 e2 e3 e4 e5 e6 e7 e8
    exact ⟨_, ⟨oc, od, n8, n9, n10, n11, n12, n13, n14, osl, rfl, hq, k1, dflB_ok k3, kwdB_ok k4⟩, kp⟩
abbrev AlP : Type := AlD × Bool × List FnW
def obsP (fa : List Fa) (fn : List DefD) (gs : List GetD) (ts : List (PySem.W.Frag → Bool)) (K : PySem.W.Frag) : AlP := (obsD fa fn K, ((gs.all fun d => d.ok K) && ts.all fun t => t K), gs.map fun d => lookW K (pg K d.cls d.m))
def valP (fn : List DefD) (gs : List GetD) : AlP := (valD fn, true, gs.map GetD.val)
def SaysP (fa : List Fa) (fn : List DefD) (gs : List GetD) (ts : List (PySem.W.Frag → Bool)) (K : PySem.W.Frag) : Prop := obsP fa fn gs ts K = valP fn gs
def obsPG (n : Nat) (fa : List Fa) (fn : List DefD) (gs : List GetD) (ts : List (PySem.W.Frag → Bool)) (g : Addr → Option Obj) : AlP := obsP fa fn gs ts (frG g (asD g n))
def hookP (n : Nat) (fa : List Fa) (fn : List DefD) (gs : List GetD) (ts : List (PySem.W.Frag → Bool)) : PySem.W.Hook where
  α := AlP
  obs := fun s => obsPG n fa fn gs ts s.heap.get?
  val := fun _ => valP fn gs
  says := fun _ h => ∃ K : PySem.W.Frag, K.In h ∧ SaysP fa fn gs ts K
  of := fun _ _ e => ⟨_, frG_in, e⟩
  keeps := fun _ _ _ ⟨K, hK, c⟩ k => ⟨K, PySem.W.Frag.In.keeps hK k, c⟩
theorem obsPG_eq {n : Nat} {fa : List Fa} {fn : List DefD} {gs : List GetD} {ts : List (PySem.W.Frag → Bool)} {g : Addr → Option Obj} {s : Shared} (h : ∀ a, g a = s.heap.get? a) : obsPG n fa fn gs ts g = (hookP n fa fn gs ts).obs s := by
  rw [show g = s.heap.get? from funext h]
  rfl
section
variable {fa : List Fa} {fn : List DefD} {gs : List GetD} {ts : List (PySem.W.Frag → Bool)} {K : PySem.W.Frag}
theorem SaysP.d (c : SaysP fa fn gs ts K) : SaysD fa fn K := congrArg (fun z : AlP => z.1) c
theorem SaysP.get (c : SaysP fa fn gs ts K) (i : Nat) {d : GetD} (h : gs[i]? = some d := by rfl) : PropOf K (ga K d.cls) d.m (ma K (ga K d.cls) d.m) (pg K d.cls d.m) ∧ ∃ fd, FunD K d.m d.qual d.params d.body d.scope [] [] (pg K d.cls d.m) fd := by
  have h1 : (gs.all fun d => d.ok K) = true := (both (show ((gs.all fun d => d.ok K) && ts.all fun t => t K) = true from congrArg (fun z : AlP => z.2.1) c)).1
  have h2 : gs.map (fun d => lookW K (pg K d.cls d.m)) = gs.map GetD.val := congrArg (fun z : AlP => z.2.2) c
  obtain ⟨h3, h4⟩ := both (List.all_eq_true.mp h1 d (List.mem_of_getElem? h))
  have h5 := congrArg (fun l => l[i]?) h2
  simp only [List.getElem?_map, h, Option.map_some, Option.some.injEq] at h5
  exact ⟨prop_ok h3, GetD.funD h5 h4⟩
theorem SaysP.test (c : SaysP fa fn gs ts K) (i : Nat) {t : PySem.W.Frag → Bool} (h : ts[i]? = some t := by rfl) : t K = true := by
  have h1 : (ts.all fun t => t K) = true := (both (show ((gs.all fun d => d.ok K) && ts.all fun t => t K) = true from congrArg (fun z : AlP => z.2.1) c)).2
  exact List.all_eq_true.mp h1 t (List.mem_of_getElem? h)
end
end Zh

set_option Elab.async false
set_option linter.all false
set_option maxRecDepth 100000
set_option maxHeartbeats 4000000
/-! walks over enumerate(text), enumerate(tuple), zip(text, text) -/
namespace Z
open PySem PySem.Spec PyProof.Rows L2
/-- the signs of a text, as values -/
def signs (x : Str) : List V := x.cps.toList.map fun c => V.str ⟨#[c]⟩
theorem signs_len (x : Str) : (signs x).length = x.cps.size := by unfold signs; simp
/-- enumerate(text): a new pair each -/
def ItEs (x : Str) : It :=
  ⟨fun i _ => i < x.cps.size, fun i H v H' => ∃ T c, v = .ref T ∧ H T = none ∧ H' = upd H T (.tup [.int (i : Nat), .str ⟨#[c]⟩]) ∧ x.cps[i]? = some c, fun i _ => x.cps.size ≤ i⟩
theorem turn_enumS {P : Program} {w : World} {K : PySem.W.Frag} {elts : List Expr} {kk : Nat} {tpos : Pos} (x : Str) (t : Tok) (e it : Addr) :
    Turn P w K (.Tuple elts kk tpos) (ItEs x) [e, it] e (fun i h => i ≤ x.cps.size ∧ (∃ old, IsEnum h e it ((i : Nat) : Int) old) ∧ h.IsStrIter it (strIterType x) x t i ∧ e ≠ it) where
  mem := by simp
  obj := fun i h st b hb => by
    obtain ⟨_, ⟨old, he⟩, ⟨o, ho, hc, hd⟩, _⟩ := st
    have e' : b = e ∨ b = it := by simpa using hb
    rcases e' with z | z
    · rw [z]; exact ⟨_, he, fun v q => nomatch q⟩
    · rw [z]; exact ⟨o, ho, fun v q => by rw [hd] at q; cases q⟩
  keep := fun i h h' st k => by
    obtain ⟨hn, ⟨old, he⟩, ⟨o, ho, r⟩, hne⟩ := st
    exact ⟨hn, ⟨old, k e (by simp) _ he⟩, ⟨o, k it (by simp) o ho, r⟩, hne⟩
  item := by
    intro X hP hw hK hc i pins s σ H E I hf st hg
    subst hP hw hK
    obtain ⟨hn, ⟨old, he⟩, hit, hne⟩ := st
    have hg : i < x.cps.size := hg
    have hel : e < s.heap.objs.size := Heap.lt_size he
    have hil : it < s.heap.objs.size := by obtain ⟨_, q, _⟩ := hit; exact Heap.lt_size q
    have D := Draws.text (prog := X.prog) (w := X.w) (A := X.A.in1) (I.ok.hd hc) it x t
    refine wpAny_pyNext_enum_itemD D he hit hg hne (by simpa using hne) fun u h' tk hu ho hit' hT hsz hk => ?_
    obtain ⟨c, u', hcx, rfl⟩ := hu
    refine ⟨_, rfl, wpAny_letOwnedTupleGo_enum (s := { s with heap := h', toks := tk + 1 }) ho fun h'' he' sb => ?_⟩
    have hT2 : h''.get? s.heap.objs.size = some { cls := .type "tuple", data := .seq #[.int i tk, .str ⟨#[c]⟩ u'] } := (sb.2 _ (Nat.ne_of_gt hel)).trans hT
    have new : ObjOk X.prog X.w (upd H s.heap.objs.size (.tup [.int (i : Nat), .str ⟨#[c]⟩])) h'' s.heap.objs.size (.tup [.int (i : Nat), .str ⟨#[c]⟩]) :=
      ⟨by show 2 ≤ sizeLine; decide, [.int i tk, .str ⟨#[c]⟩ u'], .cons ⟨_, rfl⟩ (.cons ⟨_, rfl⟩ .nil), ⟨_, hT2, rfl, _, rfl⟩⟩
    have I1 : Inv X pins σ (upd H s.heap.objs.size (.tup [.int (i : Nat), .str ⟨#[c]⟩])) { s with heap := h'', toks := tk + 1 } :=
      I.turnedNew (ch := [e, it]) (fun b ob hb q => (sb.2 b (fun z => hb (by simp [z]))).trans (hk b ob (fun z => hb (by simp [z])) (fun z => hb (by simp [z])) q)) hf (Nat.le_refl _) new
    refine ⟨.ref s.heap.objs.size, _, I1, rfl, ⟨_, c, rfl, I.hok.fresh (Nat.le_refl _), rfl, hcx⟩, ⟨hg, ⟨.str ⟨#[c]⟩ u', ?_⟩, ?_, hne⟩, fun b hb => ?_⟩
    · have e1 : ((i + 1 : Nat) : Int) = (i : Int) + 1 := by omega
      rw [e1]; exact he'
    · obtain ⟨o, ho', r⟩ := hit'
      exact ⟨o, (sb.2 it (Ne.symm hne)).trans ho', r⟩
    · have hb' : b < s.heap.objs.size := by
        have e' : b = e ∨ b = it := by simpa using hb
        rcases e' with z | z
        · rw [z]; exact hel
        · rw [z]; exact hil
      rw [upd_ne (Nat.ne_of_lt hb')]
      exact (hf b hb).1
  done := by
    intro X hP hw hK hc i pins s σ H E I hf st hg
    subst hP hw hK
    obtain ⟨hn, ⟨old, he⟩, hit, hne⟩ := st
    have hg : x.cps.size ≤ i := hg
    have ei : i = x.cps.size := by omega
    subst ei
    obtain ⟨f0, f1, f2, f3, f4, f5⟩ := hf it (by simp)
    have D := Draws.text (prog := X.prog) (w := X.w) (A := X.A.in1) (I.ok.hd hc) it x t
    exact wpAny_pyNext_enum_endD D he hit fun h' eb => ⟨rfl, I.turned (t' := s.toks) (fun b o hb q => eb b o hb q) f0 f1 f3 f4 f5⟩
  self := fun A i s Q E st h => let ⟨_, ⟨_, he⟩, _⟩ := st; wpAny_pyIter_enum he h
def iEnumS (ta : TA) : TI := fun σ H R => ta σ H fun vs H1 => ∃ x, vs = [.str x] ∧ R (ItEs x) H1
theorem pi_enumS {X : Cx} {e : Expr} {ta : TA} {p pos tpos : Pos} {elts : List Expr} {kk : Nat} (hg : Gl X "enumerate") (hm : X.mg "enumerate" = none) (ha : PA X [e] ta) (hs : starEach [e] X.env = [(false, eval e X.env)] := by rfl) :
    PI X (.Tuple elts kk tpos) (.Call (.Name "enumerate" p) [e] [] pos) (iEnumS ta) := by
  refine ⟨fun pins s σ H R I h => ?_⟩
  refine Call_ (ld_blt I hg hm boot_enumerate (PyProof.Rows.callWith_type1 (thn (ha.run pos pins s σ H _ I h) fun us s1 ⟨vs, H1, I1, r1, q1⟩ => ?_) hs rfl))
  obtain ⟨x, ex, q⟩ := q1
  subst ex
  cases r1 with
  | cons r rr =>
    cases rr
    obtain ⟨t, rfl⟩ := r
    refine call_enumerate_str fun h' he hit hsz hk => wpAny_pyIter_enum he ?_
    have I2 : Inv X pins σ H1 { s1 with heap := h' } := I1.kept (t' := s1.toks) hk
    refine ⟨s1.heap.objs.size + 1, [s1.heap.objs.size + 1, s1.heap.objs.size], _, _, H1, rfl, I2, turn_enumS x t (s1.heap.objs.size + 1) s1.heap.objs.size, ⟨Nat.zero_le _, ⟨.none, he⟩, hit, Nat.succ_ne_self _⟩, fun b hb => ?_, q⟩
    have e' : b = s1.heap.objs.size + 1 ∨ b = s1.heap.objs.size := by simpa using hb
    have hle : s1.heap.objs.size ≤ b := by
      rcases e' with z | z
      · rw [z]; exact Nat.le_add_right _ _
      · rw [z]; exact Nat.le_refl _
    exact I1.fpOk hle (I1.hok.fresh hle)
/-- enumerate(tuple): a new pair each -/
def ItEt (K : PySem.W.Frag) (a : Addr) : It :=
  ⟨fun i H => ∃ xs x, SqT K H a xs ∧ xs[i]? = some x, fun i H v H' => ∃ T x, v = .ref T ∧ H T = none ∧ H' = upd H T (.tup [.int (i : Nat), x]) ∧ ∀ xs, SqT K H a xs → xs[i]? = some x, fun i H => ∃ xs, SqT K H a xs ∧ xs.length = i⟩
theorem ne_tuple {h : Heap} {e it a : Addr} {i : Int} {old : Value} {its : Array Value} (he : IsEnum h e it i old) (ht : h.IsTuple a its) : e ≠ a := by
  intro z
  subst z
  obtain ⟨o, ho, hc, _⟩ := ht
  rw [he] at ho
  cases ho
  exact absurd hc (by intro h; injection h with h; exact absurd h (by decide))
theorem turn_enumT {P : Program} {w : World} {K : PySem.W.Frag} {elts : List Expr} {kk : Nat} {tpos : Pos} (a e it : Addr) :
    Turn P w K (.Tuple elts kk tpos) (ItEt K a) [e, it] e (fun i h => (∃ old, IsEnum h e it ((i : Nat) : Int) old) ∧ h.IsTupleIter it a i ∧ e ≠ it ∧ a ≠ it) where
  mem := by simp
  obj := fun i h st b hb => by
    obtain ⟨⟨old, he⟩, ⟨o, ho, hc, hd⟩, _⟩ := st
    have e' : b = e ∨ b = it := by simpa using hb
    rcases e' with z | z
    · rw [z]; exact ⟨_, he, fun v q => nomatch q⟩
    · rw [z]; exact ⟨o, ho, fun v q => by rw [hd] at q; cases q⟩
  keep := fun i h h' st k => by
    obtain ⟨⟨old, he⟩, hi, hne⟩ := st
    exact ⟨⟨old, k e (by simp) _ he⟩, hi.at fun o q => k it (by simp) o q, hne⟩
  item := by
    intro X hP hw hK hc i pins s σ H E I hf st hg
    subst hP hw hK
    obtain ⟨⟨old, he⟩, hit, hne, hna⟩ := st
    obtain ⟨xs, x, hq, hx⟩ := hg
    obtain ⟨its, rv, p, hz⟩ := I.tuple hq
    obtain ⟨u, hu, ru⟩ := rv.get hx
    have hlt : i < its.toArray.size := by
      have q := (List.getElem?_eq_some_iff.mp hu).1
      simpa using q
    have hel : e < s.heap.objs.size := Heap.lt_size he
    have hil : it < s.heap.objs.size := by obtain ⟨_, q, _⟩ := hit; exact Heap.lt_size q
    have hea : e ≠ a := ne_tuple he p
    have D := Draws.tuple (prog := X.prog) (w := X.w) (A := X.A.in1) (I.ok.hd hc) it a hna its.toArray
    refine wpAny_pyNext_enum_itemD D he ⟨hit, p⟩ hlt hne (by simp [hne, hea]) fun u1 h' tk hu1 ho hit' hT hsz hk => ?_
    have hu2 : its[i]? = some u1 := by simpa using hu1
    rw [hu] at hu2
    cases hu2
    refine ⟨_, rfl, wpAny_letOwnedTupleGo_enum (s := { s with heap := h', toks := tk + 1 }) ho fun h'' he' sb => ?_⟩
    have hT2 : h''.get? s.heap.objs.size = some { cls := .type "tuple", data := .seq #[.int i tk, u] } := (sb.2 _ (Nat.ne_of_gt hel)).trans hT
    have new : ObjOk X.prog X.w (upd H s.heap.objs.size (.tup [.int (i : Nat), x])) h'' s.heap.objs.size (.tup [.int (i : Nat), x]) :=
      ⟨by show 2 ≤ sizeLine; decide, [.int i tk, u], .cons ⟨_, rfl⟩ (.cons ru .nil), ⟨_, hT2, rfl, _, rfl⟩⟩
    have I1 : Inv X pins σ (upd H s.heap.objs.size (.tup [.int (i : Nat), x])) { s with heap := h'', toks := tk + 1 } :=
      I.turnedNew (ch := [e, it]) (fun b ob hb q => (sb.2 b (fun z => hb (by simp [z]))).trans (hk b ob (fun z => hb (by simp [z])) (fun z => hb (by simp [z])) q)) hf (Nat.le_refl _) new
    refine ⟨.ref s.heap.objs.size, _, I1, rfl, ⟨_, x, rfl, I.hok.fresh (Nat.le_refl _), rfl, fun ys hy => by rw [I.tuple_inj hy hq]; exact hx⟩, ⟨⟨u, ?_⟩, hit'.1.at fun o q => (sb.2 it (Ne.symm hne)).trans q, hne, hna⟩, fun b hb => ?_⟩
    · have e1 : ((i + 1 : Nat) : Int) = (i : Int) + 1 := by omega
      rw [e1]; exact he'
    · have hb' : b < s.heap.objs.size := by
        have e' : b = e ∨ b = it := by simpa using hb
        rcases e' with z | z
        · rw [z]; exact hel
        · rw [z]; exact hil
      rw [upd_ne (Nat.ne_of_lt hb')]
      exact (hf b hb).1
  done := by
    intro X hP hw hK hc i pins s σ H E I hf st hg
    subst hP hw hK
    obtain ⟨⟨old, he⟩, hit, hne, hna⟩ := st
    obtain ⟨xs, hq, hx⟩ := hg
    obtain ⟨its, rv, p, hz⟩ := I.tuple hq
    obtain ⟨f0, f1, f2, f3, f4, f5⟩ := hf it (by simp)
    have hl := rv.length
    have D := Draws.tuple (prog := X.prog) (w := X.w) (A := X.A.in1) (I.ok.hd hc) it a hna its.toArray
    have hi : i = its.toArray.size := by simp; omega
    rw [hi] at hit
    exact wpAny_pyNext_enum_endD D he ⟨hit, p⟩ fun h' eb => ⟨rfl, I.turned (t' := s.toks) (fun b o hb q => eb b o hb q) f0 f1 f3 f4 f5⟩
  self := fun A i s Q E st h => let ⟨⟨_, he⟩, _⟩ := st; wpAny_pyIter_enum he h
set_option maxHeartbeats 1000000 in
theorem meets_enumerate_newB0 {v : Value} {o : Obj} {H : Heap → Prop} (B : Begins v o H) :
    Meets (Builtin.«enumerate.__new__» ⟨[.type "enumerate", v], []⟩) (fun _ R s => H s.heap ∧
      R (.ok (.ret (.ref (s.heap.push o).objs.size))) { s with heap := (s.heap.push o).push { cls := .type "enumerate", data := .fields #[.none, .bool false, .ref s.heap.objs.size, rawInt 0, .none, .none] } }) :=
  .of_wp fun prog w A R s h => by
    obtain ⟨hp, g, d, tk, os⟩ := s; obtain ⟨h1, h⟩ := h
    have hsub := sub_enumerate
    have q1 : ∀ {A' : Around} {E : Value → Shared → Prop} {Q : Value → Shared → Prop}, Q (.ref hp.objs.size) ⟨hp.push o, g, d, tk, os⟩ → wpAny (model prog w) A' (pyIter v) Q E ⟨hp, g, d, tk, os⟩ :=
      fun q => B.iter prog w _ _ ⟨hp, g, d, tk, os⟩ _ h1 q
    wp_walk using q1
    refine wpAny_stack_any fun st => wpAny_pure ?_
    split
    · rename_i c _ _ _ _ _
      cases (c == Value.type "enumerate")
      · wp_walk using q1
        exact ⟨_, rfl, h⟩
      · wp_walk using q1
        exact ⟨_, rfl, h⟩
    · wp_walk using q1
      exact ⟨_, rfl, h⟩
theorem enum_begins0 {prog : Program} {w : World} {A : Around} {E : Value → Shared → Prop} {s : Shared} {v : Value} {o : Obj} {H : Heap → Prop} {Q : Value → Shared → Prop} (B : Begins v o H) (h1 : H s.heap)
    (h : ∀ h', IsEnum h' (s.heap.objs.size + 1) s.heap.objs.size 0 .none → h'.get? s.heap.objs.size = some o → h'.objs.size = s.heap.objs.size + 2 →
      (∀ b o, s.heap.get? b = some o → h'.get? b = some o) → Q (.ref (s.heap.objs.size + 1)) { s with heap := h' }) :
    wpAny (model prog w) A (call (.type "enumerate") [v]) Q E s := by
  refine callType_new F.called_enumerate (by decide) (F.typeCall_enumerate_1 _) (F.newCall_enumerate_1 _) (fun obj => F.args_object_init_2 obj _) F.entry_enumerate_new
    (meets_enumerate_newB0 B) ⟨h1, ?_⟩
  have hz : (s.heap.push o).objs.size = s.heap.objs.size + 1 := Heap.size_push ..
  show _ ∧ _
  rw [hz]
  have he : IsEnum ((s.heap.push o).push { cls := .type "enumerate", data := .fields #[.none, .bool false, .ref s.heap.objs.size, rawInt 0, .none, .none] }) (s.heap.objs.size + 1) s.heap.objs.size 0 .none := by
    have := Heap.get?_push_size (s.heap.push o) (o := { cls := .type "enumerate", data := .fields #[.none, .bool false, .ref s.heap.objs.size, rawInt 0, .none, .none] }) rfl
    rw [hz] at this; exact this
  refine ⟨⟨_, he, rfl⟩, h _ he (Heap.get?_push_of_some _ (Heap.get?_push_size _ B.free)) (by rw [Heap.size_push, hz]) fun b o x => Heap.get?_push_of_some _ (Heap.get?_push_of_some _ x)⟩
def iEnumT (K : PySem.W.Frag) (ta : TA) : TI := fun σ H R => ta σ H fun vs H1 => ∃ a xs, vs = [.ref a] ∧ SqT K H1 a xs ∧ R (ItEt K a) H1
theorem pi_enumT {X : Cx} {e : Expr} {ta : TA} {p pos tpos : Pos} {elts : List Expr} {kk : Nat} (hg : Gl X "enumerate") (hm : X.mg "enumerate" = none) (ha : PA X [e] ta) (hs : starEach [e] X.env = [(false, eval e X.env)] := by rfl) :
    PI X (.Tuple elts kk tpos) (.Call (.Name "enumerate" p) [e] [] pos) (iEnumT X.K ta) := by
  refine ⟨fun pins s σ H R I h => ?_⟩
  refine Call_ (ld_blt I hg hm boot_enumerate (PyProof.Rows.callWith_type1 (thn (ha.run pos pins s σ H _ I h) fun us s1 ⟨vs, H1, I1, r1, q1⟩ => ?_) hs rfl))
  obtain ⟨a, xs, ex, hq, q⟩ := q1
  subst ex
  cases r1 with
  | cons r rr =>
    cases rr
    cases r
    obtain ⟨its, rv, p', hz⟩ := I1.tuple hq
    have hlt : a < s1.heap.objs.size := by obtain ⟨_, q, _⟩ := p'; exact Heap.lt_size q
    refine enum_begins0 (begins_tuple a its.toArray) p' fun h' he hit hsz hk => wpAny_pyIter_enum he ?_
    have I2 : Inv X pins σ H1 { s1 with heap := h' } := I1.kept (t' := s1.toks) hk
    refine ⟨s1.heap.objs.size + 1, [s1.heap.objs.size + 1, s1.heap.objs.size], _, _, H1, rfl, I2, turn_enumT a (s1.heap.objs.size + 1) s1.heap.objs.size, ⟨⟨.none, he⟩, ⟨_, hit, rfl, rfl⟩, Nat.succ_ne_self _, Nat.ne_of_lt hlt⟩, fun b hb => ?_, q⟩
    have e' : b = s1.heap.objs.size + 1 ∨ b = s1.heap.objs.size := by simpa using hb
    have hle : s1.heap.objs.size ≤ b := by
      rcases e' with z | z
      · rw [z]; exact Nat.le_add_right _ _
      · rw [z]; exact Nat.le_refl _
    exact I1.fpOk hle (I1.hok.fresh hle)
/-- zip(text, text): a new pair each -/
def ItZs (x y : Str) : It :=
  ⟨fun i _ => i < min x.cps.size y.cps.size, fun i H v H' => ∃ T c d, v = .ref T ∧ H T = none ∧ H' = upd H T (.tup [.str ⟨#[c]⟩, .str ⟨#[d]⟩]) ∧ x.cps[i]? = some c ∧ y.cps[i]? = some d, fun i _ => min x.cps.size y.cps.size ≤ i⟩
theorem turn_zipS {P : Program} {w : World} {K : PySem.W.Frag} {elts : List Expr} {kk : Nat} {tpos : Pos} {x y : Str} {t1 t2 : Tok} {z TI TO i1 i2 : Addr} (S : ZipSep2 z TI TO i1 i2 [i1] [i2]) :
    Turn P w K (.Tuple elts kk tpos) (ItZs x y) [z, TI, TO, i1, i2] z (fun i h => i ≤ min x.cps.size y.cps.size ∧ IsZip h z TI TO .none ∧ IsTupOf2 h TI (.ref i1) (.ref i2) ∧ (∃ a b, IsTupOf2 h TO a b) ∧ h.IsStrIter i1 (strIterType x) x t1 i ∧ h.IsStrIter i2 (strIterType y) y t2 i) where
  mem := by simp
  obj := fun i h st c hc => by
    obtain ⟨_, hz, hTI, ⟨x, y, hTO⟩, ⟨o1, e1, _, d1⟩, ⟨o2, e2, _, d2⟩⟩ := st
    have e' : c = z ∨ c = TI ∨ c = TO ∨ c = i1 ∨ c = i2 := by simpa using hc
    rcases e' with q | q | q | q | q
    · rw [q]; exact ⟨_, hz, fun v q => nomatch q⟩
    · rw [q]; exact ⟨_, hTI, fun v q => nomatch q⟩
    · rw [q]; exact ⟨_, hTO, fun v q => nomatch q⟩
    · rw [q]; exact ⟨o1, e1, fun v q => by rw [d1] at q; cases q⟩
    · rw [q]; exact ⟨o2, e2, fun v q => by rw [d2] at q; cases q⟩
  keep := fun i h h' st k => by
    obtain ⟨hn, hz, hTI, ⟨x, y, hTO⟩, ⟨o1, e1, r1⟩, ⟨o2, e2, r2⟩⟩ := st
    exact ⟨hn, k z (by simp) _ hz, k TI (by simp) _ hTI, ⟨x, y, k TO (by simp) _ hTO⟩, ⟨o1, k i1 (by simp) _ e1, r1⟩, ⟨o2, k i2 (by simp) _ e2, r2⟩⟩
  item := by
    intro X hP hw hK hc i pins s σ H E I hf st hg
    subst hP hw hK
    obtain ⟨hn, hz, hTI, ⟨x0, y0, hTO⟩, h1, h2⟩ := st
    have hg : i < min x.cps.size y.cps.size := hg
    have D1 := Draws.text (prog := X.prog) (w := X.w) (A := X.A.in1) (I.ok.hd hc) i1 x t1
    have D2 := Draws.text (prog := X.prog) (w := X.w) (A := X.A.in1) (I.ok.hd hc) i2 y t2
    have hzl : z < s.heap.objs.size := Heap.lt_size hz
    refine wpAny_pyNext_zipD2_item S D1 D2 hz hTI hTO h1 h2 (Nat.lt_of_lt_of_le hg (Nat.min_le_left _ _)) (Nat.lt_of_lt_of_le hg (Nat.min_le_right _ _)) fun u1 u2 h' tk p1 p2 z' TO' h1' h2' hT hsz hk => ?_
    obtain ⟨c, q1, hcx, rfl⟩ := p1
    obtain ⟨d, q2, hdx, rfl⟩ := p2
    refine ⟨_, rfl, wpAny_letOwnedTupleGo_zip (s := { s with heap := h', toks := tk }) z' fun h'' z'' sb => ?_⟩
    have hT2 : h''.get? s.heap.objs.size = some { cls := .type "tuple", data := .seq #[.str ⟨#[c]⟩ q1, .str ⟨#[d]⟩ q2] } := (sb.2 _ (Nat.ne_of_gt hzl)).trans hT
    have new : ObjOk X.prog X.w (upd H s.heap.objs.size (.tup [.str ⟨#[c]⟩, .str ⟨#[d]⟩])) h'' s.heap.objs.size (.tup [.str ⟨#[c]⟩, .str ⟨#[d]⟩]) :=
      ⟨by show 2 ≤ sizeLine; decide, [.str ⟨#[c]⟩ q1, .str ⟨#[d]⟩ q2], .cons ⟨_, rfl⟩ (.cons ⟨_, rfl⟩ .nil), ⟨_, hT2, rfl, _, rfl⟩⟩
    have I1 : Inv X pins σ (upd H s.heap.objs.size (.tup [.str ⟨#[c]⟩, .str ⟨#[d]⟩])) { s with heap := h'', toks := tk } :=
      I.turnedNew (ch := [z, TI, TO, i1, i2]) (fun c o hb q => (sb.2 c (fun q' => hb (by simp [q']))).trans (hk c o (fun q' => hb (by simp [q'])) (fun q' => hb (by simp [q'])) (fun q' => hb (by simp [q'])) (fun q' => hb (by simp [q'])) q)) hf (Nat.le_refl _) new
    refine ⟨.ref s.heap.objs.size, _, I1, rfl, ⟨_, c, d, rfl, I.hok.fresh (Nat.le_refl _), rfl, hcx, hdx⟩, ⟨hg, z'', ?_, ⟨.str ⟨#[c]⟩ q1, .str ⟨#[d]⟩ q2, ?_⟩, ?_, ?_⟩, fun c hcm => ?_⟩
    · exact (sb.2 _ S.TIz).trans (hk _ _ S.TIz S.TITO S.TIi1 S.TIi2 hTI)
    · exact (sb.2 _ S.TOz).trans TO'
    · obtain ⟨o, ho, r⟩ := h1'
      exact ⟨o, (sb.2 _ (Ne.symm S.zi1)).trans ho, r⟩
    · obtain ⟨o, ho, r⟩ := h2'
      exact ⟨o, (sb.2 _ (Ne.symm S.zi2)).trans ho, r⟩
    · have hlt : c < s.heap.objs.size := by
        have e' : c = z ∨ c = TI ∨ c = TO ∨ c = i1 ∨ c = i2 := by simpa using hcm
        rcases e' with q | q | q | q | q
        · rw [q]; exact hzl
        · rw [q]; exact Heap.lt_size hTI
        · rw [q]; exact Heap.lt_size hTO
        · rw [q]; obtain ⟨_, e1, _⟩ := h1; exact Heap.lt_size e1
        · rw [q]; obtain ⟨_, e2, _⟩ := h2; exact Heap.lt_size e2
      rw [upd_ne (Nat.ne_of_lt hlt)]
      exact (hf c hcm).1
  done := by
    intro X hP hw hK hc i pins s σ H E I hf st hg
    subst hP hw hK
    obtain ⟨hn, hz, hTI, ⟨x0, y0, hTO⟩, h1, h2⟩ := st
    have hg : min x.cps.size y.cps.size ≤ i := hg
    have D1 := Draws.text (prog := X.prog) (w := X.w) (A := X.A.in1) (I.ok.hd hc) i1 x t1
    have D2 := Draws.text (prog := X.prog) (w := X.w) (A := X.A.in1) (I.ok.hd hc) i2 y t2
    exact wpAny_pyNext_zipD2_end S D1 D2 hz hTI hTO h1 h2 (by omega) (by omega) (by omega) fun h' tk hk => ⟨rfl, I.turnedL (t' := tk) (ch := [z, TI, TO, i1, i2]) (fun c o hb q =>
      hk c o (fun q' => hb (by simp [q'])) (fun q' => hb (by simp [q'])) (fun q' => hb (by simp [q'])) (fun q' => hb (by simp [q'])) q) hf⟩
  self := fun A i s Q E st h => wpAny_pyIter_zip st.2.1 h
def iZipS (ta : TA) : TI := fun σ H R => ta σ H fun vs H1 => ∃ x y, vs = [.str x, .str y] ∧ R (ItZs x y) H1
theorem pi_zipS {X : Cx} {e e2 : Expr} {ta : TA} {p pos tpos : Pos} {elts : List Expr} {kk : Nat} (hg : Gl X "zip") (hm : X.mg "zip" = none) (ha : PA X [e, e2] ta)
    (hs : starEach [e, e2] X.env = (false, eval e X.env) :: starEach [e2] X.env := by rfl) (hpl : (backTo pos (starEach [e2] X.env)).any (·.1) = false := by rfl) :
    PI X (.Tuple elts kk tpos) (.Call (.Name "zip" p) [e, e2] [] pos) (iZipS ta) := by
  refine ⟨fun pins s σ H R I h => ?_⟩
  refine Call_ (ld_blt I hg hm PyProof.Rows.boot_zip (PyProof.Rows.callWith_type1 (thn (ha.run pos pins s σ H _ I h) fun us s1 ⟨vs, H1, I1, r1, q1⟩ => ?_) hs hpl))
  obtain ⟨x, y, ex, q⟩ := q1
  subst ex
  cases r1 with
  | cons r rr =>
    cases rr with
    | cons r' rr =>
      cases rr
      obtain ⟨t1, rfl⟩ := r
      obtain ⟨t2, rfl⟩ := r'
      refine zip_begins2 (begins_text x t1) (begins_text y t2) trivial trivial fun h' hz hTI hTO h1 h2 hsz hk => wpAny_pyIter_zip hz ?_
      have I2 : Inv X pins σ H1 { s1 with heap := h' } := I1.kept (t' := s1.toks) hk
      have S : ZipSep2 (s1.heap.objs.size + 4) (s1.heap.objs.size + 2) (s1.heap.objs.size + 3) s1.heap.objs.size (s1.heap.objs.size + 1) [s1.heap.objs.size] [s1.heap.objs.size + 1] := zip_sep2 (by simp) (by simp)
      refine ⟨s1.heap.objs.size + 4, [s1.heap.objs.size + 4, s1.heap.objs.size + 2, s1.heap.objs.size + 3, s1.heap.objs.size, s1.heap.objs.size + 1], _, _, H1, rfl, I2, turn_zipS (t1 := t1) (t2 := t2) S, ⟨Nat.zero_le _, hz, hTI, ⟨_, _, hTO⟩, ⟨_, h1, rfl, rfl⟩, ⟨_, h2, rfl, rfl⟩⟩, fun c hcm => ?_, q⟩
      have e' : c = s1.heap.objs.size + 4 ∨ c = s1.heap.objs.size + 2 ∨ c = s1.heap.objs.size + 3 ∨ c = s1.heap.objs.size ∨ c = s1.heap.objs.size + 1 := by simpa using hcm
      have hle : s1.heap.objs.size ≤ c := by
        rcases e' with z | z | z | z | z
        · rw [z]; exact Nat.le_add_right _ _
        · rw [z]; exact Nat.le_add_right _ _
        · rw [z]; exact Nat.le_add_right _ _
        · rw [z]; exact Nat.le_refl _
        · rw [z]; exact Nat.le_add_right _ _
      exact I1.fpOk hle (I1.hok.fresh hle)
end Z

set_option Elab.async false
set_option linter.all false
set_option maxRecDepth 100000
set_option maxHeartbeats 4000000
/-! s.translate(str.maketrans("+-", "-+")) -/
namespace Z
open PySem PySem.Spec PyProof.Rows L2
theorem cls_mk (K : PySem.W.Frag) : PySem.W.findCls K (.type "str") (.type "type") (Str.ofString "maketrans") = some (.val (.builtin "str.maketrans")) := by
  first
    | kernel_rfl
    | rfl
section
variable {prog : Program} {w : World} {A : Around} {E : Value → Shared → Prop} {s : Shared}
theorem getm_mk {K : PySem.W.Frag} {pl : Sem Bool} {Q : Value × List Value → Shared → Prop} (X : K.In s.heap) (h : Q (.builtin "str.maketrans", []) { s with toks := s.toks + 1 }) :
    wpAny (model prog w) A (getMethod (.type "str") (Str.ofString "maketrans") pl) Q E s := by
  have hstub : opaqueClassAbove (.type "str") = pure none := by unfold opaqueClassAbove; dsimp only; rw [show Manifest.isStub "str" = false by decide +kernel]; all_goals rfl
  have ht : typeOf (.type "str") = pure (.type "type") := by first | rfl | kernel_rfl
  have L0 : PySem.W.Looks (model prog w) s.heap (typeOf (.type "str")) (.type "type") := PySem.W.Looks.of_pure ht
  have hg : PySem.W.findIn K (.type "type") "__getattribute__" = some (some (.builtin "type.__getattribute__")) := PySem.W.type_tga
  unfold getMethod specialOf
  refine wpAny_bind (wpAny_bind (L0.here ((PySem.W.looks_findIn X hg).here ?_)))
  dsimp only
  rw [if_pos PySem.W.canon_tga]
  refine wpAny_bind (wpAny_mono (Q := fun v => Q (v, [])) (E := E) ?_ (fun _ _ z => wpAny_pure z) fun _ _ z => z)
  have LO : PySem.W.Looks (model prog w) s.heap (opaqueClassAbove (.type "str")) none := PySem.W.Looks.of_pure hstub
  refine PySem.W.cls_open X LO L0 hg (PySem.W.looks_hook X (r := none) (by rfl)) (by show PySem.W.subIn K _ _ = _; rfl) (cls_mk K) ?_
  show wpAny _ _ (ret _) _ _ _
  exact wpAny_pure (wpAny_pure h)
theorem entry_mk : entryFor table "str.maketrans" = some Builtin.«str.maketrans» := entryFor_of_tree (by kernel_rfl)
/-- the swap of 43 and 45 -/
def swp : List (Key × Value) → Prop := fun kvs => ∃ a b : Tok, kvs = [(.inl 43, .int 45 a), (.inl 45, .int 43 b)]
theorem run_mk (t1 t2 : Tok) : MeetsIn prog w (Builtin.«str.maketrans» ⟨[.str "+-" t1, .str "-+" t2], []⟩) (fun A R s =>
    ∀ h' tk kvs, swp kvs → h'.DictOf (mixKind prog w) s.heap.objs.size kvs → (∀ b o, s.heap.get? b = some o → h'.get? b = some o) → R (.ok (.ret (.ref s.heap.objs.size))) { s with heap := h', toks := tk }) := by
  refine .of_wp fun A R s h => ?_
  obtain ⟨hp, g, d, tk, os⟩ := s
  unfold Builtin.«str.maketrans»
  refine wpAny_bind (wpAny_of_eq (a := ()) (by first | rfl | kernel_rfl) ?_)
  refine wpAny_bind (wpAny_of_eq (a := ()) (by first | rfl | kernel_rfl) ?_)
  dsimp only
  refine wpAny_bind (wpAny_of_eq (a := some (Str.ofString "-+")) (by first | rfl | kernel_rfl) ?_)
  refine wpAny_bind (wpAny_of_eq (a := none) (by first | rfl | kernel_rfl) ?_)
  unfold newDict
  refine wpAny_bind (wpAny_newObj_type ?_)
  dsimp only
  have hD0 : (hp.push { cls := .type "dict", data := .dict #[] }).DictOf (mixKind prog w) hp.objs.size [] := Heap.DictOf.new hp
  refine wpAny_bind (wpAny_holding ?_)
  refine wpAny_bind (wpAny_of_eq (a := some (Str.ofString "+-")) (by first | rfl | kernel_rfl) ?_)
  dsimp only
  refine PySem.W.KFB.if_not (by decide +kernel) ?_
  rw [show (Str.ofString "+-").cps.toList.zip (Str.ofString "-+").cps.toList = [(43, 45), (45, 43)] by decide +kernel]
  simp only [List.forIn_cons, List.forIn_nil, bind_assoc, pure_bind]
  refine wpAny_bind (wpAny_mkInt ?_)
  refine wpAny_bind (wpAny_mkInt ?_)
  refine wpAny_bind (wpAny_dictSet_pairs (knd := mixKind prog w) (k := .inl 43) (kV_is (k := .inl 43) ⟨_, rfl⟩) hD0 (fun h1 hd1 sb1 => ?_) (by decide))
  dsimp only at hd1 sb1 ⊢
  refine wpAny_bind (wpAny_mkInt ?_)
  refine wpAny_bind (wpAny_mkInt ?_)
  have e1 : stored ([] : List (Key × Value)) (.inl 43) (.int (45 : Nat) (tk + 1)) = [(.inl 43, .int (45 : Nat) (tk + 1))] := rfl
  rw [e1] at hd1
  refine wpAny_bind (wpAny_dictSet_pairs (knd := mixKind prog w) (k := .inl 45) (kV_is (k := .inl 45) ⟨_, rfl⟩) hd1 (fun h2 hd2 sb2 => ?_) (by show 1 ≤ sizeLine; decide))
  dsimp only at hd2 sb2 ⊢
  refine wpAny_bind (wpAny_of_eq (a := PUnit.unit) (by first | rfl | kernel_rfl) ?_)
  refine wpAny_pure (wpAny_pure ⟨_, rfl, h h2 _ _ ⟨_, _, rfl⟩ hd2 fun b o z => ?_⟩)
  have hb : b ≠ hp.objs.size := Nat.ne_of_lt (Heap.lt_size z)
  exact (sb2.2 b hb).trans ((sb1.2 b hb).trans (Heap.get?_push_of_some _ z))
theorem plain_mk : plainId "str.maketrans" = true := by decide +kernel
theorem check_mk (t1 t2 : Tok) : checkBuiltinCall "str.maketrans" ⟨[.str "+-" t1, .str "-+" t2], []⟩ = pure () := by first | kernel_rfl | rfl
theorem call_mk {t1 t2 : Tok} {Q : Value → Shared → Prop}
    (h : ∀ h' tk kvs, swp kvs → h'.DictOf (mixKind prog w) s.heap.objs.size kvs → (∀ b o, s.heap.get? b = some o → h'.get? b = some o) → Q (.ref s.heap.objs.size) { s with heap := h', toks := tk }) :
    wpAny (model prog w) A (call (.builtin "str.maketrans") [.str "+-" t1, .str "-+" t2]) Q E s :=
  wpAny_call (codeAny_call_builtin plain_mk entry_mk (wpAny_of_eq (a := ()) (check_mk t1 t2) (run_mk t1 t2 A (wants Q E) s h)))
end
/-- the table of the swap -/
def swpV : List (Key × V) := [(.inl 43, .int 45), (.inl 45, .int 43)]
def tMk : TE := fun _ H Q => ∀ p, H p = none → Q (.ref p) (upd H p (.dK swpV))
section
variable {X : Cx}
theorem pe_mk {pl : Sem Bool} {e1 e2 : Expr} {p apos pos j1 p1 j2 p2} (hg : Gl X "str") (hm : X.mg "str" = none)
    (h1 : e1 = .Constant (.str "+-") j1 p1 := by rfl) (h2 : e2 = .Constant (.str "-+") j2 p2 := by rfl)
    (he : eval (.Call (.Attribute (.Name "str" p) "maketrans" apos) [e1, e2] [] pos) X.env = (do
      let ov ← eval (.Name "str" p) X.env
      standAt apos.atName
      let (f, first) ← holding [ov] (getMethod ov "maketrans" pl)
      callWith pos f first (backTo pos (starEach [e1, e2] X.env)) (backToKw pos (keywordEach [] X.env))) := by rfl)
    (hs : starEach [e1, e2] X.env = (false, eval e1 X.env) :: starEach [e2] X.env := by rfl) (hs2 : starEach [e2] X.env = (false, eval e2 X.env) :: starEach [] X.env := by rfl)
    (hpl : (backTo pos (starEach [e2] X.env)).any (·.1) = false := by rfl) : PE X (.Call (.Attribute (.Name "str" p) "maketrans" apos) [e1, e2] [] pos) tMk := by
  subst h1 h2
  refine ⟨fun pins s σ H Q I h => ?_⟩
  refine PySem.W.methodCall_KW (ld_blt I hg hm PyProof.Rows.boot_str ?_ (by decide) (by decide)) he
  refine getm_mk I.kIn ?_
  have I1 : Inv X pins σ H { s with toks := s.toks + 1 } := I.tok _
  have ha : PA X [.Constant (.str "+-") j1 p1, .Constant (.str "-+") j2 p2] (tCons (tC (.str "+-")) (tCons (tC (.str "-+")) tNil)) := pa_cons pe_str (pa_cons pe_str pa_nil)
  show wpAny _ _ (callWith pos (.builtin "str.maketrans") [] (backTo pos (starEach [.Constant (.str "+-") j1 p1, .Constant (.str "-+") j2 p2] X.env)) []) _ _ _
  refine PyProof.Rows.callWith_builtin1 (thn (ha.run pos pins _ σ H (fun vs H1 => H1 = H ∧ vs = [.str "+-", .str "-+"]) I1 ⟨rfl, rfl⟩) fun us s1 ⟨vs, H1, I2, r, e1, e2⟩ => ?_) hs hpl
  subst e1 e2
  obtain ⟨u, w', rfl, ⟨t, rfl⟩, ⟨t', rfl⟩⟩ := vals2 r
  refine call_mk fun h' tk kvs ⟨a, b, ek⟩ hD hk => ?_
  subst ek
  have hsys : (s1.heap.objs.size == sysModules) = false := beq_eq_false_iff_ne.mpr (Ne.symm (Nat.ne_of_lt I2.big))
  have rel : KV swpV [(.inl 43, .int 45 a), (.inl 45, .int 43 b)] := .cons ⟨rfl, _, rfl⟩ (.cons ⟨rfl, _, rfl⟩ .nil)
  exact ⟨.ref s1.heap.objs.size, _, I2.laid (t' := tk) (o := .dK swpV) hk (Nat.le_refl _) (dk_new (by show 2 ≤ sizeLine; decide) hsys rel hD), rfl, h _ (I2.hok.fresh (Nat.le_refl _))⟩
end
/-- a sign, swapped -/
def sw (c : Nat) : Nat := if c = 43 then 45 else if c = 45 then 43 else c
end Z

set_option Elab.async false
set_option linter.all false
set_option maxRecDepth 100000
set_option maxHeartbeats 4000000
namespace Z
open PySem PySem.Spec PyProof.Rows L2
open PySem.Builtin PySem.Builtin.Str
theorem sw_43 : sw 43 = 45 := rfl
theorem sw_45 : sw 45 = 43 := rfl
theorem sw_no {c : Nat} (h1 : c ≠ 43) (h2 : c ≠ 45) : sw c = c := by unfold sw; rw [if_neg h1, if_neg h2]
theorem mapOfK {prog : Program} {w : World} {h h' : Heap} {a : Addr} {f : Key → Option Value} (m : h.MapOf (mixKind prog w) a f) (k : ∀ b o, h.get? b = some o → h'.get? b = some o) : h'.MapOf (mixKind prog w) a f := by
  obtain ⟨o, es, ep, ho, r⟩ := m
  exact ⟨o, es, ep, k _ _ ho, r⟩
def TellsS (f : Key → Option Value) : Prop := (∃ t, f (.inl 43) = some (.int 45 t)) ∧ (∃ t, f (.inl 45) = some (.int 43 t)) ∧ ∀ c : Nat, c ≠ 43 → c ≠ 45 → f (.inl (c : Int)) = none
section
variable {prog : Program} {w : World} {A : Around} {E : Value → Shared → Prop} {s : Shared} {d : Addr} {c : Nat}
theorem wpAny_tlS {f : Key → Option Value} {Q : Mapped → Shared → Prop} (hh : A.handled = none) (hd : (d == sysModules) = false) (hm : s.heap.MapOf (mixKind prog w) d f) (hk : TellsS f)
    (h1 : c = 43 → ∀ h' k, (∀ b o, s.heap.get? b = some o → h'.get? b = some o) → Q (.char 45) { s with heap := h', toks := k })
    (h3 : c = 45 → ∀ h' k, (∀ b o, s.heap.get? b = some o → h'.get? b = some o) → Q (.char 43) { s with heap := h', toks := k })
    (h2 : c ≠ 43 → c ≠ 45 → ∀ h' k, (∀ b o, s.heap.get? b = some o → h'.get? b = some o) → Q .keep { s with heap := h', toks := k }) : wpAny (model prog w) A (tableLookup (.ref d) c) Q E s := by
  unfold tableLookup
  refine wpAny_bind (wpAny_attempt (wpAny_bind (wpAny_mkInt ?_)))
  obtain ⟨⟨t, k1⟩, ⟨t', k2⟩, k3⟩ := hk
  by_cases c1 : c = 43
  · subst c1
    refine wpAny_getItem_of (knd := mixKind prog w) (k := .inl 43) (kV_is (k := .inl 43) ⟨_, rfl⟩) hm k1 ?_
    show wpAny _ _ (do let o ← asInt? (Value.int 45 t); _) _ _ _
    refine wpAny_bind (wpAny_of_eq (a := some 45) rfl ?_)
    show wpAny _ _ (if (decide ((45 : Int) < 0) || decide ((45 : Int) > 0x10FFFF)) = true then _ else pure (Mapped.char (45 : Int).toNat)) _ _ _
    rw [if_neg (by decide)]
    exact wpAny_pure (h1 rfl s.heap _ fun _ _ e => e)
  · by_cases c2 : c = 45
    · subst c2
      refine wpAny_getItem_of (knd := mixKind prog w) (k := .inl 45) (kV_is (k := .inl 45) ⟨_, rfl⟩) hm k2 ?_
      show wpAny _ _ (do let o ← asInt? (Value.int 43 t'); _) _ _ _
      refine wpAny_bind (wpAny_of_eq (a := some 43) rfl ?_)
      show wpAny _ _ (if (decide ((43 : Int) < 0) || decide ((43 : Int) > 0x10FFFF)) = true then _ else pure (Mapped.char (43 : Int).toNat)) _ _ _
      rw [if_neg (by decide)]
      exact wpAny_pure (h3 rfl s.heap _ fun _ _ e => e)
    · refine wpAny_getItem_missing_of (knd := mixKind prog w) (k := .inl (c : Int)) (kV_is (k := .inl (c : Int)) ⟨_, rfl⟩) hd hh hm (k3 c c1 c2) fun h' e hx => ?_
      show wpAny _ _ (do let b ← isInstance (.ref e) (.type "LookupError"); _) _ _ _
      obtain ⟨ob, t, ho, hc, _⟩ := hx.there
      refine wpAny_bind (wpAny_isInstance (T := "KeyError") (b := true) ⟨ob, ho, hc⟩ key_is_lookup ?_)
      show wpAny _ _ (if true = true then (do rule "str.translate.not-in-table"; pure Mapped.keep) else _) _ _ _
      rw [if_pos rfl]
      exact wpAny_bind (wpAny_rule (wpAny_pure (h2 c1 c2 h' _ hx.keeps)))
end
theorem pieces_sw : ∀ (l : List Nat) (acc : Array Nat), List.foldl (fun acc (p : Str) => acc ++ p.cps) acc (l.map fun c => (⟨#[sw c]⟩ : Str)) = acc ++ (l.map sw).toArray
  | [], acc => by
    show acc = acc ++ #[]
    rw [Array.append_empty]
  | c :: l, acc => by
    rw [List.map_cons, List.foldl_cons, pieces_sw l]
    apply Array.toList_inj.mp
    simp
def TrS (x : List Nat) (fast0 : Bool) (s : Shared) (rest : List Nat) (st : List Str × Nat × Bool × List (Nat × Option Nat) × Bool) (s' : Shared) : Prop :=
  ∃ (past : List Nat) (pieces : List Str) (known : List (Nat × Option Nat)) (h' : Heap) (k : Nat), x = past ++ rest ∧ st = (pieces, past.length, fast0, known, false) ∧ pieces.reverse = past.map (fun c => (⟨#[sw c]⟩ : Str)) ∧
    (∀ c a, List.lookup c known = some a → a = some (sw c)) ∧ s' = { s with heap := h', toks := k } ∧ ∀ b o, s.heap.get? b = some o → h'.get? b = some o
theorem TrS.next {x : List Nat} {fast0 : Bool} {s : Shared} {rest past : List Nat} {c : Nat} {pieces : List Str} {known : List (Nat × Option Nat)} {h' : Heap} {k : Nat} (h1 : x = past ++ c :: rest)
    (h3 : pieces.reverse = past.map (fun c => (⟨#[sw c]⟩ : Str))) (h4 : ∀ c a, List.lookup c known = some a → a = some (sw c)) (h6 : ∀ b o, s.heap.get? b = some o → h'.get? b = some o) :
    TrS x fast0 s rest (⟨#[sw c]⟩ :: pieces, past.length + 1, fast0, known, false) { s with heap := h', toks := k } := by
  refine ⟨past ++ [c], ⟨#[sw c]⟩ :: pieces, known, h', k, ?_, ?_, ?_, h4, rfl, h6⟩
  · rw [h1, List.append_assoc] <;> rfl
  · rw [List.length_append] <;> rfl
  · rw [List.reverse_cons, h3, List.map_append] <;> rfl
theorem meets_tr {prog : Program} {w : World} (x : List Nat) (t : Tok) (d : Addr) (hd : (d == sysModules) = false) (hz : x.length ≤ 16000000) : MeetsIn prog w («str.translate» ⟨[.str (SX.S x) t, .ref d], []⟩) (fun A R s =>
    A.handled = none ∧ (∃ f, s.heap.MapOf (mixKind prog w) d f ∧ TellsS f) ∧ ∀ (v : Value) (h' : Heap) (k : Nat), (∀ b o, s.heap.get? b = some o → h'.get? b = some o) → (∃ t', v = .str (SX.S (x.map sw)) t') → R (.ok (.ret v)) { s with heap := h', toks := k }) := by
  refine .of_wp fun A R s h => ?_
  obtain ⟨hh, ⟨f, hm, hk⟩, h⟩ := h
  have hh1 : A.in1.handled = none := hh
  show wpAny _ _ (if ((SX.S x).length == 0) = true then (do rule "str.translate.empty"; ret (.str (SX.S x) t)) else (do
    let st ← forIn (SX.S x).cps (([], 0, (SX.S x).cps.all fun y => decide (y < 128), [], false) : List Str × Nat × Bool × List (Nat × Option Nat) × Bool) _
    _)) _ _ s
  by_cases h0 : ((SX.S x).length == 0) = true
  · rw [if_pos h0]
    have hx : x = [] := by
      rw [beq_iff_eq, SX.S_len] at h0
      exact List.eq_nil_of_length_eq_zero h0
    subst hx
    exact wpAny_bind (wpAny_rule (wpAny_pure ⟨_, rfl, h _ s.heap s.toks (fun _ _ e => e) ⟨t, rfl⟩⟩))
  · rw [if_neg h0]
    generalize ((SX.S x).cps.all fun y => decide (y < 128)) = fast0
    refine wpAny_bind (MeetsSeq2.wpAny_forIn_array _ (TrS x fast0 s) _ (fun c rest st s' hI => ?turn) (fun st s' hI => ?fin) (SX.S x).cps ([], 0, fast0, [], false) ?h0)
    case h0 =>
      refine ⟨[], [], [], s.heap, s.toks, ?_, rfl, rfl, fun c a z => ?_, rfl, fun _ _ e => e⟩
      · show x = [] ++ x.toArray.toList
        rw [List.toList_toArray, List.nil_append]
      · rw [List.lookup_nil] at z
        cases z
    case turn =>
      obtain ⟨past, pieces, known, h', k, e1, e2, e3, e4, e5, e6⟩ := hI
      subst e2
      subst e5
      have hpl : past.length ≤ 16000000 := by
        have q := congrArg List.length e1
        rw [List.length_append] at q
        omega
      have hm' : ({ s with heap := h', toks := k } : Shared).heap.MapOf (mixKind prog w) d f := mapOfK hm e6
      show wpAny _ _ (if tooLong past.length = true then _ else (if fast0 = true then _ else _)) _ _ _
      rw [show tooLong past.length = false from PyProof.Rows.short24 (by omega), if_neg Bool.false_ne_true]
      cases fast0 with
      | true =>
        rw [if_pos rfl]
        cases hl : List.lookup c known with
        | some a =>
          have ha := e4 c a hl
          subst ha
          refine wpAny_bind (wpAny_pure ?_)
          exact wpAny_pure (TrS.next e1 e3 e4 e6)
        | none =>
          have new : ∀ b, b = some (sw c) → ∀ c' a, List.lookup c' ((c, b) :: known) = some a → a = some (sw c') := fun b hb c' a z => by
            rcases lookup_new z with ⟨q1, q2⟩ | q
            · rw [q2, hb, q1]
            · exact e4 c' a q
          refine wpAny_bind (wpAny_tlS hh1 hd hm' hk (fun hw h2 k2 k3 => ?_) (fun hw h2 k2 k3 => ?_) (fun hw hw2 h2 k2 k3 => ?_))
          · subst hw
            refine wpAny_bind (wpAny_pure ?_)
            refine wpAny_pure ?_
            exact TrS.next (c := 43) (fast0 := true) (k := k2) (known := (43, some 45) :: known) e1 e3 (new (some 45) rfl) (fun b o z => k3 b o (e6 b o z))
          · subst hw
            refine wpAny_bind (wpAny_pure ?_)
            refine wpAny_pure ?_
            exact TrS.next (c := 45) (fast0 := true) (k := k2) (known := (45, some 43) :: known) e1 e3 (new (some 43) rfl) (fun b o z => k3 b o (e6 b o z))
          · have e : sw c = c := sw_no hw hw2
            refine wpAny_bind (wpAny_pure ?_)
            refine wpAny_pure ?_
            have q := TrS.next (fast0 := true) (k := k2) (known := (c, some c) :: known) e1 e3 (new (some c) (by rw [e])) (fun b o z => k3 b o (e6 b o z))
            rw [e] at q
            exact q
      | false =>
        rw [if_neg Bool.false_ne_true]
        show wpAny _ _ (if false = true then _ else _) _ _ _
        rw [if_neg Bool.false_ne_true]
        refine wpAny_bind (wpAny_tlS hh1 hd hm' hk (fun hw h2 k2 k3 => ?_) (fun hw h2 k2 k3 => ?_) (fun hw hw2 h2 k2 k3 => ?_))
        · subst hw
          refine wpAny_pure ?_
          exact TrS.next (c := 43) (fast0 := false) (k := k2) e1 e3 e4 (fun b o z => k3 b o (e6 b o z))
        · subst hw
          refine wpAny_pure ?_
          exact TrS.next (c := 45) (fast0 := false) (k := k2) e1 e3 e4 (fun b o z => k3 b o (e6 b o z))
        · have e : sw c = c := sw_no hw hw2
          refine wpAny_pure ?_
          have q := TrS.next (fast0 := false) (k := k2) e1 e3 e4 (fun b o z => k3 b o (e6 b o z))
          rw [e] at q
          exact q
    case fin =>
      obtain ⟨past, pieces, known, h', k, e1, e2, e3, e4, e5, e6⟩ := hI
      subst e2
      subst e5
      have ex : x = past := by rw [e1, List.append_nil]
      show wpAny _ _ (if tooLong past.length = true then _ else retStr { cps := List.foldl (fun acc (p : Str) => acc ++ p.cps) #[] pieces.reverse }) _ _ _
      rw [show tooLong past.length = false from PyProof.Rows.short24 (by rw [← ex]; omega), if_neg Bool.false_ne_true, e3, pieces_sw, ← ex]
      have ev : (⟨#[] ++ (x.map sw).toArray⟩ : Str) = SX.S (x.map sw) := by
        rw [Array.empty_append] <;> rfl
      rw [ev]
      exact wpAny_bind (wpAny_mkStr (wpAny_pure ⟨_, rfl, h _ h' _ e6 ⟨_, rfl⟩⟩) (by rw [SX.S_len, List.length_map, sizeLine_eq]; omega))
section
variable {X : Cx}
theorem swp_of {vs : List (Key × Value)} (r : KV swpV vs) : ∃ a b : Tok, vs = [(.inl 43, .int 45 a), (.inl 45, .int 43 b)] := by
  cases r with
  | cons r1 r2 =>
    cases r2 with
    | cons r3 r4 =>
      cases r4
      rename_i p q
      obtain ⟨p1, p2⟩ := p
      obtain ⟨q1, q2⟩ := q
      obtain ⟨e1, t1, e2⟩ := r1
      obtain ⟨e3, t2, e4⟩ := r3
      cases e1; cases e2; cases e3; cases e4
      exact ⟨t1, t2, rfl⟩
/-- x.translate(the swap) -/
theorem mt_trS (hc : X.calm = true) : MtR X "str.translate" (fun x xs H Q => ∃ (t : List Nat) (d : Addr), x = .str (SX.S t) ∧ xs = [.ref d] ∧ H d = some (.dK swpV) ∧ t.length ≤ 16000000 ∧ Q (.str (SX.S (t.map sw))) H) := by
  intro pins s σ H x xs v us Q I rx rs h
  obtain ⟨a, d, rfl, rfl, hd, h3, h⟩ := h
  obtain ⟨t, rfl⟩ := rx
  cases rs with
  | cons r1 rs =>
    cases rs
    cases r1
    obtain ⟨_, hsys, vs, rel, dd⟩ := dk_of I.hok hd
    obtain ⟨ta, tb, rfl⟩ := swp_of rel
    refine call_meetsIn F.slot_str_translate (typeIs_str _ _ _) F.entry_str_translate (F.args_str_translate_2 _ _) (meets_tr a t d hsys h3) ⟨I.ok.hd hc, ⟨_, dd.mapOf, ⟨ta, rfl⟩, ⟨tb, rfl⟩, fun c c1 c2 => ?_⟩, ?_⟩
    · have z1 : decide ((Sum.inl 43 : Key) = Sum.inl (c : Int)) = false := decide_eq_false (fun z => c1 (by have := Sum.inl.inj z; omega))
      have z2 : decide ((Sum.inl 45 : Key) = Sum.inl (c : Int)) = false := decide_eq_false (fun z => c2 (by have := Sum.inl.inj z; omega))
      unfold valueAt
      rw [List.find?_cons, z1, List.find?_cons, z2] <;> rfl
    · intro v h' k hk ⟨t', e⟩
      subst e
      exact ⟨.str _, H, I.kept (t' := k) hk, ⟨t', rfl⟩, h⟩
end
end Z

set_option Elab.async false
set_option linter.all false
set_option maxRecDepth 100000
set_option maxHeartbeats 1000000
/-! Readings told by data: what a name holds is told by a datum of plain Lean, whatever stands where in memory. -/
namespace Z
open PySem PySem.Spec PyProof.Rows L2

/-! ### cells that may change: each with what stays true of it -/
abbrev Gh := Addr → Option (HO → Prop)
def Hold (Δ : Gh) (H : Hp) : Prop := ∀ a I, Δ a = some I → ∃ o, H a = some o ∧ I o
def Keep (Δ : Gh) (H H' : Hp) : Prop := ∀ a o, Δ a = none → H a = some o → H' a = some o
def Ext (Δ : Gh) (H H' : Hp) : Prop := Keep Δ H H' ∧ Hold Δ H'
abbrev Own := List (Addr × (HO → Prop))
def Sat (Γ : Own) (Δ : Gh) : Prop := ∀ p ∈ Γ, Δ p.1 = some p.2
theorem Keep.refl (Δ : Gh) (H : Hp) : Keep Δ H H := fun _ _ _ h => h
theorem Keep.trans {Δ : Gh} {H H1 H2 : Hp} (a : Keep Δ H H1) (b : Keep Δ H1 H2) : Keep Δ H H2 := fun x o n h => b x o n (a x o n h)
theorem Ext.refl {Δ : Gh} {H : Hp} (h : Hold Δ H) : Ext Δ H H := ⟨Keep.refl Δ H, h⟩
theorem Ext.trans {Δ : Gh} {H H1 H2 : Hp} (a : Ext Δ H H1) (b : Ext Δ H1 H2) : Ext Δ H H2 := ⟨a.1.trans b.1, b.2⟩
/-- a fresh cell is none of the changing ones -/
theorem Hold.fresh {Δ : Gh} {H : Hp} (h : Hold Δ H) {p : Addr} (hp : H p = none) : Δ p = none := by
  cases e : Δ p with
  | none => rfl
  | some I =>
    obtain ⟨o, ho, _⟩ := h p I e
    rw [hp] at ho
    cases ho
theorem Hold.new {Δ : Gh} {H : Hp} (h : Hold Δ H) {p : Addr} (hp : H p = none) (o : HO) : Hold Δ (upd H p o) := fun a I e => by
  obtain ⟨u, hu, iu⟩ := h a I e
  exact ⟨u, by rw [upd_ne (ne_of_none hu hp)]; exact hu, iu⟩
theorem Ext.new {Δ : Gh} {H : Hp} (h : Hold Δ H) {p : Addr} (hp : H p = none) (o : HO) : Ext Δ H (upd H p o) :=
  ⟨fun a u _ e => by rw [upd_ne (ne_of_none e hp)]; exact e, h.new hp o⟩
/-- what is fresh later was fresh before -/
theorem Ext.back {Δ : Gh} {H H' : Hp} (h : Hold Δ H) (e : Ext Δ H H') {p : Addr} (hp : H' p = none) : H p = none := by
  cases q : H p with
  | none => rfl
  | some o =>
    have hn := e.2.fresh hp
    rw [e.1 p o hn q] at hp
    cases hp
theorem Ext.same {Δ : Gh} {H H' : Hp} (h : Hold Δ H) (s : Same H H') : Ext Δ H H' := ⟨fun a o _ q => s a o q, fun a I e => by
  obtain ⟨o, ho, io⟩ := h a I e
  exact ⟨o, s a o ho, io⟩⟩

/-! ### data -/
/-- which value of the heap bears a datum -/
class Rp (α : Type) where
  rp : PySem.W.Frag → Gh → Hp → V → α → Prop
  mono : ∀ {K : PySem.W.Frag} {Δ : Gh} {H H' : Hp} {v : V} {a : α}, Keep Δ H H' → rp K Δ H v a → rp K Δ H' v a
  weak : ∀ {K : PySem.W.Frag} {Δ Δ' : Gh} {H : Hp} {v : V} {a : α}, (∀ x o, H x = some o → Δ x = none → Δ' x = none) → rp K Δ H v a → rp K Δ' H v a
/-- a text, by its codes -/
structure Tx where
  s : List Nat
  deriving DecidableEq
/-- a tuple of any length -/
structure Tup (α : Type) where
  l : List α
/-- an object at a told place -/
structure Loc where
  p : Addr
instance : Rp Int := ⟨fun _ _ _ v a => v = .int a, fun _ h => h, fun _ h => h⟩
instance : Rp Bool := ⟨fun _ _ _ v a => v = .bl a, fun _ h => h, fun _ h => h⟩
instance : Rp Unit := ⟨fun _ _ _ v _ => v = .non, fun _ h => h, fun _ h => h⟩
instance : Rp Tx := ⟨fun _ _ _ v a => v = .str ⟨a.s.toArray⟩, fun _ h => h, fun _ h => h⟩
instance : Rp Loc := ⟨fun _ _ _ v a => v = .ref a.p, fun _ h => h, fun _ h => h⟩
universe u1 u2 u3
/-- members, one by one -/
def All2 {α : Type u1} {β : Type u2} (R : α → β → Prop) : List α → List β → Prop
  | [], [] => True
  | x :: xs, y :: ys => R x y ∧ All2 R xs ys
  | _, _ => False
theorem All2.imp {α : Type u1} {β : Type u2} {R S : α → β → Prop} (h : ∀ x y, R x y → S x y) : ∀ {xs : List α} {ys : List β}, All2 R xs ys → All2 S xs ys
  | [], [], _ => trivial
  | [], _ :: _, q => q.elim
  | _ :: _, [], q => q.elim
  | _ :: _, _ :: _, q => ⟨h _ _ q.1, All2.imp h q.2⟩
theorem All2.len {α : Type u1} {β : Type u2} {R : α → β → Prop} : ∀ {xs : List α} {ys : List β}, All2 R xs ys → xs.length = ys.length
  | [], [], _ => rfl
  | [], _ :: _, q => q.elim
  | _ :: _, [], q => q.elim
  | _ :: xs, _ :: ys, q => by rw [List.length_cons, List.length_cons, All2.len q.2]
theorem All2.get {α : Type u1} {β : Type u2} {R : α → β → Prop} : ∀ {xs : List α} {ys : List β} {i : Nat} {y : β}, All2 R xs ys → ys[i]? = some y → ∃ x, xs[i]? = some x ∧ R x y
  | [], [], _, _, _, e => by simp at e
  | [], _ :: _, _, _, q, _ => q.elim
  | _ :: _, [], _, _, q, _ => q.elim
  | x :: _, y :: _, 0, _, q, e => by
    have e' : y = _ := Option.some.inj e
    subst e'
    exact ⟨x, rfl, q.1⟩
  | _ :: xs, _ :: ys, i + 1, y, q, e => All2.get (xs := xs) (ys := ys) (i := i) q.2 e
theorem All2.getL {α : Type u1} {β : Type u2} {R : α → β → Prop} : ∀ {xs : List α} {ys : List β} {i : Nat} {x : α}, All2 R xs ys → xs[i]? = some x → ∃ y, ys[i]? = some y ∧ R x y
  | [], [], _, _, _, e => by simp at e
  | [], _ :: _, _, _, q, _ => q.elim
  | _ :: _, [], _, _, q, _ => q.elim
  | x :: _, y :: _, 0, _, q, e => by
    have e' : x = _ := Option.some.inj e
    subst e'
    exact ⟨y, rfl, q.1⟩
  | _ :: xs, _ :: ys, i + 1, x, q, e => All2.getL (xs := xs) (ys := ys) (i := i) q.2 e
theorem All2.snoc {α : Type u1} {β : Type u2} {R : α → β → Prop} {x : α} {y : β} (r : R x y) : ∀ {xs : List α} {ys : List β}, All2 R xs ys → All2 R (xs ++ [x]) (ys ++ [y])
  | [], [], _ => ⟨r, trivial⟩
  | [], _ :: _, q => q.elim
  | _ :: _, [], q => q.elim
  | _ :: _, _ :: _, q => ⟨q.1, All2.snoc r q.2⟩
theorem All2.map {α : Type u1} {β : Type u2} {γ : Type u3} {R : α → β → Prop} {f : γ → α} {g : γ → β} : ∀ {xs : List γ}, (∀ x ∈ xs, R (f x) (g x)) → All2 R (xs.map f) (xs.map g)
  | [], _ => trivial
  | _ :: xs, h => ⟨h _ List.mem_cons_self, All2.map fun x hx => h x (List.mem_cons_of_mem _ hx)⟩
/-- a list, a tuple of the written part -/
def KL (K : PySem.W.Frag) (p : Addr) (xs : List V) : Prop := ∃ (o : Obj) (its : Array Value) (n : Nat), K.lookup p = some o ∧ o.cls = .type "list" ∧ o.dict = none ∧ o.data = .seq its n ∧ its.size ≤ sizeLine ∧ Vals xs its.toList
def KT (K : PySem.W.Frag) (p : Addr) (xs : List V) : Prop := ∃ (o : Obj) (its : Array Value) (n : Nat), K.lookup p = some o ∧ o.cls = .type "tuple" ∧ o.data = .seq its n ∧ its.size ≤ sizeLine ∧ Vals xs its.toList
/-- a list, a tuple that stays as it is -/
def StL (K : PySem.W.Frag) (Δ : Gh) (H : Hp) (p : Addr) (xs : List V) : Prop := (Δ p = none ∧ Rd H p (.lst xs)) ∨ KL K p xs
def StT (K : PySem.W.Frag) (Δ : Gh) (H : Hp) (p : Addr) (xs : List V) : Prop := (Δ p = none ∧ Rd H p (.tup xs)) ∨ KT K p xs
section
variable {K : PySem.W.Frag} {Δ Δ' : Gh} {H H' : Hp} {p : Addr} {xs : List V}
theorem StL.seq (h : StL K Δ H p xs) : SqL K H p xs := h.elim (fun h => .inl h.2) .inr
theorem StT.seq (h : StT K Δ H p xs) : SqT K H p xs := h.elim (fun h => .inl h.2) .inr
theorem rd_mono {o : HO} (k : Keep Δ H H') (n : Δ p = none) (h : Rd H p o) : Rd H' p o := h.elim (fun h => .inl (k _ _ n h)) fun ⟨u, h⟩ => .inr ⟨u, k _ _ n h⟩
theorem rd_some {o : HO} (h : Rd H p o) : ∃ u, H p = some u := h.elim (fun h => ⟨_, h⟩) fun ⟨u, h⟩ => ⟨_, h⟩
theorem StL.mono (k : Keep Δ H H') (h : StL K Δ H p xs) : StL K Δ H' p xs := h.elim (fun h => .inl ⟨h.1, rd_mono k h.1 h.2⟩) .inr
theorem StT.mono (k : Keep Δ H H') (h : StT K Δ H p xs) : StT K Δ H' p xs := h.elim (fun h => .inl ⟨h.1, rd_mono k h.1 h.2⟩) .inr
theorem StL.weak (w : ∀ x o, H x = some o → Δ x = none → Δ' x = none) (h : StL K Δ H p xs) : StL K Δ' H p xs := h.elim (fun h => .inl ⟨let ⟨u, hu⟩ := rd_some h.2; w p u hu h.1, h.2⟩) .inr
theorem StT.weak (w : ∀ x o, H x = some o → Δ x = none → Δ' x = none) (h : StT K Δ H p xs) : StT K Δ' H p xs := h.elim (fun h => .inl ⟨let ⟨u, hu⟩ := rd_some h.2; w p u hu h.1, h.2⟩) .inr
end
section
variable {α β : Type} [Rp α] [Rp β]
instance : Rp (List α) where
  rp K Δ H v xs := ∃ p vs, v = .ref p ∧ StL K Δ H p vs ∧ SqL K H p vs ∧ All2 (fun u a => Rp.rp K Δ H u a) vs xs
  mono k h := by
    obtain ⟨p, vs, e, n, s, q⟩ := h
    exact ⟨p, vs, e, n.mono k, (n.mono k).seq, q.imp fun _ _ => Rp.mono k⟩
  weak w h := by
    obtain ⟨p, vs, e, n, s, q⟩ := h
    exact ⟨p, vs, e, n.weak w, s, q.imp fun _ _ => Rp.weak w⟩
instance : Rp (Tup α) where
  rp K Δ H v xs := ∃ p vs, v = .ref p ∧ StT K Δ H p vs ∧ SqT K H p vs ∧ All2 (fun u a => Rp.rp K Δ H u a) vs xs.l
  mono k h := by
    obtain ⟨p, vs, e, n, s, q⟩ := h
    exact ⟨p, vs, e, n.mono k, (n.mono k).seq, q.imp fun _ _ => Rp.mono k⟩
  weak w h := by
    obtain ⟨p, vs, e, n, s, q⟩ := h
    exact ⟨p, vs, e, n.weak w, s, q.imp fun _ _ => Rp.weak w⟩
instance : Rp (α × β) where
  rp K Δ H v x := ∃ p a b, v = .ref p ∧ StT K Δ H p [a, b] ∧ SqT K H p [a, b] ∧ Rp.rp K Δ H a x.1 ∧ Rp.rp K Δ H b x.2
  mono k h := by
    obtain ⟨p, a, b, e, n, s, q, r⟩ := h
    exact ⟨p, a, b, e, n.mono k, (n.mono k).seq, Rp.mono k q, Rp.mono k r⟩
  weak w h := by
    obtain ⟨p, a, b, e, n, s, q, r⟩ := h
    exact ⟨p, a, b, e, n.weak w, s, Rp.weak w q, Rp.weak w r⟩
end

/-! ### names -/
structure Cell where
  {α : Type}
  [r : Rp α]
  val : α
def Cell.rp (c : Cell) (K : PySem.W.Frag) (Δ : Gh) (H : Hp) (v : V) : Prop := c.r.rp K Δ H v c.val
abbrev Env := List (Option Cell)
def EnvOk (K : PySem.W.Frag) (Δ : Gh) (σ : L2.St) (H : Hp) (ρ : Env) : Prop := σ.length = ρ.length ∧ ∀ (i : Nat) (c : Cell), ρ[i]? = some (some c) → ∃ v, σ[i]? = some (some v) ∧ c.rp K Δ H v
section
variable {K : PySem.W.Frag} {Δ Δ' : Gh} {σ : L2.St} {H H' : Hp} {ρ : Env}
theorem EnvOk.mono (k : Keep Δ H H') (h : EnvOk K Δ σ H ρ) : EnvOk K Δ σ H' ρ := ⟨h.1, fun i c e => by
  obtain ⟨v, e1, e2⟩ := h.2 i c e
  exact ⟨v, e1, c.r.mono k e2⟩⟩
theorem EnvOk.weak (w : ∀ x o, H x = some o → Δ x = none → Δ' x = none) (h : EnvOk K Δ σ H ρ) : EnvOk K Δ' σ H ρ := ⟨h.1, fun i c e => by
  obtain ⟨v, e1, e2⟩ := h.2 i c e
  exact ⟨v, e1, c.r.weak w e2⟩⟩
theorem EnvOk.set {i : Nat} {c : Cell} {v : V} (h : EnvOk K Δ σ H ρ) (hi : i < ρ.length) (hv : c.rp K Δ H v) : EnvOk K Δ (σ.set i (some v)) H (ρ.set i (some c)) := by
  refine ⟨by rw [List.length_set, List.length_set]; exact h.1, fun j d e => ?_⟩
  by_cases hj : i = j
  · subst hj
    rw [List.getElem?_set_self hi] at e
    cases e
    exact ⟨v, List.getElem?_set_self (by rw [h.1]; exact hi), hv⟩
  · rw [List.getElem?_set_ne hj] at e ⊢
    exact h.2 j d e
theorem EnvOk.drop {i : Nat} (h : EnvOk K Δ σ H ρ) : EnvOk K Δ (σ.set i none) H (ρ.set i none) := by
  refine ⟨by rw [List.length_set, List.length_set]; exact h.1, fun j d e => ?_⟩
  by_cases hj : i = j
  · subst hj
    by_cases hi : i < ρ.length
    · rw [List.getElem?_set_self hi] at e
      cases e
    · rw [List.getElem?_eq_none (by rw [List.length_set]; omega)] at e
      cases e
  · rw [List.getElem?_set_ne hj] at e ⊢
    exact h.2 j d e
def wipeE (ρ : Env) : List Nat → Env
  | [] => ρ
  | v :: vs => (wipeE ρ vs).set v none
theorem EnvOk.wipe (h : EnvOk K Δ σ H ρ) : ∀ vs : List Nat, EnvOk K Δ (L2.wipe σ vs) H (wipeE ρ vs)
  | [] => h
  | v :: vs => (EnvOk.wipe h vs).drop
end

/-! ### expressions -/
/-- the datum is just this -/
def Is {α : Type u1} (a : α) : α → Prop := fun x => x = a
def Ev (K : PySem.W.Frag) (Γ : Own) (te : TE) (ρ : Env) {α : Type} [Rp α] (P : α → Prop) : Prop :=
  ∀ (Δ : Gh) (σ : L2.St) (H : Hp) (Q : VK), Sat Γ Δ → Hold Δ H → EnvOk K Δ σ H ρ → (∀ v H' a, P a → Ext Δ H H' → Rp.rp K Δ H' v a → Q v H') → te σ H Q
def EvT (K : PySem.W.Frag) (Γ : Own) (t : TT) (ρ : Env) (P : Bool → Prop) : Prop :=
  ∀ (Δ : Gh) (σ : L2.St) (H : Hp) (Q : Bool → Hp → Prop), Sat Γ Δ → Hold Δ H → EnvOk K Δ σ H ρ → (∀ b H', P b → Ext Δ H H' → Q b H') → t σ H Q
def ArgsOk (K : PySem.W.Frag) (Δ : Gh) (H : Hp) : List V → List Cell → Prop := All2 fun (v : V) (c : Cell) => c.rp K Δ H v
def EvA (K : PySem.W.Frag) (Γ : Own) (t : TA) (ρ : Env) (P : List Cell → Prop) : Prop :=
  ∀ (Δ : Gh) (σ : L2.St) (H : Hp) (Q : List V → Hp → Prop), Sat Γ Δ → Hold Δ H → EnvOk K Δ σ H ρ → (∀ vs H' cs, P cs → Ext Δ H H' → ArgsOk K Δ H' vs cs → Q vs H') → t σ H Q
section
variable {K : PySem.W.Frag} {Γ : Own} {ρ : Env} {ta tb tc te : TE} {t u : TT} {α β γ : Type} [Rp α] [Rp β] [Rp γ] {Pa : α → Prop} {Pb : β → Prop} {Pc : γ → Prop}
theorem Ev.imp {P P' : α → Prop} (h : Ev K Γ te ρ P) (q : ∀ a, P a → P' a) : Ev K Γ te ρ P' := fun Δ σ H Q s hh e k => h Δ σ H Q s hh e fun v H' a p => k v H' a (q a p)
theorem EvT.imp {P P' : Bool → Prop} (h : EvT K Γ t ρ P) (q : ∀ a, P a → P' a) : EvT K Γ t ρ P' := fun Δ σ H Q s hh e k => h Δ σ H Q s hh e fun b H' p => k b H' (q b p)
theorem ev_is {a b : α} (h : Ev K Γ te ρ (Is a)) (e : a = b) : Ev K Γ te ρ (Is b) := e ▸ h
theorem et_is {a b : Bool} (h : EvT K Γ t ρ (Is a)) (e : a = b) : EvT K Γ t ρ (Is b) := e ▸ h
theorem ev_var {i : Nat} {a : α} (h : ρ[i]? = some (some ⟨a⟩) := by rfl) : Ev K Γ (tVar i) ρ (Is a) := fun Δ σ H Q s hh e k => by
  obtain ⟨v, h1, h2⟩ := e.2 i _ h
  exact ⟨v, h1, k v H a rfl (Ext.refl hh) h2⟩
theorem ev_int {i : Int} : Ev K Γ (tC (.int i)) ρ (Is i) := fun Δ σ H Q s hh e k => k _ H i rfl (Ext.refl hh) rfl
theorem ev_bl {b : Bool} : Ev K Γ (tC (.bl b)) ρ (Is b) := fun Δ σ H Q s hh e k => k _ H b rfl (Ext.refl hh) rfl
theorem ev_non : Ev K Γ (tC .non) ρ (Is ()) := fun Δ σ H Q s hh e k => k _ H () rfl (Ext.refl hh) rfl
theorem ev_str {x : Str} : Ev K Γ (tC (.str x)) ρ (Is (⟨x.cps.toList⟩ : Tx)) := fun Δ σ H Q s hh e k => k _ H _ rfl (Ext.refl hh) rfl
/-- a two-place operation on data -/
def Op2 (K : PySem.W.Frag) (r : R2) (x : α) (y : β) (P : γ → Prop) : Prop :=
  ∀ (Δ : Gh) (H : Hp) (v w : V) (Q : VK), Hold Δ H → Rp.rp K Δ H v x → Rp.rp K Δ H w y → (∀ u H' c, P c → Ext Δ H H' → Rp.rp K Δ H' u c → Q u H') → r v w H Q
theorem ev_op {r : R2} (ha : Ev K Γ ta ρ Pa) (hb : Ev K Γ tb ρ Pb) (hr : ∀ x y, Pa x → Pb y → Op2 K r x y Pc) : Ev K Γ (tOp r ta tb) ρ Pc := fun Δ σ H Q s hh e k =>
  ha Δ σ H _ s hh e fun v H1 x px e1 r1 => hb Δ σ H1 _ s e1.2 (e.mono e1.1) fun w H2 y py e2 r2 =>
    hr x y px py Δ H2 v w Q e2.2 (Rp.mono e2.1 r1) r2 fun z H3 c pc e3 r3 => k z H3 c pc (e1.trans (e2.trans e3)) r3
theorem ev_op1 {r : R2} {x : α} {y : β} (ha : Ev K Γ ta ρ (Is x)) (hb : Ev K Γ tb ρ (Is y)) (hr : Op2 K r x y Pc) : Ev K Γ (tOp r ta tb) ρ Pc :=
  ev_op ha hb fun x' y' e1 e2 => by rw [show x' = x from e1, show y' = y from e2]; exact hr
theorem o2_I0 {g : Int → Int → Int} {x y : Int} : Op2 K (rI0 fun i j => .int (g i j)) x y (Is (g x y)) := fun Δ H v w Q hh r1 r2 k => ⟨x, y, r1, r2, k _ H _ rfl (Ext.refl hh) rfl⟩
theorem o2_B0 {g : Int → Int → Bool} {x y : Int} : Op2 K (rI0 fun i j => .bl (g i j)) x y (Is (g x y)) := fun Δ H v w Q hh r1 r2 k => ⟨x, y, r1, r2, k _ H _ rfl (Ext.refl hh) rfl⟩
theorem o2_I {C : Int → Int → Prop} {g : Int → Int → Int} {x y : Int} (c : C x y) : Op2 K (rI C fun i j => .int (g i j)) x y (Is (g x y)) := fun Δ H v w Q hh r1 r2 k => ⟨x, y, r1, r2, c, k _ H _ rfl (Ext.refl hh) rfl⟩
theorem dec_tx {x y : Tx} : decide (V.str ⟨x.s.toArray⟩ = V.str ⟨y.s.toArray⟩) = decide (x = y) := by
  rw [decide_eq_decide]
  constructor
  · intro h
    injection h with h
    injection h with h
    have h2 := congrArg Array.toList h
    cases x
    cases y
    simpa using h2
  · intro h
    rw [h]
theorem o2_eqS {x y : Tx} : Op2 K rEq x y (Is (decide (x = y))) := fun Δ H v w Q hh r1 r2 k => by
  have e1 : v = .str ⟨x.s.toArray⟩ := r1
  have e2 : w = .str ⟨y.s.toArray⟩ := r2
  subst e1 e2
  exact ⟨rfl, k _ H _ rfl (Ext.refl hh) (congrArg V.bl dec_tx)⟩
theorem o2_neS {x y : Tx} : Op2 K rNe x y (Is (!decide (x = y))) := fun Δ H v w Q hh r1 r2 k => by
  have e1 : v = .str ⟨x.s.toArray⟩ := r1
  have e2 : w = .str ⟨y.s.toArray⟩ := r2
  subst e1 e2
  exact ⟨rfl, k _ H _ rfl (Ext.refl hh) (congrArg (fun b => V.bl (!b)) dec_tx)⟩
theorem o2_eqI {x y : Int} : Op2 K rEq x y (Is (decide (x = y))) := fun Δ H v w Q hh r1 r2 k => by
  have e1 : v = .int x := r1
  have e2 : w = .int y := r2
  subst e1 e2
  refine ⟨rfl, k _ H _ rfl (Ext.refl hh) (congrArg V.bl ?_)⟩
  rw [decide_eq_decide]
  exact ⟨fun h => V.int.inj h, fun h => by rw [h]⟩
theorem o2_neI {x y : Int} : Op2 K rNe x y (Is (!decide (x = y))) := fun Δ H v w Q hh r1 r2 k => by
  have e1 : v = .int x := r1
  have e2 : w = .int y := r2
  subst e1 e2
  refine ⟨rfl, k _ H _ rfl (Ext.refl hh) (congrArg (fun b => V.bl (!b)) ?_)⟩
  rw [decide_eq_decide]
  exact ⟨fun h => V.int.inj h, fun h => by rw [h]⟩
theorem o2_eqB {x y : Bool} : Op2 K rEq x y (Is (decide (x = y))) := fun Δ H v w Q hh r1 r2 k => by
  have e1 : v = .bl x := r1
  have e2 : w = .bl y := r2
  subst e1 e2
  refine ⟨rfl, k _ H _ rfl (Ext.refl hh) (congrArg V.bl ?_)⟩
  rw [decide_eq_decide]
  exact ⟨fun h => V.bl.inj h, fun h => by rw [h]⟩
theorem o2_neB {x y : Bool} : Op2 K rNe x y (Is (!decide (x = y))) := fun Δ H v w Q hh r1 r2 k => by
  have e1 : v = .bl x := r1
  have e2 : w = .bl y := r2
  subst e1 e2
  refine ⟨rfl, k _ H _ rfl (Ext.refl hh) (congrArg (fun b => V.bl (!b)) ?_)⟩
  rw [decide_eq_decide]
  exact ⟨fun h => V.bl.inj h, fun h => by rw [h]⟩
theorem cp_at {x : Tx} {i : Nat} {c : Nat} (h : x.s[i]? = some c) : atI (⟨x.s.toArray⟩ : Str).cps.toList (i : Int) = some c := atI_nat (by simpa using h)
/-- row[i] -/
theorem o2_ixS {x : Tx} {i : Nat} {c : Nat} (hz : x.s.length ≤ 100000) (h : x.s[i]? = some c) : Op2 K rIxS x (i : Int) (Is (⟨[c]⟩ : Tx)) := fun Δ H v w Q hh r1 r2 k => by
  have e1 : v = .str ⟨x.s.toArray⟩ := r1
  have e2 : w = .int i := r2
  subst e1 e2
  refine ⟨_, _, c, rfl, rfl, ?_, cp_at h, k _ H _ rfl (Ext.refl hh) rfl⟩
  show x.s.toArray.size ≤ sizeLine
  rw [List.size_toArray]
  exact Nat.le_trans hz (by decide)
theorem o2_ixL {xs : List α} {i : Nat} {a : α} (h : xs[i]? = some a) : Op2 K (rIxL K) xs (i : Int) (Is a) := fun Δ H v w Q hh r1 r2 k => by
  obtain ⟨p, vs, rfl, n, s, q⟩ := r1
  have e2 : w = .int i := r2
  subst e2
  obtain ⟨u, hu, ru⟩ := q.get h
  exact ⟨p, vs, i, u, rfl, rfl, s, atI_nat hu, k u H a rfl (Ext.refl hh) ru⟩
theorem o2_ixT {xs : Tup α} {i : Nat} {a : α} (h : xs.l[i]? = some a) : Op2 K (rIxT K) xs (i : Int) (Is a) := fun Δ H v w Q hh r1 r2 k => by
  obtain ⟨p, vs, rfl, n, s, q⟩ := r1
  have e2 : w = .int i := r2
  subst e2
  obtain ⟨u, hu, ru⟩ := q.get h
  exact ⟨p, vs, i, u, rfl, rfl, s, atI_nat hu, k u H a rfl (Ext.refl hh) ru⟩
theorem o2_ixP0 {x : α × β} : Op2 K (rIxT K) x (0 : Int) (Is x.1) := fun Δ H v w Q hh r1 r2 k => by
  obtain ⟨p, a, b, rfl, n, s, q, q2⟩ := r1
  have e2 : w = .int 0 := r2
  subst e2
  exact ⟨p, _, _, a, rfl, rfl, s, atI_nat (j := 0) rfl, k a H _ rfl (Ext.refl hh) q⟩
theorem o2_ixP1 {x : α × β} : Op2 K (rIxT K) x (1 : Int) (Is x.2) := fun Δ H v w Q hh r1 r2 k => by
  obtain ⟨p, a, b, rfl, n, s, q, q2⟩ := r1
  have e2 : w = .int 1 := r2
  subst e2
  exact ⟨p, _, _, b, rfl, rfl, s, atI_nat (j := 1) rfl, k b H _ rfl (Ext.refl hh) q2⟩
theorem all2_int {Δ : Gh} {H : Hp} : ∀ {vs : List V} {xs : List Int}, All2 (fun u a => Rp.rp K Δ H u a) vs xs → vs = xs.map V.int
  | [], [], _ => rfl
  | [], _ :: _, q => q.elim
  | _ :: _, [], q => q.elim
  | v :: vs, x :: xs, q => by
    have e : v = .int x := q.1
    rw [List.map_cons, e, all2_int q.2]
theorem all2_bl {Δ : Gh} {H : Hp} : ∀ {vs : List V} {xs : List Bool}, All2 (fun u a => Rp.rp K Δ H u a) vs xs → vs = xs.map V.bl
  | [], [], _ => rfl
  | [], _ :: _, q => q.elim
  | _ :: _, [], q => q.elim
  | v :: vs, x :: xs, q => by
    have e : v = .bl x := q.1
    rw [List.map_cons, e, all2_bl q.2]
theorem all2_tx {Δ : Gh} {H : Hp} : ∀ {vs : List V} {xs : List Tx}, All2 (fun u a => Rp.rp K Δ H u a) vs xs → vs = (xs.map fun x => (⟨x.s.toArray⟩ : Str)).map V.str
  | [], [], _ => rfl
  | [], _ :: _, q => q.elim
  | _ :: _, [], q => q.elim
  | v :: vs, x :: xs, q => by
    have e : v = .str ⟨x.s.toArray⟩ := q.1
    rw [List.map_cons, List.map_cons, e, all2_tx q.2]
theorem inV_int {i : Int} : ∀ {xs : List Int}, inV (.int i) (xs.map V.int) = decide (i ∈ xs)
  | [] => rfl
  | x :: xs => by
    have ih := inV_int (i := i) (xs := xs)
    unfold inV at ih ⊢
    rw [List.map_cons, List.any_cons, ih]
    by_cases h : i = x
    · subst h
      simp [eqV]
    · have h' : ¬ x = i := fun z => h z.symm
      simp [eqV, h, h']
theorem flat_int : ∀ {xs : List Int}, (xs.map V.int).all flatV = true
  | [] => rfl
  | _ :: xs => by
    rw [List.map_cons, List.all_cons, flat_int]
    rfl
/-- i in t -/
theorem o2_inT {i : Int} {xs : Tup Int} : Op2 K (rIn K false) i xs (Is (decide (i ∈ xs.l))) := fun Δ H v w Q hh r1 r2 k => by
  have e1 : v = .int i := r1
  obtain ⟨p, vs, rfl, n, s, q⟩ := r2
  subst e1
  have ev := all2_int q
  subst ev
  exact ⟨p, _, rfl, .inr s, rfl, flat_int, k _ H _ rfl (Ext.refl hh) (by show V.bl _ = V.bl _; rw [if_neg Bool.false_ne_true, inV_int])⟩
/-! tests -/
theorem et_test {Pb : Bool → Prop} (h : Ev K Γ te ρ Pb) : EvT K Γ (tTest te) ρ Pb := fun Δ σ H Q s hh e k => h Δ σ H _ s hh e fun v H' b pb e1 r1 => ⟨b, r1, k b H' pb e1⟩
theorem et_B {Pb : Bool → Prop} (h : Ev K Γ te ρ Pb) : EvT K Γ (tB te) ρ Pb := fun Δ σ H Q s hh e k => h Δ σ H _ s hh e fun v H' b pb e1 r1 => ⟨b, r1, k b H' pb e1⟩
theorem et_not {a : Bool} (h : EvT K Γ t ρ (Is a)) : EvT K Γ (tNot t) ρ (Is (!a)) := fun Δ σ H Q s hh e k => h Δ σ H _ s hh e fun b H' pb e1 => k _ H' (by rw [show b = a from pb]; rfl) e1
theorem et_and {a b : Bool} (h1 : EvT K Γ t ρ (Is a)) (h2 : a = true → EvT K Γ u ρ (Is b)) : EvT K Γ (tAnd t u) ρ (Is (a && b)) := fun Δ σ H Q s hh e k => h1 Δ σ H _ s hh e fun c H' pc e1 => by
  have ec : c = a := pc
  subst ec
  cases c with
  | true => exact iteT (h2 rfl Δ σ H' Q s e1.2 (e.mono e1.1) fun d H2 pd e2 => k d H2 pd (e1.trans e2))
  | false => exact iteF (k false H' rfl e1)
theorem et_or {a b : Bool} (h1 : EvT K Γ t ρ (Is a)) (h2 : a = false → EvT K Γ u ρ (Is b)) : EvT K Γ (tOr t u) ρ (Is (a || b)) := fun Δ σ H Q s hh e k => h1 Δ σ H _ s hh e fun c H' pc e1 => by
  have ec : c = a := pc
  subst ec
  cases c with
  | true => exact iteT (k true H' rfl e1)
  | false => exact iteF (h2 rfl Δ σ H' Q s e1.2 (e.mono e1.1) fun d H2 pd e2 => k d H2 pd (e1.trans e2))
theorem ev_andV {a b : Bool} (h1 : Ev K Γ ta ρ (Is a)) (h2 : a = true → Ev K Γ tb ρ (Is b)) : Ev K Γ (tAndV ta tb) ρ (Is (a && b)) := fun Δ σ H Q s hh e k => h1 Δ σ H _ s hh e fun v H' c pc e1 r1 => by
  have ec : c = a := pc
  subst ec
  refine ⟨c, r1, ?_⟩
  cases c with
  | true => exact iteT (h2 rfl Δ σ H' Q s e1.2 (e.mono e1.1) fun d H2 x pd e2 r2 => k d H2 x pd (e1.trans e2) r2)
  | false => exact iteF (k _ H' false rfl e1 rfl)
theorem ev_orV {a b : Bool} (h1 : Ev K Γ ta ρ (Is a)) (h2 : a = false → Ev K Γ tb ρ (Is b)) : Ev K Γ (tOrV ta tb) ρ (Is (a || b)) := fun Δ σ H Q s hh e k => h1 Δ σ H _ s hh e fun v H' c pc e1 r1 => by
  have ec : c = a := pc
  subst ec
  refine ⟨c, r1, ?_⟩
  cases c with
  | true => exact iteT (k _ H' true rfl e1 rfl)
  | false => exact iteF (h2 rfl Δ σ H' Q s e1.2 (e.mono e1.1) fun d H2 x pd e2 r2 => k d H2 x pd (e1.trans e2) r2)
theorem ev_notV {a : Bool} (h1 : Ev K Γ ta ρ (Is a)) : Ev K Γ (tNotV ta) ρ (Is (!a)) := fun Δ σ H Q s hh e k => h1 Δ σ H _ s hh e fun v H' c pc e1 r1 => ⟨c, r1, k _ H' (!c) (by rw [show c = a from pc]; rfl) e1 rfl⟩
theorem ev_if {b : Bool} (h : EvT K Γ t ρ (Is b)) (h1 : b = true → Ev K Γ ta ρ Pa) (h2 : b = false → Ev K Γ tb ρ Pa) : Ev K Γ (tIf t ta tb) ρ Pa := fun Δ σ H Q s hh e k => h Δ σ H _ s hh e fun c H' pc e1 => by
  have ec : c = b := pc
  subst ec
  cases c with
  | true => exact iteT (h1 rfl Δ σ H' Q s e1.2 (e.mono e1.1) fun d H2 x pd e2 r2 => k d H2 x pd (e1.trans e2) r2)
  | false => exact iteF (h2 rfl Δ σ H' Q s e1.2 (e.mono e1.1) fun d H2 x pd e2 r2 => k d H2 x pd (e1.trans e2) r2)
/-- a < b < c -/
theorem ev_chain {r r' : R2} {a b : Bool} {x : α} {y : β} {z : γ} (ha : Ev K Γ ta ρ (Is x)) (hb : Ev K Γ tb ρ (Is y)) (hc : Ev K Γ tc ρ (Is z)) (h1 : Op2 K r x y (Is a)) (h2 : Op2 K r' y z (Is b)) : Ev K Γ (tChain r r' ta tb tc) ρ (Is (a && b)) := fun Δ σ H Q s hh e k =>
  ha Δ σ H _ s hh e fun v H1 x' px e1 r1 => hb Δ σ H1 _ s e1.2 (e.mono e1.1) fun w H2 y' py e2 r2 => by
    have ex : x' = x := px
    have ey : y' = y := py
    subst ex ey
    refine h1 Δ H2 v w _ e2.2 (Rp.mono e2.1 r1) r2 fun u H3 c pc e3 r3 => ?_
    have ec : c = a := pc
    subst ec
    refine ⟨c, r3, ?_⟩
    cases c with
    | true =>
      refine iteT (hc Δ σ H3 _ s e3.2 (e.mono (e1.trans (e2.trans e3)).1) fun q H4 z' pz e4 r4 => ?_)
      have ez : z' = z := pz
      subst ez
      exact h2 Δ H4 w q Q e4.2 (Rp.mono (e3.trans e4).1 r2) r4 fun d H5 x5 p5 e5 r5 => k d H5 x5 p5 (e1.trans (e2.trans (e3.trans (e4.trans e5)))) r5
    | false => exact iteF (k _ H3 false rfl (e1.trans (e2.trans e3)) rfl)
/-! arguments, displays -/
theorem ea_nil : EvA K Γ tNil ρ (Is ([] : List Cell)) := fun Δ σ H Q s hh e k => k [] H [] rfl (Ext.refl hh) trivial
theorem ea_cons {tr : TA} {Ps : List Cell → Prop} {P : List Cell → Prop} (h : Ev K Γ ta ρ Pa) (hr : EvA K Γ tr ρ Ps) (hp : ∀ a cs, Pa a → Ps cs → P (⟨a⟩ :: cs)) : EvA K Γ (tCons ta tr) ρ P := fun Δ σ H Q s hh e k =>
  h Δ σ H _ s hh e fun v H1 a pa e1 r1 => hr Δ σ H1 _ s e1.2 (e.mono e1.1) fun vs H2 cs pcs e2 r2 => k (v :: vs) H2 (⟨a⟩ :: cs) (hp a cs pa pcs) (e1.trans e2) ⟨Rp.mono e2.1 r1, r2⟩
theorem ea_1 {tr : TA} {a : α} {cs : List Cell} (h : Ev K Γ ta ρ (Is a)) (hr : EvA K Γ tr ρ (Is cs)) : EvA K Γ (tCons ta tr) ρ (Is (⟨a⟩ :: cs)) := ea_cons h hr fun a' cs' e1 e2 => by
  show _ = _
  rw [show a' = a from e1, show cs' = cs from e2]
end
end Z

set_option Elab.async false
set_option linter.all false
set_option maxRecDepth 100000
set_option maxHeartbeats 1000000
namespace Z
open PySem PySem.Spec PyProof.Rows L2
universe v1 v2
section
variable {K : PySem.W.Frag} {Γ : Own} {ρ : Env} {ta tb tc te : TE} {t u : TT} {α β γ : Type} [Rp α] [Rp β] [Rp γ] {Pa : α → Prop} {Pb : β → Prop} {Pc : γ → Prop}
/-! ### displays, calls -/
theorem All2.of_map {α : Type v1} {β : Type v2} {γ : Type} {R : α → β → Prop} {f : γ → β} : ∀ {xs : List α} {ys : List γ}, All2 R xs (ys.map f) → All2 (fun x y => R x (f y)) xs ys
  | [], [], _ => trivial
  | [], _ :: _, q => q.elim
  | _ :: _, [], q => q.elim
  | _ :: xs, _ :: ys, q => ⟨q.1, All2.of_map (xs := xs) (ys := ys) q.2⟩
theorem new_lst {Δ : Gh} {H : Hp} {p : Addr} {vs : List V} {xs : List α} (hh : Hold Δ H) (hp : H p = none) (q : All2 (fun u a => Rp.rp K Δ H u a) vs xs) : Rp.rp K Δ (upd H p (.lst vs)) (.ref p) xs :=
  ⟨p, vs, rfl, .inl ⟨hh.fresh hp, .inl upd_same⟩, .inl (.inl upd_same), q.imp fun _ _ => Rp.mono (Ext.new hh hp _).1⟩
theorem new_tup {Δ : Gh} {H : Hp} {p : Addr} {vs : List V} {xs : List α} (hh : Hold Δ H) (hp : H p = none) (q : All2 (fun u a => Rp.rp K Δ H u a) vs xs) : Rp.rp K Δ (upd H p (.tup vs)) (.ref p) (⟨xs⟩ : Tup α) :=
  ⟨p, vs, rfl, .inl ⟨hh.fresh hp, .inl upd_same⟩, .inl (.inl upd_same), q.imp fun _ _ => Rp.mono (Ext.new hh hp _).1⟩
theorem ev_lst {ta : TA} {xs : List α} (h : EvA K Γ ta ρ (Is (xs.map fun a => ⟨a⟩))) (hz : xs.length ≤ 100000) : Ev K Γ (tLst ta) ρ (Is xs) := fun Δ σ H Q s hh e k => h Δ σ H _ s hh e fun vs H' cs pcs e1 r => by
  have ec : cs = xs.map fun a => ⟨a⟩ := pcs
  subst ec
  have r' := All2.of_map r
  exact ⟨Nat.le_trans (Nat.le_of_eq r'.len) (Nat.le_trans hz (by decide)), fun p hp => k _ _ xs rfl (e1.trans (Ext.new e1.2 hp _)) (new_lst e1.2 hp r')⟩
theorem ev_tupN {ta : TA} {xs : List α} (h : EvA K Γ ta ρ (Is (xs.map fun a => ⟨a⟩))) (hz : xs.length ≤ 100000) : Ev K Γ (tTup ta) ρ (Is (⟨xs⟩ : Tup α)) := fun Δ σ H Q s hh e k => h Δ σ H _ s hh e fun vs H' cs pcs e1 r => by
  have ec : cs = xs.map fun a => ⟨a⟩ := pcs
  subst ec
  have r' := All2.of_map r
  exact ⟨Nat.le_trans (Nat.le_of_eq r'.len) (Nat.le_trans hz (by decide)), fun p hp => k _ _ ⟨xs⟩ rfl (e1.trans (Ext.new e1.2 hp _)) (new_tup e1.2 hp r')⟩
theorem ev_tup2 {ta : TA} {x : α} {y : β} (h : EvA K Γ ta ρ (Is [⟨x⟩, ⟨y⟩])) : Ev K Γ (tTup ta) ρ (Is (x, y)) := fun Δ σ H Q s hh e k => h Δ σ H _ s hh e fun vs H' cs pcs e1 r => by
  have ec : cs = [⟨x⟩, ⟨y⟩] := pcs
  subst ec
  match vs, r with
  | [v, w], r => exact ⟨by show 2 ≤ sizeLine; decide, fun p hp => k _ _ (x, y) rfl (e1.trans (Ext.new e1.2 hp _)) ⟨p, v, w, rfl, .inl ⟨e1.2.fresh hp, .inl upd_same⟩, .inl (.inl upd_same), Rp.mono (Ext.new e1.2 hp _).1 r.1, Rp.mono (Ext.new e1.2 hp _).1 r.2.1⟩⟩
/-- what a def promises: of the owned cells and the arguments' data, some datum with P -/
def spD (K : PySem.W.Frag) {β : Type} [Rp β] (F : Own → List Cell → (β → Prop) → Prop) : Sp := fun vs H Q _ => ∃ (Γ : Own) (Δ : Gh) (cs : List Cell) (P : β → Prop), F Γ cs P ∧ Sat Γ Δ ∧ Hold Δ H ∧ ArgsOk K Δ H vs cs ∧
  ∀ (v : V) (H' : Hp) (b : β), P b → Ext Δ H H' → Rp.rp K Δ H' v b → Q v H'
theorem All2.app {α : Type v1} {β : Type v2} {R : α → β → Prop} : ∀ {xs : List α} {ys : List β} {xs' : List α} {ys' : List β}, All2 R xs ys → All2 R xs' ys' → All2 R (xs ++ xs') (ys ++ ys')
  | [], [], _, _, _, h => h
  | [], _ :: _, _, _, q, _ => q.elim
  | _ :: _, [], _, _, q, _ => q.elim
  | _ :: _, _ :: _, _, _, q, h => ⟨q.1, All2.app q.2 h⟩
theorem ev_call {F : Own → List Cell → (β → Prop) → Prop} {E : XK} {ta : TA} {Pcs : List Cell → Prop} (ha : EvA K Γ ta ρ Pcs) (hf : ∀ cs, Pcs cs → F Γ cs Pb) : Ev K Γ (tCall (spD K F) [] E ta) ρ Pb := fun Δ σ H Q s hh e k =>
  ha Δ σ H _ s hh e fun vs H' cs pcs e1 r => ⟨Γ, Δ, cs, Pb, hf cs pcs, s, e1.2, by rw [List.append_nil]; exact r, fun v H2 b pb e2 r2 => k v H2 b pb (e1.trans e2) r2⟩
theorem ev_callD {F : Own → List Cell → (β → Prop) → Prop} {E : XK} {ta : TA} {Pcs : List Cell → Prop} {dvs : List V} {dcs : List Cell} (hd : ∀ Δ H, ArgsOk K Δ H dvs dcs) (ha : EvA K Γ ta ρ Pcs) (hf : ∀ cs, Pcs cs → F Γ (cs ++ dcs) Pb) : Ev K Γ (tCall (spD K F) dvs E ta) ρ Pb := fun Δ σ H Q s hh e k =>
  ha Δ σ H _ s hh e fun vs H' cs pcs e1 r => ⟨Γ, Δ, cs ++ dcs, Pb, hf cs pcs, s, e1.2, All2.app r (hd Δ H'), fun v H2 b pb e2 r2 => k v H2 b pb (e1.trans e2) r2⟩
theorem ev_call1 {F : Own → List Cell → (β → Prop) → Prop} {E : XK} {ta : TA} {cs : List Cell} (ha : EvA K Γ ta ρ (Is cs)) (hf : F Γ cs Pb) : Ev K Γ (tCall (spD K F) [] E ta) ρ Pb := ev_call ha fun cs' e => by rw [show cs' = cs from e]; exact hf
/-- a built-in's call, by its data -/
def Op1 (K : PySem.W.Frag) (r : List V → Hp → VK → Prop) (x : α) (P : γ → Prop) : Prop :=
  ∀ (Δ : Gh) (H : Hp) (v : V) (Q : VK), Hold Δ H → Rp.rp K Δ H v x → (∀ u H' c, P c → Ext Δ H H' → Rp.rp K Δ H' u c → Q u H') → r [v] H Q
theorem ev_cb1 {r : List V → Hp → VK → Prop} (ha : Ev K Γ ta ρ Pa) (hr : ∀ x, Pa x → Op1 K r x Pc) : Ev K Γ (tCB r (tCons ta tNil)) ρ Pc := fun Δ σ H Q s hh e k =>
  ha Δ σ H _ s hh e fun v H1 x px e1 r1 => hr x px Δ H1 v Q e1.2 r1 fun u H2 c pc e2 r2 => k u H2 c pc (e1.trans e2) r2
theorem ev_cb {r : List V → Hp → VK → Prop} {x : α} (ha : Ev K Γ ta ρ (Is x)) (hr : Op1 K r x Pc) : Ev K Γ (tCB r (tCons ta tNil)) ρ Pc := ev_cb1 ha fun x' e => by rw [show x' = x from e]; exact hr
theorem o1_lenS {x : Tx} (hz : x.s.length ≤ 100000) : Op1 K (fun xs H Q => ∃ x n, xs = [x] ∧ LenV K x H n ∧ Q (.int n) H) x (Is (x.s.length : Int)) := fun Δ H v Q hh r k => by
  have e : v = .str ⟨x.s.toArray⟩ := r
  subst e
  refine ⟨_, x.s.length, rfl, ⟨?_, ?_⟩, k _ H _ rfl (Ext.refl hh) rfl⟩
  · show x.s.toArray.size ≤ sizeLine
    rw [List.size_toArray]
    exact Nat.le_trans hz (by decide)
  · show x.s.length = x.s.toArray.size
    rw [List.size_toArray]
theorem o1_lenL {xs : List α} : Op1 K (fun xs H Q => ∃ x n, xs = [x] ∧ LenV K x H n ∧ Q (.int n) H) xs (Is (xs.length : Int)) := fun Δ H v Q hh r k => by
  obtain ⟨p, vs, rfl, n, s, q⟩ := r
  exact ⟨_, xs.length, rfl, .inl ⟨vs, s, q.len.symm⟩, k _ H _ rfl (Ext.refl hh) rfl⟩
theorem o1_lenT {xs : Tup α} : Op1 K (fun xs H Q => ∃ x n, xs = [x] ∧ LenV K x H n ∧ Q (.int n) H) xs (Is (xs.l.length : Int)) := fun Δ H v Q hh r k => by
  obtain ⟨p, vs, rfl, n, s, q⟩ := r
  exact ⟨_, xs.l.length, rfl, .inr ⟨vs, s, q.len.symm⟩, k _ H _ rfl (Ext.refl hh) rfl⟩
theorem o1_all {bs : List Bool} : Op1 K (rAll K) bs (Is (bs.all id)) := fun Δ H v Q hh r k => by
  obtain ⟨p, vs, rfl, n, s, q⟩ := r
  have e := all2_bl q
  subst e
  exact ⟨p, bs, rfl, s, k _ H _ rfl (Ext.refl hh) rfl⟩

/-! ### what is walked -/
/-- wi, walked with the target g, has n turns; turn i makes st i of the names (the slots js alone) -/
def Src (K : PySem.W.Frag) (Γ : Own) (wi : TI) (g : TG) (ρ : Env) (js : List Nat) (n : Nat) (st : Nat → Env → Env) : Prop :=
  ∀ (Δ : Gh) (σ : L2.St) (H : Hp) (R : It → Hp → Prop), Sat Γ Δ → Hold Δ H → EnvOk K Δ σ H ρ →
    (∀ (J : It) (H1 : Hp) (pv : V) (pc : Cell), Ext Δ H H1 → pc.rp K Δ H1 pv →
      (∀ Δ' H2, pc.rp K Δ' H2 pv → (∀ i, i < n → J.go i H2) ∧ J.stop n H2) →
      (∀ Δ' i H2 x H3, i < n → Hold Δ' H2 → pc.rp K Δ' H2 pv → J.yld i H2 x H3 → Ext Δ' H2 H3 ∧ ∀ (σ' : L2.St) (ρ' : Env) (Qs : L2.St → Hp → Prop), ρ'.length = ρ.length → EnvOk K Δ' σ' H3 ρ' →
        (∀ σ2 : L2.St, EnvOk K Δ' σ2 H3 (st i ρ') → σ2.length = σ'.length → (∀ k, k ∉ js → σ2[k]? = σ'[k]?) → Qs σ2 H3) → g x σ' H3 Qs) → R J H1) → wi σ H R
theorem set_off {σ : L2.St} {j : Nat} {v : Option V} {js : List Nat} (h : j ∈ js) : (σ.set j v).length = σ.length ∧ ∀ k, k ∉ js → (σ.set j v)[k]? = σ[k]? :=
  ⟨List.length_set, fun k hk => List.getElem?_set_ne fun e => hk (by rw [← e]; exact h)⟩
theorem src_rng1 {ta : TA} {j : Nat} {n : Nat} (h : EvA K Γ ta ρ (Is [⟨(n : Int)⟩])) (hn : n ≤ 100000) (hj : j < ρ.length) : Src K Γ (iRng1 ta) (gName j) ρ [j] n (fun i ρ => ρ.set j (some ⟨(i : Int)⟩)) := fun Δ σ H R s hh e k =>
  h Δ σ H _ s hh e fun vs H' cs pcs e1 r => by
    have ec : cs = [⟨(n : Int)⟩] := pcs
    subst ec
    match vs, r with
    | [v], r =>
      have ev : v = .int n := r.1
      subst ev
      refine ⟨n, rfl, by omega, by omega, k _ H' .non ⟨()⟩ e1 rfl (fun Δ' H2 _ => ⟨fun i hi => by show i < (n : Int).toNat; omega, by show (n : Int).toNat ≤ n; omega⟩) fun Δ' i H2 x H3 hi h2 _ y => ?_⟩
      obtain ⟨rfl, rfl⟩ := (show H3 = H2 ∧ x = V.int (0 + (i : Int)) from y)
      refine ⟨Ext.refl h2, fun σ' ρ' Qs hl e' q => ?_⟩
      rw [Int.zero_add]
      exact q _ (e'.set (c := ⟨(i : Int)⟩) (by rw [hl]; exact hj) rfl) (set_off (js := [j]) (List.mem_singleton_self j)).1 (set_off (js := [j]) (List.mem_singleton_self j)).2
theorem src_list {tl : TE} {j : Nat} {xs : List α} {x0 : Nat → α} (h : Ev K Γ tl ρ (Is xs)) (hx : ∀ i, i < xs.length → xs[i]? = some (x0 i)) (hj : j < ρ.length) : Src K Γ (iList K tl) (gName j) ρ [j] xs.length (fun i ρ => ρ.set j (some ⟨x0 i⟩)) := fun Δ σ H R s hh e k =>
  h Δ σ H _ s hh e fun v H' a pa e1 r => by
    have ea : a = xs := pa
    subst ea
    obtain ⟨p, vs, rfl, n, sq, q⟩ := id r
    refine ⟨p, rfl, ⟨vs, sq⟩, k _ H' (.ref p) ⟨a⟩ e1 r (fun Δ' H2 r2 => ?_) fun Δ' i H2 x H3 hi h2 r2 y => ?_⟩
    · obtain ⟨p', ws, e', n', sq', q'⟩ := (show Rp.rp K Δ' H2 (.ref p) a from r2)
      cases e'
      have hl := q'.len
      refine ⟨fun i hi => ⟨ws, ws[i], sq', List.getElem?_eq_getElem (by omega)⟩, ws, sq', by omega⟩
    · obtain ⟨p', ws, e', n', sq', q'⟩ := (show Rp.rp K Δ' H2 (.ref p) a from r2)
      cases e'
      obtain ⟨rfl, hy⟩ := (show H3 = H2 ∧ ∀ zs, SqL K H2 p zs → zs[i]? = some x from y)
      obtain ⟨w, hw, rw'⟩ := q'.get (hx i hi)
      have ew : x = w := Option.some.inj ((hy _ sq').symm.trans hw)
      subst ew
      exact ⟨Ext.refl h2, fun σ' ρ' Qs hl e' qq => qq _ (e'.set (c := ⟨x0 i⟩) (by rw [hl]; exact hj) rw') (set_off (js := [j]) (List.mem_singleton_self j)).1 (set_off (js := [j]) (List.mem_singleton_self j)).2⟩
theorem src_tup {tl : TE} {j : Nat} {xs : Tup α} {x0 : Nat → α} (h : Ev K Γ tl ρ (Is xs)) (hx : ∀ i, i < xs.l.length → xs.l[i]? = some (x0 i)) (hj : j < ρ.length) : Src K Γ (iTup K tl) (gName j) ρ [j] xs.l.length (fun i ρ => ρ.set j (some ⟨x0 i⟩)) := fun Δ σ H R s hh e k =>
  h Δ σ H _ s hh e fun v H' a pa e1 r => by
    have ea : a = xs := pa
    subst ea
    obtain ⟨p, vs, rfl, n, sq, q⟩ := id r
    refine ⟨p, rfl, ⟨vs, sq⟩, k _ H' (.ref p) ⟨a⟩ e1 r (fun Δ' H2 r2 => ?_) fun Δ' i H2 x H3 hi h2 r2 y => ?_⟩
    · obtain ⟨p', ws, e', n', sq', q'⟩ := (show Rp.rp K Δ' H2 (.ref p) a from r2)
      cases e'
      have hl := q'.len
      refine ⟨fun i hi => ⟨ws, ws[i], sq', List.getElem?_eq_getElem (by omega)⟩, ws, sq', by omega⟩
    · obtain ⟨p', ws, e', n', sq', q'⟩ := (show Rp.rp K Δ' H2 (.ref p) a from r2)
      cases e'
      obtain ⟨rfl, hy⟩ := (show H3 = H2 ∧ ∀ zs, SqT K H2 p zs → zs[i]? = some x from y)
      obtain ⟨w, hw, rw'⟩ := q'.get (hx i hi)
      have ew : x = w := Option.some.inj ((hy _ sq').symm.trans hw)
      subst ew
      exact ⟨Ext.refl h2, fun σ' ρ' Qs hl e' qq => qq _ (e'.set (c := ⟨x0 i⟩) (by rw [hl]; exact hj) rw') (set_off (js := [j]) (List.mem_singleton_self j)).1 (set_off (js := [j]) (List.mem_singleton_self j)).2⟩
theorem args1 {Δ : Gh} {H : Hp} {vs : List V} {c : Cell} (r : ArgsOk K Δ H vs [c]) : ∃ v, vs = [v] ∧ c.rp K Δ H v := by
  unfold ArgsOk at r
  cases vs with
  | nil => exact r.elim
  | cons v vs =>
    cases vs with
    | nil => exact ⟨v, rfl, r.1⟩
    | cons w ws => exact r.2.elim
/-- two names of a pair that was just made -/
theorem pair_put {Δ' : Gh} {H2 H3 : Hp} {T : Addr} {a b : V} {ca cb : Cell} {ja jb : Nat} {σ' : L2.St} {ρ' : Env} {Qs : L2.St → Hp → Prop} (e3 : H3 = upd H2 T (.tup [a, b])) (ha : ca.rp K Δ' H3 a) (hb : cb.rp K Δ' H3 b) (hja : ja < ρ'.length) (hjb : jb < ρ'.length)
    (e' : EnvOk K Δ' σ' H3 ρ') (q : ∀ σ2 : L2.St, EnvOk K Δ' σ2 H3 ((ρ'.set ja (some ca)).set jb (some cb)) → σ2.length = σ'.length → (∀ k, k ∉ [ja, jb] → σ2[k]? = σ'[k]?) → Qs σ2 H3) :
    gTup K 2 (gCons (gName ja) (gCons (gName jb) gNil)) (.ref T) σ' H3 Qs := by
  refine ⟨T, [a, b], rfl, .inl (.inl (by rw [e3]; exact upd_same)), rfl, a, [b], rfl, b, [], rfl, rfl, ?_⟩
  refine q _ ((e'.set hja ha).set (by rw [List.length_set]; exact hjb) hb) (by rw [List.length_set, List.length_set]) fun k hk => ?_
  have h1 : ja ≠ k := fun z => hk (by simp [z])
  have h2 : jb ≠ k := fun z => hk (by simp [z])
  rw [List.getElem?_set_ne h2, List.getElem?_set_ne h1]
theorem src_enumS {ta : TA} {ja jb : Nat} {x : Tx} {c0 : Nat → Nat} (h : EvA K Γ ta ρ (Is [⟨x⟩])) (hx : ∀ i, i < x.s.length → x.s[i]? = some (c0 i)) (hja : ja < ρ.length) (hjb : jb < ρ.length) :
    Src K Γ (iEnumS ta) (gTup K 2 (gCons (gName ja) (gCons (gName jb) gNil))) ρ [ja, jb] x.s.length (fun i ρ => (ρ.set ja (some ⟨(i : Int)⟩)).set jb (some ⟨(⟨[c0 i]⟩ : Tx)⟩)) := fun Δ σ H R s hh e k =>
  h Δ σ H _ s hh e fun vs H' cs pcs e1 r => by
    have ec : cs = [⟨x⟩] := pcs
    subst ec
    match vs, r with
    | [v], r =>
      have ev : v = .str ⟨x.s.toArray⟩ := r.1
      subst ev
      refine ⟨_, rfl, k _ H' .non ⟨()⟩ e1 rfl (fun Δ' H2 _ => ⟨fun i hi => by show i < x.s.toArray.size; simpa using hi, by show x.s.toArray.size ≤ x.s.length; simp⟩) fun Δ' i H2 y H3 hi h2 _ yy => ?_⟩
      obtain ⟨T, c, rfl, hT, e3, hc⟩ := (show ∃ T c, y = .ref T ∧ H2 T = none ∧ H3 = upd H2 T (.tup [.int (i : Nat), .str ⟨#[c]⟩]) ∧ x.s.toArray[i]? = some c from yy)
      have ec2 : c = c0 i := by
        have q1 : x.s[i]? = some c := by simpa using hc
        exact Option.some.inj (q1.symm.trans (hx i hi))
      subst ec2
      refine ⟨by rw [e3]; exact Ext.new h2 hT _, fun σ' ρ' Qs hl e' q => ?_⟩
      exact pair_put (ca := ⟨(i : Int)⟩) (cb := ⟨(⟨[c0 i]⟩ : Tx)⟩) e3 rfl rfl (by rw [hl]; exact hja) (by rw [hl]; exact hjb) e' q
theorem src_zipS {ta : TA} {ja jb : Nat} {x y : Tx} {c0 d0 : Nat → Nat} (h : EvA K Γ ta ρ (Is [⟨x⟩, ⟨y⟩])) (hl : x.s.length = y.s.length) (hx : ∀ i, i < x.s.length → x.s[i]? = some (c0 i) ∧ y.s[i]? = some (d0 i)) (hja : ja < ρ.length) (hjb : jb < ρ.length) :
    Src K Γ (iZipS ta) (gTup K 2 (gCons (gName ja) (gCons (gName jb) gNil))) ρ [ja, jb] x.s.length (fun i ρ => (ρ.set ja (some ⟨(⟨[c0 i]⟩ : Tx)⟩)).set jb (some ⟨(⟨[d0 i]⟩ : Tx)⟩)) := fun Δ σ H R s hh e k =>
  h Δ σ H _ s hh e fun vs H' cs pcs e1 r => by
    have ec : cs = [⟨x⟩, ⟨y⟩] := pcs
    subst ec
    match vs, r with
    | [v, w], r =>
      have ev : v = .str ⟨x.s.toArray⟩ := r.1
      have ew : w = .str ⟨y.s.toArray⟩ := r.2.1
      subst ev ew
      refine ⟨_, _, rfl, k _ H' .non ⟨()⟩ e1 rfl (fun Δ' H2 _ => ⟨fun i hi => ?_, ?_⟩) fun Δ' i H2 z H3 hi h2 _ yy => ?_⟩
      · show i < min x.s.toArray.size y.s.toArray.size
        rw [List.size_toArray, List.size_toArray]
        omega
      · show min x.s.toArray.size y.s.toArray.size ≤ x.s.length
        rw [List.size_toArray, List.size_toArray]
        omega
      obtain ⟨T, c, d, rfl, hT, e3, hc, hd⟩ := (show ∃ T c d, z = .ref T ∧ H2 T = none ∧ H3 = upd H2 T (.tup [.str ⟨#[c]⟩, .str ⟨#[d]⟩]) ∧ x.s.toArray[i]? = some c ∧ y.s.toArray[i]? = some d from yy)
      have ec2 : c = c0 i := by
        have q1 : x.s[i]? = some c := by simpa using hc
        exact Option.some.inj (q1.symm.trans (hx i hi).1)
      have ed2 : d = d0 i := by
        have q1 : y.s[i]? = some d := by simpa using hd
        exact Option.some.inj (q1.symm.trans (hx i hi).2)
      subst ec2 ed2
      refine ⟨by rw [e3]; exact Ext.new h2 hT _, fun σ' ρ' Qs hl e' q => ?_⟩
      exact pair_put (ca := ⟨(⟨[c0 i]⟩ : Tx)⟩) (cb := ⟨(⟨[d0 i]⟩ : Tx)⟩) e3 rfl rfl (by rw [hl]; exact hja) (by rw [hl]; exact hjb) e' q
theorem src_enumT {ta : TA} {ja jb : Nat} {xs : Tup α} {x0 : Nat → α} (h : EvA K Γ ta ρ (Is [⟨xs⟩])) (hx : ∀ i, i < xs.l.length → xs.l[i]? = some (x0 i)) (hja : ja < ρ.length) (hjb : jb < ρ.length) :
    Src K Γ (iEnumT K ta) (gTup K 2 (gCons (gName ja) (gCons (gName jb) gNil))) ρ [ja, jb] xs.l.length (fun i ρ => (ρ.set ja (some ⟨(i : Int)⟩)).set jb (some ⟨x0 i⟩)) := fun Δ σ H R s hh e k =>
  h Δ σ H _ s hh e fun vs H' cs pcs e1 r => by
    have ec : cs = [⟨xs⟩] := pcs
    subst ec
    obtain ⟨v, rfl, r0⟩ := args1 r
    · have r0 : Rp.rp K Δ H' v xs := r0
      obtain ⟨p, ws, rfl, n, sq, q⟩ := id r0
      refine ⟨p, ws, rfl, sq, k _ H' (.ref p) ⟨xs⟩ e1 r0 (fun Δ' H2 r2 => ?_) fun Δ' i H2 y H3 hi h2 r2 yy => ?_⟩
      · obtain ⟨p', ws, e', n', sq', q'⟩ := (show Rp.rp K Δ' H2 (.ref p) xs from r2)
        cases e'
        have hl := q'.len
        refine ⟨fun i hi => ⟨ws, ws[i], sq', List.getElem?_eq_getElem (by omega)⟩, ws, sq', by omega⟩
      · obtain ⟨p', ws, e', n', sq', q'⟩ := (show Rp.rp K Δ' H2 (.ref p) xs from r2)
        cases e'
        obtain ⟨T, x, rfl, hT, e3, hy⟩ := (show ∃ T x, y = .ref T ∧ H2 T = none ∧ H3 = upd H2 T (.tup [.int (i : Nat), x]) ∧ ∀ zs, SqT K H2 p zs → zs[i]? = some x from yy)
        obtain ⟨w, hw, rw'⟩ := q'.get (hx i hi)
        have ew : x = w := Option.some.inj ((hy _ sq').symm.trans hw)
        subst ew
        refine ⟨by rw [e3]; exact Ext.new h2 hT _, fun σ' ρ' Qs hl e' q => ?_⟩
        have hb : Rp.rp K Δ' H3 x (x0 i) := by
          subst e3
          exact Rp.mono (Ext.new h2 hT _).1 rw'
        exact pair_put (ca := ⟨(i : Int)⟩) (cb := ⟨x0 i⟩) (a := .int (i : Nat)) (b := x) e3 (show V.int (i : Nat) = V.int (i : Int) from rfl) hb (by rw [hl]; exact hja) (by rw [hl]; exact hjb) e' q
end
end Z

set_option Elab.async false
set_option linter.all false
set_option maxRecDepth 100000
set_option maxHeartbeats 1000000
namespace Z
open PySem PySem.Spec PyProof.Rows L2
section
variable {K : PySem.W.Frag} {Γ : Own} {ρ : Env} {ta tb tc te : TE} {t u : TT} {α β γ : Type} [Rp α] [Rp β] [Rp γ] {Pa : α → Prop} {Pb : β → Prop} {Pc : γ → Prop}
/-! ### comprehensions -/
theorem wipe_get (σ : L2.St) (k : Nat) : ∀ vs : List Nat, (wipe σ vs)[k]? = if k ∈ vs then (if k < σ.length then some none else none) else σ[k]?
  | [] => by simp [wipe]
  | v :: vs => by
    have ih := wipe_get σ k vs
    show ((wipe σ vs).set v none)[k]? = _
    by_cases h : v = k
    · subst h
      rw [List.getElem?_set]
      simp [wipe_length]
    · rw [List.getElem?_set_ne h, ih]
      have h' : ¬ k = v := fun z => h z.symm
      simp [h']
theorem wipe_off {σ σ2 : L2.St} {vs js : List Nat} (hl : σ2.length = σ.length) (hjs : ∀ j ∈ js, j ∈ vs) (h : ∀ k, k ∉ js → σ2[k]? = (wipe σ vs)[k]?) : wipe σ2 vs = wipe σ vs := by
  apply List.ext_getElem?
  intro k
  rw [wipe_get, wipe_get]
  by_cases hk : k ∈ vs
  · rw [if_pos hk, if_pos hk, hl]
  · rw [if_neg hk, if_neg hk, h k (fun z => hk (hjs k z)), wipe_get, if_neg hk]
def ghD (Δ : Gh) (D : Addr) (vs : List V) : Gh := fun a => if a = D then some (fun o => o = .lst vs) else Δ a
theorem ghD_sat {Δ : Gh} {D : Addr} {vs : List V} (s : Sat Γ Δ) (n : Δ D = none) : Sat Γ (ghD Δ D vs) := fun p hp => by
  have e := s p hp
  have hne : p.1 ≠ D := fun z => by
    rw [z, n] at e
    cases e
  show (if p.1 = D then _ else Δ p.1) = _
  rw [if_neg hne]
  exact e
theorem ghD_weak {Δ : Gh} {D : Addr} {vs : List V} {H : Hp} : ∀ x o, H x = some o → ghD Δ D vs x = none → Δ x = none := fun x o _ e => by
  have e' : (if x = D then some (fun o => o = HO.lst vs) else Δ x) = none := e
  by_cases h : x = D
  · rw [if_pos h] at e'
    cases e'
  · rw [if_neg h] at e'
    exact e'
/-- a fresh cell taken as one that changes -/
theorem ghD_new {Δ : Gh} {D : Addr} {vs : List V} {H : Hp} (hD : H D = none) : ∀ x o, H x = some o → Δ x = none → ghD Δ D vs x = none := fun x o hx e => by
  have hne : x ≠ D := ne_of_none hx hD
  show (if x = D then some (fun o => o = HO.lst vs) else Δ x) = none
  rw [if_neg hne]
  exact e
theorem gh_swap {Δ : Gh} {D : Addr} {vs ws : List V} {H : Hp} : ∀ x o, H x = some o → ghD Δ D vs x = none → ghD Δ D ws x = none := fun x o _ e => by
  have e' : (if x = D then some (fun o => o = HO.lst vs) else Δ x) = none := e
  show (if x = D then some (fun o => o = HO.lst ws) else Δ x) = none
  by_cases h : x = D
  · rw [if_pos h] at e'
    cases e'
  · rw [if_neg h] at e' ⊢
    exact e'
/-- the new list grows: all else stays -/
theorem gh_put {Δ : Gh} {H : Hp} {D : Addr} {vs ws : List V} (hh : Hold (ghD Δ D vs) H) : Hold (ghD Δ D ws) (upd H D (.lst ws)) ∧ Keep (ghD Δ D vs) H (upd H D (.lst ws)) := by
  constructor
  · intro a I e
    have e' : (if a = D then some (fun o => o = HO.lst ws) else Δ a) = some I := e
    by_cases h : a = D
    · rw [if_pos h] at e'
      cases e'
      exact ⟨_, by rw [h]; exact upd_same, rfl⟩
    · rw [if_neg h] at e'
      have e2 : ghD Δ D vs a = some I := by
        show (if a = D then _ else Δ a) = _
        rw [if_neg h]
        exact e'
      obtain ⟨o, ho, io⟩ := hh a I e2
      exact ⟨o, by rw [upd_ne h]; exact ho, io⟩
  · intro a o n e
    have hne : a ≠ D := fun z => by
      have n' : (if a = D then some (fun o => o = HO.lst vs) else Δ a) = none := n
      rw [if_pos z] at n'
      cases n'
    rw [upd_ne hne]
    exact e
theorem gh_first {Δ : Gh} {H : Hp} {D : Addr} {ws : List V} (hh : Hold Δ H) (hD : H D = none) : Hold (ghD Δ D ws) (upd H D (.lst ws)) ∧ Keep Δ H (upd H D (.lst ws)) := by
  refine ⟨fun a I e => ?_, (Ext.new hh hD _).1⟩
  have e' : (if a = D then some (fun o => o = HO.lst ws) else Δ a) = some I := e
  by_cases h : a = D
  · rw [if_pos h] at e'
    cases e'
    exact ⟨_, by rw [h]; exact upd_same, rfl⟩
  · rw [if_neg h] at e'
    obtain ⟨o, ho, io⟩ := hh a I e'
    exact ⟨o, by rw [upd_ne h]; exact ho, io⟩
theorem gh_last {Δ : Gh} {H : Hp} {D : Addr} {ws : List V} (n : Δ D = none) (hh : Hold (ghD Δ D ws) H) : Hold Δ H := fun a I e => by
  have hne : a ≠ D := fun z => by
    rw [z, n] at e
    cases e
  refine hh a I ?_
  show (if a = D then _ else Δ a) = _
  rw [if_neg hne]
  exact e
/-- how things stand ahead of turn i of a comprehension: the list made so far at D bears acc -/
structure CW (K : PySem.W.Frag) (Δ : Gh) (H1 : Hp) (D : Addr) (pv : V) (pc : Cell) (σw : L2.St) (ρw : Env) (vs : List V) (acc : List β) (H : Hp) : Prop where
  at_ : H D = some (.lst vs)
  hold : Hold (ghD Δ D vs) H
  keep : ∀ a o, a ≠ D → Δ a = none → H1 a = some o → H a = some o
  src : pc.rp K (ghD Δ D vs) H pv
  env : EnvOk K (ghD Δ D vs) σw H ρw
  els : All2 (fun u a => Rp.rp K (ghD Δ D vs) H u a) vs acc
theorem CW.next {Δ : Gh} {H1 H H' : Hp} {D : Addr} {pv : V} {pc : Cell} {σw : L2.St} {ρw : Env} {vs : List V} {acc : List β} (c : CW K Δ H1 D pv pc σw ρw vs acc H) (e : Ext (ghD Δ D vs) H H') (hD : H' D = some (.lst vs)) : CW K Δ H1 D pv pc σw ρw vs acc H' where
  at_ := hD
  hold := e.2
  keep a o ha n h := e.1 a o (by show (if a = D then _ else Δ a) = none; rw [if_neg ha]; exact n) (c.keep a o ha n h)
  src := pc.r.mono e.1 c.src
  env := c.env.mono e.1
  els := c.els.imp fun _ _ => Rp.mono e.1
theorem CW.put {Δ : Gh} {H1 H : Hp} {D : Addr} {pv : V} {pc : Cell} {σw : L2.St} {ρw : Env} {vs : List V} {acc : List β} {v : V} {b : β} (c : CW K Δ H1 D pv pc σw ρw vs acc H) (r : Rp.rp K (ghD Δ D vs) H v b) : CW K Δ H1 D pv pc σw ρw (vs ++ [v]) (acc ++ [b]) (upd H D (.lst (vs ++ [v]))) := by
  have g := gh_put (ws := vs ++ [v]) c.hold
  refine ⟨upd_same, g.1, fun a o ha n h => by rw [upd_ne ha]; exact c.keep a o ha n h, ?_, ?_, ?_⟩
  · exact pc.r.weak gh_swap (pc.r.mono g.2 c.src)
  · exact (c.env.mono g.2).weak gh_swap
  · exact All2.snoc (Rp.weak gh_swap (Rp.mono g.2 r)) (c.els.imp fun _ _ q => Rp.weak gh_swap (Rp.mono g.2 q))
theorem exact_at {Δ : Gh} {H : Hp} {D : Addr} {vs : List V} (hh : Hold (ghD Δ D vs) H) : H D = some (.lst vs) := by
  obtain ⟨o, ho, io⟩ := hh D (fun o => o = .lst vs) (by show (if D = D then _ else Δ D) = _; rw [if_pos rfl])
  rw [ho, show o = HO.lst vs from io]
/-- a list that stands in the heap, open to change -/
structure FL (α : Type) where
  l : List α
instance {α : Type} [Rp α] : Rp (FL α) where
  rp K Δ H v xs := ∃ p vs, v = .ref p ∧ Δ p = none ∧ H p = some (.lst vs) ∧ All2 (fun u a => Rp.rp K Δ H u a) vs xs.l
  mono k h := by
    obtain ⟨p, vs, e, n, r, q⟩ := h
    exact ⟨p, vs, e, n, k _ _ n r, q.imp fun _ _ => Rp.mono k⟩
  weak w h := by
    obtain ⟨p, vs, e, n, r, q⟩ := h
    exact ⟨p, vs, e, w _ _ r n, r, q.imp fun _ _ => Rp.weak w⟩
theorem ev_ofFL {te : TE} {P : List β → Prop} (h : Ev K Γ te ρ (fun y : FL β => P y.l)) : Ev K Γ te ρ P := fun Δ σ H Q s hh e k => h Δ σ H Q s hh e fun v H' a pa e1 r => by
  obtain ⟨p, vs, rfl, n, hr, q⟩ := r
  exact k _ H' a.l pa e1 ⟨p, vs, rfl, .inl ⟨n, .inl hr⟩, .inl (.inl hr), q⟩
theorem ev_lcF {wi : TI} {g : TG} {js vs : List Nat} {n : Nat} {st : Nat → Env → Env} (Iv : Nat → List β → Prop) (S : Src K Γ wi g ρ js n st) (hn : n ≤ 50000) (hjs : ∀ j ∈ js, j ∈ vs) (h0 : Iv 0 [])
    (hs : ∀ i acc, i < n → Iv i acc → ∃ PB : Bool → Prop, EvT K Γ t (st i (wipeE ρ vs)) PB ∧ (PB false → Iv (i + 1) acc) ∧ (PB true → ∃ PV : β → Prop, Ev K Γ te (st i (wipeE ρ vs)) PV ∧ ∀ b, PV b → Iv (i + 1) (acc ++ [b]))) :
    Ev K Γ (tLc wi g t te vs) ρ (fun y : FL β => Iv n y.l) := fun Δ σ H Q s hh e k => S Δ σ H _ s hh e fun J H1 pv pc e1 rp0 hgo hyld => fun D hD => by
  have nD : Δ D = none := e1.2.fresh hD
  have eW : EnvOk K Δ (wipe σ vs) H1 (wipeE ρ vs) := (e.mono e1.1).wipe vs
  have g0 := gh_first (ws := []) e1.2 hD
  have kp : Keep (ghD Δ D []) H1 (upd H1 D (.lst [])) := fun a o _ q => by rw [upd_ne (ne_of_none q hD)]; exact q
  have W0 : CW (β := β) K Δ H1 D pv pc (wipe σ vs) (wipeE ρ vs) [] [] (upd H1 D (.lst [])) :=
    ⟨upd_same, g0.1, fun a o ha n h => by rw [upd_ne ha]; exact h, pc.r.mono kp (pc.r.weak (ghD_new hD) rp0), (eW.weak (ghD_new hD)).mono kp, trivial⟩
  have wl : (wipeE ρ vs).length = ρ.length := by
    rw [← eW.1, wipe_length]
    exact e.1
  refine ⟨fun i m H2 => m = n - i ∧ i ≤ n ∧ ∃ vs' acc, CW K Δ H1 D pv pc (wipe σ vs) (wipeE ρ vs) vs' acc H2 ∧ acc.length ≤ i ∧ Iv i acc, ⟨n, by simp, Nat.zero_le _, [], [], W0, Nat.le_refl _, h0⟩, ?_⟩
  rintro i m H2 ⟨rfl, hi, vs', acc, c, hl, iv⟩
  have hg := hgo _ H2 c.src
  by_cases hlt : i < n
  · refine .inr ⟨hg.1 i hlt, fun H3 => ∃ vs' acc, CW K Δ H1 D pv pc (wipe σ vs) (wipeE ρ vs) vs' acc H3 ∧ acc.length ≤ i + 1 ∧ Iv (i + 1) acc, fun H' ⟨v', a', c', l', iv'⟩ => ⟨n - (i + 1), by omega, rfl, hlt, v', a', c', l', iv'⟩, fun x H3 hy => ?_⟩
    obtain ⟨e3, hput⟩ := hyld _ i H2 x H3 hlt c.hold c.src hy
    have c3 := c.next e3 (exact_at e3.2)
    refine hput (wipe σ vs) (wipeE ρ vs) _ wl c3.env fun σ2 env2 hl2 hoff => ⟨wipe_off (by rw [hl2, wipe_length]) hjs hoff, ?_⟩
    obtain ⟨PB, hT, hF, hV⟩ := hs i acc hlt iv
    refine hT (ghD Δ D vs') σ2 H3 _ (ghD_sat s nD) e3.2 env2 fun b H4 pb e4 => ?_
    have c4 := c3.next e4 (exact_at e4.2)
    cases b with
    | false => exact iteF ⟨vs', acc, c4, by omega, hF pb⟩
    | true =>
      obtain ⟨PV, hE, hb⟩ := hV pb
      refine iteT (hE (ghD Δ D vs') σ2 H4 _ (ghD_sat s nD) e4.2 (env2.mono e4.1) fun y H5 b pb' e5 r5 => ?_)
      have c5 := c4.next e5 (exact_at e5.2)
      have hlen : vs'.length < sizeLine := Nat.lt_of_le_of_lt (m := 50000) (by rw [c5.els.len]; omega) (by decide)
      exact ⟨vs', c5.at_, hlen, vs' ++ [y], acc ++ [b], c5.put r5, by rw [List.length_append]; show acc.length + 1 ≤ i + 1; omega, hb b pb'⟩
  · have ei : i = n := by omega
    subst ei
    refine .inl ⟨hg.2, k (.ref D) H2 ⟨acc⟩ iv ⟨fun a o na h => ?_, gh_last nD c.hold⟩ ⟨D, vs', rfl, nD, c.at_, c.els.imp fun _ _ => Rp.weak ghD_weak⟩⟩
    have h1 := e1.1 a o na h
    exact c.keep a o (ne_of_none h1 hD) na h1
theorem ev_lc {wi : TI} {g : TG} {js vs : List Nat} {n : Nat} {st : Nat → Env → Env} (Iv : Nat → List β → Prop) (S : Src K Γ wi g ρ js n st) (hn : n ≤ 50000) (hjs : ∀ j ∈ js, j ∈ vs) (h0 : Iv 0 [])
    (hs : ∀ i acc, i < n → Iv i acc → ∃ PB : Bool → Prop, EvT K Γ t (st i (wipeE ρ vs)) PB ∧ (PB false → Iv (i + 1) acc) ∧ (PB true → ∃ PV : β → Prop, Ev K Γ te (st i (wipeE ρ vs)) PV ∧ ∀ b, PV b → Iv (i + 1) (acc ++ [b]))) :
    Ev K Γ (tLc wi g t te vs) ρ (Iv n) := ev_ofFL (ev_lcF Iv S hn hjs h0 hs)
/-- the comprehension of told data: the items by f, chosen by p -/
theorem ev_lcD {wi : TI} {g : TG} {js vs : List Nat} {τ : Type} {xs : List τ} {st : Nat → Env → Env} (p : τ → Bool) (f : τ → β) (S : Src K Γ wi g ρ js xs.length st) (hn : xs.length ≤ 50000) (hjs : ∀ j ∈ js, j ∈ vs)
    (hs : ∀ i x, xs[i]? = some x → EvT K Γ t (st i (wipeE ρ vs)) (Is (p x)) ∧ (p x = true → Ev K Γ te (st i (wipeE ρ vs)) (Is (f x)))) :
    Ev K Γ (tLc wi g t te vs) ρ (Is ((xs.filter p).map f)) := by
  refine (ev_lc (fun i acc => acc = ((xs.take i).filter p).map f) S hn hjs rfl fun i acc hi e => ?_).imp fun a h => by
    show a = _
    rw [h, List.take_length]
  have hx : xs[i]? = some xs[i] := List.getElem?_eq_getElem hi
  have et : xs.take (i + 1) = xs.take i ++ [xs[i]] := by rw [List.take_add_one, hx]; rfl
  obtain ⟨h1, h2⟩ := hs i _ hx
  refine ⟨_, h1, fun q => ?_, fun q => ⟨_, h2 (show true = _ from q).symm, fun b hb => ?_⟩⟩
  · have q' : p xs[i] = false := (show false = _ from q).symm
    rw [et, List.filter_append, List.filter_cons, q', e]
    simp
  · have q' : p xs[i] = true := (show true = _ from q).symm
    rw [et, List.filter_append, List.filter_cons, q', e, show b = f xs[i] from hb]
    simp
theorem et_yes : EvT K Γ tYes ρ (Is true) := fun Δ σ H Q s hh e k => k true H rfl (Ext.refl hh)
end
end Z

set_option Elab.async false
set_option linter.all false
set_option maxRecDepth 100000
set_option maxHeartbeats 1000000
namespace Z
open PySem PySem.Spec PyProof.Rows L2
/-! ### statements -/
/-- how things stand within a def: Δ0, H0 at its entry; Γ what it owns; F data that stay; ρ its names -/
def Stt (K : PySem.W.Frag) (Δ0 : Gh) (H0 : Hp) (Γ : Own) (F : List (V × Cell)) (ρ : Env) (σ : L2.St) (H : Hp) : Prop :=
  ∃ Δ : Gh, Sat Γ Δ ∧ Hold Δ H ∧ EnvOk K Δ σ H ρ ∧ (∀ f ∈ F, f.2.rp K Δ H f.1) ∧ Ext Δ0 H0 H ∧ (∀ x I, Δ0 x = some I → Δ x = some I) ∧ (∀ x, Δ0 x = none → Δ x ≠ none → H0 x = none)
def Wp (K : PySem.W.Frag) (Δ0 : Gh) (H0 : Hp) (Γ : Own) (F : List (V × Cell)) (ρ : Env) (t : TS) (D : Ends) : Prop := ∀ σ H, Stt K Δ0 H0 Γ F ρ σ H → t D σ H
/-- what is wanted of what is handed back -/
def Fin (K : PySem.W.Frag) (Δ0 : Gh) (H0 : Hp) {β : Type} [Rp β] (R : β → Prop) (D : Ends) : Prop := ∀ v H' b, R b → Ext Δ0 H0 H' → Rp.rp K Δ0 H' v b → D.rt v H'
section
variable {K : PySem.W.Frag} {Δ0 : Gh} {H0 : Hp} {Γ : Own} {F : List (V × Cell)} {ρ : Env} {ta tb tc te : TE} {c : TT} {t u tz : TS} {D : Ends} {α β γ : Type} [Rp α] [Rp β] [Rp γ] {P : α → Prop} {R : β → Prop}
theorem ext0 {Δ : Gh} {H H' : Hp} (e0 : Ext Δ0 H0 H) (s1 : ∀ x I, Δ0 x = some I → Δ x = some I) (s2 : ∀ x, Δ0 x = none → Δ x ≠ none → H0 x = none) (e : Ext Δ H H') : Ext Δ0 H0 H' := by
  refine ⟨fun a o n h => ?_, fun a I q => e.2 a I (s1 a I q)⟩
  have n' : Δ a = none := by
    cases q : Δ a with
    | none => rfl
    | some I =>
      rw [s2 a n (by rw [q]; exact fun z => by cases z)] at h
      cases h
  exact e.1 a o n' (e0.1 a o n h)
theorem none0 {Δ : Gh} (s1 : ∀ x I, Δ0 x = some I → Δ x = some I) {x : Addr} (n : Δ x = none) : Δ0 x = none := by
  cases q : Δ0 x with
  | none => rfl
  | some I =>
    rw [s1 x I q] at n
    cases n
theorem wp_asg {i : Nat} (h : Ev K Γ te ρ P) (hi : i < ρ.length) (k : ∀ a, P a → Wp K Δ0 H0 Γ F (ρ.set i (some ⟨a⟩)) tz D) : Wp K Δ0 H0 Γ F ρ (tSeq (tAsg te (gName i)) tz) D := fun σ H ⟨Δ, s, hh, e, f, e0, s1, s2⟩ =>
  h Δ σ H _ s hh e fun v H' a pa e1 r1 => k a pa _ H' ⟨Δ, s, e1.2, (e.mono e1.1).set (c := ⟨a⟩) hi r1, fun q hq => q.2.r.mono e1.1 (f q hq), ext0 e0 s1 s2 e1, s1, s2⟩
theorem wp_asg1 {i : Nat} {a : α} (h : Ev K Γ te ρ (Is a)) (hi : i < ρ.length) (k : Wp K Δ0 H0 Γ F (ρ.set i (some ⟨a⟩)) tz D) : Wp K Δ0 H0 Γ F ρ (tSeq (tAsg te (gName i)) tz) D :=
  wp_asg h hi fun b e => by rw [show b = a from e]; exact k
/-- the same as the last of a block -/
theorem wp_asgL {i : Nat} (h : Ev K Γ te ρ P) (hi : i < ρ.length) (k : ∀ a, P a → Wp K Δ0 H0 Γ F (ρ.set i (some ⟨a⟩)) tNext D) : Wp K Δ0 H0 Γ F ρ (tAsg te (gName i)) D := fun σ H ⟨Δ, s, hh, e, f, e0, s1, s2⟩ =>
  h Δ σ H _ s hh e fun v H' a pa e1 r1 => k a pa _ H' ⟨Δ, s, e1.2, (e.mono e1.1).set (c := ⟨a⟩) hi r1, fun q hq => q.2.r.mono e1.1 (f q hq), ext0 e0 s1 s2 e1, s1, s2⟩
theorem wp_ret (hf : Fin K Δ0 H0 R D) (h : Ev K Γ te ρ R) : Wp K Δ0 H0 Γ F ρ (tRet te) D := fun σ H ⟨Δ, s, hh, e, f, e0, s1, s2⟩ =>
  h Δ σ H _ s hh e fun v H' a pa e1 r1 => hf v H' a pa (ext0 e0 s1 s2 e1) (Rp.weak (fun x o _ n => none0 s1 n) r1)
theorem wp_drop (h : Ev K Γ te ρ P) (k : Wp K Δ0 H0 Γ F ρ tz D) : Wp K Δ0 H0 Γ F ρ (tSeq (tDrop te) tz) D := fun σ H ⟨Δ, s, hh, e, f, e0, s1, s2⟩ =>
  h Δ σ H _ s hh e fun v H' a pa e1 r1 => k _ H' ⟨Δ, s, e1.2, e.mono e1.1, fun q hq => q.2.r.mono e1.1 (f q hq), ext0 e0 s1 s2 e1, s1, s2⟩
theorem wp_dropL (h : Ev K Γ te ρ P) (k : Wp K Δ0 H0 Γ F ρ tNext D) : Wp K Δ0 H0 Γ F ρ (tDrop te) D := fun σ H ⟨Δ, s, hh, e, f, e0, s1, s2⟩ =>
  h Δ σ H _ s hh e fun v H' a pa e1 r1 => k _ H' ⟨Δ, s, e1.2, e.mono e1.1, fun q hq => q.2.r.mono e1.1 (f q hq), ext0 e0 s1 s2 e1, s1, s2⟩
theorem wp_ifP {PB : Bool → Prop} (h : EvT K Γ c ρ PB) (h1 : PB true → Wp K Δ0 H0 Γ F ρ t D) (h2 : PB false → Wp K Δ0 H0 Γ F ρ u D) : Wp K Δ0 H0 Γ F ρ (tIfS c t u) D := fun σ H ⟨Δ, s, hh, e, f, e0, s1, s2⟩ =>
  h Δ σ H _ s hh e fun b H' pb e1 => by
    have st : Stt K Δ0 H0 Γ F ρ σ H' := ⟨Δ, s, e1.2, e.mono e1.1, fun q hq => q.2.r.mono e1.1 (f q hq), ext0 e0 s1 s2 e1, s1, s2⟩
    cases b with
    | true => exact iteT (h1 pb σ H' st)
    | false => exact iteF (h2 pb σ H' st)
theorem wp_if {b : Bool} (h : EvT K Γ c ρ (Is b)) (h1 : b = true → Wp K Δ0 H0 Γ F ρ t D) (h2 : b = false → Wp K Δ0 H0 Γ F ρ u D) : Wp K Δ0 H0 Γ F ρ (tIfS c t u) D := wp_ifP h (fun e => h1 (show true = b from e).symm) fun e => h2 (show false = b from e).symm
/-- if c: t, then the rest -/
theorem wp_when {b : Bool} (h : EvT K Γ c ρ (Is b)) (h1 : b = true → Wp K Δ0 H0 Γ F ρ t { D with nx := tz D }) (h2 : b = false → Wp K Δ0 H0 Γ F ρ tz D) : Wp K Δ0 H0 Γ F ρ (tSeq (tIfS c t tNext) tz) D := wp_if (D := { D with nx := tz D }) h h1 h2
theorem wp_ifs {b : Bool} (h : EvT K Γ c ρ (Is b)) (h1 : b = true → Wp K Δ0 H0 Γ F ρ t { D with nx := tz D }) (h2 : b = false → Wp K Δ0 H0 Γ F ρ u { D with nx := tz D }) : Wp K Δ0 H0 Γ F ρ (tSeq (tIfS c t u) tz) D := wp_if (D := { D with nx := tz D }) h h1 h2
/-- the raise of a way that is not gone -/
theorem wp_no {b : Bool} (hb : b = false) (h : EvT K Γ c ρ (Is b)) (h2 : Wp K Δ0 H0 Γ F ρ tz D) : Wp K Δ0 H0 Γ F ρ (tSeq (tIfS c t tNext) tz) D := wp_when h (fun e => by rw [hb] at e; cases e) fun _ => h2
theorem wp_noL {b : Bool} (hb : b = false) (h : EvT K Γ c ρ (Is b)) (h2 : Wp K Δ0 H0 Γ F ρ tNext D) : Wp K Δ0 H0 Γ F ρ (tIfS c t tNext) D := wp_if h (fun e => by rw [hb] at e; cases e) fun _ => h2
/-- a, b = e1, e2 -/
theorem wp_par {i j : Nat} {ta : TA} {Q : List Cell → Prop} (h : EvA K Γ ta ρ Q) (hi : i < ρ.length) (hj : j < ρ.length) (k : ∀ cs, Q cs → ∃ c d : Cell, cs = [c, d] ∧ Wp K Δ0 H0 Γ F ((ρ.set i (some c)).set j (some d)) tz D) : Wp K Δ0 H0 Γ F ρ (tSeq (tPar i j ta) tz) D := fun σ H ⟨Δ, s, hh, e, f, e0, s1, s2⟩ =>
  h Δ σ H _ s hh e fun vs H' cs pcs e1 r => by
    obtain ⟨c, d, rfl, kk⟩ := k cs pcs
    match vs, r with
    | [v, w], r => exact ⟨v, w, rfl, kk _ H' ⟨Δ, s, e1.2, ((e.mono e1.1).set hi r.1).set (by rw [List.length_set]; exact hj) r.2.1, fun q hq => q.2.r.mono e1.1 (f q hq), ext0 e0 s1 s2 e1, s1, s2⟩⟩
/-- a loop: Iv tells what may stand ahead of turn i -/
def At (K : PySem.W.Frag) (Δ0 : Gh) (H0 : Hp) (F : List (V × Cell)) (Iv : Nat → Own → Env → Prop) (i : Nat) : L2.St → Hp → Prop := fun σ H => ∃ Γ ρ, Iv i Γ ρ ∧ Stt K Δ0 H0 Γ F ρ σ H
theorem wp_for {wi : TI} {g : TG} {js : List Nat} {n : Nat} {st : Nat → Env → Env} (Iv : Nat → Own → Env → Prop) (S : Src K Γ wi g ρ js n st) (h0 : Iv 0 Γ ρ) (hl : ∀ i Γ' ρ', Iv i Γ' ρ' → ρ'.length = ρ.length)
    (hs : ∀ i Γ' ρ' F', i < n → Iv i Γ' ρ' → Wp K Δ0 H0 Γ' F' (st i ρ') t { D with nx := At K Δ0 H0 F' Iv (i + 1), ct := At K Δ0 H0 F' Iv (i + 1), bk := tz D })
    (hd : ∀ Γ' ρ' F', Iv n Γ' ρ' → Wp K Δ0 H0 Γ' F' ρ' tz D) : Wp K Δ0 H0 Γ F ρ (tSeq (tFor wi g t) tz) D := fun σ H ⟨Δ, s, hh, e, f, e0, s1, s2⟩ =>
  S Δ σ H _ s hh e fun J H1 pv pc e1 rp0 hgo hyld => by
    refine ⟨fun i m σ2 H2 => m = n - i ∧ i ≤ n ∧ At K Δ0 H0 ((pv, pc) :: F) Iv i σ2 H2, ⟨n, by simp, Nat.zero_le _, Γ, ρ, h0, Δ, s, e1.2, e.mono e1.1, ?_, ext0 e0 s1 s2 e1, s1, s2⟩, ?_⟩
    · intro q hq
      rcases List.mem_cons.mp hq with z | z
      · rw [z]; exact rp0
      · exact q.2.r.mono e1.1 (f q z)
    · rintro i m σ2 H2 ⟨rfl, hi, Γ', ρ', iv, st2⟩
      obtain ⟨Δ', s', hh', e', f', e0', s1', s2'⟩ := id st2
      have rp2 : pc.rp K Δ' H2 pv := f' (pv, pc) List.mem_cons_self
      have hg := hgo Δ' H2 rp2
      by_cases hlt : i < n
      · refine .inr ⟨hg.1 i hlt, At K Δ0 H0 ((pv, pc) :: F) Iv (i + 1), fun σ3 H3 a => ⟨n - (i + 1), by omega, rfl, hlt, a⟩, fun x H3 hy => ?_⟩
        obtain ⟨e3, hput⟩ := hyld Δ' i H2 x H3 hlt hh' rp2 hy
        refine hput σ2 ρ' _ (hl i Γ' ρ' iv) (e'.mono e3.1) fun σ3 env3 _ _ => ?_
        exact hs i Γ' ρ' _ hlt iv σ3 H3 ⟨Δ', s', e3.2, env3, fun q hq => q.2.r.mono e3.1 (f' q hq), ext0 e0' s1' s2' e3, s1', s2'⟩
      · have ei : i = n := by omega
        subst ei
        exact .inl ⟨hg.2, hd Γ' ρ' _ iv σ2 H2 st2⟩
/-- behind the last turn's body -/
theorem wp_turn {Iv : Nat → Own → Env → Prop} {i : Nat} (hiv : Iv i Γ ρ) (e : D.nx = At K Δ0 H0 F Iv i) : Wp K Δ0 H0 Γ F ρ tNext D := fun σ H st => by
  show D.nx σ H
  rw [e]
  exact ⟨Γ, ρ, hiv, st⟩
/-- x = a list of one's own: from here on its cell is owned, its members told -/
def LstIs (vs : List V) : HO → Prop := fun o => o = .lst vs
theorem wp_end {D : Ends} (h : ∀ H', Ext Δ0 H0 H' → D.nx = D.nx → ∀ σ, D.nx σ H') : Wp K Δ0 H0 Γ F ρ tNext D := fun σ H ⟨Δ, s, hh, e, f, e0, s1, s2⟩ => h H e0 rfl σ
end
/-! ### a def -/
section
variable {P : Program} {w : World} {K : PySem.W.Frag} {mg : Str → Option Value} {base : Heap} {β : Type} [Rp β]
def env0 (N : List Str) (cs : List Cell) : Env := cs.map some ++ List.replicate (N.length - cs.length) none
theorem start_ok {Δ : Gh} {H : Hp} {N : List Str} {vs : List V} {cs : List Cell} (h : ArgsOk K Δ H vs cs) : EnvOk K Δ (L2.start N vs) H (env0 N cs) := by
  have hl := All2.len h
  refine ⟨by unfold L2.start env0; rw [List.length_append, List.length_append, List.length_map, List.length_map, List.length_replicate, List.length_replicate, hl], fun i c e => ?_⟩
  unfold env0 at e
  unfold L2.start
  by_cases hi : i < cs.length
  · rw [List.getElem?_append_left (by rw [List.length_map]; exact hi), List.getElem?_map] at e
    cases q : cs[i]? with
    | none => rw [q] at e; cases e
    | some d =>
      rw [q] at e
      have ed : d = c := Option.some.inj (Option.some.inj e)
      subst ed
      obtain ⟨v, hv, rv⟩ := All2.get h q
      exact ⟨v, by rw [List.getElem?_append_left (by rw [List.length_map, hl]; exact hi), List.getElem?_map, hv]; rfl, rv⟩
  · rw [List.getElem?_append_right (by rw [List.length_map]; omega)] at e
    obtain ⟨_, e2⟩ := List.getElem?_eq_some_iff.mp e
    rw [List.getElem_replicate] at e2
    cases e2
/-- a def's promise from its body's term and the body's walk -/
theorem def_ok {x qual : Str} {args : Arguments} {body : List Stmt} {scope : Scope} {dvs : List V} {kws : List (Str × V)} {f : Addr} {fd : FuncData} {N ps : List Str} {k : Nat} {G : Own → List Cell → (β → Prop) → Prop}
    (Fn : FunD K x qual args body scope dvs kws f fd) (S : FnScope N ps scope) (len : ∀ Γ cs R, G Γ cs R → cs.length = ps.length)
    (hb : ∀ (cdv : Value) (A : Around) (outer : List PySem.Env) (s : Shared) (H : Hp) (E : XK), Room k (A.deeper (envOfC qual scope s.heap.objs.size f cdv)) →
      ∀ (Γ : Own) (cs : List Cell) (R : β → Prop), G Γ cs R → ∃ t, PSs (cxOf CX0 P w K mg base N qual scope f cdv A outer s H E).nox body t ∧
        ∀ (Δ0 : Gh) (D : Ends), Fin K Δ0 H R D → (∀ b : β, R b → (∀ H', Rp.rp K Δ0 H' .non b) → ∀ σ H', Ext Δ0 H H' → D.nx σ H') → Wp K Δ0 H Γ [] (env0 N cs) t D) :
    FnOk P w K mg base CX0 (k + 1) f fd ps (spD K G) := by
  refine Fn.ok S (fun vs H Q E h => ?_) (fun cdv A outer s H vs Q E hr h => ?_)
  · obtain ⟨Γ, Δ, cs, R, g, _, _, a, _⟩ := h
    rw [All2.len a]
    exact len Γ cs R g
  · obtain ⟨Γ, Δ, cs, R, g, sa, hh, a, q⟩ := h
    obtain ⟨t, ht, hw⟩ := hb cdv A outer s H E hr Γ cs R g
    refine ⟨t, ?_, hw Δ _ (fun v H' b pb e r => q v H' b pb e r) (fun b rb hb' σ H' e => q .non H' b rb e (hb' H')) _ H ⟨Δ, sa, hh, start_ok a, fun z hz => (nomatch hz), Ext.refl hh, fun _ _ z => z, fun x n m => absurd n m⟩⟩
    first
      | exact ht
      | exact PSs.nox ht
end
end Z

set_option Elab.async false
set_option linter.all false
set_option maxRecDepth 100000
set_option maxHeartbeats 1000000
namespace Z
open PySem PySem.Spec PyProof.Rows L2
/-! ### further rules -/
section
variable {X : Cx}
theorem call_reprB : CallR X (.builtin "repr") (fun xs H Q => ∃ b, xs = [.bl b] ∧ Q (.str (if b then "True" else "False")) H) := by
  intro pins s σ H xs us Q I r h
  obtain ⟨b, rfl, q⟩ := h
  obtain ⟨u, rfl, r1⟩ := vals1 r
  cases r1
  exact PySem.P.repr_of_bool ⟨.str _, H, I.tok _, ⟨_, rfl⟩, q⟩
def rMulS : R2 := fun x y H Q => ∃ z i, x = .str z ∧ y = .int i ∧ MulOk z i ∧ Q (.str (PySem.Txt.mul z i)) H
theorem op_mulS : OpR X (binaryOp .Mult) rMulS := by
  intro pins s σ H x y v u Q I rx ry h
  obtain ⟨z, i, rfl, rfl, hm, q⟩ := h
  obtain ⟨t, rfl⟩ := rx
  obtain ⟨t', rfl⟩ := ry
  exact PySem.SB.mul hm fun t2 k => ⟨.str _, H, I.tok k, ⟨t2, rfl⟩, q⟩
theorem pe_trS {o : Expr} {to te : TE} {e : Expr} {apos pos : Pos} (hc : X.calm = true) (ho : PE X o to) (he : PE X e te) (hs : starEach [e] X.env = [(false, eval e X.env)] := by rfl) (hbase : attributeBase o "translate" X.env (eval o X.env) = eval o X.env := by rfl) (hline : (apos.endLine == pos.line) = true := by rfl) :
    PE X (.Call (.Attribute o "translate" apos) [e] [] pos) (tM1 (fun x xs H Q => ∃ (t : List Nat) (d : Addr), x = .str (SX.S t) ∧ xs = [.ref d] ∧ H d = some (.dK swpV) ∧ t.length ≤ 16000000 ∧ Q (.str (SX.S (t.map sw))) H) to te) :=
  pe_m1 F.slot_str_translate F.type_str_translate (mt_trS hc) ho he hs hbase hline
theorem pe_stripC {o : Expr} {to te : TE} {e : Expr} {apos pos : Pos} (ho : PE X o to) (he : PE X e te) (hs : starEach [e] X.env = [(false, eval e X.env)] := by rfl) (hbase : attributeBase o "strip" X.env (eval o X.env) = eval o X.env := by rfl) (hline : (apos.endLine == pos.line) = true := by rfl) :
    PE X (.Call (.Attribute o "strip" apos) [e] [] pos) (tM1 (fun x xs H Q => ∃ a b, x = .str a ∧ xs = [.str b] ∧ a.length ≤ sizeLine ∧ Q (.str (PySem.Txt.stripChars a b)) H) to te) :=
  pe_m1 F.slot_str_strip F.type_str_strip mt_stripChars ho he hs hbase hline
end
end Z

set_option Elab.async false
set_option linter.all false
set_option maxRecDepth 100000
set_option maxHeartbeats 1000000
namespace Z
open PySem PySem.Spec PyProof.Rows L2
section
variable {K : PySem.W.Frag} {Γ : Own} {ρ : Env} {ta tb tc te : TE} {t u : TT} {α β γ : Type} [Rp α] [Rp β] [Rp γ] {Pa : α → Prop} {Pb : β → Prop} {Pc : γ → Prop}
/-! ### texts -/
theorem joinL_flat : ∀ ps : List (List Nat), TL.joinL [] ps = ps.flatten
  | [] => rfl
  | [p] => by simp [TL.joinL]
  | p :: q :: r => by
    show p ++ ([] ++ TL.joinL [] (q :: r)) = _
    rw [joinL_flat (q :: r), List.nil_append, List.flatten_cons, List.flatten_cons, List.flatten_cons]
theorem join_tx (xs : List Tx) : PySem.Txt.join Str.empty (xs.map fun x => (⟨x.s.toArray⟩ : Str)) = ⟨((xs.map (·.s)).flatten).toArray⟩ := by
  rw [TL.join_eq]
  have h := TL.tl_join Str.empty (xs.map fun x => (⟨x.s.toArray⟩ : Str))
  rw [show TL.tl Str.empty = [] from rfl, joinL_flat, List.map_map] at h
  have e : (xs.map (TL.tl ∘ fun x => (⟨x.s.toArray⟩ : Str))) = xs.map (·.s) := List.map_congr_left fun x _ => by show x.s.toArray.toList = x.s; simp
  rw [e] at h
  generalize PySem.Str.join Str.empty _ = z at h
  cases z
  have h' := congrArg List.toArray h
  simpa using h'
def rJoin (K : PySem.W.Frag) : V → List V → Hp → VK → Prop := fun x xs H Q => ∃ a p, ∃ ys : List Str, x = .str a ∧ xs = [.ref p] ∧ (SqL K H p (ys.map V.str) ∨ SqT K H p (ys.map V.str)) ∧
  (ys.map (·.length)).sum + ys.length * a.length ≤ 16777216 ∧ Q (.str (PySem.Txt.join a ys)) H
theorem sum_len (xs : List Tx) : ((xs.map fun x => (⟨x.s.toArray⟩ : Str)).map (·.length)).sum = ((xs.map (·.s)).flatten).length := by
  induction xs with
  | nil => rfl
  | cons x xs ih =>
    rw [List.map_cons, List.map_cons, List.sum_cons, ih, List.map_cons, List.flatten_cons, List.length_append]
    have e : (⟨x.s.toArray⟩ : Str).length = x.s.length := by show x.s.toArray.size = _; simp
    rw [e]
/-- "".join(texts) -/
theorem ev_join1 {xs : List Tx} (h : Ev K Γ te ρ (Is xs)) (hz : ((xs.map (·.s)).flatten).length ≤ 100000) : Ev K Γ (tM1 (rJoin K) (tC (.str "")) te) ρ (Is (⟨(xs.map (·.s)).flatten⟩ : Tx)) := fun Δ σ H Q s hh e k =>
  ⟨⟨_, rfl⟩, h Δ σ H _ s hh e fun v H' a pa e1 r => by
    have ea : a = xs := pa
    subst ea
    obtain ⟨p, vs, rfl, n, sq, q⟩ := r
    have ev := all2_tx q
    subst ev
    refine ⟨Str.empty, p, _, rfl, rfl, .inl sq, ?_, k _ H' _ rfl e1 (by show V.str _ = V.str _; rw [join_tx])⟩
    rw [sum_len]
    have e0 : Str.empty.length = 0 := rfl
    rw [e0]
    omega⟩
theorem ev_join {xs : List Tx} {z : Str} (hz0 : z = "" := by rfl) (h : Ev K Γ te ρ (Is xs)) (hz : ((xs.map (·.s)).flatten).length ≤ 100000) : Ev K Γ (tM1 (rJoin K) (tC (.str z)) te) ρ (Is (⟨(xs.map (·.s)).flatten⟩ : Tx)) := by
  subst hz0
  exact ev_join1 h hz
/-- the same of a drawn list -/
theorem ev_joinP {P : List Tx → Prop} {z : Str} (hz0 : z = "" := by rfl) (h : Ev K Γ te ρ P) (hz : ∀ xs, P xs → ((xs.map (·.s)).flatten).length ≤ 100000) : Ev K Γ (tM1 (rJoin K) (tC (.str z)) te) ρ (fun x : Tx => ∃ xs, P xs ∧ x = ⟨(xs.map (·.s)).flatten⟩) := by
  subst hz0
  exact fun Δ σ H Q s hh e k =>
    ⟨⟨_, rfl⟩, h Δ σ H _ s hh e fun v H' a pa e1 r => by
      obtain ⟨p, vs, rfl, n, sq, q⟩ := r
      have ev := all2_tx q
      subst ev
      refine ⟨Str.empty, p, _, rfl, rfl, .inl sq, ?_, k _ H' _ ⟨a, pa, rfl⟩ e1 (by show V.str _ = V.str _; rw [join_tx])⟩
      rw [sum_len]
      have e0 : Str.empty.length = 0 := rfl
      rw [e0]
      have := hz a pa
      omega⟩
def isSign (c : Nat) : Bool := c == 43 || c == 45 || c == 48
theorem contains_sign (c : Nat) : (Str.ofString "+-0").cps.contains c = isSign c := by
  have e : (Str.ofString "+-0").cps = #[43, 45, 48] := by decide +kernel
  rw [e]
  unfold isSign
  simp [Array.contains, Bool.or_assoc, eq_comm, BEq.comm]
theorem takeWhile_all {p : Nat → Bool} : ∀ {l : List Nat}, (l.takeWhile p).length = l.length → l.all p = true
  | [], _ => rfl
  | x :: l, h => by
    rw [List.takeWhile_cons] at h
    cases hp : p x with
    | true =>
      rw [hp] at h
      simp at h
      rw [List.all_cons, hp, takeWhile_all (by simpa using h)]
      try rfl
    | false =>
      rw [hp] at h
      simp at h
theorem all_takeWhile {p : Nat → Bool} : ∀ {l : List Nat}, l.all p = true → l.takeWhile p = l
  | [], _ => rfl
  | x :: l, h => by
    rw [List.all_cons, Bool.and_eq_true] at h
    rw [List.takeWhile_cons, h.1, if_pos rfl, all_takeWhile h.2]
theorem drop_take {p : Nat → Bool} : ∀ l : List Nat, l = l.takeWhile p ++ l.drop (l.takeWhile p).length
  | [] => rfl
  | x :: l => by
    rw [List.takeWhile_cons]
    split
    · rw [List.cons_append, List.length_cons, List.drop_succ_cons, ← drop_take l]
    · rfl
theorem take_goes {p : Nat → Bool} : ∀ l : List Nat, (l.takeWhile p).all p = true
  | [] => rfl
  | x :: l => by
    rw [List.takeWhile_cons]
    split
    · rename_i h
      rw [List.all_cons, h, take_goes l]
      rfl
    · rfl
theorem takeWhile_le {p : Nat → Bool} : ∀ (l : List Nat), (l.takeWhile p).length ≤ l.length
  | [] => Nat.le_refl _
  | x :: l => by
    rw [List.takeWhile_cons]
    split
    · have := takeWhile_le (p := p) l
      simp only [List.length_cons]
      omega
    · simp
/-- nothing is left of a row alone -/
theorem strip_nil (l : List Nat) : (PySem.Txt.stripChars ⟨l.toArray⟩ "+-0" = Str.empty) ↔ l.all isSign = true := by
  have hc : (fun c => (Str.ofString "+-0").cps.contains c) = isSign := funext contains_sign
  have hg : (Str.ofString "+-0").cps.contains = isSign := hc
  unfold PySem.Txt.stripChars PySem.Txt.stripBy
  rw [hg]
  have hlen : (⟨l.toArray⟩ : Str).length = l.length := by show l.toArray.size = _; simp
  have lo : PySem.stripLo isSign true ⟨l.toArray⟩ = (l.takeWhile isSign).length := by unfold PySem.stripLo; simp
  constructor
  · intro h
    split at h
    · rename_i hs
      unfold PySem.stripSame at hs
      rw [lo, Bool.and_eq_true] at hs
      have hl : l = [] := by
        have h2 : l.toArray = #[] := congrArg Str.cps h
        simpa using h2
      subst hl
      rfl
    · have hcps := congrArg Str.cps h
      unfold PySem.stripped at hcps
      have h2 : ((⟨l.toArray⟩ : Str).cps.extract (PySem.stripLo isSign true ⟨l.toArray⟩) (PySem.stripHi isSign true ⟨l.toArray⟩ (PySem.stripLo isSign true ⟨l.toArray⟩))).size = 0 := by
        have : (PySem.Builtin.Str.strSub (⟨l.toArray⟩ : Str) (PySem.stripLo isSign true ⟨l.toArray⟩) (PySem.stripHi isSign true ⟨l.toArray⟩ (PySem.stripLo isSign true ⟨l.toArray⟩))).cps = #[] := hcps
        exact congrArg Array.size this
      rw [Array.size_extract, lo] at h2
      have hi : PySem.stripHi isSign true ⟨l.toArray⟩ (l.takeWhile isSign).length = l.length - ((l.drop (l.takeWhile isSign).length).reverse.takeWhile isSign).length := by
        unfold PySem.stripHi
        rw [if_pos rfl, hlen]
      rw [hi] at h2
      have hsz : (⟨l.toArray⟩ : Str).cps.size = l.length := by simp
      rw [hsz] at h2
      have t1 := takeWhile_le (p := isSign) l
      have t2 := takeWhile_le (p := isSign) ((l.drop (l.takeWhile isSign).length).reverse)
      rw [List.length_reverse, List.length_drop] at t2
      -- the tail's own signs end at the first bad one
      have key : (l.takeWhile isSign).length = l.length ∨ ((l.drop (l.takeWhile isSign).length).reverse.takeWhile isSign).length < l.length - (l.takeWhile isSign).length := by
        by_cases hq : (l.takeWhile isSign).length = l.length
        · exact .inl hq
        · right
          have hne : ((l.drop (l.takeWhile isSign).length).reverse.takeWhile isSign).length ≠ (l.drop (l.takeWhile isSign).length).reverse.length := by
            intro hh
            have ha := takeWhile_all hh
            rw [List.all_reverse] at ha
            have hcat := drop_take (p := isSign) l
            have hall : l.all isSign = true := by
              rw [hcat, List.all_append, ha]
              rw [take_goes l]
              try rfl
            have := all_takeWhile hall
            exact hq (by rw [this])
          rw [List.length_reverse, List.length_drop] at hne
          omega
      rcases key with q | q
      · exact takeWhile_all q
      · omega
  · intro h
    have ht := all_takeWhile h
    split
    · rename_i hs
      unfold PySem.stripSame at hs
      rw [lo, Bool.and_eq_true, ht] at hs
      have h0 : l.length = 0 := by simpa using hs.1
      have hl := List.eq_nil_of_length_eq_zero h0
      subst hl
      rfl
    · unfold PySem.stripped
      show (⟨l.toArray.extract _ _⟩ : Str) = _
      rw [lo, ht]
      have : l.toArray.extract l.length (PySem.stripHi isSign true ⟨l.toArray⟩ l.length) = #[] := by
        apply Array.eq_empty_of_size_eq_zero
        rw [Array.size_extract]
        unfold PySem.stripHi
        rw [if_pos rfl, hlen]
        simp
      rw [this]
      rfl

def rStrip : V → List V → Hp → VK → Prop := fun x xs H Q => ∃ a b, x = .str a ∧ xs = [.str b] ∧ a.length ≤ sizeLine ∧ Q (.str (PySem.Txt.stripChars a b)) H
/-- x.strip("+-0"), told by what is left -/
theorem ev_strip {x : Tx} {z : Str} (hz0 : z = "+-0" := by rfl) (h : Ev K Γ ta ρ (Is x)) (hz : x.s.length ≤ 100000) :
    Ev K Γ (tM1 (fun x xs H Q => ∃ a b, x = .str a ∧ xs = [.str b] ∧ a.length ≤ sizeLine ∧ Q (.str (PySem.Txt.stripChars a b)) H) ta (tC (.str z))) ρ (fun y : Tx => y.s = [] ↔ x.s.all isSign = true) := by
  subst hz0
  exact fun Δ σ H Q s hh e k => h Δ σ H _ s hh e fun v H' a pa e1 r => by
    have ea : a = x := pa
    subst ea
    have ev : v = .str ⟨a.s.toArray⟩ := r
    subst ev
    refine ⟨⟨_, rfl⟩, _, _, rfl, rfl, ?_, k _ H' ⟨(PySem.Txt.stripChars ⟨a.s.toArray⟩ "+-0").cps.toList⟩ ?_ e1 rfl⟩
    · show a.s.toArray.size ≤ sizeLine
      rw [List.size_toArray]
      exact Nat.le_trans hz (by decide)
    · rw [← strip_nil]
      constructor
      · intro q
        generalize PySem.Txt.stripChars ⟨a.s.toArray⟩ "+-0" = y at q
        cases y with
        | mk c =>
          have q' : c.toList = [] := q
          have : c = #[] := by simpa using q'
          rw [this]
          rfl
      · intro q
        rw [q]
        rfl
/-- x.translate(the swap) -/
theorem ev_tr {x : Tx} (h : Ev K Γ ta ρ (Is x)) (hz : x.s.length ≤ 100000) :
    Ev K Γ (tM1 (fun x xs H Q => ∃ (t : List Nat) (d : Addr), x = .str (SX.S t) ∧ xs = [.ref d] ∧ H d = some (.dK swpV) ∧ t.length ≤ 16000000 ∧ Q (.str (SX.S (t.map sw))) H) ta tMk) ρ (Is (⟨x.s.map sw⟩ : Tx)) := fun Δ σ H Q s hh e k =>
  h Δ σ H _ s hh e fun v H' a pa e1 r => by
    have ea : a = x := pa
    subst ea
    have ev : v = .str ⟨a.s.toArray⟩ := r
    subst ev
    refine ⟨⟨_, rfl⟩, fun p hp => ⟨a.s, p, rfl, rfl, upd_same, by omega, k _ _ ⟨a.s.map sw⟩ rfl (e1.trans (Ext.new e1.2 hp _)) rfl⟩⟩
/-! ### built-in calls -/
theorem o1_abs {i : Int} : Op1 K (fun xs H Q => ∃ i, xs = [.int i] ∧ Q (.int (if i < 0 then -i else i)) H) i (Is (if i < 0 then -i else i)) := fun Δ H v Q hh r k => by
  have e : v = .int i := r
  subst e
  exact ⟨i, rfl, k _ H _ rfl (Ext.refl hh) rfl⟩
theorem o1_int {i : Int} : Op1 K (fun xs H Q => (∃ i, xs = [.int i] ∧ Q (.int i) H) ∨ ∃ k, xs = [.bl k] ∧ Q (.int (if k then 1 else 0)) H) i (Is i) := fun Δ H v Q hh r k => by
  have e : v = .int i := r
  subst e
  exact .inl ⟨i, rfl, k _ H _ rfl (Ext.refl hh) rfl⟩
theorem o1_intB {b : Bool} : Op1 K (fun xs H Q => (∃ i, xs = [.int i] ∧ Q (.int i) H) ∨ ∃ k, xs = [.bl k] ∧ Q (.int (if k then 1 else 0)) H) b (Is (if b then (1 : Int) else 0)) := fun Δ H v Q hh r k => by
  have e : v = .bl b := r
  subst e
  exact .inr ⟨b, rfl, k _ H _ rfl (Ext.refl hh) rfl⟩
def rB (b : Bool) : Tx := ⟨(Str.ofString (if b then "True" else "False")).cps.toList⟩
theorem o1_reprB {b : Bool} : Op1 K (fun xs H Q => ∃ b, xs = [.bl b] ∧ Q (.str (if b then "True" else "False")) H) b (Is (rB b)) := fun Δ H v Q hh r k => by
  have e : v = .bl b := r
  subst e
  refine ⟨b, rfl, k _ H _ rfl (Ext.refl hh) ?_⟩
  cases b <;> rfl
theorem o1_tuple {xs : List α} : Op1 K (fun xs H Q => ∃ p ys, xs = [.ref p] ∧ ((SqL K H p ys ∧ ∀ l, H l = none → Q (.ref l) (upd H l (.tup ys))) ∨ (SqT K H p ys ∧ Q (.ref p) H))) xs (Is (⟨xs⟩ : Tup α)) := fun Δ H v Q hh r k => by
  obtain ⟨p, vs, rfl, n, s, q⟩ := r
  exact ⟨p, vs, rfl, .inl ⟨s, fun l hl => k _ _ ⟨xs⟩ rfl (Ext.new hh hl _) (new_tup hh hl q)⟩⟩
/-- tuple(a drawn list) -/
theorem ev_tupleP {P : List α → Prop} (h : Ev K Γ te ρ P) : Ev K Γ (tCB (fun xs H Q => ∃ p ys, xs = [.ref p] ∧ ((SqL K H p ys ∧ ∀ l, H l = none → Q (.ref l) (upd H l (.tup ys))) ∨ (SqT K H p ys ∧ Q (.ref p) H))) (tCons te tNil)) ρ (fun t : Tup α => P t.l) :=
  ev_cb1 h fun x px => fun Δ H v Q hh r k => o1_tuple Δ H v Q hh r fun u H' c pc => k u H' c (by rw [show c = ⟨x⟩ from pc]; exact px)
/-- isinstance(x, T) -/
theorem ev_isi {c : String} {tn : String} {x : α} {b : Bool} (h : Ev K Γ te ρ (Is x)) (ty : ∀ Δ H v, Rp.rp K Δ H v x → TyX K H v (.type tn)) (hb : PySem.W.kitOne K (.type tn) (.type c) = some b) :
    Ev K Γ (tCB (rIsi K) (tCons te (tCons (tC (.ty c)) tNil))) ρ (Is b) := fun Δ σ H Q s hh e k =>
  h Δ σ H _ s hh e fun v H' a pa e1 r => by
    have ea : a = x := pa
    subst ea
    exact ⟨v, .ty c, _, _, b, rfl, .ty c, ty Δ H' v r, hb, k _ H' _ rfl e1 rfl⟩
theorem ty_tx {x : Tx} : ∀ Δ H v, Rp.rp K Δ H v x → TyX K H v (.type "str") := fun Δ H v r => by
  have e : v = .str ⟨x.s.toArray⟩ := r
  subst e
  exact .base (.str _)
theorem ty_int {x : Int} : ∀ Δ H v, Rp.rp K Δ H v x → TyX K H v (.type "int") := fun Δ H v r => by
  have e : v = .int x := r
  subst e
  exact .base (.int _)
theorem ty_bl {x : Bool} : ∀ Δ H v, Rp.rp K Δ H v x → TyX K H v (.type "bool") := fun Δ H v r => by
  have e : v = .bl x := r
  subst e
  exact .base (.bl _)
theorem ty_tup {x : Tup α} : ∀ Δ H v, Rp.rp K Δ H v x → TyX K H v (.type "tuple") := fun Δ H v r => by
  obtain ⟨p, vs, rfl, n, s, q⟩ := r
  rcases n with ⟨_, n | ⟨o, n⟩⟩ | ⟨o, its, m, e, c, _⟩
  · exact .base (.tup n)
  · exact .fTuple n
  · exact .kTuple e c
theorem ty_list {x : List α} : ∀ Δ H v, Rp.rp K Δ H v x → TyX K H v (.type "list") := fun Δ H v r => by
  obtain ⟨p, vs, rfl, n, s, q⟩ := r
  rcases n with ⟨_, n | ⟨o, n⟩⟩ | ⟨o, its, m, e, c, _⟩
  · exact .base (.lst n)
  · exact .base (.frz n)
  · exact .kList e c
theorem ty_non {x : Unit} : ∀ Δ H v, Rp.rp K Δ H v x → TyX K H v (.type "NoneType") := fun Δ H v r => by
  have e : v = .non := r
  subst e
  exact .base .non
/-- x is None, for a datum that is or is not -/
theorem ev_isN {x : α} {b : Bool} (h : Ev K Γ te ρ (Is x)) (hb : ∀ Δ H v, Rp.rp K Δ H v x → decide (v = .non) = b) : Ev K Γ (tOp (fun x y H Q => y = .non ∧ Q (.bl (decide (x = .non))) H) te (tC .non)) ρ (Is b) := fun Δ σ H Q s hh e k =>
  h Δ σ H _ s hh e fun v H' a pa e1 r => ⟨rfl, k _ H' b rfl e1 (by
    have ea : a = x := pa
    subst ea
    show V.bl _ = V.bl _
    rw [hb Δ H' v r])⟩
/-- '0' * n -/
theorem mul_tx (c : Nat) (n : Nat) : PySem.Txt.mul ⟨#[c]⟩ (n : Int) = ⟨(List.replicate n c).toArray⟩ := by
  unfold PySem.Txt.mul
  split
  · rename_i h
    have : n = 0 := by omega
    subst this
    rfl
  · split
    · rename_i h1 h2
      have h3 : n = 1 := by
        simp [Str.length] at h2
        omega
      subst h3
      rfl
    · show (⟨_⟩ : Str) = _
      have key : ∀ (m : Nat) (acc : Array Nat), (List.replicate m (#[c] : Array Nat)).foldl (· ++ ·) acc = acc ++ (List.replicate m c).toArray := by
        intro m
        induction m with
        | zero => intro acc; simp
        | succ m ih =>
          intro acc
          rw [List.replicate_succ, List.foldl_cons, ih, List.replicate_succ]
          apply Array.toList_inj.mp
          simp
      rw [show ((n : Int)).toNat = n from Int.toNat_natCast n, key n #[], Array.empty_append]
theorem o2_mulS {c : Nat} {x : Tx} {n : Nat} (hx : x = ⟨[c]⟩) (hn : n ≤ 10000) : Op2 K rMulS x (n : Int) (Is (⟨List.replicate n c⟩ : Tx)) := fun Δ H v w Q hh r1 r2 k => by
  subst hx
  have e1 : v = .str ⟨#[c]⟩ := r1
  have e2 : w = .int n := r2
  subst e1 e2
  refine ⟨_, _, rfl, rfl, ⟨?_, ?_, ?_⟩, k _ H _ rfl (Ext.refl hh) ?_⟩
  · have h1 : ¬ ((n : Int) < -(2 ^ 63 : Int)) := by omega
    have h2 : ¬ ((n : Int) ≥ 2 ^ 63) := by omega
    rw [decide_eq_false h1, decide_eq_false h2]
    rfl
  · intro h1 _
    have hl : (⟨#[c]⟩ : Str).length = 1 := rfl
    rw [hl]
    have : (1 : Int) ≤ (2 ^ 63 - 1) / (n : Int) := by
      rw [Int.le_ediv_iff_mul_le (by omega)]
      omega
    omega
  · intro h1 _
    have hl : (⟨#[c]⟩ : Str).length = 1 := rfl
    rw [hl]
    exact PyProof.Rows.short24 (by omega)
  · show V.str _ = V.str _
    rw [mul_tx]
theorem o2_addS {x y : Tx} (hz : x.s.length + y.s.length ≤ 100000) : Op2 K (fun x y H Q => ∃ i j, x = .str i ∧ y = .str j ∧ i.length + j.length ≤ sizeLine ∧ Q (.str (i ++ j)) H) x y (Is (⟨x.s ++ y.s⟩ : Tx)) := fun Δ H v w Q hh r1 r2 k => by
  have e1 : v = .str ⟨x.s.toArray⟩ := r1
  have e2 : w = .str ⟨y.s.toArray⟩ := r2
  subst e1 e2
  refine ⟨_, _, rfl, rfl, ?_, k _ H _ rfl (Ext.refl hh) ?_⟩
  · show x.s.toArray.size + y.s.toArray.size ≤ sizeLine
    rw [List.size_toArray, List.size_toArray]
    exact Nat.le_trans hz (by decide)
  · show V.str ⟨x.s.toArray ++ y.s.toArray⟩ = V.str ⟨(x.s ++ y.s).toArray⟩
    simp
end
end Z

set_option Elab.async false
set_option linter.all false
set_option maxRecDepth 100000
set_option maxHeartbeats 1000000
namespace Z
open PySem PySem.Spec PyProof.Rows L2
section
variable {K : PySem.W.Frag} {Γ : Own} {ρ : Env} {ta tb tc te : TE} {t u : TT} {α β γ : Type} [Rp α] [Rp β] [Rp γ] {Pa : α → Prop} {Pb : β → Prop} {Pc : γ → Prop}
theorem src_str {tl : TE} {j : Nat} {x : Tx} {c0 : Nat → Nat} (h : Ev K Γ tl ρ (Is x)) (hx : ∀ i, i < x.s.length → x.s[i]? = some (c0 i)) (hj : j < ρ.length) : Src K Γ (iStr tl) (gName j) ρ [j] x.s.length (fun i ρ => ρ.set j (some ⟨(⟨[c0 i]⟩ : Tx)⟩)) := fun Δ σ H R s hh e k =>
  h Δ σ H _ s hh e fun v H' a pa e1 r => by
    have ea : a = x := pa
    subst ea
    have ev : v = .str ⟨a.s.toArray⟩ := r
    subst ev
    refine ⟨_, rfl, k _ H' .non ⟨()⟩ e1 rfl (fun Δ' H2 _ => ⟨fun i hi => ?_, ?_⟩) fun Δ' i H2 y H3 hi h2 _ yy => ?_⟩
    · show i < a.s.toArray.size
      simpa using hi
    · show a.s.toArray.size ≤ a.s.length
      simp
    · obtain ⟨rfl, c, hc, rfl⟩ := (show H3 = H2 ∧ ∃ c, a.s.toArray[i]? = some c ∧ y = .str ⟨#[c]⟩ from yy)
      have ec2 : c = c0 i := by
        have q1 : a.s[i]? = some c := by simpa using hc
        exact Option.some.inj (q1.symm.trans (hx i hi))
      subst ec2
      exact ⟨Ext.refl h2, fun σ' ρ' Qs hl e' q => q _ (e'.set (c := ⟨(⟨[c0 i]⟩ : Tx)⟩) (by rw [hl]; exact hj) rfl) (set_off (js := [j]) (List.mem_singleton_self j)).1 (set_off (js := [j]) (List.mem_singleton_self j)).2⟩
/-- {'+': '-', '-': '+', '0': '0'}[c] -/
theorem ev_flip {c : Nat} (hc : isSign c = true) (h : Ev K Γ te ρ (Is (⟨[c]⟩ : Tx))) :
    Ev K Γ (tDGet (tDisp [(tC (.str "+"), tC (.str "-")), (tC (.str "-"), tC (.str "+")), (tC (.str "0"), tC (.str "0"))]) te) ρ (Is (⟨[sw c]⟩ : Tx)) := fun Δ σ H Q s hh e k => by
  intro p hp
  have hh1 : Hold Δ (upd H p (.dK [])) := hh.new hp _
  have n : Δ p = none := hh.fresh hp
  refine ⟨upd_same, [(.inr "+", .str "-"), (.inr "-", .str "+"), (.inr "0", .str "0")], rfl, by decide, ?_⟩
  have e2 : Ext Δ H (upd (upd H p (.dK [])) p (.dK (mergeK [] [(.inr "+", .str "-"), (.inr "-", .str "+"), (.inr "0", .str "0")]))) := by
    rw [upd_upd]
    exact Ext.new hh hp _
  refine h Δ σ _ _ s e2.2 (e.mono e2.1) fun v H' a pa e3 r => ?_
  have ea : a = ⟨[c]⟩ := pa
  subst ea
  have ev : v = .str ⟨#[c]⟩ := r
  subst ev
  have hd : H' p = some (.dK (mergeK [] [(.inr "+", .str "-"), (.inr "-", .str "+"), (.inr "0", .str "0")])) := e3.1 p _ n upd_same
  unfold isSign at hc
  simp only [Bool.or_eq_true, beq_iff_eq] at hc
  have hm : mergeK [] ([(.inr "+", .str "-"), (.inr "-", .str "+"), (.inr "0", .str "0")] : List (Key × V)) = [(.inr "+", .str "-"), (.inr "-", .str "+"), (.inr "0", .str "0")] := by decide +kernel
  rw [hm] at hd
  rcases hc with (rfl | rfl) | rfl
  · exact ⟨p, .str "-", rfl, .inl ⟨_, .inr "+", .inl hd, rfl, by decide +kernel⟩, k _ H' _ rfl (e2.trans e3) rfl⟩
  · exact ⟨p, .str "+", rfl, .inl ⟨_, .inr "-", .inl hd, rfl, by decide +kernel⟩, k _ H' _ rfl (e2.trans e3) rfl⟩
  · exact ⟨p, .str "0", rfl, .inl ⟨_, .inr "0", .inl hd, rfl, by decide +kernel⟩, k _ H' _ rfl (e2.trans e3) rfl⟩
/-! ### the dice: three ints, none below 0 -/
def DiceI : HO → Prop := fun o => ∃ x y z : Int, o = .lst [.int x, .int y, .int z] ∧ 0 ≤ x ∧ 0 ≤ y ∧ 0 ≤ z
/-- an item of the dice -/
theorem ev_dice {p : Addr} {i : Nat} (hp : (p, DiceI) ∈ Γ) (hi : i < 3) (h : Ev K Γ ta ρ (Is (⟨p⟩ : Loc))) : Ev K Γ (tOp (rIxL K) ta (tC (.int (i : Int)))) ρ (fun n : Int => 0 ≤ n) := fun Δ σ H Q s hh e k =>
  h Δ σ H _ s hh e fun v H' a pa e1 r => by
    have ea : a = ⟨p⟩ := pa
    subst ea
    have ev : v = .ref p := r
    subst ev
    obtain ⟨o, ho, x, y, z, rfl, h1, h2, h3⟩ := e1.2 p DiceI (s _ hp)
    match i, hi with
    | 0, _ => exact ⟨p, _, 0, .int x, rfl, rfl, .inl (.inl ho), atI_nat (j := 0) rfl, k _ H' x h1 e1 rfl⟩
    | 1, _ => exact ⟨p, _, 1, .int y, rfl, rfl, .inl (.inl ho), atI_nat (j := 1) rfl, k _ H' y h2 e1 rfl⟩
    | 2, _ => exact ⟨p, _, 2, .int z, rfl, rfl, .inl (.inl ho), atI_nat (j := 2) rfl, k _ H' z h3 e1 rfl⟩
end
section
variable {K : PySem.W.Frag} {Δ0 : Gh} {H0 : Hp} {Γ : Own} {F : List (V × Cell)} {ρ : Env} {ta tb te : TE} {tz : TS} {D : Ends} {α : Type} [Rp α]
/-- dice[i] = n -/
theorem wp_dice {p : Addr} {i : Nat} (hp : (p, DiceI) ∈ Γ) (hi : i < 3) (h : Ev K Γ te ρ (fun n : Int => 0 ≤ n)) (ho : Ev K Γ ta ρ (Is (⟨p⟩ : Loc))) (k : Wp K Δ0 H0 Γ F ρ tz D) : Wp K Δ0 H0 Γ F ρ (tSeq (tAsg te (gSub ta (tC (.int (i : Int))) rSetL)) tz) D := fun σ H ⟨Δ, s, hh, e, f, e0, s1, s2⟩ =>
  h Δ σ H _ s hh e fun v H1 n hn e1 r1 => ho Δ σ H1 _ s e1.2 (e.mono e1.1) fun w H2 a pa e2 r2 => by
    have ea : a = ⟨p⟩ := pa
    subst ea
    have ew : w = .ref p := r2
    subst ew
    have ev : v = .int n := r1
    subst ev
    have hΔ : Δ p = some DiceI := s _ hp
    obtain ⟨o, ho, x, y, z, rfl, h1, h2, h3⟩ := e2.2 p DiceI hΔ
    have fin : ∀ x' y' z' : Int, 0 ≤ x' → 0 ≤ y' → 0 ≤ z' → tz D σ (upd H2 p (.lst [.int x', .int y', .int z'])) := fun x' y' z' g1 g2 g3 => by
      have e3 : Ext Δ H2 (upd H2 p (.lst [.int x', .int y', .int z'])) := ⟨fun a o n q => by
          have hne : a ≠ p := fun z => by
            rw [z, hΔ] at n
            cases n
          rw [upd_ne hne]
          exact q, fun a I q => by
          by_cases ha : a = p
          · rw [ha, hΔ] at q
            cases q
            exact ⟨_, by rw [ha]; exact upd_same, x', y', z', rfl, g1, g2, g3⟩
          · obtain ⟨u, hu, iu⟩ := e2.2 a I q
            exact ⟨u, by rw [upd_ne ha]; exact hu, iu⟩⟩
      have e4 := e1.trans (e2.trans e3)
      exact k σ _ ⟨Δ, s, e4.2, e.mono e4.1, fun q hq => q.2.r.mono e4.1 (f q hq), ext0 e0 s1 s2 e4, s1, s2⟩
    match i, hi with
    | 0, _ => exact ⟨p, _, 0, 0, rfl, rfl, ho, rfl, fin n y z hn h2 h3⟩
    | 1, _ => exact ⟨p, _, 1, 1, rfl, rfl, ho, rfl, fin x n z h1 hn h3⟩
    | 2, _ => exact ⟨p, _, 2, 2, rfl, rfl, ho, rfl, fin x y n h1 h2 hn⟩
end
end Z
namespace Z
open PySem PySem.Spec PyProof.Rows L2
theorem ltr {a b : Nat} (h : Nat.blt a b = true) : a < b := Nat.le_of_ble_eq_true h
theorem tx1 {a b : Nat} : ((⟨[a]⟩ : Tx) = ⟨[b]⟩) ↔ a = b := by simp
section
variable {K : PySem.W.Frag} {Γ : Own} {ρ : Env}
theorem ev_strc {x : Str} (l : List Nat) (h : x.cps.toList = l := by decide +kernel) : Ev K Γ (tC (.str x)) ρ (Is (⟨l⟩ : Tx)) := by
  subst h
  exact ev_str
end
end Z
namespace Z
open PySem PySem.Spec PyProof.Rows L2
section
variable {K : PySem.W.Frag} {Δ0 : Gh} {H0 : Hp} {Γ : Own} {F : List (V × Cell)} {ρ : Z.Env} {ta tb te : TE} {D : Ends}
/-- the end of a def that hands back nothing -/
theorem wp_none {P : Unit → Prop} (hp : P ()) (hn : ∀ b : Unit, P b → (∀ H', Rp.rp K Δ0 H' .non b) → ∀ σ H', Ext Δ0 H0 H' → D.nx σ H') : Wp K Δ0 H0 Γ F ρ tNext D := fun σ H ⟨Δ, s, hh, e, f, e0, s1, s2⟩ => hn () hp (fun _ => rfl) σ H e0
theorem ev_stripEq {x : Tx} {z : Str} (hz0 : z = "+-0" := by rfl) {y : Str} (hy : y.cps.toList = [] := by decide +kernel) (h : Ev K Γ ta ρ (Is x)) (hz : x.s.length ≤ 100000) :
    Ev K Γ (tOp rEq (tM1 (fun x xs H Q => ∃ a b, x = .str a ∧ xs = [.str b] ∧ a.length ≤ sizeLine ∧ Q (.str (PySem.Txt.stripChars a b)) H) ta (tC (.str z))) (tC (.str y))) ρ (Is (x.s.all isSign)) :=
  ev_op (ev_strip hz0 h hz) (ev_strc [] hy) fun a b pa pb => by
    rw [show b = _ from pb]
    have e : decide (a = (⟨[]⟩ : Tx)) = x.s.all isSign := by
      have q : (a = (⟨[]⟩ : Tx)) ↔ x.s.all isSign = true := by
        rw [← pa]
        constructor
        · intro q; rw [q]
        · intro q; cases a; exact congrArg Tx.mk q
      by_cases hq : x.s.all isSign = true
      · rw [hq, decide_eq_true (q.mpr hq)]
      · rw [decide_eq_false (fun z => hq (q.mp z))]
        simpa using hq
    rw [← e]
    exact o2_eqS
/-- a def's answer by its default arguments -/
theorem dv_non : ∀ Δ H, ArgsOk K Δ H [V.non] [⟨()⟩] := fun _ _ => ⟨rfl, trivial⟩
end
end Z

set_option Elab.async false
set_option linter.all false
set_option maxRecDepth 100000
set_option maxHeartbeats 1000000
/-! the same rules with the written part as a letter, for blocks -/
namespace Z
open PySem PySem.Spec PyProof.Rows L2
section
variable {X : Cx} {K : PySem.W.Frag}
theorem op_inK (h : X.K = K := by rfl) : OpR X (compareOp .In) (rIn K false) := by subst h; exact op_in_seq
theorem op_notInK (h : X.K = K := by rfl) : OpR X (compareOp .NotIn) (rIn K true) := by subst h; exact op_notIn_seq
theorem ix_listK (h : X.K = K := by rfl) : IxR X (rIxL K) := by subst h; exact ix_list
theorem ix_tupK (h : X.K = K := by rfl) : IxR X (rIxT K) := by subst h; exact ix_tup
theorem call_lenK (h : X.K = K := by rfl) : CallR X (.builtin "len") (fun xs H Q => ∃ x n, xs = [x] ∧ LenV K x H n ∧ Q (.int n) H) := by subst h; exact call_len
theorem call_isK (h : X.K = K := by rfl) : CallR X (.builtin "isinstance") (rIsi K) := by subst h; exact call_isi
theorem call_tupK (h : X.K = K := by rfl) : CallR X (.type "tuple") (fun xs H Q => ∃ p ys, xs = [.ref p] ∧ ((SqL K H p ys ∧ ∀ l, H l = none → Q (.ref l) (upd H l (.tup ys))) ∨ (SqT K H p ys ∧ Q (.ref p) H))) := by subst h; exact call_tuple_of
theorem call_lstK (h : X.K = K := by rfl) : CallR X (.type "list") (fun xs H Q => ∃ p ys, xs = [.ref p] ∧ (SqL K H p ys ∨ SqT K H p ys) ∧ ∀ l, H l = none → Q (.ref l) (upd H l (.lst ys))) := by subst h; exact call_list_of
theorem cr_allK (hc : X.calm = true) (h : X.K = K := by rfl) : CallR X (.builtin "all") (rAll K) := by subst h; exact cr_all hc
theorem op_eqK (hu : X.A.units + 64 < cLine) (h : X.K = K := by rfl) : OpR X (compareOp .Eq) (rEqD K) := by subst h; exact op_eqD hu
theorem op_neK (hu : X.A.units + 64 < cLine) (h : X.K = K := by rfl) : OpR X (compareOp .NotEq) (rNeD K) := by subst h; exact op_neD hu
variable {o e : Expr} {to te : TE} {tg : Expr}
theorem pe_joinK {apos pos : Pos} (ho : PE X o to) (he : PE X e te) (h : X.K = K := by rfl) (hs : starEach [e] X.env = [(false, eval e X.env)] := by rfl) (hbase : attributeBase o "join" X.env (eval o X.env) = eval o X.env := by rfl) (hline : (apos.endLine == pos.line) = true := by rfl) :
    PE X (.Call (.Attribute o "join" apos) [e] [] pos) (tM1 (rJoin K) to te) := by subst h; exact pe_join ho he hs hbase hline
theorem pi_listK {l : Expr} {tl : TE} (hl : PE X l tl) (h : X.K = K := by rfl) : PI X tg l (iList K tl) := by subst h; exact pi_list hl
theorem pi_tupK {l : Expr} {tl : TE} (hl : PE X l tl) (h : X.K = K := by rfl) : PI X tg l (iTup K tl) := by subst h; exact pi_tup hl
end
end Z

set_option Elab.async false
set_option linter.all false
set_option maxRecDepth 100000
set_option maxHeartbeats 1000000
/-! lists of a def's own that it changes -/
namespace Z
open PySem PySem.Spec PyProof.Rows L2
section
variable {K : PySem.W.Frag} {Δ0 : Gh} {H0 : Hp} {Γ : Own} {F : List (V × Cell)} {ρ : Z.Env} {ta tb te : TE} {tz : TS} {D : Ends}
structure OwnP (Δ0 : Gh) (Γ : Own) (p : Addr) : Prop where
  n0 : Δ0 p = none
  ne : ∀ q ∈ Γ, q.1 ≠ p
theorem ghD_self {Δ : Gh} {D : Addr} {vs : List V} : ghD Δ D vs D = some (LstIs vs) := by
  show (if D = D then _ else _) = _
  rw [if_pos rfl]
  rfl
theorem ghD_other {Δ : Gh} {D x : Addr} {vs : List V} (h : x ≠ D) : ghD Δ D vs x = Δ x := by
  show (if x = D then _ else _) = _
  rw [if_neg h]
theorem own_new {Δ : Gh} {σ : L2.St} {H : Hp} {p : Addr} {vs : List V} (s : Sat Γ Δ) (hh : Hold Δ H) (e : EnvOk K Δ σ H ρ) (f : ∀ f ∈ F, f.2.rp K Δ H f.1) (e0 : Ext Δ0 H0 H) (s1 : ∀ x I, Δ0 x = some I → Δ x = some I) (s2 : ∀ x, Δ0 x = none → Δ x ≠ none → H0 x = none) (hp : H p = none) :
    OwnP Δ0 Γ p ∧ Stt K Δ0 H0 ((p, LstIs vs) :: Γ) F ρ σ (upd H p (.lst vs)) := by
  have nD : Δ p = none := hh.fresh hp
  have n0 : Δ0 p = none := none0 s1 nD
  have ne : ∀ q ∈ Γ, q.1 ≠ p := fun q hq z => by
    have h := s q hq
    rw [z, nD] at h
    cases h
  have kp : Keep (ghD Δ p vs) H (upd H p (.lst vs)) := fun a o _ q => by rw [upd_ne (ne_of_none q hp)]; exact q
  refine ⟨⟨n0, ne⟩, ghD Δ p vs, fun q hq => ?_, (gh_first hh hp).1, (e.weak (ghD_new hp)).mono kp, fun q hq => q.2.r.mono kp (q.2.r.weak (ghD_new hp) (f q hq)), ext0 e0 s1 s2 (Ext.new hh hp _), fun x I q => ?_, fun x n m => ?_⟩
  · rcases List.mem_cons.mp hq with z | z
    · rw [z]; exact ghD_self
    · rw [ghD_other (ne q z)]; exact s q z
  · have hne : x ≠ p := fun z => by
      rw [z, n0] at q
      cases q
    rw [ghD_other hne]
    exact s1 x I q
  · by_cases hx : x = p
    · subst hx
      cases q : H0 x with
      | none => rfl
      | some o =>
        have := e0.1 x o n0 q
        rw [hp] at this
        cases this
    · rw [ghD_other hx] at m
      exact s2 x n m
theorem own_put {σ : L2.St} {H : Hp} {p : Addr} {vs ws : List V} (o : OwnP Δ0 Γ p) (st : Stt K Δ0 H0 ((p, LstIs vs) :: Γ) F ρ σ H) : H p = some (.lst vs) ∧ Stt K Δ0 H0 ((p, LstIs ws) :: Γ) F ρ σ (upd H p (.lst ws)) := by
  obtain ⟨Δ, s, hh, e, f, e0, s1, s2⟩ := st
  have hΔ : Δ p = some (LstIs vs) := s (p, LstIs vs) List.mem_cons_self
  obtain ⟨u, hu, iu⟩ := hh p _ hΔ
  have iu' : u = HO.lst vs := iu
  subst iu'
  have kp : Keep Δ H (upd H p (.lst ws)) := fun a o n q => by
    have hne : a ≠ p := fun z => by
      rw [z, hΔ] at n
      cases n
    rw [upd_ne hne]
    exact q
  have wk : ∀ {H : Hp} x o, H x = some o → Δ x = none → ghD Δ p ws x = none := fun x o _ n => by
    have hne : x ≠ p := fun z => by
      rw [z, hΔ] at n
      cases n
    rw [ghD_other hne]
    exact n
  refine ⟨hu, ghD Δ p ws, fun q hq => ?_, fun a I q => ?_, (e.mono kp).weak wk, fun q hq => q.2.r.weak wk (q.2.r.mono kp (f q hq)), ⟨fun a o' n q => ?_, fun a I q => ?_⟩, fun x I q => ?_, fun x n m => ?_⟩
  · rcases List.mem_cons.mp hq with z | z
    · rw [z]; exact ghD_self
    · rw [ghD_other (o.ne q z)]; exact s q (List.mem_cons_of_mem _ z)
  · by_cases ha : a = p
    · subst ha
      rw [ghD_self] at q
      cases q
      exact ⟨_, upd_same, rfl⟩
    · rw [ghD_other ha] at q
      obtain ⟨u, hu, iu⟩ := hh a I q
      exact ⟨u, by rw [upd_ne ha]; exact hu, iu⟩
  · have h1 := e0.1 a o' n q
    have hne : a ≠ p := fun z => by
      subst z
      have := s2 a n (by rw [hΔ]; exact fun z => by cases z)
      rw [q] at this
      cases this
    rw [upd_ne hne]
    exact h1
  · have hne : a ≠ p := fun z => by
      rw [z, o.n0] at q
      cases q
    obtain ⟨u, hu, iu⟩ := e0.2 a I q
    exact ⟨u, by rw [upd_ne hne]; exact hu, iu⟩
  · have hne : x ≠ p := fun z => by
      rw [z, o.n0] at q
      cases q
    rw [ghD_other hne]
    exact s1 x I q
  · by_cases hx : x = p
    · subst hx
      exact s2 x n (by rw [hΔ]; exact fun z => by cases z)
    · rw [ghD_other hx] at m
      exact s2 x n m
theorem rep_flat {α : Type} {x : α} : ∀ m : Nat, (List.replicate m [x]).flatten = List.replicate m x
  | 0 => rfl
  | m + 1 => by
    rw [List.replicate_succ, List.flatten_cons, List.replicate_succ, rep_flat m]
    rfl
/-- name = [one text] * n -/
theorem wp_rep {i : Nat} {z : Str} {m : Nat} (hb : Ev K Γ tb ρ (Is (m : Int))) (hm : m ≤ 10000) (hi : i < ρ.length) (k : ∀ p, OwnP Δ0 Γ p → Wp K Δ0 H0 ((p, LstIs (List.replicate m (V.str z))) :: Γ) F (ρ.set i (some ⟨(⟨p⟩ : Loc)⟩)) tz D) :
    Wp K Δ0 H0 Γ F ρ (tSeq (tAsg (tOp rRep (tLst (tCons (tC (.str z)) tNil)) tb) (gName i)) tz) D := fun σ H ⟨Δ, s, hh, e, f, e0, s1, s2⟩ => by
  refine ⟨by show 1 ≤ sizeLine; decide, fun q hq => ?_⟩
  have e1 : Ext Δ H (upd H q (.lst [.str z])) := Ext.new hh hq _
  refine hb Δ σ _ _ s e1.2 (e.mono e1.1) fun v H2 a pa e2 r => ?_
  have ea : a = (m : Int) := pa
  subst ea
  have ev : v = .int m := r
  subst ev
  have hq2 : H2 q = some (.lst [.str z]) := e2.1 q _ (hh.fresh hq) upd_same
  refine ⟨q, m, _, rfl, rfl, hq2, by omega, by omega, ?_, fun p hp => ?_⟩
  · have h1 : ([V.str z] : List V).length * ((m : Int)).toNat = m := by rw [Int.toNat_natCast]; show 1 * m = m; omega
    rw [h1]
    exact Nat.le_trans hm (by decide)
  · have hf : (List.replicate ((m : Int)).toNat [V.str z]).flatten = List.replicate m (V.str z) := by rw [Int.toNat_natCast, rep_flat]
    rw [hf]
    have e3 := e1.trans e2
    obtain ⟨o, st⟩ := own_new (vs := List.replicate m (V.str z)) s e3.2 (e.mono e3.1) (fun q hq => q.2.r.mono e3.1 (f q hq)) (ext0 e0 s1 s2 e3) s1 s2 hp
    obtain ⟨Δ', s', hh', e', f', e0', s1', s2'⟩ := st
    exact k p o _ _ ⟨Δ', s', hh', e'.set (c := ⟨(⟨p⟩ : Loc)⟩) hi rfl, f', e0', s1', s2'⟩
/-- name[j] = e, the list one's own -/
theorem wp_put {p : Addr} {vs : List V} {j : Nat} {x : Tx} (o : OwnP Δ0 Γ p) (h : Ev K ((p, LstIs vs) :: Γ) te ρ (Is x)) (ha : Ev K ((p, LstIs vs) :: Γ) ta ρ (Is (⟨p⟩ : Loc))) (hb : Ev K ((p, LstIs vs) :: Γ) tb ρ (Is (j : Int))) (hj : j < vs.length)
    (k : Wp K Δ0 H0 ((p, LstIs (vs.set j (.str ⟨x.s.toArray⟩))) :: Γ) F ρ tNext D) : Wp K Δ0 H0 ((p, LstIs vs) :: Γ) F ρ (tAsg te (gSub ta tb rSetL)) D := fun σ H ⟨Δ, s, hh, e, f, e0, s1, s2⟩ =>
  h Δ σ H _ s hh e fun v H1 a pa e1 r1 => ha Δ σ H1 _ s e1.2 (e.mono e1.1) fun w H2 b pb e2 r2 => hb Δ σ H2 _ s e2.2 (e.mono (e1.trans e2).1) fun u H3 c pc e3 r3 => by
    have ea : a = x := pa
    have eb : b = ⟨p⟩ := pb
    have ec : c = (j : Int) := pc
    subst ea eb ec
    have ev : v = .str ⟨a.s.toArray⟩ := r1
    have ew : w = .ref p := r2
    have eu : u = .int j := r3
    subst ev ew eu
    have e4 := e1.trans (e2.trans e3)
    have st : Stt K Δ0 H0 ((p, LstIs vs) :: Γ) F ρ σ H3 := ⟨Δ, s, e4.2, e.mono e4.1, fun q hq => q.2.r.mono e4.1 (f q hq), ext0 e0 s1 s2 e4, s1, s2⟩
    obtain ⟨hp, st'⟩ := own_put (ws := vs.set j (.str ⟨a.s.toArray⟩)) o st
    exact ⟨p, vs, j, j, rfl, rfl, hp, Evl.ixN_nat hj, k σ _ st'⟩
/-- "".join of one's own list -/
theorem ev_joinO {p : Addr} {xs : List Tx} {z : Str} (ha : Ev K ((p, LstIs ((xs.map fun x => (⟨x.s.toArray⟩ : Str)).map V.str)) :: Γ) ta ρ (Is (⟨p⟩ : Loc))) (hz : ((xs.map (·.s)).flatten).length ≤ 100000) (hz0 : z = "" := by rfl) :
    Ev K ((p, LstIs ((xs.map fun x => (⟨x.s.toArray⟩ : Str)).map V.str)) :: Γ) (tM1 (rJoin K) (tC (.str z)) ta) ρ (Is (⟨(xs.map (·.s)).flatten⟩ : Tx)) := by
  subst hz0
  exact fun Δ σ H Q s hh e k => ⟨⟨_, rfl⟩, ha Δ σ H _ s hh e fun v H' a pa e1 r => by
    have ea : a = ⟨p⟩ := pa
    subst ea
    have ev : v = .ref p := r
    subst ev
    obtain ⟨u, hu, iu⟩ := e1.2 p _ (s _ List.mem_cons_self)
    have iu' : u = HO.lst _ := iu
    subst iu'
    refine ⟨Str.empty, p, _, rfl, rfl, .inl (.inl (.inl hu)), ?_, k _ H' _ rfl e1 (by show V.str _ = V.str _; rw [join_tx])⟩
    rw [sum_len]
    have e0 : Str.empty.length = 0 := rfl
    rw [e0]
    omega⟩
end
end Z

set_option Elab.async false
set_option linter.all false
set_option maxRecDepth 100000
set_option maxHeartbeats 1000000
/-! == of data, further statements -/
namespace Z
open PySem PySem.Spec PyProof.Rows L2
section
variable {α β : Type} [Rp α] [Rp β]
instance : Rp (α ⊕ β) where
  rp K Δ H v x := match x with
    | .inl a => Rp.rp K Δ H v a
    | .inr b => Rp.rp K Δ H v b
  mono {K Δ H H' v x} k h := match x, h with
    | .inl a, h => Rp.mono (a := a) k h
    | .inr b, h => Rp.mono (a := b) k h
  weak {K Δ Δ' H v x} w h := match x, h with
    | .inl a, h => Rp.weak (a := a) w h
    | .inr b, h => Rp.weak (a := b) w h
/-- a datum as the library tells it -/
class Dt (α : Type) [Rp α] where
  d : α → PyData
  ok : ∀ {K : PySem.W.Frag} {Δ : Gh} {H : Hp} {v : V} {a : α}, Rp.rp K Δ H v a → Dp K H v (d a)
instance : Dt Int := ⟨fun i => .int i, fun {K Δ H v a} h => by rw [show v = .int a from h]; exact .int a⟩
instance : Dt Bool := ⟨fun i => .bool i, fun {K Δ H v a} h => by rw [show v = .bl a from h]; exact .bl a⟩
instance : Dt Tx := ⟨fun x => .str ⟨x.s.toArray⟩, fun {K Δ H v a} h => by rw [show v = .str ⟨a.s.toArray⟩ from h]; exact .str _⟩
instance : Dt Unit := ⟨fun _ => .none, fun {K Δ H v a} h => by rw [show v = .non from h]; exact .non⟩
theorem dall {K : PySem.W.Frag} {Δ : Gh} {H : Hp} [Dt α] : ∀ {vs : List V} {xs : List α}, All2 (fun u a => Rp.rp K Δ H u a) vs xs → DpAll K H vs (xs.map Dt.d)
  | [], [], _ => .nil
  | [], _ :: _, q => q.elim
  | _ :: _, [], q => q.elim
  | v :: vs, x :: xs, q => .cons (Dt.ok q.1) (dall q.2)
instance [Dt α] : Dt (List α) := ⟨fun xs => .list (xs.map Dt.d), fun {K Δ H v a} h => by
  obtain ⟨p, vs, rfl, n, s, q⟩ := h
  exact .lst s (dall q)⟩
instance [Dt α] : Dt (Tup α) := ⟨fun xs => .tuple (xs.l.map Dt.d), fun {K Δ H v a} h => by
  obtain ⟨p, vs, rfl, n, s, q⟩ := h
  exact .tup s (dall q)⟩
instance [Dt α] [Dt β] : Dt (α × β) := ⟨fun x => .tuple [Dt.d x.1, Dt.d x.2], fun {K Δ H v a} h => by
  obtain ⟨p, a, b, rfl, n, s, q, r⟩ := h
  exact .tup s (.cons (Dt.ok q) (.cons (Dt.ok r) .nil))⟩
instance [Dt α] [Dt β] : Dt (α ⊕ β) := ⟨fun x => match x with
  | .inl a => Dt.d a
  | .inr b => Dt.d b, fun {K Δ H v x} h => match x, h with
  | .inl a, h => Dt.ok (a := a) h
  | .inr b, h => Dt.ok (a := b) h⟩
variable {K : PySem.W.Frag} {Γ : Own} {ρ : Z.Env} {ta tb te : TE}
theorem o2_eqD [Dt α] [Dt β] {x : α} {y : β} (hx : SeqAt.shaped (Dt.d x) = true) (hy : SeqAt.shaped (Dt.d y) = true) : Op2 K (rEqD K) x y (Is (PyData.eqv (Dt.d x) (Dt.d y))) := fun Δ H v w Q hh r1 r2 k =>
  ⟨_, _, Dt.ok r1, Dt.ok r2, hx, hy, k _ H _ rfl (Ext.refl hh) rfl⟩
theorem o2_neD [Dt α] [Dt β] {x : α} {y : β} (hx : SeqAt.shaped (Dt.d x) = true) (hy : SeqAt.shaped (Dt.d y) = true) : Op2 K (rNeD K) x y (Is (!PyData.eqv (Dt.d x) (Dt.d y))) := fun Δ H v w Q hh r1 r2 k =>
  ⟨_, _, Dt.ok r1, Dt.ok r2, hx, hy, k _ H _ rfl (Ext.refl hh) rfl⟩
theorem eqv_ints : ∀ xs ys : List Int, PyData.eqvAll (xs.map Dt.d) (ys.map Dt.d) = decide (xs = ys)
  | [], [] => by simp [PyData.eqvAll]
  | [], _ :: _ => by simp [PyData.eqvAll]
  | _ :: _, [] => by simp [PyData.eqvAll]
  | x :: xs, y :: ys => by
    have ih := eqv_ints xs ys
    rw [List.map_cons, List.map_cons, PyData.eqvAll, ih]
    show ((x == y) && _) = _
    by_cases h : x = y <;> simp [h]
theorem eqv_bls : ∀ xs ys : List Bool, PyData.eqvAll (xs.map Dt.d) (ys.map Dt.d) = decide (xs = ys)
  | [], [] => by simp [PyData.eqvAll]
  | [], _ :: _ => by simp [PyData.eqvAll]
  | _ :: _, [] => by simp [PyData.eqvAll]
  | x :: xs, y :: ys => by
    have ih := eqv_bls xs ys
    rw [List.map_cons, List.map_cons, PyData.eqvAll, ih]
    show ((x == y) && _) = _
    by_cases h : x = y <;> simp [h]
theorem lay_ints : ∀ xs : List Int, PyData.canLayAll0 (xs.map Dt.d) = true ∧ PyData.depthAll (xs.map Dt.d) = 0
  | [] => by simp [PyData.canLayAll0, PyData.depthAll]
  | x :: xs => by
    have ih := lay_ints xs
    rw [List.map_cons, PyData.canLayAll0, PyData.depthAll, ih.1, ih.2]
    exact ⟨rfl, rfl⟩
theorem lay_bls : ∀ xs : List Bool, PyData.canLayAll0 (xs.map Dt.d) = true ∧ PyData.depthAll (xs.map Dt.d) = 0
  | [] => by simp [PyData.canLayAll0, PyData.depthAll]
  | x :: xs => by
    have ih := lay_bls xs
    rw [List.map_cons, PyData.canLayAll0, PyData.depthAll, ih.1, ih.2]
    exact ⟨rfl, rfl⟩
theorem shaped_tI {xs : Tup Int} : SeqAt.shaped (Dt.d xs) = true := by
  unfold SeqAt.shaped
  show (PyData.canLay0 (.tuple _) && decide (PyData.depth (.tuple _) ≤ 64)) = true
  rw [PyData.canLay0, PyData.depth, (lay_ints xs.l).1, (lay_ints xs.l).2]
  rfl
theorem shaped_lI {xs : List Int} : SeqAt.shaped (Dt.d xs) = true := by
  unfold SeqAt.shaped
  show (PyData.canLay0 (.list _) && decide (PyData.depth (.list _) ≤ 64)) = true
  rw [PyData.canLay0, PyData.depth, (lay_ints xs).1, (lay_ints xs).2]
  rfl
theorem shaped_lB {xs : List Bool} : SeqAt.shaped (Dt.d xs) = true := by
  unfold SeqAt.shaped
  show (PyData.canLay0 (.list _) && decide (PyData.depth (.list _) ≤ 64)) = true
  rw [PyData.canLay0, PyData.depth, (lay_bls xs).1, (lay_bls xs).2]
  rfl
theorem o2_eqT {x y : Tup Int} : Op2 K (rEqD K) x y (Is (decide (x.l = y.l))) := by
  rw [← eqv_ints x.l y.l]
  exact o2_eqD shaped_tI shaped_tI
theorem o2_neT {x y : Tup Int} : Op2 K (rNeD K) x y (Is (!decide (x.l = y.l))) := by
  rw [← eqv_ints x.l y.l]
  exact o2_neD shaped_tI shaped_tI
theorem o2_eqLI {x y : List Int} : Op2 K (rEqD K) x y (Is (decide (x = y))) := by
  rw [← eqv_ints x y]
  exact o2_eqD shaped_lI shaped_lI
theorem o2_eqLB {x y : List Bool} : Op2 K (rEqD K) x y (Is (decide (x = y))) := by
  rw [← eqv_bls x y]
  exact o2_eqD shaped_lB shaped_lB
theorem ev_inl {x : α} (h : Ev K Γ te ρ (Is x)) : Ev K Γ te ρ (Is (.inl x : α ⊕ β)) := fun Δ σ H Q s hh e k => h Δ σ H Q s hh e fun v H' a pa e1 r => k v H' (.inl a) (by rw [show a = x from pa]; rfl) e1 r
theorem ev_inr {x : β} (h : Ev K Γ te ρ (Is x)) : Ev K Γ te ρ (Is (.inr x : α ⊕ β)) := fun Δ σ H Q s hh e k => h Δ σ H Q s hh e fun v H' a pa e1 r => k v H' (.inr a) (by rw [show a = x from pa]; rfl) e1 r
/-- an operation on drawn data -/
theorem ev_opP {γ : Type} [Rp γ] {r : R2} {Pa : α → Prop} {Pb : β → Prop} {Pc : γ → Prop} (ha : Ev K Γ ta ρ Pa) (hb : Ev K Γ tb ρ Pb) (h : ∀ x y, Pa x → Pb y → ∃ z, Op2 K r x y (Is z) ∧ Pc z) : Ev K Γ (tOp r ta tb) ρ Pc :=
  ev_op ha hb fun x y px py => by
    obtain ⟨z, hz, pz⟩ := h x y px py
    exact fun Δ H v w Q hh r1 r2 k => hz Δ H v w Q hh r1 r2 fun u H' c pc e1 rr => k u H' c (by rw [show c = z from pc]; exact pz) e1 rr
theorem ev_cbP {γ : Type} [Rp γ] {r : List V → Hp → VK → Prop} {Pa : α → Prop} {Pc : γ → Prop} (ha : Ev K Γ ta ρ Pa) (h : ∀ x, Pa x → ∃ z, Op1 K r x (Is z) ∧ Pc z) : Ev K Γ (tCB r (tCons ta tNil)) ρ Pc :=
  ev_cb1 ha fun x px => by
    obtain ⟨z, hz, pz⟩ := h x px
    exact fun Δ H v Q hh r1 k => hz Δ H v Q hh r1 fun u H' c pc e1 rr => k u H' c (by rw [show c = z from pc]; exact pz) e1 rr
theorem et_eqP {Pa : Int → Prop} {n : Int} {tb : TE} (ha : Ev K Γ ta ρ Pa) (hb : Ev K Γ tb ρ (Is n)) : EvT K Γ (tTest (tOp rEq ta tb)) ρ (fun _ => True) := et_test (ev_opP ha hb fun x y _ _ => ⟨decide (x = y), o2_eqI, trivial⟩)
/-- max(0, x) -/
theorem ev_max2 {i j : Int} (ha : Ev K Γ ta ρ (Is i)) (hb : Ev K Γ tb ρ (Is j)) : Ev K Γ (tCB (fun xs H Q => ∃ i j, xs = [.int i, .int j] ∧ Q (.int (if j > i then j else i)) H) (tCons ta (tCons tb tNil))) ρ (Is (if j > i then j else i)) := fun Δ σ H Q s hh e k =>
  ha Δ σ H _ s hh e fun v H1 a pa e1 r1 => hb Δ σ H1 _ s e1.2 (e.mono e1.1) fun w H2 b pb e2 r2 => by
    have ea : a = i := pa
    have eb : b = j := pb
    subst ea eb
    have ev : v = .int a := r1
    have ew : w = .int b := r2
    subst ev ew
    exact ⟨a, b, rfl, k _ H2 _ rfl (e1.trans e2) rfl⟩
theorem ev_min2 {i j : Int} (ha : Ev K Γ ta ρ (Is i)) (hb : Ev K Γ tb ρ (Is j)) : Ev K Γ (tCB (fun xs H Q => ∃ i j, xs = [.int i, .int j] ∧ Q (.int (if j < i then j else i)) H) (tCons ta (tCons tb tNil))) ρ (Is (if j < i then j else i)) := fun Δ σ H Q s hh e k =>
  ha Δ σ H _ s hh e fun v H1 a pa e1 r1 => hb Δ σ H1 _ s e1.2 (e.mono e1.1) fun w H2 b pb e2 r2 => by
    have ea : a = i := pa
    have eb : b = j := pb
    subst ea eb
    have ev : v = .int a := r1
    have ew : w = .int b := r2
    subst ev ew
    exact ⟨a, b, rfl, k _ H2 _ rfl (e1.trans e2) rfl⟩
end
section
variable {K : PySem.W.Frag} {Δ0 : Gh} {H0 : Hp} {Γ : Own} {F : List (V × Cell)} {ρ : Z.Env} {ta tb te : TE} {tz : TS} {D : Ends} {α : Type} [Rp α]
/-- a, b, c = a list of three -/
theorem wp_unl3 {i j l : Nat} {P : List α → Prop} (h : Ev K Γ te ρ P) (hi : i < ρ.length) (hj : j < ρ.length) (hl : l < ρ.length) (k : ∀ xs, P xs → ∃ a b c, xs = [a, b, c] ∧ Wp K Δ0 H0 Γ F (((ρ.set i (some ⟨a⟩)).set j (some ⟨b⟩)).set l (some ⟨c⟩)) tz D) :
    Wp K Δ0 H0 Γ F ρ (tSeq (tAsg te (gUnl K 3 (gCons (gName i) (gCons (gName j) (gCons (gName l) gNil))))) tz) D := fun σ H ⟨Δ, s, hh, e, f, e0, s1, s2⟩ =>
  h Δ σ H _ s hh e fun v H' xs pxs e1 r => by
    obtain ⟨a, b, c, rfl, kk⟩ := k xs pxs
    obtain ⟨p, vs, rfl, n, sq, q⟩ := r
    match vs, q with
    | [va, vb, vc], q =>
      exact ⟨p, _, rfl, sq, rfl, va, [vb, vc], rfl, vb, [vc], rfl, vc, [], rfl, rfl, kk _ H' ⟨Δ, s, e1.2, (((e.mono e1.1).set (c := ⟨a⟩) hi q.1).set (c := ⟨b⟩) (by rw [List.length_set]; exact hj) q.2.1).set (c := ⟨c⟩) (by rw [List.length_set, List.length_set]; exact hl) q.2.2.1, fun q hq => q.2.r.mono e1.1 (f q hq), ext0 e0 s1 s2 e1, s1, s2⟩⟩
end
end Z

set_option Elab.async false
set_option linter.all false
set_option maxRecDepth 100000
set_option maxHeartbeats 1000000
namespace Z
open PySem PySem.Spec PyProof.Rows L2
section
variable {K : PySem.W.Frag} {Δ0 : Gh} {H0 : Hp} {Γ : Own} {F : List (V × Cell)} {ρ : Z.Env} {ta tb te : TE} {tz : TS} {D : Ends}
/-- i, j = a, b with the pair made -/
theorem wp_tup2 {i j : Nat} {ta : TA} {Q : List Cell → Prop} (h : EvA K Γ ta ρ Q) (hi : i < ρ.length) (hj : j < ρ.length) (k : ∀ cs, Q cs → ∃ c d : Cell, cs = [c, d] ∧ Wp K Δ0 H0 Γ F ((ρ.set i (some c)).set j (some d)) tz D) : Wp K Δ0 H0 Γ F ρ (tSeq (tAsg (tTup ta) (gTup K 2 (gCons (gName i) (gCons (gName j) gNil)))) tz) D := fun σ H ⟨Δ, s, hh, e, f, e0, s1, s2⟩ =>
  h Δ σ H _ s hh e fun vs H' cs pcs e1 r => by
    obtain ⟨c, d, rfl, kk⟩ := k cs pcs
    match vs, r with
    | [v, w], r =>
      refine ⟨by show 2 ≤ sizeLine; decide, fun p hp => ?_⟩
      have e2 := Ext.new e1.2 hp (.tup [v, w])
      have e3 := e1.trans e2
      exact ⟨p, [v, w], rfl, .inl (.inl upd_same), rfl, v, [w], rfl, w, [], rfl, rfl, kk _ _ ⟨Δ, s, e3.2, ((e.mono e3.1).set hi (c.r.mono e2.1 r.1)).set (by rw [List.length_set]; exact hj) (d.r.mono e2.1 r.2.1), fun q hq => q.2.r.mono e3.1 (f q hq), ext0 e0 s1 s2 e3, s1, s2⟩⟩
theorem ev_callW {β : Type} [Rp β] {Pb : β → Prop} {F : Own → List Cell → (β → Prop) → Prop} {E : XK} {ta : TA} {Pcs : List Cell → Prop} (ha : EvA K Γ ta ρ Pcs) (hf : ∀ cs, Pcs cs → ∃ R, F Γ cs R ∧ ∀ b, R b → Pb b) : Ev K Γ (tCall (spD K F) [] E ta) ρ Pb := fun Δ σ H Q s hh e k =>
  ha Δ σ H _ s hh e fun vs H' cs pcs e1 r => by
    obtain ⟨R, h1, h2⟩ := hf cs pcs
    exact ⟨Γ, Δ, cs, R, h1, s, e1.2, by rw [List.append_nil]; exact r, fun v H2 b pb e2 r2 => k v H2 b (h2 b pb) (e1.trans e2) r2⟩
end
end Z

set_option Elab.async false
set_option linter.all false
set_option maxRecDepth 100000
set_option maxHeartbeats 1000000
namespace Z
open PySem PySem.Spec PyProof.Rows L2
/-! ### a def that hands back a new object, which its caller then owns -/
/-- what such a def promises -/
def spF (K : PySem.W.Frag) (G : Own → List Cell → Prop) (I : HO → Prop) : Sp := fun vs H Q _ => ∃ (Γ : Own) (Δ : Gh) (cs : List Cell), G Γ cs ∧ Sat Γ Δ ∧ Hold Δ H ∧ ArgsOk K Δ H vs cs ∧
  ∀ (p : Addr) (H' : Hp) (o : HO), I o → H p = none → Δ p = none → Ext Δ H H' → H' p = some o → Q (.ref p) H'
def ghI (Δ : Gh) (D : Addr) (I : HO → Prop) : Gh := fun a => if a = D then some I else Δ a
section
variable {K : PySem.W.Frag} {Γ : Own} {ρ : Z.Env} {ta : TA} {β : Type} [Rp β]
theorem ghI_self {Δ : Gh} {D : Addr} {I : HO → Prop} : ghI Δ D I D = some I := by
  unfold ghI
  exact if_pos rfl
theorem ghI_other {Δ : Gh} {D x : Addr} {I : HO → Prop} (h : x ≠ D) : ghI Δ D I x = Δ x := by
  unfold ghI
  exact if_neg h
/-- f(g(..)) where g hands back a new object -/
theorem ev_callF {Pb : β → Prop} {G : Own → List Cell → Prop} {I : HO → Prop} {F : Own → List Cell → (β → Prop) → Prop} {E E' : XK} {cs : List Cell} (ha : EvA K Γ ta ρ (Is cs)) (hg : G Γ cs) (hf : ∀ p, F ((p, I) :: Γ) [⟨(⟨p⟩ : Loc)⟩] Pb) :
    Ev K Γ (tCall (spD K F) [] E (tCons (tCall (spF K G I) [] E' ta) tNil)) ρ Pb := fun Δ σ H Q s hh e k =>
  ha Δ σ H _ s hh e fun vs H1 cs' pcs e1 r => by
    have ec : cs' = cs := pcs
    subst ec
    refine ⟨Γ, Δ, cs', hg, s, e1.2, by rw [List.append_nil]; exact r, fun p H2 o io hp1 hΔ e2 ho => ?_⟩
    have hs : Sat ((p, I) :: Γ) (ghI Δ p I) := fun q hq => by
      rcases List.mem_cons.mp hq with rfl | hq
      · exact ghI_self
      · have h := s q hq
        have hne : q.1 ≠ p := fun z => by
          rw [z, hΔ] at h
          cases h
        rw [ghI_other hne]
        exact h
    have hH : Hold (ghI Δ p I) H2 := fun a J h => by
      by_cases ea : a = p
      · rw [ea, ghI_self] at h
        have ej : I = J := Option.some.inj h
        subst ej
        exact ⟨o, by rw [ea]; exact ho, io⟩
      · rw [ghI_other ea] at h
        exact e2.2 a J h
    refine ⟨(p, I) :: Γ, ghI Δ p I, [⟨(⟨p⟩ : Loc)⟩], Pb, hf p, hs, hH, ⟨rfl, trivial⟩, fun v H3 b pb e3 r3 => k v H3 b pb ⟨fun a u na hu => ?_, fun a J h => ?_⟩ (Rp.weak (fun x u _ hn => ?_) r3)⟩
    · have h1 := e1.1 a u na hu
      have hne : a ≠ p := fun z => by
        rw [z, hp1] at h1
        cases h1
      exact e3.1 a u (by rw [ghI_other hne]; exact na) (e2.1 a u na h1)
    · have hne : a ≠ p := fun z => by
        rw [z, hΔ] at h
        cases h
      exact e3.2 a J (by rw [ghI_other hne]; exact h)
    · by_cases ex : x = p
      · rw [ex]
        exact hΔ
      · rw [ghI_other ex] at hn
        exact hn
end
section
variable {P : Program} {w : World} {K : PySem.W.Frag} {mg : Str → Option Value} {base : Heap} {β : Type} [Rp β]
def FinF (Δ0 : Gh) (H0 : Hp) (I : HO → Prop) (D : Ends) : Prop := ∀ (p : Addr) (H' : Hp) (o : HO), I o → H0 p = none → Δ0 p = none → Ext Δ0 H0 H' → H' p = some o → D.rt (.ref p) H'
theorem def_okF {x qual : Str} {args : Arguments} {body : List Stmt} {scope : Scope} {dvs : List V} {kws : List (Str × V)} {f : Addr} {fd : FuncData} {N ps : List Str} {k : Nat} {G : Own → List Cell → Prop} {I : HO → Prop}
    (Fn : FunD K x qual args body scope dvs kws f fd) (S : FnScope N ps scope) (len : ∀ Γ cs, G Γ cs → cs.length = ps.length)
    (hb : ∀ (cdv : Value) (A : Around) (outer : List PySem.Env) (s : Shared) (H : Hp) (E : XK), Room k (A.deeper (envOfC qual scope s.heap.objs.size f cdv)) →
      ∀ (Γ : Own) (cs : List Cell), G Γ cs → ∃ t, PSs (cxOf CX0 P w K mg base N qual scope f cdv A outer s H E).nox body t ∧
        ∀ (Δ0 : Gh) (D : Ends), FinF Δ0 H I D → Wp K Δ0 H Γ [] (env0 N cs) t D) :
    FnOk P w K mg base CX0 (k + 1) f fd ps (spF K G I) := by
  refine Fn.ok S (fun vs H Q E h => ?_) (fun cdv A outer s H vs Q E hr h => ?_)
  · obtain ⟨Γ, Δ, cs, g, _, _, a, _⟩ := h
    rw [All2.len a]
    exact len Γ cs g
  · obtain ⟨Γ, Δ, cs, g, sa, hh, a, q⟩ := h
    obtain ⟨t, ht, hw⟩ := hb cdv A outer s H E hr Γ cs g
    refine ⟨t, ?_, hw Δ _ (fun p H' o io h1 h2 e ho => q p H' o io h1 h2 e ho) _ H ⟨Δ, sa, hh, start_ok a, fun z hz => (nomatch hz), Ext.refl hh, fun _ _ z => z, fun x n m => absurd n m⟩⟩
    first
      | exact ht
      | exact PSs.nox ht
end
section
variable {K : PySem.W.Frag} {Δ0 : Gh} {H0 : Hp} {Γ : Own} {F : List (V × Cell)} {ρ : Z.Env} {ta : TA} {D : Ends}
/-- return [a, b, c] of a new list of ints -/
theorem wp_ret3 (hf : FinF Δ0 H0 DiceI D) (h : EvA K Γ ta ρ (fun cs => ∃ a b c : Int, cs = [⟨a⟩, ⟨b⟩, ⟨c⟩] ∧ 0 ≤ a ∧ 0 ≤ b ∧ 0 ≤ c)) : Wp K Δ0 H0 Γ F ρ (tRet (tLst ta)) D := fun σ H ⟨Δ, s, hh, e, f, e0, s1, s2⟩ =>
  h Δ σ H _ s hh e fun vs H' cs pcs e1 r => by
    obtain ⟨a, b, c, rfl, ha, hb, hc⟩ := pcs
    match vs, r with
    | [v1, v2, v3], r =>
      have z1 : v1 = .int a := r.1
      have z2 : v2 = .int b := r.2.1
      have z3 : v3 = .int c := r.2.2.1
      subst z1 z2 z3
      refine ⟨by show 3 ≤ sizeLine; decide, fun p hp => ?_⟩
      have e2 := e1.trans (Ext.new e1.2 hp (.lst [.int a, .int b, .int c]))
      have e3 := ext0 e0 s1 s2 e1
      have hn := none0 s1 (e1.2.fresh hp)
      refine hf p _ _ ⟨a, b, c, rfl, ha, hb, hc⟩ ?_ hn (ext0 e0 s1 s2 e2) upd_same
      cases q : H0 p with
      | none => rfl
      | some o =>
        have := e3.1 p o hn q
        rw [hp] at this
        cases this
end
section
variable {K : PySem.W.Frag} {Γ : Own} {ρ : Z.Env} {α β : Type} [Rp α] [Rp β]
/-- the pairs of a tuple, each to two names -/
theorem src_tupP {tl : TE} {ja jb : Nat} {xs : Tup (α × β)} {x0 : Nat → α × β} (h : Ev K Γ tl ρ (Is xs)) (hx : ∀ i, i < xs.l.length → xs.l[i]? = some (x0 i)) (hja : ja < ρ.length) (hjb : jb < ρ.length) :
    Src K Γ (iTup K tl) (gTup K 2 (gCons (gName ja) (gCons (gName jb) gNil))) ρ [ja, jb] xs.l.length (fun i ρ => (ρ.set ja (some ⟨(x0 i).1⟩)).set jb (some ⟨(x0 i).2⟩)) := fun Δ σ H R s hh e k =>
  h Δ σ H _ s hh e fun v H' a pa e1 r => by
    have ea : a = xs := pa
    subst ea
    obtain ⟨p, vs, rfl, n, sq, q⟩ := id r
    refine ⟨p, rfl, ⟨vs, sq⟩, k _ H' (.ref p) ⟨a⟩ e1 r (fun Δ' H2 r2 => ?_) fun Δ' i H2 x H3 hi h2 r2 y => ?_⟩
    · obtain ⟨p', ws, e', n', sq', q'⟩ := (show Rp.rp K Δ' H2 (.ref p) a from r2)
      cases e'
      have hl := q'.len
      refine ⟨fun i hi => ⟨ws, ws[i], sq', List.getElem?_eq_getElem (by omega)⟩, ws, sq', by omega⟩
    · obtain ⟨p', ws, e', n', sq', q'⟩ := (show Rp.rp K Δ' H2 (.ref p) a from r2)
      cases e'
      obtain ⟨rfl, hy⟩ := (show H3 = H2 ∧ ∀ zs, SqT K H2 p zs → zs[i]? = some x from y)
      obtain ⟨w, hw, rw'⟩ := q'.get (hx i hi)
      have ew : x = w := Option.some.inj ((hy _ sq').symm.trans hw)
      subst ew
      obtain ⟨T, va, vb, rfl, nT, sT, ra, rb⟩ := rw'
      refine ⟨Ext.refl h2, fun σ' ρ' Qs hl e' qq => ⟨T, [va, vb], rfl, sT, rfl, va, [vb], rfl, vb, [], rfl, rfl, ?_⟩⟩
      refine qq _ ((e'.set (c := ⟨(x0 i).1⟩) (by rw [hl]; exact hja) ra).set (c := ⟨(x0 i).2⟩) (by rw [List.length_set, hl]; exact hjb) rb) (by rw [List.length_set, List.length_set]) fun k hk => ?_
      have h1 : ja ≠ k := fun z => hk (by simp [z])
      have h2 : jb ≠ k := fun z => hk (by simp [z])
      rw [List.getElem?_set_ne h2, List.getElem?_set_ne h1]
end
end Z

set_option Elab.async false
set_option linter.all false
set_option maxRecDepth 100000
set_option maxHeartbeats 4000000
/-! sorted of a list of texts, of any length -/
namespace Zs
open PySem PyProof.Rows Srt SrtO
section
variable {prog : Program} {w : World} {A : Around} {E : Value → Shared → Prop} {s : Shared}
def tv : Value → Str
  | .str x _ => x
  | _ => Str.empty
def ltT (v u : Value) : Bool := decide ((tv v).cps.toList < (tv u).cps.toList)
theorem lists_tr {a b c : List Nat} (h1 : ¬ b < a) (h2 : ¬ c < b) : ¬ c < a := fun h => by
  have x : a ≤ b := h1
  have y : b ≤ c := h2
  have z : a ≤ c := List.le_trans x y
  exact z h
theorem swo_txt : Swo ltT := by
  refine ⟨fun x y h => ?_, fun x y z h1 h2 => ?_⟩
  · have a := of_decide_eq_true (p := (tv x).cps.toList < (tv y).cps.toList) h
    exact decide_eq_false (p := (tv y).cps.toList < (tv x).cps.toList) fun b => List.lt_asymm a b
  · have a := of_decide_eq_false (p := (tv y).cps.toList < (tv x).cps.toList) h1
    have b := of_decide_eq_false (p := (tv z).cps.toList < (tv y).cps.toList) h2
    exact decide_eq_false (p := (tv z).cps.toList < (tv x).cps.toList) (lists_tr a b)
theorem txt_mem : ∀ {vs : List Value} {ns : List Str}, StrsAre vs ns → ∀ v ∈ vs, ∃ i t, v = Value.str i t
  | _, _, .nil, v, h => absurd h (by simp)
  | _, _, .cons n t r, v, h => by
    rcases List.mem_cons.mp h with e | h
    · exact ⟨n, t, e⟩
    · exact txt_mem r v h
theorem txt_tv : ∀ {vs : List Value}, (∀ v ∈ vs, ∃ i t, v = Value.str i t) → StrsAre vs (vs.map tv)
  | [], _ => .nil
  | v :: vs, h => by
    obtain ⟨i, t, e⟩ := h v List.mem_cons_self
    subst e
    exact .cons i t (txt_tv fun u hu => h u (List.mem_cons_of_mem _ hu))
theorem tv_txt : ∀ {vs : List Value} {ns : List Str}, StrsAre vs ns → vs.map tv = ns
  | _, _, .nil => rfl
  | _, _, .cons n t r => congrArg (n :: ·) (tv_txt r)
theorem txt_cmp {vs : List Value} {ns : List Str} (hI : StrsAre vs ns) : Cmp prog w A s oneType' (fun p => p.1 ∈ vs) (lt2 ltT) := by
  intro p q hm hm'
  obtain ⟨a, t, e⟩ := txt_mem hI _ hm
  obtain ⟨b, u, e'⟩ := txt_mem hI _ hm'
  show wpAny (model prog w) A (keyLt' oneType' p.1 q.1) (fun r s' => s' = s ∧ r = ltT p.1 q.1) (fun _ _ => False) s
  rw [e, e', keyLt'_oneType]
  exact oneLt_str ⟨rfl, rfl⟩
theorem txt_sortable {a : Addr} {vs : List Value} {ns : List Str} (hI : StrsAre vs ns) (h2 : 2 ≤ vs.length) : SortableO prog w A s a vs ltT := by
  intro h' _
  refine ⟨oneType', fun Q E hq => ?_, txt_cmp hI⟩
  match vs, hI, h2 with
  | v1 :: v2 :: rest, hI, _ =>
    rw [keyKind_strs hI]
    exact wpAny_pure hq
  | [], _, h => exact absurd h (by decide)
  | [v], _, h => exact absurd h (by simp)
/-- rising texts, by their codes -/
def Rise (l : List Str) : Prop := l.Pairwise fun x y => ¬ y.cps.toList < x.cps.toList
theorem txt_out {vs out : List Value} {ns : List Str} (hI : StrsAre vs ns) (hs : Srtd ltT out) (hb : Stb ltT out vs) : StrsAre out (out.map tv) ∧ (out.map tv).Perm ns ∧ Rise (out.map tv) := by
  refine ⟨txt_tv fun v hv => txt_mem hI v (hb.perm.mem_iff.mp hv), ?_, ?_⟩
  · have q := hb.perm.map tv
    rw [tv_txt hI] at q
    exact q
  · exact List.pairwise_map.mpr (hs.imp fun {x y} h => of_decide_eq_false (p := (tv y).cps.toList < (tv x).cps.toList) h)
end
end Zs
namespace L2
open PySem PySem.Spec PyProof.Rows
/-- sorted(xs), texts, any number of them -/
def rSortedTx (K : PySem.W.Frag) : List V → Hp → VK → Prop := fun vs H Q => ∃ (a : Addr) (ns : List Str), vs = [V.ref a] ∧ SqL K H a (ns.map V.str) ∧
  ∀ (ns' : List Str) (p : Addr), ns'.Perm ns → Zs.Rise ns' → H p = none → Q (.ref p) (upd H p (.lst (ns'.map V.str)))
section
variable {X : Cx}
theorem cr_sortedTx : CallR X (.builtin "sorted") (rSortedTx X.K) := by
  intro pins s σ H vs us Q I r h
  obtain ⟨a, ns, rfl, hs, q⟩ := h
  obtain ⟨its, rv, hl, hz⟩ := I.list hs
  rw [Vals.ref1 r]
  have hi := rv.strs
  refine SrtO.sorted_ord Zs.swo_txt hl.isList (by rw [← rv.length]; exact hz) (fun h2 h₁ a' _ _ => Zs.txt_sortable hi h2) fun out h1 h2 => ?_
  obtain ⟨k1, k2, k3⟩ := Zs.txt_out hi h1 h2
  obtain ⟨ep, he'⟩ := PyProof.Rows.sortedAll_at s.heap its out.toArray
  have hlen : ((out.map Zs.tv).map V.str).length ≤ sizeLine := by
    rw [List.length_map, k2.length_eq]
    rw [List.length_map] at hz
    exact hz
  exact ⟨.ref _, upd H (s.heap.objs.size + 1) (.lst ((out.map Zs.tv).map V.str)), I.laid (t' := s.toks) (fun _ _ => PyProof.Rows.sortedAll_old) (Nat.le_succ _) ⟨hlen, out, ep, vals_of_strs k1, he'⟩, rfl, q _ _ k2 k3 (I.hok.fresh (Nat.le_succ _))⟩
end
end L2

set_option Elab.async false
set_option linter.all false
set_option maxRecDepth 100000
set_option maxHeartbeats 1000000
namespace Z
open PySem PySem.Spec PyProof.Rows L2
/-! ### one's own objects of any kind, by their exact content -/
def ObIs (o : HO) : HO → Prop := fun u => u = o
section
variable {K : PySem.W.Frag} {Δ0 : Gh} {H0 : Hp} {Γ : Own} {F : List (V × Cell)} {ρ : Z.Env} {ta tb te : TE} {tz : TS} {D : Ends}
theorem ghI_sat {Δ : Gh} {p : Addr} {I : HO → Prop} (s : Sat Γ Δ) (n : Δ p = none) : Sat ((p, I) :: Γ) (ghI Δ p I) := fun q hq => by
  rcases List.mem_cons.mp hq with rfl | hq
  · exact ghI_self
  · have h := s q hq
    have hne : q.1 ≠ p := fun z => by
      rw [z, n] at h
      cases h
    rw [ghI_other hne]
    exact h
theorem ghI_hold {Δ : Gh} {H : Hp} {p : Addr} {I : HO → Prop} {o : HO} (hh : ∀ a J, a ≠ p → Δ a = some J → ∃ u, H a = some u ∧ J u) (io : I o) : Hold (ghI Δ p I) (upd H p o) := fun a J h => by
  by_cases ea : a = p
  · rw [ea, ghI_self] at h
    have ej : I = J := Option.some.inj h
    subst ej
    exact ⟨o, by rw [ea]; exact upd_same, io⟩
  · rw [ghI_other ea] at h
    obtain ⟨u, hu, iu⟩ := hh a J ea h
    exact ⟨u, by rw [upd_ne ea]; exact hu, iu⟩
theorem ghI_new {Δ : Gh} {D : Addr} {I : HO → Prop} {H : Hp} (hD : H D = none) : ∀ x o, H x = some o → Δ x = none → ghI Δ D I x = none := fun x o hx n => by
  have hne : x ≠ D := fun z => by
    rw [z, hD] at hx
    cases hx
  rw [ghI_other hne]
  exact n
theorem own_newO {Δ : Gh} {σ : L2.St} {H : Hp} {p : Addr} {o : HO} (s : Sat Γ Δ) (hh : Hold Δ H) (e : EnvOk K Δ σ H ρ) (f : ∀ f ∈ F, f.2.rp K Δ H f.1) (e0 : Ext Δ0 H0 H) (s1 : ∀ x I, Δ0 x = some I → Δ x = some I) (s2 : ∀ x, Δ0 x = none → Δ x ≠ none → H0 x = none) (hp : H p = none) :
    OwnP Δ0 Γ p ∧ Stt K Δ0 H0 ((p, ObIs o) :: Γ) F ρ σ (upd H p o) := by
  have nD : Δ p = none := hh.fresh hp
  have n0 : Δ0 p = none := none0 s1 nD
  have kp : Keep (ghI Δ p (ObIs o)) H (upd H p o) := fun a u _ q => by rw [upd_ne (ne_of_none q hp)]; exact q
  refine ⟨⟨n0, fun q hq z => ?_⟩, ghI Δ p (ObIs o), ghI_sat s nD, ghI_hold (fun a J _ h => hh a J h) rfl, (e.weak (ghI_new hp)).mono kp, fun q hq => q.2.r.mono kp (q.2.r.weak (ghI_new hp) (f q hq)), ext0 e0 s1 s2 (Ext.new hh hp _), fun x I q => ?_, fun x n m => ?_⟩
  · have h := s q hq
    rw [z, nD] at h
    cases h
  · have hne : x ≠ p := fun z => by
      rw [z, n0] at q
      cases q
    rw [ghI_other hne]
    exact s1 x I q
  · by_cases hx : x = p
    · subst hx
      cases q : H0 x with
      | none => rfl
      | some u =>
        have := e0.1 x u n0 q
        rw [hp] at this
        cases this
    · rw [ghI_other hx] at m
      exact s2 x n m
theorem own_putO {σ : L2.St} {H : Hp} {p : Addr} {o o2 : HO} (ow : OwnP Δ0 Γ p) (st : Stt K Δ0 H0 ((p, ObIs o) :: Γ) F ρ σ H) : H p = some o ∧ Stt K Δ0 H0 ((p, ObIs o2) :: Γ) F ρ σ (upd H p o2) := by
  obtain ⟨Δ, s, hh, e, f, e0, s1, s2⟩ := st
  have hΔ : Δ p = some (ObIs o) := s (p, ObIs o) List.mem_cons_self
  obtain ⟨u, hu, iu⟩ := hh p _ hΔ
  have iu' : u = o := iu
  subst iu'
  have off : ∀ {a : Addr}, Δ a = none → a ≠ p := fun n z => by
    rw [z, hΔ] at n
    cases n
  have off0 : ∀ {a : Addr} {I}, Δ0 a = some I → a ≠ p := fun q z => by
    rw [z, ow.n0] at q
    cases q
  have kp : Keep Δ H (upd H p o2) := fun a o n q => by
    rw [upd_ne (off n)]
    exact q
  have wk : ∀ {H : Hp} x o, H x = some o → Δ x = none → ghI Δ p (ObIs o2) x = none := fun x o _ n => by
    rw [ghI_other (off n)]
    exact n
  refine ⟨hu, ghI Δ p (ObIs o2), fun q hq => ?_, ghI_hold (fun a J _ h => hh a J h) rfl, (e.mono kp).weak wk, fun q hq => q.2.r.weak wk (q.2.r.mono kp (f q hq)), ⟨fun a o' n q => ?_, fun a I q => ?_⟩, fun x I q => ?_, fun x n m => ?_⟩
  · rcases List.mem_cons.mp hq with z | z
    · rw [z]; exact ghI_self
    · rw [ghI_other (ow.ne q z)]; exact s q (List.mem_cons_of_mem _ z)
  · have hne : a ≠ p := fun z => by
      subst z
      have := s2 a n (by rw [hΔ]; exact fun z => by cases z)
      rw [q] at this
      cases this
    rw [upd_ne hne]
    exact e0.1 a o' n q
  · obtain ⟨u, hu, iu⟩ := e0.2 a I q
    exact ⟨u, by rw [upd_ne (off0 q)]; exact hu, iu⟩
  · rw [ghI_other (off0 q)]
    exact s1 x I q
  · by_cases hx : x = p
    · subst hx
      exact s2 x n (by rw [hΔ]; exact fun z => by cases z)
    · rw [ghI_other hx] at m
      exact s2 x n m
end
/-! ### instances: made by a call, their fields -/
/-- what __init__ promises: of a new instance at x the datum b -/
def spI (K : PySem.W.Frag) (C : Addr) {β : Type} [Rp β] (F : Own → List Cell → (β → Prop) → Prop) : Sp := fun vs H Q _ => ∃ (Γ : Own) (Δ : Gh) (cs : List Cell) (P : β → Prop) (x dx : Addr) (us : List V) (H0 : Hp), vs = .ref x :: us ∧ F Γ cs P ∧ Sat Γ Δ ∧ Hold Δ H0 ∧ ArgsOk K Δ H0 us cs ∧
  H0 x = none ∧ H0 dx = none ∧ dx ≠ x ∧ H = upd (upd H0 dx (.own x)) x (.ins C dx []) ∧ ∀ (H' : Hp) (b : β), P b → Ext Δ H0 H' → Rp.rp K Δ H' (.ref x) b → Q .non H'
section
variable {K : PySem.W.Frag} {Γ : Own} {ρ : Z.Env} {ta : TA} {β : Type} [Rp β] {Pb : β → Prop}
/-- C(e, ..) -/
theorem ev_make {C : Addr} {F : Own → List Cell → (β → Prop) → Prop} {E : XK} {cs dcs : List Cell} {dvs : List V} (hd : ∀ Δ H, ArgsOk K Δ H dvs dcs) (ha : EvA K Γ ta ρ (Is cs)) (hf : F Γ (cs ++ dcs) Pb) : Ev K Γ (tMake C (spI K C F) dvs E ta) ρ Pb := fun Δ σ H Q s hh e k =>
  ha Δ σ H _ s hh e fun vs H1 cs' pcs e1 r x dx hx hdx ne => by
    have ec : cs' = cs := pcs
    subst ec
    exact ⟨Γ, Δ, cs' ++ dcs, Pb, x, dx, vs ++ dvs, H1, rfl, hf, s, e1.2, All2.app r (hd Δ H1), hx, hdx, ne, rfl, fun H' b pb e2 r2 => ⟨rfl, k _ H' b pb (e1.trans e2) r2⟩⟩
end
section
variable {P : Program} {w : World} {K : PySem.W.Frag} {mg : Str → Option Value} {base : Heap} {β : Type} [Rp β]
def FinI (K : PySem.W.Frag) (Δ0 : Gh) (H0 : Hp) (x : Addr) (R : β → Prop) (D : Ends) : Prop := ∀ σ H' b, R b → Ext Δ0 H0 H' → Rp.rp K Δ0 H' (.ref x) b → D.nx σ H'
theorem def_okI {x qual : Str} {args : Arguments} {body : List Stmt} {scope : Scope} {dvs : List V} {kws : List (Str × V)} {f C : Addr} {fd : FuncData} {N ps : List Str} {k : Nat} {G : Own → List Cell → (β → Prop) → Prop}
    (Fn : FunD K x qual args body scope dvs kws f fd) (S : FnScope N ps scope) (len : ∀ Γ cs R, G Γ cs R → cs.length + 1 = ps.length)
    (hb : ∀ (cdv : Value) (A : Around) (outer : List PySem.Env) (s : Shared) (H : Hp) (E : XK), Room k (A.deeper (envOfC qual scope s.heap.objs.size f cdv)) →
      ∀ (Γ : Own) (cs : List Cell) (R : β → Prop), G Γ cs R → ∃ t, PSs (cxOf CX0 P w K mg base N qual scope f cdv A outer s H E).nox body t ∧
        ∀ (Δ0 : Gh) (H0 : Hp) (p dx : Addr) (D : Ends), FinI K Δ0 H0 p R D → OwnP Δ0 Γ p → Wp K Δ0 H0 ((p, ObIs (.ins C dx [])) :: Γ) [] (env0 N (⟨(⟨p⟩ : Loc)⟩ :: cs)) t D) :
    FnOk P w K mg base CX0 (k + 1) f fd ps (spI K C G) := by
  refine Fn.ok S (fun vs H Q E h => ?_) (fun cdv A outer s H vs Q E hr h => ?_)
  · obtain ⟨Γ, Δ, cs, R, p, dx, us, H0, rfl, g, _, _, a, _⟩ := h
    rw [List.length_cons, All2.len a]
    exact len Γ cs R g
  · obtain ⟨Γ, Δ, cs, R, p, dx, us, H0, rfl, g, sa, hh, a, hp, hdx, ne, rfl, q⟩ := h
    obtain ⟨t, ht, hw⟩ := hb cdv A outer s _ E hr Γ cs R g
    have e1 : Ext Δ H0 (upd H0 dx (.own p)) := Ext.new hh hdx _
    have hp1 : upd H0 dx (.own p) p = none := by rw [upd_ne (fun z => ne z.symm)]; exact hp
    have hargs : ArgsOk K Δ (upd H0 dx (.own p)) us cs := All2.imp (fun v c r => c.r.mono e1.1 r) a
    have henv : EnvOk K Δ (L2.start N (.ref p :: us)) (upd H0 dx (.own p)) (env0 N (⟨(⟨p⟩ : Loc)⟩ :: cs)) := start_ok (cs := ⟨(⟨p⟩ : Loc)⟩ :: cs) ⟨rfl, hargs⟩
    obtain ⟨ow, st⟩ := own_newO (K := K) (Δ0 := Δ) (H0 := H0) (F := []) (o := .ins C dx []) sa e1.2 henv (fun z hz => (nomatch hz)) e1 (fun _ _ z => z) (fun x n m => absurd n m) hp1
    refine ⟨t, ?_, hw Δ H0 p dx _ (fun σ H' b pb e r => q H' b pb e r) ow _ _ st⟩
    first
      | exact ht
      | exact PSs.nox ht
end
end Z

set_option Elab.async false
set_option linter.all false
set_option maxRecDepth 100000
set_option maxHeartbeats 1000000
namespace Z
open PySem PySem.Spec PyProof.Rows L2
/-! ### a new object that an expression makes and its taker owns -/
def EvN (K : PySem.W.Frag) (Γ : Own) (te : TE) (ρ : Z.Env) (I : HO → Prop) : Prop :=
  ∀ (Δ : Gh) (σ : L2.St) (H : Hp) (Q : VK), Sat Γ Δ → Hold Δ H → EnvOk K Δ σ H ρ → (∀ d H' o, I o → H d = none → Δ d = none → Ext Δ H H' → H' d = some o → Q (.ref d) H') → te σ H Q
/-! ### a dict whose keys are texts -/
abbrev tS (x : Tx) : Str := ⟨x.s.toArray⟩
def kvT (ks : List Tx) : List (Key × V) := ks.map fun x => (.inr (tS x), .bl true)
theorem tS_inj {x y : Tx} : tS x = tS y ↔ x = y := by
  constructor
  · intro h
    cases x
    cases y
    simpa [tS] using h
  · intro h
    rw [h]
/-- each text once, at its first place -/
def onceT : List Tx → List Tx → List Tx
  | ks, [] => ks
  | ks, x :: xs => onceT (if x ∈ ks then ks else ks ++ [x]) xs
theorem onceT_snoc : ∀ (xs : List Tx) (ks : List Tx) (x : Tx), onceT ks (xs ++ [x]) = if x ∈ onceT ks xs then onceT ks xs else onceT ks xs ++ [x]
  | [], ks, x => rfl
  | y :: xs, ks, x => onceT_snoc xs _ x
theorem onceT_mem : ∀ (xs ks : List Tx) (y : Tx), y ∈ onceT ks xs ↔ y ∈ ks ∨ y ∈ xs
  | [], ks, y => by simp [onceT]
  | x :: xs, ks, y => by
    rw [onceT, onceT_mem xs]
    by_cases h : x ∈ ks
    · rw [if_pos h, List.mem_cons]
      constructor
      · rintro (q | q)
        · exact .inl q
        · exact .inr (.inr q)
      · rintro (q | rfl | q)
        · exact .inl q
        · exact .inl h
        · exact .inr q
    · rw [if_neg h, List.mem_append, List.mem_singleton, List.mem_cons, or_assoc]
theorem onceT_nodup : ∀ (xs ks : List Tx), ks.Nodup → (onceT ks xs).Nodup
  | [], _, h => h
  | x :: xs, ks, h => by
    rw [onceT]
    by_cases q : x ∈ ks
    · rw [if_pos q]
      exact onceT_nodup xs ks h
    · rw [if_neg q]
      exact onceT_nodup xs _ (List.nodup_append.mpr ⟨h, by simp, fun a ha b hb => by
        rw [List.mem_singleton.mp hb]
        exact fun z => q (z ▸ ha)⟩)
theorem onceT_len : ∀ (xs ks : List Tx), (onceT ks xs).length ≤ ks.length + xs.length
  | [], ks => Nat.le_refl _
  | x :: xs, ks => by
    have := onceT_len xs (if x ∈ ks then ks else ks ++ [x])
    rw [onceT, List.length_cons]
    by_cases h : x ∈ ks
    · rw [if_pos h] at this ⊢
      omega
    · rw [if_neg h] at this ⊢
      rw [List.length_append, List.length_singleton] at this
      omega
theorem any_kvT {ks : List Tx} {x : Tx} : ((kvT ks).any fun kv => decide (kv.1 = (.inr (tS x) : Key))) = decide (x ∈ ks) := by
  rw [Bool.eq_iff_iff, List.any_eq_true, decide_eq_true_eq]
  unfold kvT
  constructor
  · rintro ⟨kv, hk, e⟩
    obtain ⟨y, hy, rfl⟩ := List.mem_map.mp hk
    have e' := of_decide_eq_true e
    have e2 : tS y = tS x := Sum.inr.inj e'
    rw [← tS_inj.mp e2]
    exact hy
  · intro h
    exact ⟨_, List.mem_map.mpr ⟨x, h, rfl⟩, decide_eq_true rfl⟩
theorem putK_kvT {ks : List Tx} {x : Tx} : putK (kvT ks) (.inr (tS x)) (.bl true) = kvT (if x ∈ ks then ks else ks ++ [x]) := by
  unfold putK
  rw [any_kvT]
  by_cases h : x ∈ ks
  · rw [if_pos (decide_eq_true h), if_pos h]
    unfold kvT
    rw [List.map_map]
    refine List.map_congr_left fun y _ => ?_
    show (if (Sum.inr (tS y) : Key) = Sum.inr (tS x) then _ else _) = _
    split
    · rfl
    · rfl
  · rw [if_neg (by rw [decide_eq_true_eq]; exact h), if_neg h]
    unfold kvT
    rw [List.map_append]
    rfl
section
variable {K : PySem.W.Frag} {Γ : Own} {ρ : Z.Env} {tk tv : TE}
theorem ghI_swap {Δ : Gh} {D : Addr} {I J : HO → Prop} {H : Hp} : ∀ x o, H x = some o → ghI Δ D I x = none → ghI Δ D J x = none := fun x o _ n => by
  by_cases e : x = D
  · rw [e, ghI_self] at n
    cases n
  · rw [ghI_other e] at n ⊢
    exact n
theorem ghI_exact {Δ : Gh} {D : Addr} {o : HO} {H : Hp} (h : Hold (ghI Δ D (ObIs o)) H) : H D = some o := by
  obtain ⟨u, hu, iu⟩ := h D _ ghI_self
  rw [hu, show u = o from iu]
/-- how things stand ahead of a turn -/
structure DW (K : PySem.W.Frag) (Δ : Gh) (H1 : Hp) (D : Addr) (pv : V) (pc : Cell) (σw : L2.St) (ρw : Z.Env) (o : HO) (H : Hp) : Prop where
  hold : Hold (ghI Δ D (ObIs o)) H
  keep : ∀ a u, a ≠ D → Δ a = none → H1 a = some u → H a = some u
  src : pc.rp K (ghI Δ D (ObIs o)) H pv
  env : EnvOk K (ghI Δ D (ObIs o)) σw H ρw
theorem DW.next {Δ : Gh} {H1 H H' : Hp} {D : Addr} {pv : V} {pc : Cell} {σw : L2.St} {ρw : Z.Env} {o : HO} (c : DW K Δ H1 D pv pc σw ρw o H) (e : Ext (ghI Δ D (ObIs o)) H H') : DW K Δ H1 D pv pc σw ρw o H' :=
  ⟨e.2, fun a u ha n h => e.1 a u (by rw [ghI_other ha]; exact n) (c.keep a u ha n h), pc.r.mono e.1 c.src, c.env.mono e.1⟩
theorem DW.put {Δ : Gh} {H1 H : Hp} {D : Addr} {pv : V} {pc : Cell} {σw : L2.St} {ρw : Z.Env} {o o2 : HO} (c : DW K Δ H1 D pv pc σw ρw o H) : DW K Δ H1 D pv pc σw ρw o2 (upd H D o2) := by
  have kp : Keep (ghI Δ D (ObIs o)) H (upd H D o2) := fun a u n q => by
    have hne : a ≠ D := fun z => by
      rw [z, ghI_self] at n
      cases n
    rw [upd_ne hne]
    exact q
  exact ⟨ghI_hold (fun a J ha h => c.hold a J (by rw [ghI_other ha]; exact h)) rfl, fun a u ha n h => by rw [upd_ne ha]; exact c.keep a u ha n h, pc.r.weak ghI_swap (pc.r.mono kp c.src), (c.env.mono kp).weak ghI_swap⟩
/-- {x: True for x in ..} -/
theorem en_dc {wi : TI} {g : TG} {js vs : List Nat} {xs : List Tx} {st : Nat → Z.Env → Z.Env} (S : Src K Γ wi g ρ js xs.length st) (hn : xs.length ≤ 50000) (hjs : ∀ j ∈ js, j ∈ vs)
    (hk : ∀ i x, xs[i]? = some x → Ev K Γ tk (st i (wipeE ρ vs)) (Is x)) (hv : ∀ i, i < xs.length → Ev K Γ tv (st i (wipeE ρ vs)) (Is true)) :
    EvN K Γ (tDc wi g tYes tk tv vs) ρ (ObIs (.dK (kvT (onceT [] xs)))) := fun Δ σ H Q s hh e k => S Δ σ H _ s hh e fun J H1 pv pc e1 rp0 hgo hyld => fun D hD => by
  have nD : Δ D = none := e1.2.fresh hD
  have eW : EnvOk K Δ (wipe σ vs) H1 (wipeE ρ vs) := (e.mono e1.1).wipe vs
  have kp : Keep (ghI Δ D (ObIs (.dK []))) H1 (upd H1 D (.dK [])) := fun a o _ q => by rw [upd_ne (ne_of_none q hD)]; exact q
  have W0 : DW K Δ H1 D pv pc (wipe σ vs) (wipeE ρ vs) (.dK (kvT (onceT [] (xs.take 0)))) (upd H1 D (.dK [])) :=
    ⟨ghI_hold (fun a J _ h => e1.2 a J h) rfl, fun a o ha n h => by rw [upd_ne ha]; exact h, pc.r.mono kp (pc.r.weak (ghI_new hD) rp0), (eW.weak (ghI_new hD)).mono kp⟩
  have wl : (wipeE ρ vs).length = ρ.length := by
    rw [← eW.1, wipe_length]
    exact e.1
  have hDH : H D = none := Ext.back hh e1 hD
  refine ⟨fun i m H2 => m = xs.length - i ∧ i ≤ xs.length ∧ DW K Δ H1 D pv pc (wipe σ vs) (wipeE ρ vs) (.dK (kvT (onceT [] (xs.take i)))) H2, ⟨xs.length, by simp, Nat.zero_le _, W0⟩, ?_⟩
  rintro i m H2 ⟨rfl, hi, c⟩
  have hg := hgo _ H2 c.src
  by_cases hlt : i < xs.length
  · refine .inr ⟨hg.1 i hlt, fun H3 => DW K Δ H1 D pv pc (wipe σ vs) (wipeE ρ vs) (.dK (kvT (onceT [] (xs.take (i + 1))))) H3, fun H' c' => ⟨xs.length - (i + 1), by omega, rfl, hlt, c'⟩, fun x H3 hy => ?_⟩
    obtain ⟨e3, hput⟩ := hyld _ i H2 x H3 hlt c.hold c.src hy
    have c3 := c.next e3
    refine hput (wipe σ vs) (wipeE ρ vs) _ wl c3.env fun σ2 env2 hl2 hoff => ⟨wipe_off (by rw [hl2, wipe_length]) hjs hoff, ?_⟩
    have hx : xs[i]? = some xs[i] := List.getElem?_eq_getElem hlt
    have sD : Sat Γ (ghI Δ D (ObIs (.dK (kvT (onceT [] (xs.take i)))))) := fun q hq => ghI_sat s nD q (List.mem_cons_of_mem _ hq)
    change tk σ2 H3 _
    refine hk i _ hx _ σ2 H3 _ sD e3.2 env2 fun y H4 a pa e4 r4 => ?_
    have c4 := c3.next e4
    refine hv i hlt _ σ2 H4 _ sD e4.2 (env2.mono e4.1) fun z H5 b pb e5 r5 => ?_
    have c5 := c4.next e5
    have ea : a = xs[i] := pa
    have eb : b = true := pb
    subst ea eb
    have ey : y = .str (tS xs[i]) := r4
    have ez : z = .bl true := r5
    subst ey ez
    have et : onceT [] (xs.take (i + 1)) = if xs[i] ∈ onceT [] (xs.take i) then onceT [] (xs.take i) else onceT [] (xs.take i) ++ [xs[i]] := by
      rw [List.take_add_one, hx]
      exact onceT_snoc _ _ _
    refine ⟨kvT (onceT [] (xs.take i)), .inr (tS xs[i]), rfl, ghI_exact c5.hold, ?_, ?_⟩
    · have h1 := onceT_len (xs.take i) []
      have h2 : (xs.take i).length ≤ i := List.length_take_le i xs
      have h3 : (kvT (onceT [] (xs.take i))).length = (onceT [] (xs.take i)).length := by unfold kvT; rw [List.length_map]
      refine Nat.lt_of_le_of_lt (m := 50000) ?_ (by decide)
      rw [h3]
      simp only [List.length_nil] at h1
      omega
    · rw [putK_kvT, ← et]
      exact c5.put
  · have ei : i = xs.length := by omega
    subst ei
    rw [List.take_length] at c
    refine .inl ⟨hg.2, k D H2 _ rfl hDH nD ⟨fun a o na h => ?_, fun a J h => ?_⟩ (ghI_exact c.hold)⟩
    · have h1 := e1.1 a o na h
      exact c.keep a o (ne_of_none h1 hD) na h1
    · have hne : a ≠ D := fun z => by
        rw [z, nD] at h
        cases h
      exact c.hold a J (by rw [ghI_other hne]; exact h)
end
end Z

set_option Elab.async false
set_option linter.all false
set_option maxRecDepth 100000
set_option maxHeartbeats 1000000
namespace Z
open PySem PySem.Spec PyProof.Rows L2
section
variable {K : PySem.W.Frag} {Δ0 : Gh} {H0 : Hp} {Γ : Own} {F : List (V × Cell)} {ρ : Z.Env} {ta tb te : TE} {tz : TS} {D : Ends} {α : Type} [Rp α] {P : α → Prop} {p C dx : Addr} {fs : List (Str × V)} {f : Str}
/-- self.f = e: the instance one's own; what e gave is kept in mind -/
theorem wp_fld (cl : Cls K C) (na : NoAttr K C f) (hl : fs.length < 1000) (ow : OwnP Δ0 Γ p) (h : Ev K ((p, ObIs (.ins C dx fs)) :: Γ) te ρ P) (ho : Ev K ((p, ObIs (.ins C dx fs)) :: Γ) ta ρ (Is (⟨p⟩ : Loc)))
    (k : ∀ v a, P a → Wp K Δ0 H0 ((p, ObIs (.ins C dx (putF f v fs))) :: Γ) ((v, ⟨a⟩) :: F) ρ tz D) : Wp K Δ0 H0 ((p, ObIs (.ins C dx fs)) :: Γ) F ρ (tSeq (sFld K ta te f) tz) D := fun σ H ⟨Δ, s, hh, e, ff, e0, s1, s2⟩ =>
  h Δ σ H _ s hh e fun v H1 a pa e1 r1 => ho Δ σ H1 _ s e1.2 (e.mono e1.1) fun w H2 b pb e2 r2 => by
    have eb : b = ⟨p⟩ := pb
    subst eb
    have ew : w = .ref p := r2
    subst ew
    have e3 := e1.trans e2
    have st : Stt K Δ0 H0 ((p, ObIs (.ins C dx fs)) :: Γ) ((v, ⟨a⟩) :: F) ρ σ H2 := ⟨Δ, s, e3.2, e.mono e3.1, fun q hq => by
      rcases List.mem_cons.mp hq with rfl | hq
      · exact Rp.mono e2.1 r1
      · exact q.2.r.mono e3.1 (ff q hq), ext0 e0 s1 s2 e3, s1, s2⟩
    obtain ⟨hp, st'⟩ := own_putO (o2 := .ins C dx (putF f v fs)) ow st
    exact ⟨p, C, dx, fs, rfl, hp, cl, na, hl, k v a pa σ _ st'⟩
theorem wp_fldL (cl : Cls K C) (na : NoAttr K C f) (hl : fs.length < 1000) (ow : OwnP Δ0 Γ p) (h : Ev K ((p, ObIs (.ins C dx fs)) :: Γ) te ρ P) (ho : Ev K ((p, ObIs (.ins C dx fs)) :: Γ) ta ρ (Is (⟨p⟩ : Loc)))
    (k : ∀ v a, P a → Wp K Δ0 H0 ((p, ObIs (.ins C dx (putF f v fs))) :: Γ) ((v, ⟨a⟩) :: F) ρ tNext D) : Wp K Δ0 H0 ((p, ObIs (.ins C dx fs)) :: Γ) F ρ (sFld K ta te f) D := wp_fld (tz := tNext) cl na hl ow h ho k
/-- a new object that comes becomes one's own -/
theorem own_come {Δ : Gh} {σ : L2.St} {H H' : Hp} {d : Addr} {o : HO} (s : Sat Γ Δ) (hh : Hold Δ H) (e : EnvOk K Δ σ H ρ) (ff : ∀ f ∈ F, f.2.rp K Δ H f.1) (e0 : Ext Δ0 H0 H) (s1 : ∀ x I, Δ0 x = some I → Δ x = some I) (s2 : ∀ x, Δ0 x = none → Δ x ≠ none → H0 x = none) (hd : H d = none) (e1 : Ext Δ H H') (ho : H' d = some o) :
    OwnP Δ0 Γ d ∧ Stt K Δ0 H0 ((d, ObIs o) :: Γ) F ρ σ H' := by
  have nD : Δ d = none := hh.fresh hd
  have n0 : Δ0 d = none := none0 s1 nD
  have wk : ∀ x u, H x = some u → Δ x = none → ghI Δ d (ObIs o) x = none := ghI_new hd
  have kp : Keep (ghI Δ d (ObIs o)) H H' := fun a u n q => by
    have hne : a ≠ d := ne_of_none q hd
    exact e1.1 a u (by rw [ghI_other hne] at n; exact n) q
  refine ⟨⟨n0, fun q hq z => ?_⟩, ghI Δ d (ObIs o), ghI_sat s nD, fun a J h => ?_, (e.weak wk).mono kp, fun q hq => q.2.r.mono kp (q.2.r.weak wk (ff q hq)), ext0 e0 s1 s2 e1, fun x I q => ?_, fun x n m => ?_⟩
  · have h := s q hq
    rw [z, nD] at h
    cases h
  · by_cases ea : a = d
    · rw [ea, ghI_self] at h
      have ej : ObIs o = J := Option.some.inj h
      subst ej
      exact ⟨o, by rw [ea]; exact ho, rfl⟩
    · rw [ghI_other ea] at h
      exact e1.2 a J h
  · have hne : x ≠ d := fun z => by
      rw [z, n0] at q
      cases q
    rw [ghI_other hne]
    exact s1 x I q
  · by_cases hx : x = d
    · subst hx
      cases q : H0 x with
      | none => rfl
      | some u =>
        have := e0.1 x u n0 q
        rw [hd] at this
        cases this
    · rw [ghI_other hx] at m
      exact s2 x n m
/-- the order of what one owns is of no matter -/
theorem Stt.swap {σ : L2.St} {H : Hp} {a b : Addr × (HO → Prop)} (st : Stt K Δ0 H0 (a :: b :: Γ) F ρ σ H) : Stt K Δ0 H0 (b :: a :: Γ) F ρ σ H := by
  obtain ⟨Δ, s, r⟩ := st
  exact ⟨Δ, fun q hq => s q (by simp only [List.mem_cons] at hq ⊢; rcases hq with h | h | h; exact .inr (.inl h); exact .inl h; exact .inr (.inr h)), r⟩
/-- self.f = a new object -/
theorem wp_fldN {I : HO → Prop} (cl : Cls K C) (na : NoAttr K C f) (hl : fs.length < 1000) (ow : OwnP Δ0 Γ p) (h : EvN K ((p, ObIs (.ins C dx fs)) :: Γ) te ρ I) (ho : ∀ d o, I o → Ev K ((d, ObIs o) :: (p, ObIs (.ins C dx fs)) :: Γ) ta ρ (Is (⟨p⟩ : Loc)))
    (k : ∀ d o, I o → OwnP Δ0 ((d, ObIs o) :: Γ) p → OwnP Δ0 Γ d → Wp K Δ0 H0 ((p, ObIs (.ins C dx (putF f (.ref d) fs))) :: (d, ObIs o) :: Γ) F ρ tz D) : Wp K Δ0 H0 ((p, ObIs (.ins C dx fs)) :: Γ) F ρ (tSeq (sFld K ta te f) tz) D := fun σ H ⟨Δ, s, hh, e, ff, e0, s1, s2⟩ =>
  h Δ σ H _ s hh e fun d H1 o io hd nd e1 hdo => by
    obtain ⟨owd, st⟩ := own_come (K := K) (Δ0 := Δ0) (H0 := H0) (F := F) s hh e ff e0 s1 s2 hd e1 hdo
    have hne : p ≠ d := owd.ne (p, _) List.mem_cons_self
    obtain ⟨Δ', s', hh', e', ff', e0', s1', s2'⟩ := st
    refine ho d o io Δ' σ H1 _ s' hh' e' fun w H2 b pb e2 r2 => ?_
    have eb : b = ⟨p⟩ := pb
    subst eb
    have ew : w = .ref p := r2
    subst ew
    have st2 : Stt K Δ0 H0 ((d, ObIs o) :: (p, ObIs (.ins C dx fs)) :: Γ) F ρ σ H2 := ⟨Δ', s', e2.2, e'.mono e2.1, fun q hq => q.2.r.mono e2.1 (ff' q hq), ext0 e0' s1' s2' e2, s1', s2'⟩
    have ow' : OwnP Δ0 ((d, ObIs o) :: Γ) p := ⟨ow.n0, fun q hq z => by
      rcases List.mem_cons.mp hq with rfl | hq
      · exact hne z.symm
      · exact ow.ne q hq z⟩
    obtain ⟨hp, st'⟩ := own_putO (o2 := .ins C dx (putF f (.ref d) fs)) ow' st2.swap
    exact ⟨p, C, dx, fs, rfl, hp, cl, na, hl, k d o io ow' ⟨owd.n0, fun q hq => owd.ne q (List.mem_cons_of_mem _ hq)⟩ σ _ st'⟩
/-- the end of an __init__ -/
theorem wp_endI {β : Type} [Rp β] {R : β → Prop} {b : β} (hf : FinI K Δ0 H0 p R D) (hb : R b) (h : ∀ H : Hp, (∀ q ∈ (p, ObIs (.ins C dx fs)) :: Γ, ∃ o, H q.1 = some o ∧ q.2 o) → (∀ q ∈ F, q.2.rp K Δ0 H q.1) → Rp.rp K Δ0 H (.ref p) b) : Wp K Δ0 H0 ((p, ObIs (.ins C dx fs)) :: Γ) F ρ tNext D := fun σ H ⟨Δ, s, hh, e, ff, e0, s1, s2⟩ =>
  hf σ H b hb e0 (h H (fun q hq => hh q.1 q.2 (s q hq)) fun q hq => q.2.r.weak (fun x o _ n => none0 s1 n) (ff q hq))
end
section
variable {K : PySem.W.Frag} {Γ : Own} {ρ : Z.Env} {ta tb te : TE}
/-- o.f of one's own instance, another object that is one's own too -/
theorem ev_fldO {p C dx d : Addr} {fs : List (Str × V)} {f : Str} (cl : Cls K C) (na : NoAttr K C f) (hm : (p, ObIs (.ins C dx fs)) ∈ Γ) (hl : fs.lookup f = some (.ref d)) (h : Ev K Γ te ρ (Is (⟨p⟩ : Loc))) : Ev K Γ (tFld K te f) ρ (Is (⟨d⟩ : Loc)) := fun Δ σ H Q s hh e k =>
  h Δ σ H _ s hh e fun v H1 a pa e1 r => by
    have ea : a = ⟨p⟩ := pa
    subst ea
    have ev : v = .ref p := r
    subst ev
    obtain ⟨u, hu, iu⟩ := e1.2 p _ (s _ hm)
    have iu' : u = HO.ins C dx fs := iu
    subst iu'
    exact ⟨p, C, dx, fs, .ref d, rfl, hu, cl, na, hl, k _ H1 ⟨d⟩ rfl e1 rfl⟩
/-- list(d), the dict one's own -/
theorem ev_listO {d : Addr} {ks : List Tx} (hm : (d, ObIs (.dK (kvT ks))) ∈ Γ) (h : Ev K Γ te ρ (Is (⟨d⟩ : Loc))) : Ev K Γ (tCB rListD (tCons te tNil)) ρ (Is ks) := fun Δ σ H Q s hh e k =>
  h Δ σ H _ s hh e fun v H1 a pa e1 r => by
    have ea : a = ⟨d⟩ := pa
    subst ea
    have ev : v = .ref d := r
    subst ev
    obtain ⟨u, hu, iu⟩ := e1.2 d _ (s _ hm)
    have iu' : u = HO.dK (kvT ks) := iu
    subst iu'
    refine ⟨d, kvT ks, rfl, hu, fun q hq => k _ _ ks rfl (e1.trans (Ext.new e1.2 hq _)) (new_lst e1.2 hq ?_)⟩
    have e2 : (kvT ks).map (fun kv => kV kv.1) = ks.map fun x => V.str (tS x) := by
      unfold kvT
      rw [List.map_map]
      rfl
    rw [e2]
    have em : ks = ks.map id := (List.map_id ks).symm
    conv => rhs; rw [em]
    exact All2.map fun x _ => Rp.mono (K := K) (Δ := Δ) (Keep.refl Δ _) rfl
/-- texts in their order -/
def SortedT (a b : List Tx) : Prop := b.Perm a ∧ b.Pairwise fun x y => ¬ y.s < x.s
theorem o1_sortedT {xs : List Tx} : Op1 K (rSortedTx K) xs (SortedT xs) := fun Δ H v Q hh r k => by
  obtain ⟨p, vs, rfl, n, s, q⟩ := r
  have ev := all2_tx q
  subst ev
  refine ⟨p, _, rfl, s, fun ns' l hp hr hl => ?_⟩
  have e1 : ns' = (ns'.map fun z => (⟨z.cps.toList⟩ : Tx)).map fun x => (⟨x.s.toArray⟩ : Str) := by
    rw [List.map_map]
    conv => lhs; rw [← List.map_id ns']
    exact List.map_congr_left fun z _ => by cases z; rfl
  refine k _ _ (ns'.map fun z => (⟨z.cps.toList⟩ : Tx)) ⟨?_, ?_⟩ (Ext.new hh hl _) (new_lst hh hl ?_)
  · have h := hp.map fun z => (⟨z.cps.toList⟩ : Tx)
    rw [List.map_map] at h
    have e2 : (xs.map ((fun z => (⟨z.cps.toList⟩ : Tx)) ∘ fun x => (⟨x.s.toArray⟩ : Str))) = xs := by
      conv => rhs; rw [← List.map_id xs]
      exact List.map_congr_left fun z _ => by cases z; rfl
    rw [e2] at h
    exact h
  · exact List.pairwise_map.mpr hr
  · have e2 : ns'.map V.str = (ns'.map fun z => (⟨z.cps.toList⟩ : Tx)).map fun x => V.str ⟨x.s.toArray⟩ := by
      conv => lhs; rw [e1]
      rw [List.map_map]
      rfl
    rw [e2]
    have em : (ns'.map fun z => (⟨z.cps.toList⟩ : Tx)) = (ns'.map fun z => (⟨z.cps.toList⟩ : Tx)).map id := (List.map_id _).symm
    conv => rhs; rw [em]
    exact All2.map fun x _ => rfl
end
end Z
namespace Z
open PySem PySem.Spec PyProof.Rows L2
/-- o.f where K is a letter (within a comprehension) -/
theorem pe_fldK {X : Cx} {K : PySem.W.Frag} {o : Expr} {f : Str} {pos : Pos} {ta : TE} (he : PE X o ta) (hb : attributeBase o f X.env (eval o X.env) = eval o X.env) (h : X.K = K := by rfl) : PE X (.Attribute o f pos) (tFld K ta f) := by
  subst h
  exact pe_fld he hb
end Z

set_option Elab.async false
set_option linter.all false
set_option maxRecDepth 100000
set_option maxHeartbeats 1000000
/-! own operators of instances: x - y, x | y, x & y; x == y -/
namespace Zo
open PySem PyProof.Rows PySem.W
section
variable {prog : Program} {w : World} {K : Frag} {A : Around} {E : Value → Shared → Prop} {s : Shared} {x y C D f : Addr} {ox oy : Obj} {od oe : Option Obj} {nm : String}
/-- the first of the class's own line is the class -/
def lineOk (K : Frag) (C : Addr) : Bool := (clsIn K C).any fun cd => cd.mro.head? == some (.ref C)
theorem fills_own (X : K.In s.heap) (hl : lineOk K C = true) (hs : findIn K (.ref C) (dunder nm) = some (some (.ref f))) {Q : Bool → Shared → Prop} (h : Q true s) : wpAny (model prog w) A (fillsNumberSlot (.ref C) nm) Q E s := by
  unfold lineOk at hl
  cases hc : clsIn K C with
  | none => rw [hc] at hl; cases hl
  | some cd =>
    rw [hc] at hl
    have hm : cd.mro.head? = some (.ref C) := by simpa using hl
    cases hr : cd.mro with
    | nil => rw [hr] at hm; cases hm
    | cons z rest =>
      rw [hr] at hm
      have ez : z = .ref C := Option.some.inj hm
      subst ez
      unfold fillsNumberSlot
      refine wpAny_bind (m := mroOf _) (wpAny_bind ((looks_clsIn X hc).here (wpAny_pure ?_)))
      rw [hr]
      simp only [List.anyM]
      refine wpAny_bind (wpAny_bind ?_)
      refine wpAny_bind ((looks_findIn X hs).here ?_)
      exact wpAny_pure (wpAny_pure (wpAny_pure h))
/-- x op y of two instances of one class that has a def for op -/
theorem own_binop {op : Operator} {Q : Value → Shared → Prop} (X : K.In s.heap) (I : InstAt s.heap x ox C od) (J : InstAt s.heap y oy C oe) (hl : lineOk K C = true) (hs : findIn K (.ref C) (dunder op.info.2) = some (some (.ref f))) (hf : isFn K (.ref f) = true)
    (h : wpAny (model prog w) A (call (.ref f) [.ref x, .ref y]) (PySem.W.CmpBack Q) E s) : wpAny (model prog w) A (binaryOp op (.ref x) (.ref y)) Q E s := by
  rcases hi : op.info with ⟨sym, nm⟩
  rw [hi] at hs
  have one : wpAny (model prog w) A (tryMethod (.ref x) (dunder nm) (.ref y)) (fun r s' => ∃ v, r = some v ∧ Q v s') E s := by
    unfold tryMethod
    refine wpAny_bind (special_fn X I hs (beq_iff_eq.mp hf) (wpAny_mono h (fun v s' hv => ?_) fun _ _ e => e))
    cases v <;> first | exact hv.elim | exact wpAny_pure ⟨_, rfl, hv⟩
  simp only [binaryOp, hi]
  refine wpAny_holding (wpAny_bind ?_)
  simp only [binaryOp1]
  refine wpAny_bind (I.type.here (wpAny_bind (J.type.here (wpAny_bind (fills_own X hl hs ?_)))))
  simp only [beq_self_eq_true, if_true, pure_bind, Bool.and_false, Bool.false_and, Bool.false_eq_true, if_false]
  refine wpAny_bind (wpAny_mono one (fun r s' hr => ?_) fun _ _ e => e)
  obtain ⟨v, rfl, hq⟩ := hr
  exact wpAny_pure (wpAny_pure hq)
/-- x != y where the class has an == of its own and no != -/
theorem own_ne {Q : Value → Shared → Prop} (X : K.In s.heap) (I : InstAt s.heap x ox C od) (J : InstAt s.heap y oy C oe) (hu : A.units + 1 < cLine) (hne : findIn K (.ref C) "__ne__" = some (some (.builtin "object.__ne__"))) (he : findIn K (.ref C) "__eq__" = some (some (.ref f))) (hf : isFn K (.ref f) = true) (hm : mroIn K C (.type "object") = some true)
    (h : wpAny (model prog w) A.in1 (call (.ref f) [.ref x, .ref y]) (fun v s' => ∃ b, v = .bool b ∧ Q (.bool (!b)) s') E s) : wpAny (model prog w) A (richCompare .NotEq (.ref x) (.ref y)) Q E s := by
  have sub : Looks (model prog w) s.heap (isInstance (.ref x) (.type "object")) true := I.type.andThen (looks_mroIn X hm)
  have one : wpAny (model prog w) A (tryCompare (.ref x) "__ne__" (.ref y)) (fun r s' => ∃ v, r = some v ∧ Q v s') E s := by
    unfold tryCompare
    have cal : wpAny (model prog w) A (call (.builtin "object.__ne__") [.ref x, .ref y]) (fun v s' => ∃ b, v = .bool b ∧ Q (.bool b) s') E s := by
      refine wpAny_call (codeAny_call_builtin F.cmp_object.ne.plain F.cmpEntry_ne (check_slot F.cmpKind_ne F.cmpSplit_ne sub (F.cmpArgs_ne _ _) ?_))
      show wpAny _ _ (Builtin.«object.__ne__» ⟨[.ref x, .ref y], []⟩) _ _ _
      unfold Builtin.«object.__ne__»
      repeat (first
        | with_reducible refine wpAny_cRoomFor (A := A.in1) (by have := hu; simp only [Around.in1] at *; omega) ?_
        | (refine wpAny_bind (m := callSpecialIfBound? (.ref x) (Str.ofString "__eq__") [.ref y]) (ifBound_K X I he hf (wpAny_mono h (fun r s' hr => ?_) fun _ _ e => e)); obtain ⟨b, rfl, hq⟩ := hr)
        | wp_step)
      all_goals exact ⟨_, rfl, hq⟩
    refine wpAny_bind (m := callSpecialIfBound? (.ref x) (Str.ofString "__ne__") [.ref y]) ?_
    simp only [callSpecialIfBound?, bindSpecialIfBound?]
    refine wpAny_holding (wpAny_bind (wpAny_bind (wpAny_bind (I.type.here ((looks_findIn X hne).here ?_)))))
    refine wpAny_bind (wpAny_askSetting (wpAny_ite ?_))
    have fin : wpAny (model prog w) A (call (.builtin "object.__ne__") ([.ref x] ++ [.ref y]) >>= fun v => pure (some v)) (fun a s' => wpAny (model prog w) A (match a with
      | some .notImplemented | none => pure none
      | some v => pure (some v)) (fun r s' => ∃ v, r = some v ∧ Q v s') E s') E s := wpAny_bind (wpAny_mono cal (fun v s' hv => by obtain ⟨b, rfl, hq⟩ := hv; exact wpAny_pure (wpAny_pure ⟨_, rfl, hq⟩)) fun _ _ e => e)
    split
    · exact wpAny_bind (wpAny_of_eq (F.cmp_object.ne.bind _) (wpAny_pure fin))
    · exact wpAny_tryCatch (wpAny_bind (wpAny_of_eq (F.cmp_object.ne.bind _) (wpAny_pure fin)))
  unfold richCompare
  simp only [oneThing_ref]
  refine wpAny_holding (wpAny_bind (wpAny_cRoomFor (by omega) ?_))
  refine wpAny_bind (I.type.here (wpAny_bind (J.type.here ?_)))
  rw [show (Value.ref C != Value.ref C) = false from by simp]
  simp only [Bool.false_eq_true, if_false]
  refine wpAny_bind (wpAny_pure ?_)
  simp only [Bool.false_eq_true, if_false]
  refine wpAny_bind (wpAny_mono one (fun r s' hr => ?_) fun _ _ e => e)
  obtain ⟨v, rfl, hq⟩ := hr
  exact wpAny_pure hq
end
end Zo
namespace L2
open PySem PySem.Spec PyProof.Rows
/-- x op y, two instances of the class at C whose def for op promises sp -/
def rOwnI (C : Addr) (sp : Sp) (E : XK) : R2 := fun x y H Q => ∃ a dx fs b dy gs, x = .ref a ∧ y = .ref b ∧ H a = some (.ins C dx fs) ∧ H b = some (.ins C dy gs) ∧ sp [x, y] H Q E
section
variable {X : Cx} {CX : CXT} {k : Nat} {C g : Addr} {fd : FuncData} {ps : List Str} {sp : Sp} {E : XK}
theorem op_binI {op : Operator} (hl : Zo.lineOk X.K C = true) (hs : PySem.W.findIn X.K (.ref C) (dunder op.info.2) = some (some (.ref g))) (hf : PySem.W.isFn X.K (.ref g) = true) (F : FnOk X.prog X.w X.K X.mg X.base CX k g fd ps sp)
    (hr : Room k X.A) (hb : Binds X.K fd ps []) (hx : Passes CX X E) : OpR X (binaryOp op) (rOwnI C sp E) := by
  intro pins s σ H x y v u Q I rx ry h
  obtain ⟨a, dx, fs, b, dy, gs, rfl, rfl, ha, hb', q⟩ := h
  obtain rfl : v = Value.ref a := rx
  obtain rfl : u = Value.ref b := ry
  obtain ⟨_, J1, _⟩ := ins_get I.hok ha
  obtain ⟨_, J2, _⟩ := ins_get I.hok hb'
  obtain ⟨_, J1, _⟩ := J1.look
  obtain ⟨_, J2, _⟩ := J2.look
  refine Zo.own_binop I.kIn J1 J2 hl hs hf (wpAny_mono (run_fn (us := [.ref a, .ref b]) (vs := [.ref a, .ref b]) F hr hb .nil hx I (.cons rfl (.cons rfl .nil)) q) (fun w s' z => ?_) fun _ _ z => z)
  obtain ⟨z', H', I', rz, qz⟩ := z
  exact SlX.cmpback rz ⟨z', H', I', rz, qz⟩
theorem op_eqI (hs : PySem.W.findIn X.K (.ref C) "__eq__" = some (some (.ref g))) (hf : PySem.W.isFn X.K (.ref g) = true) (F : FnOk X.prog X.w X.K X.mg X.base CX k g fd ps sp)
    (hr : Room k X.A) (hb : Binds X.K fd ps []) (hx : Passes CX X E) : OpR X (compareOp .Eq) (rOwnI C sp E) := by
  intro pins s σ H x y v u Q I rx ry h
  obtain ⟨a, dx, fs, b, dy, gs, rfl, rfl, ha, hb', q⟩ := h
  obtain rfl : v = Value.ref a := rx
  obtain rfl : u = Value.ref b := ry
  obtain ⟨_, J1, _⟩ := ins_get I.hok ha
  obtain ⟨_, J2, _⟩ := ins_get I.hok hb'
  obtain ⟨_, J1, _⟩ := J1.look
  obtain ⟨_, J2, _⟩ := J2.look
  obtain ⟨m, hF⟩ := I.fr
  refine PySem.W.cmp_K (op := .Eq) (tb := .ref C) hr.units0 hF I.ok.mod.kin J1 J2.type (by simp [PySem.W.notFirst]) hs hf (wpAny_mono (run_fn (us := [.ref a, .ref b]) (vs := [.ref a, .ref b]) F hr hb .nil hx I (.cons rfl (.cons rfl .nil)) q) (fun w s' z => ?_) fun _ _ z => z)
  obtain ⟨z', H', I', rz, qz⟩ := z
  exact SlX.cmpback rz ⟨z', H', I', rz, qz⟩
/-- x != y -/
def rOwnNe (C : Addr) (sp : Sp) (E : XK) : R2 := fun x y H Q => ∃ a dx fs b dy gs, x = .ref a ∧ y = .ref b ∧ H a = some (.ins C dx fs) ∧ H b = some (.ins C dy gs) ∧ sp [x, y] H (fun z H' => ∃ r, z = .bl r ∧ Q (.bl (!r)) H') E
theorem op_neI (hne : PySem.W.findIn X.K (.ref C) "__ne__" = some (some (.builtin "object.__ne__"))) (hs : PySem.W.findIn X.K (.ref C) "__eq__" = some (some (.ref g))) (hf : PySem.W.isFn X.K (.ref g) = true) (hm : PySem.W.mroIn X.K C (.type "object") = some true)
    (F : FnOk X.prog X.w X.K X.mg X.base CX k g fd ps sp) (hr : Room (k + 1) X.A) (hb : Binds X.K fd ps []) (hx : Passes CX X E) : OpR X (compareOp .NotEq) (rOwnNe C sp E) := by
  intro pins s σ H x y v u Q I rx ry h
  obtain ⟨a, dx, fs, b, dy, gs, rfl, rfl, ha, hb', q⟩ := h
  obtain rfl : v = Value.ref a := rx
  obtain rfl : u = Value.ref b := ry
  obtain ⟨_, J1, _⟩ := ins_get I.hok ha
  obtain ⟨_, J2, _⟩ := ins_get I.hok hb'
  obtain ⟨_, J1, _⟩ := J1.look
  obtain ⟨_, J2, _⟩ := J2.look
  have hl := F.len _ _ _ _ q
  have r2 : Vals [V.ref a, V.ref b] [Value.ref a, Value.ref b] := .cons rfl (.cons rfl .nil)
  refine Zo.own_ne I.kIn J1 J2 ?hu hne hs hf hm (wpAny_call (codeAny_mono (F.run X.A.in1 X.stack s H ⟨[.ref a, .ref b], []⟩ [.ref a, .ref b] [.ref a, .ref b] _ E hr.in1 I.env0.in1 (by
    have := hb s [.ref a, .ref b] I.kIn (by simpa using hl)
    simpa using this) r2 q) fun r s' hq => ?_))
  case hu =>
    have h1 := hr.un
    omega
  cases r with
  | error e => exact hx pins σ H s e s' I hq
  | ok fl =>
    cases fl with
    | ret w =>
      obtain ⟨z, H', I', rz, r, rfl, qz⟩ := I.after hq
      obtain rfl : w = Value.bool r := rz
      exact ⟨r, rfl, .bl (!r), H', I', rfl, qz⟩
    | next => exact False.elim hq
    | brk => exact False.elim hq
    | cont => exact False.elim hq
/-- len(x) -/
def rLenI (C : Addr) (sp : Sp) (E : XK) : List V → Hp → VK → Prop := fun xs H Q => ∃ a dx fs, xs = [.ref a] ∧ H a = some (.ins C dx fs) ∧ sp [.ref a] H (fun z H' => ∃ n : Nat, n ≤ 100000000 ∧ z = .int n ∧ Q (.int n) H') E
theorem call_lenI (hs : PySem.W.findIn X.K (.ref C) "__len__" = some (some (.ref g))) (hf : PySem.W.isFn X.K (.ref g) = true) (F : FnOk X.prog X.w X.K X.mg X.base CX k g fd ps sp) (hr : Room (k + 1) X.A) (hb : Binds X.K fd ps []) (hx : Passes CX X E) : CallR X (.builtin "len") (rLenI C sp E) := by
  intro pins s σ H xs us Q I r h
  obtain ⟨a, dx, fs, rfl, ha, q⟩ := h
  rw [Vals.ref1 r]
  obtain ⟨_, J1, _⟩ := ins_get I.hok ha
  obtain ⟨_, J1, _⟩ := J1.look
  obtain ⟨m, hF⟩ := I.fr
  have hl := F.len _ _ _ _ q
  refine PySem.W.len_K hF I.ok.mod.kin J1 hs hf (wpAny_call (codeAny_mono (F.run X.A.in1 X.stack s H ⟨[.ref a], []⟩ [.ref a] [.ref a] _ E hr.in1 I.env0.in1 (by
    have := hb s [.ref a] I.kIn (by simpa using hl)
    simpa using this) (.cons rfl .nil) q) fun r s' hq => ?_))
  cases r with
  | error e => exact hx pins σ H s e s' I hq
  | ok fl =>
    cases fl with
    | ret w =>
      obtain ⟨z, H', I', rz, n, hn, rfl, qz⟩ := I.after hq
      obtain ⟨t, rfl⟩ := (show ∃ t, w = Value.int n t from rz)
      refine ⟨⟨by omega, by omega⟩, ?_⟩
      exact ⟨.int n, H', I'.kept (t' := s'.toks + 1) (fun _ _ e => e), ⟨_, rfl⟩, qz⟩
    | next => exact False.elim hq
    | brk => exact False.elim hq
    | cont => exact False.elim hq
end
end L2

set_option Elab.async false
set_option linter.all false
set_option maxRecDepth 100000
set_option maxHeartbeats 1000000
/-! v in x, x an instance with an own __contains__ -/
namespace Zo
open PySem PyProof.Rows PySem.W
section
variable {prog : Program} {w : World} {K : Frag} {A : Around} {E : Value → Shared → Prop} {s : Shared} {x C f : Addr} {ox : Obj} {od : Option Obj}
theorem own_in {Q : Bool → Shared → Prop} {v : Value} (X : K.In s.heap) (I : InstAt s.heap x ox C od) (hs : findIn K (.ref C) "__contains__" = some (some (.ref f))) (hf : isFn K (.ref f) = true)
    (h : wpAny (model prog w) A (call (.ref f) [.ref x, v]) (fun r s' => ∃ b, r = .bool b ∧ Q b s') E s) : wpAny (model prog w) A (contains (.ref x) v) Q E s := by
  unfold contains
  refine wpAny_holding ?_
  have e0 : stdlibNamesSay? (.ref x) v = none := by
    cases v <;> rfl
  simp only [e0]
  have sp : ∀ {α : Type} {k : Option Value → Sem α} {Q' : α → Shared → Prop}, wpAny (model prog w) A (k (some (.ref f))) Q' E s → wpAny (model prog w) A (specialOf (.ref x) "__contains__" >>= k) Q' E s := fun q => wpAny_bind (wpAny_bind (I.type.here ((looks_findIn X hs).here q)))
  refine sp ?_
  have e1 : ((some (Value.ref f) : Option Value) == some Value.none) = false := by rfl
  rw [e1]
  simp only [Bool.false_eq_true, if_false]
  unfold callSpecialUnlessNone?
  refine wpAny_bind (sp ?_)
  refine wpAny_holding (wpAny_bind ((bind_fn X _ (beq_iff_eq.mp hf)).here ?_))
  have e2 : (Value.ref f == Value.none) = false := by rfl
  simp only [e2, Bool.false_eq_true, if_false]
  refine wpAny_bind (wpAny_mono h (fun r s' hr => ?_) fun _ _ e => e)
  obtain ⟨b, rfl, hq⟩ := hr
  exact wpAny_pure (wpAny_truthy_bool hq)
end
end Zo

namespace L2
open PySem PySem.Spec PyProof.Rows
/-- v in x -/
def rOwnIn (C : Addr) (neg : Bool) (sp : Sp) (E : XK) : R2 := fun x y H Q => ∃ a dx fs, y = .ref a ∧ H a = some (.ins C dx fs) ∧ sp [y, x] H (fun z H' => ∃ r, z = .bl r ∧ Q (.bl (if neg then !r else r)) H') E
section
variable {X : Cx} {CX : CXT} {k : Nat} {C g : Addr} {fd : FuncData} {ps : List Str} {sp : Sp} {E : XK}
theorem run_in {pins : List (Addr × Obj)} {σ : St} {H : Hp} {s : Shared} {a dx : Addr} {fs : List (Str × V)} {x : V} {v : Value} {Q : V → Hp → Prop} {neg : Bool} {E1 : Value → Shared → Prop} (hE : E1 = X.xe)
    (hs : PySem.W.findIn X.K (.ref C) "__contains__" = some (some (.ref g))) (hf : PySem.W.isFn X.K (.ref g) = true) (F : FnOk X.prog X.w X.K X.mg X.base CX k g fd ps sp) (hr : Room k X.A) (hb : Binds X.K fd ps []) (hx : Passes CX X E)
    (I : Inv X pins σ H s) (rx : RelV x v) (ha : H a = some (.ins C dx fs)) (q : sp [.ref a, x] H (fun z H' => ∃ r, z = .bl r ∧ Q (.bl (if neg then !r else r)) H') E) :
    wpAny (model X.prog X.w) X.A (contains (.ref a) v) (fun b s' => EP X pins σ Q (.bool (if neg then !b else b)) s') E1 s := by
  subst hE
  obtain ⟨_, J1, _⟩ := ins_get I.hok ha
  obtain ⟨_, J1, _⟩ := J1.look
  refine Zo.own_in I.kIn J1 hs hf (wpAny_mono (run_fn (us := [.ref a, v]) (vs := [.ref a, x]) F hr hb .nil hx I (.cons rfl (.cons rx .nil)) q) (fun w s' z => ?_) fun _ _ z => z)
  obtain ⟨z', H', I', rz, r, rfl, qz⟩ := z
  obtain rfl : w = Value.bool r := rz
  exact ⟨r, rfl, .bl (if neg then !r else r), H', I', rfl, qz⟩
theorem op_inI (hs : PySem.W.findIn X.K (.ref C) "__contains__" = some (some (.ref g))) (hf : PySem.W.isFn X.K (.ref g) = true) (F : FnOk X.prog X.w X.K X.mg X.base CX k g fd ps sp)
    (hr : Room k X.A) (hb : Binds X.K fd ps []) (hx : Passes CX X E) : OpR X (compareOp .In) (rOwnIn C false sp E) := by
  intro pins s σ H x y v u Q I rx ry h
  obtain ⟨a, dx, fs, rfl, ha, q⟩ := h
  obtain rfl : u = Value.ref a := ry
  show wpAny (model X.prog X.w) X.A (contains (Value.ref a) v >>= fun b => (pure (Value.bool b) : Sem Value)) _ _ s
  exact wpAny_bind (wpAny_mono (run_in (neg := false) rfl hs hf F hr hb hx I rx ha q) (fun b s' z => wpAny_pure z) fun _ _ z => z)
theorem op_notInI (hs : PySem.W.findIn X.K (.ref C) "__contains__" = some (some (.ref g))) (hf : PySem.W.isFn X.K (.ref g) = true) (F : FnOk X.prog X.w X.K X.mg X.base CX k g fd ps sp)
    (hr : Room k X.A) (hb : Binds X.K fd ps []) (hx : Passes CX X E) : OpR X (compareOp .NotIn) (rOwnIn C true sp E) := by
  intro pins s σ H x y v u Q I rx ry h
  obtain ⟨a, dx, fs, rfl, ha, q⟩ := h
  obtain rfl : u = Value.ref a := ry
  show wpAny (model X.prog X.w) X.A (contains (Value.ref a) v >>= fun b => (pure (Value.bool (!b)) : Sem Value)) _ _ s
  exact wpAny_bind (wpAny_mono (run_in (neg := true) rfl hs hf F hr hb hx I rx ha q) (fun b s' z => wpAny_pure z) fun _ _ z => z)
end
end L2

set_option Elab.async false
set_option linter.all false
set_option maxRecDepth 100000
set_option maxHeartbeats 1000000
/-! own operators, on data -/
namespace Z
open PySem PySem.Spec PyProof.Rows L2
/-- a datum that is an instance of the class at C -/
def IsIns (K : PySem.W.Frag) (C : Addr) (β : Type) [Rp β] : Prop := ∀ (Δ : Gh) (H : Hp) (v : V) (b : β), Rp.rp K Δ H v b → ∃ a dx fs, v = .ref a ∧ H a = some (.ins C dx fs)
section
variable {K : PySem.W.Frag} {Γ : Own} {ρ : Z.Env} {ta tb te : TE} {α β γ : Type} [Rp α] [Rp β] [Rp γ] {C : Addr} {E : XK} {Pb : γ → Prop}
/-- a op b -/
theorem ev_binI {F : Own → List Cell → (γ → Prop) → Prop} {a b : β} (hI : IsIns K C β) (ha : Ev K Γ ta ρ (Is a)) (hb : Ev K Γ tb ρ (Is b)) (hF : F Γ [⟨a⟩, ⟨b⟩] Pb) : Ev K Γ (tOp (rOwnI C (spD K F) E) ta tb) ρ Pb := fun Δ σ H Q s hh e k =>
  ha Δ σ H _ s hh e fun v H1 a' pa e1 r1 => hb Δ σ H1 _ s e1.2 (e.mono e1.1) fun u H2 b' pb e2 r2 => by
    have ea : a' = a := pa
    have eb : b' = b := pb
    subst ea eb
    have r1' := Rp.mono e2.1 r1
    obtain ⟨p, dx, fs, rfl, hp⟩ := hI Δ H2 v _ r1'
    obtain ⟨q, dy, gs, rfl, hq⟩ := hI Δ H2 u _ r2
    exact ⟨p, dx, fs, q, dy, gs, rfl, rfl, hp, hq, Γ, Δ, [⟨a'⟩, ⟨b'⟩], Pb, hF, s, e2.2, ⟨r1', r2, trivial⟩, fun z H' c pc e3 r3 => k z H' c pc (e1.trans (e2.trans e3)) r3⟩
/-- a != b -/
theorem ev_neI {F : Own → List Cell → (Bool → Prop) → Prop} {a b : β} {r : Bool} (hI : IsIns K C β) (ha : Ev K Γ ta ρ (Is a)) (hb : Ev K Γ tb ρ (Is b)) (hF : F Γ [⟨a⟩, ⟨b⟩] (Is r)) : Ev K Γ (tOp (rOwnNe C (spD K F) E) ta tb) ρ (Is (!r)) := fun Δ σ H Q s hh e k =>
  ha Δ σ H _ s hh e fun v H1 a' pa e1 r1 => hb Δ σ H1 _ s e1.2 (e.mono e1.1) fun u H2 b' pb e2 r2 => by
    have ea : a' = a := pa
    have eb : b' = b := pb
    subst ea eb
    have r1' := Rp.mono e2.1 r1
    obtain ⟨p, dx, fs, rfl, hp⟩ := hI Δ H2 v _ r1'
    obtain ⟨q, dy, gs, rfl, hq⟩ := hI Δ H2 u _ r2
    exact ⟨p, dx, fs, q, dy, gs, rfl, rfl, hp, hq, Γ, Δ, [⟨a'⟩, ⟨b'⟩], Is r, hF, s, e2.2, ⟨r1', r2, trivial⟩, fun z H' c pc e3 r3 => ⟨c, r3, k _ H' (!c) (by rw [show c = r from pc]; rfl) (e1.trans (e2.trans e3)) rfl⟩⟩
/-- x in b, x not in b -/
theorem ev_inI {F : Own → List Cell → (Bool → Prop) → Prop} {x : α} {b : β} {r neg : Bool} (hI : IsIns K C β) (ha : Ev K Γ ta ρ (Is x)) (hb : Ev K Γ tb ρ (Is b)) (hF : F Γ [⟨b⟩, ⟨x⟩] (Is r)) : Ev K Γ (tOp (rOwnIn C neg (spD K F) E) ta tb) ρ (Is (if neg then !r else r)) := fun Δ σ H Q s hh e k =>
  ha Δ σ H _ s hh e fun v H1 a' pa e1 r1 => hb Δ σ H1 _ s e1.2 (e.mono e1.1) fun u H2 b' pb e2 r2 => by
    have ea : a' = x := pa
    have eb : b' = b := pb
    subst ea eb
    have r1' := Rp.mono e2.1 r1
    obtain ⟨q, dy, gs, rfl, hq⟩ := hI Δ H2 u _ r2
    exact ⟨q, dy, gs, rfl, hq, Γ, Δ, [⟨b'⟩, ⟨a'⟩], Is r, hF, s, e2.2, ⟨r2, r1', trivial⟩, fun z H' c pc e3 r3 => ⟨c, r3, k _ H' _ (by rw [show c = r from pc]; rfl) (e1.trans (e2.trans e3)) rfl⟩⟩
/-- len(b) -/
theorem ev_lenI {F : Own → List Cell → (Int → Prop) → Prop} {b : β} {n : Nat} (hI : IsIns K C β) (hb : Ev K Γ te ρ (Is b)) (hn : n ≤ 100000000) (hF : F Γ [⟨b⟩] (Is (n : Int))) : Ev K Γ (tCB (rLenI C (spD K F) E) (tCons te tNil)) ρ (Is (n : Int)) := fun Δ σ H Q s hh e k =>
  hb Δ σ H _ s hh e fun u H1 b' pb e1 r1 => by
    have eb : b' = b := pb
    subst eb
    obtain ⟨q, dy, gs, rfl, hq⟩ := hI Δ H1 u _ r1
    exact ⟨q, dy, gs, rfl, hq, Γ, Δ, [⟨b'⟩], Is (n : Int), hF, s, e1.2, ⟨r1, trivial⟩, fun z H' c pc e3 r3 => ⟨n, hn, by rw [show z = .int c from r3, show c = (n : Int) from pc], k _ H' (n : Int) rfl (e1.trans e3) rfl⟩⟩
end
end Z

set_option Elab.async false
set_option linter.all false
set_option maxRecDepth 100000
set_option maxHeartbeats 1000000
/-! == and != of lists and tuples of texts -/
namespace Z
open PySem PySem.Spec PyProof.Rows L2
theorem beq_tS (x y : Tx) : (tS x == tS y) = decide (x = y) := by
  by_cases h : x = y
  · subst h
    simp
  · rw [decide_eq_false h]
    exact beq_eq_false_iff_ne.mpr fun z => h (tS_inj.mp z)
theorem eqv_txs : ∀ xs ys : List Tx, PyData.eqvAll (xs.map Dt.d) (ys.map Dt.d) = decide (xs = ys)
  | [], [] => by simp [PyData.eqvAll]
  | [], y :: ys => by simp [PyData.eqvAll]
  | x :: xs, [] => by simp [PyData.eqvAll]
  | x :: xs, y :: ys => by
    have more := eqv_txs xs ys
    rw [List.map_cons, List.map_cons, PyData.eqvAll, more]
    show ((tS x == tS y) && _) = _
    rw [beq_tS]
    by_cases h : x = y <;> simp [h]
/-- texts that may be written -/
def TOk (xs : List Tx) : Prop := ∀ x ∈ xs, PyData.canLay0 (Dt.d x) = true
theorem lay_txs : ∀ {xs : List Tx}, TOk xs → PyData.canLayAll0 (xs.map Dt.d) = true ∧ PyData.depthAll (xs.map Dt.d) = 0
  | [], _ => by simp [PyData.canLayAll0, PyData.depthAll]
  | x :: xs, h => by
    have more := lay_txs (xs := xs) fun y hy => h y (List.mem_cons_of_mem _ hy)
    rw [List.map_cons, PyData.canLayAll0, PyData.depthAll, more.1, more.2]
    have h1 : PyData.canLay0 (Dt.d x) = true := h x List.mem_cons_self
    rw [h1]
    exact ⟨rfl, rfl⟩
theorem shaped_tS {xs : Tup Tx} (h : TOk xs.l) : SeqAt.shaped (Dt.d xs) = true := by
  unfold SeqAt.shaped
  show (PyData.canLay0 (.tuple _) && decide (PyData.depth (.tuple _) ≤ 64)) = true
  rw [PyData.canLay0, PyData.depth, (lay_txs h).1, (lay_txs h).2]
  rfl
theorem shaped_lS {xs : List Tx} (h : TOk xs) : SeqAt.shaped (Dt.d xs) = true := by
  unfold SeqAt.shaped
  show (PyData.canLay0 (.list _) && decide (PyData.depth (.list _) ≤ 64)) = true
  rw [PyData.canLay0, PyData.depth, (lay_txs h).1, (lay_txs h).2]
  rfl
section
variable {K : PySem.W.Frag}
theorem o2_eqTS {x y : Tup Tx} (hx : TOk x.l) (hy : TOk y.l) : Op2 K (rEqD K) x y (Is (decide (x.l = y.l))) := by
  rw [← eqv_txs x.l y.l]
  exact o2_eqD (shaped_tS hx) (shaped_tS hy)
theorem o2_neTS {x y : Tup Tx} (hx : TOk x.l) (hy : TOk y.l) : Op2 K (rNeD K) x y (Is (!decide (x.l = y.l))) := by
  rw [← eqv_txs x.l y.l]
  exact o2_neD (shaped_tS hx) (shaped_tS hy)
theorem o2_eqLS {x y : List Tx} (hx : TOk x) (hy : TOk y) : Op2 K (rEqD K) x y (Is (decide (x = y))) := by
  rw [← eqv_txs x y]
  exact o2_eqD (shaped_lS hx) (shaped_lS hy)
theorem o2_neLS {x y : List Tx} (hx : TOk x) (hy : TOk y) : Op2 K (rNeD K) x y (Is (!decide (x = y))) := by
  rw [← eqv_txs x y]
  exact o2_neD (shaped_lS hx) (shaped_lS hy)
end
end Z

set_option Elab.async false
set_option linter.all false
set_option maxRecDepth 100000
set_option maxHeartbeats 1000000
/-! properties and methods, on data -/
namespace Z
open PySem PySem.Spec PyProof.Rows L2
/-- a datum that is an instance of the class at C without an attribute m of its own -/
def IsInsM (K : PySem.W.Frag) (C : Addr) (m : Str) (β : Type) [Rp β] : Prop := ∀ (Δ : Gh) (H : Hp) (v : V) (b : β), Rp.rp K Δ H v b → ∃ a dx fs, v = .ref a ∧ H a = some (.ins C dx fs) ∧ fs.lookup m = none
section
variable {K : PySem.W.Frag} {Γ : Own} {ρ : Z.Env} {ta tb te : TE} {tl : TA} {α β γ : Type} [Rp α] [Rp β] [Rp γ] {C : Addr} {E : XK} {Pb : γ → Prop} {m : Str}
/-- b.m, a property -/
theorem ev_prop {F : Own → List Cell → (γ → Prop) → Prop} {b : β} (hI : IsIns K C β) (h : Ev K Γ te ρ (Is b)) (hF : F Γ [⟨b⟩] Pb) : Ev K Γ (tProp C (spD K F) [] E te) ρ Pb := fun Δ σ H Q s hh e k =>
  h Δ σ H _ s hh e fun v H1 b' pb e1 r1 => by
    have eb : b' = b := pb
    subst eb
    obtain ⟨p, dx, fs, rfl, hp⟩ := hI Δ H1 v _ r1
    exact ⟨p, dx, fs, rfl, hp, Γ, Δ, [⟨b'⟩], Pb, hF, s, e1.2, ⟨r1, trivial⟩, fun z H' c pc e3 r3 => k z H' c pc (e1.trans e3) r3⟩
/-- b.m(e, ..) -/
theorem ev_meth {F : Own → List Cell → (γ → Prop) → Prop} {b : β} {cs : List Cell} (hI : IsInsM K C m β) (h : Ev K Γ te ρ (Is b)) (ha : EvA K Γ tl ρ (Is cs)) (hF : F Γ (⟨b⟩ :: cs) Pb) : Ev K Γ (tMeth C m (spD K F) [] E te tl) ρ Pb := fun Δ σ H Q s hh e k =>
  h Δ σ H _ s hh e fun v H1 b' pb e1 r1 => by
    have eb : b' = b := pb
    subst eb
    obtain ⟨p, dx, fs, rfl, hp, hm⟩ := hI Δ H1 v _ r1
    refine ⟨p, dx, fs, rfl, hp, hm, ha Δ σ H1 _ s e1.2 (e.mono e1.1) fun vs H2 cs' pcs e2 r2 => ?_⟩
    have ec : cs' = cs := pcs
    subst ec
    exact ⟨Γ, Δ, ⟨b'⟩ :: cs', Pb, hF, s, e2.2, ⟨Rp.mono e2.1 r1, by rw [List.append_nil]; exact r2⟩, fun z H' c pc e3 r3 => k z H' c pc (e1.trans (e2.trans e3)) r3⟩
end
end Z

set_option Elab.async false
set_option linter.all false
set_option maxRecDepth 100000
set_option maxHeartbeats 1000000
/-! lists of one's own whose items are plain (ints, bools, texts): made, appended to, read, handed back -/
namespace Z
open PySem PySem.Spec PyProof.Rows L2
/-- data that a value bears whatever the heap -/
class Flat (α : Type) [Rp α] where
  val : α → V
  iff : ∀ {K : PySem.W.Frag} {Δ : Gh} {H : Hp} {v : V} {a : α}, Rp.rp K Δ H v a ↔ v = val a
instance : Flat Int := ⟨V.int, Iff.rfl⟩
instance : Flat Bool := ⟨V.bl, Iff.rfl⟩
instance : Flat Tx := ⟨fun x => .str (tS x), Iff.rfl⟩
section
variable {K : PySem.W.Frag} {Δ0 : Gh} {H0 : Hp} {Γ : Own} {F : List (V × Cell)} {ρ : Z.Env} {ta tb te : TE} {tz : TS} {D : Ends} {α : Type} [Rp α] [Flat α]
abbrev OwnL (p : Addr) (xs : List α) : Addr × (HO → Prop) := (p, ObIs (.lst (xs.map Flat.val)))
theorem all2_flat {Δ : Gh} {H : Hp} : ∀ xs : List α, All2 (fun (u : V) (a : α) => Rp.rp K Δ H u a) (xs.map Flat.val) xs
  | [] => trivial
  | x :: xs => ⟨Flat.iff.mpr rfl, all2_flat xs⟩
/-- name = [] -/
theorem wp_newL {i : Nat} (hi : i < ρ.length) (k : ∀ p, OwnP Δ0 Γ p → Wp K Δ0 H0 (OwnL p ([] : List α) :: Γ) F (ρ.set i (some ⟨(⟨p⟩ : Loc)⟩)) tz D) : Wp K Δ0 H0 Γ F ρ (tSeq (tAsg (tLst tNil) (gName i)) tz) D := fun σ H ⟨Δ, s, hh, e, f, e0, s1, s2⟩ => by
  refine ⟨by show 0 ≤ sizeLine; decide, fun p hp => ?_⟩
  obtain ⟨o, Δ', s', hh', e', f', e0', s1', s2'⟩ := own_newO (K := K) (o := .lst []) s hh e f e0 s1 s2 hp
  exact k p o _ _ ⟨Δ', s', hh', e'.set (c := ⟨(⟨p⟩ : Loc)⟩) hi rfl, f', e0', s1', s2'⟩
/-- name.append(e) -/
theorem wp_app {p : Addr} {xs : List α} {P : α → Prop} (o : OwnP Δ0 Γ p) (hz : xs.length < 50000) (ho : Ev K (OwnL p xs :: Γ) ta ρ (Is (⟨p⟩ : Loc))) (h : Ev K (OwnL p xs :: Γ) te ρ P)
    (k : ∀ a, P a → Wp K Δ0 H0 (OwnL p (xs ++ [a]) :: Γ) F ρ tz D) : Wp K Δ0 H0 (OwnL p xs :: Γ) F ρ (tSeq (tDrop (tBM K "list" rAppend ta (tCons te tNil))) tz) D := fun σ H ⟨Δ, s, hh, e, f, e0, s1, s2⟩ =>
  ho Δ σ H _ s hh e fun w H1 b pb e1 r1 => by
    have eb : b = ⟨p⟩ := pb
    subst eb
    have ew : w = .ref p := r1
    subst ew
    obtain ⟨u, hu, iu⟩ := e1.2 p _ (s _ List.mem_cons_self)
    have iu' : u = HO.lst _ := iu
    subst iu'
    refine ⟨.inl ⟨rfl, _, SqL.of hu⟩, h Δ σ H1 _ s e1.2 (e.mono e1.1) fun v H2 a pa e2 r2 => ?_⟩
    have e3 := e1.trans e2
    have ev : v = Flat.val a := Flat.iff.mp r2
    subst ev
    have st : Stt K Δ0 H0 (OwnL p xs :: Γ) F ρ σ H2 := ⟨Δ, s, e3.2, e.mono e3.1, fun q hq => q.2.r.mono e3.1 (f q hq), ext0 e0 s1 s2 e3, s1, s2⟩
    obtain ⟨hp, st'⟩ := own_putO (o2 := .lst ((xs ++ [a]).map Flat.val)) o st
    refine ⟨p, _, _, rfl, rfl, hp, ?_, ?_⟩
    · rw [List.length_map]
      exact Nat.lt_trans hz (by decide)
    · have e5 : xs.map Flat.val ++ [Flat.val a] = (xs ++ [a]).map Flat.val := by rw [List.map_append]; rfl
      rw [e5]
      exact k a pa σ _ st'
/-- return name -/
theorem wp_retL {R : List α → Prop} {p : Addr} {xs : List α} (o : OwnP Δ0 Γ p) (hf : Fin K Δ0 H0 R D) (hr : R xs) (ho : Ev K (OwnL p xs :: Γ) ta ρ (Is (⟨p⟩ : Loc))) : Wp K Δ0 H0 (OwnL p xs :: Γ) F ρ (tRet ta) D := fun σ H ⟨Δ, s, hh, e, f, e0, s1, s2⟩ =>
  ho Δ σ H _ s hh e fun w H1 b pb e1 r1 => by
    have eb : b = ⟨p⟩ := pb
    subst eb
    have ew : w = .ref p := r1
    subst ew
    obtain ⟨u, hu, iu⟩ := e1.2 p _ (s _ List.mem_cons_self)
    have iu' : u = HO.lst _ := iu
    subst iu'
    exact hf _ H1 xs hr (ext0 e0 s1 s2 e1) ⟨p, _, rfl, .inl ⟨o.n0, .inl hu⟩, .inl (.inl hu), all2_flat xs⟩
/-- one's own list as a datum, to read -/
theorem ev_ownL {p : Addr} {xs : List α} (hm : OwnL p xs ∈ Γ) {r : List V → Hp → VK → Prop} {γ : Type} [Rp γ] {P : γ → Prop} (ho : Ev K Γ ta ρ (Is (⟨p⟩ : Loc))) (hr : ∀ (Δ : Gh) (H : Hp) (Q : VK), Hold Δ H → H p = some (.lst (xs.map Flat.val)) → (∀ u H' c, P c → Ext Δ H H' → Rp.rp K Δ H' u c → Q u H') → r [.ref p] H Q) : Ev K Γ (tCB r (tCons ta tNil)) ρ P := fun Δ σ H Q s hh e k =>
  ho Δ σ H _ s hh e fun w H1 b pb e1 r1 => by
    have eb : b = ⟨p⟩ := pb
    subst eb
    have ew : w = .ref p := r1
    subst ew
    obtain ⟨u, hu, iu⟩ := e1.2 p _ (s _ hm)
    have iu' : u = HO.lst _ := iu
    subst iu'
    exact hr Δ H1 Q e1.2 hu fun u H' c pc e2 r2 => k u H' c pc (e1.trans e2) r2
theorem ev_lenO {p : Addr} {xs : List α} (hm : OwnL p xs ∈ Γ) (ho : Ev K Γ ta ρ (Is (⟨p⟩ : Loc))) : Ev K Γ (tCB (fun xs H Q => ∃ x n, xs = [x] ∧ LenV K x H n ∧ Q (.int n) H) (tCons ta tNil)) ρ (Is (xs.length : Int)) :=
  ev_ownL hm ho fun Δ H Q hh hp k => by
    refine ⟨.ref p, xs.length, rfl, .inl ⟨xs.map Flat.val, ?_, by rw [List.length_map]⟩, k _ H _ rfl (Ext.refl hh) rfl⟩
    exact .inl (.inl hp)
end
end Z

set_option Elab.async false
set_option linter.all false
set_option maxRecDepth 100000
set_option maxHeartbeats 1000000
/-! a comprehension with two for, its items plain -/
namespace Z
open PySem PySem.Spec PyProof.Rows L2
/-- a list that stands in the heap (no literal of the written part) -/
structure NL (α : Type) where
  l : List α
section
variable {α : Type} [Rp α]
instance : Rp (NL α) where
  rp K Δ H v xs := ∃ p vs, v = .ref p ∧ Δ p = none ∧ Rd H p (.lst vs) ∧ All2 (fun u a => Rp.rp K Δ H u a) vs xs.l
  mono k h := by
    obtain ⟨p, vs, e, n, r, q⟩ := h
    exact ⟨p, vs, e, n, rd_mono k n r, q.imp fun _ _ => Rp.mono k⟩
  weak w h := by
    obtain ⟨p, vs, e, n, r, q⟩ := h
    obtain ⟨u, hu⟩ := rd_some r
    exact ⟨p, vs, e, w _ _ hu n, r, q.imp fun _ _ => Rp.weak w⟩
variable {K : PySem.W.Frag} {Γ : Own} {ρ : Z.Env} {te : TE} {ta : TA}
/-- it is a list -/
theorem ev_ofNL {y : NL α} (h : Ev K Γ te ρ (Is y)) : Ev K Γ te ρ (Is y.l) := fun Δ σ H Q s hh e k => h Δ σ H Q s hh e fun v H' a pa e1 r => by
  have ea : a = y := pa
  subst ea
  obtain ⟨p, vs, rfl, n, hr, q⟩ := r
  exact k _ H' a.l rfl e1 ⟨p, vs, rfl, .inl ⟨n, hr⟩, .inl hr, q⟩
/-- [a, b, ..] -/
theorem ev_lstN {xs : List α} (h : EvA K Γ ta ρ (Is (xs.map fun a => ⟨a⟩))) (hz : xs.length ≤ 100000) : Ev K Γ (tLst ta) ρ (Is (⟨xs⟩ : NL α)) := fun Δ σ H Q s hh e k => h Δ σ H _ s hh e fun vs H' cs pcs e1 r => by
  have ec : cs = xs.map fun a => ⟨a⟩ := pcs
  subst ec
  have r' := All2.of_map r
  exact ⟨Nat.le_trans (Nat.le_of_eq r'.len) (Nat.le_trans hz (by decide)), fun p hp => k _ _ ⟨xs⟩ rfl (e1.trans (Ext.new e1.2 hp _)) ⟨p, vs, rfl, e1.2.fresh hp, .inl upd_same, r'.imp fun _ _ => Rp.mono (Ext.new e1.2 hp _).1⟩⟩
end
section
variable {K : PySem.W.Frag} {Γ : Own} {ρ : Z.Env} {te : TE} {β : Type} [Rp β] [Flat β]
theorem ev_lc2 {wi wi1 : TI} {g g1 : TG} {js js1 vs vs1 : List Nat} {n : Nat} {m : Nat → Nat} {st : Nat → Z.Env → Z.Env} {st1 : Nat → Nat → Z.Env → Z.Env} (Iv : Nat → Nat → List β → Prop) (S : Src K Γ wi g ρ js n st) (hjs : ∀ j ∈ js, j ∈ vs)
    (S1 : ∀ i, i < n → Src K Γ wi1 g1 (st i (wipeE ρ vs)) js1 (m i) (st1 i)) (hjs1 : ∀ j ∈ js1, j ∈ vs1) (h0 : Iv 0 0 []) (hz : ∀ i j acc, Iv i j acc → acc.length ≤ 50000)
    (hs : ∀ i j acc, i < n → j < m i → Iv i j acc → ∃ PV : β → Prop, Ev K Γ te (st1 i j (wipeE (st i (wipeE ρ vs)) vs1)) PV ∧ ∀ b, PV b → Iv i (j + 1) (acc ++ [b]))
    (hn : ∀ i acc, i < n → Iv i (m i) acc → Iv (i + 1) 0 acc) : Ev K Γ (tLc2 wi g tYes wi1 g1 tYes te vs vs1) ρ (fun y : NL β => Iv n 0 y.l) := fun Δ σ H Q s hh e k => S Δ σ H _ s hh e fun J H1 pv pc e1 rp0 hgo hyld => fun D hD => by
  have nD : Δ D = none := e1.2.fresh hD
  have eW : EnvOk K Δ (wipe σ vs) H1 (wipeE ρ vs) := (e.mono e1.1).wipe vs
  have kp : Keep (ghI Δ D (ObIs (.lst []))) H1 (upd H1 D (.lst [])) := fun a o _ q => by rw [upd_ne (ne_of_none q hD)]; exact q
  have W0 : DW K Δ H1 D pv pc (wipe σ vs) (wipeE ρ vs) (.lst (([] : List β).map Flat.val)) (upd H1 D (.lst [])) :=
    ⟨ghI_hold (fun a J _ h => e1.2 a J h) rfl, fun a o ha _ h => by rw [upd_ne ha]; exact h, pc.r.mono kp (pc.r.weak (ghI_new hD) rp0), (eW.weak (ghI_new hD)).mono kp⟩
  have wl : (wipeE ρ vs).length = ρ.length := by
    rw [← eW.1, wipe_length]
    exact e.1
  have sD : ∀ o, Sat Γ (ghI Δ D (ObIs o)) := fun o q hq => ghI_sat s nD q (List.mem_cons_of_mem _ hq)
  refine ⟨fun i t H2 => t = n - i ∧ i ≤ n ∧ ∃ acc : List β, DW K Δ H1 D pv pc (wipe σ vs) (wipeE ρ vs) (.lst (acc.map Flat.val)) H2 ∧ Iv i 0 acc, ⟨n, by simp, Nat.zero_le _, [], W0, h0⟩, ?_⟩
  rintro i t H2 ⟨rfl, hi, acc, c, iv⟩
  have hg := hgo _ H2 c.src
  by_cases hlt : i < n
  · refine .inr ⟨hg.1 i hlt, fun H3 => ∃ acc : List β, DW K Δ H1 D pv pc (wipe σ vs) (wipeE ρ vs) (.lst (acc.map Flat.val)) H3 ∧ Iv (i + 1) 0 acc, fun H' ⟨a', c', v'⟩ => ⟨n - (i + 1), by omega, rfl, hlt, a', c', v'⟩, fun x H3 hy => ?_⟩
    obtain ⟨e3, hput⟩ := hyld _ i H2 x H3 hlt c.hold c.src hy
    have c3 := c.next e3
    refine hput (wipe σ vs) (wipeE ρ vs) _ wl c3.env fun σ2 env2 hl2 hoff => ⟨wipe_off (by rw [hl2, wipe_length]) hjs hoff, ?_⟩
    change wi1 σ2 H3 _
    refine S1 i hlt _ σ2 H3 _ (sD _) e3.2 env2 fun J1 H4 pv1 pc1 e4 rp1 hgo1 hyld1 => ?_
    have c4 := c3.next e4
    have env4 := (env2.mono e4.1).wipe vs1
    have wl1 : (wipeE (st i (wipeE ρ vs)) vs1).length = (st i (wipeE ρ vs)).length := by
      rw [← env4.1, wipe_length]
      exact env2.1
    have d4 : DW K Δ H1 D pv1 pc1 (wipe σ2 vs1) (wipeE (st i (wipeE ρ vs)) vs1) (.lst (acc.map Flat.val)) H4 := ⟨c4.hold, c4.keep, rp1, env4⟩
    refine ⟨fun j t H5 => t = m i - j ∧ j ≤ m i ∧ ∃ acc : List β, DW K Δ H1 D pv pc (wipe σ vs) (wipeE ρ vs) (.lst (acc.map Flat.val)) H5 ∧ DW K Δ H1 D pv1 pc1 (wipe σ2 vs1) (wipeE (st i (wipeE ρ vs)) vs1) (.lst (acc.map Flat.val)) H5 ∧ Iv i j acc, ⟨m i, by simp, Nat.zero_le _, acc, c4, d4, iv⟩, ?_⟩
    rintro j t H5 ⟨rfl, hj, acc1, c5, d5, iv5⟩
    have hg1 := hgo1 _ H5 d5.src
    by_cases hlt1 : j < m i
    · refine .inr ⟨hg1.1 j hlt1, fun H6 => ∃ acc : List β, DW K Δ H1 D pv pc (wipe σ vs) (wipeE ρ vs) (.lst (acc.map Flat.val)) H6 ∧ DW K Δ H1 D pv1 pc1 (wipe σ2 vs1) (wipeE (st i (wipeE ρ vs)) vs1) (.lst (acc.map Flat.val)) H6 ∧ Iv i (j + 1) acc, fun H' ⟨a', c', d', v'⟩ => ⟨m i - (j + 1), by omega, rfl, hlt1, a', c', d', v'⟩, fun x1 H6 hy1 => ?_⟩
      obtain ⟨e6, hput1⟩ := hyld1 _ j H5 x1 H6 hlt1 d5.hold d5.src hy1
      have c6 := c5.next e6
      have d6 := d5.next e6
      refine hput1 (wipe σ2 vs1) (wipeE (st i (wipeE ρ vs)) vs1) _ wl1 d6.env fun σ3 env3 hl3 hoff3 => ⟨wipe_off (by rw [hl3, wipe_length]) hjs1 hoff3, ?_⟩
      obtain ⟨PV, hE, hb⟩ := hs i j acc1 hlt hlt1 iv5
      change te σ3 H6 _
      refine hE _ σ3 H6 _ (sD _) e6.2 env3 fun y H7 b pb e7 r7 => ?_
      have c7 := c6.next e7
      have d7 := d6.next e7
      have ey : y = Flat.val b := Flat.iff.mp r7
      subst ey
      have e8 : acc1.map Flat.val ++ [Flat.val b] = (acc1 ++ [b]).map Flat.val := by rw [List.map_append]; rfl
      refine ⟨acc1.map Flat.val, ghI_exact c7.hold, ?_, acc1 ++ [b], ?_, ?_, hb b pb⟩
      · rw [List.length_map]
        exact Nat.lt_of_le_of_lt (hz i j acc1 iv5) (by decide)
      · rw [← e8]
        exact c7.put
      · rw [← e8]
        exact d7.put
    · have ej : j = m i := by omega
      subst ej
      exact .inl ⟨hg1.2, acc1, c5, hn i acc1 hlt iv5⟩
  · have ei : i = n := by omega
    subst ei
    refine .inl ⟨hg.2, k (.ref D) H2 ⟨acc⟩ iv ⟨fun a o na h => ?_, fun a J h => ?_⟩ ⟨D, _, rfl, nD, .inl (ghI_exact c.hold), all2_flat acc⟩⟩
    · have h1 := e1.1 a o na h
      exact c.keep a o (ne_of_none h1 hD) na h1
    · have hne : a ≠ D := fun z => by
        rw [z, nD] at h
        cases h
      exact c.hold a J (by rw [ghI_other hne]; exact h)
end
end Z

set_option Elab.async false
set_option linter.all false
set_option maxRecDepth 100000
set_option maxHeartbeats 4000000
/-! yield from a list -/
namespace Zy
open PySem PySem.Spec PyProof.Rows L2
section
variable {prog : Program} {w : World} {A : Around} {E : Value → Shared → Prop} {s : Shared} {it l : Addr} {i : Nat} {items : Array Value}
/-- a turn that gives an item -/
theorem turn_item {x : Value} {Q : Option Value → Shared → Prop} (hit : s.heap.IsListIter it l i) (hl : s.heap.IsList l items) (hx : items[i]? = some x)
    (k : ∀ h', h'.IsListIter it l (i + 1) → Heap.SameBut it s.heap h' → Q (some x) { s with heap := h' }) : wpAny (model prog w) A (callSpecial? (.ref it) "__next__") Q E s := by
  have hT := hit.typeIs
  obtain ⟨io, hio, hic, hid⟩ := hit
  obtain ⟨lo, hlo, _, ln, hld⟩ := hl
  refine wpAny_callSpecial?_slot (name := Str.ofString "__next__") hT slot_listiter_next (wpAny_call_entry slot_listiter_next hT entry_listiter_next ?_ (args_listiter_next _))
  refine wpAny_bind (m := field (.ref it) 0) (wpAny_field hio hid (x := .ref l) rfl ?_)
  change wpAny _ _ (if (Value.ref l == Value.none) = true then _ else _) _ _ s
  rw [if_neg (fun z => by cases (show false = true from z))]
  refine wpAny_bind (m := field (.ref it) 1) (wpAny_field hio hid (x := .int i 0) rfl ?_)
  refine wpAny_bind (m := seqItems? (.ref l)) (wpAny_seqItems hlo hld ?_)
  simp only [Int.toNat_natCast, hx]
  refine wpAny_bind (wpAny_setField hio hid (by simp) (wpAny_pure ⟨x, rfl, k _ ⟨_, Heap.get?_update_self _ hio (Obj.isFreed_of_fields (Obj.data_mapFields hid _)), (Obj.cls_mapFields ..).trans hic, ?_⟩ (Heap.SameBut.update ..)⟩))
  rw [Obj.data_mapFields hid]
  simp [rawInt]
/-- the turn behind the last item -/
theorem turn_end {Q : Option Value → Shared → Prop} (hh : A.handled = none) (hit : s.heap.IsListIter it l i) (hl : s.heap.IsList l items) (hx : items[i]? = none)
    (k : ∀ e h', StopX e h' → Heap.ExtBut it s.heap h' → E e { s with heap := h' }) : wpAny (model prog w) A (callSpecial? (.ref it) "__next__") Q E s := by
  have hT := hit.typeIs
  obtain ⟨io, hio, hic, hid⟩ := hit
  obtain ⟨lo, hlo, _, ln, hld⟩ := hl
  refine wpAny_callSpecial?_slot (name := Str.ofString "__next__") hT slot_listiter_next (wpAny_call_entry slot_listiter_next hT entry_listiter_next ?_ (args_listiter_next _))
  refine wpAny_bind (m := field (.ref it) 0) (wpAny_field hio hid (x := .ref l) rfl ?_)
  change wpAny _ _ (if (Value.ref l == Value.none) = true then _ else _) _ _ s
  rw [if_neg (fun z => by cases (show false = true from z))]
  refine wpAny_bind (m := field (.ref it) 1) (wpAny_field hio hid (x := .int i 0) rfl ?_)
  refine wpAny_bind (m := seqItems? (.ref l)) (wpAny_seqItems hlo hld ?_)
  simp only [Int.toNat_natCast, hx]
  refine wpAny_bind (wpAny_rule (wpAny_bind (wpAny_setField hio hid (by simp) ?_)))
  refine wpAny_bind (m := newExc (.type "StopIteration") []) ?_
  simp only [newExc, newTuple]
  refine wpAny_bind (wpAny_newObj_type (wpAny_bind (m := firstArgMember _ _) (wpAny_of_eq (a := Value.none) (by first | rfl | (simp only [firstArgMember]; rfl)) (wpAny_newObj_type ?_ (by size_fits)))) (by size_fits))
  simp only [raiseNew]
  refine wpAny_bind (wpAny_handled ?_)
  rw [show A.in1.handled = none from hh]
  refine wpAny_bind (wpAny_pure (wpAny_throw (k _ _ ⟨_, _, _, rfl, Heap.get?_push_size _ rfl, rfl, rfl, ?_⟩ (((Heap.SameBut.update ..).extBut.push _).push _))))
  first
    | rfl
    | kernel_rfl
end
section
variable {X : Cx} {e : Expr} {te : TE}
/-- yield from e, e a list that stands in the heap -/
def tYfLst (te : TE) : TYf := fun σ H Q => te σ H fun x H1 => ∃ a xs, x = .ref a ∧ Rd H1 a (.lst xs) ∧ Q xs H1
theorem close_lst : typeLookup (.type "list_iterator") "close" = pure none := by rw [typeLookup_type, builtinLookup_eq_fast]; kernel_rfl
theorem yf_lst (he : PE X e te) : YfE X e (tYfLst te) := by
  refine ⟨fun pins s σ H Q I h => thn (he.run pins s σ H _ I h) fun v s1 ⟨x, H1, I1, r1, a, xs, ex, ha, hq⟩ => ?_⟩
  subst ex
  obtain rfl : v = Value.ref a := r1
  obtain ⟨its, rits, hl0, hlen⟩ := I1.list (.inl ha)
  have hl : s1.heap.IsList a its.toArray := hl0.isList
  obtain ⟨_, hob, _⟩ := id hl
  have hsome : H1 a ≠ none := fun z => by
    rcases ha with ha | ⟨u, ha⟩ <;> rw [z] at ha <;> cases ha
  refine ⟨"list", hl.typeIs, by decide, wpAny_pyIter_list hl ?_⟩
  let o : Obj := { cls := .type "list_iterator", data := .fields #[.ref a, .int 0 0] }
  have old : ∀ b u, s1.heap.get? b = some u → b ≠ s1.heap.objs.size := fun b u q => Nat.ne_of_lt (Heap.lt_size q)
  have kp : ∀ b u, s1.heap.get? b = some u → (s1.heap.push o).get? b = some u := fun b u q => Heap.get?_push_of_some _ q
  have hna : a ≠ s1.heap.objs.size := old a _ hob
  refine ⟨s1.heap.objs.size, H1, xs, fun j h => h.IsListIter s1.heap.objs.size a j ∧ h.IsList a its.toArray, rfl, I1.kept (t' := s1.toks) kp, .inr I1.sz, Nat.ne_of_gt I1.lt, fun y c hy => ?_, I1.hok.fresh (Nat.le_refl _), fun p hp => old p.1 _ (I1.pin p hp).1,
    ⟨⟨_, Heap.get?_push_size _ rfl, rfl, rfl⟩, hl.push _⟩, ⟨⟨"list_iterator", fun j h q => ?_, close_lst, by decide⟩, fun j h h' q hk => ?_, fun A' j x s2 Q' E' hA hx q hQ => ?_, fun A' s2 Q' E' hA q hE => ?_⟩, hq⟩
  · obtain ⟨v, u, hu, _⟩ := I1.cell y c hy
    exact old c u hu
  · obtain ⟨⟨u, hu, hc, _⟩, _⟩ := q
    exact ⟨u, hu, hc⟩
  · obtain ⟨⟨u, hu, r⟩, u2, hu2, r2⟩ := q
    exact ⟨⟨u, hk _ u (.inl rfl) hu, r⟩, u2, hk _ u2 (.inr hsome) hu2, r2⟩
  · obtain ⟨u, hu, ru⟩ := rits.get hx
    exact turn_item q.1 q.2 (x := u) (by simpa using hu) fun h' q1 hs => hQ u h' s2.toks ru ⟨q1, q.2.extBut hs.extBut hna⟩ fun b u hb eb => hs.extBut b u hb eb
  · have hnone : its.toArray[xs.length]? = none := by
      have q1 := rits.length
      have q2 : its[xs.length]? = none := List.getElem?_eq_none_iff.mpr (by omega)
      simpa using q2
    exact turn_end hA q.1 q.2 hnone fun e h' hS hk => hE e h' s2.toks hS fun b u hb eb => hk b u hb eb
end
end Zy

set_option Elab.async false
set_option linter.all false
set_option maxRecDepth 100000
set_option maxHeartbeats 1000000
/-! generator defs, on data -/
namespace Z
open PySem PySem.Spec PyProof.Rows L2
/-- what a generator def promises: in the end it has handed out data with P -/
def spG (K : PySem.W.Frag) {β : Type} [Rp β] (G : Own → List Cell → (List β → Prop) → Prop) : SpG := fun vs H cont _ => ∃ (Γ : Own) (Δ : Gh) (cs : List Cell) (P : List β → Prop), G Γ cs P ∧ Sat Γ Δ ∧ Hold Δ H ∧ ArgsOk K Δ H vs cs ∧
  ∀ (out : List V) (H' : Hp) (ys : List β), P ys → Ext Δ H H' → All2 (fun u a => Rp.rp K Δ H' u a) out ys → cont out H'
section
variable {K : PySem.W.Frag} {Γ : Own} {ρ : Z.Env} {ta : TA} {β : Type} [Rp β] {Pb : List β → Prop}
/-- list(g(..)) -/
theorem ev_listG {G : Own → List Cell → (List β → Prop) → Prop} {E : XK} {cs : List Cell} (ha : EvA K Γ ta ρ (Is cs)) (hG : G Γ cs Pb) : Ev K Γ (tListG (tCallG (spG K G) [] E ta)) ρ Pb := fun Δ σ H Q s hh e k =>
  ha Δ σ H _ s hh e fun vs H1 cs' pcs e1 r => by
    have ec : cs' = cs := pcs
    subst ec
    refine ⟨Γ, Δ, cs', Pb, hG, s, e1.2, by rw [List.append_nil]; exact r, fun out H' ys py e2 q p hp => ?_⟩
    have e3 := e1.trans e2
    exact k _ _ ys py (e3.trans (Ext.new e3.2 hp _)) (new_lst e3.2 hp q)
end
section
variable {K : PySem.W.Frag} {Δ0 : Gh} {H0 : Hp} {Γ : Own} {F : List (V × Cell)} {ρ : Z.Env} {te : TE} {D : GEnds} {ys : List V} {β : Type} [Rp β]
def WpG (K : PySem.W.Frag) (Δ0 : Gh) (H0 : Hp) (Γ : Own) (F : List (V × Cell)) (ρ : Z.Env) (t : TGn) (D : GEnds) (ys : List V) : Prop := ∀ σ H, Stt K Δ0 H0 Γ F ρ σ H → t D ys σ H
/-- a plain statement of a generator's body: as elsewhere, then the rest -/
theorem wpg_plain {t : TS} {u : TGn} (h : Wp K Δ0 H0 Γ F ρ (tSeq t fun _ σ H => u D ys σ H) (D.at ys)) : WpG K Δ0 H0 Γ F ρ (tGThen (tPlain t) u) D ys := fun σ H st => h σ H st
theorem wpg_rest {u : TGn} (h : WpG K Δ0 H0 Γ F ρ u D ys) : Wp K Δ0 H0 Γ F ρ (fun _ σ H => u D ys σ H) (D.at ys) := fun σ H st => h σ H st
/-- yield from a list, at the end -/
theorem wpg_from {P : NL β → Prop} (hs : ys = []) (h : Ev K Γ te ρ P) (hz : ∀ xs, P xs → xs.l.length ≤ 50000)
    (hf : ∀ (out : List V) (σ : L2.St) (H' : Hp) (xs : NL β), P xs → Ext Δ0 H0 H' → All2 (fun u a => Rp.rp K Δ0 H' u a) out xs.l → D.nx out σ H') : WpG K Δ0 H0 Γ F ρ (tGThen (tGFrom (Zy.tYfLst te)) tG0) D ys := fun σ H ⟨Δ, s, hh, e, f, e0, s1, s2⟩ => by
  subst hs
  refine h Δ σ H _ s hh e fun v H1 xs px e1 r => ?_
  obtain ⟨p, vs, rfl, n, hr, q⟩ := r
  refine ⟨p, vs, rfl, hr, ?_, ?_⟩
  · have hl := hz xs px
    rw [q.len, List.length_nil]
    exact Nat.le_trans (by omega) (show 50000 ≤ sizeLine by decide)
  · exact hf _ σ H1 xs px (ext0 e0 s1 s2 e1) (q.imp fun _ _ => Rp.weak fun x o _ n => none0 s1 n)
end
section
variable {P : Program} {w : World} {K : PySem.W.Frag} {mg : Str → Option Value} {base : Heap} {β : Type} [Rp β]
theorem def_okG {x qual : Str} {args : Arguments} {body : List Stmt} {scope : Scope} {dvs : List V} {kws : List (Str × V)} {f : Addr} {fd : FuncData} {N ps : List Str} {k : Nat} {G : Own → List Cell → (List β → Prop) → Prop}
    (Fn : FunD K x qual args body scope dvs kws f fd) (S : GScope N ps scope) (len : ∀ Γ cs R, G Γ cs R → cs.length = ps.length)
    (hb : ∀ (cdv : Value) (A : Around) (outer : List PySem.Env) (s : Shared) (H : Hp) (E : XK) (pn : List (Addr × Obj)), Room k (A.deeper (envOfC qual scope s.heap.objs.size f cdv)) →
      ∀ (Γ : Own) (cs : List Cell) (R : List β → Prop), G Γ cs R → ∃ t, GSs (gcxOf P w K mg base N qual scope f cdv A outer s H E pn) body t ∧
        ∀ (Δ0 : Gh) (D : GEnds), (∀ (out : List V) (σ : L2.St) (H' : Hp) (xs : List β), R xs → Ext Δ0 H H' → All2 (fun u a => Rp.rp K Δ0 H' u a) out xs → D.nx out σ H') → WpG K Δ0 H Γ [] (env0 N cs) t D []) :
    GFn P w K mg base (k + 1) f fd ps (spG K G) := by
  obtain ⟨oc, od, dV, kV, doc, pm, an, cdv, ct, osl, rfl, lk, hcd, _, _⟩ := Fn.ex
  refine gfn_of lk hcd S (fun vs H Q E h => ?_) fun A outer s H vs Q E pn hr h => ?_
  · obtain ⟨Γ, Δ, cs, R, g, _, _, a, _⟩ := h
    rw [All2.len a]
    exact len Γ cs R g
  · obtain ⟨Γ, Δ, cs, R, g, sa, hh, a, q⟩ := h
    obtain ⟨t, ht, hw⟩ := hb cdv A outer s H E pn hr Γ cs R g
    exact ⟨t, ht, hw Δ _ (fun out σ H' xs rx e q2 => q out H' xs rx e q2) _ H ⟨Δ, sa, hh, start_ok a, fun z hz => (nomatch hz), Ext.refl hh, fun _ _ z => z, fun x n m => absurd n m⟩⟩
end
end Z

set_option Elab.async false
set_option linter.all false
set_option maxRecDepth 100000
set_option maxHeartbeats 1000000
/-! a generator that sleeps while its taker puts the item behind a list and changes some further objects of its own (B): so a comprehension may walk it -/
namespace Zw
open PySem PySem.Spec PyProof.Rows L2 GenW
/-- while the generator sleeps: v goes behind the list at S, what stands at B may change -/
structure Idle (S : Addr) (B : List Addr) (v : Value) (s s' : Shared) : Prop where
  same : s'.os = s.os
  plain : AllBare s'.gens
  rest : ∀ a u, a ≠ S → a ∉ B → s.heap.get? a = some u → s'.heap.get? a = some u
  put : ∀ xs k, s.heap.get? S = some (lstObj xs k) → ∃ k', s'.heap.get? S = some (lstObj (xs.push v) k')
  live : ∀ a ∈ B, ∀ u, s.heap.get? a = some u → ∃ u', s'.heap.get? a = some u' ∧ ∀ z, u'.data ≠ .cell z
/-- the taker's object is none of the generator's -/
structure Off (X : Cx) (a : Addr) : Prop where
  young : X.s_0.heap.objs.size ≤ a
  loc : a ≠ X.env.locals
  cell : ∀ x c, X.env.cells.lookup x = some c → c ≠ a
  pn : ∀ p ∈ X.pn, p.1 ≠ a
/-- amid a run: ys is out; what the taker holds stands as it stood when the generator was woken (z0) -/
def Gj (X : Cx) (S : Addr) (B : List Addr) (ys : List V) (σ : L2.St) (H : Hp) (z0 s : Shared) : Prop :=
  ∃ (xs : Array Value) (k : Nat), Vals ys xs.toList ∧ (∀ a ∈ B, ∃ u, z0.heap.get? a = some u) ∧ Inv X ((S, lstObj xs k) :: pinsAt B z0.heap) σ H s
section
variable {X : Cx} {S : Addr} {B : List Addr} {ys : List V} {σ : L2.St} {H : Hp} {z0 s s' : Shared}
theorem Gj.list (h : Gj X S B ys σ H z0 s) : H S = none ∧ ∃ (xs : Array Value) (k : Nat), Vals ys xs.toList ∧ s.heap.get? S = some (lstObj xs k) := by
  obtain ⟨xs, k, r, _, I⟩ := h
  obtain ⟨q1, q2, _⟩ := I.pin (S, lstObj xs k) (List.mem_append_right _ List.mem_cons_self)
  exact ⟨q2, xs, k, r, q1⟩
theorem Gj.held (h : Gj X S B ys σ H z0 s) {a : Addr} (ha : a ∈ B) {u : Obj} (hu : z0.heap.get? a = some u) : s.heap.get? a = some u ∧ H a = none ∧ a ≠ X.env.locals ∧ a ∉ X.fs := by
  obtain ⟨xs, k, _, _, I⟩ := h
  obtain ⟨q1, q2, q3, q4, _⟩ := I.pin (a, u) (List.mem_append_right _ (List.mem_cons_of_mem _ (mem_pinsAt ha hu)))
  exact ⟨q1, q2, q3, q4⟩
theorem Gj.wake {x : V} {v : Value} (oS : Off X S) (oB : ∀ a ∈ B, Off X a) (h : Gj X S B ys σ H z0 s) (rv : RelV x v) (z : Idle S B v s s') : Gj X S B (ys ++ [x]) σ H s' s' := by
  have hB : ∀ a ∈ B, ∃ u, s.heap.get? a = some u ∧ H a = none ∧ a ≠ X.env.locals ∧ a ∉ X.fs := fun a ha => by
    obtain ⟨u, hu⟩ := (let ⟨_, _, _, q, _⟩ := h; q a ha)
    exact ⟨u, h.held ha hu⟩
  obtain ⟨xs, k, r, _, I⟩ := h
  obtain ⟨eS, S0, SL, SF, _⟩ := I.pin (S, lstObj xs k) (List.mem_append_right _ List.mem_cons_self)
  have I0 : Inv X [] σ H s := I.pins_of fun p hp => nomatch hp
  obtain ⟨z1, z2, z3, z4, z5⟩ := z
  obtain ⟨k', eS'⟩ := z4 xs k eS
  have out : ∀ {a : Addr}, a ∉ S :: B → a ≠ S ∧ a ∉ B := fun {a} ha => ⟨fun e => ha (by rw [e]; exact List.mem_cons_self), fun e => ha (List.mem_cons_of_mem _ e)⟩
  have track : ∀ {a : Addr} {o : HO}, H a = some o → a ≠ S ∧ a ∉ B := by
    intro a o q
    constructor
    · intro e
      rw [e, S0] at q
      cases q
    · intro e
      obtain ⟨_, _, n, _⟩ := hB a e
      rw [n] at q
      cases q
  obtain ⟨hh, g, d, t, o⟩ := s'
  have eo : o = s.os := z1
  subst eo
  have J : Inv X [] σ H { s with heap := hh, gens := g, drawn := d, toks := t } := by
    refine I0.step (g' := g) (t' := t) (d' := d) (ch := S :: B) (fun a ha => ?_) (fun a u _ _ hc q _ => z3 a u (out hc).1 (out hc).2 q) (fun a u _ _ hc q _ => ⟨u.slots, z3 a u (out hc).1 (out hc).2 q⟩)
      (fun _ _ _ _ n => n) (fun a u hc q => ⟨u, z3 a u (out hc).1 (out hc).2 q⟩) (fun _ _ q => q) (fun _ _ _ q => q) (fun a ps q => ⟨#[], by rw [q]; simp⟩) (fun m hm => ?_) (fun a u q => ?_) z2
    · have oa : Off X a := by
        rcases List.mem_cons.mp ha with e | e
        · rw [e]; exact oS
        · exact oB a e
      exact ⟨.inr oa.young, oa.loc, oa.cell, fun p hp => oa.pn p (by simpa using hp)⟩
    · obtain ⟨u, es, ep, hu, q⟩ := hm
      refine ⟨u, es, ep, z3 _ u (Ne.symm SL) (fun e => ?_) hu, q⟩
      obtain ⟨_, _, _, n, _⟩ := hB _ e
      exact n rfl
    · refine (I0.hok a u q).stay (fun c v hc y => ?_) (fun _ y => y) fun _ _ y => y
      have tc : c ≠ S ∧ c ∉ B := by
        rcases hc with y | y
        · rw [y]; exact track q
        · exact track y
      exact z3 c v tc.1 tc.2 y
  have news : ∀ a ∈ B, ∃ u, hh.get? a = some u ∧ ∀ y, u.data ≠ .cell y := fun a ha => by
    obtain ⟨u, hu, _⟩ := hB a ha
    exact z5 a ha u hu
  refine ⟨xs.push v, k', ?_, fun a ha => (news a ha).imp fun u q => q.1, J.pins_of fun p hp => ?_⟩
  · rw [Array.toList_push]
    exact r.append (.cons rv .nil)
  · rcases List.mem_cons.mp hp with e | e
    · rw [e]
      exact ⟨eS', S0, SL, SF, fun y q => nomatch q⟩
    · obtain ⟨q1, q2⟩ := of_pinsAt e
      obtain ⟨u, hu, hc⟩ := news _ q1
      obtain ⟨_, _, n, l, f⟩ := hB _ q1
      have eu : p.2 = u := Option.some.inj (q2.symm.trans hu)
      exact ⟨q2, n, l, f, by rw [eu]; exact hc⟩
end
def Yj (X : Cx) (S : Addr) (B : List Addr) : Protocol := fun n z0 v s kap => ∃ ys x σ H, n + 1 + ys.length = sizeLine ∧ RelV x v ∧ Gj X S B ys σ H z0 s ∧ ∀ s', Idle S B v s s' → kap (.send .none) s'
def Rj (X : Cx) (S : Addr) (B : List Addr) (Q : List V → VK) : GenEnd := fun n z0 r s => match r with
  | .ok (.ret u) => ∃ ys v σ H, n + ys.length = sizeLine ∧ Gj X S B ys σ H z0 s ∧ RelV v u ∧ Q ys v H
  | _ => False
def Fj (X : Cx) (S : Addr) (B : List Addr) (D : GEnds) (ys : List V) (z0 : Shared) (f : Flow) (s : Shared) : Prop :=
  match f with
  | .next => ∃ σ H, Gj X S B ys σ H z0 s ∧ D.nx ys σ H
  | .brk => ∃ σ H, Gj X S B ys σ H z0 s ∧ D.bk ys σ H
  | .cont => ∃ σ H, Gj X S B ys σ H z0 s ∧ D.ct ys σ H
  | .ret u => ∃ v σ H, Gj X S B ys σ H z0 s ∧ RelV v u ∧ D.rt ys v H
/-- where its code stands, and the taker's objects -/
structure At (X : Cx) (S : Addr) (B : List Addr) (A : Around) (c : Code) (fs : List Frame) (gd : Bool → Bool) : Prop where
  oS : Off X S
  oB : ∀ a ∈ B, Off X a
  over : A.over c fs = X.A
  split : splitAtGen fs = none
  guard : fs.any Frame.guarded = false
  gd : gd false = false
structure Goal (X : Cx) (S : Addr) (B : List Addr) (A : Around) (R : GenEnd) (c : Code) (fs : List Frame) (K : Flow → Sem PySem.Fin) (J : Value → Sem PySem.Fin) (D : GEnds) : Prop where
  ok : ∀ (n : Nat) (ys : List V) (z0 s : Shared) (f : Flow), n + ys.length = sizeLine → Fj X S B D ys z0 f s → Seg (model X.prog X.w) A R (Yj X S B) n z0 c (K f) fs s
  exc : ∀ (n : Nat) (z0 : Shared) (e : Value) (s : Shared), X.xe e s → Seg (model X.prog X.w) A R (Yj X S B) n z0 c (J e) fs s
def Runs1 (X : Cx) (S : Addr) (B : List Addr) (body : (Flow → Sem PySem.Fin) → (Value → Sem PySem.Fin) → (Bool → Bool) → (List Value → List Value) → Sem PySem.Fin) (t : TGn) : Prop :=
  ∀ (A : Around) (R : GenEnd) (n : Nat) (ys : List V) (z0 : Shared) (c : Code) (fs : List Frame) (K : Flow → Sem PySem.Fin) (J : Value → Sem PySem.Fin) (gd : Bool → Bool) (lv : List Value → List Value) (s : Shared) (σ : L2.St) (H : Hp) (D : GEnds),
    At X S B A c fs gd → n + ys.length = sizeLine → Goal X S B A R c fs K J D → Gj X S B ys σ H z0 s → t D ys σ H → Seg (model X.prog X.w) A R (Yj X S B) n z0 c (body K J gd lv) fs s
def Sj (X : Cx) (st : Stmt) (t : TGn) : Prop := ∀ S B, Runs1 X S B (fun K J gd lv => (exec st X.env).wrap K J gd lv) t
def Bj (X : Cx) (body : List Stmt) (t : TGn) : Prop := ∀ S B, Runs1 X S B (fun K J gd lv => (execs body X.env).wrap K J gd lv) t
section
variable {X : Cx} {st : Stmt} {rest : List Stmt}
theorem bj_nil : Bj X [] tG0 := fun S B A R n ys z0 c fs K J gd lv s σ H D at' hn k h ht => seg_execs_nil (k.ok n ys z0 s .next hn ⟨σ, H, h, ht⟩)
theorem bj_cons {t u : TGn} (a : Sj X st t) (b : Bj X rest u) : Bj X (st :: rest) (tGThen t u) := fun S B A R n ys z0 c fs K J gd lv s σ H D at' hn k h ht =>
  seg_execs_cons (a S B A R n ys z0 c fs _ J gd lv s σ H { D with nx := fun ys' σ' H' => u D ys' σ' H' } at' hn ⟨fun n1 ys1 y0 s1 f hn1 hf => by
    match f, hf with
    | .next, ⟨σ1, H1, h1, q⟩ => exact b S B A R n1 ys1 y0 c fs K J gd lv s1 σ1 H1 D at' hn1 k h1 q
    | .brk, hf => exact k.ok n1 ys1 y0 s1 .brk hn1 hf
    | .cont, hf => exact k.ok n1 ys1 y0 s1 .cont hn1 hf
    | .ret u, hf => exact k.ok n1 ys1 y0 s1 (.ret u) hn1 hf, k.exc⟩ h ht)
/-- a statement that hands out nothing -/
theorem sj_plain {t : TS} (h : PS X st t) : Sj X st (tPlain t) := fun S B A R n ys z0 c fs K J gd lv s σ H D at' hn k hj ht => by
  obtain ⟨xs, j, r, b0, I⟩ := hj
  refine seg_wrap ?_
  rw [at'.over]
  refine wpAny_mono (h.run _ s σ H (D.at ys) I ht) (fun f s1 hs => k.ok n ys z0 s1 f hn ?_) fun x s1 hx => k.exc n z0 x s1 hx
  cases f with
  | next => obtain ⟨σ1, H1, I1, q⟩ := hs; exact ⟨σ1, H1, ⟨xs, j, r, b0, I1⟩, q⟩
  | brk => obtain ⟨σ1, H1, I1, q⟩ := hs; exact ⟨σ1, H1, ⟨xs, j, r, b0, I1⟩, q⟩
  | cont => obtain ⟨σ1, H1, I1, q⟩ := hs; exact ⟨σ1, H1, ⟨xs, j, r, b0, I1⟩, q⟩
  | ret u => obtain ⟨v, σ1, H1, I1, r1, q⟩ := hs; exact ⟨v, σ1, H1, ⟨xs, j, r, b0, I1⟩, r1, q⟩
/-- one turn of the delegate, and the ones behind it -/
theorem seg_from {S : Addr} {B : List Addr} {A : Around} {R : GenEnd} {fs : List Frame} {it : Addr} {xs ys : List V} {Sg : Nat → Heap → Prop} {σ : L2.St} {H : Hp} (oS : Off X S) (oB : ∀ a ∈ B, Off X a)
    (young : it ∈ X.ex ∨ X.s_0.heap.objs.size ≤ it) (hL : it ≠ X.env.locals) (hcell : ∀ x c, X.env.cells.lookup x = some c → c ≠ it) (hSi : it ≠ S) (hBi : it ∉ B) (hpn : ∀ p ∈ X.pn, p.1 ≠ it) (hH : H it = none) (q : QIt X H it xs Sg)
    (ho : (A.over (.builtin "proto.yield_from" ⟨[.ref it, .bool false, .none], []⟩) fs).handled = none) (hsp : splitAtGen fs = none) (hgd : fs.any Frame.guarded = false) (hle : ys.length + xs.length ≤ sizeLine)
    (fin : ∀ (n : Nat) (z0 s : Shared), n + (ys ++ xs).length = sizeLine → Gj X S B (ys ++ xs) σ H z0 s → Seg (model X.prog X.w) A R (Yj X S B) n z0 (.builtin "proto.yield_from" ⟨[.ref it, .bool false, .none], []⟩) (.pure (.done (.ret .none))) fs s) :
    ∀ (r j n : Nat) (z0 s : Shared), j + r = xs.length → n + (ys.length + j) = sizeLine → Gj X S B (ys ++ xs.take j) σ H z0 s → Sg j s.heap →
      Seg (model X.prog X.w) A R (Yj X S B) n z0 (.builtin "proto.yield_from" ⟨[.ref it, .bool false, .none], []⟩) ((model X.prog X.w).den (.builtin "proto.yield_from" ⟨[.ref it, .bool false, .none], []⟩)) fs s := by
  obtain ⟨T, hT, hcl, hng⟩ := q.ty
  have moved : ∀ {us : List V} {z0 s : Shared} {h1 : Heap} {tk : Nat}, Gj X S B us σ H z0 s → (∀ b o, b ≠ it → s.heap.get? b = some o → h1.get? b = some o) → Gj X S B us σ H z0 { s with heap := h1, toks := tk } := fun {us z0 s h1 tk} hj hk => by
    obtain ⟨ac, j, r, b0, I⟩ := hj
    refine ⟨ac, j, r, b0, I.turned (it := it) hk hH hL young hcell fun p hp => ?_⟩
    rcases List.mem_append.mp hp with hp | hp
    · exact hpn p hp
    · rcases List.mem_cons.mp hp with e | e
      · rw [e]; exact Ne.symm hSi
      · exact fun z => hBi (by rw [← z]; exact (of_pinsAt e).1)
  intro r
  induction r with
  | zero =>
    intro j n z0 s hj hn hI hst
    obtain rfl : j = xs.length := by omega
    rw [List.take_length] at hI
    rw [den_yf]
    unfold Builtin.«proto.yield_from»
    try dsimp only
    refine seg_bind (wpAny_pure ?_)
    skip
    refine seg_bind (wpAny_attempt (wpAny_holding ?_))
    rw [if_neg Bool.false_ne_true, if_pos (by rfl)]
    refine wpAny_bind (wpAny_rule (wpAny_bind (q.done _ s _ _ ho hst fun e h1 tk hS hk => ?_)))
    obtain ⟨a, o, vs, rfl, e1, e2, e3, e4⟩ := hS
    try dsimp only
    refine seg_bind (wpAny_endsTurn e1 e2 ?_)
    try dsimp only
    rw [if_pos rfl]
    first
      | exact seg_bind (wpAny_rule (seg_bind (wpAny_field e1 e3 e4 (fin n z0 _ (by rw [List.length_append]; exact hn) (moved hI hk)))))
      | (rw [if_neg Bool.false_ne_true]; exact seg_bind (wpAny_rule (seg_bind (wpAny_field e1 e3 e4 (fin n z0 _ (by rw [List.length_append]; exact hn) (moved hI hk))))))
      | (rw [if_neg Bool.false_ne_true]; exact seg_bind (wpAny_pure (seg_bind (wpAny_rule (seg_bind (wpAny_field e1 e3 e4 (fin n z0 _ (by rw [List.length_append]; exact hn) (moved hI hk))))))))
  | succ r ih =>
    intro j n z0 s hj hn hI hst
    have hx : xs[j]? = some (xs[j]'(by omega)) := List.getElem?_eq_getElem (by omega)
    generalize xs[j]'(by omega) = x at hx
    obtain ⟨n, rfl⟩ : ∃ m, n = m + 1 := ⟨n - 1, by omega⟩
    have tl : (xs.take j).length = j := by rw [List.length_take]; omega
    rw [den_yf]
    unfold Builtin.«proto.yield_from»
    try dsimp only
    refine seg_bind (wpAny_pure ?_)
    skip
    refine seg_bind (wpAny_attempt (wpAny_holding ?_))
    rw [if_neg Bool.false_ne_true, if_pos (by rfl)]
    refine wpAny_bind (wpAny_rule (wpAny_bind (q.item _ j x s _ _ ho hx hst fun v h1 tk rv hst1 hk => ?_)))
    have G1 := moved (tk := tk) hI hk
    obtain ⟨oi, ei, ec⟩ := hT (j + 1) h1 hst1
    refine wpAny_pure ?_
    try dsimp only
    refine seg_bind (wpAny_typeOf (T := T) ⟨oi, ei, ec⟩ ?_)
    try dsimp only
    first
      | (refine seg_bind (wpAny_of_eq hcl ?_); refine seg_bind (wpAny_pure ?_))
      | refine seg_bind (wpAny_bind (wpAny_of_eq hcl (wpAny_pure ?_)))
      | refine seg_bind (wpAny_of_eq hcl ?_)
    try dsimp only
    refine seg_bind (wpAny_sleptOver ei ec hng ?_)
    refine seg_yield hsp rfl hgd ⟨ys ++ xs.take j, x, σ, H, by rw [List.length_append, tl]; exact hn, rv, G1, fun s2 z => ?_⟩
    have G2 := G1.wake oS oB rv z
    have hst2 : Sg (j + 1) s2.heap := q.frame (j + 1) h1 s2.heap hst1 fun b o hb e => z.rest b o (fun hm => ?_) (fun hm => ?_) e
    · obtain ⟨oj, ej, ejc⟩ := hT (j + 1) s2.heap hst2
      have et : ys ++ xs.take j ++ [x] = ys ++ xs.take (j + 1) := by
        rw [List.append_assoc, List.take_add_one, hx]; rfl
      rw [et] at G2
      show Seg _ _ _ _ n s2 _ (Builtin.Generator.sleptOver (.ref it) false >>= fun _ => _) fs s2
      refine seg_bind (wpAny_sleptOver ej ejc hng ?_)
      try dsimp only
      refine seg_bind (wpAny_pure ?_)
      exact seg_again (plainId_quiet plain_yf _) (ih (j + 1) n s2 s2 (by omega) (by omega) G2 hst2)
    · rcases hb with y | y
      · exact hSi (y.symm.trans hm)
      · exact y (by rw [hm]; exact G1.list.1)
    · rcases hb with y | y
      · exact hBi (by rw [← y]; exact hm)
      · obtain ⟨u, hu⟩ := (let ⟨_, _, _, q0, _⟩ := G1; q0 b hm)
        exact y (G1.held hm hu).2.1
theorem sj_from {e : Expr} {yp pos : Pos} {t : TYf} (he : YfE X e t) (hc : X.A.handled = none) (hi : interactive X.env = false := by rfl) : Sj X (.Expr (.YieldFrom e yp) pos) (tGFrom t) := fun S B A R n ys z0 c fs K J gd lv s σ H D at' hn k hj ht => by
  rw [exec_Expr X.env _ pos hi rfl]
  show Seg _ _ _ _ n z0 c (.at pos fun _ => ((eval e X.env >>= fun v => (standAt yp >>= fun _ => yieldFrom X.env v)) >>= fun y => dropValue (.YieldFrom e yp) pos y).wrap K J gd lv) fs s
  refine seg_at ?_
  obtain ⟨ac, j, r, b0, I⟩ := hj
  refine segw_bind2 ?_
  rw [at'.over]
  refine wpAny_mono (he.run _ s σ H _ I ht) (fun v s1 hv => ?_) fun x s1 hx => k.exc n z0 x s1 hx
  obtain ⟨T, hT, hne, hit⟩ := hv
  refine seg_at ?_
  show Seg _ _ _ _ n z0 c ((yieldFrom X.env v).wrap (fun b => (dropValue (.YieldFrom e yp) pos b).wrap K J gd lv) J gd lv) fs s1
  unfold yieldFrom
  refine seg_bind_wrap (wpAny_typeOf hT ?_)
  rw [if_neg (by rw [hne]; exact Bool.false_ne_true)]
  refine seg_bind_wrap (wpAny_holding ?_)
  rw [at'.over]
  refine wpAny_mono hit (fun u s2 hu => ?_) fun x s1 hx => k.exc n z0 x s1 hx
  obtain ⟨it, H1, xs, Sg, rfl, I2, y1, y2, y3, y4, y5, y6, y7, hle, hq⟩ := hu
  refine seg_call fun p => ?_
  have hSi : it ≠ S := fun z => y5 (S, lstObj ac j) (List.mem_append_right _ List.mem_cons_self) z.symm
  have hBi : it ∉ B := fun z => by
    obtain ⟨u, hu⟩ := b0 it z
    exact y5 (it, u) (List.mem_append_right _ (List.mem_cons_of_mem _ (mem_pinsAt z hu))) rfl
  refine seg_from (xs := xs) (ys := ys) at'.oS at'.oB y1 y2 y3 hSi hBi (fun p hp => y5 p (List.mem_append_left _ hp)) y4 y7 ?_ ?_ ?_ hle (fun n1 y0 s1 hn1 hG => ?_) xs.length 0 n z0 s2 (Nat.zero_add _) hn ⟨ac, j, by rw [List.take_zero, List.append_nil]; exact r, b0, I2⟩ y6
  · show (A.over c fs).handled = none
    rw [at'.over]; exact hc
  · show (splitAtGen fs).map _ = none
    rw [at'.split]; rfl
  · show (gd false || fs.any Frame.guarded) = false
    rw [at'.gd, at'.guard]; rfl
  · exact seg_leaf (.ok (.ret .none)) (k.ok n1 (ys ++ xs) y0 s1 .next hn1 ⟨σ, H1, hG, hq⟩)
end
end Zw

set_option Elab.async false
set_option linter.all false
set_option maxRecDepth 100000
set_option maxHeartbeats 1000000
/-! the promise of a generator def whose generator may be walked by a comprehension; no exception leaves it -/
namespace Zw
open PySem PySem.Spec PyProof.Rows L2 GenW
abbrev noX : XK := fun _ _ _ => False
/-- the end of a run: the frame is left, all that was handed out stands in S, and what the taker holds stands -/
def EndJ (P : Program) (w : World) (outer : List Env) (H : Hp) (s : Shared) (S : Addr) (B : List Addr) (Q : List V → Hp → Prop) : GenEnd := fun _ z0 r s1 =>
  ((r = .ok (.ret .none) ∨ r = .ok .next) ∧ ∃ H1 ys xs k, s1.os = s.os ∧ AllBare s1.gens ∧ Un (frs outer) [] H H1 s.heap s1.heap ∧ HOk P w H1 s1.heap ∧ H1 S = none ∧ s1.heap.get? S = some (lstObj xs k) ∧ Vals ys xs.toList ∧ ys.length ≤ sizeLine ∧ Q ys H1 ∧
    ∀ a ∈ B, ∀ u, z0.heap.get? a = some u → s1.heap.get? a = some u ∧ H1 a = none) ∨ ∃ e, r = .error e ∧ False
def ItemJ (s : Shared) (S : Addr) (B : List Addr) (a : Addr) (g : Nat) : Protocol := fun n z0 v s1 kap =>
  s1.os = s.os ∧ AllBare s1.gens ∧ s1.heap.NoLimit ∧ s1.heap.IsGen a g ∧ (∃ (xs : Array Value) (k : Nat), s1.heap.get? S = some (lstObj xs k) ∧ n + 1 + xs.size = sizeLine) ∧ (∀ b ∈ B, ∀ u, z0.heap.get? b = some u → s1.heap.get? b = some u) ∧
    ∀ s', Idle S B v s1 s' → kap (.send .none) s'
/-- a generator that was just made -/
def MadeJ (P : Program) (w : World) (k : Nat) (outer : List Env) (H : Hp) (s : Shared) (Q : List V → Hp → Prop) (u : Value) (s' : Shared) : Prop :=
  ∃ (a : Addr) (g : Nat) (c : Code), u = .ref a ∧ s.heap.objs.size ≤ a ∧ a < s'.heap.objs.size ∧ s'.heap.IsGen a g ∧ s'.gens[g]? = some (.fresh c) ∧ s'.os = s.os ∧ AllBare s'.gens ∧ s'.heap.NoLimit ∧ (∀ b o, s.heap.get? b = some o → s'.heap.get? b = some o) ∧
    ∀ (A : Around) (S : Addr) (B : List Addr) (s2 : Shared), Room k A → A.frames = some outer → s'.heap.objs.size ≤ S → (∀ b ∈ B, s'.heap.objs.size ≤ b) → S ∉ B → (∀ b o, s'.heap.get? b = some o → s2.heap.get? b = some o) → (∃ c, s2.heap.get? S = some (lstObj #[] c)) →
      (∀ b ∈ B, ∃ o, s2.heap.get? b = some o ∧ ∀ z, o.data ≠ .cell z) → s2.os = s.os → AllBare s2.gens → Seg (model P w) A (EndJ P w outer H s S B Q) (ItemJ s S B a g) sizeLine s2 c ((model P w).den c) [] s2
structure GFnJ (P : Program) (w : World) (K : PySem.W.Frag) (mg : Str → Option Value) (base : Heap) (k : Nat) (f : Addr) (fd : FuncData) (ps : List Str) (sp : SpG) : Prop where
  len : ∀ vs H Q E, sp vs H Q E → vs.length = ps.length
  run : ∀ (A : Around) (outer : List Env) (s : Shared) (H : Hp) (args : Args) (us : List Value) (vs : List V) (Q : List V → Hp → Prop), Room k A → Env0 P w K mg base A outer s H → BindsTo s fd args (ps.zip us) → Vals vs us → sp vs H Q noX →
    codeAny (model P w) A (.call (.ref f) args) (fun r s' => match r with | .ok (.ret u) => MadeJ P w k outer H s Q u s' | _ => False) s
theorem gfnJ_of {P : Program} {w : World} {K : PySem.W.Frag} {mg : Str → Option Value} {base : Heap} {k : Nat} {f : Addr} {name qual : Str} {params : Arguments} {body : List Stmt} {scope : Scope} {dV kV doc pm cdv ct oc : Value} {an od : Option Addr}
    {osl : Array (Option Value)} {N ps : List Str} {sp : SpG} (lk : K.lookup f = some ⟨oc, od, .func (PySem.W.fnOf name qual params body scope dV kV doc pm an cdv ct), osl⟩) (hcd : PySem.W.codeIn K cdv qual = true) (Sc : GScope N ps scope)
    (len : ∀ vs H Q E, sp vs H Q E → vs.length = ps.length)
    (hbody : ∀ (A : Around) (outer : List Env) (s : Shared) (H : Hp) (vs : List V) (Q : List V → Hp → Prop) (pn : List (Addr × Obj)), Room k (A.deeper (envOfC qual scope s.heap.objs.size f cdv)) → sp vs H Q noX →
      ∃ t, Bj (gcxOf P w K mg base N qual scope f cdv A outer s H noX pn) body t ∧ t { nx := fun ys _ H' => Q ys H', rt := fun ys v H' => v = .non ∧ Q ys H' } [] (start N vs) H) :
    GFnJ P w K mg base (k + 1) f (PySem.W.fnOf name qual params body scope dV kV doc pm an cdv ct) ps sp := by
  refine ⟨len, fun A outer s H args us vs Q hr e0 hb r hsp => ?_⟩
  have hl := len _ _ _ _ hsp
  have inK : K.In s.heap := e0.mod.kin.keeps fun b o e => (e0.bs b o e).1
  have noL : s.heap.NoLimit := e0.mod.nolimit.keeps fun b o e => (e0.bs b o e).1
  have kinds : ∀ y ∈ ps.zip us, scope.names.lookup y.1 = some .local ∨ (scope.names.lookup y.1 = some .cell ∧ ((cellsFrom (s.heap.objs.size + 1) scope.names []).lookup y.1).isSome = true) := fun ⟨m, v⟩ hy =>
    (Sc.par m (List.of_mem_zip hy).1).imp id fun q => ⟨q, PySem.W.cellsFrom_some _ _ _ (.inl q)⟩
  refine codeAny_call_generator hr.depth (inK _ _ lk) rfl Sc.co Sc.gen rfl (PySem.W.codeRec_of inK hcd) (hb _ _ _ _ ?_)
  refine wpAny_newFunctionEnv_cells Sc.kind kinds fun env he s1 x => ?_
  subst he
  refine ⟨noL.keeps x.toInCall.keep, ?_⟩
  obtain ⟨h1, tk, es1, hk1⟩ := x.done
  have os1 : s1.os = s.os := by rw [es1]
  have gs1 : s1.gens = s.gens := by rw [es1]
  have up : s.heap.objs.size < s1.heap.objs.size := x.toInCall.ns.lt
  have kp : ∀ b o, s.heap.get? b = some o → s1.heap.get? b = some o := x.toInCall.keep
  have main : ∀ (go : Obj) (nm qn : Value) (tk2 : Nat), go.cls = .type "generator" → go.data = .fields #[.int s1.gens.size 0, nm, qn] → go.slots = #[] → (∀ h : Heap, (h.push go).get? h.objs.size = some go) →
      MadeJ P w (k + 1) outer H s Q (.ref s1.heap.objs.size) { s1 with gens := s1.gens.push (.fresh (.func body (envOfC qual scope s.heap.objs.size f cdv))), toks := tk2, heap := s1.heap.push go } := by
    intro go nm qn tk2 c1 c2 c3 gp
    have isG : ∀ h : Heap, h.get? s1.heap.objs.size = some go → h.IsGen s1.heap.objs.size s1.gens.size := fun h e => ⟨go, nm, qn, e, c1, c2, c3⟩
    have at1 : (s1.heap.push go).get? s1.heap.objs.size = some go := gp _
    refine ⟨s1.heap.objs.size, s1.gens.size, _, rfl, Nat.le_of_lt up, ?_, isG _ at1, Array.getElem?_push_size .., os1, ?_, (noL.keeps kp).keeps fun b o e => Heap.get?_push_of_some _ e, fun b o e => Heap.get?_push_of_some _ (kp b o e), ?_⟩
    · show _ < (s1.heap.push _).objs.size
      rw [Heap.size_push]; exact Nat.lt_succ_self _
    · exact AllBare.push (by rw [gs1]; exact e0.bare) rfl
    intro Aw Sx B s2 hrw hfr hSx hBx hSB hk2 hSo hBo hos hba
    obtain ⟨t, ht, hq⟩ := hbody Aw outer s H vs Q [(s1.heap.objs.size, go)] (hrw.deeper _) hsp
    have I1 : Inv (gcxOf P w K mg base N qual scope f cdv Aw outer s H noX []) [] (start N vs) H s1 := inv_startG Sc hrw.hd ⟨hfr, e0.mod, e0.bs, e0.bsz, e0.funs, e0.frf, e0.hok, e0.bare⟩ hl r x
    have kp2 : ∀ b o, s1.heap.get? b = some o → s2.heap.get? b = some o := fun b o e => hk2 b o (Heap.get?_push_of_some _ e)
    have I2 : Inv (gcxOf P w K mg base N qual scope f cdv Aw outer s H noX []) [] (start N vs) H s2 := I1.call' (ch := []) (hos.trans os1.symm) (Un.kept kp2) (I1.hok.kept kp2) hba fun b z => nomatch z
    have big : ∀ b, (s1.heap.push go).objs.size ≤ b → s1.heap.objs.size < b := fun b hb => by rw [Heap.size_push] at hb; exact hb
    have young : ∀ b, s1.heap.objs.size ≤ b → H b = none ∧ b ≠ s.heap.objs.size ∧ b ∉ frs outer ∧ s.heap.objs.size ≤ b ∧ ∀ y c, (cellsFrom (s.heap.objs.size + 1) scope.names []).lookup y = some c → c ≠ b := fun b hb =>
      ⟨I1.hok.fresh hb, Nat.ne_of_gt (Nat.lt_of_lt_of_le up hb), I1.nofs hb, Nat.le_trans (Nat.le_of_lt up) hb, fun y c e z => by
        obtain ⟨v, ob, ho, _⟩ := I1.cell y c e
        have lt := Heap.lt_size ho
        rw [z] at lt
        exact Nat.lt_irrefl _ (Nat.lt_of_lt_of_le lt hb)⟩
    have off : ∀ b, s1.heap.objs.size < b → Off (gcxOf P w K mg base N qual scope f cdv Aw outer s H noX [(s1.heap.objs.size, go)]) b := fun b hb => by
      obtain ⟨_, y2, _, y4, y5⟩ := young b (Nat.le_of_lt hb)
      exact ⟨y4, y2, y5, fun p hp => by rw [List.mem_singleton.mp hp]; exact Nat.ne_of_lt hb⟩
    obtain ⟨cS, eS⟩ := hSo
    have eg : s2.heap.get? s1.heap.objs.size = some go := hk2 s1.heap.objs.size go at1
    have G : Gj (gcxOf P w K mg base N qual scope f cdv Aw outer s H noX [(s1.heap.objs.size, go)]) Sx B [] (start N vs) H s2 s2 := by
      refine ⟨#[], cS, .nil, fun b hb => (hBo b hb).imp fun o q => q.1, I2.pinnedG fun p hp => ?_⟩
      rcases List.mem_append.mp hp with z | z
      · rw [List.mem_singleton.mp z]
        obtain ⟨y1, y2, y3, _, _⟩ := young s1.heap.objs.size (Nat.le_refl _)
        exact ⟨eg, y1, y2, y3, fun v q => by rw [c2] at q; cases q⟩
      · rcases List.mem_cons.mp z with z | z
        · rw [z]
          obtain ⟨y1, y2, y3, _, _⟩ := young Sx (Nat.le_of_lt (big _ hSx))
          exact ⟨eS, y1, y2, y3, fun v q => nomatch q⟩
        · obtain ⟨q1, q2⟩ := of_pinsAt z
          obtain ⟨y1, y2, y3, _, _⟩ := young p.1 (Nat.le_of_lt (big _ (hBx _ q1)))
          obtain ⟨o, ho, hc⟩ := hBo _ q1
          have eo : p.2 = o := Option.some.inj (q2.symm.trans ho)
          exact ⟨q2, y1, y2, y3, by rw [eo]; exact hc⟩
    have genAt : ∀ {ys : List V} {z0 s' : Shared} {σ' : L2.St} {H' : Hp}, Gj (gcxOf P w K mg base N qual scope f cdv Aw outer s H noX [(s1.heap.objs.size, go)]) Sx B ys σ' H' z0 s' → s'.heap.IsGen s1.heap.objs.size s1.gens.size := fun {ys z0 s' σ' H'} hj => by
      obtain ⟨_, _, _, _, J⟩ := hj
      exact isG _ (J.pin (s1.heap.objs.size, go) (List.mem_append_left _ (List.mem_singleton.mpr rfl))).1
    refine seg_func (seg_imp (R := Rj (gcxOf P w K mg base N qual scope f cdv Aw outer s H noX [(s1.heap.objs.size, go)]) Sx B (fun ys v H' => v = .non ∧ Q ys H')) (Y := Yj (gcxOf P w K mg base N qual scope f cdv Aw outer s H noX [(s1.heap.objs.size, go)]) Sx B) (fun n z0 r s' hR => ?_) (fun n z0 v s' kap kap' hkk hY => ?_) sizeLine ?_)
    · match r, hR with
      | .ok (.ret u), ⟨ys, v, σ1, H1, hn, hG, rv, ev, hQ⟩ =>
        subst ev
        obtain rfl : u = Value.none := rv
        obtain ⟨a1, xs, j, ra, ea⟩ := hG.list
        have hB2 : ∀ a ∈ B, ∀ u, z0.heap.get? a = some u → s'.heap.get? a = some u ∧ H1 a = none := fun a ha u hu => ⟨(hG.held ha hu).1, (hG.held ha hu).2.1⟩
        obtain ⟨_, _, _, _, J⟩ := hG
        exact .inl ⟨.inl rfl, H1, ys, xs, j, J.os, J.bare, J.base, J.hok, a1, ea, ra, by omega, hQ, hB2⟩
    · obtain ⟨ys, y, σ1, H1, hn, h2, hG, h3⟩ := hY
      obtain ⟨_, xs, j, ra, ea⟩ := hG.list
      have hg := genAt hG
      have hB2 : ∀ a ∈ B, ∀ u, z0.heap.get? a = some u → s'.heap.get? a = some u := fun a ha u hu => (hG.held ha hu).1
      obtain ⟨_, _, _, _, J⟩ := hG
      have hz : xs.size = ys.length := by
        have q1 := ra.length
        have q2 : xs.toList.length = xs.size := Array.length_toList
        omega
      exact ⟨J.os, J.bare, J.nolimit, hg, ⟨xs, j, ea, by rw [hz]; exact hn⟩, hB2, fun s3 z => hkk _ _ (h3 s3 z)⟩
    · refine ht Sx B Aw _ sizeLine [] s2 _ [] _ _ id id s2 (start N vs) H _ ⟨off _ (big _ hSx), fun b hb => off _ (big _ (hBx b hb)), over_func, rfl, rfl, rfl⟩ (Nat.add_zero _) ⟨fun n ys z0 s' fl hn hf => ?_, fun n z0 e s' hx => ?_⟩ G hq
      · match fl, hf with
        | .next, ⟨σ1, H1, hG, hQ⟩ => exact seg_end (.ok (.ret .none)) ⟨ys, .non, σ1, H1, hn, hG, rfl, rfl, hQ⟩
        | .brk, ⟨_, _, _, q⟩ => exact q.elim
        | .cont, ⟨_, _, _, q⟩ => exact q.elim
        | .ret u, ⟨v, σ1, H1, hG, rv, ev, hQ⟩ => exact seg_end (.ok (.ret u)) ⟨ys, v, σ1, H1, hn, hG, rv, ev, hQ⟩
      · refine seg_wrap ?_
        rw [over_func]
        refine wpAny_mono (show wpAny (model P w) (Aw.deeper (envOfC qual scope s.heap.objs.size f cdv)) (leaving (envOfC qual scope s.heap.objs.size f cdv) e) (fun _ s'' => CX P w outer H s noX e s'' ∧ ∀ p ∈ [(s1.heap.objs.size, go)], s''.heap.get? p.1 = some p.2) (fun _ _ => False) s' from hx) (fun _ s'' q => ?_) fun _ s'' q => q.elim
        obtain ⟨⟨_, _, _, _, _, _, _, _, _, _, _, _, hW⟩, _⟩ := q
        exact hW.elim
  exact main _ _ _ _ rfl rfl rfl fun h => Heap.get?_push_size _ rfl
end Zw

set_option Elab.async false
set_option linter.all false
set_option maxRecDepth 100000
set_option maxHeartbeats 1000000
/-! [x for x in g(..)] -/
namespace Zw
open PySem PySem.Spec PyProof.Rows L2 GenW
section
variable {X : Cx} {k : Nat} {f : Addr} {fd : FuncData} {ps : List Str} {sp : SpG} {dvs : List V} {ds : List Value} {x : Str} {p pos pos' : Pos} {ta : TE}
structure PGenJ (X : Cx) (k : Nat) (e : Expr) (tg : TGen) : Prop where
  run : ∀ (pins : List (Addr × Obj)) (s : Shared) (σ : L2.St) (H : Hp) (cont : List V → Hp → Prop), Inv X pins σ H s → tg σ H cont → wpAny (model X.prog X.w) X.A (eval e X.env)
    (fun u s' => ∃ H1 sc, Inv X pins σ H1 sc ∧ MadeJ X.prog X.w k X.stack H1 sc cont u s') X.xe s
theorem pgenJ_call {e : Expr} {es : List Expr} {t : TA} (F : GFnJ X.prog X.w X.K X.mg X.base k f fd ps sp) (hr : Room k X.A) (hg : Gl X x) (hm : X.mg x = some (.ref f)) (hk : PySem.W.keepIn X.K (.ref f) = true) (hb : Binds X.K fd ps ds) (hd : Vals dvs ds)
    (ha : PA X (e :: es) t) (hdb : (x == ("__debug__" : Str)) = false := by decide) (he : starEach (e :: es) X.env = (false, eval e X.env) :: starEach es X.env := by rfl) (hpl : (backTo pos' (starEach es X.env)).any (·.1) = false := by rfl) :
    PGenJ X k (.Call (.Name x p) (e :: es) [] pos') (tCallG sp dvs noX t) := by
  refine ⟨fun pins s σ H cont I h => wpAny_Call_Name_kw (ld_glob I hg hm ?_ hdb)⟩
  refine PySem.W.callWith_K (h₀ := X.base) I.ok.mod.kin hk (thn (ha.run pos' pins s σ H _ I h) fun us s1 ⟨vs, H1, I1, r, q⟩ => ⟨I1.kIn, ?_⟩) he hpl
  have r2 : Vals (vs ++ dvs) (us ++ ds) := r.append hd
  refine wpAny_call (codeAny_mono (F.run X.A X.stack s1 H1 ⟨us, []⟩ (us ++ ds) (vs ++ dvs) cont hr I1.env0 (hb s1 us I1.kIn (by rw [← r2.length]; exact F.len _ _ _ _ q)) r2 q) fun r s' hq => ?_)
  match r, hq with
  | .ok (.ret u), hq => exact ⟨H1, s1, I1, hq⟩
/-- what the loop has at the head of a turn -/
def Turns (P : Program) (w : World) (A : Around) (outer : List Env) (H : Hp) (sc : Shared) (S L a : Addr) (g : Nat) (Q : List V → Hp → Prop) (m : Nat) (s : Shared) : Prop :=
  s.heap.IsGen a g ∧ s.heap.NoLimit ∧ (∃ mp, s.heap.Ns L mp) ∧ ∃ gs, s.gens[g]? = some gs ∧ gs.Goes (model P w) A.in1 (EndJ P w outer H sc S [L] Q) (ItemJ sc S [L] a g) m (.send .none) (s.setGen g .running)
theorem push_none : ∀ (names : List (Str × NameKind)) (h : Heap), (∀ y ∈ names, y.2 = .local) → pushCells h names = h
  | [], _, _ => rfl
  | (n, k) :: r, h, q => by
    have e : k = .local := q (n, k) List.mem_cons_self
    subst e
    unfold pushCells
    rw [if_neg (by decide)]
    exact push_none r h fun y hy => q y (List.mem_cons_of_mem _ hy)
theorem pe_lcGen {e : Expr} {tg : TGen} {scope : Scope} {p1 p2 : Pos} (h : PGenJ X k e tg) (hr : Room (k + 3) X.A) (hkind : scope.kind = .function) (hlk : scope.names.lookup x = some .local) (hnm : ∀ y ∈ scope.names, y.2 = .local ∧ scope.names.lookup y.1 = some .local) (hs : ∀ y, foldedSetIterable e X.env y = pure y := by intro _; rfl) (hdb : (x == ("__debug__" : Str)) = false := by decide) :
    PE X (.ListComp (.Name x p1) [⟨.Name x p2, e, [], 0⟩] scope pos) (tListG tg) := by
  refine ⟨fun pins s σ H Q I hq => ?_⟩
  rw [eval_ListComp]
  refine wpAny_comprehension_free (use := none) rfl hs (closure_ok fun y hy e => ?_) hkind (fun y hy e => ?_) (thn (h.run pins s σ H _ I hq) fun u s1 ⟨H1, sc, I1, a, g, c, eu, ha1, ha2, hg, hgs, hos, hb, hl, hkp, wake⟩ => ?_)
  · rw [(hnm y hy).1] at e
    cases e
  · exact (hnm y hy).2
  subst eu
  refine wpAny_pyIter_gen hg ?_
  refine wpAny_newObj_type (newEnv_comp ?_) (by show 0 ≤ sizeLine; decide)
  generalize hS : s1.heap.objs.size = S
  generalize hs2 : ({ s1 with heap := s1.heap.push { cls := .type "list", data := .seq ([] : List Value).toArray } } : Shared) = s2
  have h2 : s2.heap = s1.heap.push { cls := .type "list", data := .seq ([] : List Value).toArray } := by rw [← hs2]
  have g2 : s2.gens = s1.gens := by rw [← hs2]
  have o2 : s2.os = s1.os := by rw [← hs2]
  have z2 : s2.heap.objs.size = S + 1 := by rw [h2, Heap.size_push, hS]
  have eS2 : s2.heap.get? S = some (lstObj #[] 0) := by rw [h2, ← hS]; exact Heap.get?_push_size _ rfl
  generalize hL : s2.heap.objs.size = L at *
  have hpc : pushCells (s2.heap.push { cls := .type "dict", data := .dict #[] }) scope.names = s2.heap.push { cls := .type "dict", data := .dict #[] } := push_none _ _ fun y hy => (hnm y hy).1
  have k12 : ∀ b o, s1.heap.get? b = some o → s2.heap.get? b = some o := fun b o q => by rw [h2]; exact Heap.get?_push_of_some _ q
  generalize hce : compEnvC scope (cellsFrom (L + 1) scope.names (cloFrom X.env.cells scope.names [])) L X.env = ce
  have ceL : ce.locals = L := by rw [← hce]; rfl
  have cek : ce.kindOf x = some .local := by
    rw [← hce]
    exact lookup_relabel_local hlk
  have cef : ce.scope.kind = .function := by rw [← hce]; exact hkind
  generalize hs3 : ({ s2 with heap := pushCells (s2.heap.push { cls := .type "dict", data := .dict #[] }) scope.names } : Shared) = s3
  have h3 : s3.heap = s2.heap.push { cls := .type "dict", data := .dict #[] } := by rw [← hs3]; exact hpc
  have g3 : s3.gens = s1.gens := by rw [← hs3]; exact g2
  have o3 : s3.os = s1.os := by rw [← hs3]; exact o2
  have k23 : ∀ b o, s2.heap.get? b = some o → s3.heap.get? b = some o := fun b o q => by rw [h3]; exact Heap.get?_push_of_some _ q
  have k13 : ∀ b o, s1.heap.get? b = some o → s3.heap.get? b = some o := fun b o q => k23 b o (k12 b o q)
  have eL3 : s3.heap.get? L = some { cls := .type "dict", data := .dict #[] } := by rw [h3, ← hL]; exact Heap.get?_push_size _ rfl
  have hSL : S ≠ L := by omega
  have haS : a ≠ S := Nat.ne_of_lt (Nat.lt_of_lt_of_eq ha2 hS)
  have haL : a ≠ L := Nat.ne_of_lt (Nat.lt_trans (Nat.lt_of_lt_of_eq ha2 hS) (by omega))
  have hcS : cStatics < s1.heap.objs.size := let ⟨_, hn, _⟩ := hl; hn.lt
  have start0 : Turns X.prog X.w X.A X.stack H1 sc S L a g (fun out H2 => ∀ p, H2 p = none → Q (.ref p) (upd H2 p (.lst out))) sizeLine s3 := by
    refine ⟨hg.keeps k13, hl.keeps k13, ⟨_, _, #[], _, eL3, rfl, ?_, fun _ => rfl⟩, .fresh c, by rw [g3]; exact hgs, rfl, ?_⟩
    · exact fun z hz => by simp at hz
    · refine wake X.A.in1 S [L] _ ⟨hr.hd, ?_, ?_⟩ I1.ok.frames (by omega) (fun b hb => by rw [List.mem_singleton.mp hb]; omega) (fun z => hSL (List.mem_singleton.mp z)) (fun b o q => k13 b o q) ⟨0, k23 _ _ eS2⟩ (fun b hb => by rw [List.mem_singleton.mp hb]; exact ⟨_, eL3, fun z q => nomatch q⟩) ?_ ?_
      · have := hr.dp
        show X.A.depth + 3 * k + 5 < _
        omega
      · have := hr.un
        show X.A.units + 1 + 16 * k + 200 < _
        omega
      · show s3.os = sc.os
        rw [o3]; exact hos
      · exact allBare_setGen (s := s3) (by rw [g3]; exact hb) rfl
  have loop : codeAny (model X.prog X.w) X.A (.compLoop (.ListComp (.Name x p1) [⟨.Name x p2, e, [], 0⟩] scope pos) 0 (.ref a) (.ref S) ce) (compPost (model X.prog X.w) X.A X.xe none (EP X pins σ Q) (.ref S) L) s3 := by
    refine compLoop_any (Turns X.prog X.w X.A X.stack H1 sc S L a g (fun out H2 => ∀ p, H2 p = none → Q (.ref p) (upd H2 p (.lst out)))) ?_ sizeLine start0
    rintro m s4 ⟨t1, t2, ⟨mp, t3⟩, gs, t4, t5⟩
    have t5' : gs.Goes (model X.prog X.w) X.A.in1 (fun n z0 r s1 => ((r = .ok (.ret .none) ∨ r = .ok .next) ∧ (∃ H2 ys xs j, s1.os = sc.os ∧ AllBare s1.gens ∧ Un (frs X.stack) [] H1 H2 sc.heap s1.heap ∧ HOk X.prog X.w H2 s1.heap ∧ H2 S = none ∧ s1.heap.get? S = some (lstObj xs j) ∧ Vals ys xs.toList ∧ ys.length ≤ sizeLine ∧ (∀ p, H2 p = none → Q (.ref p) (upd H2 p (.lst ys))) ∧
        ∀ b ∈ [L], ∀ u, z0.heap.get? b = some u → s1.heap.get? b = some u ∧ H2 b = none)) ∨ ∃ e, r = .error e ∧ False) (ItemJ sc S [L] a g) m (.send .none) (s4.setGen g .running) := by
      exact t5
    obtain ⟨uL, es, ep, eL4, dL, kL, fL⟩ := id t3
    have hgl : g < s4.gens.size := (Array.getElem?_eq_some_iff.mp t4).1
    refine wpAny_gsz (n := g + 1) hgl (next_genG (A := X.A) hr.hd t2 (by have := hr.dp; omega) t1 t4 t5' (fun v s5 gs' hbare hv => ?_) (fun s5 hp h' hk => ?_) fun e s5 he => he.elim)
    · intro hsz
      obtain ⟨v1, v2, v3, v4, ⟨xs, j, v5, v6⟩, v7, v8⟩ := hv
      have eL5 : s5.heap.get? L = some uL := v7 L (List.mem_singleton.mpr rfl) uL eL4
      have nL5 : s5.heap.Ns ce.locals mp := by rw [ceL]; exact ⟨uL, es, ep, eL5, dL, kL, fL⟩
      have lg : g < s5.gens.size := by
        have q : (s5.setGen g gs').gens.size = s5.gens.size := setGen_size _ _ _
        have hsz' : g + 1 ≤ (s5.setGen g gs').gens.size := hsz
        omega
      obtain ⟨go, nm, qn, eg5, c1, c2, c3⟩ := id v4
      refine go_of (o := go) (n := "generator") eg5 c1 c2 (by decide) ?_
      refine wpAny_assign_Name (wpAny_storeName_local cek (s := s5.setGen g gs') nL5 (fun h6 n6 sb6 => ?_) (by rw [cef]; rfl))
      refine wpAny_tests_nil ?_
      rw [if_pos rfl]
      have eS6 : h6.get? S = some (lstObj xs j) := (sb6.2 S (by rw [ceL]; exact hSL)).trans v5
      refine wpAny_Name (wpAny_loadName_local cef cek (m := fun y => if y = x then some v else mp y) n6 (if_pos rfl) ?_) hdb
      refine append_at (hsz := by omega) eS6 fun h7 sb7 e7 => ?_
      have keep7 : ∀ b o, b ≠ S → b ∉ [L] → s5.heap.get? b = some o → h7.get? b = some o := fun b o h1 h2 q =>
        (sb7.2 b h1).trans ((sb6.2 b (by rw [ceL]; exact fun z => h2 (List.mem_singleton.mpr z))).trans q)
      have n7 : h7.Ns L (fun y => if y = x then some v else mp y) := by
        rw [ceL] at n6
        exact n6.sameBut sb7 (Ne.symm hSL)
      have idle : Idle S [L] v s5 (({ s5.setGen g gs' with heap := h7, toks := s5.toks + 1 } : Shared).setGen g .running) := by
        refine ⟨rfl, allBare_setGen (s := s5.setGen g gs') (allBare_setGen (s := s5) v2 hbare) rfl, keep7, fun ys i q => ?_, fun b hb u hu => ?_⟩
        · rw [v5] at q
          cases q
          exact ⟨_, e7⟩
        · rw [List.mem_singleton.mp hb]
          obtain ⟨o6, _, _, q1, q2, _⟩ := n7
          exact ⟨o6, q1, fun z q => by rw [q2] at q; cases q⟩
      have go7 := v8 _ idle
      have kg : ∀ b o, b ≠ S → b ≠ L → s5.heap.get? b = some o → h7.get? b = some o := fun b o h1 h2 q => keep7 b o h1 (fun z => h2 (List.mem_singleton.mp z)) q
      have hcs : cStatics ≠ S := Nat.ne_of_lt (Nat.lt_of_lt_of_eq hcS hS)
      have hcl : cStatics ≠ L := Nat.ne_of_lt (Nat.lt_trans (Nat.lt_of_lt_of_eq hcS hS) (by omega))
      cases m with
      | zero => exact False.elim go7
      | succ m =>
        refine ⟨m, Nat.lt_succ_self m, ?_, ?_, ⟨_, n7⟩, gs', setGen_at lg, ?_⟩
        · exact ⟨go, nm, qn, kg a go haS haL eg5, c1, c2, c3⟩
        · obtain ⟨mc, hns, hnn⟩ := v3
          exact ⟨mc, hns.at' fun o q => kg _ o hcs hcl q, hnn⟩
        · exact go7
    · intro hsz
      obtain ⟨H2, ys, xs, j, e1, e2, e3, e4, e5, e6, e7, e8, e9, e10⟩ := hp
      obtain ⟨eL5, nL⟩ := e10 L (List.mem_singleton.mpr rfl) uL eL4
      have szL : sc.heap.objs.size ≤ L := Nat.le_trans ha1 (Nat.le_of_lt (Nat.lt_trans (Nat.lt_of_lt_of_eq ha2 hS) (by omega)))
      have szS : sc.heap.objs.size ≤ S := Nat.le_trans ha1 (Nat.le_of_lt (Nat.lt_of_lt_of_eq ha2 hS))
      have I5 : Inv X pins σ (upd H2 S (.lst ys)) { s5.setGen g .finished with heap := h' } := I1.drained szS e8 (hk _ _ e6) e7 .nil e1 (allBare_setGen e2 rfl) (e3.trans (Un.kept hk)) (e4.kept hk) e5
      refine ⟨mp, ⟨uL, es, ep, hk _ _ eL5, dL, kL, fL⟩, fun h'' sb => ?_⟩
      obtain ⟨f0, f1, f2, f3, f4, f5⟩ := I1.fpOk (H' := upd H2 S (.lst ys)) (b := L) szL (by rw [upd_ne (Ne.symm hSL)]; exact nL)
      exact ⟨.ref S, upd H2 S (.lst ys), I5.turned (t' := s5.toks) (fun b o hb e => (sb.2 b hb).trans e) f0 f1 f3 f4 f5, rfl, e9 S e5⟩
  subst hce
  show codeAny _ _ (.compStart (.ListComp (.Name x p1) [⟨.Name x p2, e, [], 0⟩] scope pos) 0 (.ref a) (.ref S) (compEnvC scope (cellsFrom (L + 1) scope.names (cloFrom X.env.cells scope.names [])) L X.env)) (compPost (model X.prog X.w) X.A X.xe none (EP X pins σ Q) (.ref S) L) s3
  exact codeAny_compStart_list loop (wpAny_pyIter_gen (hg.keeps k13) loop)
end
end Zw

set_option Elab.async false
set_option linter.all false
set_option maxRecDepth 100000
set_option maxHeartbeats 1000000
/-! generator defs that a comprehension may walk, on data -/
namespace Z
open PySem PySem.Spec PyProof.Rows L2
section
variable {P : Program} {w : World} {K : PySem.W.Frag} {mg : Str → Option Value} {base : Heap} {β : Type} [Rp β]
theorem def_okJ {x qual : Str} {args : Arguments} {body : List Stmt} {scope : Scope} {dvs : List V} {kws : List (Str × V)} {f : Addr} {fd : FuncData} {N ps : List Str} {k : Nat} {G : Own → List Cell → (List β → Prop) → Prop}
    (Fn : FunD K x qual args body scope dvs kws f fd) (Sc : GScope N ps scope) (len : ∀ Γ cs R, G Γ cs R → cs.length = ps.length)
    (hb : ∀ (cdv : Value) (A : Around) (outer : List PySem.Env) (s : Shared) (H : Hp) (pn : List (Addr × Obj)), Room k (A.deeper (envOfC qual scope s.heap.objs.size f cdv)) →
      ∀ (Γ : Own) (cs : List Cell) (R : List β → Prop), G Γ cs R → ∃ t, Zw.Bj (gcxOf P w K mg base N qual scope f cdv A outer s H Zw.noX pn) body t ∧
        ∀ (Δ0 : Gh) (D : GEnds), (∀ (out : List V) (σ : L2.St) (H' : Hp) (xs : List β), R xs → Ext Δ0 H H' → All2 (fun u a => Rp.rp K Δ0 H' u a) out xs → D.nx out σ H') → WpG K Δ0 H Γ [] (env0 N cs) t D []) :
    Zw.GFnJ P w K mg base (k + 1) f fd ps (spG K G) := by
  obtain ⟨oc, od, dV, kV, doc, pm, an, cdv, ct, osl, rfl, lk, hcd, _, _⟩ := Fn.ex
  refine Zw.gfnJ_of lk hcd Sc (fun vs H Q E h => ?_) fun A outer s H vs Q pn hr h => ?_
  · obtain ⟨Γ, Δ, cs, R, g, _, _, a, _⟩ := h
    rw [All2.len a]
    exact len Γ cs R g
  · obtain ⟨Γ, Δ, cs, R, g, sa, hh, a, q⟩ := h
    obtain ⟨t, ht, hw⟩ := hb cdv A outer s H pn hr Γ cs R g
    exact ⟨t, ht, hw Δ _ (fun out σ H' xs rx e q2 => q out H' xs rx e q2) _ H ⟨Δ, sa, hh, start_ok a, fun z hz => (nomatch hz), Ext.refl hh, fun _ _ z => z, fun x n m => absurd n m⟩⟩
end
end Z

set_option Elab.async false
set_option linter.all false
set_option maxRecDepth 100000
set_option maxHeartbeats 1000000
/-! own lists lengthened by lists, turned lists, bools in lists -/
namespace Z
open PySem PySem.Spec PyProof.Rows L2
section
variable {K : PySem.W.Frag} {Δ0 : Gh} {H0 : Hp} {Γ : Own} {F : List (V × Cell)} {ρ : Z.Env} {ta tb te : TE} {tz : TS} {D : Ends} {α : Type} [Rp α] [Flat α]
theorem flat_all2 {Δ : Gh} {H : Hp} : ∀ {vs : List V} {xs : List α}, All2 (fun u a => Rp.rp K Δ H u a) vs xs → vs = xs.map Flat.val
  | [], [], _ => rfl
  | [], _ :: _, q => q.elim
  | _ :: _, [], q => q.elim
  | _ :: _, _ :: _, q => by rw [List.map_cons, Flat.iff.mp q.1, flat_all2 q.2]
/-- name.extend(list), the last of a block -/
theorem wp_extL {p : Addr} {xs : List α} {P : FL α → Prop} (o : OwnP Δ0 Γ p) (hz : ∀ ys, P ys → xs.length + ys.l.length ≤ 50000) (ho : Ev K (OwnL p xs :: Γ) ta ρ (Is (⟨p⟩ : Loc))) (h : Ev K (OwnL p xs :: Γ) te ρ P)
    (k : ∀ ys, P ys → Wp K Δ0 H0 (OwnL p (xs ++ ys.l) :: Γ) F ρ tNext D) : Wp K Δ0 H0 (OwnL p xs :: Γ) F ρ (tDrop (tBM K "list" rExtend ta (tCons te tNil))) D := fun σ H ⟨Δ, s, hh, e, f, e0, s1, s2⟩ =>
  ho Δ σ H _ s hh e fun w H1 b pb e1 r1 => by
    have eb : b = ⟨p⟩ := pb
    subst eb
    have ew : w = .ref p := r1
    subst ew
    obtain ⟨u, hu, iu⟩ := e1.2 p _ (s _ List.mem_cons_self)
    have iu' : u = HO.lst _ := iu
    subst iu'
    refine ⟨.inl ⟨rfl, _, SqL.of hu⟩, h Δ σ H1 _ s e1.2 (e.mono e1.1) fun v H2 a pa e2 r2 => ?_⟩
    have e3 := e1.trans e2
    obtain ⟨b, vs, rfl, nb, hb, q⟩ := r2
    have ev := flat_all2 q
    subst ev
    have st : Stt K Δ0 H0 (OwnL p xs :: Γ) F ρ σ H2 := ⟨Δ, s, e3.2, e.mono e3.1, fun q hq => q.2.r.mono e3.1 (f q hq), ext0 e0 s1 s2 e3, s1, s2⟩
    obtain ⟨hp, st'⟩ := own_putO (o2 := .lst ((xs ++ a.l).map Flat.val)) o st
    refine ⟨p, b, _, _, rfl, rfl, hp, hb, ?_, ?_⟩
    · rw [List.length_map, List.length_map]
      exact Nat.le_trans (hz a pa) (by decide)
    · rw [← List.map_append]
      exact k a pa σ _ st'
/-- list(name), the list one's own -/
theorem ev_lstO {p : Addr} {xs : List α} (hm : OwnL p xs ∈ Γ) (ho : Ev K Γ ta ρ (Is (⟨p⟩ : Loc))) : Ev K Γ (tCB (fun xs H Q => ∃ p ys, xs = [.ref p] ∧ (SqL K H p ys ∨ SqT K H p ys) ∧ ∀ l, H l = none → Q (.ref l) (upd H l (.lst ys))) (tCons ta tNil)) ρ (Is (⟨xs⟩ : NL α)) :=
  ev_ownL hm ho fun Δ H Q hh hp k => ⟨p, _, rfl, .inl (.inl (.inl hp)), fun l hl => k _ _ _ rfl (Ext.new hh hl _) ⟨l, _, rfl, hh.fresh hl, .inl upd_same, all2_flat xs⟩⟩
end
section
variable {K : PySem.W.Frag} {Δ0 : Gh} {H0 : Hp} {Γ : Own} {F : List (V × Cell)} {ρ : Env} {t tz : TS} {D : Ends}
/-- a, b = e1, e2, the last of a block -/
theorem wp_parL {i j : Nat} {ta : TA} {Q : List Cell → Prop} (h : EvA K Γ ta ρ Q) (hi : i < ρ.length) (hj : j < ρ.length) (k : ∀ cs, Q cs → ∃ c d : Cell, cs = [c, d] ∧ Wp K Δ0 H0 Γ F ((ρ.set i (some c)).set j (some d)) tNext D) : Wp K Δ0 H0 Γ F ρ (tPar i j ta) D := fun σ H ⟨Δ, s, hh, e, f, e0, s1, s2⟩ =>
  h Δ σ H _ s hh e fun vs H' cs pcs e1 r => by
    obtain ⟨c, d, rfl, kk⟩ := k cs pcs
    match vs, r with
    | [v, w], r => exact ⟨v, w, rfl, kk _ H' ⟨Δ, s, e1.2, ((e.mono e1.1).set hi r.1).set (by rw [List.length_set]; exact hj) r.2.1, fun q hq => q.2.r.mono e1.1 (f q hq), ext0 e0 s1 s2 e1, s1, s2⟩⟩
/-- a loop within a loop: what stays, stays behind it too -/
theorem wp_forN {wi : TI} {g : TG} {js : List Nat} {n : Nat} {st : Nat → Env → Env} (Iv : Nat → Own → Env → Prop) (S : Src K Γ wi g ρ js n st) (h0 : Iv 0 Γ ρ) (hl : ∀ i Γ' ρ', Iv i Γ' ρ' → ρ'.length = ρ.length)
    (hs : ∀ i Γ' ρ' F', i < n → Iv i Γ' ρ' → Wp K Δ0 H0 Γ' F' (st i ρ') t { D with nx := At K Δ0 H0 F' Iv (i + 1), ct := At K Δ0 H0 F' Iv (i + 1), bk := tz D })
    (hd : ∀ Γ' ρ', Iv n Γ' ρ' → Wp K Δ0 H0 Γ' F ρ' tz D) : Wp K Δ0 H0 Γ F ρ (tSeq (tFor wi g t) tz) D := fun σ H ⟨Δ, s, hh, e, f, e0, s1, s2⟩ =>
  S Δ σ H _ s hh e fun J H1 pv pc e1 rp0 hgo hyld => by
    refine ⟨fun i m σ2 H2 => m = n - i ∧ i ≤ n ∧ At K Δ0 H0 ((pv, pc) :: F) Iv i σ2 H2, ⟨n, by simp, Nat.zero_le _, Γ, ρ, h0, Δ, s, e1.2, e.mono e1.1, ?_, ext0 e0 s1 s2 e1, s1, s2⟩, ?_⟩
    · intro q hq
      rcases List.mem_cons.mp hq with z | z
      · rw [z]; exact rp0
      · exact q.2.r.mono e1.1 (f q z)
    · rintro i m σ2 H2 ⟨rfl, hi, Γ', ρ', iv, st2⟩
      obtain ⟨Δ', s', hh', e', f', e0', s1', s2'⟩ := id st2
      have rp2 : pc.rp K Δ' H2 pv := f' (pv, pc) List.mem_cons_self
      have hg := hgo Δ' H2 rp2
      by_cases hlt : i < n
      · refine .inr ⟨hg.1 i hlt, At K Δ0 H0 ((pv, pc) :: F) Iv (i + 1), fun σ3 H3 a => ⟨n - (i + 1), by omega, rfl, hlt, a⟩, fun x H3 hy => ?_⟩
        obtain ⟨e3, hput⟩ := hyld Δ' i H2 x H3 hlt hh' rp2 hy
        refine hput σ2 ρ' _ (hl i Γ' ρ' iv) (e'.mono e3.1) fun σ3 env3 _ _ => ?_
        exact hs i Γ' ρ' _ hlt iv σ3 H3 ⟨Δ', s', e3.2, env3, fun q hq => q.2.r.mono e3.1 (f' q hq), ext0 e0' s1' s2' e3, s1', s2'⟩
      · have ei : i = n := by omega
        subst ei
        exact .inl ⟨hg.2, hd Γ' ρ' iv σ2 H2 ⟨Δ', s', hh', e', fun q hq => f' q (List.mem_cons_of_mem _ hq), e0', s1', s2'⟩⟩
end
section
variable {K : PySem.W.Frag} {Γ : Own} {ρ : Z.Env} {te : TE} {α : Type} [Rp α]
/-- xs[::-1] -/
theorem all2_rev {Δ : Gh} {H : Hp} : ∀ {vs : List V} {xs : List α}, All2 (fun u a => Rp.rp K Δ H u a) vs xs → All2 (fun u a => Rp.rp K Δ H u a) vs.reverse xs.reverse
  | [], [], _ => trivial
  | [], _ :: _, q => q.elim
  | _ :: _, [], q => q.elim
  | v :: vs, x :: xs, q => by
    rw [List.reverse_cons, List.reverse_cons]
    exact All2.snoc q.1 (all2_rev q.2)
theorem ev_rev {xs : List α} (h : Ev K Γ te ρ (Is xs)) : Ev K Γ (tRevL K te) ρ (Is xs.reverse) := fun Δ σ H Q s hh e k => h Δ σ H _ s hh e fun v H1 a pa e1 r => by
  have ea : a = xs := pa
  subst ea
  obtain ⟨p, vs, rfl, n, sq, q⟩ := r
  exact ⟨p, vs, rfl, sq, fun l hl => k _ _ _ rfl (e1.trans (Ext.new e1.2 hl _)) (new_lst e1.2 hl (all2_rev q))⟩
theorem inV_bl {b : Bool} : ∀ {xs : List Bool}, inV (.bl b) (xs.map V.bl) = decide (b ∈ xs)
  | [] => rfl
  | x :: xs => by
    have ih := inV_bl (b := b) (xs := xs)
    unfold inV at ih ⊢
    rw [List.map_cons, List.any_cons, ih]
    cases b <;> cases x <;> simp [eqV]
theorem flat_bl : ∀ {xs : List Bool}, (xs.map V.bl).all flatV = true
  | [] => rfl
  | _ :: xs => by
    rw [List.map_cons, List.all_cons, flat_bl]
    rfl
theorem o2_inLB {b : Bool} {xs : List Bool} : Op2 K (rIn K false) b xs (Is (decide (b ∈ xs))) := fun Δ H v w Q hh r1 r2 k => by
  have e1 : v = .bl b := r1
  obtain ⟨p, vs, rfl, n, s, q⟩ := r2
  subst e1
  have ev := all2_bl q
  subst ev
  exact ⟨p, _, rfl, .inl s, rfl, flat_bl, k _ H _ rfl (Ext.refl hh) (by show V.bl _ = V.bl _; rw [if_neg Bool.false_ne_true, inV_bl])⟩
theorem o2_notInLB {b : Bool} {xs : List Bool} : Op2 K (rIn K true) b xs (Is (!decide (b ∈ xs))) := fun Δ H v w Q hh r1 r2 k => by
  have e1 : v = .bl b := r1
  obtain ⟨p, vs, rfl, n, s, q⟩ := r2
  subst e1
  have ev := all2_bl q
  subst ev
  exact ⟨p, _, rfl, .inl s, rfl, flat_bl, k _ H _ rfl (Ext.refl hh) (by show V.bl _ = V.bl _; rw [if_pos rfl, inV_bl])⟩
end
section
variable {K : PySem.W.Frag} {Γ : Own} {ρ : Z.Env} {te : TE} {β γ : Type} [Rp β] [Rp γ] {C : Addr} {E : XK}
/-- o.name, o told by a predicate -/
theorem ev_propP {F : Own → List Cell → (γ → Prop) → Prop} {Q : β → Prop} {Pb : γ → Prop} (hI : IsIns K C β) (h : Ev K Γ te ρ Q) (hF : ∀ b, Q b → ∃ R, F Γ [⟨b⟩] R ∧ ∀ c, R c → Pb c) : Ev K Γ (tProp C (spD K F) [] E te) ρ Pb := fun Δ σ H Q' s hh e k =>
  h Δ σ H _ s hh e fun v H1 b pb e1 r1 => by
    obtain ⟨p, dx, fs, rfl, hp⟩ := hI Δ H1 v _ r1
    obtain ⟨R, hR, q⟩ := hF b pb
    exact ⟨p, dx, fs, rfl, hp, Γ, Δ, [⟨b⟩], R, hR, s, e1.2, ⟨r1, trivial⟩, fun z H' c pc e3 r3 => k z H' c (q c pc) (e1.trans e3) r3⟩
end
section
variable {X : Cx} {K : PySem.W.Frag}
theorem hx_noX : Passes (L2.CX X.prog X.w) X Zw.noX := fun _ _ _ _ _ _ _ h => by
  obtain ⟨_, _, _, _, _, _, _, _, _, _, _, _, hW⟩ := h
  exact hW.elim
theorem hns_noX : NoStop K Zw.noX := fun _ _ _ h => h.elim
theorem pe_revK {e : Expr} {te : TE} {k : Nat} {p1 p2 p3 pos : Pos} (he : PE X e te) (h : X.K = K := by rfl) : PE X (.Subscript e (.Slice none none (some (.UnaryOp .USub (.Constant (.int 1) k p1) p2)) p3) pos) (tRevL K te) := by
  subst h
  exact pe_revL he
end
end Z

set_option Elab.async false
set_option linter.all false
set_option maxRecDepth 100000
set_option maxHeartbeats 4000000
/-! sorted(set(list of texts)) -/
namespace Zst
open PySem PySem.Spec PyProof.Rows L2
def keyX (e : Int × Value) : Str := match e.2 with
  | .str k _ => k
  | _ => Str.empty
theorem isT {P : Program} {w : World} (k : Str) (u : Tok) : (strKind P w).is k (.str k u) = true := by
  show Value.isStrOf k (.str k u) = true
  simp [Value.isStrOf]
def GoodX (w : World) (e : Int × Value) : Prop := ∃ k u, e.2 = Value.str k u ∧ e.1 = hashStr w k
/-- the set of texts at a: l its members (in any order, also twice); its table rises and can be walked -/
def SetX (w : World) (h : Heap) (a : Addr) (l : List Str) (n : Nat) : Prop :=
  ∃ o es ep t, h.get? a = some o ∧ o.ExactSet ∧ o.data = .set es ep t ∧ (∀ e ∈ es.toList, GoodX w e) ∧ (es.toList.map keyX).Nodup ∧ (∀ k, k ∈ l ↔ k ∈ es.toList.map keyX) ∧
    es.size < scanBound ∧ t.fits es.size = true ∧ es.size = n ∧ Ris t.place.toList ∧ (w.params.followText "set-order" = true ∨ t.led = true)
section
variable {P : Program} {w : World} {h h' : Heap} {a : Addr} {l : List Str} {n : Nat}
theorem SetX.keep (R : SetX w h a l n) (k : ∀ o, h.get? a = some o → h'.get? a = some o) : SetX w h' a l n := by
  obtain ⟨o, es, ep, t, ho, r⟩ := R
  exact ⟨o, es, ep, t, k o ho, r⟩
theorem SetX.like {m : List Str} (R : SetX w h a l n) (e : ∀ k, k ∈ m ↔ k ∈ l) : SetX w h a m n := by
  obtain ⟨o, es, ep, t, ho, hx, hd, g, nd, q, r⟩ := R
  exact ⟨o, es, ep, t, ho, hx, hd, g, nd, fun k => (e k).trans (q k), r⟩
theorem elemsX {xs : List (Int × Value)} (g : ∀ e ∈ xs, GoodX w e) : ElemsOf (strKind P w) xs := fun e he => by
  obtain ⟨k, u, q1, q2⟩ := g e he
  exact ⟨⟨k, by rw [q1]; exact isT k u, q2⟩, by rw [q1] <;> rfl⟩
theorem isX {e : Int × Value} (g : GoodX w e) (k : Str) : (strKind P w).is k e.2 = true ↔ keyX e = k := by
  obtain ⟨k0, u, q1, _⟩ := g
  unfold keyX
  rw [q1]
  show (Value.isStrOf k (.str k0 u) = true) ↔ k0 = k
  simp [Value.isStrOf]
theorem memX {xs : List (Int × Value)} (g : ∀ e ∈ xs, GoodX w e) (k : Str) : k ∈ xs.map keyX ↔ ∃ e ∈ xs, (strKind P w).is k e.2 = true := by
  rw [List.mem_map]
  exact ⟨fun ⟨e, he, q⟩ => ⟨e, he, (isX (g e he) k).mpr q⟩, fun ⟨e, he, q⟩ => ⟨e, he, (isX (g e he) k).mp q⟩⟩
end
section
variable {P : Program} {w : World} {A : Around} {E : Value → Shared → Prop} {s : Shared} {a : Addr} {l : List Str} {n : Nat}
theorem add_end {g : Bool → Sem Unit} (hg : ∀ (b : Bool) (z : Shared) (Q' : Unit → Shared → Prop), Q' () z → wpAny (model P w) A (g b) Q' E z)
    {o : Obj} {es : Array (Int × Value)} {ep : Nat} {t : SetTable} (ho : s.heap.get? a = some o) (hx : o.ExactSet) (hd : o.data = .set es ep t)
    {e1 : Array (Int × Value)} {t2 : SetTable} {m : List Str} (g1 : ∀ e ∈ e1.toList, GoodX w e) (nd1 : (e1.toList.map keyX).Nodup) (m1 : ∀ k, k ∈ m ↔ k ∈ e1.toList.map keyX)
    (hb1 : e1.size < scanBound) (hf2 : t2.fits e1.size = true) (hr : Ris t2.place.toList) (hl : w.params.followText "set-order" = true ∨ t2.led = true) {wd : Bool} {R : Option Bool → Shared → Prop}
    (hR : ∀ h1, Heap.SameBut a s.heap h1 → SetX w h1 a m e1.size → R (some true) { s with heap := h1 }) :
    wpAny (model P w) A (do
        storeSet a e1 t2
        if (!wd && t2.tooFull) = true then do
            g (relayAll t2 e1 (SetTable.grown e1.size)).2.2
            storeSet a (relayAll t2 e1 (SetTable.grown e1.size)).1 (relayAll t2 e1 (SetTable.grown e1.size)).2.1
            pure (some true)
          else pure (some true)) R E s := by
  refine wpAny_bind (wpAny_storeSet_of ho hd ?_ (fits_of_scanBound hb1))
  have o1 := store_at (es' := e1) (t' := t2) ho hd
  have s1 := Heap.SameBut.update s.heap a (Obj.putSet e1 t2)
  split
  · have pm := relayAll_perm t2 e1 (SetTable.grown e1.size)
    have f3 := relayAll_fits t2 e1 (SetTable.grown e1.size)
    have r3 := relayAll_ris t2 e1 (SetTable.grown e1.size)
    have l3 := relayAll_led t2 e1 (SetTable.grown e1.size)
    generalize relayAll t2 e1 (SetTable.grown e1.size) = Y at pm f3 r3 l3 ⊢
    obtain ⟨e2, t3, gv⟩ := Y
    dsimp only at pm f3 r3 l3 ⊢
    have sz : e2.size = e1.size := by rw [← Array.length_toList, pm.length_eq, Array.length_toList]
    refine wpAny_bind (hg _ _ _ ?_)
    refine wpAny_bind (wpAny_storeSet_of o1 rfl ?_ (fits_of_scanBound (by rw [sz]; exact hb1)))
    have o2 := store_at (es' := e2) (t' := t3) o1 rfl
    refine wpAny_pure (hR _ (s1.trans (Heap.SameBut.update _ a _)) ?_)
    exact ⟨_, e2, _, t3, o2, hx, rfl, fun e he => g1 e (pm.mem_iff.mp he), (pm.map keyX).nodup_iff.mpr nd1, fun k => (m1 k).trans (pm.map keyX).mem_iff.symm, by rw [sz]; exact hb1, f3, sz, r3, hl.imp id fun z => by rw [l3]; exact z⟩
  · exact wpAny_pure (hR _ s1 ⟨_, e1, _, t2, o1, hx, rfl, g1, nd1, m1, hb1, hf2, rfl, hr, hl⟩)
theorem add_hashed {k : Str} {u : Tok} {Q : Bool → Shared → Prop} (R : SetX w s.heap a l n) (room : n + 1 < scanBound)
    (hQ : ∀ h1 c, Heap.SameBut a s.heap h1 → c ≤ n + 1 → SetX w h1 a (k :: l) c → ∀ b, Q b { s with heap := h1 }) :
    wpAny (model P w) A (setAddHashed a (.str k u) ((strKind P w).hash k)) Q E s := by
  obtain ⟨o, es, ep, t, ho, hx, hd, g, nd, hm, hb, hf, hn, hr, hl⟩ := R
  have hkey : (strKind P w).is k (.str k u) = true := isT k u
  have hsc : (Value.str k u).scannable = true := rfl
  have hel : ElemsOf (strKind P w) es.toList := elemsX g
  unfold setAddHashed setAddHashedIn
  refine wpAny_holding (wpAny_bind (wpAny_setState_of ho hd hf ?_))
  dsimp only
  rw [byScan_of hsc hb hel]
  simp only [↓reduceIte]
  unfold setAddByScan
  refine wpAny_bind ?_
  refine wpAny_bind (wpAny_rule ?_)
  refine wpAny_bind (wpAny_setScan_of hkey ho hd hf hel ?_)
  cases hfi : List.findIdx? (fun e => (strKind P w).is k e.2) es.toList with
  | some j =>
    dsimp only
    obtain ⟨hj, pj, _⟩ := List.findIdx?_eq_some_iff_getElem.mp hfi
    have hkl : k ∈ l := (hm k).mpr ((memX (P := P) g k).mpr ⟨es.toList[j], List.getElem_mem hj, pj⟩)
    refine wpAny_pure (wpAny_pure ?_)
    exact hQ s.heap n (Heap.SameBut.refl a s.heap) (Nat.le_succ n) ⟨o, es, ep, t, ho, hx, hd, g, nd, fun i => by
      rw [List.mem_cons, ← hm i]
      exact ⟨fun z => z.elim (fun q => by rw [q]; exact hkl) id, .inr⟩, hb, hf, hn, hr, hl⟩ _
  | none =>
    dsimp only
    have hnk : k ∉ es.toList.map keyX := fun z => by
      obtain ⟨e, he, q⟩ := (memX (P := P) g k).mp z
      have c := List.findIdx?_eq_none_iff.mp hfi e he
      rw [q] at c
      cases c
    have hgw : ∀ (b : Bool) {z : Shared} {Q' : Unit → Shared → Prop}, Q' () z → wpAny (model P w) A (match b with | true => rule "set.scan.the-table-gave-way" | false => pure ()) Q' E z :=
      fun b z Q' q => by cases b <;> first | exact wpAny_pure q | exact wpAny_rule q
    have pm := layNew_perm t es ((strKind P w).hash k) (.str k u)
    have f1 := layNew_fits t es ((strKind P w).hash k) (.str k u)
    have r1 := layNew_ris t es ((strKind P w).hash k) (.str k u) hr
    have l1 := layNew_led t es ((strKind P w).hash k) (.str k u)
    generalize layNew t es ((strKind P w).hash k) (.str k u) = Y at pm f1 r1 l1 ⊢
    obtain ⟨e1, t1, wd, gv⟩ := Y
    dsimp only at pm f1 r1 l1 ⊢
    rw [Array.toList_push] at pm
    have pc : e1.toList.Perm (((strKind P w).hash k, Value.str k u) :: es.toList) := pm.trans (List.perm_append_singleton _ _)
    have pk : (e1.toList.map keyX).Perm (k :: es.toList.map keyX) := pc.map keyX
    have g1 : ∀ e ∈ e1.toList, GoodX w e := fun e he => by
      rcases List.mem_cons.mp (pc.mem_iff.mp he) with z | z
      · rw [z]; exact ⟨k, u, rfl, rfl⟩
      · exact g e z
    have nd1 : (e1.toList.map keyX).Nodup := pk.nodup_iff.mpr (List.nodup_cons.mpr ⟨hnk, nd⟩)
    have m1 : ∀ i, i ∈ k :: l ↔ i ∈ e1.toList.map keyX := fun i => by
      rw [pk.mem_iff, List.mem_cons, List.mem_cons, hm i]
    have sz : e1.size = n + 1 := by rw [← Array.length_toList, pc.length_eq, List.length_cons, Array.length_toList, hn]
    have hb1 : e1.size < scanBound := by rw [sz]; exact room
    have led : w.params.followText "set-order" = true ∨ t1.led = true := hl.imp id fun z => by rw [l1]; exact z
    refine wpAny_bind (hgw _ ?_)
    split
    · refine wpAny_bind ?_
      rw [hashByValue_scannable 8 hsc]
      refine wpAny_pure ?_
      refine add_end ?_ ho hx hd g1 nd1 m1 hb1 ?_ ?_ ?_ ?_
      · intro b z Q' q; cases b <;> first | exact wpAny_pure q | exact wpAny_rule q
      · first | (split <;> first | exact f1 | exact SetTable.fits_plain_off f1) | exact f1
      · first | (split <;> exact r1) | exact r1
      · first | (split <;> exact led) | exact led
      · intro h1 sb r; dsimp only; exact wpAny_pure (hQ h1 _ sb (Nat.le_of_eq sz) r _)
    · refine wpAny_bind (wpAny_pure ?_)
      simp only [↓reduceIte]
      refine add_end ?_ ho hx hd g1 nd1 m1 hb1 f1 r1 led ?_
      · intro b z Q' q; cases b <;> first | exact wpAny_pure q | exact wpAny_rule q
      · intro h1 sb r; dsimp only; exact wpAny_pure (hQ h1 _ sb (Nat.le_of_eq sz) r _)
theorem new_at {h : Heap} (ho : h.get? a = some { cls := .type "set", dict := none, data := .set #[] 0 (.fresh 0 0 (!w.params.followText "set-order")) }) : SetX w h a [] 0 := by
  refine ⟨_, #[], 0, _, ho, ⟨rfl, rfl, rfl⟩, rfl, fun e he => (by simp at he), (by simp), fun k => (by simp), (by decide), (by rfl), rfl, List.Pairwise.nil, ?_⟩
  show _ ∨ (!w.params.followText "set-order") = true
  cases w.params.followText "set-order" with
  | true => exact .inl rfl
  | false => exact .inr rfl
/-- the turns of set(..) over a walk of texts -/
theorem fill {I : Addr} {fp wr : List Addr} {G : Array GenState → Array GenState → Prop} {n : Nat} {Pv : Nat → Value → Prop} {St : Nat → Shared → Prop} {R : Result → Shared → Prop}
    (W : WalksS P w A.in1 I fp wr G n Pv St) (S : Addr) (hSf : S ∉ fp) (xs : List Str) (hn : n = xs.length) (hb : xs.length + 1 < scanBound) (hval : ∀ i v, Pv i v → ∃ k t, xs[i]? = some k ∧ v = .str k t) :
    ∀ (r i : Nat) (s : Shared), n - i = r → i ≤ n → St i s → (∃ c, c ≤ i ∧ SetX w s.heap S (xs.take i) c) →
      (∀ s' c, Moved (S :: wr) G s s' → c ≤ n → SetX w s'.heap S xs c → R (.ok (.ret .none)) s') →
      codeAny (model P w) A (.builtin "set.update.loop" ⟨[.ref S, .ref I], []⟩) R s := by
  have hSw : S ∉ wr := fun h => hSf (W.sub _ h)
  have sub : ∀ b ∈ wr, b ∈ S :: wr := fun b hb => List.mem_cons_of_mem _ hb
  intro r
  induction r with
  | zero =>
    intro i s hr hi hst ⟨c, hc, hS⟩ hR
    obtain rfl : i = n := by omega
    refine codeAny_builtin F.entry_set_update_loop ?_
    rw [Around.under_plainId F.plain_set_update_loop _]
    show wpAny _ A.in1 (pyNext (.ref I) >>= _) _ _ s
    refine wpAny_bind (W.done s _ _ hst fun s' hm => ?_)
    show wpAny _ A.in1 (ret Value.none) _ _ s'
    rw [List.take_of_length_le (by omega)] at hS
    exact wpAny_pure (hR s' c (hm.mono sub) hc (hS.keep fun o e => hm.heap S o hSw e))
  | succ r ih =>
    intro i s hr hi hst ⟨c, hc, hS⟩ hR
    have lt : i < n := by omega
    refine codeAny_builtin F.entry_set_update_loop ?_
    rw [Around.under_plainId F.plain_set_update_loop _]
    show wpAny _ A.in1 (pyNext (.ref I) >>= _) _ _ s
    refine wpAny_bind (W.item i s _ _ lt hst fun v s1 hP hst1 hm => ?_)
    obtain ⟨z, t, hz, rfl⟩ := hval i v hP
    have hS1 : SetX w s1.heap S (xs.take i) c := hS.keep fun o e => hm.heap S o hSw e
    show wpAny _ A.in1 (holding [Value.str z t] (setAdd S (.str z t)) >>= _) _ _ s1
    refine wpAny_bind (wpAny_holding ?_)
    unfold setAdd
    refine wpAny_holding ?_
    refine wpAny_bind ((strKind P w).pyHash (k := z) (isT _ _) ?_)
    refine add_hashed (s := { s1 with toks := s1.toks + 1 }) hS1 (by omega) fun h1 c1 sb hc1 hS2 b => ?_
    have hS3 : SetX w h1 S (xs.take (i + 1)) c1 := hS2.like fun k => by
      rw [List.take_add_one, hz]
      simp [List.mem_append, or_comm]
    refine wpAny_pure ⟨plainId_quiet F.plain_set_update_loop _, ih (i + 1) _ (by omega) lt (W.frame _ s1 _ _ hst1 (Nat.le_succ _) fun b hb o e => ?_) ⟨_, by omega, hS3⟩ fun s2 c2 m2 hc2 hS4 => ?_⟩
    · rw [sb.2 b (fun h : b = S => hSf (by rw [← h]; exact hb))]; exact e
    · refine hR s2 c2 (Moved.trans W.gtrans ((hm.mono sub).then_heap (Nat.le_succ _) fun b o hb e => ?_) m2) hc2 hS4
      rw [sb.2 b (fun h : b = S => hb (by rw [h]; exact List.mem_cons_self))]; exact e
end
end Zst

set_option Elab.async false
set_option linter.all false
set_option maxRecDepth 100000
set_option maxHeartbeats 4000000
/-! set(list of texts), sorted of it -/
namespace Zst
open PySem PySem.Spec PyProof.Rows L2
section
variable {P : Program} {w : World} {A : Around} {E : Value → Shared → Prop} {s : Shared}
theorem at_txt : ∀ {us : List Value} {xs : List Str}, StrsAre us xs → ∀ (i : Nat) (v : Value), us[i]? = some v → ∃ k t, xs[i]? = some k ∧ v = .str k t
  | _, _, .nil, i, v, h => by simp at h
  | _, _, .cons n t r, 0, v, h => ⟨n, t, rfl, (Option.some.inj h).symm⟩
  | _, _, .cons n t r, i + 1, v, h => at_txt r i v h
abbrev none0 (w : World) : Obj := { cls := .type "set", dict := none, data := .set #[] 0 (.fresh 0 0 (!w.params.followText "set-order")) }
theorem call_setL {q : Addr} {its : Array Value} (xs : List Str) {Q : Value → Shared → Prop} (hh : A.handled = none) (hl : s.heap.IsList q its) (hit : StrsAre its.toList xs) (hb : xs.length + 1 < scanBound)
    (h : ∀ (h1 : Heap) (tk c : Nat), SetX w h1 s.heap.objs.size xs c → c ≤ xs.length → (∀ b o, s.heap.get? b = some o → h1.get? b = some o) → Q (.ref s.heap.objs.size) { s with heap := h1, toks := tk }) :
    wpAny (model P w) A (call (.type "set") [.ref q]) Q E s := by
  have size : its.size = xs.length := by
    have e := StrsAre.len_eq hit
    rw [Array.length_toList] at e
    exact e
  obtain ⟨c, tl, hmro⟩ := F.called_set.mro
  have hmade := F.called_set.made
  have hsub := F.called_set.sub
  refine wpAny_call (codeAny_of_tree ?_)
  show wpAny _ _ (callAny (.type "set") _) _ _ _
  refine wpAny_pure ⟨Code.quiet_builtin _ (by decide +kernel), codeAny_builtin F.entry_type_call ?_⟩
  rw [Around.under_plain (weight_type_call_type "set" [.ref q] []) rfl]
  have t1 := F.called_set.notType
  have t2 := F.called_set.canCreate
  have t3 := F.typeCall_set_1 (.ref q)
  repeat (any_goals (first | assumption | wp_step))
  refine codeAny_mono (code_set_led1 (.ref q) (E := E) (Q₁ := fun obj z => obj = .ref s.heap.objs.size ∧ z = { s with heap := s.heap.push (none0 w) }) ⟨rfl, rfl⟩) fun r z hr => ?_
  match r, hr with
  | .error e, hr => exact hr
  | .ok .next, hr => exact hr.elim
  | .ok .brk, hr => exact hr.elim
  | .ok .cont, hr => exact hr.elim
  | .ok (.ret obj), hr =>
    obtain ⟨rfl, rfl⟩ := hr
    have hS : (s.heap.push (none0 w)).get? s.heap.objs.size = some (none0 w) := Heap.get?_push_size _ rfl
    have hT : Shared.TypeIs { s with heap := s.heap.push (none0 w) } (.ref s.heap.objs.size) "set" := ⟨_, hS, rfl⟩
    have hli := F.called_set.init.lookup
    have hbi := F.called_set.init.bind (.ref s.heap.objs.size)
    repeat (any_goals (first | assumption | wp_step))
    refine codeAny_mono (codeAny_call_builtin (R := wants (fun r z => r = .none ∧ ∃ h1 tk c, z = { s with heap := h1, toks := tk } ∧ SetX w h1 s.heap.objs.size xs c ∧ c ≤ xs.length ∧ (∀ b o, s.heap.get? b = some o → h1.get? b = some o)) E) F.called_set.init.plain F.entry_set_init (check_set_init_1 hT ?_)) fun r2 z2 hr2 => ?_
    · obtain ⟨ol, hol, hcl, nl, hdl⟩ := hl
      obtain ⟨ocls, odict, odata, oslots⟩ := ol
      simp only at hcl hdl
      subst hcl; subst hdl
      have hol' : (s.heap.push (none0 w)).get? q = some { cls := .type "list", dict := odict, data := .seq its nl, slots := oslots } := Heap.get?_push_of_some _ hol
      have hsls := F.sub_list_set
      have hslf := F.sub_list_frozenset
      have hne : (Value.type "list" == Value.type "dict") = false := by decide
      have hl1 : (s.heap.push (none0 w)).IsList q its := ⟨_, hol', rfl, nl, rfl⟩
      unfold Builtin.«set.__init__» noKeywords Builtin.Frozenset.updateFrom
      generalize hPI : pyIter = PI
      wp_walk
      subst hPI
      refine wpAny_pyIter_list hl1 ?_
      refine wpAny_bind (wpAny_runValue ?_)
      have below : q < s.heap.objs.size := Heap.lt_size hol
      have free : A.in1.in1.in1.handled = none := by simp [hh]
      have apart : q ≠ (s.heap.push (none0 w)).objs.size := by
        rw [Heap.size_push]; exact Nat.ne_of_lt (Nat.lt_succ_of_lt below)
      have off : s.heap.objs.size ∉ [(s.heap.push (none0 w)).objs.size, q] := by
        rw [Heap.size_push]; simp only [List.mem_cons, List.mem_singleton, List.not_mem_nil, or_false, not_or]
        exact ⟨Nat.ne_of_lt (Nat.lt_succ_self _), Nat.ne_of_gt below⟩
      have hval : ∀ (i : Nat) (v : Value), its[i]? = some v → ∃ k t, xs[i]? = some k ∧ v = .str k t := fun i v hv => at_txt hit i v (by rw [Array.getElem?_toList]; exact hv)
      refine fill ((Walks.list free _ q apart its).toS) s.heap.objs.size off xs size hb hval (its.size - 0) 0 _ (by omega) (Nat.zero_le _) ⟨⟨_, Heap.get?_push_size _ rfl, rfl, rfl⟩, (hl1.push _)⟩ ⟨0, Nat.le_refl 0, by rw [List.take_zero]; exact new_at (Heap.get?_push_of_some _ hS)⟩ fun z c' hm hc' hS' => ?_
      obtain ⟨h1, g2, d2, tk2, os2⟩ := z
      obtain rfl : g2 = s.gens := hm.gens
      obtain rfl : d2 = s.drawn := hm.drawn
      obtain rfl : os2 = s.os := hm.os
      show wpAny _ _ _ _ _ _
      refine wpAny_pure ?_
      show wpAny _ _ (ret Value.none) _ _ _
      rw [size] at hc'
      refine wpAny_pure ⟨rfl, h1, tk2, c', rfl, hS', hc', fun b o e => ?_⟩
      have b0 : b < s.heap.objs.size := Heap.lt_size e
      have b1 : b ≠ (s.heap.push (none0 w)).objs.size := by
        rw [Heap.size_push]; exact Nat.ne_of_lt (Nat.lt_succ_of_lt b0)
      exact hm.heap b o (by simp only [List.mem_cons, List.mem_singleton, List.not_mem_nil, or_false, not_or]; exact ⟨Nat.ne_of_lt b0, b1⟩) (Heap.get?_push_of_some _ (Heap.get?_push_of_some _ e))
    · match r2, hr2 with
      | .error e, hr2 => exact hr2
      | .ok .next, hr2 => exact hr2.elim
      | .ok .brk, hr2 => exact hr2.elim
      | .ok .cont, hr2 => exact hr2.elim
      | .ok (.ret r), hr2 =>
        obtain ⟨rfl, h1, tk, c', rfl, hS', hc', hk'⟩ := hr2
        repeat (any_goals (first | assumption | wp_step))
        exact h _ _ _ hS' hc' hk'
theorem strs_all : ∀ (vs : List Value), (∀ v ∈ vs, ∃ k u, v = Value.str k u) → StrsAre vs (vs.map Zs.tv)
  | vs, h => Zs.txt_tv h
end
end Zst

set_option Elab.async false
set_option linter.all false
set_option maxRecDepth 100000
set_option maxHeartbeats 4000000
/-! sorted(set(xs)), xs a list of texts -/
namespace Zst
open PySem PySem.Spec PyProof.Rows L2
section
variable {P : Program} {w : World} {A : Around} {E : Value → Shared → Prop} {s : Shared} {a : Addr}
theorem sorted_X {l : List Str} {n : Nat} {Q : Value → Shared → Prop} (R : SetX w s.heap a l n) (hh : A.handled = none) (hn1 : n ≤ sizeLine)
    (hQ : ∀ s' p (out : Array Value) (c : Nat) (ys : List Str), (∀ b o, s.heap.get? b = some o → s'.heap.get? b = some o) → s'.gens = s.gens → s'.os = s.os → s.heap.objs.size ≤ p →
      s'.heap.get? p = some (seqObj "list" out c) → StrsAre out.toList ys → ys.Nodup → Zs.Rise ys → (∀ k, k ∈ ys ↔ k ∈ l) → ys.length = n → Q (.ref p) s') :
    wpAny (model P w) A (call (.builtin "sorted") [.ref a]) Q E s := by
  obtain ⟨o, es, ep, t, ho, hx, hd, g, nd, hm, hb, hf, hn, hr, hl⟩ := R
  refine Calls.call_function_entry kind_sorted plain_sorted entry_sorted (args_sorted1 _) ?_
  unfold Builtin.«sorted»
  refine wpAny_bind (m := checkCount "sorted" 1 1 _) (wpAny_pure ?_)
  refine wpAny_bind (collect_set (A := A.in1) hh ⟨o, ho, hx.1, hd⟩ hf hb hr hl fun s1 vs k1 z1 g1 o1 pm => ?_)
  have hlen : vs.length = n := by rw [pm.length_eq, List.length_map, Array.length_toList]; exact hn
  have hI : StrsAre vs (vs.map Zs.tv) := Zs.txt_tv fun v hv => by
    obtain ⟨e, he, q⟩ := List.mem_map.mp (pm.mem_iff.mp hv)
    obtain ⟨k, u, q1, _⟩ := g e he
    exact ⟨k, u, by rw [← q]; exact q1⟩
  have pk : (vs.map Zs.tv).Perm (es.toList.map keyX) := by
    have q := pm.map Zs.tv
    rw [List.map_map] at q
    exact q
  have room : vs.length ≤ sizeLine := by rw [hlen]; exact hn1
  refine wpAny_bind (wpAny_newList ?_ room)
  have hoL : (s1.heap.push (seqObj "list" vs.toArray 0)).get? s1.heap.objs.size = some (seqObj "list" vs.toArray 0) := Heap.get?_push_size _ rfl
  refine wpAny_bind (wpAny_holding (wpAny_call_entry slot_list_sort ⟨_, hoL, rfl⟩ entry_list_sort (SrtO.list_sort_ord Zs.swo_txt hoL room (fun h2 => Zs.txt_sortable hI h2) fun out a1 a2 => ⟨_, rfl, ?_⟩) (args_list_sort _)))
  obtain ⟨c, hc⟩ := sortedHeap_at (vs := vs) (out := out.toArray) hoL
  obtain ⟨b1, b2, b3⟩ := Zs.txt_out hI a1 a2
  have pn : (out.map Zs.tv).Perm (es.toList.map keyX) := b2.trans pk
  refine wpAny_pure ⟨_, rfl, hQ _ s1.heap.objs.size out.toArray c (out.map Zs.tv) (fun b u e => ?_) g1 o1 z1 hc b1 (pn.nodup_iff.mpr nd) b3 (fun k => by rw [pn.mem_iff, ← hm k]) ?_⟩
  · have q := k1 b u e
    have lt := Heap.lt_size q
    show (sortedHeap (s1.heap.push (seqObj "list" vs.toArray 0)) s1.heap.objs.size vs out.toArray).get? b = some u
    rw [sortedHeap_old (Nat.ne_of_lt lt) (by rw [size_push']; exact Nat.lt_succ_of_lt lt)]
    exact Heap.get?_push_of_some _ q
  · rw [pn.length_eq, List.length_map, Array.length_toList]; exact hn
end
end Zst
namespace L2
open PySem PySem.Spec PyProof.Rows
/-- sorted(set(xs)): each text once, rising -/
def tSortSet (K : PySem.W.Frag) (te : TE) : TE := fun σ H Q => te σ H fun x H1 => ∃ (a : Addr) (ns : List Str), x = .ref a ∧ SqL K H1 a (ns.map V.str) ∧ ns.length ≤ 1000 ∧
  ∀ (ys : List Str) (p : Addr), ys.Nodup → (∀ k, k ∈ ys ↔ k ∈ ns) → Zs.Rise ys → H1 p = none → Q (.ref p) (upd H1 p (.lst (ys.map V.str)))
section
variable {X : Cx}
theorem pe_sortSet {e : Expr} {te : TE} {p p2 q pos : Pos} (hc : X.calm = true) (hg : Gl X "sorted") (hm : X.mg "sorted" = none) (hv : bootBuiltins "sorted" = some (.builtin "sorted")) (hg2 : Gl X "set") (hm2 : X.mg "set" = none) (he : PE X e te)
    (na : starEach [e] X.env = (false, eval e X.env) :: starEach [] X.env := by rfl) : PE X (.Call (.Name "sorted" p) [.Call (.Name "set" p2) [e] [] q] [] pos) (tSortSet X.K te) := by
  refine ⟨fun pins s σ H Q I h => ?_⟩
  refine Call_ (ld_blt I hg hm hv ?_)
  refine PyProof.Rows.callWith_builtin1 (PyProof.Rows.args_cons ?_ rfl) rfl rfl
  refine Call_ (ld_blt I hg2 hm2 boot_set ?_)
  refine PyProof.Rows.callWith_type1 (PyProof.Rows.args_cons (thn (he.run pins s σ H _ I h) fun v s1 ⟨x, H1, I1, r1, q1⟩ => PyProof.Rows.args_nil ?_) na) na rfl
  obtain ⟨a, ns, rfl, hq, hz, q1⟩ := q1
  cases r1
  obtain ⟨its, r, pl, hlz⟩ := I1.list hq
  refine Zst.call_setL (its := its.toArray) ns (I1.ok.hd hc) pl.isList r.strs (by unfold scanBound; omega) fun h1 tk c hS hcn hk => ?_
  refine PyProof.Rows.args_nil ?_
  refine Zst.sorted_X (s := { s1 with heap := h1, toks := tk }) hS (I1.ok.hd hc) (Nat.le_trans hcn (Nat.le_trans hz (by decide))) fun s' l out c2 ys k2 g2 o2 l2 e2 r2 nd rs mm hl => ?_
  have kp : ∀ b o, s1.heap.get? b = some o → s'.heap.get? b = some o := fun b o e => k2 b o (hk b o e)
  have hl2 : s1.heap.objs.size ≤ l := by
    obtain ⟨_, _, _, _, ho, _⟩ := hS
    exact Nat.le_trans (Nat.le_of_lt (Heap.lt_size ho)) l2
  have new : ObjOk X.prog X.w (upd H1 l (.lst (ys.map V.str))) s'.heap l (.lst (ys.map V.str)) := by
    refine ⟨?_, out.toList, c2, vals_of_strs r2, e2⟩
    rw [List.length_map, hl]
    exact Nat.le_trans hcn (Nat.le_trans hz (by decide))
  exact ⟨.ref l, upd H1 l (.lst (ys.map V.str)), I1.call' (ch := []) o2 (Un.laid kp hl2 (I1.hok.fresh hl2)) (I1.hok.laid kp hl2 new) (by rw [g2]; exact I1.bare) (fun b z => nomatch z), rfl, q1 ys l nd mm rs (I1.hok.fresh hl2)⟩
end
end L2

set_option Elab.async false
set_option linter.all false
set_option maxRecDepth 100000
set_option maxHeartbeats 1000000
/-! the rows of a lot in their order -/
namespace Z
open PySem PySem.Spec PyProof.Rows L2
abbrev NL' (x y : Tx) : Prop := ¬ y.s < x.s
theorem tx_anti {x y : Tx} (h1 : ¬ y.s < x.s) (h2 : ¬ x.s < y.s) : x = y := by
  cases x
  cases y
  congr 1
  exact List.le_antisymm (by simpa using h1) (by simpa using h2)
theorem pw_uniq : ∀ {a b : List Tx}, a.Nodup → b.Nodup → a.Pairwise NL' → b.Pairwise NL' → (∀ x, x ∈ a ↔ x ∈ b) → a = b
  | [], [], _, _, _, _, _ => rfl
  | [], y :: _, _, _, _, _, m => absurd ((m y).mpr List.mem_cons_self) (by simp)
  | x :: _, [], _, _, _, _, m => absurd ((m x).mp List.mem_cons_self) (by simp)
  | x :: xs, y :: ys, n1, n2, p1, p2, m => by
    rw [List.nodup_cons] at n1 n2
    rw [List.pairwise_cons] at p1 p2
    have e : x = y := by
      rcases List.mem_cons.mp ((m x).mp List.mem_cons_self) with h | h
      · exact h
      · rcases List.mem_cons.mp ((m y).mpr List.mem_cons_self) with h2 | h2
        · exact h2.symm
        · exact tx_anti (p1.1 y h2) (p2.1 x h)
    subst e
    rw [pw_uniq n1.2 n2.2 p1.2 p2.2 fun z => ⟨fun h => ?_, fun h => ?_⟩]
    · rcases List.mem_cons.mp ((m z).mp (List.mem_cons_of_mem _ h)) with q | q
      · exact absurd (q ▸ h) n1.1
      · exact q
    · rcases List.mem_cons.mp ((m z).mpr (List.mem_cons_of_mem _ h)) with q | q
      · exact absurd (q ▸ h) n2.1
      · exact q
/-- each of the rows once, in their order -/
def srt (S : List Tx) : List Tx := (onceT [] S).mergeSort fun x y => !decide (y.s < x.s)
theorem lst_total (x y : List Nat) : ¬ y < x ∨ ¬ x < y := by
  by_cases h : y < x
  · exact .inr (fun h2 => absurd (List.lt_trans h h2) (List.lt_irrefl _))
  · exact .inl h
theorem srt_perm (S : List Tx) : (srt S).Perm (onceT [] S) := List.mergeSort_perm _ _
theorem srt_mem {S : List Tx} {x : Tx} : x ∈ srt S ↔ x ∈ S := by rw [(srt_perm S).mem_iff, onceT_mem]; simp
theorem srt_nd (S : List Tx) : (srt S).Nodup := (srt_perm S).nodup_iff.mpr (onceT_nodup _ _ .nil)
theorem srt_pw (S : List Tx) : (srt S).Pairwise NL' := by
  have h := List.pairwise_mergeSort (le := fun x y : Tx => !decide (y.s < x.s)) (fun a b c h1 h2 => by
    simp only [Bool.not_eq_true', decide_eq_false_iff_not] at h1 h2 ⊢
    exact Zs.lists_tr h1 h2) (fun a b => by
    simp only [Bool.or_eq_true, Bool.not_eq_true', decide_eq_false_iff_not]
    exact lst_total a.s b.s) (onceT [] S)
  exact h.imp fun h => by simpa using h
theorem srt_of {l S : List Tx} (nd : l.Nodup) (pw : l.Pairwise NL') (m : ∀ x, x ∈ l ↔ x ∈ S) : l = srt S :=
  pw_uniq nd (srt_nd S) pw (srt_pw S) fun x => by rw [m x, srt_mem]
theorem srt_congr {S T : List Tx} (m : ∀ x, x ∈ S ↔ x ∈ T) : srt S = srt T := srt_of (srt_nd S) (srt_pw S) fun x => by rw [srt_mem, m x]
theorem srt_self {S : List Tx} : srt (srt S) = srt S := srt_congr fun x => srt_mem
theorem srt_filter {S : List Tx} {p : Tx → Bool} : (srt S).filter p = srt (S.filter p) := srt_of ((srt_nd S).filter _) ((srt_pw S).filter _) fun x => by rw [List.mem_filter, List.mem_filter, srt_mem]
theorem srt_len {S : List Tx} : (srt S).length ≤ S.length := by
  rw [(srt_perm S).length_eq]
  have := onceT_len S []
  simpa using this
theorem srt_sorted {S l : List Tx} (h : SortedT (onceT [] S) l) : l = srt S := srt_of (h.1.nodup_iff.mpr (onceT_nodup _ _ .nil)) h.2 fun x => by rw [h.1.mem_iff, onceT_mem]; simp
section
variable {K : PySem.W.Frag} {Γ : Own} {ρ : Z.Env} {ta tb te : TE}
/-- sorted(set(xs)) -/
theorem ev_sortSet {xs : List Tx} (h : Ev K Γ te ρ (Is xs)) (hz : xs.length ≤ 1000) : Ev K Γ (tSortSet K te) ρ (Is (srt xs)) := fun Δ σ H Q s hh e k => h Δ σ H _ s hh e fun v H1 a pa e1 r => by
  have ea : a = xs := pa
  subst ea
  obtain ⟨p, vs, rfl, n, sq, q⟩ := r
  have ev := all2_tx q
  subst ev
  refine ⟨p, _, rfl, sq, by rw [List.length_map]; exact hz, fun ys l nd mm rs hl => ?_⟩
  have e1' : ys = (ys.map fun z => (⟨z.cps.toList⟩ : Tx)).map fun x => (⟨x.s.toArray⟩ : Str) := by
    rw [List.map_map]
    conv => lhs; rw [← List.map_id ys]
    exact List.map_congr_left fun z _ => by cases z; rfl
  have inj : ∀ {u w : Str}, (⟨u.cps.toList⟩ : Tx) = ⟨w.cps.toList⟩ → u = w := fun {u w} z => by
    cases u
    cases w
    have := Tx.mk.inj z
    congr 1
    exact Array.toList_inj.mp this
  have es : (ys.map fun z => (⟨z.cps.toList⟩ : Tx)) = srt a := by
    refine srt_of (List.Pairwise.map _ (fun u w hne z => hne (inj z)) nd) (List.pairwise_map.mpr rs) fun x => ?_
    rw [List.mem_map]
    constructor
    · rintro ⟨z, hz, rfl⟩
      obtain ⟨x, hx, rfl⟩ := List.mem_map.mp ((mm z).mp hz)
      exact hx
    · intro hx
      exact ⟨⟨x.s.toArray⟩, (mm _).mpr (List.mem_map.mpr ⟨x, hx, rfl⟩), rfl⟩
  refine k _ _ (srt a) rfl (e1.trans (Ext.new e1.2 hl _)) (new_lst e1.2 hl ?_)
  have e2 : ys.map V.str = (srt a).map fun x => V.str ⟨x.s.toArray⟩ := by
    rw [← es]
    conv => lhs; rw [e1']
    rw [List.map_map]
    rfl
  rw [e2]
  have em : (srt a) = (srt a).map id := (List.map_id _).symm
  conv => rhs; rw [em]
  exact All2.map fun x _ => rfl
theorem all2_app {α : Type} [Rp α] {Δ : Gh} {H : Hp} : ∀ {vs ws : List V} {xs ys : List α}, All2 (fun u a => Rp.rp K Δ H u a) vs xs → All2 (fun u a => Rp.rp K Δ H u a) ws ys → All2 (fun u a => Rp.rp K Δ H u a) (vs ++ ws) (xs ++ ys)
  | [], _, [], _, _, h => h
  | [], _, _ :: _, _, q, _ => q.elim
  | _ :: _, _, [], _, q, _ => q.elim
  | _ :: _, _, _ :: _, _, q, h => ⟨q.1, all2_app q.2 h⟩
/-- t + u of tuples -/
theorem o2_catTA {α : Type} [Rp α] {x y : Tup α} (hz : x.l.length + y.l.length ≤ 100000) : Op2 K (rCatA K) x y (Is (⟨x.l ++ y.l⟩ : Tup α)) := fun Δ H v w Q hh r1 r2 k => by
  obtain ⟨p, vs, rfl, s1, _, q1⟩ := r1
  obtain ⟨q, ws, rfl, s2, _, q2⟩ := r2
  refine ⟨p, q, vs, ws, rfl, rfl, s1.seq, s2.seq, by rw [q1.len, q2.len]; exact Nat.le_trans hz (by decide), fun h => ?_, fun _ h => ?_, fun _ _ l hl => ?_⟩
  · subst h
    have e : x.l = [] := List.eq_nil_of_length_eq_zero (by rw [← q1.len]; rfl)
    exact k _ H _ rfl (Ext.refl hh) ⟨q, ws, rfl, s2, s2.seq, by rw [e]; exact q2⟩
  · subst h
    have e : y.l = [] := List.eq_nil_of_length_eq_zero (by rw [← q2.len]; rfl)
    exact k _ H _ rfl (Ext.refl hh) ⟨p, vs, rfl, s1, s1.seq, by rw [e, List.append_nil]; exact q1⟩
  · exact k _ _ _ rfl (Ext.new hh hl _) (new_tup hh hl (all2_app q1 q2))
end
end Z

set_option Elab.async false
set_option linter.all false
set_option maxRecDepth 100000
set_option maxHeartbeats 2000000
/-! list(o), o an instance whose __iter__ hands back iter(a tuple), with a __len__ -/
namespace L2
open PySem PySem.Spec PyProof.Rows
/-- the iterator at it stands ahead of item i of the tuple at t -/
def TitO (t it : Addr) (i : Nat) : HO := .ext fun h => h.IsTupleIter it t i
section
variable {X : Cx} {pins : List (Addr × Obj)} {σ : L2.St} {H : Hp} {s : Shared} {t it : Addr} {i : Nat}
theorem tit_ok {P : Program} {w : World} {H : Hp} {h : Heap} (e : h.IsTupleIter it t i) : ObjOk P w H h it (TitO t it i) := by
  have ⟨o, ho, _⟩ := e
  exact ⟨e, ⟨o, ho⟩, fun h1 h2 q k => q.at fun o e => k o e⟩
theorem tit_get (I : Inv X pins σ H s) (e : H it = some (TitO t it i)) : s.heap.IsTupleIter it t i := (I.hok it _ e).1
/-- iter(t), t a tuple -/
def rIterT (K : PySem.W.Frag) : List V → Hp → VK → Prop := fun xs H Q => ∃ (t : Addr) (zs : List V), xs = [.ref t] ∧ SqT K H t zs ∧ ∀ it, H it = none → Q (.ref it) (upd H it (TitO t it 0))
theorem call_iterT : CallR X (.builtin "iter") (rIterT X.K) := by
  intro pins s σ H xs us Q I r h
  obtain ⟨t, zs, rfl, hq, q⟩ := h
  obtain rfl := Vals.ref1 r
  obtain ⟨its, rv, pl, hz⟩ := I.tuple hq
  refine Calls.call_function_entry (by decide +kernel) (by decide +kernel) PySem.W.kdk_entry_iter (PySem.W.kdk_args_iter _) ?_
  unfold Builtin.«iter»
  refine wpAny_bind (m := someArgs "iter" 1 2 _) (wpAny_of_eq (a := [Value.ref t]) (by first | rfl | kernel_rfl!) ?_)
  show wpAny _ _ (pyIter (.ref t) >>= _) _ _ _
  refine wpAny_bind (wpAny_pyIter_tuple pl ?_)
  refine wpAny_pure ⟨_, rfl, ?_⟩
  exact ⟨.ref s.heap.objs.size, _, I.laid (t' := s.toks) (fun b u e => Heap.get?_push_of_some _ e) (Nat.le_refl _) (tit_ok ⟨_, Heap.get?_push_size _ rfl, rfl, rfl⟩), rfl, q _ (I.hok.fresh (Nat.le_refl _))⟩
end
end L2

set_option Elab.async false
set_option linter.all false
set_option maxRecDepth 100000
set_option maxHeartbeats 2000000
namespace L2
open PySem PySem.Spec PyProof.Rows
/-- tracked no more -/
def rm (H : Hp) (it : Addr) : Hp := fun b => if b = it then none else H b
theorem rm_at (H : Hp) (it : Addr) : rm H it it = none := if_pos rfl
theorem rm_ne {H : Hp} {it b : Addr} (h : b ≠ it) : rm H it b = H b := if_neg h
section
variable {X : Cx} {CX : CXT} {pins : List (Addr × Obj)} {σ : L2.St} {H : Hp} {s : Shared} {n : Nat} {C fi fl a : Addr} {fdI fdL : FuncData} {psI psL : List Str} {spI spL : Sp} {E : XK} {A1 : Around}
/-- behind the draining of a tuple's iterator -/
theorem Inv.drew {t it q : Addr} {i c : Nat} {acc : Array Value} {ys : List V} {s' : Shared} (I : Inv X pins σ H s) (e : H it = some (TitO t it i)) (eq : H q = some (.lst [])) (keep : ∀ b o, b ≠ q → b ≠ it → s.heap.get? b = some o → s'.heap.get? b = some o)
    (os : s'.os = s.os) (hb : AllBare s'.gens) (hS : s'.heap.get? q = some { cls := .type "list", dict := none, data := .seq acc c, slots := #[] }) (hv : Vals ys acc.toList) (hz : ys.length ≤ sizeLine) (there : ∃ o, s'.heap.get? it = some o) : Inv X pins σ (upd (rm H it) q (.lst ys)) s' := by
  have off : ∀ {b : Addr}, H b = none → b ≠ q ∧ b ≠ it := by
    intro b n
    constructor
    · intro z
      rw [z, eq] at n
      cases n
    · intro z
      rw [z, e] at n
      cases n
  have off2 : ∀ {b : Addr} {o : HO}, H b = some o → (∀ φ, o ≠ .ext φ) → (∀ xs, o ≠ .lst xs) → b ≠ q ∧ b ≠ it := by
    intro b o y n1 n2
    constructor
    · intro z
      rw [z, eq] at y
      exact n2 _ (Option.some.inj y).symm
    · intro z
      rw [z, e] at y
      exact n1 _ (Option.some.inj y).symm
  have at2 : ∀ {b : Addr}, b ≠ q → b ≠ it → upd (rm H it) q (.lst ys) b = H b := fun {b} n1 n2 => by rw [upd_ne n1, rm_ne n2]
  refine I.call' (ch := []) os ⟨fun b o y n _ _ => keep b o (off n).1 (off n).2 y, fun b o y n _ _ => ⟨o.slots, keep b o (off n).1 (off n).2 y⟩, fun b o y n _ => ?_, fun b o y _ => ?_, fun b xs y => ?_, fun b o u y => ?_, fun b ps y => ⟨#[], ?_⟩⟩ (fun b u y => ?_) hb fun _ z => nomatch z
  · rw [at2 (off n).1 (off n).2]; exact n
  · by_cases h1 : b = q
    · rw [h1]; exact ⟨_, hS⟩
    · by_cases h2 : b = it
      · rw [h2]; exact there
      · exact ⟨o, keep b o h1 h2 y⟩
  · have z := off2 y (fun φ z => by cases z) (fun φ z => by cases z)
    rw [at2 z.1 z.2]; exact y
  · have z := off2 y (fun φ z => by cases z) (fun φ z => by cases z)
    rw [at2 z.1 z.2]; exact y
  · have z := off2 y (fun φ z => by cases z) (fun φ z => by cases z)
    rw [at2 z.1 z.2, y]; simp
  · by_cases h1 : b = q
    · subst h1
      rw [upd_same] at y
      cases y
      exact ⟨hz, acc.toList, c, hv, by rw [hS]⟩
    · by_cases h2 : b = it
      · rw [h2, upd_ne (fun z => h1 (h2.trans z)), rm_at] at y
        cases y
      · rw [at2 h1 h2] at y
        refine (I.hok b u y).stay (fun d v hd w => ?_) (fun d w => ?_) fun d xs w => ?_
        · rcases hd with z | z
          · rw [z] at w ⊢; exact keep b v h1 h2 w
          · have z2 := off2 z (fun φ z => by cases z) (fun φ z => by cases z)
            exact keep d v z2.1 z2.2 w
        · have z := off2 w (fun φ z => by cases z) (fun φ z => by cases z)
          rw [at2 z.1 z.2]; exact w
        · have z := off2 w (fun φ z => by cases z) (fun φ z => by cases z)
          rw [at2 z.1 z.2]; exact w
/-- the turn behind a tuple's last item: the iterator stays an object -/
theorem tuple_out {P : Program} {w : World} {A : Around} {E : Value → Shared → Prop} {s : Shared} {it t : Addr} {i : Nat} {items : Array Value} {Q : Option Value → Shared → Prop} (hh : A.handled = none) (hit : s.heap.IsTupleIter it t i) (ht : s.heap.IsTuple t items) (hx : items[i]? = none)
    (hQ : ∀ h', Heap.ExtBut it s.heap h' → (∃ o, h'.get? it = some o) → Q none { s with heap := h' }) : wpAny (model P w) A (pyNext (.ref it)) Q E s := by
  obtain ⟨o, ho, hc, hd⟩ := id hit
  obtain ⟨ol, hol, _, nl, hdl⟩ := ht
  unfold pyNext
  refine wpAny_bind (wpAny_attempt (wpAny_callSpecial?_slot (name := Str.ofString "__next__") hit.typeIs slot_tupleiter_next (wpAny_call_entry slot_tupleiter_next hit.typeIs entry_tupleiter_next ?_ (args_tupleiter_next _))))
  refine wpAny_bind (m := field (.ref it) 0) (wpAny_field ho hd (x := .ref t) rfl ?_)
  change wpAny _ _ (if (Value.ref t == Value.none) = true then _ else _) _ _ s
  rw [if_neg (fun z => by cases (show false = true from z))]
  refine wpAny_bind (m := field (.ref it) 1) (wpAny_field ho hd (x := .int i 0) rfl ?_)
  refine wpAny_bind (m := seqItems? (.ref t)) (wpAny_seqItems hol hdl ?_)
  simp only [Int.toNat_natCast, hx]
  refine wpAny_bind (wpAny_rule (wpAny_bind (wpAny_setField ho hd (by simp) ?_)))
  have hu := Heap.get?_update_self (Obj.mapFields (·.setIfInBounds 0 Value.none)) ho (Obj.isFreed_of_fields (Obj.data_mapFields hd _))
  refine wpAny_bind (m := newExc (.type "StopIteration") []) ?_
  simp only [newExc, newTuple]
  refine wpAny_bind (wpAny_newObj_type (wpAny_bind (m := firstArgMember _ _) (wpAny_of_eq (a := Value.none) (by first | rfl | (simp only [firstArgMember]; rfl)) (wpAny_newObj_type ?_ (by size_fits)))) (by size_fits))
  simp only [raiseNew]
  refine wpAny_bind (wpAny_handled ?_)
  rw [show A.in1.handled = none from hh]
  refine wpAny_bind (wpAny_pure (wpAny_throw ?_))
  refine wpAny_bind (wpAny_isInstance (T := "StopIteration") (b := true) ⟨_, Heap.get?_push_size _ rfl, rfl⟩ isSubtype_stop ?_)
  exact wpAny_pure (hQ _ (((Heap.SameBut.update ..).extBut.push _).push _) ⟨_, Heap.get?_push_of_some _ (Heap.get?_push_of_some _ hu)⟩)
/-- the loop that draws a tuple's iterator into a list -/
theorem tuple_loop {P : Program} {w : World} {A : Around} {it t q : Addr} {items : Array Value} {R : Result → Shared → Prop} (hh : A.handled = none) (nt : t ≠ it) (nq : q ≠ it) (nqt : q ≠ t) (hz : items.size ≤ sizeLine) :
    ∀ (r i : Nat) (s : Shared) (acc : Array Value) (c : Nat), items.size - i = r → i ≤ items.size → s.heap.IsTupleIter it t i → s.heap.IsTuple t items → s.heap.get? q = some { cls := .type "list", dict := none, data := .seq acc c, slots := #[] } → acc.toList = items.toList.take i →
      (∀ (h' : Heap) (c' : Nat), (∀ b o, b ≠ q → b ≠ it → s.heap.get? b = some o → h'.get? b = some o) → (∃ o, h'.get? it = some o) → h'.get? q = some { cls := .type "list", dict := none, data := .seq items c', slots := #[] } → R (.ok (.ret .none)) { s with heap := h' }) →
      codeAny (model P w) A (.builtin "list.extend.loop" ⟨[.ref q, .ref it, .none], []⟩) R s := by
  intro r
  induction r with
  | zero =>
    intro i s acc c hr hi hit ht hq ha hR
    obtain rfl : i = items.size := by omega
    refine codeAny_builtin PySem.F.entry_extend_loop ?_
    rw [Around.under_plainId PySem.F.plain_extend_loop _]
    show wpAny _ A.in1 (pyNext (.ref it) >>= _) _ _ s
    refine wpAny_bind (tuple_out (A := A.in1) hh hit ht (by simp) fun h' e th => wpAny_pure ?_)
    have ea : acc = items := by
      apply Array.toList_inj.mp
      rw [ha]
      exact List.take_of_length_le (by simp)
    subst ea
    exact hR h' c (fun b o h1 h2 y => e b o h2 y) th (e q _ nq hq)
  | succ r ih =>
    intro i s acc c hr hi hit ht hq ha hR
    have lt : i < items.size := by omega
    refine codeAny_builtin PySem.F.entry_extend_loop ?_
    rw [Around.under_plainId PySem.F.plain_extend_loop _]
    show wpAny _ A.in1 (pyNext (.ref it) >>= _) _ _ s
    refine wpAny_bind (wpAny_pyNext_tuple_item hit ht (x := items[i]) (Array.getElem?_eq_getElem lt) fun h1 hit1 sb1 => ?_)
    show wpAny _ A.in1 (updateSeq q (·.push items[i]) >>= _) _ _ _
    have hq1 : h1.get? q = some { cls := .type "list", dict := none, data := .seq acc c, slots := #[] } := (sb1.2 q nq).trans hq
    have hasz : acc.size = i := by
      rw [← Array.length_toList, ha, List.length_take]
      have : items.toList.length = items.size := Array.length_toList
      omega
    refine wpAny_bind (wpAny_updateSeq hq1 rfl (wpAny_pure ⟨plainId_quiet PySem.F.plain_extend_loop _, ?_⟩) (by omega) (by show (acc.push _).size ≤ sizeLine + 1; rw [Array.size_push]; omega))
    have keep : ∀ b o, b ≠ q → h1.get? b = some o → (h1.update q (Obj.mapSeq (·.push items[i]))).get? b = some o := fun b o hb y => (Heap.get?_update_other _ _ (Ne.symm hb)).trans y
    refine ih (i + 1) _ (acc.push items[i]) _ (by omega) lt (hit1.at fun o y => keep it o (Ne.symm nq) y) ((ht.extBut sb1.extBut nt).at fun o y => keep t o (Ne.symm nqt) y) (Heap.get?_update_self _ hq1 rfl) ?_ fun h' c' k' th hq' => hR h' c' (fun b o n1 n2 y => k' b o n1 n2 (keep b o n1 ((sb1.2 b n2).trans y))) th hq'
    rw [Array.toList_push, ha, List.take_add_one]
    congr 1
    rw [Array.getElem?_toList, Array.getElem?_eq_getElem lt]
    rfl
/-- the length is asked -/
theorem own_len_hint {Q : Bool → Shared → Prop} {dx : Addr} {fs : List (Str × V)} {R : Hp → Prop} {E1 : Value → Shared → Prop} (sb : Sub X (n + 1) A1) (hs : PySem.W.findIn X.K (.ref C) "__len__" = some (some (.ref fl))) (hf : PySem.W.isFn X.K (.ref fl) = true)
    (F : FnOk X.prog X.w X.K X.mg X.base CX n fl fdL psL spL) (hb : Binds X.K fdL psL []) (hx : ∀ e s', CX X.stack H s E e s' → False) (I : Inv X pins σ H s) (ha : H a = some (.ins C dx fs))
    (h : spL [.ref a] H (fun z H' => ∃ k : Nat, k ≤ 100000 ∧ z = .int k ∧ R H') E) (hQ : ∀ b s' H', Inv X pins σ H' s' → R H' → Q b s') : wpAny (model X.prog X.w) A1 (Builtin.List.listLengthHint (.ref a)) Q E1 s := by
  obtain ⟨mA, J, _⟩ := ins_get I.hok ha
  obtain ⟨od, J, _⟩ := J.look
  obtain ⟨m, hF⟩ := I.fr
  have e0 : Env0 X.prog X.w X.K X.mg X.base A1.in1 X.stack s H := by
    have e := I.env0
    exact ⟨by show A1.frames = _; rw [sb.fr]; exact e.frames, e.mod, e.bs, e.bsz, e.funs, e.frf, e.hok, e.bare⟩
  have hl := F.len _ _ _ _ h
  have cal : wpAny (model X.prog X.w) A1 (call (.builtin "len") [.ref a]) (fun v s' => ∃ (k : Nat) (t : Tok) (H' : Hp), k ≤ 100000 ∧ v = .int k t ∧ Inv X pins σ H' s' ∧ R H') (fun _ _ => False) s := by
    refine PySem.W.len_K hF I.ok.mod.kin J hs hf (wpAny_call (codeAny_mono (F.run A1.in1 X.stack s H ⟨[.ref a], []⟩ [.ref a] [.ref a] _ E sb.room.in1 e0 (by
      have := hb s [.ref a] I.kIn (by simpa using hl)
      simpa using this) (.cons rfl .nil) h) fun r s' hq => ?_))
    match r, hq with
    | .error e, hq => exact (hx e s' hq).elim
    | .ok .next, hq => exact False.elim hq
    | .ok .brk, hq => exact False.elim hq
    | .ok .cont, hq => exact False.elim hq
    | .ok (.ret w), hq =>
      obtain ⟨z, H', I', rz, k, hk, rfl, q⟩ := I.after hq
      obtain ⟨t, rfl⟩ := (show ∃ t, w = Value.int k t from rz)
      refine ⟨⟨by omega, by omega⟩, ?_⟩
      exact ⟨k, _, H', hk, rfl, I'.kept (t' := s'.toks + 1) (fun _ _ e => e), q⟩
  unfold Builtin.List.listLengthHint
  refine wpAny_bind (wpAny_bind (J.type.here ((PySem.W.looks_findIn I.kIn hs).here ?_)))
  refine PySem.W.KFB.if_not rfl ?_
  show wpAny _ _ (rule "list.length-hint.len" >>= _) _ _ _
  refine wpAny_bind (wpAny_rule ?_)
  refine wpAny_bind (wpAny_attempt (wpAny_mono cal (fun v s' hv => ?_) fun _ _ z => z.elim))
  obtain ⟨k, t, H', hk, rfl, I', r⟩ := hv
  dsimp only
  refine wpAny_bind (wpAny_of_eq (a := some (k : Int)) (by first | rfl | kernel_rfl) ?_)
  dsimp only
  have hn : Builtin.List.listTooLong (k : Int).toNat = false := by
    unfold Builtin.List.listTooLong
    have := sizeLine_eq
    have h1 : ¬ (k : Int).toNat > sizeLine := by
      rw [Int.toNat_natCast]
      exact Nat.not_lt.mpr (Nat.le_trans hk (by decide))
    simpa using h1
  rw [if_neg (by rw [hn]; exact Bool.false_ne_true)]
  exact wpAny_pure (hQ _ s' H' I' r)
/-- list(o) -/
def rListI (K : PySem.W.Frag) (C : Addr) (spI spL : Sp) (E : XK) : List V → Hp → VK → Prop := fun xs H Q => ∃ a dx fs, xs = [.ref a] ∧ H a = some (.ins C dx fs) ∧ ∀ q, H q = none →
  spI [.ref a] (upd H q (.lst [])) (fun v H2 => ∃ it t, v = .ref it ∧ H2 it = some (TitO t it 0) ∧ (∃ dx2 fs2, H2 a = some (.ins C dx2 fs2)) ∧
    spL [.ref a] H2 (fun z H3 => ∃ k : Nat, k ≤ 100000 ∧ z = .int k ∧ ∃ ys, H3 it = some (TitO t it 0) ∧ H3 q = some (.lst []) ∧ SqT K H3 t ys ∧ ys.length ≤ 100000 ∧ Q (.ref q) (upd (rm H3 it) q (.lst ys))) E) E
theorem call_listI (hiS : PySem.W.findIn X.K (.ref C) "__iter__" = some (some (.ref fi))) (hiF : PySem.W.isFn X.K (.ref fi) = true) (FI : FnOk X.prog X.w X.K X.mg X.base CX0 n fi fdI psI spI) (bI : Binds X.K fdI psI [])
    (hlS : PySem.W.findIn X.K (.ref C) "__len__" = some (some (.ref fl))) (hlF : PySem.W.isFn X.K (.ref fl) = true) (FL : FnOk X.prog X.w X.K X.mg X.base CX0 n fl fdL psL spL) (bL : Binds X.K fdL psL []) (hr : Room (n + 4) X.A) : CallR X (.type "list") (rListI X.K C spI spL E) := by
  intro pins s σ H xs us Q I rv h
  obtain ⟨a, dx, fs, rfl, ha, hq⟩ := h
  obtain ⟨u, rfl, ru⟩ := rv.one
  cases ru
  have sb : Sub X (n + 1) X.A.in1.in1 := ⟨(hr.mono (by omega : n + 3 ≤ n + 4)).in1.in1, rfl⟩
  refine callType_codes (Q₁ := fun obj z => obj = .ref s.heap.objs.size ∧ z = { s with heap := s.heap.push { cls := .type "list", data := .seq #[] } }) PySem.F.called_list (PySem.F.typeCall_list_1 _) PySem.F.entry_list_init (code_list_new _ ⟨rfl, rfl⟩) fun obj z hz => ?_
  obtain ⟨rfl, rfl⟩ := hz
  have hS : (s.heap.push { cls := .type "list", data := .seq #[] }).get? s.heap.objs.size = some { cls := .type "list", data := .seq #[] } := Heap.get?_push_size _ rfl
  refine ⟨⟨_, hS, rfl⟩, PySem.F.args_list_init_2 _ _, ?_⟩
  have fr : H s.heap.objs.size = none := I.hok.fresh (Nat.le_refl _)
  have hsp := hq _ fr
  have I1 : Inv X pins σ (upd H s.heap.objs.size (.lst [])) { s with heap := s.heap.push { cls := .type "list", data := .seq #[] } } := I.lnew (its := []) (t' := s.toks) .nil (Nat.zero_le _)
  generalize hQS : s.heap.objs.size = q at *
  show wpAny _ _ (do let old ← Builtin.List.listItems (.ref q); Builtin.List.listUpdate (.ref q) (fun _ => #[]); letGo old.toList.reverse; Builtin.List.listExtendWith (.ref q) (.ref a) .none) _ _ _
  refine wpAny_bind ?_
  unfold Builtin.List.listItems
  refine wpAny_bind (wpAny_seqItems hS rfl (wpAny_pure ?_))
  show wpAny _ _ (updateSeq q (fun _ => #[]) >>= fun _ => letGo (#[] : Array Value).toList.reverse >>= fun _ => Builtin.List.listExtendWith (.ref q) (.ref a) .none) _ _ _
  refine wpAny_bind (wpAny_updateSeq hS rfl ?_)
  have I2 := I1.lset (f := fun _ => #[]) (its := []) (its' := []) (ys := []) (t' := s.toks) upd_same hS rfl .nil (Nat.zero_le _)
  rw [upd_upd] at I2
  refine wpAny_bind (wpAny_letGo ?_)
  have ha2 : upd H q (.lst []) a = some (.ins C dx fs) := by rw [upd_ne (ne_of_none ha fr)]; exact ha
  generalize upd H q (.lst []) = H1 at I2 ha2 hsp
  generalize ({ s with heap := _ } : Shared) = s2 at I2 ⊢
  have hne : q ≠ a := fun z => by rw [z, ha] at fr; cases fr
  obtain ⟨mA, J, _⟩ := ins_get I2.hok ha2
  obtain ⟨od, J, _⟩ := J.look
  obtain ⟨m0, hF⟩ := I2.fr
  unfold Builtin.List.listExtendWith
  refine wpAny_bind (J.type.here ?_)
  have h1 : Builtin.List.listSameRef (.ref q) (.ref a) = false := by simp [Builtin.List.listSameRef, hne]
  have h2 : (Value.ref C == Value.type "list") = false := rfl
  have h3 : (Value.ref C == Value.type "tuple") = false := rfl
  simp only [h1, h2, h3, Bool.or_false, Bool.false_eq_true, if_false]
  refine wpAny_bind (PySem.W.owit_iter hF I2.ok.mod.kin J hiS hiF ?_)
  have e0 : Env0 X.prog X.w X.K X.mg X.base X.A.in1.in1 X.stack s2 H1 := by
    have e := I2.env0
    exact ⟨e.frames, e.mod, e.bs, e.bsz, e.funs, e.frf, e.hok, e.bare⟩
  have hl := FI.len _ _ _ _ hsp
  refine wpAny_call (codeAny_mono (FI.run X.A.in1.in1 X.stack s2 H1 ⟨[.ref a], []⟩ [.ref a] [.ref a] _ E ((hr.mono (by omega : n + 2 ≤ n + 4)).in1.in1) e0 (by
    have := bI s2 [.ref a] I2.kIn (by simpa using hl)
    simpa using this) (.cons rfl .nil) hsp) fun r s3 hq3 => ?_)
  match r, hq3 with
  | .error e, hq3 => exact False.elim hq3
  | .ok .next, hq3 => exact False.elim hq3
  | .ok .brk, hq3 => exact False.elim hq3
  | .ok .cont, hq3 => exact False.elim hq3
  | .ok (.ret u), hq3 =>
    obtain ⟨v, H3, I3, rv3, it, t, rfl, hit, ⟨dx2, fs2, ha3⟩, hsl⟩ := I2.after hq3
    obtain rfl : u = Value.ref it := rv3
    have tit := tit_get I3 hit
    have hT : s3.TypeIs (.ref it) "tuple_iterator" := let ⟨o, ho, hc, _⟩ := tit; ⟨o, ho, hc⟩
    unfold PySem.W.OwitIt
    refine wpAny_specialOf hT slot_tupleiter_next.lookup ?_
    refine wpAny_bind (wpAny_holding (own_len_hint (CX := CX0) (n := n) sb hlS hlF FL bL (fun _ _ z => z.elim) I3 ha3 hsl fun b s4 H4 I4 hR => ?_))
    obtain ⟨ys, hit4, hq4, hys, hyl, hfin⟩ := hR
    have nt : t ≠ it := fun z => by
      obtain ⟨its, rt, pt, _⟩ := I4.tuple hys
      obtain ⟨o, ho, hc, _⟩ := tit_get I4 hit4
      obtain ⟨o2, ho2, hc2, _⟩ := pt
      rw [z, ho] at ho2
      cases ho2
      rw [hc] at hc2
      exact absurd (Value.type.inj hc2) (by decide)
    have nq : q ≠ it := fun z => by rw [z, hit4] at hq4; cases hq4
    have nqt : q ≠ t := fun z => by
      obtain ⟨its, rt, pt, _⟩ := I4.tuple hys
      obtain ⟨_, its2, k2, _, _, e2⟩ := I4.lstM hq4
      obtain ⟨o2, ho2, hc2, _⟩ := pt
      rw [← z, e2] at ho2
      cases ho2
      exact absurd (Value.type.inj hc2) (by decide)
    have loop : ∀ s5 : Shared, Inv X pins σ H4 s5 → codeAny (model X.prog X.w) X.A.in1 (.builtin "list.extend.loop" ⟨[.ref q, .ref it, .none], []⟩) (wants (fun r z => r = .none ∧ EP X pins σ Q (.ref q) z) X.xe) s5 := fun s5 I5 => by
      obtain ⟨its, rt, pt, hz⟩ := I5.tuple hys
      obtain ⟨_, its2, k2, r2, _, e2⟩ := I5.lstM hq4
      cases r2
      have hh : X.A.in1.in1.handled = none := hr.hd
      have tit5 := tit_get I5 hit4
      have hsz : its.toArray.size ≤ sizeLine := by rw [List.size_toArray, ← rt.length]; exact Nat.le_trans hyl (by decide)
      refine tuple_loop (A := X.A.in1) hh nt nq nqt hsz (its.toArray.size - 0) 0 s5 #[] _ rfl (Nat.zero_le _) tit5 pt e2 (by simp) fun h' c' keep th hq6 => ?_
      exact ⟨rfl, .ref q, upd (rm H4 it) q (.lst ys), I5.drew (s' := { s5 with heap := h' }) hit4 hq4 keep rfl I5.bare hq6 rt (Nat.le_trans hyl (by decide)) th, rfl, hfin⟩
    obtain ⟨_, its2, k2, r2, _, e2⟩ := I4.lstM hq4
    cases r2
    refine wpAny_ite_split (fun _ => ?_) (fun _ => wpAny_pure ⟨plainId_quiet PySem.F.plain_extend_loop _, loop s4 I4⟩)
    refine wpAny_bind (wpAny_rule ?_)
    refine wpAny_bind ?_
    show wpAny _ _ (updateSeq q (·.push .none) >>= fun _ => updateSeq q (·.pop)) _ _ _
    refine wpAny_bind (wpAny_updateSeq e2 rfl ?_)
    have I5 := I4.lset (f := (·.push Value.none)) (its' := [Value.none]) (ys := [.non]) (t' := s4.toks) hq4 e2 (by simp) (.cons rfl .nil) (by rw [List.length_singleton, sizeLine_eq]; decide)
    obtain ⟨z4, its4, k4, r4, hl4, e4⟩ := I5.lstM upd_same
    obtain ⟨u4, rfl, ru4⟩ := r4.one
    refine wpAny_updateSeq e4 rfl ?_ (by show 1 ≤ sizeLine; rw [sizeLine_eq]; decide) (by show 0 ≤ sizeLine + 1; exact Nat.zero_le _)
    have I6 := I5.lset (f := (·.pop)) (its := [u4]) (its' := []) (ys := []) (t' := s4.toks) upd_same e4 (by rfl) .nil (Nat.zero_le _)
    rw [upd_upd] at I6
    have hH : upd H4 q (.lst []) = H4 := by
      funext b
      by_cases hb : b = q
      · rw [hb, upd_same, hq4]
      · rw [upd_ne hb]
    rw [hH] at I6
    exact wpAny_pure ⟨plainId_quiet PySem.F.plain_extend_loop _, loop _ I6⟩
end
end L2

set_option Elab.async false
set_option linter.all false
set_option maxRecDepth 100000
set_option maxHeartbeats 1000000
/-! a def that hands back iter(a tuple); list(o) on data -/
namespace Z
open PySem PySem.Spec PyProof.Rows L2
/-- what a def promises, told by a relation -/
def spR (K : PySem.W.Frag) (G : Own → List Cell → (Gh → Hp → V → Hp → Prop) → Prop) : Sp := fun vs H Q _ => ∃ (Γ : Own) (Δ : Gh) (cs : List Cell) (T : Gh → Hp → V → Hp → Prop), G Γ cs T ∧ Sat Γ Δ ∧ Hold Δ H ∧ ArgsOk K Δ H vs cs ∧
  ∀ (v : V) (H' : Hp), T Δ H v H' → Q v H'
def FinR (Δ0 : Gh) (H0 : Hp) (T : Gh → Hp → V → Hp → Prop) (D : Ends) : Prop := ∀ (v : V) (H' : Hp), T Δ0 H0 v H' → D.rt v H'
section
variable {P : Program} {w : World} {K : PySem.W.Frag} {mg : Str → Option Value} {base : Heap}
theorem def_okR {x qual : Str} {args : Arguments} {body : List Stmt} {scope : Scope} {dvs : List V} {kws : List (Str × V)} {f : Addr} {fd : FuncData} {N ps : List Str} {k : Nat} {G : Own → List Cell → (Gh → Hp → V → Hp → Prop) → Prop}
    (Fn : FunD K x qual args body scope dvs kws f fd) (S : FnScope N ps scope) (len : ∀ Γ cs T, G Γ cs T → cs.length = ps.length)
    (hb : ∀ (cdv : Value) (A : Around) (outer : List PySem.Env) (s : Shared) (H : Hp) (E : XK), Room k (A.deeper (envOfC qual scope s.heap.objs.size f cdv)) →
      ∀ (Γ : Own) (cs : List Cell) (T : Gh → Hp → V → Hp → Prop), G Γ cs T → ∃ t, PSs (cxOf CX0 P w K mg base N qual scope f cdv A outer s H E).nox body t ∧
        ∀ (Δ0 : Gh) (D : Ends), FinR Δ0 H T D → Wp K Δ0 H Γ [] (env0 N cs) t D) :
    FnOk P w K mg base CX0 (k + 1) f fd ps (spR K G) := by
  refine Fn.ok S (fun vs H Q E h => ?_) (fun cdv A outer s H vs Q E hr h => ?_)
  · obtain ⟨Γ, Δ, cs, T, g, _, _, a, _⟩ := h
    rw [All2.len a]
    exact len Γ cs T g
  · obtain ⟨Γ, Δ, cs, T, g, sa, hh, a, q⟩ := h
    obtain ⟨t, ht, hw⟩ := hb cdv A outer s H E hr Γ cs T g
    refine ⟨t, ?_, hw Δ _ (fun v H' h => q v H' h) _ H ⟨Δ, sa, hh, start_ok a, fun z hz => (nomatch hz), Ext.refl hh, fun _ _ z => z, fun x n m => absurd n m⟩⟩
    first
      | exact ht
      | exact PSs.nox ht
end
section
variable {K : PySem.W.Frag} {α : Type} [Rp α]
/-- an iterator over the tuple, new -/
def TIt (K : PySem.W.Frag) (xs : Tup α) : Gh → Hp → V → Hp → Prop := fun Δ H v H' => ∃ it t, v = .ref it ∧ H it = none ∧ Δ it = none ∧ Ext Δ H H' ∧ H' it = some (TitO t it 0) ∧ Rp.rp K Δ H' (.ref t) xs
/-- return iter(xs) -/
theorem wp_retIt {Δ0 : Gh} {H0 : Hp} {Γ : Own} {F : List (V × Cell)} {ρ : Z.Env} {te : TE} {D : Ends} {xs : Tup α} (hf : FinR Δ0 H0 (TIt K xs) D) (h : Ev K Γ te ρ (Is xs)) : Wp K Δ0 H0 Γ F ρ (tRet (tCB (rIterT K) (tCons te tNil))) D := fun σ H ⟨Δ, s, hh, e, f, e0, s1, s2⟩ =>
  h Δ σ H _ s hh e fun v H1 a pa e1 r => by
    have ea : a = xs := pa
    subst ea
    obtain ⟨p, vs, rfl, st, sq, q⟩ := r
    refine ⟨p, vs, rfl, sq, fun it hit => ?_⟩
    have e2 := e1.trans (Ext.new e1.2 hit (TitO p it 0))
    have e3 := ext0 e0 s1 s2 e1
    have hn := none0 s1 (e1.2.fresh hit)
    refine hf _ _ ⟨it, p, rfl, ?_, hn, ext0 e0 s1 s2 e2, upd_same, ?_⟩
    · cases q2 : H0 it with
      | none => rfl
      | some o =>
        have := e3.1 it o hn q2
        rw [hit] at this
        cases this
    · have r2 : Rp.rp K Δ (upd H1 it (TitO p it 0)) (.ref p) a := Rp.mono (Ext.new e1.2 hit (TitO p it 0)).1 ⟨p, vs, rfl, st, sq, q⟩
      exact Rp.weak (fun x o _ hx => none0 s1 hx) r2
variable {Γ : Own} {ρ : Z.Env} {te : TE} {β : Type} [Rp β] {C : Addr} {E : XK} [Flat α]
/-- list(b) -/
theorem ev_listI {GI : Own → List Cell → (Gh → Hp → V → Hp → Prop) → Prop} {FL : Own → List Cell → (Int → Prop) → Prop} {Pb : β → Prop} {f : β → List α} (hI : IsIns K C β) (h : Ev K Γ te ρ Pb)
    (hG : ∀ b, Pb b → GI Γ [⟨b⟩] (TIt K (⟨f b⟩ : Tup α))) (hF : ∀ b, Pb b → FL Γ [⟨b⟩] (Is ((f b).length : Int))) (hz : ∀ b, Pb b → (f b).length ≤ 100000) :
    Ev K Γ (tCB (rListI K C (spR K GI) (spD K FL) E) (tCons te tNil)) ρ (fun ys : List α => ∃ b, Pb b ∧ ys = f b) := fun Δ σ H Q s hh e k =>
  h Δ σ H _ s hh e fun v H1 b pb e1 r1 => by
    obtain ⟨a, dx, fs, rfl, ha⟩ := hI Δ H1 v _ r1
    refine ⟨a, dx, fs, rfl, ha, fun q hq => ?_⟩
    have en := Ext.new e1.2 hq (.lst [])
    have nq : Δ q = none := e1.2.fresh hq
    refine ⟨Γ, Δ, [⟨b⟩], _, hG b pb, s, en.2, ⟨Rp.mono en.1 r1, trivial⟩, fun v2 H2 ht => ?_⟩
    obtain ⟨it, t, rfl, hit, nit, e2, hit2, rt⟩ := ht
    obtain ⟨a2, dx2, fs2, ea2, ha2⟩ := hI Δ H2 _ _ (Rp.mono e2.1 (Rp.mono en.1 r1))
    cases ea2
    refine ⟨it, t, rfl, hit2, ⟨dx2, fs2, ha2⟩, Γ, Δ, [⟨b⟩], Is ((f b).length : Int), hF b pb, s, e2.2, ⟨Rp.mono e2.1 (Rp.mono en.1 r1), trivial⟩, fun z H3 c pc e3 r3 => ?_⟩
    have ec : c = ((f b).length : Int) := pc
    subst ec
    have ez : z = .int ((f b).length : Int) := r3
    subst ez
    obtain ⟨p, vs, ep, st, sq, qa⟩ := Rp.mono e3.1 rt
    cases ep
    have hq3 : H3 q = some (.lst []) := e3.1 _ _ nq (e2.1 _ _ nq upd_same)
    have hne : q ≠ it := fun z => by
      rw [← z] at hit
      rw [upd_same] at hit
      cases hit
    refine ⟨(f b).length, hz b pb, rfl, vs, e3.1 _ _ nit hit2, hq3, sq, by rw [qa.len]; exact hz b pb, ?_⟩
    refine k _ _ (f b) ⟨b, pb, rfl⟩ ⟨fun x o nx hx => ?_, fun x J hx => ?_⟩ ⟨q, vs, rfl, .inl ⟨nq, .inl upd_same⟩, .inl (.inl upd_same), ?_⟩
    · have h1 := e1.1 x o nx hx
      have nxq : x ≠ q := fun z => by rw [z, hq] at h1; cases h1
      have h2 : upd H1 q (.lst []) x = some o := by rw [upd_ne nxq]; exact h1
      have nxi : x ≠ it := fun z => by rw [z, hit] at h2; cases h2
      rw [upd_ne nxq, rm_ne nxi]
      exact e3.1 x o nx (e2.1 x o nx h2)
    · have nxq : x ≠ q := fun z => by rw [z, nq] at hx; cases hx
      have nxi : x ≠ it := fun z => by rw [z, nit] at hx; cases hx
      rw [upd_ne nxq, rm_ne nxi]
      exact e3.2 x J hx
    · rw [flat_all2 qa]
      exact all2_flat _
end
end Z

set_option Elab.async false
set_option linter.all false
set_option maxRecDepth 100000
set_option maxHeartbeats 1000000
/-! str(o) by its own __str__; f-strings of ints -/
namespace L2
open PySem PySem.Spec PyProof.Rows
section
variable {X : Cx} {CX : CXT} {k : Nat} {C g : Addr} {fd : FuncData} {ps : List Str} {sp : Sp} {E : XK}
def rStrI (C : Addr) (sp : Sp) (E : XK) : List V → Hp → VK → Prop := fun xs H Q => ∃ a dx fs, xs = [.ref a] ∧ H a = some (.ins C dx fs) ∧ sp [.ref a] H (fun z H' => ∃ y : Str, z = .str y ∧ Q (.str y) H') E
theorem call_strI (hs : PySem.W.findIn X.K (.ref C) "__str__" = some (some (.ref g))) (hf : PySem.W.isFn X.K (.ref g) = true) (F : FnOk X.prog X.w X.K X.mg X.base CX k g fd ps sp) (hr : Room (k + 3) X.A) (hb : Binds X.K fd ps []) (hx : Passes CX X E) : CallR X (.type "str") (rStrI C sp E) := by
  intro pins s σ H xs us Q I r h
  obtain ⟨a, dx, fs, rfl, ha, q⟩ := h
  rw [Vals.ref1 r]
  obtain ⟨_, J1, _⟩ := ins_get I.hok ha
  obtain ⟨_, J1, _⟩ := J1.look
  have hl := F.len _ _ _ _ q
  have r1 : Room (k + 2) X.A.in1 := hr.in1
  have r2 : Room (k + 1) X.A.in1.in1 := r1.in1
  have r3 : Room k X.A.in1.in1.in1 := r2.in1
  refine PySem.W.kso_call r2.units0 I.kIn J1 hs hf (wpAny_call (codeAny_mono (F.run X.A.in1.in1 X.stack s H ⟨[.ref a], []⟩ [.ref a] [.ref a] _ E (r2.mono (by omega)) I.env0.in1.in1 (by
    have := hb s [.ref a] I.kIn (by simpa using hl)
    simpa using this) (.cons rfl .nil) q) fun r s' hq => ?_))
  cases r with
  | error e => exact hx pins σ H s e s' I hq
  | ok fl =>
    cases fl with
    | ret w =>
      obtain ⟨z, H', I', rz, y, rfl, qz⟩ := I.after hq
      obtain ⟨t, rfl⟩ := (show ∃ t, w = Value.str y t from rz)
      exact ⟨.str y, H', I', ⟨_, rfl⟩, qz⟩
    | next => exact False.elim hq
    | brk => exact False.elim hq
    | cont => exact False.elim hq
end
end L2
namespace Z
open PySem PySem.Spec PyProof.Rows L2
section
variable {K : PySem.W.Frag} {Γ : Own} {ρ : Z.Env} {te : TE} {β : Type} [Rp β] {C : Addr} {E : XK}
abbrev txS (s : Str) : Tx := ⟨s.cps.toList⟩
/-- str(b) -/
theorem ev_strI {F : Own → List Cell → (Tx → Prop) → Prop} {Pb : β → Prop} {Pc : Tx → Prop} (hI : IsIns K C β) (hb : Ev K Γ te ρ Pb) (hF : ∀ b, Pb b → ∃ R, F Γ [⟨b⟩] R ∧ ∀ c, R c → Pc c) : Ev K Γ (tCB (rStrI C (spD K F) E) (tCons te tNil)) ρ Pc := fun Δ σ H Q s hh e k =>
  hb Δ σ H _ s hh e fun u H1 b pb e1 r1 => by
    obtain ⟨q, dy, gs, rfl, hq⟩ := hI Δ H1 u _ r1
    obtain ⟨R, hR, hc⟩ := hF b pb
    exact ⟨q, dy, gs, rfl, hq, Γ, Δ, [⟨b⟩], R, hR, s, e1.2, ⟨r1, trivial⟩, fun z H' c pc e3 r3 => ⟨⟨c.s.toArray⟩, r3, k _ H' c (hc c pc) (e1.trans e3) rfl⟩⟩
/-- str(int) -/
theorem o1_strInt {i : Int} (h : i.natAbs.log2 < 1920) : Op1 K (fun xs H Q => ∃ i, xs = [.int i] ∧ i.natAbs.log2 < 1920 ∧ Q (.str (toString i)) H) i (Is (txS (toString i))) := fun Δ H v Q hh r k =>
  ⟨i, by rw [show v = .int i from r], h, k _ H _ rfl (Ext.refl hh) rfl⟩
/-- the parts of an f-string, as texts -/
inductive EvJ (K : PySem.W.Frag) (Γ : Own) (ρ : Z.Env) : List TE → List Str → Prop where
  | nil : EvJ K Γ ρ [] []
  | int {te : TE} {ts : List TE} {ys : List Str} {i : Int} (h : Ev K Γ te ρ (Is i)) (hz : i.natAbs.log2 < 1920) (r : EvJ K Γ ρ ts ys) : EvJ K Γ ρ (tFmt te :: ts) (((toString i : String) : Str) :: ys)
  | lit {x : Str} {ts : List TE} {ys : List Str} (r : EvJ K Γ ρ ts ys) : EvJ K Γ ρ (tC (.str x) :: ts) (x :: ys)
theorem evj_run {ts : List TE} {ys : List Str} (h : EvJ K Γ ρ ts ys) : ∀ (acc : Str) (Δ : Gh) (σ : L2.St) (H : Hp) (Q : Str → Hp → Prop), Sat Γ Δ → Hold Δ H → EnvOk K Δ σ H ρ → (ys.foldl (· ++ ·) acc).length ≤ sizeLine → (∀ H', Ext Δ H H' → Q (ys.foldl (· ++ ·) acc) H') → tJs ts acc σ H Q := by
  have grow : ∀ (ys : List Str) (a : Str), a.length ≤ (ys.foldl (· ++ ·) a).length := by
    intro ys
    induction ys with
    | nil => exact fun a => Nat.le_refl _
    | cons y ys ih =>
      intro a
      refine Nat.le_trans ?_ (ih (a ++ y))
      show a.cps.size ≤ (a.cps ++ y.cps).size
      rw [Array.size_append]
      omega
  induction h with
  | nil => exact fun acc Δ σ H Q s hh e hz k => k H (Ext.refl hh)
  | @int te ts ys i h hz r ih =>
    intro acc Δ σ H Q s hh e hl k
    refine h Δ σ H _ s hh e fun v H1 a pa e1 rr => ?_
    have ea : a = i := pa
    subst ea
    refine .inr ⟨a, rr, hz, _, rfl, Nat.le_trans (grow ys _) hl, ih _ Δ σ H1 Q s e1.2 (e.mono e1.1) hl fun H' e2 => k H' (e1.trans e2)⟩
  | @lit x ts ys r ih =>
    intro acc Δ σ H Q s hh e hl k
    exact ⟨x, rfl, Nat.le_trans (grow ys _) hl, ih _ Δ σ H Q s hh e hl k⟩
/-- f'..' -/
theorem ev_fstr {ts : List TE} {ys : List Str} {x : Tx} (h : EvJ K Γ ρ ts ys) (e0 : ys.foldl (· ++ ·) Str.empty = ⟨x.s.toArray⟩) (hz : x.s.length ≤ 1000) : Ev K Γ (fun σ H Q => tJs ts Str.empty σ H fun out H1 => Q (.str out) H1) ρ (Is x) := fun Δ σ H Q s hh e k =>
  evj_run h Str.empty Δ σ H _ s hh e (by rw [e0]; exact Nat.le_trans (by simpa [Str.length] using hz) (by decide)) fun H' e1 => k _ H' x rfl e1 (by rw [e0]; rfl)
end
end Z

set_option Elab.async false
set_option linter.all false
set_option maxRecDepth 100000
set_option maxHeartbeats 1000000
/-! dicts of one's own with flat keys and values: made by a comprehension, set to a name, walked by their values while locked, looked up, list(d) -/
namespace Z
open PySem PySem.Spec PyProof.Rows L2
section
variable {K : PySem.W.Frag} {Γ : Own} {ρ : Z.Env} {tk tv te ta : TE}
/-- {k: v for .. if ..} -/
theorem en_dcA {wi : TI} {g : TG} {tt : TT} {js vs : List Nat} {n : Nat} {st : Nat → Z.Env → Z.Env} {κ ν : Type} [Rp κ] [Flat κ] [Rp ν] [Flat ν] (A : Nat → List (Key × V)) (h0 : A 0 = []) (hz : ∀ i, i < n → (A i).length ≤ 50000)
    (S : Src K Γ wi g ρ js n st) (hjs : ∀ j ∈ js, j ∈ vs)
    (hs : ∀ i, i < n → ∃ b : Bool, EvT K Γ tt (st i (wipeE ρ vs)) (Is b) ∧ (b = false → A (i + 1) = A i) ∧ (b = true → ∃ (x : κ) (y : ν) (k : Key), kV k = Flat.val x ∧ Ev K Γ tk (st i (wipeE ρ vs)) (Is x) ∧ Ev K Γ tv (st i (wipeE ρ vs)) (Is y) ∧ A (i + 1) = putK (A i) k (Flat.val y))) :
    EvN K Γ (tDc wi g tt tk tv vs) ρ (ObIs (.dK (A n))) := fun Δ σ H Q s hh e k => S Δ σ H _ s hh e fun J H1 pv pc e1 rp0 hgo hyld => fun D hD => by
  have nD : Δ D = none := e1.2.fresh hD
  have eW : EnvOk K Δ (wipe σ vs) H1 (wipeE ρ vs) := (e.mono e1.1).wipe vs
  have kp : Keep (ghI Δ D (ObIs (.dK []))) H1 (upd H1 D (.dK [])) := fun a o _ q => by rw [upd_ne (ne_of_none q hD)]; exact q
  have W0 : DW K Δ H1 D pv pc (wipe σ vs) (wipeE ρ vs) (.dK (A 0)) (upd H1 D (.dK [])) := by
    rw [h0]
    exact ⟨ghI_hold (fun a J _ h => e1.2 a J h) rfl, fun a o ha n h => by rw [upd_ne ha]; exact h, pc.r.mono kp (pc.r.weak (ghI_new hD) rp0), (eW.weak (ghI_new hD)).mono kp⟩
  have wl : (wipeE ρ vs).length = ρ.length := by
    rw [← eW.1, wipe_length]
    exact e.1
  have hDH : H D = none := Ext.back hh e1 hD
  refine ⟨fun i m H2 => m = n - i ∧ i ≤ n ∧ DW K Δ H1 D pv pc (wipe σ vs) (wipeE ρ vs) (.dK (A i)) H2, ⟨n, by simp, Nat.zero_le _, W0⟩, ?_⟩
  rintro i m H2 ⟨rfl, hi, c⟩
  have hg := hgo _ H2 c.src
  by_cases hlt : i < n
  · refine .inr ⟨hg.1 i hlt, fun H3 => DW K Δ H1 D pv pc (wipe σ vs) (wipeE ρ vs) (.dK (A (i + 1))) H3, fun H' c' => ⟨n - (i + 1), by omega, rfl, hlt, c'⟩, fun x H3 hy => ?_⟩
    obtain ⟨e3, hput⟩ := hyld _ i H2 x H3 hlt c.hold c.src hy
    have c3 := c.next e3
    refine hput (wipe σ vs) (wipeE ρ vs) _ wl c3.env fun σ2 env2 hl2 hoff => ⟨wipe_off (by rw [hl2, wipe_length]) hjs hoff, ?_⟩
    obtain ⟨b, ht, hb0, hb1⟩ := hs i hlt
    have sD : Sat Γ (ghI Δ D (ObIs (.dK (A i)))) := fun q hq => ghI_sat s nD q (List.mem_cons_of_mem _ hq)
    refine ht _ σ2 H3 _ sD e3.2 env2 fun b' H4 pb e4 => ?_
    have eb : b' = b := pb
    subst eb
    have c4 := c3.next e4
    cases b' with
    | false =>
      rw [if_neg Bool.false_ne_true, hb0 rfl]
      exact c4
    | true =>
      rw [if_pos rfl]
      obtain ⟨x0, y0, k0, hk0, hkx, hvy, hA⟩ := hb1 rfl
      refine hkx _ σ2 H4 _ sD e4.2 (env2.mono e4.1) fun y H5 a pa e5 r5 => ?_
      have c5 := c4.next e5
      refine hvy _ σ2 H5 _ sD e5.2 ((env2.mono e4.1).mono e5.1) fun z H6 w pw e6 r6 => ?_
      have c6 := c5.next e6
      have ea : a = x0 := pa
      have ew : w = y0 := pw
      subst ea ew
      refine ⟨A i, k0, by rw [Flat.iff.mp r5, hk0], ghI_exact c6.hold, Nat.lt_of_le_of_lt (hz i hlt) (by decide), ?_⟩
      rw [Flat.iff.mp r6, ← hA]
      exact c6.put
  · have ei : i = n := by omega
    subst ei
    refine .inl ⟨hg.2, k D H2 _ rfl hDH nD ⟨fun a o na h => ?_, fun a J h => ?_⟩ (ghI_exact c.hold)⟩
    · have h1 := e1.1 a o na h
      exact c.keep a o (ne_of_none h1 hD) na h1
    · have hne : a ≠ D := fun z => by
        rw [z, nD] at h
        cases h
      exact c.hold a J (by rw [ghI_other hne]; exact h)
/-- a locked dict, looked at -/
structure Fz where
  p : Addr
  u : HO
instance : Rp Fz where
  rp K Δ H v a := v = .ref a.p ∧ Δ a.p = none ∧ ∃ od, H a.p = some (.frz od a.u)
  mono k h := ⟨h.1, h.2.1, let ⟨od, e⟩ := h.2.2; ⟨od, k _ _ h.2.1 e⟩⟩
  weak w h := ⟨h.1, let ⟨od, e⟩ := h.2.2; w _ _ e h.2.1, h.2.2⟩
structure Fzo where
  p : Addr
  u : HO
  od : Obj
instance : Rp Fzo where
  rp K Δ H v a := v = .ref a.p ∧ Δ a.p = none ∧ H a.p = some (.frz a.od a.u)
  mono k h := ⟨h.1, h.2.1, k _ _ h.2.1 h.2.2⟩
  weak w h := ⟨h.1, w _ _ h.2.2 h.2.1, h.2.2⟩
def unOwn (Δ : Gh) (d : Addr) : Gh := fun a => if a = d then none else Δ a
theorem unOwn_at {Δ : Gh} {d : Addr} : unOwn Δ d d = none := if_pos rfl
theorem unOwn_ne {Δ : Gh} {d a : Addr} (h : a ≠ d) : unOwn Δ d a = Δ a := if_neg h
/-- the dict locked while the expression runs -/
theorem en_lock {d : Addr} {u : HO} {i : Nat} {I : HO → Prop} (hm : Mut (some u)) (hne : ∀ q ∈ Γ, q.1 ≠ d) (hi : ρ[i]? = some (some ⟨(⟨d⟩ : Loc)⟩)) (h : EvN K Γ te (ρ.set i (some ⟨(⟨d, u⟩ : Fz)⟩)) I) : EvN K ((d, ObIs u) :: Γ) (tLockE te) ρ I := fun Δ σ H Q s hh e k => by
  have hd := s _ List.mem_cons_self
  obtain ⟨o, ho, io⟩ := hh d _ hd
  have eo : o = u := io
  subst eo
  have ilt : i < ρ.length := by
    rw [List.getElem?_eq_some_iff] at hi
    exact hi.1
  refine ⟨d, o, ho, hm, fun od => ?_⟩
  have s2 : Sat Γ (unOwn Δ d) := fun q hq => by rw [unOwn_ne (hne q hq)]; exact s q (List.mem_cons_of_mem _ hq)
  have h2 : Hold (unOwn Δ d) (upd H d (.frz od o)) := fun a J ha => by
    have ne : a ≠ d := fun z => by rw [z, unOwn_at] at ha; cases ha
    rw [unOwn_ne ne] at ha
    rw [upd_ne ne]
    exact hh a J ha
  have kp : Keep Δ H (upd H d (.frz od o)) := fun a v na q => by
    have ne : a ≠ d := fun z => by rw [z, hd] at na; cases na
    rw [upd_ne ne]
    exact q
  have wk : ∀ x o', upd H d (.frz od o) x = some o' → Δ x = none → unOwn Δ d x = none := fun x o' _ n => by
    by_cases z : x = d
    · rw [z]; exact unOwn_at
    · rw [unOwn_ne z]; exact n
  have e2 : EnvOk K (unOwn Δ d) σ (upd H d (.frz od o)) (ρ.set i (some ⟨(⟨d, o⟩ : Fz)⟩)) := by
    have e3 := ((e.mono kp).weak wk).set (c := ⟨(⟨d, o⟩ : Fz)⟩) (v := .ref d) ilt ⟨rfl, unOwn_at, od, upd_same⟩
    obtain ⟨v, hv, rv⟩ := e.2 i _ hi
    have ev : v = .ref d := rv
    subst ev
    have es : σ.set i (some (.ref d)) = σ := List.ext_getElem? fun j => by
      by_cases hj : i = j
      · subst hj
        rw [List.getElem?_set_self (by rw [e.1]; exact ilt), hv]
      · rw [List.getElem?_set_ne hj]
    rw [es] at e3
    exact e3
  refine h (unOwn Δ d) σ _ _ s2 h2 e2 fun d2 H2 o2 io2 hd2 nd2 ee ho2 => ?_
  have ne2 : d2 ≠ d := fun z => by rw [z, upd_same] at hd2; cases hd2
  refine ⟨ee.1 _ _ unOwn_at upd_same, k d2 _ o2 io2 (by rw [upd_ne ne2] at hd2; exact hd2) (by rw [unOwn_ne ne2] at nd2; exact nd2) ⟨fun a v na q => ?_, fun a J ha => ?_⟩ (by rw [upd_ne ne2]; exact ho2)⟩
  · have ne : a ≠ d := fun z => by rw [z, hd] at na; cases na
    rw [upd_ne ne]
    exact ee.1 a v (by rw [unOwn_ne ne]; exact na) (by rw [upd_ne ne]; exact q)
  · by_cases z : a = d
    · subst z
      rw [hd] at ha
      cases ha
      exact ⟨o, upd_same, rfl⟩
    · rw [upd_ne z]
      exact ee.2 a J (by rw [unOwn_ne z]; exact ha)
/-- the values of a locked dict -/
theorem src_vals {j : Nat} {d : Addr} {kvs : List (Key × V)} {ν : Type} [Rp ν] [Flat ν] {x0 : Nat → ν} (h : Ev K Γ te ρ (Is (⟨d, .dK kvs⟩ : Fz))) (hx : ∀ i, i < kvs.length → ∃ k, kvs[i]? = some (k, Flat.val (x0 i))) (hj : j < ρ.length) : Src K Γ (iVals te) (gName j) ρ [j] kvs.length (fun i ρ => ρ.set j (some ⟨x0 i⟩)) := fun Δ σ H R s hh e k =>
  h Δ σ H _ s hh e fun v H' a pa e1 r => by
    have ea : a = ⟨d, .dK kvs⟩ := pa
    subst ea
    obtain ⟨ev, n, od, hd⟩ := id r
    refine ⟨d, od, kvs, ev, hd, k _ H' v ⟨(⟨d, .dK kvs, od⟩ : Fzo)⟩ e1 ⟨ev, n, hd⟩ (fun Δ' H2 r2 => ?_) fun Δ' i H2 x H3 hi h2 r2 y => ?_⟩
    · obtain ⟨_, _, hd2⟩ := (show Rp.rp K Δ' H2 v (⟨d, .dK kvs, od⟩ : Fzo) from r2)
      exact ⟨fun i hi => ⟨hd2, hi⟩, hd2, Nat.le_refl _⟩
    · obtain ⟨rfl, kk, hy⟩ := (show H3 = H2 ∧ ∃ kk, kvs[i]? = some (kk, x) from y)
      obtain ⟨k2, hk2⟩ := hx i hi
      rw [hk2] at hy
      cases hy
      exact ⟨Ext.refl h2, fun σ' ρ' Qs hl e' qq => qq _ (e'.set (c := ⟨x0 i⟩) (by rw [hl]; exact hj) (Flat.iff.mpr rfl)) (set_off (js := [j]) (List.mem_singleton_self j)).1 (set_off (js := [j]) (List.mem_singleton_self j)).2⟩
/-- name = a new object -/
theorem wp_asgN {Δ0 : Gh} {H0 : Hp} {F : List (V × Cell)} {tz : TS} {D : Ends} {i : Nat} {I : HO → Prop} (h : EvN K Γ te ρ I) (hi : i < ρ.length)
    (k : ∀ d o, I o → OwnP Δ0 Γ d → Wp K Δ0 H0 ((d, ObIs o) :: Γ) F (ρ.set i (some ⟨(⟨d⟩ : Loc)⟩)) tz D) : Wp K Δ0 H0 Γ F ρ (tSeq (tAsg te (gName i)) tz) D := fun σ H ⟨Δ, s, hh, e, ff, e0, s1, s2⟩ =>
  h Δ σ H _ s hh e fun d H1 o io hd nd e1 hdo => by
    obtain ⟨owd, Δ', s', hh', e', ff', e0', s1', s2'⟩ := own_come (K := K) (Δ0 := Δ0) (H0 := H0) (F := F) s hh e ff e0 s1 s2 hd e1 hdo
    exact k d o io owd _ _ ⟨Δ', s', hh', e'.set (c := ⟨(⟨d⟩ : Loc)⟩) hi rfl, ff', e0', s1', s2'⟩
/-- d[x], the dict one's own -/
theorem ev_dgetO {d : Addr} {kvs : List (Key × V)} {κ ν : Type} [Rp κ] [Flat κ] [Rp ν] [Flat ν] {x : κ} {y : ν} {k0 : Key} (hm : (d, ObIs (.dK kvs)) ∈ Γ) (hk : kV k0 = Flat.val x) (hv : valV kvs k0 = some (Flat.val y)) (ho : Ev K Γ ta ρ (Is (⟨d⟩ : Loc))) (h : Ev K Γ te ρ (Is x)) : Ev K Γ (tDGet ta te) ρ (Is y) := fun Δ σ H Q s hh e k =>
  ho Δ σ H _ s hh e fun v H1 a pa e1 r1 => h Δ σ H1 _ s e1.2 (e.mono e1.1) fun w H2 b pb e2 r2 => by
    have ea : a = ⟨d⟩ := pa
    subst ea
    have ev : v = .ref d := r1
    subst ev
    have eb : b = x := pb
    subst eb
    obtain ⟨u, hu, iu⟩ := e2.2 d _ (s _ hm)
    have iu' : u = HO.dK kvs := iu
    subst iu'
    refine ⟨d, Flat.val y, rfl, ?_, k _ H2 y rfl (e1.trans e2) (Flat.iff.mpr rfl)⟩
    rw [Flat.iff.mp r2, ← hk, ← hv]
    exact DGet.k hu
/-- list(d), the dict one's own -/
theorem ev_listK {d : Addr} {kvs : List (Key × V)} {κ : Type} [Rp κ] [Flat κ] {xs : List κ} (hm : (d, ObIs (.dK kvs)) ∈ Γ) (hk : kvs.map (fun kv => kV kv.1) = xs.map Flat.val) (h : Ev K Γ te ρ (Is (⟨d⟩ : Loc))) : Ev K Γ (tCB rListD (tCons te tNil)) ρ (Is xs) := fun Δ σ H Q s hh e k =>
  h Δ σ H _ s hh e fun v H1 a pa e1 r => by
    have ea : a = ⟨d⟩ := pa
    subst ea
    have ev : v = .ref d := r
    subst ev
    obtain ⟨u, hu, iu⟩ := e1.2 d _ (s _ hm)
    have iu' : u = HO.dK kvs := iu
    subst iu'
    refine ⟨d, kvs, rfl, hu, fun q hq => k _ _ xs rfl (e1.trans (Ext.new e1.2 hq _)) (new_lst e1.2 hq ?_)⟩
    rw [hk]
    exact all2_flat xs
end
end Z
namespace L2
open PySem PySem.Spec PyProof.Rows
section
variable {X : Cx}
/-- the name is stored while the comprehension still stands -/
theorem sw_dict {kx vx : Expr} {gs : List Comprehension} {scope : Scope} {pos py : Pos} {y : Str} {l : Nat} {env : Env} (hk : env.scope.kind = .function) (hy : env.scope.names.lookup y = some .local) (hl : (py.line == pos.line) = true)
    (ha : (scope.names.any fun (n, k) => n == y && (k == .local || k == .cell)) = false) : swapsWith (.DictComp kx vx gs scope pos) (some (.Name y py)) l env = pure true := by
  have e1 : env.kindOf y = some .local := hy
  have e2 : env.blockKind = .function := by unfold Env.blockKind; rw [hk]; rfl
  unfold swapsWith
  simp only [e2, e1, ha, Expr.pos, hl]
  rfl
/-- y = {k: v for .. in .. if ..}, y a plain local name -/
theorem ps_setDc {i : Nat} {y : Str} {py : Pos} {kx vx tg iter : Expr} {ifs : List Expr} {scope : Scope} {own : List (Str × Nat)} {pos spos : Pos} {wi : TI} {g : TG} {tt : TT} {tk tv : TE} (hc : X.calm = true) (hN : X.N.Nodup) (hy : X.N[i]? = some y) (hyl : X.env.scope.names.lookup y = some .local)
    (hsw : swapsWith (.DictComp kx vx [⟨tg, iter, ifs, 0⟩] scope pos) (some (.Name y py)) spos.line X.env = pure true) (hi : PI X tg iter wi) (ok : BlkOk X.N X.env.scope scope own)
    (hg : ∀ (s : Shared) (H : Hp) (C : Addr) (cl : List (Str × Addr)) (fp : List Addr), PG (X.blk s H scope (compEnvC scope cl C X.env) fp) tg g) (ht : ∀ (s : Shared) (H : Hp) (C : Addr) (cl : List (Str × Addr)) (fp : List Addr), PTs (X.blk s H scope (compEnvC scope cl C X.env) fp) ifs tt)
    (hk : ∀ (s : Shared) (H : Hp) (C : Addr) (cl : List (Str × Addr)) (fp : List Addr), PE (X.blk s H scope (compEnvC scope cl C X.env) fp) kx tk)
    (he : ∀ (s : Shared) (H : Hp) (C : Addr) (cl : List (Str × Addr)) (fp : List Addr), PE (X.blk s H scope (compEnvC scope cl C X.env) fp) vx tv) (hs : ∀ x, foldedSetIterable iter X.env x = pure x := by intro _; rfl) :
    PS X (.Assign [.Name y py] (.DictComp kx vx [⟨tg, iter, ifs, 0⟩] scope pos) spos) (tAsg (tDc wi g tt tk tv (own.map (·.2))) (gName i)) := by
  refine ⟨fun pins s σ H D I q => ?_⟩
  have h : tDc wi g tt tk tv (own.map (·.2)) σ H (fun x H1 => gName i x σ H1 D.nx) := q
  rw [exec_Assign_Name_used _ _ _ _ hsw]
  refine wpAny_bind (wpAny_standAt (wpAny_bind ?_))
  show wpAny _ X.A (do let _ ← comprehension (.DictComp kx vx [⟨tg, iter, ifs, 0⟩] scope pos) scope X.env (firstIterPos [⟨tg, iter, ifs, 0⟩] pos) newDict false (eval iter X.env) (some (assign (.Name y py) X.env))) _ _ s
  refine wpAny_bind (thn (dc_core (Qf := fun _ s' => SP X pins D .next s') hc hN I hi ok hg ht hk he hs h fun L C s' m H' I' q2 hn f => ?_) fun _ s' z => wpAny_pure (wpAny_pure z))
  obtain ⟨f0, f1, f2, f3, f4, f5⟩ := f
  show wpAny _ _ (assign (.Name y py) X.env (.ref L)) _ _ _
  refine wpAny_assign_Name (store_ok2 (v := V.ref L) I' hN hy (.inl hyl) rfl (fun s2 I2 ⟨a, sb, ha⟩ => ?_) (.inr hyl))
  have hne : C ≠ a := by
    rcases ha with z | z
    · rw [z]
      exact f1
    · exact fun e => f4 y a z e.symm
  exact ⟨m, hn.sameBut sb hne, fun h3 sb3 => ⟨_, H', I2.turned (t' := s2.toks) (fun b o hb e => (sb3.2 b hb).trans e) f0 f1 f3 f4 f5, q2⟩⟩
/-- .. the dict that is walked locked -/
theorem ps_lockA {st : Stmt} {te : TE} {i : Nat} (h : PS X st (tAsg te (gName i))) : PS X st (tAsg (tLockE te) (gName i)) := ps_lock h
end
end L2

set_option Elab.async false
set_option linter.all false
set_option maxRecDepth 100000
set_option maxHeartbeats 1000000
/-! more of lists of one's own with plain items -/
namespace Z
open PySem PySem.Spec PyProof.Rows L2
theorem eqv_txs' (xs ys : List Tx) : PyData.eqv (Dt.d xs) (Dt.d ys) = decide (xs = ys) := eqv_txs xs ys
theorem erase_map {α β : Type} (f : α → β) : ∀ (xs : List α) (n : Nat), (xs.map f).eraseIdx n = (xs.eraseIdx n).map f
  | [], _ => rfl
  | _ :: _, 0 => rfl
  | x :: xs, n + 1 => by
    show f x :: (xs.map f).eraseIdx n = f x :: (xs.eraseIdx n).map f
    rw [erase_map f xs n]
theorem perm_erase {α : Type} : ∀ {ys : List α} {n : Nat} (h : n < ys.length), ys.Perm (ys[n] :: ys.eraseIdx n)
  | y :: ys, 0, _ => List.Perm.refl _
  | y :: ys, n + 1, h => ((perm_erase (ys := ys) (n := n) (by simpa using h)).cons y).trans (List.Perm.swap _ _ _)
section
variable {K : PySem.W.Frag} {Γ : Own} {ρ : Z.Env} {ta tb te : TE} {α : Type} [Rp α] [Flat α]
/-- xs[n], the list one's own, n some index -/
theorem ev_ixO {q : Addr} {xs : List α} (hm : OwnL q xs ∈ Γ) (ha : Ev K Γ ta ρ (Is (⟨q⟩ : Loc))) (hb : Ev K Γ tb ρ (fun r : Int => 0 ≤ r ∧ r < xs.length)) : Ev K Γ (tOp (rIxL K) ta tb) ρ (fun y => y ∈ xs) := fun Δ σ H Q s hh e k =>
  ha Δ σ H _ s hh e fun v H1 a pa e1 r1 => hb Δ σ H1 _ s e1.2 (e.mono e1.1) fun w H2 b pb e2 r2 => by
    have ea : a = ⟨q⟩ := pa
    subst ea
    have ev : v = .ref q := r1
    subst ev
    have ew : w = .int b := r2
    subst ew
    obtain ⟨u, hu, iu⟩ := e2.2 q _ (s _ hm)
    have iu' : u = HO.lst (xs.map Flat.val) := iu
    subst iu'
    have hlt : b.toNat < xs.length := by omega
    have eb : b = ((b.toNat : Nat) : Int) := (Int.toNat_of_nonneg pb.1).symm
    refine ⟨q, _, b, Flat.val xs[b.toNat], rfl, rfl, .inl (.inl hu), ?_, k _ H2 xs[b.toNat] (List.getElem_mem hlt) (e1.trans e2) (Flat.iff.mpr rfl)⟩
    have hx : (xs.map Flat.val)[b.toNat]? = some (Flat.val xs[b.toNat]) := by
      rw [List.getElem?_map, List.getElem?_eq_getElem hlt]
      rfl
    have hy := atI_nat hx
    rw [← eb] at hy
    exact hy
theorem dall_flat [Dt α] {Δ : Gh} {H : Hp} (xs : List α) : DpAll K H (xs.map Flat.val) (xs.map Dt.d) := dall (Δ := Δ) (all2_flat xs)
/-- xs != ys, the first list one's own -/
theorem ev_neO {q : Addr} {xs ys : List Tx} (hm : OwnL q xs ∈ Γ) (hx : TOk xs) (hy : TOk ys) (ha : Ev K Γ ta ρ (Is (⟨q⟩ : Loc))) (hb : Ev K Γ tb ρ (Is ys)) : Ev K Γ (tOp (rNeD K) ta tb) ρ (Is (!decide (xs = ys))) := fun Δ σ H Q s hh e k =>
  ha Δ σ H _ s hh e fun v H1 a pa e1 r1 => hb Δ σ H1 _ s e1.2 (e.mono e1.1) fun w H2 b pb e2 r2 => by
    have ea : a = ⟨q⟩ := pa
    subst ea
    have ev : v = .ref q := r1
    subst ev
    have eb : b = ys := pb
    subst eb
    obtain ⟨u, hu, iu⟩ := e2.2 q _ (s _ hm)
    have iu' : u = HO.lst (xs.map Flat.val) := iu
    subst iu'
    refine ⟨_, _, .lst (.inl (.inl hu)) (dall_flat (Δ := Δ) xs), Dt.ok r2, shaped_lS hx, shaped_lS hy, k _ H2 _ rfl (e1.trans e2) ?_⟩
    show V.bl _ = V.bl _
    congr 2
    exact (eqv_txs' xs b).symm ▸ rfl
end
section
variable {K : PySem.W.Frag} {Δ0 : Gh} {H0 : Hp} {Γ : Own} {F : List (V × Cell)} {ρ : Z.Env} {ta tb tr te : TE} {tz : TS} {D : Ends} {α : Type} [Rp α] [Flat α]
/-- a.append(b.pop(n)), both lists one's own -/
theorem wp_appPop {p q : Addr} {xs ys : List α} (o : OwnP Δ0 (OwnL q ys :: Γ) p) (o2 : OwnP Δ0 Γ q) (hz : xs.length < 50000)
    (ho : Ev K (OwnL p xs :: OwnL q ys :: Γ) ta ρ (Is (⟨p⟩ : Loc))) (hq : Ev K (OwnL p xs :: OwnL q ys :: Γ) tb ρ (Is (⟨q⟩ : Loc))) (hr : Ev K (OwnL p xs :: OwnL q ys :: Γ) tr ρ (fun r : Int => 0 ≤ r ∧ r < ys.length)) (hy : ys.length ≤ 50000)
    (k : ∀ y zs, ys.Perm (y :: zs) → OwnP Δ0 (OwnL q zs :: Γ) p → Wp K Δ0 H0 (OwnL p (xs ++ [y]) :: OwnL q zs :: Γ) F ρ tNext D) :
    Wp K Δ0 H0 (OwnL p xs :: OwnL q ys :: Γ) F ρ (tDrop (tBM K "list" rAppend ta (tCons (tBM K "list" rPopAt tb (tCons tr tNil)) tNil))) D := fun σ H ⟨Δ, s, hh, e, f, e0, s1, s2⟩ =>
  ho Δ σ H _ s hh e fun w H1 b pb e1 r1 => by
    have eb : b = ⟨p⟩ := pb
    subst eb
    have ew : w = .ref p := r1
    subst ew
    obtain ⟨u, hu, iu⟩ := e1.2 p _ (s _ List.mem_cons_self)
    have iu' : u = HO.lst _ := iu
    subst iu'
    refine ⟨.inl ⟨rfl, _, SqL.of hu⟩, hq Δ σ H1 _ s e1.2 (e.mono e1.1) fun w2 H2 b2 pb2 e2 r2 => ?_⟩
    have eb2 : b2 = ⟨q⟩ := pb2
    subst eb2
    have ew2 : w2 = .ref q := r2
    subst ew2
    obtain ⟨u2, hu2, iu2⟩ := e2.2 q _ (s _ (List.mem_cons_of_mem _ List.mem_cons_self))
    have iu2' : u2 = HO.lst _ := iu2
    subst iu2'
    refine ⟨.inl ⟨rfl, _, SqL.of hu2⟩, hr Δ σ H2 _ s e2.2 ((e.mono e1.1).mono e2.1) fun w3 H3 n pn e3 r3 => ?_⟩
    have ew3 : w3 = .int n := r3
    subst ew3
    have e4 := (e1.trans e2).trans e3
    have st : Stt K Δ0 H0 (OwnL p xs :: OwnL q ys :: Γ) F ρ σ H3 := ⟨Δ, s, e4.2, e.mono e4.1, fun q hq => q.2.r.mono e4.1 (f q hq), ext0 e0 s1 s2 e4, s1, s2⟩
    have hlt : n.toNat < ys.length := by omega
    have hpq : q ≠ p := o.ne (OwnL q ys) List.mem_cons_self
    have o3 : OwnP Δ0 (OwnL p xs :: Γ) q := ⟨o2.n0, fun z hz2 => by
      rcases List.mem_cons.mp hz2 with rfl | hz2
      · exact hpq.symm
      · exact o2.ne z hz2⟩
    obtain ⟨hq3, st2⟩ := own_putO (o2 := .lst ((ys.eraseIdx n.toNat).map Flat.val)) o3 st.swap
    have o4 : OwnP Δ0 (OwnL q (ys.eraseIdx n.toNat) :: Γ) p := ⟨o.n0, fun z hz2 => by
      rcases List.mem_cons.mp hz2 with rfl | hz2
      · exact hpq
      · exact o.ne z (List.mem_cons_of_mem _ hz2)⟩
    obtain ⟨hp3, st3⟩ := own_putO (o2 := .lst ((xs ++ [ys[n.toNat]]).map Flat.val)) o4 st2.swap
    refine ⟨q, _, n, n.toNat, Flat.val ys[n.toNat], rfl, rfl, hq3, by omega, by omega, ?_, ?_, ?_⟩
    · rw [List.length_map]
      unfold seqIndex?
      simp [show ¬ n < 0 by omega, pn.1, pn.2]
    · rw [List.getElem?_map, List.getElem?_eq_getElem hlt]
      rfl
    · have ee : (ys.map Flat.val).eraseIdx n.toNat = (ys.eraseIdx n.toNat).map Flat.val := erase_map _ _ _
      rw [ee]
      refine ⟨p, _, _, rfl, rfl, hp3, ?_, ?_⟩
      · rw [List.length_map]
        exact Nat.lt_trans hz (by decide)
      · have e5 : xs.map Flat.val ++ [Flat.val ys[n.toNat]] = (xs ++ [ys[n.toNat]]).map Flat.val := by rw [List.map_append]; rfl
        rw [e5]
        exact k _ _ (perm_erase hlt) o4 σ _ st3
/-- name.append(e), the last of a block -/
theorem wp_appL {p : Addr} {xs : List α} {P : α → Prop} (o : OwnP Δ0 Γ p) (hz : xs.length < 50000) (ho : Ev K (OwnL p xs :: Γ) ta ρ (Is (⟨p⟩ : Loc))) (h : Ev K (OwnL p xs :: Γ) te ρ P)
    (k : ∀ a, P a → Wp K Δ0 H0 (OwnL p (xs ++ [a]) :: Γ) F ρ tNext D) : Wp K Δ0 H0 (OwnL p xs :: Γ) F ρ (tDrop (tBM K "list" rAppend ta (tCons te tNil))) D := wp_app (tz := tNext) o hz ho h k
/-- a, b = list(xs), [] -/
theorem wp_parLN {i j : Nat} {xs : List α} (h : Ev K Γ te ρ (Is xs)) (hi : i < ρ.length) (hj : j < ρ.length)
    (k : ∀ q p, OwnP Δ0 Γ q → OwnP Δ0 (OwnL q xs :: Γ) p → Wp K Δ0 H0 (OwnL p ([] : List α) :: OwnL q xs :: Γ) F ((ρ.set i (some ⟨(⟨q⟩ : Loc)⟩)).set j (some ⟨(⟨p⟩ : Loc)⟩)) tz D) :
    Wp K Δ0 H0 Γ F ρ (tSeq (tPar i j (tCons (tCB (fun xs H Q => ∃ p ys, xs = [.ref p] ∧ (SqL K H p ys ∨ SqT K H p ys) ∧ ∀ l, H l = none → Q (.ref l) (upd H l (.lst ys))) (tCons te tNil)) (tCons (tLst tNil) tNil))) tz) D := fun σ H ⟨Δ, s, hh, e, f, e0, s1, s2⟩ =>
  h Δ σ H _ s hh e fun v H1 a pa e1 r => by
    have ea : a = xs := pa
    subst ea
    obtain ⟨b, vs, rfl, nb, hb, qa⟩ := r
    have ev := flat_all2 qa
    subst ev
    refine ⟨b, _, rfl, .inl hb, fun q hq => ?_⟩
    obtain ⟨oq, Δ', s', hh', e', f', e0', s1', s2'⟩ := own_newO (K := K) (o := .lst (a.map Flat.val)) s e1.2 (e.mono e1.1) (fun z hz => z.2.r.mono e1.1 (f z hz)) (ext0 e0 s1 s2 e1) s1 s2 hq
    refine ⟨by show 0 ≤ sizeLine; decide, fun p hp => ?_⟩
    obtain ⟨op, Δ2, s3, hh3, e3, f3, e03, s13, s23⟩ := own_newO (K := K) (o := .lst []) s' hh' e' f' e0' s1' s2' hp
    exact ⟨_, _, rfl, k q p oq op _ _ ⟨Δ2, s3, hh3, (e3.set (c := ⟨(⟨q⟩ : Loc)⟩) hi rfl).set (c := ⟨(⟨p⟩ : Loc)⟩) (by rw [List.length_set]; exact hj) rfl, f3, e03, s13, s23⟩⟩
/-- for .. in range(n), n some number -/
theorem wp_forR {ta : TA} {g : TG} {t : TS} {Pn : Nat → Prop} (h : EvA K Γ ta ρ (fun cs => ∃ n : Nat, cs = [⟨(n : Int)⟩] ∧ Pn n)) (hs : ∀ n, Pn n → Wp K Δ0 H0 Γ F ρ (tSeq (tFor (iRng1 (tCons (tC (.int (n : Int))) tNil)) g t) tz) D) : Wp K Δ0 H0 Γ F ρ (tSeq (tFor (iRng1 ta) g t) tz) D := fun σ H ⟨Δ, s, hh, e, f, e0, s1, s2⟩ =>
  h Δ σ H _ s hh e fun vs H1 cs pcs e1 r => by
    obtain ⟨n, rfl, pn⟩ := pcs
    match vs, r with
    | [v], r =>
      have ev : v = .int n := r.1
      subst ev
      exact hs n pn σ H1 ⟨Δ, s, e1.2, e.mono e1.1, fun q hq => q.2.r.mono e1.1 (f q hq), ext0 e0 s1 s2 e1, s1, s2⟩
end
section
variable {K : PySem.W.Frag} {Γ : Own} {ρ : Z.Env} {ta tb te : TE}
/-- x[:n] -/
theorem ev_cutTo {x : Tx} {n : Nat} (hz : x.s.length ≤ 100000) (hn : n ≤ x.s.length) (h : Ev K Γ te ρ (Is x)) (hb : Ev K Γ tb ρ (Is (n : Int))) : Ev K Γ (tSl rSlS te tNoPart (tPart tb)) ρ (Is (⟨x.s.take n⟩ : Tx)) := fun Δ σ H Q s hh e k =>
  h Δ σ H _ s hh e fun v H1 a pa e1 r1 => hb Δ σ H1 _ s e1.2 (e.mono e1.1) fun w H2 b pb e2 r2 => by
    have ea : a = x := pa
    subst ea
    have ev : v = .str (tS a) := r1
    subst ev
    have eb : b = (n : Int) := pb
    subst eb
    refine ⟨(n : Int), r2, tS a, rfl, Nat.le_trans (by simpa [Str.length] using hz) (by decide), k _ H2 _ rfl (e1.trans e2) ?_⟩
    show V.str _ = V.str _
    congr 1
    unfold cutS
    rw [HT.sIx_none, HT.sIx_nat]
    simp [Str.length, Nat.min_eq_left hn]
/-- x[n:] -/
theorem ev_cutFrom {x : Tx} {n : Nat} (hz : x.s.length ≤ 100000) (hn : n ≤ x.s.length) (h : Ev K Γ te ρ (Is x)) (hb : Ev K Γ tb ρ (Is (n : Int))) : Ev K Γ (tSl rSlS te (tPart tb) tNoPart) ρ (Is (⟨x.s.drop n⟩ : Tx)) := fun Δ σ H Q s hh e k =>
  h Δ σ H _ s hh e fun v H1 a pa e1 r1 => hb Δ σ H1 _ s e1.2 (e.mono e1.1) fun w H2 b pb e2 r2 => by
    have ea : a = x := pa
    subst ea
    have ev : v = .str (tS a) := r1
    subst ev
    have eb : b = (n : Int) := pb
    subst eb
    refine ⟨(n : Int), r2, tS a, rfl, Nat.le_trans (by simpa [Str.length] using hz) (by decide), k _ H2 _ rfl (e1.trans e2) ?_⟩
    show V.str _ = V.str _
    congr 1
    unfold cutS
    rw [HT.sIx_none, HT.sIx_nat]
    simp [Str.length, Nat.min_eq_left hn, List.take_of_length_le]
end
end Z

set_option Elab.async false
set_option linter.all false
set_option maxRecDepth 100000
set_option maxHeartbeats 2000000
/-! an own != with a value of another kind -/
namespace Zo
open PySem PySem.Spec PySem.W PyProof.Rows
section
variable {prog : Program} {w : World} {A : Around} {E : Value → Shared → Prop} {s : Shared} {K : Frag} {x C f : Addr} {ox : Obj} {od : Option Obj} {y tb : Value}
theorem own_neV {Q : Value → Shared → Prop} (X : K.In s.heap) (I : InstAt s.heap x ox C od) (J : Looks (model prog w) s.heap (typeOf y) tb) (hn : notFirst K C tb = true) (hu : A.units + 1 < cLine) (hne : findIn K (.ref C) "__ne__" = some (some (.builtin "object.__ne__"))) (he : findIn K (.ref C) "__eq__" = some (some (.ref f))) (hf : isFn K (.ref f) = true) (hm : mroIn K C (.type "object") = some true)
    (h : wpAny (model prog w) A.in1 (call (.ref f) [.ref x, y]) (fun v s' => ∃ b, v = .bool b ∧ Q (.bool (!b)) s') E s) : wpAny (model prog w) A (richCompare .NotEq (.ref x) y) Q E s := by
  have sub : Looks (model prog w) s.heap (isInstance (.ref x) (.type "object")) true := I.type.andThen (looks_mroIn X hm)
  have one : wpAny (model prog w) A (tryCompare (.ref x) "__ne__" y) (fun r s' => ∃ v, r = some v ∧ Q v s') E s := by
    unfold tryCompare
    have cal : wpAny (model prog w) A (call (.builtin "object.__ne__") [.ref x, y]) (fun v s' => ∃ b, v = .bool b ∧ Q (.bool b) s') E s := by
      refine wpAny_call (codeAny_call_builtin F.cmp_object.ne.plain F.cmpEntry_ne (check_slot F.cmpKind_ne F.cmpSplit_ne sub (F.cmpArgs_ne _ _) ?_))
      show wpAny _ _ (Builtin.«object.__ne__» ⟨[.ref x, y], []⟩) _ _ _
      unfold Builtin.«object.__ne__»
      repeat (first
        | with_reducible refine wpAny_cRoomFor (A := A.in1) (by have := hu; simp only [Around.in1] at *; omega) ?_
        | (refine wpAny_bind (m := callSpecialIfBound? (.ref x) (Str.ofString "__eq__") [y]) (ifBound_K X I he hf (wpAny_mono h (fun r s' hr => ?_) fun _ _ e => e)); obtain ⟨b, rfl, hq⟩ := hr)
        | wp_step)
      all_goals exact ⟨_, rfl, hq⟩
    refine wpAny_bind (m := callSpecialIfBound? (.ref x) (Str.ofString "__ne__") [y]) ?_
    simp only [callSpecialIfBound?, bindSpecialIfBound?]
    refine wpAny_holding (wpAny_bind (wpAny_bind (wpAny_bind (I.type.here ((looks_findIn X hne).here ?_)))))
    refine wpAny_bind (wpAny_askSetting (wpAny_ite ?_))
    have fin : wpAny (model prog w) A (call (.builtin "object.__ne__") ([.ref x] ++ [y]) >>= fun v => pure (some v)) (fun a s' => wpAny (model prog w) A (match a with
      | some .notImplemented | none => pure none
      | some v => pure (some v)) (fun r s' => ∃ v, r = some v ∧ Q v s') E s') E s := wpAny_bind (wpAny_mono cal (fun v s' hv => by obtain ⟨b, rfl, hq⟩ := hv; exact wpAny_pure (wpAny_pure ⟨_, rfl, hq⟩)) fun _ _ e => e)
    split
    · exact wpAny_bind (wpAny_of_eq (F.cmp_object.ne.bind _) (wpAny_pure fin))
    · exact wpAny_tryCatch (wpAny_bind (wpAny_of_eq (F.cmp_object.ne.bind _) (wpAny_pure fin)))
  unfold richCompare
  simp only [oneThing_ref]
  refine wpAny_holding (wpAny_bind (wpAny_cRoomFor (by omega) ?_))
  refine wpAny_bind (I.type.here (wpAny_bind (J.here ?_)))
  have fin2 : wpAny (model prog w) A (do
      match ← tryCompare (.ref x) "__ne__" y with
      | some v => pure (some v)
      | none => pure none) (fun r s' => ∃ v, r = some v ∧ Q v s') E s := wpAny_bind (wpAny_mono one (fun r s' hr => by obtain ⟨v, rfl, hq⟩ := hr; exact wpAny_pure ⟨v, rfl, hq⟩) fun _ _ e => e)
  split
  · rename_i q
    have e : subIn K tb (.ref C) = some false := by
      rcases Bool.or_eq_true_iff.mp hn with e | e
      · rw [beq_iff_eq.mp e] at q; simp at q
      · exact beq_iff_eq.mp e
    refine wpAny_bind ((looks_subIn X e).here ?_)
    simp only [Bool.false_eq_true, if_false]
    refine wpAny_bind (wpAny_mono one (fun r s' z => ?_) fun _ _ e => e)
    obtain ⟨v, rfl, hq⟩ := z
    exact wpAny_pure hq
  · refine wpAny_bind (wpAny_pure ?_)
    simp only [Bool.false_eq_true, if_false]
    refine wpAny_bind (wpAny_mono one (fun r s' z => ?_) fun _ _ e => e)
    obtain ⟨v, rfl, hq⟩ := z
    exact wpAny_pure hq
end
end Zo
namespace L2
open PySem PySem.Spec PyProof.Rows
/-- x != y, y of another kind -/
def rOwnNeV (K : PySem.W.Frag) (C : Addr) (sp : Sp) (E : XK) : R2 := fun x y H Q => ∃ a dx fs t, x = .ref a ∧ H a = some (.ins C dx fs) ∧ TyX K H y t ∧ PySem.W.notFirst K C t = true ∧ sp [x, y] H (fun z H' => ∃ r, z = .bl r ∧ Q (.bl (!r)) H') E
section
variable {X : Cx} {CX : CXT} {k : Nat} {C g : Addr} {fd : FuncData} {ps : List Str} {sp : Sp} {E : XK}
theorem op_neV (hne : PySem.W.findIn X.K (.ref C) "__ne__" = some (some (.builtin "object.__ne__"))) (hs : PySem.W.findIn X.K (.ref C) "__eq__" = some (some (.ref g))) (hf : PySem.W.isFn X.K (.ref g) = true) (hm : PySem.W.mroIn X.K C (.type "object") = some true)
    (F : FnOk X.prog X.w X.K X.mg X.base CX k g fd ps sp) (hr : Room (k + 1) X.A) (hb : Binds X.K fd ps []) (hx : Passes CX X E) : OpR X (compareOp .NotEq) (rOwnNeV X.K C sp E) := by
  intro pins s σ H x y v u Q I rx ry h
  obtain ⟨a, dx, fs, t, rfl, ha, ht, hnf, q⟩ := h
  obtain rfl : v = Value.ref a := rx
  obtain ⟨_, J1, _⟩ := ins_get I.hok ha
  obtain ⟨_, J1, _⟩ := J1.look
  obtain ⟨P, Z, hP, _⟩ := kit_of I ry ht
  have J2 := Z.ty (model X.prog X.w) s.heap I.kIn hP
  have hl := F.len _ _ _ _ q
  have r2 : Vals [V.ref a, y] [Value.ref a, u] := .cons rfl (.cons ry .nil)
  refine Zo.own_neV I.kIn J1 J2 hnf ?hu hne hs hf hm (wpAny_call (codeAny_mono (F.run X.A.in1 X.stack s H ⟨[.ref a, u], []⟩ [.ref a, u] [.ref a, y] _ E hr.in1 I.env0.in1 (by
    have := hb s [.ref a, u] I.kIn (by simpa using hl)
    simpa using this) r2 q) fun r s' hq => ?_))
  case hu =>
    have h1 := hr.un
    omega
  cases r with
  | error e => exact hx pins σ H s e s' I hq
  | ok fl =>
    cases fl with
    | ret w =>
      obtain ⟨z, H', I', rz, r, rfl, qz⟩ := I.after hq
      obtain rfl : w = Value.bool r := rz
      exact ⟨r, rfl, .bl (!r), H', I', rfl, qz⟩
    | next => exact False.elim hq
    | brk => exact False.elim hq
    | cont => exact False.elim hq
end
end L2
namespace Z
open PySem PySem.Spec PyProof.Rows L2
theorem sub_none {K : PySem.W.Frag} {C : Addr} : PySem.W.subIn K (.type "NoneType") (.ref C) = some false := by kernel_rfl
theorem sub_tup {K : PySem.W.Frag} {C : Addr} : PySem.W.subIn K (.type "tuple") (.ref C) = some false := by kernel_rfl
section
variable {K : PySem.W.Frag} {Γ : Own} {ρ : Z.Env} {ta tb te : TE} {α β : Type} [Rp α] [Rp β] {C : Addr} {E : XK}
/-- a op b, each told by a predicate -/
theorem ev_binP {γ : Type} [Rp γ] {F : Own → List Cell → (γ → Prop) → Prop} {Pa Pb : β → Prop} {Pc : γ → Prop} (hI : IsIns K C β) (ha : Ev K Γ ta ρ Pa) (hb : Ev K Γ tb ρ Pb) (hF : ∀ a b, Pa a → Pb b → ∃ R, F Γ [⟨a⟩, ⟨b⟩] R ∧ ∀ c, R c → Pc c) : Ev K Γ (tOp (rOwnI C (spD K F) E) ta tb) ρ Pc := fun Δ σ H Q s hh e k =>
  ha Δ σ H _ s hh e fun v H1 a pa e1 r1 => hb Δ σ H1 _ s e1.2 (e.mono e1.1) fun u H2 b pb e2 r2 => by
    have r1' := Rp.mono e2.1 r1
    obtain ⟨p, dx, fs, rfl, hp⟩ := hI Δ H2 v _ r1'
    obtain ⟨q, dy, gs, rfl, hq⟩ := hI Δ H2 u _ r2
    obtain ⟨R, hR, hc⟩ := hF a b pa pb
    exact ⟨p, dx, fs, q, dy, gs, rfl, rfl, hp, hq, Γ, Δ, [⟨a⟩, ⟨b⟩], R, hR, s, e2.2, ⟨r1', r2, trivial⟩, fun z H' c pc e3 r3 => k z H' c (hc c pc) (e1.trans (e2.trans e3)) r3⟩
/-- a != b -/
theorem ev_neP {F : Own → List Cell → (Bool → Prop) → Prop} {Pa Pb : β → Prop} {r : Bool} (hI : IsIns K C β) (ha : Ev K Γ ta ρ Pa) (hb : Ev K Γ tb ρ Pb) (hF : ∀ a b, Pa a → Pb b → F Γ [⟨a⟩, ⟨b⟩] (Is r)) : Ev K Γ (tOp (rOwnNe C (spD K F) E) ta tb) ρ (Is (!r)) := fun Δ σ H Q s hh e k =>
  ha Δ σ H _ s hh e fun v H1 a pa e1 r1 => hb Δ σ H1 _ s e1.2 (e.mono e1.1) fun u H2 b pb e2 r2 => by
    have r1' := Rp.mono e2.1 r1
    obtain ⟨p, dx, fs, rfl, hp⟩ := hI Δ H2 v _ r1'
    obtain ⟨q, dy, gs, rfl, hq⟩ := hI Δ H2 u _ r2
    exact ⟨p, dx, fs, q, dy, gs, rfl, rfl, hp, hq, Γ, Δ, [⟨a⟩, ⟨b⟩], Is r, hF a b pa pb, s, e2.2, ⟨r1', r2, trivial⟩, fun z H' c pc e3 r3 => ⟨c, r3, k _ H' (!c) (by rw [show c = r from pc]; rfl) (e1.trans (e2.trans e3)) rfl⟩⟩
/-- a != x, x of another kind -/
theorem ev_neV {F : Own → List Cell → (Bool → Prop) → Prop} {a : β} {x : α} {r : Bool} {t : Value} (hI : IsIns K C β) (ha : Ev K Γ ta ρ (Is a)) (hb : Ev K Γ tb ρ (Is x)) (ty : ∀ Δ H v, Rp.rp K Δ H v x → TyX K H v t) (hn : PySem.W.notFirst K C t = true) (hF : F Γ [⟨a⟩, ⟨x⟩] (Is r)) : Ev K Γ (tOp (rOwnNeV K C (spD K F) E) ta tb) ρ (Is (!r)) := fun Δ σ H Q s hh e k =>
  ha Δ σ H _ s hh e fun v H1 a' pa e1 r1 => hb Δ σ H1 _ s e1.2 (e.mono e1.1) fun u H2 x' pb e2 r2 => by
    have ea : a' = a := pa
    subst ea
    have ex : x' = x := pb
    subst ex
    have r1' := Rp.mono e2.1 r1
    obtain ⟨p, dx, fs, rfl, hp⟩ := hI Δ H2 v _ r1'
    exact ⟨p, dx, fs, t, rfl, hp, ty Δ H2 u r2, hn, Γ, Δ, [⟨a'⟩, ⟨x'⟩], Is r, hF, s, e2.2, ⟨r1', r2, trivial⟩, fun z H' c pc e3 r3 => ⟨c, r3, k _ H' (!c) (by rw [show c = r from pc]; rfl) (e1.trans (e2.trans e3)) rfl⟩⟩
end
end Z

set_option Elab.async false
set_option linter.all false
set_option maxRecDepth 100000
set_option maxHeartbeats 1000000
/-! fresh lists joined, cut, sorted, handed back -/
namespace Z
open PySem PySem.Spec PyProof.Rows L2
theorem all2_take {α : Type u1} {β : Type u2} {R : α → β → Prop} : ∀ {n : Nat} {vs : List α} {xs : List β}, All2 R vs xs → All2 R (vs.take n) (xs.take n)
  | 0, _, _, _ => by rw [List.take_zero, List.take_zero]; trivial
  | _ + 1, [], [], _ => trivial
  | _ + 1, [], _ :: _, q => q.elim
  | _ + 1, _ :: _, [], q => q.elim
  | n + 1, _ :: _, _ :: _, q => ⟨q.1, all2_take (n := n) q.2⟩
theorem all2_mapR {α : Type u1} {β : Type u2} {γ : Type u3} {R : α → β → Prop} {S : α → γ → Prop} {f : β → γ} (h : ∀ u x, R u x → S u (f x)) : ∀ {vs : List α} {xs : List β}, All2 R vs xs → All2 S vs (xs.map f)
  | [], [], _ => trivial
  | [], _ :: _, q => q.elim
  | _ :: _, [], q => q.elim
  | _ :: _, _ :: _, q => ⟨h _ _ q.1, all2_mapR h q.2⟩
section
variable {K : PySem.W.Frag} {Γ : Own} {ρ : Z.Env} {ta tb te : TE} {tl : TA} {α β : Type} [Rp α] [Rp β]
theorem new_FL {Δ : Gh} {H : Hp} {l : Addr} {vs : List V} {xs : List α} (hh : Hold Δ H) (hl : H l = none) (q : All2 (fun u a => Rp.rp K Δ H u a) vs xs) : Rp.rp K Δ (upd H l (.lst vs)) (.ref l) (⟨xs⟩ : FL α) :=
  ⟨l, vs, rfl, hh.fresh hl, upd_same, q.imp fun _ _ => Rp.mono (Ext.new hh hl _).1⟩
/-- x + y -/
theorem o2_catF {x y : FL α} (hz : x.l.length + y.l.length ≤ 100000) : Op2 K rCat x y (Is (⟨x.l ++ y.l⟩ : FL α)) := fun Δ H v w Q hh r1 r2 k => by
  obtain ⟨p, vs, rfl, n1, h1, q1⟩ := r1
  obtain ⟨q, ws, rfl, n2, h2, q2⟩ := r2
  exact ⟨p, q, vs, ws, rfl, rfl, h1, h2, by rw [q1.len, q2.len]; exact Nat.le_trans hz (by decide), fun l hl => k _ _ _ rfl (Ext.new hh hl _) (new_FL hh hl (all2_app q1 q2))⟩
/-- [a, b, ..] -/
theorem ev_lstF {xs : List α} (h : EvA K Γ tl ρ (Is (xs.map fun a => ⟨a⟩))) (hz : xs.length ≤ 100000) : Ev K Γ (tLst tl) ρ (Is (⟨xs⟩ : FL α)) := fun Δ σ H Q s hh e k => h Δ σ H _ s hh e fun vs H' cs pcs e1 r => by
  have ec : cs = xs.map fun a => ⟨a⟩ := pcs
  subst ec
  have r' := All2.of_map r
  exact ⟨Nat.le_trans (Nat.le_of_eq r'.len) (Nat.le_trans hz (by decide)), fun p hp => k _ _ ⟨xs⟩ rfl (e1.trans (Ext.new e1.2 hp _)) (new_FL e1.2 hp r')⟩
/-- xs[:n] -/
theorem ev_cutF {xs : List α} {n : Nat} (h : Ev K Γ te ρ (Is xs)) (hb : Ev K Γ tb ρ (Is (n : Int))) : Ev K Γ (tSl (rSlL K) te tNoPart (tPart tb)) ρ (Is (⟨xs.take n⟩ : FL α)) := fun Δ σ H Q s hh e k =>
  h Δ σ H _ s hh e fun v H1 a pa e1 r1 => hb Δ σ H1 _ s e1.2 (e.mono e1.1) fun w H2 b pb e2 r2 => by
    have ea : a = xs := pa
    subst ea
    have eb : b = (n : Int) := pb
    subst eb
    obtain ⟨p, vs, rfl, st, sq, q⟩ := Rp.mono e2.1 r1
    refine ⟨(n : Int), r2, p, vs, rfl, sq, fun l hl => ?_⟩
    refine k _ _ ⟨a.take n⟩ rfl ((e1.trans e2).trans (Ext.new e2.2 hl _)) ?_
    have e3 : cutV vs none (some (n : Int)) = vs.take n := by
      unfold cutV
      rw [HT.sIx_none, HT.sIx_nat]
      simp [List.take_eq_take_iff]
    rw [e3]
    exact new_FL e2.2 hl (all2_take q)
/-- sorted(set(xs)) -/
theorem ev_sortSetF {xs : List Tx} (h : Ev K Γ te ρ (Is xs)) (hz : xs.length ≤ 1000) : Ev K Γ (tSortSet K te) ρ (Is (⟨srt xs⟩ : FL Tx)) := fun Δ σ H Q s hh e k => h Δ σ H _ s hh e fun v H1 a pa e1 r => by
  have ea : a = xs := pa
  subst ea
  obtain ⟨p, vs, rfl, n, sq, q⟩ := r
  have ev := all2_tx q
  subst ev
  refine ⟨p, _, rfl, sq, by rw [List.length_map]; exact hz, fun ys l nd mm rs hl => ?_⟩
  have e1' : ys = (ys.map fun z => (⟨z.cps.toList⟩ : Tx)).map fun x => (⟨x.s.toArray⟩ : Str) := by
    rw [List.map_map]
    conv => lhs; rw [← List.map_id ys]
    exact List.map_congr_left fun z _ => by cases z; rfl
  have inj : ∀ {u w : Str}, (⟨u.cps.toList⟩ : Tx) = ⟨w.cps.toList⟩ → u = w := fun {u w} z => by
    cases u
    cases w
    have := Tx.mk.inj z
    congr 1
    exact Array.toList_inj.mp this
  have es : (ys.map fun z => (⟨z.cps.toList⟩ : Tx)) = srt a := by
    refine srt_of (List.Pairwise.map _ (fun u w hne z => hne (inj z)) nd) (List.pairwise_map.mpr rs) fun x => ?_
    rw [List.mem_map]
    constructor
    · rintro ⟨z, hz, rfl⟩
      obtain ⟨x, hx, rfl⟩ := List.mem_map.mp ((mm z).mp hz)
      exact hx
    · intro hx
      exact ⟨⟨x.s.toArray⟩, (mm _).mpr (List.mem_map.mpr ⟨x, hx, rfl⟩), rfl⟩
  refine k _ _ ⟨srt a⟩ rfl (e1.trans (Ext.new e1.2 hl _)) (new_FL e1.2 hl ?_)
  have e2 : ys.map V.str = (srt a).map fun x => V.str ⟨x.s.toArray⟩ := by
    rw [← es]
    conv => lhs; rw [e1']
    rw [List.map_map]
    rfl
  rw [e2]
  have em : (srt a) = (srt a).map id := (List.map_id _).symm
  conv => rhs; rw [em]
  exact All2.map fun x _ => rfl
/-- a fresh list read as one of other data -/
theorem ev_mapF {f : α → β} {P : FL α → Prop} (hf : ∀ Δ H v a, Rp.rp K Δ H v a → Rp.rp K Δ H v (f a)) (h : Ev K Γ te ρ P) : Ev K Γ te ρ (fun ys : FL β => ∃ xs, P xs ∧ ys = ⟨xs.l.map f⟩) := fun Δ σ H Q s hh e k =>
  h Δ σ H Q s hh e fun v H1 a pa e1 r => by
    obtain ⟨p, vs, rfl, n, hp, q⟩ := r
    exact k _ H1 ⟨a.l.map f⟩ ⟨a, pa, rfl⟩ e1 ⟨p, vs, rfl, n, hp, all2_mapR (fun u x rx => hf Δ H1 u x rx) q⟩
end
section
variable {K : PySem.W.Frag} {Δ0 : Gh} {H0 : Hp} {Γ : Own} {F : List (V × Cell)} {ρ : Z.Env} {ta tb te : TE} {tz : TS} {D : Ends} {α : Type} [Rp α] [Flat α]
/-- return name -/
theorem wp_retLF {R : FL α → Prop} {p : Addr} {xs : List α} (o : OwnP Δ0 Γ p) (hf : Fin K Δ0 H0 R D) (hr : R ⟨xs⟩) (ho : Ev K (OwnL p xs :: Γ) ta ρ (Is (⟨p⟩ : Loc))) : Wp K Δ0 H0 (OwnL p xs :: Γ) F ρ (tRet ta) D := fun σ H ⟨Δ, s, hh, e, f, e0, s1, s2⟩ =>
  ho Δ σ H _ s hh e fun w H1 b pb e1 r1 => by
    have eb : b = ⟨p⟩ := pb
    subst eb
    have ew : w = .ref p := r1
    subst ew
    obtain ⟨u, hu, iu⟩ := e1.2 p _ (s _ List.mem_cons_self)
    have iu' : u = HO.lst _ := iu
    subst iu'
    exact hf _ H1 ⟨xs⟩ hr (ext0 e0 s1 s2 e1) ⟨p, _, rfl, o.n0, hu, all2_flat xs⟩
end
end Z

set_option Elab.async false
set_option linter.all false
set_option maxRecDepth 100000
set_option maxHeartbeats 1000000
/-! f'{n:b}', and a def of one number that counts its bits, as the key of a sort -/
namespace Zk
open PySem PySem.Spec PyProof.Rows PySem.Builtin
/-- the signs of a number's bits -/
def bitL (n : Nat) : List Nat := (Nat.toDigits 2 n).map Char.toNat
theorem plainF {d : List Nat} (h : d ≠ []) : intField' { align := 62, type := some 98 } false [] d [] 4 = ⟨d.toArray⟩ := by
  cases d with
  | nil => exact absurd rfl h
  | cons c l =>
    have e1 : (0 : Nat) - (l.length + 1) = 0 := by omega
    have e2 : (-1 - 0 - ((l.length + 1 : Nat) : Int)).toNat = 0 := by omega
    have e3 : (-1 - ((l.length : Int) + 1)).toNat = 0 := by omega
    simp [intField', e1, e2, e3]
theorem gives_bits (n : Nat) (t u : Tok) : Gives (Builtin.«int.__format__» ⟨[.int (n : Int) t, .str "b" u], []⟩) (.str ⟨(bitL n).toArray⟩) := by
  have h0 : decide ((n : Int) < 0) = false := by simp
  have hd : (Nat.toDigits 2 n).map Char.toNat ≠ [] := by
    have := tDigits_len_ge 2 n
    intro z
    have z2 := congrArg List.length z
    rw [List.length_map, List.length_nil] at z2
    omega
  intro prog w A R s hq
  unfold Builtin.«int.__format__»
  simp only [selfAndOne, noKeywords, Int.intOfSelf, asInt?, asStr?, List.isEmpty_nil, if_true, pure_bind, bind_assoc, show (Value.str (Str.ofString "b") u == Value.none) = false from rfl, Bool.false_eq_true, if_false]
  refine wpAny_bind (wpAny_typeNameOf (T := "str") (typeIs_str s _ u) (by decide) fun _ => ?_)
  rw [if_neg (by decide), if_neg (by decide)]
  refine wpAny_bind (wpAny_typeNameOfCut_int ?_)
  rw [show Float.parseFormatSpec (Str.ofString "b").cps.toList "int" 62 = Except.ok { align := 62, type := some 98 } from by rfl]
  dsimp only
  show wpAny _ _ (if _ then _ else _) _ _ _
  rw [if_pos (by decide)]
  show wpAny _ _ (retStr (intField' { align := 62, type := some 98 } (decide ((n : Int) < 0)) [] ((Nat.toDigits 2 n).map Char.toNat) [] 4)) _ _ _
  rw [h0, plainF hd]
  exact Gives.tree (.str ⟨(bitL n).toArray⟩) prog w A R s hq
/-- how many bits, as the text tells it -/
def onesI (n : Nat) : Int := Txt.count ⟨(bitL n).toArray⟩ "1"
/-- return f'{x:b}'.count('1') -/
abbrev bitBody (x : Str) (p1 p2 p3 p4 p5 p6 p7 p8 p9 : Pos) (k1 k2 : Nat) : List Stmt :=
  [.Return (some (.Call (.Attribute (.JoinedStr [.FormattedValue (.Name x p1) (-1) (some (.JoinedStr [.Constant (.str "b") k1 p2] p3)) p4] p5) "count" p6) [.Constant (.str "1") k2 p7] [] p8)) p9]
open L2 in
theorem bits_call {P : Program} {w : World} {K : PySem.W.Frag} {A : Around} {s : Shared} {f : Addr} {fd : FuncData} {pa : Arguments} {sc : Scope} {n : Nat} {t : Tok} {x nm : Str} {p1 p2 p3 p4 p5 p6 p7 p8 p9 : Pos} {k1 k2 : Nat}
    (Fd : FunD K nm nm pa (bitBody x p1 p2 p3 p4 p5 p6 p7 p8 p9 k1 k2) sc [] [] f fd) (hk : sc.kind = .function) (hco : sc.isCoroutine = false) (hgen : sc.isGenerator = false) (hx : sc.names.lookup x = some .local) (hline : (p6.endLine == p8.line) = true) (hdb : (x == ("__debug__" : Str)) = false)
    (hb : BindsTo s fd ⟨[.int (n : Int) t], []⟩ [(x, .int (n : Int) t)]) (hK : K.In s.heap) (hlim : s.heap.NoLimit) (hroom : A.depth < recursionLimit) (hz : (bitL n).length ≤ sizeLine) :
    wpAny (model P w) A (call (.ref f) [.int (n : Int) t]) (PySem.W.KeyPure (.int (onesI n)) s) (fun _ _ => False) s := by
  obtain ⟨oc, od, dV, kV, doc, pm, an, cdv, ct, osl, rfl, lk, hcd, _, _⟩ := Fd.ex
  refine wpAny_call ?_
  refine codeAny_call_function hroom (hK _ _ lk) rfl hco hgen rfl (PySem.W.codeRec_of hK hcd) (hb _ _ _ _ ?_)
  refine wpAny_newFunctionEnv_cells hk (fun y hy => .inl ?_) fun env he s1 xx => ?_
  · rw [List.mem_singleton.mp hy]; exact hx
  have hk2 : env.scope.kind = .function := by rw [he]; exact hk
  have hx2 : env.kindOf x = some .local := by rw [he]; exact hx
  clear he
  refine ⟨hlim.keeps xx.toInCall.keep, codeAny_func ?_⟩
  have hm : bindL env.kindOf [(x, Value.int (n : Int) t)] (fun _ => none) x = some (.int (n : Int) t) := by
    unfold bindL bindL
    rw [if_pos hx2, if_pos rfl]
  refine wpAny_execs_cons (wpAny_Return_some ?_)
  refine wpAny_Call_method_late rfl rfl hline rfl ?_
  refine wpAny_JoinedStr_one (wpAny_FormattedValue_spec ?_)
  refine wpAny_Name (wpAny_loadName_local hk2 hx2 xx.toInCall.ns hm ?_) hdb
  refine wpAny_JoinedStr_one (Calls.Constant_str ⟨_, _, rfl, ?_⟩)
  refine wpAny_formatField_spec (T := "int") (idf := "int.__format__") (sp := "b") (x := ⟨(bitL n).toArray⟩) rfl (fun s' => typeIs_int s' _ _) F.slot_int_format F.entry_int_format (fun a b => F.args_int_format_2 _ _) (fun u => gives_bits n t u) ?_ (by decide) hz
  refine ⟨"str", "str.count", F.plainAttrs_str, F.slot_str_count, F.type_str_count, typeIs_str _ _ _, (fun a e => by cases e), ?_⟩
  refine Calls.callWith_builtin rfl (Calls.evalArgs_plain (Calls.spliced_cons (Calls.Constant_str (k := k2) (pos := p7) (Calls.spliced_nil (SC.count ?_)))))
  obtain ⟨h', tk, rfl, kp⟩ := xx.done
  exact ⟨h', _, rfl, kp, .int _ _⟩
end Zk

set_option Elab.async false
set_option linter.all false
set_option maxRecDepth 100000
set_option maxHeartbeats 1000000
/-! sorted(xs, key=f), f a def that counts bits -/
namespace L2
open PySem PySem.Spec PyProof.Rows Zk
section
variable {X : Cx}
def rSortBits (K : PySem.W.Frag) (f : Addr) : List V → List V → Hp → VK → Prop := fun vs zs H Q => ∃ (a : Addr) (ns : List Nat), vs = [V.ref a] ∧ zs = [V.ref f] ∧ SqL K H a (ns.map fun n : Nat => V.int n) ∧ (∀ n ∈ ns, (bitL n).length ≤ sizeLine) ∧
  ∀ (ns' : List Nat) (p : Addr), ns'.Perm ns → ns'.Pairwise (fun x y => onesI x ≤ onesI y) → H p = none → Q (.ref p) (upd H p (.lst (ns'.map fun n : Nat => V.int n)))
def IntOf (v : Value) (n : Nat) : Prop := ∃ t, v = .int (n : Int) t
theorem each_vals : ∀ {ns : List Nat} {us : List Value}, Vals (ns.map fun n : Nat => V.int n) us → PySem.W.EachIs IntOf us ns
  | [], _, .nil => .nil
  | _ :: _, _, .cons r h => .cons r (each_vals h)
theorem vals_each : ∀ {ns : List Nat} {us : List Value}, PySem.W.EachIs IntOf us ns → Vals (ns.map fun n : Nat => V.int n) us
  | [], _, .nil => .nil
  | _ :: _, _, .cons r h => .cons r (vals_each h)
theorem bits_le {a b : Nat} (h : PySem.W.dataLe false (fun n : Nat => PyData.int (onesI n)) a b = true) : onesI a ≤ onesI b := by
  have e : PySem.W.dataLe false (fun n : Nat => PyData.int (onesI n)) a b = !(decide (onesI b < onesI a) || (!decide (onesI a < onesI b) && false)) := rfl
  rw [e] at h
  simp at h
  exact h
theorem cr_sortBits {f : Addr} {fd : FuncData} {pa : Arguments} {sc : Scope} {x nm : Str} {p1 p2 p3 p4 p5 p6 p7 p8 p9 : Pos} {k1 k2 : Nat}
    (Fd : FunD X.K nm nm pa (bitBody x p1 p2 p3 p4 p5 p6 p7 p8 p9 k1 k2) sc [] [] f fd) (hb : Binds X.K fd [x] []) (hk : sc.kind = .function) (hco : sc.isCoroutine = false) (hgen : sc.isGenerator = false) (hx : sc.names.lookup x = some .local) (hline : (p6.endLine == p8.line) = true) (hdb : (x == ("__debug__" : Str)) = false)
    (hr : Room 2 X.A) : CallRK X (.builtin "sorted") [Str.ofString "key"] (rSortBits X.K f) := by
  intro pins s σ H vs zs us ws Q I r rz h
  obtain ⟨a, ns, rfl, rfl, hs, hz, q⟩ := h
  obtain rfl := Vals.ref1 r
  obtain ⟨w1, rfl, e1⟩ := vals1 rz
  obtain rfl : w1 = Value.ref f := e1
  obtain ⟨its, rv, hl, hzz⟩ := I.list hs
  have ev := each_vals rv
  have lim : s.heap.NoLimit := I.ok.mod.nolimit.keeps I.bk
  have dp := hr.dp
  have un := hr.un
  refine PySem.W.sorted_key_data (b := false) (fun n : Nat => PyData.int (onesI n)) hl.isList ev (fun d hd d' hd' => ?_) (.inr fun d hd => ?_) (by rw [List.length_map] at hzz; exact hzz) (fun n _ => ?_) (ksk_s1 _ _) (fun _ => ksk_l1 _ _) (fun y => ksk_t1 f y) (fun v n hv hn h tk kp => ?_) fun out c h' tk kp fresh hD hlen he => ?_
  · obtain ⟨n, _, rfl⟩ := List.mem_map.mp hd
    obtain ⟨n', _, rfl⟩ := List.mem_map.mp hd'
    rfl
  · obtain ⟨n, _, rfl⟩ := List.mem_map.mp hd
    exact ⟨(fun z => by cases z), fun xs z => by cases z⟩
  · show X.A.units + 2 + PyData.depth (.int _) < _
    show X.A.units + 2 + 0 < cLine
    omega
  · obtain ⟨t, rfl⟩ := hv
    have kin : X.K.In h := fun b o e => kp b o (I.kIn b o e)
    exact bits_call Fd hk hco hgen hx hline hdb (by simpa using hb { s with heap := h, toks := tk } [.int (n : Int) t] kin rfl) kin (lim.keeps kp) (by show X.A.depth < _; omega) (hz n hn)
  · have pm := List.mergeSort_perm ns (PySem.W.dataLe false fun n : Nat => PyData.int (onesI n))
    have T := PySem.W.sortLe_total (listOrd itemOrd) false (fun n : Nat => PySem.W.keyToks (PyData.int (onesI n)))
    refine ⟨.ref _, _, I.laid (a := s.heap.objs.size + 1) (o := .lst ((ns.mergeSort (PySem.W.dataLe false fun n : Nat => PyData.int (onesI n))).map fun n : Nat => V.int n)) (t' := tk) kp (Nat.le_succ _) ⟨?_, out, c, vals_each he, hD⟩, rfl, q _ _ pm ?_ (I.hok.fresh (Nat.le_succ _))⟩
    · rw [List.length_map, pm.length_eq]
      rw [List.length_map] at hzz
      exact hzz
    · refine List.Pairwise.imp (fun h => bits_le h) ?_
      exact List.pairwise_mergeSort (fun a b c => T.trans a b c) (fun a b => by simpa using T.total a b) ns
end
end L2

set_option Elab.async false
set_option linter.all false
set_option maxRecDepth 100000
set_option maxHeartbeats 1000000
/-! f'{n:b}' as a rule; how many bits a number has -/
namespace Zk
open PySem PyProof.Rows
/-- how many bits are 1 -/
def pc (n : Nat) : Nat := if h : n = 0 then 0 else n % 2 + pc (n / 2)
termination_by n
decreasing_by omega
theorem pc_zero : pc 0 = 0 := by rw [pc]; rfl
theorem pc_step (n : Nat) : pc n = n % 2 + pc (n / 2) := by
  by_cases h : n = 0
  · subst h
    rw [pc_zero]
  · rw [pc, dif_neg h]
theorem cnt_app (c : Nat) : ∀ (l r : List Nat), cnt c (l ++ r) = cnt c l + cnt c r
  | [], r => by rw [List.nil_append, cnt_nil]; omega
  | n :: l, r => by rw [List.cons_append, cnt_cons, cnt_cons, cnt_app c l r]; omega
theorem cnt_one (d : Nat) (h : d < 2) : cnt 49 [(Nat.digitChar d).toNat] = (d : Int) := by
  rw [cnt_cons, cnt_nil]
  match d, h with
  | 0, _ => decide
  | 1, _ => decide
theorem cnt_bits : ∀ n : Nat, cnt 49 (bitL n) = (pc n : Int) := by
  intro n
  induction n using Nat.strongRecOn with
  | ind n ih =>
    by_cases h : n < 2
    · unfold bitL
      rw [Nat.toDigits_of_lt_base h]
      show cnt 49 [(Nat.digitChar n).toNat] = _
      rw [cnt_one n h]
      match n, h with
      | 0, _ => rw [pc_zero]
      | 1, _ => rw [pc_step, show 1 / 2 = 0 from rfl, pc_zero]
    · have e : bitL n = bitL (n / 2) ++ [(Nat.digitChar (n % 2)).toNat] := by
        unfold bitL
        rw [Nat.toDigits_of_base_le (by omega) (by omega), List.map_append]
        rfl
      rw [e, cnt_app, ih (n / 2) (by omega), cnt_one _ (by omega), pc_step n]
      omega
theorem onesI_pc (n : Nat) : onesI n = (pc n : Int) := by
  unfold onesI
  rw [show (Str.ofString "1" : Str) = ⟨#[49]⟩ from rfl, count_cnt]
  exact cnt_bits n
theorem bitL_len (n k : Nat) (h : n < 2 ^ (k + 1)) : (bitL n).length ≤ k + 1 := by
  induction k generalizing n with
  | zero =>
    have h' : n < 2 := h
    unfold bitL
    rw [Nat.toDigits_of_lt_base h']
    exact Nat.le_refl _
  | succ k ih =>
    by_cases h2 : n < 2
    · unfold bitL
      rw [Nat.toDigits_of_lt_base h2]
      simp
    · have e : bitL n = bitL (n / 2) ++ [(Nat.digitChar (n % 2)).toNat] := by
        unfold bitL
        rw [Nat.toDigits_of_base_le (by omega) (by omega), List.map_append]
        rfl
      rw [e, List.length_append]
      have := ih (n / 2) (by
        have e2 : 2 ^ (k + 1 + 1) = 2 * 2 ^ (k + 1) := by rw [Nat.pow_succ]; omega
        omega)
      show (bitL (n / 2)).length + 1 ≤ _
      omega
/-- what lies within has not more bits, and as many only if it is the same -/
theorem and_half (a b : Nat) (h : a &&& b = a) : (a / 2) &&& (b / 2) = a / 2 := by
  rw [← Nat.and_div_two, h]
theorem pc_sub : ∀ (a b : Nat), a &&& b = a → pc a ≤ pc b ∧ (pc a = pc b → a = b) := by
  intro a
  induction a using Nat.strongRecOn with
  | ind a ih =>
    intro b h
    have hm : (a % 2) &&& (b % 2) = a % 2 := by rw [← Nat.and_mod_two_pow (n := 1), h]
    by_cases ha : a = 0
    · subst ha
      rw [pc_zero]
      refine ⟨Nat.zero_le _, fun e => ?_⟩
      have : ∀ b : Nat, pc b = 0 → b = 0 := by
        intro b
        induction b using Nat.strongRecOn with
        | ind b ih2 =>
          intro e
          rw [pc_step] at e
          by_cases hb : b = 0
          · exact hb
          · have := ih2 (b / 2) (by omega) (by omega)
            omega
      exact (this b e.symm).symm
    · have r := ih (a / 2) (by omega) (b / 2) (and_half a b h)
      rw [pc_step a, pc_step b]
      have h1 : a % 2 ≤ b % 2 := by
        have ha2 : a % 2 < 2 := Nat.mod_lt _ (by decide)
        have hb2 : b % 2 < 2 := Nat.mod_lt _ (by decide)
        generalize a % 2 = x at *
        generalize b % 2 = y at *
        match x, y, ha2, hb2 with
        | 0, _, _, _ => omega
        | 1, 1, _, _ => omega
        | 1, 0, _, _ => exact absurd hm (by decide)
      refine ⟨by omega, fun e => ?_⟩
      have := r.2 (by omega)
      omega
end Zk
namespace L2
open PySem PySem.Spec PyProof.Rows Zk
section
variable {X : Cx}
/-- {n:b}: the bits of a number from 0 on -/
def tFmtB (te : TE) : TE := fun σ H Q => te σ H fun x H1 => ∃ n : Nat, x = .int n ∧ (bitL n).length ≤ sizeLine ∧ Q (.str ⟨(bitL n).toArray⟩) H1
theorem pe_fmtB {e : Expr} {te : TE} {pos p2 p3 : Pos} {k : Nat} (he : PE X e te) : PE X (.FormattedValue e (-1) (some (.JoinedStr [.Constant (.str "b") k p2] p3)) pos) (tFmtB te) := by
  refine ⟨fun pins s σ H Q I h => ?_⟩
  refine wpAny_FormattedValue_spec (thn (he.run pins s σ H _ I h) fun v s1 hv => ?_)
  obtain ⟨x, H1, I1, r1, n, rfl, hz, q⟩ := hv
  obtain ⟨t, rfl⟩ := r1
  refine wpAny_JoinedStr_one (Calls.Constant_str ⟨_, _, rfl, ?_⟩)
  exact wpAny_formatField_spec (T := "int") (idf := "int.__format__") (sp := "b") (x := ⟨(bitL n).toArray⟩) rfl (fun s' => typeIs_int s' _ _) F.slot_int_format F.entry_int_format (fun a b => F.args_int_format_2 _ _) (fun u => gives_bits n t u) ⟨.str ⟨(bitL n).toArray⟩, H1, I1.tok _, ⟨_, rfl⟩, q⟩ (by decide) hz
end
end L2

set_option Elab.async false
set_option linter.all false
set_option maxRecDepth 100000
set_option maxHeartbeats 1000000
/-! loops over a list told by a predicate; a list of one's own lent to an expression; sorted by bits; list({..}) -/
namespace Z
open PySem PySem.Spec PyProof.Rows L2 Zk
section
variable {K : PySem.W.Frag} {Δ0 : Gh} {H0 : Hp} {Γ : Own} {F : List (V × Cell)} {ρ : Z.Env} {ta tb te tl : TE} {t tz : TS} {D : Ends} {α β γ : Type} [Rp α] [Rp β] [Rp γ]
/-- what is walked, told by a datum with P -/
def SrcP (K : PySem.W.Frag) (Γ : Own) (wi : TI) (g : TG) (ρ : Z.Env) (js : List Nat) {β : Type} (P : β → Prop) (n : β → Nat) (st : β → Nat → Z.Env → Z.Env) : Prop :=
  ∀ (Δ : Gh) (σ : L2.St) (H : Hp) (R : It → Hp → Prop), Sat Γ Δ → Hold Δ H → EnvOk K Δ σ H ρ →
    (∀ (b : β) (J : It) (H1 : Hp) (pv : V) (pc : Cell), P b → Ext Δ H H1 → pc.rp K Δ H1 pv →
      (∀ Δ' H2, pc.rp K Δ' H2 pv → (∀ i, i < n b → J.go i H2) ∧ J.stop (n b) H2) →
      (∀ Δ' i H2 x H3, i < n b → Hold Δ' H2 → pc.rp K Δ' H2 pv → J.yld i H2 x H3 → Ext Δ' H2 H3 ∧ ∀ (σ' : L2.St) (ρ' : Z.Env) (Qs : L2.St → Hp → Prop), ρ'.length = ρ.length → EnvOk K Δ' σ' H3 ρ' →
        (∀ σ2 : L2.St, EnvOk K Δ' σ2 H3 (st b i ρ') → σ2.length = σ'.length → (∀ k, k ∉ js → σ2[k]? = σ'[k]?) → Qs σ2 H3) → g x σ' H3 Qs) → R J H1) → wi σ H R
theorem srcP_list [Inhabited α] {j : Nat} {P : List α → Prop} (h : Ev K Γ tl ρ P) (hj : j < ρ.length) : SrcP K Γ (iList K tl) (gName j) ρ [j] P (fun xs => xs.length) (fun xs i ρ => ρ.set j (some ⟨xs.getD i default⟩)) := fun Δ σ H R s hh e k =>
  h Δ σ H _ s hh e fun v H' a pa e1 r => by
    obtain ⟨p, vs, rfl, n, sq, q⟩ := id r
    refine ⟨p, rfl, ⟨vs, sq⟩, k a _ H' (.ref p) ⟨a⟩ pa e1 r (fun Δ' H2 r2 => ?_) fun Δ' i H2 x H3 hi h2 r2 y => ?_⟩
    · obtain ⟨p', ws, e', n', sq', q'⟩ := (show Rp.rp K Δ' H2 (.ref p) a from r2)
      cases e'
      have hl := q'.len
      refine ⟨fun i hi => ⟨ws, ws[i]'(by change i < a.length at hi; omega), sq', List.getElem?_eq_getElem _⟩, ws, sq', by show ws.length ≤ a.length; omega⟩
    · obtain ⟨p', ws, e', n', sq', q'⟩ := (show Rp.rp K Δ' H2 (.ref p) a from r2)
      cases e'
      obtain ⟨rfl, hy⟩ := (show H3 = H2 ∧ ∀ zs, SqL K H2 p zs → zs[i]? = some x from y)
      obtain ⟨w, hw, rw'⟩ := q'.get (y := a.getD i default) (by rw [List.getElem?_eq_getElem hi, List.getD_eq_getElem?_getD, List.getElem?_eq_getElem hi]; rfl)
      have ew : x = w := Option.some.inj ((hy _ sq').symm.trans hw)
      subst ew
      exact ⟨Ext.refl h2, fun σ' ρ' Qs hl e' qq => qq _ (e'.set (c := ⟨a.getD i default⟩) (by rw [hl]; exact hj) rw') (set_off (js := [j]) (List.mem_singleton_self j)).1 (set_off (js := [j]) (List.mem_singleton_self j)).2⟩
/-- a loop over what a predicate tells -/
theorem wp_forP {β : Type} {P : β → Prop} {wi : TI} {g : TG} {js : List Nat} {n : β → Nat} {st : β → Nat → Z.Env → Z.Env} (Iv : β → Nat → Own → Z.Env → Prop) (S : SrcP K Γ wi g ρ js P n st) (h0 : ∀ b, P b → Iv b 0 Γ ρ) (hl : ∀ b i Γ' ρ', Iv b i Γ' ρ' → ρ'.length = ρ.length)
    (hs : ∀ b, P b → ∀ i Γ' ρ' F', i < n b → Iv b i Γ' ρ' → Wp K Δ0 H0 Γ' F' (st b i ρ') t { D with nx := At K Δ0 H0 F' (Iv b) (i + 1), ct := At K Δ0 H0 F' (Iv b) (i + 1), bk := tz D })
    (hd : ∀ b, P b → ∀ Γ' ρ' F', Iv b (n b) Γ' ρ' → Wp K Δ0 H0 Γ' F' ρ' tz D) : Wp K Δ0 H0 Γ F ρ (tSeq (tFor wi g t) tz) D := fun σ H ⟨Δ, s, hh, e, f, e0, s1, s2⟩ =>
  S Δ σ H _ s hh e fun b J H1 pv pc hb e1 rp0 hgo hyld => by
    refine ⟨fun i m σ2 H2 => m = n b - i ∧ i ≤ n b ∧ At K Δ0 H0 ((pv, pc) :: F) (Iv b) i σ2 H2, ⟨n b, by simp, Nat.zero_le _, Γ, ρ, h0 b hb, Δ, s, e1.2, e.mono e1.1, ?_, ext0 e0 s1 s2 e1, s1, s2⟩, ?_⟩
    · intro q hq
      rcases List.mem_cons.mp hq with z | z
      · rw [z]; exact rp0
      · exact q.2.r.mono e1.1 (f q z)
    · rintro i m σ2 H2 ⟨rfl, hi, Γ', ρ', iv, st2⟩
      obtain ⟨Δ', s', hh', e', f', e0', s1', s2'⟩ := id st2
      have rp2 : pc.rp K Δ' H2 pv := f' (pv, pc) List.mem_cons_self
      have hg := hgo Δ' H2 rp2
      by_cases hlt : i < n b
      · refine .inr ⟨hg.1 i hlt, At K Δ0 H0 ((pv, pc) :: F) (Iv b) (i + 1), fun σ3 H3 a => ⟨n b - (i + 1), by omega, rfl, hlt, a⟩, fun x H3 hy => ?_⟩
        obtain ⟨e3, hput⟩ := hyld Δ' i H2 x H3 hlt hh' rp2 hy
        refine hput σ2 ρ' _ (hl b i Γ' ρ' iv) (e'.mono e3.1) fun σ3 env3 _ _ => ?_
        exact hs b hb i Γ' ρ' _ hlt iv σ3 H3 ⟨Δ', s', e3.2, env3, fun q hq => q.2.r.mono e3.1 (f' q hq), ext0 e0' s1' s2' e3, s1', s2'⟩
      · have ei : i = n b := by omega
        subst ei
        exact .inl ⟨hg.2, hd b hb Γ' ρ' _ iv σ2 H2 st2⟩
/-- a list of one's own is lent to an expression with a plain answer -/
theorem ev_lend [Flat α] [Flat γ] {f : Addr} {xs : List α} {i : Nat} {P : γ → Prop} (hne : ∀ q ∈ Γ, q.1 ≠ f) (hi : ρ[i]? = some (some ⟨(⟨f⟩ : Loc)⟩)) (h : Ev K Γ te (ρ.set i (some ⟨xs⟩)) P) : Ev K (OwnL f xs :: Γ) te ρ P := fun Δ σ H Q s hh e k => by
  have hd : Δ f = some (ObIs (.lst (xs.map Flat.val))) := s _ List.mem_cons_self
  obtain ⟨o, ho, io⟩ := hh f _ hd
  have eo : o = .lst (xs.map Flat.val) := io
  subst eo
  have ilt : i < ρ.length := by
    rw [List.getElem?_eq_some_iff] at hi
    exact hi.1
  have s2 : Sat Γ (unOwn Δ f) := fun q hq => by rw [unOwn_ne (hne q hq)]; exact s q (List.mem_cons_of_mem _ hq)
  have h2 : Hold (unOwn Δ f) H := fun a J ha => by
    have ne : a ≠ f := fun z => by rw [z, unOwn_at] at ha; cases ha
    rw [unOwn_ne ne] at ha
    exact hh a J ha
  have wk : ∀ x o', H x = some o' → Δ x = none → unOwn Δ f x = none := fun x o' _ n => by
    by_cases z : x = f
    · rw [z]; exact unOwn_at
    · rw [unOwn_ne z]; exact n
  have e2 : EnvOk K (unOwn Δ f) σ H (ρ.set i (some ⟨xs⟩)) := by
    have e3 := (e.weak wk).set (c := ⟨xs⟩) (v := .ref f) ilt ⟨f, _, rfl, .inl ⟨unOwn_at, .inl ho⟩, .inl (.inl ho), all2_flat xs⟩
    obtain ⟨v, hv, rv⟩ := e.2 i _ hi
    have ev : v = .ref f := rv
    subst ev
    have es : σ.set i (some (.ref f)) = σ := List.ext_getElem? fun j => by
      by_cases hj : i = j
      · subst hj
        rw [List.getElem?_set_self (by rw [e.1]; exact ilt), hv]
      · rw [List.getElem?_set_ne hj]
    rw [es] at e3
    exact e3
  refine h (unOwn Δ f) σ H Q s2 h2 e2 fun v H' a pa ee r => k v H' a pa ⟨fun b o n q => ?_, fun b J hb => ?_⟩ (Flat.iff.mpr (Flat.iff.mp r))
  · exact ee.1 b o (wk b o q n) q
  · by_cases z : b = f
    · subst z
      rw [hd] at hb
      cases hb
      exact ⟨_, ee.1 _ _ unOwn_at ho, rfl⟩
    · exact ee.2 b J (by rw [unOwn_ne z]; exact hb)
abbrev zsI (ms : List Nat) : List Int := ms.map fun i => ((i : Nat) : Int)
/-- sorted(xs, key=f), f the def that counts bits -/
theorem ev_sortBits {f : Addr} {ms : List Nat} (h : Ev K Γ ta ρ (Is (zsI ms))) (hz : ∀ m ∈ ms, (bitL m).length ≤ sizeLine) : Ev K Γ (tCKw (rSortBits K f) (tCons ta tNil) (tCons (tC (.ref f)) tNil)) ρ (fun ys : List Int => ∃ ls : List Nat, ys = zsI ls ∧ ls.Perm ms ∧ ls.Pairwise fun x y => pc x ≤ pc y) := fun Δ σ H Q s hh e k =>
  h Δ σ H _ s hh e fun v H1 a pa e1 r => by
    have ea : a = zsI ms := pa
    subst ea
    obtain ⟨p, vs, rfl, n, sq, q⟩ := r
    have ev := all2_int q
    subst ev
    refine ⟨p, ms, rfl, rfl, ?_, hz, fun ls q hp hw hq => k _ _ (zsI ls) ⟨ls, rfl, hp, hw.imp fun h => ?_⟩ (e1.trans (Ext.new e1.2 hq _)) ?_⟩
    · rw [List.map_map] at sq
      exact sq
    · rw [onesI_pc, onesI_pc] at h
      omega
    · have e3 : (ls.map fun n : Nat => V.int n) = (zsI ls).map Flat.val := by
        rw [List.map_map]
        rfl
      rw [e3]
      exact new_lst e1.2 hq (all2_flat _)
/-- list({..}) of a new dict -/
theorem ev_listN {kvs : List (Key × V)} {κ : Type} [Rp κ] [Flat κ] {xs : List κ} (hk : kvs.map (fun kv => kV kv.1) = xs.map Flat.val) (h : EvN K Γ te ρ (ObIs (.dK kvs))) : Ev K Γ (tCB rListD (tCons te tNil)) ρ (Is xs) := fun Δ σ H Q s hh e k =>
  h Δ σ H _ s hh e fun d H1 o io hd nd e1 ho => by
    have eo : o = .dK kvs := io
    subst eo
    refine ⟨d, kvs, rfl, ho, fun q hq => k _ _ xs rfl (e1.trans (Ext.new e1.2 hq _)) (new_lst e1.2 hq ?_)⟩
    rw [hk]
    exact all2_flat xs
/-- f'{n:b}'.count('1') -/
theorem ev_countBits {m : Nat} (hz : (bitL m).length ≤ sizeLine) (h : Ev K Γ te ρ (Is (m : Int))) : Ev K Γ (tBM K "str" (fun x xs H Q => ∃ a b, x = .str a ∧ xs = [.str b] ∧ Q (.int (Txt.count a b)) H) (tFmtB te) (tCons (tC (.str "1")) tNil)) ρ (Is (pc m : Int)) := fun Δ σ H Q s hh e k =>
  h Δ σ H _ s hh e fun v H1 a pa e1 r => by
    have ea : a = (m : Int) := pa
    subst ea
    have ev : v = .int (m : Int) := r
    subst ev
    refine ⟨m, rfl, hz, rfl, _, _, rfl, rfl, k _ H1 (pc m : Int) rfl e1 ?_⟩
    show V.int (onesI m) = V.int (pc m : Int)
    rw [onesI_pc]
end
end Z

set_option Elab.async false
set_option linter.all false
set_option maxRecDepth 100000
set_option maxHeartbeats 2000000
/-! {k: v for a in x if .. for b in y if ..}: the dict comprehension of two clauses (its steps go as the list comprehension's of two clauses in HandS.Comp, with a dict's store in the place of append) -/
namespace Zd
open PySem PySem.Spec PyProof.Rows L2
abbrev DC2 (kx vx a0 b0 a1 b1 : Expr) (c0 c1 : List Expr) (sc : Scope) (ps : Pos) : Expr := .DictComp kx vx [⟨a0, b0, c0, 0⟩, ⟨a1, b1, c1, 0⟩] sc ps
/-- a clause's tests, one behind the other -/
abbrev tests (cs : List Expr) (env : PySem.Env) : Sem Bool := forIn cs true fun c r => if r = true then do let ok ← isTrue c env (eval c env); pure (ForInStep.yield ok) else pure (ForInStep.yield r)
section
variable {P : Program} {w : World} {A : Around} {R : Result → Shared → Prop} {st : Shared} {kx vx a0 b0 a1 b1 : Expr} {c0 c1 : List Expr} {sc : Scope} {ps : Pos} {it : Value} {D : Addr} {env : PySem.Env}
abbrev NB (P : Program) (w : World) (A : Around) (env : PySem.Env) (R : Result → Shared → Prop) : Value → Shared → Prop := notedBy (model P w) A env fun e z => R (.error e) z
theorem outer_turn : compTurn (DC2 kx vx a0 b0 a1 b1 c0 c1 sc ps) 0 it (.ref D) env = (do
      standAt b0.pos
      match ← pyNext it with
      | none => pure (.done .next)
      | some v =>
        letOwnedTupleGo a0 it v
        assign a0 env v
        let ok ← tests c0 env
        if ok then
          let x ← eval b1 env
          standAt b1.pos
          let x ← foldedSetIterable b1 env x
          let _ ← runOwn (.compStart (DC2 kx vx a0 b0 a1 b1 c0 c1 sc ps) 1 (← holding [x] (pyIter x)) (.ref D) env) env
        again (.compLoop (DC2 kx vx a0 b0 a1 b1 c0 c1 sc ps) 0 it (.ref D) env)) := by rfl
theorem inner_turn : compTurn (DC2 kx vx a0 b0 a1 b1 c0 c1 sc ps) 1 it (.ref D) env = (do
      standAt b1.pos
      match ← pyNext it with
      | none => pure (.done .next)
      | some v =>
        letOwnedTupleGo a1 it v
        assign a1 env v
        let ok ← tests c1 env
        if ok then
          (do
            let kv ← eval kx env
            let vv ← holding [kv] (eval vx env)
            standAt { kx.pos with endLine := vx.pos.endLine, endCol := vx.pos.endCol }
            holding [kv, vv] (dictSet D kv vv))
        again (.compLoop (DC2 kx vx a0 b0 a1 b1 c0 c1 sc ps) 1 it (.ref D) env)) := by rfl
/-- the first clause's loop -/
theorem outer_loop (fold : ∀ x, foldedSetIterable b1 env x = pure x) (I : Nat → Shared → Prop)
    (turn : ∀ n z, I n z → wpAny (model P w) A (pyNext it) (fun r z1 => match r with
      | none => R (.ok .next) z1
      | some v => wpAny (model P w) A (letOwnedTupleGo a0 it v) (fun _ z2 => wpAny (model P w) A (assign a0 env v) (fun _ z3 => wpAny (model P w) A (tests c0 env) (fun ok z4 =>
          if ok = true then wpAny (model P w) A (eval b1 env) (fun x z5 => wpAny (model P w) A (pyIter x) (fun it1 z6 =>
            codeAny (model P w) A (.compStart (DC2 kx vx a0 b0 a1 b1 c0 c1 sc ps) 1 it1 (.ref D) env) (fun r z7 => match r with
              | .ok _ => ∃ m, m < n ∧ I m z7
              | .error _ => False) z6) (NB P w A env R) z5) (NB P w A env R) z4
          else ∃ m, m < n ∧ I m z4) (NB P w A env R) z3) (NB P w A env R) z2) (NB P w A env R) z1) (NB P w A env R) z)
    (n : Nat) (h : I n st) : codeAny (model P w) A (.compLoop (DC2 kx vx a0 b0 a1 b1 c0 c1 sc ps) 0 it (.ref D) env) R st := by
  refine codeAny_loop rfl I (fun n z hI => ?_) n h
  show wpAny _ A ((compTurn (DC2 kx vx a0 b0 a1 b1 c0 c1 sc ps) 0 it (.ref D) env).onRaise (fun x => do noteFrame x env; theTreesLotGoes x)) _ _ z
  refine wpAny_noted ?_
  rw [outer_turn]
  have same : ∀ {α : Type} {Q Q' : α → Shared → Prop} {t : Sem α} {z : Shared}, wpAny (model P w) A t Q (NB P w A env R) z → (∀ a y, Q a y → Q' a y) → wpAny (model P w) A t Q' (NB P w A env R) z := fun hh q => wpAny_mono hh q fun _ _ e => e
  refine wpAny_bind (wpAny_standAt (wpAny_bind (same (turn n z hI) fun r z1 h1 => ?_)))
  cases r with
  | none => exact wpAny_pure h1
  | some v =>
    refine wpAny_bind (same h1 fun _ z2 h2 => wpAny_bind (same h2 fun _ z3 h3 => wpAny_bind (same h3 fun ok z4 h4 => ?_)))
    cases ok with
    | false => exact wpAny_pure ⟨rfl, h4⟩
    | true =>
      refine wpAny_bind (same h4 fun x z5 h5 => ?_)
      refine wpAny_bind (wpAny_standAt (wpAny_bind (wpAny_of_eq (fold x) (wpAny_bind (wpAny_holding (same h5 fun it1 z6 h6 => ?_))))))
      refine wpAny_bind (wpAny_runOwn ?_)
      rw [Around.mark_none]
      refine codeAny_mono h6 fun r z7 h7 => ?_
      match r, h7 with
      | .ok _, h7 =>
        first
          | exact wpAny_pure ⟨rfl, h7⟩
          | exact wpAny_bind (wpAny_pure (wpAny_pure ⟨rfl, h7⟩))
      | .error _, h7 => exact h7.elim
/-- the second clause's loop -/
theorem inner_loop (I : Nat → Shared → Prop)
    (turn : ∀ n z, I n z → wpAny (model P w) A (pyNext it) (fun r z1 => match r with
      | none => R (.ok .next) z1
      | some v => wpAny (model P w) A (letOwnedTupleGo a1 it v) (fun _ z2 => wpAny (model P w) A (assign a1 env v) (fun _ z3 => wpAny (model P w) A (tests c1 env) (fun ok z4 =>
          if ok = true then wpAny (model P w) A (eval kx env) (fun kv z5 => wpAny (model P w) A (eval vx env) (fun vv z6 =>
            wpAny (model P w) A (dictSet D kv vv) (fun _ z7 => ∃ m, m < n ∧ I m z7) (NB P w A env R) z6) (NB P w A env R) z5) (NB P w A env R) z4
          else ∃ m, m < n ∧ I m z4) (NB P w A env R) z3) (NB P w A env R) z2) (NB P w A env R) z1) (NB P w A env R) z)
    (n : Nat) (h : I n st) : codeAny (model P w) A (.compLoop (DC2 kx vx a0 b0 a1 b1 c0 c1 sc ps) 1 it (.ref D) env) R st := by
  refine codeAny_loop rfl I (fun n z hI => ?_) n h
  show wpAny _ A ((compTurn (DC2 kx vx a0 b0 a1 b1 c0 c1 sc ps) 1 it (.ref D) env).onRaise (fun x => do noteFrame x env; theTreesLotGoes x)) _ _ z
  refine wpAny_noted ?_
  rw [inner_turn]
  have same : ∀ {α : Type} {Q Q' : α → Shared → Prop} {t : Sem α} {z : Shared}, wpAny (model P w) A t Q (NB P w A env R) z → (∀ a y, Q a y → Q' a y) → wpAny (model P w) A t Q' (NB P w A env R) z := fun hh q => wpAny_mono hh q fun _ _ e => e
  refine wpAny_bind (wpAny_standAt (wpAny_bind (same (turn n z hI) fun r z1 h1 => ?_)))
  cases r with
  | none => exact wpAny_pure h1
  | some v =>
    refine wpAny_bind (same h1 fun _ z2 h2 => wpAny_bind (same h2 fun _ z3 h3 => wpAny_bind (same h3 fun ok z4 h4 => ?_)))
    cases ok with
    | false => exact wpAny_pure ⟨rfl, h4⟩
    | true => exact wpAny_bind (wpAny_bind (same h4 fun kv z5 h5 => wpAny_bind (wpAny_holding (same h5 fun vv z6 h6 => wpAny_bind (wpAny_standAt (wpAny_holding (same h6 fun _ z7 h7 => wpAny_pure ⟨rfl, h7⟩)))))))
/-- the second clause begins -/
theorem inner_start (h0 : codeAny (model P w) A (.compLoop (DC2 kx vx a0 b0 a1 b1 c0 c1 sc ps) 1 it (.ref D) env) R st)
    (h : wpAny (model P w) A (pyIter it) (fun it' z => codeAny (model P w) A (.compLoop (DC2 kx vx a0 b0 a1 b1 c0 c1 sc ps) 1 it' (.ref D) env) R z) (NB P w A env R) st) :
    codeAny (model P w) A (.compStart (DC2 kx vx a0 b0 a1 b1 c0 c1 sc ps) 1 it (.ref D) env) R st := by
  refine codeAny_of_tree ?_
  show wpAny _ _ ((compStart (DC2 kx vx a0 b0 a1 b1 c0 c1 sc ps) 1 it (.ref D) env).onRaise (fun x => do noteFrame x env; standAt theWindowsPlace)) _ _ st
  refine wpAny_notedAt ?_
  unfold compStart
  show wpAny _ _ (ask >>= _) _ _ st
  refine wpAny_bind (wpAny_askSetting (wpAny_ite ?_))
  split
  · first
      | exact wpAny_bind (wpAny_pure (wpAny_pure (And.intro rfl h0)))
      | exact wpAny_pure (And.intro rfl h0)
  · refine wpAny_bind (wpAny_rule ?_)
    show wpAny _ _ (standAt b1.pos >>= _) _ _ st
    exact wpAny_bind (wpAny_standAt (wpAny_bind (wpAny_mono h (fun it' z q => wpAny_pure (And.intro rfl q)) fun _ _ x => x)))
end
section
variable {X : Cx}
/-- the term: behind the first clause's turn the second one's own loop, from which Nx is reached -/
def tDc2 (wi : TI) (g : TG) (tt : TT) (wi1 : TI) (g1 : TG) (tt1 : TT) (tk tv : TE) (vs vs1 : List Nat) : TE := fun σ H Q => wi σ H fun J H1 => ∀ D, H1 D = none → ∃ W : Nat → Nat → Hp → Prop, (∃ m, W 0 m (upd H1 D (.dK []))) ∧ ∀ i m H, W i m H →
  (J.stop i H ∧ Q (.ref D) H) ∨ (J.go i H ∧ ∃ Nx : Hp → Prop, (∀ H', Nx H' → ∃ m', m' < m ∧ W (i + 1) m' H') ∧ ∀ x H', J.yld i H x H' → g x (wipe σ vs) H' fun σ2 H2 => wipe σ2 vs = wipe σ vs ∧ tt σ2 H2 fun b H3 =>
    if b = true then wi1 σ2 H3 fun J1 H4 => ∃ W1 : Nat → Nat → Hp → Prop, (∃ m, W1 0 m H4) ∧ ∀ j k H, W1 j k H →
      (J1.stop j H ∧ Nx H) ∨ (J1.go j H ∧ ∃ Nx1 : Hp → Prop, (∀ H', Nx1 H' → ∃ k', k' < k ∧ W1 (j + 1) k' H') ∧ ∀ x H', J1.yld j H x H' → g1 x (wipe σ2 vs1) H' fun σ3 H5 => wipe σ3 vs1 = wipe σ2 vs1 ∧ tt1 σ3 H5 fun b H6 =>
        if b = true then tk σ3 H6 fun y H7 => tv σ3 H7 fun z H8 => ∃ kvs k, y = kV k ∧ H8 D = some (.dK kvs) ∧ kvs.length < sizeLine ∧ Nx1 (upd H8 D (.dK (putK kvs k z))) else Nx1 H6)
    else Nx H3)
theorem dc2_core {pins : List (Addr × Obj)} {z0 : Shared} {σ : L2.St} {G0 : Hp} {Q : VK} {kx vx a0 b0 a1 b1 : Expr} {c0 c1 : List Expr} {scope : Scope} {own : List (Str × Nat)} {vs1 : List Nat} {pos pos' : Pos} {wi wi1 : TI} {g g1 : TG} {tt tt1 : TT} {tk tv : TE} {use : Option (Value → Sem Unit)} {Qf : Value → Shared → Prop}
    (calm : X.calm = true) (nd : X.N.Nodup) (I0 : Inv X pins σ G0 z0) (hi : PI X a0 b0 wi) (ok : BlkOk X.N X.env.scope scope own) (hv : ∀ i ∈ vs1, i ∈ own.map (·.2))
    (hg : ∀ (z : Shared) (G : Hp) (C : Addr) (cl : List (Str × Addr)) (fp : List Addr), PG (X.blk z G scope (compEnvC scope cl C X.env) fp) a0 g) (ht : ∀ (z : Shared) (G : Hp) (C : Addr) (cl : List (Str × Addr)) (fp : List Addr), PTs (X.blk z G scope (compEnvC scope cl C X.env) fp) c0 tt)
    (hi1 : ∀ (z : Shared) (G : Hp) (C : Addr) (cl : List (Str × Addr)) (fp : List Addr), PI (X.blk z G scope (compEnvC scope cl C X.env) fp) a1 b1 wi1)
    (hg1 : ∀ (z : Shared) (G : Hp) (C : Addr) (cl : List (Str × Addr)) (fp : List Addr), PG (X.blk z G scope (compEnvC scope cl C X.env) fp) a1 g1)
    (ht1 : ∀ (z : Shared) (G : Hp) (C : Addr) (cl : List (Str × Addr)) (fp : List Addr), PTs (X.blk z G scope (compEnvC scope cl C X.env) fp) c1 tt1)
    (hk : ∀ (z : Shared) (G : Hp) (C : Addr) (cl : List (Str × Addr)) (fp : List Addr), PE (X.blk z G scope (compEnvC scope cl C X.env) fp) kx tk)
    (he : ∀ (z : Shared) (G : Hp) (C : Addr) (cl : List (Str × Addr)) (fp : List Addr), PE (X.blk z G scope (compEnvC scope cl C X.env) fp) vx tv)
    (hs : ∀ x, foldedSetIterable b0 X.env x = pure x) (hs1 : ∀ env x, foldedSetIterable b1 env x = pure x)
    (h : tDc2 wi g tt wi1 g1 tt1 tk tv (own.map (·.2)) vs1 σ G0 Q)
    (back : ∀ D C z m G, Inv X pins σ G z → Q (.ref D) G → z.heap.Ns C m → FpOk X pins G C → compPost (model X.prog X.w) X.A X.xe use Qf (.ref D) C (.ok .next) z) :
    wpAny (model X.prog X.w) X.A (comprehension (DC2 kx vx a0 b0 a1 b1 c0 c1 scope pos) scope X.env pos' newDict false (eval b0 X.env) use) Qf X.xe z0 := by
  have hfree : ∀ y ∈ scope.names, y.2 = .free → ∃ c, X.env.cells.lookup y.1 = some c := fun y hy e => (ok.free y hy e).elim (fun k => I0.ok.has _ (.inl k)) fun k => I0.ok.has _ (.inr k)
  refine wpAny_comprehension_free (use := use) rfl hs (closure_ok hfree) ok.kind (fun y hy e => by rw [ok.uniq y hy, e]) (thn (hi.run pins z0 σ G0 _ I0 h) fun xv z1 hx => thn hx fun itv z2 h2 => ?_)
  obtain ⟨it, fp, tn, J, G2, e, I2, T, st2, f2, q⟩ := h2
  subst e
  refine wpAny_newObj_type (newEnv_comp ?_)
  generalize hD : z2.heap.objs.size = D
  obtain ⟨W, ⟨m0, w0⟩, turn⟩ := q D (I2.hok.fresh (Nat.le_of_eq hD))
  -- the dict that is made
  generalize hz3 : ({ z2 with heap := z2.heap.push { cls := .type "dict", data := .dict #[] } } : Shared) = z3
  have I3 : Inv X pins σ (upd G2 D (.dK [])) z3 := by
    rw [← hz3]
    refine I2.laid (t' := z2.toks) (fun b o e => Heap.get?_push_of_some _ e) (Nat.le_of_eq hD) ?_
    rw [← hD]
    exact dk_empty z2.heap I2.big
  have h3 : z3.heap = z2.heap.push { cls := .type "dict", data := .dict #[] } := by rw [← hz3]
  have low : ∀ b ∈ fp, b < z2.heap.objs.size := fun b hb => let ⟨_, e, _⟩ := T.obj _ _ st2 b hb; Heap.lt_size e
  have f3 : ∀ b ∈ fp, FpOk X pins (upd G2 D (.dK [])) b ∧ b < z3.heap.objs.size := fun b hb => by
    have hlt := low b hb
    have hne : b ≠ D := by rw [← hD]; exact Nat.ne_of_lt hlt
    exact ⟨⟨by rw [upd_ne hne]; exact (f2 b hb).1, (f2 b hb).2⟩, by rw [h3, Heap.size_push]; exact Nat.lt_succ_of_lt hlt⟩
  have st3 : tn 0 z3.heap := T.keep _ _ _ st2 fun b _ o e => by rw [h3]; exact Heap.get?_push_of_some _ e
  have I4 := block_start I3 ok nd f3
  have pg := hg z3 (upd G2 D (.dK [])) z3.heap.objs.size (cellsFrom (z3.heap.objs.size + 1) scope.names (cloFrom X.env.cells scope.names [])) fp
  have pt := ht z3 (upd G2 D (.dK [])) z3.heap.objs.size (cellsFrom (z3.heap.objs.size + 1) scope.names (cloFrom X.env.cells scope.names [])) fp
  have pi1 := hi1 z3 (upd G2 D (.dK [])) z3.heap.objs.size (cellsFrom (z3.heap.objs.size + 1) scope.names (cloFrom X.env.cells scope.names [])) fp
  have pg1 := hg1 z3 (upd G2 D (.dK [])) z3.heap.objs.size (cellsFrom (z3.heap.objs.size + 1) scope.names (cloFrom X.env.cells scope.names [])) fp
  have pt1 := ht1 z3 (upd G2 D (.dK [])) z3.heap.objs.size (cellsFrom (z3.heap.objs.size + 1) scope.names (cloFrom X.env.cells scope.names [])) fp
  have pk := hk z3 (upd G2 D (.dK [])) z3.heap.objs.size (cellsFrom (z3.heap.objs.size + 1) scope.names (cloFrom X.env.cells scope.names [])) fp
  have pe := he z3 (upd G2 D (.dK [])) z3.heap.objs.size (cellsFrom (z3.heap.objs.size + 1) scope.names (cloFrom X.env.cells scope.names [])) fp
  show codeAny _ _ (.compStart (DC2 kx vx a0 b0 a1 b1 c0 c1 scope pos) 0 (.ref it) (.ref D) (compEnvC scope (cellsFrom (z3.heap.objs.size + 1) scope.names (cloFrom X.env.cells scope.names [])) z3.heap.objs.size X.env)) (compPost (model X.prog X.w) X.A X.xe use Qf (.ref D) z3.heap.objs.size) { z3 with heap := pushCells (z3.heap.push { cls := .type "dict", data := .dict #[] }) scope.names }
  have nfp : ∀ b ∈ fp, (upd G2 D (.dK [])) b = none := fun b hb => (f3 b hb).1.1
  generalize hce : compEnvC scope (cellsFrom (z3.heap.objs.size + 1) scope.names (cloFrom X.env.cells scope.names [])) z3.heap.objs.size X.env = ce at I4 pg pt pi1 pg1 pt1 pk pe ⊢
  have cL : ce.locals = z3.heap.objs.size := by subst hce; rfl
  generalize hG3 : upd G2 D (.dK []) = G3 at I3 I4 pg pt pi1 pg1 pt1 pk pe w0 nfp f3
  generalize hz4 : ({ z3 with heap := pushCells (z3.heap.push { cls := .type "dict", data := .dict #[] }) scope.names } : Shared) = z4 at I4 ⊢
  have st4 : tn 0 z4.heap := T.keep _ _ _ st3 fun b _ o e => by rw [← hz4]; exact pushCells_keeps _ _ _ _ (Heap.get?_push_of_some _ e)
  have stat : ∀ {σ' : L2.St} {G : Hp} {z : Shared}, Inv (X.blk z3 G3 scope ce fp) [] σ' G z → (∀ b ∈ fp, G b = none) → ∀ b ∈ fp, FpOk (X.blk z3 G3 scope ce fp) [] G b := fun {σ' G z} I' hn b hb =>
    ⟨hn b hb, (I'.ok.exf b hb).1, I'.ok.exfs b hb, .inl hb, fun x c e => (I'.ok.exf b hb).2 x c e, fun p hp => absurd (show p ∈ ([] : List (Addr × Obj)) ++ [] from hp) (by simp)⟩
  have loop : codeAny (model X.prog X.w) X.A (.compLoop (DC2 kx vx a0 b0 a1 b1 c0 c1 scope pos) 0 (.ref it) (.ref D) ce) (compPost (model X.prog X.w) X.A X.xe use Qf (.ref D) z3.heap.objs.size) z4 := by
    refine outer_loop (hs1 ce) (fun n z => ∃ i G, Inv (X.blk z3 G3 scope ce fp) [] (wipe σ (own.map (·.2))) G z ∧ tn i z.heap ∧ (∀ b ∈ fp, G b = none) ∧ W i n G) ?_ m0 ⟨0, G3, I4, st4, nfp, w0⟩
    rintro n z5 ⟨i, G5, I5, st5, n5, w5⟩
    rcases turn i n G5 w5 with ⟨stop, qq⟩ | ⟨go, Nx, hNx, step⟩
    · refine thnF (T.done (X.blk z3 G3 scope ce fp) rfl rfl rfl calm i [] z5 _ G5 (fun _ _ => False) I5 (stat I5 n5) st5 stop) fun r z6 ⟨hr, I6⟩ => ?_
      subst hr
      have I7 : Inv X pins σ G5 z6 := I3.call' (ch := fp) I6.os I6.base I6.hok I6.bare fun b hb => ⟨(f3 b hb).1.2.2.2.1, (f3 b hb).1.2.1, (f3 b hb).1.2.2.2.2.1, (f3 b hb).1.2.2.2.2.2⟩
      have nC : G5 z3.heap.objs.size = none := by rw [← cL]; exact I6.free
      obtain ⟨m, hn, _⟩ := I6.loc
      have hn' : z6.heap.Ns z3.heap.objs.size m := by rw [← cL]; exact hn
      exact back D z3.heap.objs.size z6 m G5 I7 qq hn' (I3.fpOk (Nat.le_refl _) nC)
    · refine thnF (T.item (X.blk z3 G3 scope ce fp) rfl rfl rfl calm i [] z5 _ G5 (fun _ _ => False) I5 (stat I5 n5) st5 go) fun r z6 ⟨u, hr, h6⟩ => ?_
      subst hr
      refine thnF h6 fun _ z7 ⟨x, G7, I7, r7, y7, st7, n7⟩ => ?_
      refine thnF (pg.run _ z7 _ G7 x u _ (I7.pinned (stat I7 n7) (T.obj _ _ st7)) r7 (step x G7 y7)) fun _ z8 ⟨σ8, G8, I8, hw8, q8⟩ => ?_
      refine thnF (pt.run _ z8 σ8 G8 _ I8 q8) fun b z9 ⟨G9, I9, q9⟩ => ?_
      -- how a turn ends
      have fin : ∀ {σ9 : L2.St} {z : Shared} {G : Hp}, Inv (X.blk z3 G3 scope ce fp) ([] ++ pinsAt fp z7.heap) σ9 G z → (wipe σ (own.map (·.2))).length = σ9.length → (∀ (j : Nat) v, (wipe σ (own.map (·.2)))[j]? = some (some v) → σ9[j]? = some (some v)) → Nx G →
          ∃ m, m < n ∧ ∃ i G, Inv (X.blk z3 G3 scope ce fp) [] (wipe σ (own.map (·.2))) G z ∧ tn i z.heap ∧ (∀ b ∈ fp, G b = none) ∧ W i m G := fun {σ9 z G} I' hl hk nx => by
        obtain ⟨m', hm, w'⟩ := hNx G nx
        have kept : ∀ b ∈ fp, ∀ o, z7.heap.get? b = some o → z.heap.get? b = some o ∧ G b = none := fun b hb o e =>
          let y := I'.pin (b, o) (List.mem_append_right _ (List.mem_append_right _ (mem_pinsAt hb e)))
          ⟨y.1, y.2.1⟩
        exact ⟨m', hm, i + 1, G, (I'.unpinned (pins := [])).weak hl hk, T.keep _ _ _ st7 fun b hb o e => (kept b hb o e).1, fun b hb => let ⟨o, e, _⟩ := T.obj _ _ st7 b hb; (kept b hb o e).2, w'⟩
      have hl8 : (wipe σ (own.map (·.2))).length = σ8.length := by rw [← hw8, wipe_length]
      have hk8 : ∀ (j : Nat) v, (wipe σ (own.map (·.2)))[j]? = some (some v) → σ8[j]? = some (some v) := fun j v e => by
        rw [← hw8] at e
        exact (wipe_some e).1
      have hk9 : ∀ (j : Nat) v, (wipe σ (own.map (·.2)))[j]? = some (some v) → (wipe σ8 vs1)[j]? = some (some v) := fun j v e => by
        rw [← hw8] at e
        obtain ⟨e1, e2⟩ := wipe_some e
        rw [wipe_out fun y => e2 (hv j y)]
        exact e1
      cases b with
      | false =>
        rw [if_neg Bool.false_ne_true] at q9 ⊢
        exact fin I9 hl8 hk8 q9
      | true =>
        rw [if_pos rfl] at q9 ⊢
        refine thnF (pi1.run _ z9 σ8 G9 _ I9 q9) fun xv z10 hx => thnF hx fun itv z11 h11 => ?_
        obtain ⟨it1, fp1, tn1, J1, G11, e1, I11, T1, st11, f11, W1, ⟨m1, w1⟩, turn1⟩ := h11
        subst e1
        have stat1 : ∀ {G : Hp}, (∀ b ∈ fp1, G b = none) → ∀ b ∈ fp1, FpOk (X.blk z3 G3 scope ce fp) ([] ++ pinsAt fp z7.heap) G b := fun hn b hb => ⟨hn b hb, (f11 b hb).2⟩
        have loop1 : codeAny (model X.prog X.w) X.A (.compLoop (DC2 kx vx a0 b0 a1 b1 c0 c1 scope pos) 1 (.ref it1) (.ref D) ce)
            (fun r z => match r with
              | .ok _ => ∃ m, m < n ∧ ∃ i G, Inv (X.blk z3 G3 scope ce fp) [] (wipe σ (own.map (·.2))) G z ∧ tn i z.heap ∧ (∀ b ∈ fp, G b = none) ∧ W i m G
              | .error _ => False) z11 := by
          refine inner_loop (fun k z => ∃ j G, Inv (X.blk z3 G3 scope ce fp) ([] ++ pinsAt fp z7.heap) (wipe σ8 vs1) G z ∧ tn1 j z.heap ∧ (∀ b ∈ fp1, G b = none) ∧ W1 j k G) ?_ m1 ⟨0, G11, I11.weak (wipe_length _ _) (fun j v e => (wipe_some e).1), st11, fun b hb => (f11 b hb).1, w1⟩
          rintro k z12 ⟨j, G12, I12, st12, n12, w12⟩
          rcases turn1 j k G12 w12 with ⟨stop1, nx1⟩ | ⟨go1, Nx1, hNx1, step1⟩
          · refine thnF (T1.done (X.blk z3 G3 scope ce fp) rfl rfl rfl calm j _ z12 (wipe σ8 vs1) G12 (fun _ _ => False) I12 (stat1 n12) st12 stop1) fun r z13 ⟨hr, I13⟩ => ?_
            subst hr
            exact fin I13 (hl8.trans (wipe_length σ8 vs1).symm) hk9 nx1
          · refine thnF (T1.item (X.blk z3 G3 scope ce fp) rfl rfl rfl calm j _ z12 (wipe σ8 vs1) G12 (fun _ _ => False) I12 (stat1 n12) st12 go1) fun r z13 ⟨u1, hr, h13⟩ => ?_
            subst hr
            refine thnF h13 fun _ z14 ⟨x1, G14, I14, r14, y14, st14, n14⟩ => ?_
            refine thnF (pg1.run _ z14 (wipe σ8 vs1) G14 x1 u1 _ (I14.pinned (stat1 n14) (T1.obj _ _ st14)) r14 (step1 x1 G14 y14)) fun _ z15 ⟨σ15, G15, I15, hw15, q15⟩ => ?_
            refine thnF (pt1.run _ z15 σ15 G15 _ I15 q15) fun b1 z16 ⟨G16, I16, q16⟩ => ?_
            have fin1 : ∀ {z : Shared} {G : Hp}, Inv (X.blk z3 G3 scope ce fp) (([] ++ pinsAt fp z7.heap) ++ pinsAt fp1 z14.heap) σ15 G z → Nx1 G → ∃ m, m < k ∧ ∃ j G, Inv (X.blk z3 G3 scope ce fp) ([] ++ pinsAt fp z7.heap) (wipe σ8 vs1) G z ∧ tn1 j z.heap ∧ (∀ b ∈ fp1, G b = none) ∧ W1 j m G := fun {z G} I' nx => by
              obtain ⟨m', hm, w'⟩ := hNx1 G nx
              have kept : ∀ b ∈ fp1, ∀ o, z14.heap.get? b = some o → z.heap.get? b = some o ∧ G b = none := fun b hb o e =>
                let y := I'.pin (b, o) (List.mem_append_right _ (List.mem_append_right _ (mem_pinsAt hb e)))
                ⟨y.1, y.2.1⟩
              exact ⟨m', hm, j + 1, G, I'.unpinned.weak (by rw [← hw15, wipe_length]) (fun j v e => by rw [← hw15] at e; exact (wipe_some e).1), T1.keep _ _ _ st14 fun b hb o e => (kept b hb o e).1, fun b hb => let ⟨o, e, _⟩ := T1.obj _ _ st14 b hb; (kept b hb o e).2, w'⟩
            cases b1 with
            | false =>
              rw [if_neg Bool.false_ne_true] at q16 ⊢
              exact fin1 I16 q16
            | true =>
              rw [if_pos rfl] at q16 ⊢
              refine thnF (pk.run _ z16 σ15 G16 _ I16 q16) fun kv z17 ⟨yk, G17, I17, r17, q17⟩ => ?_
              refine thnF (pe.run _ z17 σ15 G17 _ I17 q17) fun vv z18 ⟨yv, G18, I18, r18, kvs, ky, ek, hD18, hz18, nx⟩ => ?_
              subst ek
              exact d_dictSet (X := X.blk z3 G3 scope ce fp) I18 hD18 hz18 r17 r18 fun z19 I19 => fin1 I19 nx
        exact inner_start loop1 (T1.self X.A 0 _ _ _ st11 loop1)
  exact codeAny_compStart_dict loop (T.self X.A 0 _ _ _ st4 loop)
/-- as a value -/
theorem pe_dc2 {kx vx a0 b0 a1 b1 : Expr} {c0 c1 : List Expr} {scope : Scope} {own : List (Str × Nat)} {vs1 : List Nat} {pos : Pos} {wi wi1 : TI} {g g1 : TG} {tt tt1 : TT} {tk tv : TE} (calm : X.calm = true) (nd : X.N.Nodup) (hi : PI X a0 b0 wi) (ok : BlkOk X.N X.env.scope scope own) (hv : ∀ i ∈ vs1, i ∈ own.map (·.2))
    (hg : ∀ (z : Shared) (G : Hp) (C : Addr) (cl : List (Str × Addr)) (fp : List Addr), PG (X.blk z G scope (compEnvC scope cl C X.env) fp) a0 g) (ht : ∀ (z : Shared) (G : Hp) (C : Addr) (cl : List (Str × Addr)) (fp : List Addr), PTs (X.blk z G scope (compEnvC scope cl C X.env) fp) c0 tt)
    (hi1 : ∀ (z : Shared) (G : Hp) (C : Addr) (cl : List (Str × Addr)) (fp : List Addr), PI (X.blk z G scope (compEnvC scope cl C X.env) fp) a1 b1 wi1)
    (hg1 : ∀ (z : Shared) (G : Hp) (C : Addr) (cl : List (Str × Addr)) (fp : List Addr), PG (X.blk z G scope (compEnvC scope cl C X.env) fp) a1 g1)
    (ht1 : ∀ (z : Shared) (G : Hp) (C : Addr) (cl : List (Str × Addr)) (fp : List Addr), PTs (X.blk z G scope (compEnvC scope cl C X.env) fp) c1 tt1)
    (hk : ∀ (z : Shared) (G : Hp) (C : Addr) (cl : List (Str × Addr)) (fp : List Addr), PE (X.blk z G scope (compEnvC scope cl C X.env) fp) kx tk)
    (he : ∀ (z : Shared) (G : Hp) (C : Addr) (cl : List (Str × Addr)) (fp : List Addr), PE (X.blk z G scope (compEnvC scope cl C X.env) fp) vx tv)
    (hs : ∀ x, foldedSetIterable b0 X.env x = pure x := by intro _; rfl) (hs1 : ∀ env x, foldedSetIterable b1 env x = pure x := by intro _ _; rfl) :
    PE X (DC2 kx vx a0 b0 a1 b1 c0 c1 scope pos) (tDc2 wi g tt wi1 g1 tt1 tk tv (own.map (·.2)) vs1) := by
  refine ⟨fun pins z0 σ G0 Q I q0 => ?_⟩
  rw [arm_eval_DictComp]
  refine dc2_core calm nd I hi ok hv hg ht hi1 hg1 ht1 hk he hs hs1 q0 fun D C z m G I' q hn f => ⟨m, hn, fun h'' sb => ?_⟩
  obtain ⟨f0, f1, f2, f3, f4, f5⟩ := f
  exact ⟨.ref D, G, I'.turned (t' := z.toks) (fun b o hb e => (sb.2 b hb).trans e) f0 f1 f3 f4 f5, rfl, q⟩
end
end Zd

set_option Elab.async false
set_option linter.all false
set_option maxRecDepth 100000
set_option maxHeartbeats 1000000
/-! on data: {k: v for .. for ..}; the items of a locked dict; a dict that is locked once it is told -/
namespace Z
open PySem PySem.Spec PyProof.Rows L2 Zd
section
variable {K : PySem.W.Frag} {Γ : Own} {ρ : Z.Env} {tk tv te ta : TE}
theorem en_dc2 {wi wi1 : TI} {g g1 : TG} {js js1 vs vs1 : List Nat} {n : Nat} {m : Nat → Nat} {st : Nat → Z.Env → Z.Env} {st1 : Nat → Nat → Z.Env → Z.Env} {κ ν : Type} [Rp κ] [Flat κ] [Rp ν] [Flat ν] (A : Nat → Nat → List (Key × V)) (h0 : A 0 0 = []) (hz : ∀ i j, i < n → j < m i → (A i j).length ≤ 50000)
    (S : Src K Γ wi g ρ js n st) (hjs : ∀ j ∈ js, j ∈ vs) (S1 : ∀ i, i < n → Src K Γ wi1 g1 (st i (wipeE ρ vs)) js1 (m i) (st1 i)) (hjs1 : ∀ j ∈ js1, j ∈ vs1)
    (hs : ∀ i j, i < n → j < m i → ∃ (x : κ) (y : ν) (k : Key), kV k = Flat.val x ∧ Ev K Γ tk (st1 i j (wipeE (st i (wipeE ρ vs)) vs1)) (Is x) ∧ Ev K Γ tv (st1 i j (wipeE (st i (wipeE ρ vs)) vs1)) (Is y) ∧ A i (j + 1) = putK (A i j) k (Flat.val y))
    (hn : ∀ i, i < n → A (i + 1) 0 = A i (m i)) : EvN K Γ (tDc2 wi g tYes wi1 g1 tYes tk tv vs vs1) ρ (ObIs (.dK (A n 0))) := fun Δ σ H Q s hh e k => S Δ σ H _ s hh e fun J H1 pv pc e1 rp0 hgo hyld => fun D hD => by
  have nD : Δ D = none := e1.2.fresh hD
  have eW : EnvOk K Δ (wipe σ vs) H1 (wipeE ρ vs) := (e.mono e1.1).wipe vs
  have kp : Keep (ghI Δ D (ObIs (.dK []))) H1 (upd H1 D (.dK [])) := fun a o _ q => by rw [upd_ne (ne_of_none q hD)]; exact q
  have W0 : DW K Δ H1 D pv pc (wipe σ vs) (wipeE ρ vs) (.dK (A 0 0)) (upd H1 D (.dK [])) := by
    rw [h0]
    exact ⟨ghI_hold (fun a J _ h => e1.2 a J h) rfl, fun a o ha n h => by rw [upd_ne ha]; exact h, pc.r.mono kp (pc.r.weak (ghI_new hD) rp0), (eW.weak (ghI_new hD)).mono kp⟩
  have wl : (wipeE ρ vs).length = ρ.length := by
    rw [← eW.1, wipe_length]
    exact e.1
  have sD : ∀ o, Sat Γ (ghI Δ D (ObIs o)) := fun o q hq => ghI_sat s nD q (List.mem_cons_of_mem _ hq)
  have hDH : H D = none := Ext.back hh e1 hD
  refine ⟨fun i t H2 => t = n - i ∧ i ≤ n ∧ DW K Δ H1 D pv pc (wipe σ vs) (wipeE ρ vs) (.dK (A i 0)) H2, ⟨n, by simp, Nat.zero_le _, W0⟩, ?_⟩
  rintro i t H2 ⟨rfl, hi, c⟩
  have hg := hgo _ H2 c.src
  by_cases hlt : i < n
  · refine .inr ⟨hg.1 i hlt, fun H3 => DW K Δ H1 D pv pc (wipe σ vs) (wipeE ρ vs) (.dK (A (i + 1) 0)) H3, fun H' c' => ⟨n - (i + 1), by omega, rfl, hlt, c'⟩, fun x H3 hy => ?_⟩
    obtain ⟨e3, hput⟩ := hyld _ i H2 x H3 hlt c.hold c.src hy
    have c3 := c.next e3
    refine hput (wipe σ vs) (wipeE ρ vs) _ wl c3.env fun σ2 env2 hl2 hoff => ⟨wipe_off (by rw [hl2, wipe_length]) hjs hoff, ?_⟩
    change wi1 σ2 H3 _
    refine S1 i hlt _ σ2 H3 _ (sD _) e3.2 env2 fun J1 H4 pv1 pc1 e4 rp1 hgo1 hyld1 => ?_
    have c4 := c3.next e4
    have env4 := (env2.mono e4.1).wipe vs1
    have wl1 : (wipeE (st i (wipeE ρ vs)) vs1).length = (st i (wipeE ρ vs)).length := by
      rw [← env4.1, wipe_length]
      exact env2.1
    have d4 : DW K Δ H1 D pv1 pc1 (wipe σ2 vs1) (wipeE (st i (wipeE ρ vs)) vs1) (.dK (A i 0)) H4 := ⟨c4.hold, c4.keep, rp1, env4⟩
    refine ⟨fun j t H5 => t = m i - j ∧ j ≤ m i ∧ DW K Δ H1 D pv pc (wipe σ vs) (wipeE ρ vs) (.dK (A i j)) H5 ∧ DW K Δ H1 D pv1 pc1 (wipe σ2 vs1) (wipeE (st i (wipeE ρ vs)) vs1) (.dK (A i j)) H5, ⟨m i, by simp, Nat.zero_le _, c4, d4⟩, ?_⟩
    rintro j t H5 ⟨rfl, hj, c5, d5⟩
    have hg1 := hgo1 _ H5 d5.src
    by_cases hlt1 : j < m i
    · refine .inr ⟨hg1.1 j hlt1, fun H6 => DW K Δ H1 D pv pc (wipe σ vs) (wipeE ρ vs) (.dK (A i (j + 1))) H6 ∧ DW K Δ H1 D pv1 pc1 (wipe σ2 vs1) (wipeE (st i (wipeE ρ vs)) vs1) (.dK (A i (j + 1))) H6, fun H' ⟨c', d'⟩ => ⟨m i - (j + 1), by omega, rfl, hlt1, c', d'⟩, fun x1 H6 hy1 => ?_⟩
      obtain ⟨e6, hput1⟩ := hyld1 _ j H5 x1 H6 hlt1 d5.hold d5.src hy1
      have c6 := c5.next e6
      have d6 := d5.next e6
      refine hput1 (wipe σ2 vs1) (wipeE (st i (wipeE ρ vs)) vs1) _ wl1 d6.env fun σ3 env3 hl3 hoff3 => ⟨wipe_off (by rw [hl3, wipe_length]) hjs1 hoff3, ?_⟩
      obtain ⟨x0, y0, k0, hk0, hkx, hvy, hA⟩ := hs i j hlt hlt1
      change tk σ3 H6 _
      refine hkx _ σ3 H6 _ (sD _) e6.2 env3 fun y H7 a pa e7 r7 => ?_
      refine hvy _ σ3 H7 _ (sD _) e7.2 (env3.mono e7.1) fun z H8 b pb e8 r8 => ?_
      have ea : a = x0 := pa
      have eb : b = y0 := pb
      subst ea eb
      have c8 := (c6.next e7).next e8
      have d8 := (d6.next e7).next e8
      refine ⟨A i j, k0, by rw [Flat.iff.mp r7, hk0], ghI_exact c8.hold, Nat.lt_of_le_of_lt (hz i j hlt hlt1) (by decide), ?_, ?_⟩
      · rw [Flat.iff.mp r8, ← hA]
        exact c8.put
      · rw [Flat.iff.mp r8, ← hA]
        exact d8.put
    · have ej : j = m i := by omega
      subst ej
      refine .inl ⟨hg1.2, ?_⟩
      rw [hn i hlt]
      exact c5
  · have ei : i = n := by omega
    subst ei
    refine .inl ⟨hg.2, k D H2 _ rfl hDH nD ⟨fun a o na h => ?_, fun a J h => ?_⟩ (ghI_exact c.hold)⟩
    · have h1 := e1.1 a o na h
      exact c.keep a o (ne_of_none h1 hD) na h1
    · have hne : a ≠ D := fun z => by
        rw [z, nD] at h
        cases h
      exact c.hold a J (by rw [ghI_other hne]; exact h)
/-- the items of a locked dict, each to two names -/
theorem src_items {ja jb : Nat} {d : Addr} {kvs : List (Key × V)} {κ ν : Type} [Rp κ] [Flat κ] [Rp ν] [Flat ν] {x0 : Nat → κ} {y0 : Nat → ν} (h : Ev K Γ te ρ (Is (⟨d, .dK kvs⟩ : Fz))) (hx : ∀ i, i < kvs.length → ∃ k, kvs[i]? = some (k, Flat.val (y0 i)) ∧ kV k = Flat.val (x0 i)) (hja : ja < ρ.length) (hjb : jb < ρ.length) :
    Src K Γ (iItems te) (gTup K 2 (gCons (gName ja) (gCons (gName jb) gNil))) ρ [ja, jb] kvs.length (fun i ρ => (ρ.set ja (some ⟨x0 i⟩)).set jb (some ⟨y0 i⟩)) := fun Δ σ H R s hh e k =>
  h Δ σ H _ s hh e fun v H' a pa e1 r => by
    have ea : a = ⟨d, .dK kvs⟩ := pa
    subst ea
    obtain ⟨ev, n, od, hd⟩ := id r
    refine ⟨d, od, kvs, ev, hd, k _ H' v ⟨(⟨d, .dK kvs, od⟩ : Fzo)⟩ e1 ⟨ev, n, hd⟩ (fun Δ' H2 r2 => ?_) fun Δ' i H2 x H3 hi h2 r2 y => ?_⟩
    · obtain ⟨_, _, hd2⟩ := (show Rp.rp K Δ' H2 v (⟨d, .dK kvs, od⟩ : Fzo) from r2)
      exact ⟨fun i hi => ⟨hd2, hi⟩, hd2, Nat.le_refl _⟩
    · obtain ⟨T, kk, vv, hkv, rfl, hT, e3⟩ := (show ∃ T kk vv, kvs[i]? = some (kk, vv) ∧ x = .ref T ∧ H2 T = none ∧ H3 = upd H2 T (.tup [kV kk, vv]) from by
        obtain ⟨q, kk, vv, hkv, ex, hq, e3⟩ := y
        exact ⟨q, kk, vv, hkv, ex, hq, e3⟩)
      obtain ⟨k2, hk2, ek2⟩ := hx i hi
      have e4 := Prod.mk.inj (Option.some.inj (hkv.symm.trans hk2))
      have ek3 : kV kk = Flat.val (x0 i) := by rw [e4.1]; exact ek2
      have ev3 : vv = Flat.val (y0 i) := e4.2
      subst ev3
      refine ⟨by rw [e3]; exact Ext.new h2 hT _, fun σ' ρ' Qs hl e' q => ?_⟩
      exact pair_put (ca := ⟨x0 i⟩) (cb := ⟨y0 i⟩) e3 (show Rp.rp K Δ' H3 (kV kk) (x0 i) from Flat.iff.mpr ek3) (show Rp.rp K Δ' H3 _ (y0 i) from Flat.iff.mpr rfl) (by rw [hl]; exact hja) (by rw [hl]; exact hjb) e' q
end
end Z
namespace L2
open PySem PySem.Spec PyProof.Rows Zd
section
variable {X : Cx}
/-- y = {k: v for .. for ..}, y a plain local name -/
theorem ps_setDc2 {i : Nat} {y : Str} {py : Pos} {kx vx a0 b0 a1 b1 : Expr} {c0 c1 : List Expr} {scope : Scope} {own : List (Str × Nat)} {vs1 : List Nat} {pos spos : Pos} {wi wi1 : TI} {g g1 : TG} {tt tt1 : TT} {tk tv : TE} (calm : X.calm = true) (nd : X.N.Nodup) (hy : X.N[i]? = some y) (hyl : X.env.scope.names.lookup y = some .local)
    (hsw : swapsWith (DC2 kx vx a0 b0 a1 b1 c0 c1 scope pos) (some (.Name y py)) spos.line X.env = pure true) (hi : PI X a0 b0 wi) (ok : BlkOk X.N X.env.scope scope own) (hv : ∀ i ∈ vs1, i ∈ own.map (·.2))
    (hg : ∀ (z : Shared) (G : Hp) (C : Addr) (cl : List (Str × Addr)) (fp : List Addr), PG (X.blk z G scope (compEnvC scope cl C X.env) fp) a0 g) (ht : ∀ (z : Shared) (G : Hp) (C : Addr) (cl : List (Str × Addr)) (fp : List Addr), PTs (X.blk z G scope (compEnvC scope cl C X.env) fp) c0 tt)
    (hi1 : ∀ (z : Shared) (G : Hp) (C : Addr) (cl : List (Str × Addr)) (fp : List Addr), PI (X.blk z G scope (compEnvC scope cl C X.env) fp) a1 b1 wi1)
    (hg1 : ∀ (z : Shared) (G : Hp) (C : Addr) (cl : List (Str × Addr)) (fp : List Addr), PG (X.blk z G scope (compEnvC scope cl C X.env) fp) a1 g1)
    (ht1 : ∀ (z : Shared) (G : Hp) (C : Addr) (cl : List (Str × Addr)) (fp : List Addr), PTs (X.blk z G scope (compEnvC scope cl C X.env) fp) c1 tt1)
    (hk : ∀ (z : Shared) (G : Hp) (C : Addr) (cl : List (Str × Addr)) (fp : List Addr), PE (X.blk z G scope (compEnvC scope cl C X.env) fp) kx tk)
    (he : ∀ (z : Shared) (G : Hp) (C : Addr) (cl : List (Str × Addr)) (fp : List Addr), PE (X.blk z G scope (compEnvC scope cl C X.env) fp) vx tv)
    (hs : ∀ x, foldedSetIterable b0 X.env x = pure x := by intro _; rfl) (hs1 : ∀ env x, foldedSetIterable b1 env x = pure x := by intro _ _; rfl) :
    PS X (.Assign [.Name y py] (DC2 kx vx a0 b0 a1 b1 c0 c1 scope pos) spos) (tAsg (tDc2 wi g tt wi1 g1 tt1 tk tv (own.map (·.2)) vs1) (gName i)) := by
  refine ⟨fun pins z0 σ G0 D I q => ?_⟩
  have q0 : tDc2 wi g tt wi1 g1 tt1 tk tv (own.map (·.2)) vs1 σ G0 (fun x G1 => gName i x σ G1 D.nx) := q
  rw [exec_Assign_Name_used _ _ _ _ hsw]
  refine wpAny_bind (wpAny_standAt (wpAny_bind ?_))
  show wpAny _ X.A (do let _ ← comprehension (DC2 kx vx a0 b0 a1 b1 c0 c1 scope pos) scope X.env (firstIterPos [⟨a0, b0, c0, 0⟩, ⟨a1, b1, c1, 0⟩] pos) newDict false (eval b0 X.env) (some (assign (.Name y py) X.env))) _ _ z0
  refine wpAny_bind (thn (dc2_core (Qf := fun _ z => SP X pins D .next z) calm nd I hi ok hv hg ht hi1 hg1 ht1 hk he hs hs1 q0 fun L C z m G I' q2 hn f => ?_) fun _ z e => wpAny_pure (wpAny_pure e))
  obtain ⟨f0, f1, f2, f3, f4, f5⟩ := f
  show wpAny _ _ (assign (.Name y py) X.env (.ref L)) _ _ _
  refine wpAny_assign_Name (store_ok2 (v := V.ref L) I' nd hy (.inl hyl) rfl (fun z2 I2 ⟨a, sb, ha⟩ => ?_) (.inr hyl))
  have hne : C ≠ a := ha.elim (fun e => by rw [e]; exact f1) fun e1 e2 => f4 y a e1 e2.symm
  exact ⟨m, hn.sameBut sb hne, fun h3 sb3 => ⟨_, G, I2.turned (t' := z2.toks) (fun b o hb e => (sb3.2 b hb).trans e) f0 f1 f3 f4 f5, q2⟩⟩
end
end L2

set_option Elab.async false
set_option linter.all false
set_option maxRecDepth 100000
set_option maxHeartbeats 1000000
/-! defs that hand back a new object told by their arguments; range(a, b); {k: v} -/
namespace Z
open PySem PySem.Spec PyProof.Rows L2 Zd
def spX (K : PySem.W.Frag) (G : Own → List Cell → (HO → Prop) → Prop) : Sp := fun vs H Q _ => ∃ (Γ : Own) (Δ : Gh) (cs : List Cell) (I : HO → Prop), G Γ cs I ∧ Sat Γ Δ ∧ Hold Δ H ∧ ArgsOk K Δ H vs cs ∧
  ∀ (p : Addr) (H' : Hp) (o : HO), I o → H p = none → Δ p = none → Ext Δ H H' → H' p = some o → Q (.ref p) H'
section
variable {P : Program} {w : World} {K : PySem.W.Frag} {mg : Str → Option Value} {base : Heap}
theorem def_okX {x qual : Str} {args : Arguments} {body : List Stmt} {scope : Scope} {dvs : List V} {kws : List (Str × V)} {f : Addr} {fd : FuncData} {N ps : List Str} {k : Nat} {G : Own → List Cell → (HO → Prop) → Prop}
    (Fn : FunD K x qual args body scope dvs kws f fd) (S : FnScope N ps scope) (len : ∀ Γ cs I, G Γ cs I → cs.length = ps.length)
    (hb : ∀ (cdv : Value) (A : Around) (outer : List PySem.Env) (s : Shared) (H : Hp) (E : XK), Room k (A.deeper (envOfC qual scope s.heap.objs.size f cdv)) →
      ∀ (Γ : Own) (cs : List Cell) (I : HO → Prop), G Γ cs I → ∃ t, PSs (cxOf CX0 P w K mg base N qual scope f cdv A outer s H E).nox body t ∧
        ∀ (Δ0 : Gh) (D : Ends), FinF Δ0 H I D → Wp K Δ0 H Γ [] (env0 N cs) t D) :
    FnOk P w K mg base CX0 (k + 1) f fd ps (spX K G) := by
  refine Fn.ok S (fun vs H Q E h => ?_) (fun cdv A outer s H vs Q E hr h => ?_)
  · obtain ⟨Γ, Δ, cs, I, g, _, _, a, _⟩ := h
    rw [All2.len a]
    exact len Γ cs I g
  · obtain ⟨Γ, Δ, cs, I, g, sa, hh, a, q⟩ := h
    obtain ⟨t, ht, hw⟩ := hb cdv A outer s H E hr Γ cs I g
    refine ⟨t, ?_, hw Δ _ (fun p H' o io h1 h2 e ho => q p H' o io h1 h2 e ho) _ H ⟨Δ, sa, hh, start_ok a, fun z hz => (nomatch hz), Ext.refl hh, fun _ _ z => z, fun x n m => absurd n m⟩⟩
    first
      | exact ht
      | exact PSs.nox ht
end
section
variable {K : PySem.W.Frag} {Δ0 : Gh} {H0 : Hp} {Γ : Own} {F : List (V × Cell)} {ρ : Z.Env} {te : TE} {ta : TA} {D : Ends}
/-- f(..) of such a def -/
theorem en_callX {G : Own → List Cell → (HO → Prop) → Prop} {I : HO → Prop} {E : XK} {cs : List Cell} (ha : EvA K Γ ta ρ (Is cs)) (hg : G Γ cs I) : EvN K Γ (tCall (spX K G) [] E ta) ρ I := fun Δ σ H Q s hh e k =>
  ha Δ σ H _ s hh e fun vs H1 cs' pcs e1 r => by
    have ec : cs' = cs := pcs
    subst ec
    exact ⟨Γ, Δ, cs', I, hg, s, e1.2, by rw [List.append_nil]; exact r, fun p H2 o io hp hΔ e2 ho => k p H2 o io (Ext.back hh e1 hp) hΔ (e1.trans e2) ho⟩
/-- return an object of one's own -/
theorem wp_retO {d : Addr} {o : HO} {I : HO → Prop} (ow : OwnP Δ0 Γ d) (hf : FinF Δ0 H0 I D) (hi : I o) (ho : Ev K ((d, ObIs o) :: Γ) te ρ (Is (⟨d⟩ : Loc))) : Wp K Δ0 H0 ((d, ObIs o) :: Γ) F ρ (tRet te) D := fun σ H ⟨Δ, s, hh, e, f, e0, s1, s2⟩ =>
  ho Δ σ H _ s hh e fun v H1 a pa e1 r => by
    have ea : a = ⟨d⟩ := pa
    subst ea
    have ev : v = .ref d := r
    subst ev
    have hd : Δ d = some (ObIs o) := s _ List.mem_cons_self
    obtain ⟨u, hu, iu⟩ := e1.2 d _ hd
    have eu : u = o := iu
    subst eu
    exact hf d H1 u hi (s2 d ow.n0 (by rw [hd]; exact fun z => by cases z)) ow.n0 (ext0 e0 s1 s2 e1) hu
/-- range(a, b) -/
theorem src_rng2 {j lo n : Nat} (h : EvA K Γ ta ρ (Is [⟨(lo : Int)⟩, ⟨((lo + n : Nat) : Int)⟩])) (hn : lo + n ≤ 100000) (hj : j < ρ.length) : Src K Γ (iRng2 ta) (gName j) ρ [j] n (fun i ρ => ρ.set j (some ⟨((lo + i : Nat) : Int)⟩)) := fun Δ σ H R s hh e k =>
  h Δ σ H _ s hh e fun vs H' cs pcs e1 r => by
    have ec : cs = [⟨(lo : Int)⟩, ⟨((lo + n : Nat) : Int)⟩] := pcs
    subst ec
    match vs, r with
    | [v, w], r =>
      have ev : v = .int lo := r.1
      have ew : w = .int ((lo + n : Nat) : Int) := r.2.1
      subst ev ew
      have en : (((lo + n : Nat) : Int) - (lo : Int)).toNat = n := by omega
      refine ⟨lo, _, rfl, ⟨by omega, by omega, by omega, by omega⟩, ?_⟩
      rw [en]
      refine k _ H' .non ⟨()⟩ e1 rfl (fun Δ' H2 _ => ⟨fun i hi => hi, Nat.le_refl _⟩) fun Δ' i H2 x H3 hi h2 _ y => ?_
      obtain ⟨rfl, rfl⟩ := (show H3 = H2 ∧ x = V.int ((lo : Int) + (i : Int)) from y)
      refine ⟨Ext.refl h2, fun σ' ρ' Qs hl e' q => ?_⟩
      have e3 : (lo : Int) + (i : Int) = ((lo + i : Nat) : Int) := by omega
      rw [e3]
      exact q _ (e'.set (c := ⟨((lo + i : Nat) : Int)⟩) (by rw [hl]; exact hj) rfl) (set_off (js := [j]) (List.mem_singleton_self j)).1 (set_off (js := [j]) (List.mem_singleton_self j)).2
/-- {k: v}, both plain -/
theorem en_disp1 {tk tv : TE} {κ ν : Type} [Rp κ] [Flat κ] [Rp ν] [Flat ν] {x : κ} {y : ν} {k0 : Key} (hk : kV k0 = Flat.val x) (h1 : Ev K Γ tk ρ (Is x)) (h2 : Ev K Γ tv ρ (Is y)) : EvN K Γ (tDisp [(tk, tv)]) ρ (ObIs (.dK [(k0, Flat.val y)])) := fun Δ σ H Q s hh e k => fun p hp => by
  have e0 := Ext.new hh hp (.dK [])
  have nD : Δ p = none := hh.fresh hp
  refine h1 Δ σ _ _ s e0.2 (e.mono e0.1) fun v H1 a pa e1 r1 => h2 Δ σ H1 _ s e1.2 ((e.mono e0.1).mono e1.1) fun w H2 b pb e2 r2 => ?_
  have ea : a = x := pa
  have eb : b = y := pb
  subst ea eb
  have hd : H2 p = some (.dK []) := e2.1 _ _ nD (e1.1 _ _ nD upd_same)
  refine ⟨hd, [(k0, Flat.val b)], by rw [Flat.iff.mp r1, Flat.iff.mp r2, ← hk]; rfl, by show 1 ≤ 15; decide, ?_⟩
  refine k p _ _ rfl hp nD ⟨fun q o n hq => ?_, fun q J hq => ?_⟩ upd_same
  · have hne : q ≠ p := ne_of_none hq hp
    rw [upd_ne hne]
    exact (e1.trans e2).1 q o n (e0.1 q o n hq)
  · have hne : q ≠ p := fun z => by rw [z, nD] at hq; cases hq
    rw [upd_ne hne]
    exact e2.2 q J hq
end
end Z

set_option Elab.async false
set_option linter.all false
set_option maxRecDepth 100000
set_option maxHeartbeats 1000000
/-! an object that an expression gives, kept still from there on; dict.update -/
namespace L2
open PySem PySem.Spec PyProof.Rows
section
variable {X : Cx} {e : Expr} {te : TE}
/-- the objects at ds, kept still one after the other -/
def tLocks (Q : Hp → Prop) : List Addr → Hp → Prop
  | [], H => Q H
  | d :: ds, H => ∃ u, H d = some u ∧ Mut (some u) ∧ ∀ od, tLocks Q ds (upd H d (.frz od u))
theorem Inv.locks {pins : List (Addr × Obj)} {σ : St} {s : Shared} {Q : Hp → Prop} : ∀ (ds : List Addr) (H : Hp), Inv X pins σ H s → tLocks Q ds H → ∃ H', Inv X pins σ H' s ∧ Q H'
  | [], H, I, h => ⟨H, I, h⟩
  | d :: ds, H, I, ⟨u, hd, mu, h⟩ => by
    obtain ⟨od, I2⟩ := I.lock hd mu
    exact Inv.locks ds _ I2 (h od)
def tFrzs (te : TE) : TE := fun σ H Q => te σ H fun x H1 => ∃ ds, tLocks (Q x) ds H1
theorem pe_frzs (h : PE X e te) : PE X e (tFrzs te) := by
  refine ⟨fun pins s σ H Q I hw => ?_⟩
  refine thn (h.run pins s σ H _ I hw) fun v s1 ⟨x, H1, I1, r, ds, q⟩ => ?_
  obtain ⟨H2, I2, q2⟩ := Inv.locks ds H1 I1 q
  exact ⟨x, H2, I2, r, q2⟩
/-- d.update(b), both tables -/
def rUpd : V → List V → Hp → VK → Prop := fun x xs H Q => ∃ (a b : Addr) (kvs more : List (Key × V)), x = .ref a ∧ xs = [.ref b] ∧ a ≠ b ∧ H a = some (.dK kvs) ∧ H b = some (.dK more) ∧ kvs.length + more.length ≤ sizeLine ∧ Q .non (upd H a (.dK (mergeK kvs more)))
theorem mt_upd : MtR X "dict.update" rUpd := by
  intro pins s σ H x xs v us Q I rx rxs h
  obtain ⟨a, b, kvs, more, rfl, rfl, ne, ha, hb, hl, q⟩ := h
  cases rx
  cases rxs with
  | cons ry rt =>
    cases rt
    cases ry
    obtain ⟨z, hd, vs, rel, dd⟩ := dk_of I.hok ha
    obtain ⟨z2, hd2, ws, rel2, dd2⟩ := dk_of I.hok hb
    refine call_meetsIn PySem.F.slot_dict_update dd.typeIs PySem.F.entry_dict_update (PySem.F.args_dict_update_2 _ _) (meets_dict_update (mixKind X.prog X.w) a b ne hd2) ⟨vs, ws, dd, dd2, ?_, fun h' dd' _ hs => ?_⟩
    · rw [← rel.length, ← rel2.length]
      exact hl
    · have he : ∃ q, h'.get? a = some q := let ⟨q, _, _, hq, _⟩ := dd'; ⟨q, hq⟩
      exact ⟨.non, _, d_write (t' := s.toks) I (by rw [ha]; exact True.intro) hs he (dk_new (Nat.le_trans (length_mergeK more kvs) hl) hd (KV.merge rel2 rel) dd'), rfl, q⟩
end
end L2

set_option Elab.async false
set_option linter.all false
set_option maxRecDepth 100000
set_option maxHeartbeats 1000000
/-! a dict of one's own whose values are objects of one's own: looked up, setdefault, kept still -/
namespace Z
open PySem PySem.Spec PyProof.Rows L2
instance : Flat Loc := ⟨fun a => V.ref a.p, Iff.rfl⟩
section
variable {K : PySem.W.Frag} {Δ0 : Gh} {H0 : Hp} {Γ Γ' : Own} {F : List (V × Cell)} {ρ : Z.Env} {te ta tk tx : TE} {σ : L2.St} {H : Hp} {D : Ends}
theorem stt_mem (h : ∀ q ∈ Γ', q ∈ Γ) (st : Stt K Δ0 H0 Γ F ρ σ H) : Stt K Δ0 H0 Γ' F ρ σ H := by
  obtain ⟨Δ, s, r⟩ := st
  exact ⟨Δ, fun q hq => s q (h q hq), r⟩
theorem wp_mem {t : TS} (h : ∀ q ∈ Γ', q ∈ Γ) (w : Wp K Δ0 H0 Γ' F ρ t D) : Wp K Δ0 H0 Γ F ρ t D := fun σ H st => w σ H (stt_mem h st)
theorem ev_run {α : Type} [Rp α] [Flat α] {a : α} {Q : V → Hp → Prop} (h : Ev K Γ te ρ (Is a)) (st : Stt K Δ0 H0 Γ F ρ σ H) (k : ∀ H', Stt K Δ0 H0 Γ F ρ σ H' → Q (Flat.val a) H') : te σ H Q := by
  obtain ⟨Δ, s, hh, e, f, e0, s1, s2⟩ := st
  refine h Δ σ H Q s hh e fun v H1 b pb e1 r1 => ?_
  have eb : b = a := pb
  subst eb
  rw [Flat.iff.mp r1]
  exact k H1 ⟨Δ, s, e1.2, e.mono e1.1, fun q hq => q.2.r.mono e1.1 (f q hq), ext0 e0 s1 s2 e1, s1, s2⟩
theorem stt_cell {d : Addr} {o : HO} (h : (d, ObIs o) ∈ Γ) (st : Stt K Δ0 H0 Γ F ρ σ H) : H d = some o := by
  obtain ⟨Δ, s, hh, _⟩ := st
  obtain ⟨u, hu, iu⟩ := hh d _ (s _ h)
  have e : u = o := iu
  rw [hu, e]
/-- an object that nobody names, laid beside -/
theorem stt_junk {p : Addr} {o : HO} (hp : H p = none) (st : Stt K Δ0 H0 Γ F ρ σ H) : Stt K Δ0 H0 Γ F ρ σ (upd H p o) := by
  obtain ⟨Δ, s, hh, e, f, e0, s1, s2⟩ := st
  have e1 := Ext.new hh hp o
  exact ⟨Δ, s, e1.2, e.mono e1.1, fun q hq => q.2.r.mono e1.1 (f q hq), ext0 e0 s1 s2 e1, s1, s2⟩
theorem stt_new {p : Addr} {o : HO} (hp : H p = none) (st : Stt K Δ0 H0 Γ F ρ σ H) : OwnP Δ0 Γ p ∧ Stt K Δ0 H0 ((p, ObIs o) :: Γ) F ρ σ (upd H p o) := by
  obtain ⟨Δ, s, hh, e, f, e0, s1, s2⟩ := st
  exact own_newO s hh e f e0 s1 s2 hp
abbrev Ent := Nat × Addr × List Nat
def outV (es : List Ent) : List (Key × V) := es.map fun e => (.inl ((e.1 : Nat) : Int), .ref e.2.1)
def OwnN (g : Addr) (ob : List Nat → HO) (es : List Ent) (Γ : Own) : Own := (g, ObIs (.dK (outV es))) :: (es.map (fun e => (e.2.1, ObIs (ob e.2.2))) ++ Γ)
structure NestP (Δ0 : Gh) (Γ : Own) (g : Addr) (es : List Ent) : Prop where
  g0 : OwnP Δ0 Γ g
  a0 : ∀ e ∈ es, OwnP Δ0 Γ e.2.1 ∧ e.2.1 ≠ g
  nd : (es.map (·.2.1)).Nodup
  kd : (es.map (·.1)).Nodup
theorem ownN_g {g : Addr} {ob : List Nat → HO} {es : List Ent} : (g, ObIs (.dK (outV es))) ∈ OwnN g ob es Γ := List.mem_cons_self
theorem ownN_e {g : Addr} {ob : List Nat → HO} {es : List Ent} {e : Ent} (h : e ∈ es) : (e.2.1, ObIs (ob e.2.2)) ∈ OwnN g ob es Γ := List.mem_cons_of_mem _ (List.mem_append_left _ (List.mem_map.mpr ⟨e, h, rfl⟩))
theorem outV_get {es : List Ent} {e : Ent} (kd : (es.map (·.1)).Nodup) (h : e ∈ es) : valV (outV es) (.inl ((e.1 : Nat) : Int) : Key) = some (.ref e.2.1) := by
  induction es with
  | nil => cases h
  | cons x xs ih =>
    rw [List.map_cons, List.nodup_cons] at kd
    rcases List.mem_cons.mp h with z | z
    · subst z
      exact valV_pos rfl
    · show valV ((.inl ((x.1 : Nat) : Int), .ref x.2.1) :: outV xs) _ = _
      rw [valV_neg fun q => kd.1 (by
        have e1 : ((x.1 : Nat) : Int) = ((e.1 : Nat) : Int) := Sum.inl.inj q
        have e2 : x.1 = e.1 := by omega
        rw [e2]
        exact List.mem_map.mpr ⟨e, z, rfl⟩)]
      exact ih kd.2 z
theorem outV_none {es : List Ent} {k : Nat} (h : k ∉ es.map (·.1)) : valV (outV es) (.inl ((k : Nat) : Int) : Key) = none := by
  induction es with
  | nil => rfl
  | cons x xs ih =>
    rw [List.map_cons, List.mem_cons, not_or] at h
    show valV ((.inl ((x.1 : Nat) : Int), .ref x.2.1) :: outV xs) _ = _
    rw [valV_neg fun q => h.1 (by
      have e1 : ((x.1 : Nat) : Int) = ((k : Nat) : Int) := Sum.inl.inj q
      omega)]
    exact ih h.2
theorem outV_put {es : List Ent} {k : Nat} {p : Addr} {cs : List Nat} (h : k ∉ es.map (·.1)) : putK (outV es) (.inl ((k : Nat) : Int)) (.ref p) = outV (es ++ [(k, p, cs)]) := by
  have ha : ((outV es).any fun kv => decide (kv.1 = (.inl ((k : Nat) : Int) : Key))) = false := by
    rw [List.any_eq_false]
    intro kv hk
    obtain ⟨y, hy, rfl⟩ := List.mem_map.mp hk
    intro e
    have e2 : ((y.1 : Nat) : Int) = ((k : Nat) : Int) := Sum.inl.inj (of_decide_eq_true e)
    have e3 : y.1 = k := by omega
    exact h (by rw [← e3]; exact List.mem_map.mpr ⟨y, hy, rfl⟩)
  unfold putK
  rw [ha, if_neg Bool.false_ne_true]
  unfold outV
  rw [List.map_append]
  rfl
/-- one inner object changed -/
theorem nest_set {g a : Addr} {ob : List Nat → HO} {l r : List Ent} {k : Nat} {cs cs' : List Nat} (np : NestP Δ0 Γ g (l ++ (k, a, cs) :: r)) (st : Stt K Δ0 H0 (OwnN g ob (l ++ (k, a, cs) :: r) Γ) F ρ σ H) :
    NestP Δ0 Γ g (l ++ (k, a, cs') :: r) ∧ Stt K Δ0 H0 (OwnN g ob (l ++ (k, a, cs') :: r) Γ) F ρ σ (upd H a (ob cs')) := by
  have eo : outV (l ++ (k, a, cs') :: r) = outV (l ++ (k, a, cs) :: r) := by
    unfold outV
    rw [List.map_append, List.map_append]
    rfl
  have nd := np.nd
  rw [List.map_append, List.map_cons, List.nodup_append] at nd
  have ow : OwnP Δ0 ((g, ObIs (.dK (outV (l ++ (k, a, cs) :: r)))) :: ((l ++ r).map (fun e => (e.2.1, ObIs (ob e.2.2))) ++ Γ)) a := by
    have h0 := np.a0 (k, a, cs) (List.mem_append_right _ List.mem_cons_self)
    refine ⟨h0.1.n0, fun q hq => ?_⟩
    rcases List.mem_cons.mp hq with z | z
    · rw [z]
      exact fun w => h0.2 w.symm
    · rcases List.mem_append.mp z with z | z
      · obtain ⟨e, he, rfl⟩ := List.mem_map.mp z
        intro w
        have w' : e.2.1 = a := w
        rcases List.mem_append.mp he with y | y
        · exact nd.2.2 e.2.1 (List.mem_map.mpr ⟨e, y, rfl⟩) a List.mem_cons_self w'
        · exact (List.nodup_cons.mp nd.2.1).1 (by rw [← w']; exact List.mem_map.mpr ⟨e, y, rfl⟩)
      · exact h0.1.ne q z
  refine ⟨⟨np.g0, fun e he => ?_, ?_, ?_⟩, ?_⟩
  · rcases List.mem_append.mp he with y | y
    · exact np.a0 e (List.mem_append_left _ y)
    · rcases List.mem_cons.mp y with y | y
      · rw [y]
        exact np.a0 (k, a, cs) (List.mem_append_right _ List.mem_cons_self)
      · exact np.a0 e (List.mem_append_right _ (List.mem_cons_of_mem _ y))
  · have := np.nd
    rw [List.map_append] at this ⊢
    exact this
  · have := np.kd
    rw [List.map_append] at this ⊢
    exact this
  · have st1 : Stt K Δ0 H0 ((a, ObIs (ob cs)) :: ((g, ObIs (.dK (outV (l ++ (k, a, cs) :: r)))) :: ((l ++ r).map (fun e => (e.2.1, ObIs (ob e.2.2))) ++ Γ))) F ρ σ H := by
      refine stt_mem (fun q hq => ?_) st
      rcases List.mem_cons.mp hq with z | z
      · rw [z]
        exact ownN_e (e := (k, a, cs)) (List.mem_append_right _ List.mem_cons_self)
      · rcases List.mem_cons.mp z with z | z
        · rw [z]
          exact ownN_g
        · rcases List.mem_append.mp z with z | z
          · obtain ⟨e, he, rfl⟩ := List.mem_map.mp z
            refine ownN_e ?_
            rcases List.mem_append.mp he with y | y
            · exact List.mem_append_left _ y
            · exact List.mem_append_right _ (List.mem_cons_of_mem _ y)
          · exact List.mem_cons_of_mem _ (List.mem_append_right _ z)
    have st2 := (own_putO (o2 := ob cs') ow st1).2
    refine stt_mem (fun q hq => ?_) st2
    unfold OwnN at hq
    rw [eo] at hq
    rcases List.mem_cons.mp hq with z | z
    · rw [z]
      exact List.mem_cons_of_mem _ List.mem_cons_self
    · rcases List.mem_append.mp z with z | z
      · obtain ⟨e, he, rfl⟩ := List.mem_map.mp z
        rcases List.mem_append.mp he with y | y
        · exact List.mem_cons_of_mem _ (List.mem_cons_of_mem _ (List.mem_append_left _ (List.mem_map.mpr ⟨e, List.mem_append_left _ y, rfl⟩)))
        · rcases List.mem_cons.mp y with y | y
          · rw [y]
            exact List.mem_cons_self
          · exact List.mem_cons_of_mem _ (List.mem_cons_of_mem _ (List.mem_append_left _ (List.mem_map.mpr ⟨e, List.mem_append_right _ y, rfl⟩)))
      · exact List.mem_cons_of_mem _ (List.mem_cons_of_mem _ (List.mem_append_right _ z))
/-- one more inner object -/
theorem nest_add {g p : Addr} {ob : List Nat → HO} {es : List Ent} {k : Nat} {cs : List Nat} (np : NestP Δ0 Γ g es) (st : Stt K Δ0 H0 (OwnN g ob es Γ) F ρ σ H) (hp : OwnP Δ0 (OwnN g ob es Γ) p) (hk : k ∉ es.map (·.1))
    (st1 : Stt K Δ0 H0 ((p, ObIs (ob cs)) :: OwnN g ob es Γ) F ρ σ H) :
    NestP Δ0 Γ g (es ++ [(k, p, cs)]) ∧ Stt K Δ0 H0 (OwnN g ob (es ++ [(k, p, cs)]) Γ) F ρ σ (upd H g (.dK (outV (es ++ [(k, p, cs)])))) := by
  have pg : g ≠ p := hp.ne _ ownN_g
  have pe : ∀ e ∈ es, e.2.1 ≠ p := fun e he => hp.ne _ (ownN_e (ob := ob) he)
  have pΓ : OwnP Δ0 Γ p := ⟨hp.n0, fun q hq => hp.ne q (List.mem_cons_of_mem _ (List.mem_append_right _ hq))⟩
  have ow : OwnP Δ0 ((p, ObIs (ob cs)) :: (es.map (fun e => (e.2.1, ObIs (ob e.2.2))) ++ Γ)) g := by
    refine ⟨np.g0.n0, fun q hq => ?_⟩
    rcases List.mem_cons.mp hq with z | z
    · rw [z]
      exact fun w => pg w.symm
    · rcases List.mem_append.mp z with z | z
      · obtain ⟨e, he, rfl⟩ := List.mem_map.mp z
        exact (np.a0 e he).2
      · exact np.g0.ne q z
  refine ⟨⟨np.g0, fun e he => ?_, ?_, ?_⟩, ?_⟩
  · rcases List.mem_append.mp he with y | y
    · exact np.a0 e y
    · rw [List.mem_singleton.mp y]
      exact ⟨pΓ, fun w => pg w.symm⟩
  · rw [List.map_append, List.nodup_append]
    refine ⟨np.nd, List.nodup_cons.mpr ⟨List.not_mem_nil, List.nodup_nil⟩, fun x hx y hy => ?_⟩
    obtain ⟨e, he, rfl⟩ := List.mem_map.mp hx
    rw [List.mem_singleton.mp hy]
    exact pe e he
  · rw [List.map_append, List.nodup_append]
    refine ⟨np.kd, List.nodup_cons.mpr ⟨List.not_mem_nil, List.nodup_nil⟩, fun x hx y hy w => ?_⟩
    rw [List.mem_singleton.mp hy] at w
    exact hk (by rw [w] at hx; exact hx)
  · have st2 : Stt K Δ0 H0 ((g, ObIs (.dK (outV es))) :: ((p, ObIs (ob cs)) :: (es.map (fun e => (e.2.1, ObIs (ob e.2.2))) ++ Γ))) F ρ σ H := by
      refine stt_mem (fun q hq => ?_) st1
      rcases List.mem_cons.mp hq with z | z
      · rw [z]
        exact List.mem_cons_of_mem _ ownN_g
      · rcases List.mem_cons.mp z with z | z
        · rw [z]
          exact List.mem_cons_self
        · exact List.mem_cons_of_mem _ (List.mem_cons_of_mem _ z)
    have st3 := (own_putO (o2 := .dK (outV (es ++ [(k, p, cs)]))) ow st2).2
    refine stt_mem (fun q hq => ?_) st3
    rcases List.mem_cons.mp hq with z | z
    · rw [z]
      exact List.mem_cons_self
    · rcases List.mem_append.mp z with z | z
      · obtain ⟨e, he, rfl⟩ := List.mem_map.mp z
        rcases List.mem_append.mp he with y | y
        · exact List.mem_cons_of_mem _ (List.mem_cons_of_mem _ (List.mem_append_left _ (List.mem_map.mpr ⟨e, y, rfl⟩)))
        · rw [List.mem_singleton.mp y]
          exact List.mem_cons_of_mem _ List.mem_cons_self
      · exact List.mem_cons_of_mem _ (List.mem_cons_of_mem _ (List.mem_append_right _ z))
/-- g.setdefault(k, new) -/
theorem setd_run {g : Addr} {ob : List Nat → HO} {es : List Ent} {k : Nat} {cs0 : List Nat} {Q : V → Hp → Prop} (np : NestP Δ0 Γ g es) (st : Stt K Δ0 H0 (OwnN g ob es Γ) F ρ σ H) (hl : es.length < 50000)
    (ho : Ev K (OwnN g ob es Γ) ta ρ (Is (⟨g⟩ : Loc))) (hk : Ev K (OwnN g ob es Γ) tk ρ (Is (k : Int))) (hx : ∀ (H : Hp) (R : V → Hp → Prop), (∀ p, H p = none → R (.ref p) (upd H p (ob cs0))) → tx σ H R)
    (q : ∀ (l r : List Ent) (p : Addr) (cs : List Nat) (H' : Hp), NestP Δ0 Γ g (l ++ (k, p, cs) :: r) → Stt K Δ0 H0 (OwnN g ob (l ++ (k, p, cs) :: r) Γ) F ρ σ H' → (l ++ (k, p, cs) :: r = es ∨ (l = es ∧ r = [] ∧ cs = cs0 ∧ k ∉ es.map (·.1))) → Q (.ref p) H') :
    tDSetd ta tk tx σ H Q := by
  unfold tDSetd
  refine ev_run (te := ta) ho st fun H1 st1 => ⟨g, rfl, .inl ⟨_, .inl (stt_cell ownN_g st1)⟩, ?_⟩
  refine ev_run (te := tk) hk st1 fun H2 st2 => hx _ _ fun p hp => ?_
  have c2 := stt_cell ownN_g st2
  have gp : g ≠ p := fun z => by rw [z, hp] at c2; cases c2
  refine ⟨outV es, .inl ((k : Nat) : Int), by rw [upd_ne gp]; exact c2, rfl, ?_, fun v hv => ?_, fun hn => ?_⟩
  · unfold outV
    rw [List.length_map]
    exact Nat.lt_trans hl (by decide)
  · by_cases hm : k ∈ es.map (·.1)
    · obtain ⟨e, he, rfl⟩ := List.mem_map.mp hm
      rw [outV_get np.kd he] at hv
      cases hv
      obtain ⟨l, r, el⟩ := List.append_of_mem he
      obtain ⟨k0, p0, cs⟩ := e
      have e1 : es = l ++ (k0, p0, cs) :: r := el
      refine q l r p0 cs _ ?_ ?_ (.inl e1.symm)
      · rw [← e1]
        exact np
      · rw [← e1]
        exact stt_junk hp st2
    · rw [outV_none hm] at hv
      cases hv
  · have hm : k ∉ es.map (·.1) := fun z => by
      obtain ⟨e, he, rfl⟩ := List.mem_map.mp z
      rw [outV_get np.kd he] at hn
      cases hn
    obtain ⟨op, st3⟩ := stt_new (o := ob cs0) hp st2
    have h4 := nest_add np (stt_junk (o := ob cs0) hp st2) op hm st3
    rw [outV_put (cs := cs0) hm]
    exact q es [] p cs0 _ h4.1 h4.2 (.inr ⟨rfl, rfl, rfl, hm⟩)
end
end Z

set_option Elab.async false
set_option linter.all false
set_option maxRecDepth 100000
set_option maxHeartbeats 1000000
/-! kept-still dicts walked; a dict of lists handed back; an own object changed by a def -/
namespace Z
open PySem PySem.Spec PyProof.Rows L2 Zd
section
variable {K : PySem.W.Frag} {Δ0 : Gh} {H0 : Hp} {Γ Γ' : Own} {F : List (V × Cell)} {ρ : Z.Env} {te ta tk tx : TE} {σ : L2.St} {H : Hp} {D : Ends}
theorem stt_frz {d : Addr} {u : HO} {i : Nat} (ow : OwnP Δ0 Γ d) (hi : ρ[i]? = some (some ⟨(⟨d⟩ : Loc)⟩)) (st : Stt K Δ0 H0 ((d, ObIs u) :: Γ) F ρ σ H) :
    H d = some u ∧ σ[i]? = some (some (.ref d)) ∧ ∀ od, Stt K Δ0 H0 Γ F (ρ.set i (some ⟨(⟨d, u⟩ : Fz)⟩)) σ (upd H d (.frz od u)) := by
  obtain ⟨Δ, s, hh, e, f, e0, s1, s2⟩ := st
  have hd := s _ List.mem_cons_self
  obtain ⟨o, ho, io⟩ := hh d _ hd
  have eo : o = u := io
  subst eo
  have ilt : i < ρ.length := by
    rw [List.getElem?_eq_some_iff] at hi
    exact hi.1
  have nu : ∀ {a : Addr}, Δ a = none → a ≠ d := fun n z => by
    rw [z, hd] at n
    cases n
  have n0 : ∀ {a : Addr} {I}, Δ0 a = some I → a ≠ d := fun q z => by
    rw [z, ow.n0] at q
    cases q
  have kp : ∀ od, Keep Δ H (upd H d (.frz od o)) := fun od a v na q => by
    rw [upd_ne (nu na)]
    exact q
  have wk : ∀ {H : Hp} x o', H x = some o' → Δ x = none → unOwn Δ d x = none := fun x o' _ n => by
    by_cases z : x = d
    · rw [z]; exact unOwn_at
    · rw [unOwn_ne z]; exact n
  obtain ⟨v, hv, rv⟩ := e.2 i _ hi
  have ev : v = .ref d := rv
  subst ev
  refine ⟨ho, hv, fun od => ⟨unOwn Δ d, fun q hq => by rw [unOwn_ne (ow.ne q hq)]; exact s q (List.mem_cons_of_mem _ hq), fun a J ha => ?_, ?_, fun q hq => q.2.r.weak wk (q.2.r.mono (kp od) (f q hq)), ⟨fun a o' n q => ?_, fun a I q => ?_⟩, fun x I q => ?_, fun x n m => ?_⟩⟩
  · have ne : a ≠ d := fun z => by rw [z, unOwn_at] at ha; cases ha
    rw [unOwn_ne ne] at ha
    rw [upd_ne ne]
    exact hh a J ha
  · have e3 := ((e.mono (kp od)).weak wk).set (c := ⟨(⟨d, o⟩ : Fz)⟩) (v := .ref d) ilt ⟨rfl, unOwn_at, od, upd_same⟩
    have es : σ.set i (some (.ref d)) = σ := List.ext_getElem? fun j => by
      by_cases hj : i = j
      · subst hj
        rw [List.getElem?_set_self (by rw [e.1]; exact ilt), hv]
      · rw [List.getElem?_set_ne hj]
    rw [es] at e3
    exact e3
  · have hne : a ≠ d := fun z => by
      subst z
      have := s2 a n (by rw [hd]; exact fun z => by cases z)
      rw [q] at this
      cases this
    rw [upd_ne hne]
    exact e0.1 a o' n q
  · obtain ⟨u, hu, iu⟩ := e0.2 a I q
    exact ⟨u, by rw [upd_ne (n0 q)]; exact hu, iu⟩
  · rw [unOwn_ne (n0 q)]
    exact s1 x I q
  · have hne : x ≠ d := fun z => by rw [z, unOwn_at] at m; exact m rfl
    rw [unOwn_ne hne] at m
    exact s2 x n m
/-- for x in d, d one's own, kept still from there on -/
theorem wp_forFz {d : Addr} {kvs : List (Key × V)} {i : Nat} {g : TG} {t tz : TS} (ow : OwnP Δ0 Γ d) (hi : ρ[i]? = some (some ⟨(⟨d⟩ : Loc)⟩)) (w : Wp K Δ0 H0 Γ F (ρ.set i (some ⟨(⟨d, .dK kvs⟩ : Fz)⟩)) (tSeq (tFor (iKeys (tVar i)) g t) tz) D) :
    Wp K Δ0 H0 ((d, ObIs (.dK kvs)) :: Γ) F ρ (tSeq (tFor (iKeys (tFrzs (tVar i))) g t) tz) D := fun σ H st => by
  obtain ⟨h1, h2, q⟩ := stt_frz ow hi st
  refine ⟨.ref d, h2, [d], .dK kvs, h1, trivial, fun od => ?_⟩
  obtain ⟨v, hv, q2⟩ := w σ _ (q od)
  rw [h2] at hv
  cases hv
  exact q2
/-- the keys of a dict that is kept still -/
theorem src_keysZ {j : Nat} {d : Addr} {kvs : List (Key × V)} {κ : Type} [Rp κ] [Flat κ] {x0 : Nat → κ} (h : Ev K Γ te ρ (Is (⟨d, .dK kvs⟩ : Fz))) (hx : ∀ i, i < kvs.length → ∃ k v, kvs[i]? = some (k, v) ∧ kV k = Flat.val (x0 i)) (hj : j < ρ.length) : Src K Γ (iKeys te) (gName j) ρ [j] kvs.length (fun i ρ => ρ.set j (some ⟨x0 i⟩)) := fun Δ σ H R s hh e k =>
  h Δ σ H _ s hh e fun v H' a pa e1 r => by
    have ea : a = ⟨d, .dK kvs⟩ := pa
    subst ea
    obtain ⟨ev, n, od, hd⟩ := id r
    refine ⟨d, od, ev, .inl ⟨kvs, hd, k _ H' v ⟨(⟨d, .dK kvs, od⟩ : Fzo)⟩ e1 ⟨ev, n, hd⟩ (fun Δ' H2 r2 => ?_) fun Δ' i H2 x H3 hi h2 r2 y => ?_⟩⟩
    · obtain ⟨_, _, hd2⟩ := (show Rp.rp K Δ' H2 v (⟨d, .dK kvs, od⟩ : Fzo) from r2)
      exact ⟨fun i hi => ⟨hd2, hi⟩, hd2, Nat.le_refl _⟩
    · obtain ⟨rfl, kk, vv, hy, rfl⟩ := (show H3 = H2 ∧ ∃ kk vv, kvs[i]? = some (kk, vv) ∧ x = kV kk from y)
      obtain ⟨k2, v2, hk2, ek⟩ := hx i hi
      rw [hk2] at hy
      cases hy
      exact ⟨Ext.refl h2, fun σ' ρ' Qs hl e' qq => qq _ (e'.set (c := ⟨x0 i⟩) (by rw [hl]; exact hj) (Flat.iff.mpr ek)) (set_off (js := [j]) (List.mem_singleton_self j)).1 (set_off (js := [j]) (List.mem_singleton_self j)).2⟩
def obL (cs : List Nat) : HO := .lst (cs.map fun c => V.int ((c : Nat) : Int))
def zN (cs : List Nat) : List Int := cs.map fun c => ((c : Nat) : Int)
/-- g.setdefault(k, []).append(x), the last of a block -/
theorem wp_sdApp {g : Addr} {es : List Ent} {k x : Nat} (np : NestP Δ0 Γ g es) (hl : es.length < 50000) (hc : ∀ e ∈ es, e.2.2.length < 50000)
    (ho : Ev K (OwnN g obL es Γ) ta ρ (Is (⟨g⟩ : Loc))) (hk : Ev K (OwnN g obL es Γ) tk ρ (Is (k : Int))) (hx : ∀ es, Ev K (OwnN g obL es Γ) tx ρ (Is (x : Int)))
    (q : ∀ (l r : List Ent) (p : Addr) (cs : List Nat), NestP Δ0 Γ g (l ++ (k, p, cs ++ [x]) :: r) → (l ++ (k, p, cs) :: r = es ∨ (l = es ∧ r = [] ∧ cs = [] ∧ k ∉ es.map (·.1))) → Wp K Δ0 H0 (OwnN g obL (l ++ (k, p, cs ++ [x]) :: r) Γ) F ρ tNext D) :
    Wp K Δ0 H0 (OwnN g obL es Γ) F ρ (tDrop (tBM K "list" rAppend (tDSetd ta tk (tLst tNil)) (tCons tx tNil))) D := fun σ H st => by
  refine setd_run (cs0 := []) np st hl ho hk (fun H R k => ⟨by show 0 ≤ sizeLine; decide, fun p hp => k p hp⟩) fun l r p cs H' np' st' hor => ?_
  have me : (k, p, cs) ∈ l ++ (k, p, cs) :: r := List.mem_append_right _ List.mem_cons_self
  have c1 := stt_cell (ownN_e (ob := obL) (Γ := Γ) me) st'
  have hz : cs.length < 50000 := by
    rcases hor with z | ⟨_, _, z, _⟩
    · exact hc (k, p, cs) (by rw [← z]; exact me)
    · rw [z]
      decide
  refine ⟨.inl ⟨rfl, _, SqL.of c1⟩, ?_⟩
  refine ev_run (te := tx) (hx _) st' fun H2 st2 => ?_
  have c2 := stt_cell (ownN_e (ob := obL) (Γ := Γ) me) st2
  refine ⟨p, _, _, rfl, rfl, c2, ?_, ?_⟩
  · rw [List.length_map]
    exact Nat.lt_trans hz (by decide)
  · have h := nest_set (cs' := cs ++ [x]) np' st2
    have e5 : HO.lst (cs.map (fun c => V.int ((c : Nat) : Int)) ++ [Flat.val (x : Int)]) = obL (cs ++ [x]) := by
      unfold obL
      rw [List.map_append]
      rfl
    rw [e5]
    exact q l r p cs h.1 hor σ _ h.2
/-- a def that hands back a new dict of new lists -/
def spN (K : PySem.W.Frag) (G : Own → List Cell → (List (Nat × List Nat) → Prop) → Prop) : Sp := fun vs H Q _ => ∃ (Γ : Own) (Δ : Gh) (cs : List Cell) (R : List (Nat × List Nat) → Prop), G Γ cs R ∧ Sat Γ Δ ∧ Hold Δ H ∧ ArgsOk K Δ H vs cs ∧
  ∀ (g : Addr) (H' : Hp) (es : List Ent), R (es.map fun e => (e.1, e.2.2)) → H g = none → Δ g = none → Ext Δ H H' → H' g = some (.dK (outV es)) → (∀ e ∈ es, Rp.rp K (ghI Δ g fun _ => True) H' (.ref e.2.1) (zN e.2.2)) → Q (.ref g) H'
def FinG (K : PySem.W.Frag) (Δ0 : Gh) (H0 : Hp) (R : List (Nat × List Nat) → Prop) (D : Ends) : Prop := ∀ (g : Addr) (H' : Hp) (es : List Ent), R (es.map fun e => (e.1, e.2.2)) → H0 g = none → Δ0 g = none → Ext Δ0 H0 H' → H' g = some (.dK (outV es)) → (∀ e ∈ es, Rp.rp K (ghI Δ0 g fun _ => True) H' (.ref e.2.1) (zN e.2.2)) → D.rt (.ref g) H'
theorem wp_retG {g : Addr} {es : List Ent} {R : List (Nat × List Nat) → Prop} (np : NestP Δ0 Γ g es) (hf : FinG K Δ0 H0 R D) (hr : R (es.map fun e => (e.1, e.2.2))) (ho : Ev K (OwnN g obL es Γ) ta ρ (Is (⟨g⟩ : Loc))) : Wp K Δ0 H0 (OwnN g obL es Γ) F ρ (tRet ta) D := fun σ H st => by
  refine ev_run (te := ta) ho st fun H1 st1 => ?_
  have cg := stt_cell (ownN_g (ob := obL) (Γ := Γ) (es := es)) st1
  have ce : ∀ e ∈ es, H1 e.2.1 = some (obL e.2.2) := fun e he => stt_cell (ownN_e (ob := obL) (Γ := Γ) he) st1
  obtain ⟨Δ, s, hh, e, f, e0, s1, s2⟩ := st1
  refine hf g H1 es hr (s2 g np.g0.n0 (by rw [s _ ownN_g]; exact fun z => by cases z)) np.g0.n0 e0 cg fun e he => ?_
  have h0 := np.a0 e he
  refine ⟨e.2.1, e.2.2.map fun c => V.int ((c : Nat) : Int), rfl, .inl ⟨?_, .inl (ce e he)⟩, .inl (.inl (ce e he)), ?_⟩
  · rw [ghI_other h0.2]
    exact h0.1.n0
  · have : (e.2.2.map fun c => V.int ((c : Nat) : Int)) = (zN e.2.2).map Flat.val := by
      unfold zN
      rw [List.map_map]
      rfl
    rw [this]
    exact all2_flat _
structure Gz where
  g : Addr
  od : Obj
  es : List Ent
instance : Rp Gz where
  rp K Δ H v a := v = .ref a.g ∧ Δ a.g = none ∧ H a.g = some (.frz a.od (.dK (outV a.es))) ∧ ∀ e ∈ a.es, Rp.rp K Δ H (.ref e.2.1) (zN e.2.2)
  mono k h := ⟨h.1, h.2.1, k _ _ h.2.1 h.2.2.1, fun e he => Rp.mono k (h.2.2.2 e he)⟩
  weak w h := ⟨h.1, w _ _ h.2.2.1 h.2.1, h.2.2.1, fun e he => Rp.weak w (h.2.2.2 e he)⟩
/-- for k, xs in f(..).items(), f such a def -/
theorem srcP_itemsG {G : Own → List Cell → (List (Nat × List Nat) → Prop) → Prop} {R : List (Nat × List Nat) → Prop} {E : XK} {cs : List Cell} {tA : TA} {ja jb : Nat} (ha : EvA K Γ tA ρ (Is cs)) (hg : G Γ cs R) (hja : ja < ρ.length) (hjb : jb < ρ.length) :
    SrcP K Γ (iItems (tFrzs (tCall (spN K G) [] E tA))) (gTup K 2 (gCons (gName ja) (gCons (gName jb) gNil))) ρ [ja, jb] R (fun gs => gs.length) (fun gs i ρ => (ρ.set ja (some ⟨(((gs.getD i (0, [])).1 : Nat) : Int)⟩)).set jb (some ⟨zN (gs.getD i (0, [])).2⟩)) := fun Δ σ H Q s hh e k =>
  ha Δ σ H _ s hh e fun vs H1 cs' pcs e1 r => by
    have ec : cs' = cs := pcs
    subst ec
    refine ⟨Γ, Δ, cs', R, hg, s, e1.2, by rw [List.append_nil]; exact r, fun g H2 es hR hg1 hgΔ e2 cg ce => ⟨[g], _, cg, trivial, fun od => ?_⟩⟩
    have kp : Keep (ghI Δ g fun _ => True) H2 (upd H2 g (.frz od (.dK (outV es)))) := fun a o n q => by
      have hne : a ≠ g := fun z => by rw [z, ghI_self] at n; cases n
      rw [upd_ne hne]
      exact q
    have e3 : Ext Δ H (upd H2 g (.frz od (.dK (outV es)))) := by
      have e12 := e1.trans e2
      refine ⟨fun a o n q => ?_, fun a I ha => ?_⟩
      · have hne : a ≠ g := fun z => by
          rw [z] at q
          rw [e1.1 g o hgΔ q] at hg1
          cases hg1
        rw [upd_ne hne]
        exact e12.1 a o n q
      · have hne : a ≠ g := fun z => by rw [z, hgΔ] at ha; cases ha
        rw [upd_ne hne]
        exact e12.2 a I ha
    have rp0 : Rp.rp K Δ (upd H2 g (.frz od (.dK (outV es)))) (.ref g) (⟨g, od, es⟩ : Gz) := ⟨rfl, hgΔ, upd_same, fun e he => Rp.weak (fun x o _ n => by
      by_cases z : x = g
      · rw [z]; exact hgΔ
      · rw [ghI_other z] at n; exact n) (Rp.mono kp (ce e he))⟩
    have gl : (es.map fun e => (e.1, e.2.2)).length = es.length := List.length_map ..
    refine ⟨g, od, outV es, rfl, upd_same, k _ _ _ (.ref g) ⟨(⟨g, od, es⟩ : Gz)⟩ hR e3 rp0 (fun Δ' H3 r2 => ?_) fun Δ' i H3 x H4 hi h2 r2 y => ?_⟩
    · obtain ⟨_, _, hd2, _⟩ := (show Rp.rp K Δ' H3 (.ref g) (⟨g, od, es⟩ : Gz) from r2)
      have ol : (outV es).length = es.length := List.length_map ..
      exact ⟨fun i hi => ⟨hd2, by rw [ol, ← gl]; exact hi⟩, hd2, by rw [ol, ← gl]; exact Nat.le_refl _⟩
    · obtain ⟨_, _, _, hes⟩ := (show Rp.rp K Δ' H3 (.ref g) (⟨g, od, es⟩ : Gz) from r2)
      obtain ⟨T, kk, vv, hkv, rfl, hT, e4⟩ := (show ∃ T kk vv, (outV es)[i]? = some (kk, vv) ∧ x = .ref T ∧ H3 T = none ∧ H4 = upd H3 T (.tup [kV kk, vv]) from y)
      replace hi : i < es.length := by rw [← gl]; exact hi
      have eg : (es.map fun e => (e.1, e.2.2)).getD i (0, []) = (es[i].1, es[i].2.2) := by
        rw [List.getD_eq_getElem?_getD, List.getElem?_map, List.getElem?_eq_getElem hi]
        rfl
      have eo : (outV es)[i]? = some (.inl ((es[i].1 : Nat) : Int), .ref es[i].2.1) := by
        unfold outV
        rw [List.getElem?_map, List.getElem?_eq_getElem hi]
        rfl
      rw [eo] at hkv
      have e5 := Prod.mk.inj (Option.some.inj hkv)
      have ex := Ext.new h2 hT (.tup [kV kk, vv])
      refine ⟨by rw [e4]; exact ex, fun σ' ρ' Qs hl e' q => ?_⟩
      simp only [eg] at q
      refine pair_put (ca := ⟨((es[i].1 : Nat) : Int)⟩) (cb := ⟨zN es[i].2.2⟩) e4 ?_ ?_ (by rw [hl]; exact hja) (by rw [hl]; exact hjb) e' q
      · show Rp.rp K Δ' H4 (kV kk) ((es[i].1 : Nat) : Int)
        rw [← e5.1]
        rfl
      · show Rp.rp K Δ' H4 vv (zN es[i].2.2)
        rw [← e5.2, e4]
        exact Rp.mono ex.1 (hes es[i] (List.getElem_mem hi))
end
section
variable {P : Program} {w : World} {K : PySem.W.Frag} {mg : Str → Option Value} {base : Heap}
theorem def_okN {x qual : Str} {args : Arguments} {body : List Stmt} {scope : Scope} {dvs : List V} {kws : List (Str × V)} {f : Addr} {fd : FuncData} {N ps : List Str} {k : Nat} {G : Own → List Cell → (List (Nat × List Nat) → Prop) → Prop}
    (Fn : FunD K x qual args body scope dvs kws f fd) (S : FnScope N ps scope) (len : ∀ Γ cs R, G Γ cs R → cs.length = ps.length)
    (hb : ∀ (cdv : Value) (A : Around) (outer : List PySem.Env) (s : Shared) (H : Hp) (E : XK), Room k (A.deeper (envOfC qual scope s.heap.objs.size f cdv)) →
      ∀ (Γ : Own) (cs : List Cell) (R : List (Nat × List Nat) → Prop), G Γ cs R → ∃ t, PSs (cxOf CX0 P w K mg base N qual scope f cdv A outer s H E).nox body t ∧
        ∀ (Δ0 : Gh) (D : Ends), FinG K Δ0 H R D → Wp K Δ0 H Γ [] (env0 N cs) t D) :
    FnOk P w K mg base CX0 (k + 1) f fd ps (spN K G) := by
  refine Fn.ok S (fun vs H Q E h => ?_) (fun cdv A outer s H vs Q E hr h => ?_)
  · obtain ⟨Γ, Δ, cs, R, g, _, _, a, _⟩ := h
    rw [All2.len a]
    exact len Γ cs R g
  · obtain ⟨Γ, Δ, cs, R, g, sa, hh, a, q⟩ := h
    obtain ⟨t, ht, hw⟩ := hb cdv A outer s H E hr Γ cs R g
    refine ⟨t, ?_, hw Δ _ (fun p H' es hR h1 h2 e ho he => q p H' es hR h1 h2 e ho he) _ H ⟨Δ, sa, hh, start_ok a, fun z hz => (nomatch hz), Ext.refl hh, fun _ _ z => z, fun x n m => absurd n m⟩⟩
    first
      | exact ht
      | exact PSs.nox ht
end
end Z

set_option Elab.async false
set_option linter.all false
set_option maxRecDepth 100000
set_option maxHeartbeats 1000000
/-! a def that changes an own dict; d.update, len(d) -/
namespace Z
open PySem PySem.Spec PyProof.Rows L2 Zd
def rmv (H : Hp) (p : Addr) : Hp := fun a => if a = p then none else H a
theorem rmv_at {H : Hp} {p : Addr} : rmv H p p = none := if_pos rfl
theorem rmv_ne {H : Hp} {p a : Addr} (h : a ≠ p) : rmv H p a = H a := if_neg h
/-- a def that changes the object at p from o to o' and hands back an int -/
def spU (K : PySem.W.Frag) (G : Own → List Cell → Addr → HO → HO → (Int → Prop) → Prop) : Sp := fun vs H Q _ => ∃ (Γ : Own) (Δ : Gh) (cs : List Cell) (p : Addr) (o o' : HO) (R : Int → Prop), G Γ cs p o o' R ∧ Sat ((p, ObIs o) :: Γ) Δ ∧ (∀ q ∈ Γ, q.1 ≠ p) ∧ Hold Δ H ∧ ArgsOk K Δ H vs cs ∧
  ∀ (H' : Hp) (c : Int), R c → Ext (unOwn Δ p) (rmv H p) H' → H' p = some o' → Q (.int c) H'
def FinU (Δ0 : Gh) (H0 : Hp) (p : Addr) (o' : HO) (R : Int → Prop) (D : Ends) : Prop := ∀ (H' : Hp) (c : Int), R c → Ext Δ0 H0 H' → H' p = some o' → D.rt (.int c) H'
section
variable {P : Program} {w : World} {K : PySem.W.Frag} {mg : Str → Option Value} {base : Heap}
theorem def_okU {x qual : Str} {args : Arguments} {body : List Stmt} {scope : Scope} {dvs : List V} {kws : List (Str × V)} {f : Addr} {fd : FuncData} {N ps : List Str} {k : Nat} {G : Own → List Cell → Addr → HO → HO → (Int → Prop) → Prop}
    (Fn : FunD K x qual args body scope dvs kws f fd) (S : FnScope N ps scope) (len : ∀ Γ cs p o o' R, G Γ cs p o o' R → cs.length = ps.length)
    (hb : ∀ (cdv : Value) (A : Around) (outer : List PySem.Env) (s : Shared) (H : Hp) (E : XK), Room k (A.deeper (envOfC qual scope s.heap.objs.size f cdv)) →
      ∀ (Γ : Own) (cs : List Cell) (p : Addr) (o o' : HO) (R : Int → Prop), G Γ cs p o o' R → ∃ t, PSs (cxOf CX0 P w K mg base N qual scope f cdv A outer s H E).nox body t ∧
        ∀ (Δ0 : Gh) (H0 : Hp) (D : Ends), FinU Δ0 H0 p o' R D → OwnP Δ0 Γ p → Wp K Δ0 H0 ((p, ObIs o) :: Γ) [] (env0 N cs) t D) :
    FnOk P w K mg base CX0 (k + 1) f fd ps (spU K G) := by
  refine Fn.ok S (fun vs H Q E h => ?_) (fun cdv A outer s H vs Q E hr h => ?_)
  · obtain ⟨Γ, Δ, cs, p, o, o', R, g, _, _, _, a, _⟩ := h
    rw [All2.len a]
    exact len Γ cs p o o' R g
  · obtain ⟨Γ, Δ, cs, p, o, o', R, g, sa, ne, hh, a, q⟩ := h
    obtain ⟨t, ht, hw⟩ := hb cdv A outer s H E hr Γ cs p o o' R g
    have hp := sa _ List.mem_cons_self
    refine ⟨t, ?_, hw (unOwn Δ p) (rmv H p) _ (fun H' c hc e hp => q H' c hc e hp) ⟨unOwn_at, ne⟩ _ H ⟨Δ, sa, hh, start_ok a, fun z hz => (nomatch hz), ⟨fun x u n h => ?_, fun x I h => ?_⟩, fun x I h => ?_, fun x n m => ?_⟩⟩
    · first
        | exact ht
        | exact PSs.nox ht
    · have hne : x ≠ p := fun z => by rw [z, rmv_at] at h; cases h
      rw [rmv_ne hne] at h
      exact h
    · have hne : x ≠ p := fun z => by rw [z, unOwn_at] at h; cases h
      rw [unOwn_ne hne] at h
      exact hh x I h
    · have hne : x ≠ p := fun z => by rw [z, unOwn_at] at h; cases h
      rw [unOwn_ne hne] at h
      exact h
    · by_cases hne : x = p
      · rw [hne]
        exact rmv_at
      · rw [unOwn_ne hne] at n
        exact absurd n m
end
section
variable {K : PySem.W.Frag} {Δ0 : Gh} {H0 : Hp} {Γ Γ' : Own} {F : List (V × Cell)} {ρ : Z.Env} {te ta tk tx : TE} {tA : TA} {σ : L2.St} {H : Hp} {D : Ends}
theorem wp_retU {p : Addr} {o' : HO} {R : Int → Prop} {c : Int} (hf : FinU Δ0 H0 p o' R D) (hr : R c) (h : Ev K ((p, ObIs o') :: Γ) te ρ (Is c)) : Wp K Δ0 H0 ((p, ObIs o') :: Γ) F ρ (tRet te) D := fun σ H st => by
  refine ev_run (te := te) h st fun H1 st1 => ?_
  have cp := stt_cell List.mem_cons_self st1
  obtain ⟨Δ, s, hh, e, f, e0, s1, s2⟩ := st1
  exact hf H1 c hr e0 cp
/-- f(..) of such a def, p the first of one's own -/
theorem callU_run {G : Own → List Cell → Addr → HO → HO → (Int → Prop) → Prop} {p : Addr} {o o' : HO} {R : Int → Prop} {cs : List Cell} {E : XK} {Q : V → Hp → Prop} (ow : OwnP Δ0 Γ p) (st : Stt K Δ0 H0 ((p, ObIs o) :: Γ) F ρ σ H) (ha : EvA K ((p, ObIs o) :: Γ) tA ρ (Is cs)) (hg : G Γ cs p o o' R)
    (k : ∀ H' c, R c → Stt K Δ0 H0 ((p, ObIs o') :: Γ) F ρ σ H' → Q (.int c) H') : tCall (spU K G) [] E tA σ H Q := by
  obtain ⟨Δ, s, hh, e, f, e0, s1, s2⟩ := st
  refine ha Δ σ H _ s hh e fun vs H1 cs' pcs e1 r => ?_
  have ec : cs' = cs := pcs
  subst ec
  refine ⟨Γ, Δ, cs', p, o, o', R, hg, s, ow.ne, e1.2, by rw [List.append_nil]; exact r, fun H' c hc e2 hp => k H' c hc ?_⟩
  have hΔ : Δ p = some (ObIs o) := s _ List.mem_cons_self
  have off : ∀ {a : Addr}, Δ a = none → a ≠ p := fun n z => by
    rw [z, hΔ] at n
    cases n
  have off0 : ∀ {a : Addr} {I}, Δ0 a = some I → a ≠ p := fun q z => by
    rw [z, ow.n0] at q
    cases q
  have kp : Keep Δ H1 H' := fun a u n q => e2.1 a u (by rw [unOwn_ne (off n)]; exact n) (by rw [rmv_ne (off n)]; exact q)
  have wk : ∀ {H : Hp} x u, H x = some u → Δ x = none → ghI Δ p (ObIs o') x = none := fun x u _ n => by
    rw [ghI_other (off n)]
    exact n
  have e01 := ext0 e0 s1 s2 e1
  refine ⟨ghI Δ p (ObIs o'), fun q hq => ?_, fun a J ha => ?_, ((e.mono e1.1).mono kp).weak wk, fun q hq => q.2.r.weak wk (q.2.r.mono kp (q.2.r.mono e1.1 (f q hq))), ⟨fun a u n q => ?_, fun a I q => ?_⟩, fun x I q => ?_, fun x n m => ?_⟩
  · rcases List.mem_cons.mp hq with z | z
    · rw [z]; exact ghI_self
    · rw [ghI_other (ow.ne q z)]; exact s q (List.mem_cons_of_mem _ z)
  · by_cases z : a = p
    · subst z
      rw [ghI_self] at ha
      cases ha
      exact ⟨o', hp, rfl⟩
    · rw [ghI_other z] at ha
      exact e2.2 a J (by rw [unOwn_ne z]; exact ha)
  · have h1 := e01.1 a u n q
    have na : Δ a = none := by
      cases w : Δ a with
      | none => rfl
      | some I =>
        rw [s2 a n (by rw [w]; exact fun z => by cases z)] at q
        cases q
    exact kp a u na h1
  · exact e2.2 a I (by rw [unOwn_ne (off0 q)]; exact s1 a I q)
  · rw [ghI_other (off0 q)]
    exact s1 x I q
  · by_cases z : x = p
    · subst z
      exact s2 x n (by rw [hΔ]; exact fun z => by cases z)
    · rw [ghI_other z] at m
      exact s2 x n m
/-- len(d), the dict one's own -/
theorem ev_lenD {d : Addr} {kvs : List (Key × V)} (hm : (d, ObIs (.dK kvs)) ∈ Γ) (h : Ev K Γ te ρ (Is (⟨d⟩ : Loc))) : Ev K Γ (tCB (fun xs H Q => ∃ a kvs, xs = [V.ref a] ∧ H a = some (.dK kvs) ∧ Q (.int kvs.length) H) (tCons te tNil)) ρ (Is (kvs.length : Int)) := fun Δ σ H Q s hh e k =>
  h Δ σ H _ s hh e fun v H1 a pa e1 r => by
    have ea : a = ⟨d⟩ := pa
    subst ea
    have ev : v = .ref d := r
    subst ev
    obtain ⟨u, hu, iu⟩ := e1.2 d _ (s _ hm)
    have iu' : u = HO.dK kvs := iu
    subst iu'
    exact ⟨d, kvs, rfl, hu, k _ H1 _ rfl e1 rfl⟩
/-- d.update(e), d one's own, e a new dict; the last of a block -/
theorem wp_updD {p : Addr} {kvs more : List (Key × V)} (ow : OwnP Δ0 Γ p) (ho : Ev K ((p, ObIs (.dK kvs)) :: Γ) ta ρ (Is (⟨p⟩ : Loc))) (h : EvN K ((p, ObIs (.dK kvs)) :: Γ) te ρ (ObIs (.dK more))) (hl : kvs.length + more.length ≤ 100000)
    (k : Wp K Δ0 H0 ((p, ObIs (.dK (mergeK kvs more))) :: Γ) F ρ tNext D) : Wp K Δ0 H0 ((p, ObIs (.dK kvs)) :: Γ) F ρ (tDrop (tBM K "dict" rUpd ta (tCons te tNil))) D := fun σ H st => by
  refine ev_run (te := ta) ho st fun H1 st1 => ?_
  have c1 := stt_cell List.mem_cons_self st1
  refine ⟨.inr (.inr (.inl ⟨rfl, .inl ⟨_, c1⟩⟩)), ?_⟩
  obtain ⟨Δ, s, hh, e, f, e0, s1, s2⟩ := st1
  refine h Δ σ H1 _ s hh e fun d H2 o io hd nd e2 hdo => ?_
  have eo : o = HO.dK more := io
  subst eo
  have st2 : Stt K Δ0 H0 ((p, ObIs (.dK kvs)) :: Γ) F ρ σ H2 := ⟨Δ, s, e2.2, e.mono e2.1, fun q hq => q.2.r.mono e2.1 (f q hq), ext0 e0 s1 s2 e2, s1, s2⟩
  have pd : p ≠ d := fun z => by rw [z, hd] at c1; cases c1
  exact ⟨p, d, kvs, more, rfl, rfl, pd, stt_cell List.mem_cons_self st2, hdo, Nat.le_trans hl (by decide), k σ _ (own_putO ow st2).2⟩
end
end Z

set_option Elab.async false
set_option linter.all false
set_option maxRecDepth 100000
set_option maxHeartbeats 1000000
/-! a dict of dicts of one's own: laid, asked, changed within, walked to the end -/
namespace Z
open PySem PySem.Spec PyProof.Rows L2 Zd
def kvB0 (l : List Nat) : List (Key × V) := l.map fun c => (.inl ((c : Nat) : Int), .bl true)
def obD (l : List Nat) : HO := .dK (kvB0 l)
structure Nz where
  p : Addr
  es : List Ent
instance : Rp Nz where
  rp K Δ H v a := v = .ref a.p ∧ Δ a.p = none ∧ (∃ od, H a.p = some (.frz od (.dK (outV a.es)))) ∧ ∀ e ∈ a.es, Δ e.2.1 = none ∧ ∃ od, H e.2.1 = some (.frz od (obD e.2.2))
  mono k h := ⟨h.1, h.2.1, let ⟨od, e⟩ := h.2.2.1; ⟨od, k _ _ h.2.1 e⟩, fun e he => let h1 := h.2.2.2 e he; ⟨h1.1, let ⟨od, q⟩ := h1.2; ⟨od, k _ _ h1.1 q⟩⟩⟩
  weak w h := ⟨h.1, let ⟨od, e⟩ := h.2.2.1; w _ _ e h.2.1, h.2.2.1, fun e he => let h1 := h.2.2.2 e he; ⟨let ⟨od, q⟩ := h1.2; w _ _ q h1.1, h1.2⟩⟩
structure Nzo where
  p : Addr
  od : Obj
  es : List Ent
instance : Rp Nzo where
  rp K Δ H v a := v = .ref a.p ∧ Δ a.p = none ∧ H a.p = some (.frz a.od (.dK (outV a.es))) ∧ ∀ e ∈ a.es, Δ e.2.1 = none ∧ ∃ od, H e.2.1 = some (.frz od (obD e.2.2))
  mono k h := ⟨h.1, h.2.1, k _ _ h.2.1 h.2.2.1, fun e he => let h1 := h.2.2.2 e he; ⟨h1.1, let ⟨od, q⟩ := h1.2; ⟨od, k _ _ h1.1 q⟩⟩⟩
  weak w h := ⟨h.1, w _ _ h.2.2.1 h.2.1, h.2.2.1, fun e he => let h1 := h.2.2.2 e he; ⟨let ⟨od, q⟩ := h1.2; w _ _ q h1.1, h1.2⟩⟩
section
variable {K : PySem.W.Frag} {Δ0 : Gh} {H0 : Hp} {Γ Γ' : Own} {F : List (V × Cell)} {ρ : Z.Env} {te ta tk tx : TE} {tA : TA} {σ : L2.St} {H : Hp} {D : Ends} {tz : TS}
theorem stt_set {i : Nat} {v : V} {c : Cell} (hi : i < ρ.length) (hc : ∀ (Δ : Gh), Sat Γ Δ → Hold Δ H → c.rp K Δ H v) (st : Stt K Δ0 H0 Γ F ρ σ H) : Stt K Δ0 H0 Γ F (ρ.set i (some c)) (σ.set i (some v)) H := by
  obtain ⟨Δ, s, hh, e, f, r⟩ := st
  exact ⟨Δ, s, hh, e.set hi (hc Δ s hh), f, r⟩
theorem stt_unown {d : Addr} {u : HO} (ow : OwnP Δ0 Γ d) (st : Stt K Δ0 H0 ((d, ObIs u) :: Γ) F ρ σ H) :
    H d = some u ∧ ∀ od, Stt K Δ0 H0 Γ ((.ref d, ⟨(⟨d, u⟩ : Fz)⟩) :: F) ρ σ (upd H d (.frz od u)) := by
  obtain ⟨Δ, s, hh, e, f, e0, s1, s2⟩ := st
  have hd := s _ List.mem_cons_self
  obtain ⟨o, ho, io⟩ := hh d _ hd
  have eo : o = u := io
  subst eo
  have nu : ∀ {a : Addr}, Δ a = none → a ≠ d := fun n z => by
    rw [z, hd] at n
    cases n
  have n0 : ∀ {a : Addr} {I}, Δ0 a = some I → a ≠ d := fun q z => by
    rw [z, ow.n0] at q
    cases q
  have kp : ∀ od, Keep Δ H (upd H d (.frz od o)) := fun od a v na q => by
    rw [upd_ne (nu na)]
    exact q
  have wk : ∀ {H : Hp} x o', H x = some o' → Δ x = none → unOwn Δ d x = none := fun x o' _ n => by
    by_cases z : x = d
    · rw [z]; exact unOwn_at
    · rw [unOwn_ne z]; exact n
  refine ⟨ho, fun od => ⟨unOwn Δ d, fun q hq => by rw [unOwn_ne (ow.ne q hq)]; exact s q (List.mem_cons_of_mem _ hq), fun a J ha => ?_, (e.mono (kp od)).weak wk, fun q hq => ?_, ⟨fun a o' n q => ?_, fun a I q => ?_⟩, fun x I q => ?_, fun x n m => ?_⟩⟩
  · have ne : a ≠ d := fun z => by rw [z, unOwn_at] at ha; cases ha
    rw [unOwn_ne ne] at ha
    rw [upd_ne ne]
    exact hh a J ha
  · rcases List.mem_cons.mp hq with z | z
    · rw [z]
      exact ⟨rfl, unOwn_at, od, upd_same⟩
    · exact q.2.r.weak wk (q.2.r.mono (kp od) (f q z))
  · have hne : a ≠ d := fun z => by
      subst z
      have := s2 a n (by rw [hd]; exact fun z => by cases z)
      rw [q] at this
      cases this
    rw [upd_ne hne]
    exact e0.1 a o' n q
  · obtain ⟨u, hu, iu⟩ := e0.2 a I q
    exact ⟨u, by rw [upd_ne (n0 q)]; exact hu, iu⟩
  · rw [unOwn_ne (n0 q)]
    exact s1 x I q
  · have hne : x ≠ d := fun z => by rw [z, unOwn_at] at m; exact m rfl
    rw [unOwn_ne hne] at m
    exact s2 x n m
theorem locks_run {Q : Hp → Prop} : ∀ (ds : List (Addr × HO)) (F : List (V × Cell)) (H : Hp), (ds.map (·.1)).Nodup → (∀ d ∈ ds, OwnP Δ0 Γ d.1 ∧ Mut (some d.2)) → Stt K Δ0 H0 (ds.map (fun d => (d.1, ObIs d.2)) ++ Γ) F ρ σ H →
    (∀ H' F', (∀ f ∈ F, f ∈ F') → (∀ d ∈ ds, (V.ref d.1, (⟨(⟨d.1, d.2⟩ : Fz)⟩ : Cell)) ∈ F') → Stt K Δ0 H0 Γ F' ρ σ H' → Q H') → tLocks Q (ds.map (·.1)) H
  | [], F, H, _, _, st, q => q H F (fun f h => h) (fun d h => nomatch h) st
  | d :: ds, F, H, nd, ho, st, q => by
    rw [List.map_cons, List.nodup_cons] at nd
    have h0 := ho d List.mem_cons_self
    have ow : OwnP Δ0 (ds.map (fun d => (d.1, ObIs d.2)) ++ Γ) d.1 := ⟨h0.1.n0, fun x hx => by
      rcases List.mem_append.mp hx with z | z
      · obtain ⟨y, hy, rfl⟩ := List.mem_map.mp z
        exact fun w => nd.1 (List.mem_map.mpr ⟨y, hy, w⟩)
      · exact h0.1.ne x z⟩
    obtain ⟨hd, st1⟩ := stt_unown ow st
    refine ⟨d.2, hd, h0.2, fun od => locks_run ds _ _ nd.2 (fun x hx => ho x (List.mem_cons_of_mem _ hx)) (st1 od) fun H' F' h1 h2 st2 => q H' F' (fun f hf => h1 f (List.mem_cons_of_mem _ hf)) (fun x hx => ?_) st2⟩
    rcases List.mem_cons.mp hx with z | z
    · rw [z]
      exact h1 _ List.mem_cons_self
    · exact h2 x z
/-- all of them kept still -/
theorem wp_retFrz {g : Addr} {es : List Ent} {i : Nat} {TEf : TE → TE} (np : NestP Δ0 Γ g es) (hi : ρ[i]? = some (some ⟨(⟨g⟩ : Loc)⟩)) (hT : ∀ (σ : L2.St) (H : Hp) (Q : VK) (ds : List Addr), σ[i]? = some (some (.ref g)) → tLocks (fun H' => TEf (tVar i) σ H' Q) ds H → TEf (tFrzs (tVar i)) σ H Q)
    (w : ∀ F', Wp K Δ0 H0 Γ F' (ρ.set i (some ⟨(⟨g, es⟩ : Nz)⟩)) (tRet (TEf (tVar i))) D) : Wp K Δ0 H0 (OwnN g obD es Γ) F ρ (tRet (TEf (tFrzs (tVar i)))) D := fun σ H st => by
  have hv : σ[i]? = some (some (.ref g)) := by
    obtain ⟨Δ, s, hh, e, r⟩ := st
    obtain ⟨v, hv, rv⟩ := e.2 i _ hi
    have ev : v = .ref g := rv
    rw [hv, ev]
  have ilt : i < ρ.length := by
    rw [List.getElem?_eq_some_iff] at hi
    exact hi.1
  refine hT σ H D.rt (((g, HO.dK (outV es)) :: es.map fun e => (e.2.1, obD e.2.2)).map (·.1)) hv ?_
  have em : ((es.map fun e => (e.2.1, obD e.2.2)).map (·.1)) = es.map (·.2.1) := by rw [List.map_map]; rfl
  refine locks_run (K := K) (Δ0 := Δ0) (H0 := H0) (Γ := Γ) (ρ := ρ) (σ := σ) ((g, HO.dK (outV es)) :: es.map fun e => (e.2.1, obD e.2.2)) F H ?_ (fun d hd => ?_) ?_ fun H' F' _ h2 st2 => ?_
  · rw [List.map_cons, em, List.nodup_cons]
    refine ⟨fun z => ?_, np.nd⟩
    obtain ⟨e, he, e1⟩ := List.mem_map.mp z
    exact (np.a0 e he).2 e1
  · rcases List.mem_cons.mp hd with z | z
    · rw [z]
      exact ⟨np.g0, trivial⟩
    · obtain ⟨e, he, rfl⟩ := List.mem_map.mp z
      exact ⟨(np.a0 e he).1, trivial⟩
  · refine stt_mem (fun q hq => ?_) st
    rw [List.map_cons, List.map_map] at hq
    exact hq
  · refine w F' σ H' ?_
    obtain ⟨Δ, s, hh, e, f, r⟩ := st2
    have hg := f _ (h2 _ List.mem_cons_self)
    have he := fun e (he : e ∈ es) => f _ (h2 (e.2.1, obD e.2.2) (List.mem_cons_of_mem _ (List.mem_map.mpr ⟨e, he, rfl⟩)))
    have e3 := e.set (c := ⟨(⟨g, es⟩ : Nz)⟩) (v := .ref g) ilt ⟨rfl, hg.2.1, hg.2.2, fun x hx => ⟨(he x hx).2.1, (he x hx).2.2⟩⟩
    have es' : σ.set i (some (.ref g)) = σ := List.ext_getElem? fun j => by
      by_cases hj : i = j
      · subst hj
        rw [List.getElem?_set_self (by rw [e.1]; exact ilt), hv]
      · rw [List.getElem?_set_ne hj]
    rw [es'] at e3
    exact ⟨Δ, s, hh, e3, f, r⟩
/-- the values of a dict of dicts, all kept still -/
theorem src_valsN {j : Nat} {p : Addr} {es : List Ent} {d0 : Ent} (h : Ev K Γ te ρ (Is (⟨p, es⟩ : Nz))) (hj : j < ρ.length) : Src K Γ (iVals te) (gName j) ρ [j] es.length (fun i ρ => ρ.set j (some ⟨(⟨(es.getD i d0).2.1, obD (es.getD i d0).2.2⟩ : Fz)⟩)) := fun Δ σ H R s hh e k =>
  h Δ σ H _ s hh e fun v H' a pa e1 r => by
    have ea : a = ⟨p, es⟩ := pa
    subst ea
    obtain ⟨ev, n, ⟨od, hd⟩, hes⟩ := id r
    have ol : (outV es).length = es.length := List.length_map ..
    refine ⟨p, od, outV es, ev, hd, k _ H' v ⟨(⟨p, od, es⟩ : Nzo)⟩ e1 ⟨ev, n, hd, hes⟩ (fun Δ' H2 r2 => ?_) fun Δ' i H2 x H3 hi h2 r2 y => ?_⟩
    · obtain ⟨_, _, hd2, _⟩ := (show Rp.rp K Δ' H2 v (⟨p, od, es⟩ : Nzo) from r2)
      exact ⟨fun i hi => ⟨hd2, by rw [ol]; exact hi⟩, hd2, by rw [ol]; exact Nat.le_refl _⟩
    · obtain ⟨_, _, _, he2⟩ := (show Rp.rp K Δ' H2 v (⟨p, od, es⟩ : Nzo) from r2)
      obtain ⟨rfl, kk, hy⟩ := (show H3 = H2 ∧ ∃ kk, (outV es)[i]? = some (kk, x) from y)
      have eg : es.getD i d0 = es[i] := by rw [List.getD_eq_getElem?_getD, List.getElem?_eq_getElem hi]; rfl
      have ex : x = .ref es[i].2.1 := by
        unfold outV at hy
        rw [List.getElem?_map, List.getElem?_eq_getElem hi] at hy
        cases hy
        rfl
      subst ex
      have h3 := he2 es[i] (List.getElem_mem hi)
      simp only [eg]
      exact ⟨Ext.refl h2, fun σ' ρ' Qs hl e' qq => qq _ (e'.set (c := ⟨(⟨es[i].2.1, obD es[i].2.2⟩ : Fz)⟩) (by rw [hl]; exact hj) ⟨rfl, h3.1, h3.2⟩) (set_off (js := [j]) (List.mem_singleton_self j)).1 (set_off (js := [j]) (List.mem_singleton_self j)).2⟩
/-- k in g -/
theorem ev_inN {g : Addr} {ob : List Nat → HO} {es : List Ent} {k : Nat} (kd : (es.map (·.1)).Nodup) (hk : Ev K (OwnN g ob es Γ) tk ρ (Is (k : Int))) (ho : Ev K (OwnN g ob es Γ) ta ρ (Is (⟨g⟩ : Loc))) : Ev K (OwnN g ob es Γ) (tDIn tk ta) ρ (Is (decide (k ∈ es.map (·.1)))) := fun Δ σ H Q s hh e q =>
  hk Δ σ H _ s hh e fun v H1 a pa e1 r1 => ho Δ σ H1 _ s e1.2 (e.mono e1.1) fun w H2 b pb e2 r2 => by
    have ea : a = (k : Int) := pa
    subst ea
    have ev : v = .int k := r1
    subst ev
    have eb : b = ⟨g⟩ := pb
    subst eb
    have ew : w = .ref g := r2
    subst ew
    obtain ⟨u, hu, iu⟩ := e2.2 g _ (s _ ownN_g)
    have iu' : u = HO.dK (outV es) := iu
    subst iu'
    refine ⟨g, _, rfl, DGet.k (k := .inl ((k : Nat) : Int)) hu, ?_⟩
    have eb : (valV (outV es) (.inl ((k : Nat) : Int) : Key)).isSome = decide (k ∈ es.map (·.1)) := by
      by_cases c : k ∈ es.map (·.1)
      · obtain ⟨x, hx, rfl⟩ := List.mem_map.mp c
        rw [outV_get kd hx, decide_eq_true c]
        rfl
      · rw [outV_none c, decide_eq_false c]
        rfl
    rw [eb]
    exact q _ H2 _ rfl (e1.trans e2) rfl
theorem nest_focus {g a : Addr} {ob : List Nat → HO} {l r : List Ent} {k : Nat} {cs : List Nat} (np : NestP Δ0 Γ g (l ++ (k, a, cs) :: r)) : OwnP Δ0 ((g, ObIs (.dK (outV (l ++ (k, a, cs) :: r)))) :: ((l ++ r).map (fun e => (e.2.1, ObIs (ob e.2.2))) ++ Γ)) a ∧
    ∀ cs', NestP Δ0 Γ g (l ++ (k, a, cs') :: r) ∧ ∀ q, q ∈ OwnN g ob (l ++ (k, a, cs') :: r) Γ ↔ q ∈ (a, ObIs (ob cs')) :: ((g, ObIs (.dK (outV (l ++ (k, a, cs) :: r)))) :: ((l ++ r).map (fun e => (e.2.1, ObIs (ob e.2.2))) ++ Γ)) := by
  have nd := np.nd
  rw [List.map_append, List.map_cons, List.nodup_append] at nd
  have h0 := np.a0 (k, a, cs) (List.mem_append_right _ List.mem_cons_self)
  refine ⟨⟨h0.1.n0, fun q hq => ?_⟩, fun cs' => ⟨⟨np.g0, fun e he => ?_, ?_, ?_⟩, fun q => ?_⟩⟩
  · rcases List.mem_cons.mp hq with z | z
    · rw [z]
      exact fun w => h0.2 w.symm
    · rcases List.mem_append.mp z with z | z
      · obtain ⟨e, he, rfl⟩ := List.mem_map.mp z
        intro w
        have w' : e.2.1 = a := w
        rcases List.mem_append.mp he with y | y
        · exact nd.2.2 e.2.1 (List.mem_map.mpr ⟨e, y, rfl⟩) a List.mem_cons_self w'
        · exact (List.nodup_cons.mp nd.2.1).1 (by rw [← w']; exact List.mem_map.mpr ⟨e, y, rfl⟩)
      · exact h0.1.ne q z
  · rcases List.mem_append.mp he with y | y
    · exact np.a0 e (List.mem_append_left _ y)
    · rcases List.mem_cons.mp y with y | y
      · rw [y]
        exact h0
      · exact np.a0 e (List.mem_append_right _ (List.mem_cons_of_mem _ y))
  · have := np.nd
    rw [List.map_append] at this ⊢
    exact this
  · have := np.kd
    rw [List.map_append] at this ⊢
    exact this
  · have eo : outV (l ++ (k, a, cs') :: r) = outV (l ++ (k, a, cs) :: r) := by
      unfold outV
      rw [List.map_append, List.map_append]
      rfl
    unfold OwnN
    rw [eo]
    simp only [List.mem_cons, List.mem_append, List.map_append, List.map_cons]
    constructor
    · rintro (z | (z | z | z) | z)
      · exact .inr (.inl z)
      · exact .inr (.inr (.inl (.inl z)))
      · exact .inl z
      · exact .inr (.inr (.inl (.inr z)))
      · exact .inr (.inr (.inr z))
    · rintro (z | z | (z | z) | z)
      · exact .inr (.inl (.inr (.inl z)))
      · exact .inl z
      · exact .inr (.inl (.inl z))
      · exact .inr (.inl (.inr (.inr z)))
      · exact .inr (.inr z)
/-- name = g.setdefault(k, {}) -/
theorem wp_setdD {g : Addr} {es : List Ent} {k i : Nat} (np : NestP Δ0 Γ g es) (hl : es.length < 50000) (hi : i < ρ.length) (ho : Ev K (OwnN g obD es Γ) ta ρ (Is (⟨g⟩ : Loc))) (hk : Ev K (OwnN g obD es Γ) tk ρ (Is (k : Int)))
    (q : ∀ (l r : List Ent) (p : Addr) (cs : List Nat), NestP Δ0 Γ g (l ++ (k, p, cs) :: r) → (l ++ (k, p, cs) :: r = es ∨ (l = es ∧ r = [] ∧ cs = [] ∧ k ∉ es.map (·.1))) → Wp K Δ0 H0 (OwnN g obD (l ++ (k, p, cs) :: r) Γ) F (ρ.set i (some ⟨(⟨p⟩ : Loc)⟩)) tz D) :
    Wp K Δ0 H0 (OwnN g obD es Γ) F ρ (tSeq (tAsg (tDSetd ta tk tDNewK) (gName i)) tz) D := fun σ H st =>
  setd_run (cs0 := []) np st hl ho hk (fun H R k p hp => k p hp) fun l r p cs H' np' st' hor => q l r p cs np' hor _ H' (stt_set hi (fun Δ _ _ => rfl) st')
/-- name = name + f(..), f changes one of the inner dicts -/
theorem wp_addU {G : Own → List Cell → Addr → HO → HO → (Int → Prop) → Prop} {g p : Addr} {l r : List Ent} {k i : Nat} {cs cs' : List Nat} {R : Int → Prop} {args : List Cell} {E : XK} {m : Int} (np : NestP Δ0 Γ g (l ++ (k, p, cs) :: r)) (hi : i < ρ.length)
    (hm : ∀ Γ', Ev K Γ' ta ρ (Is m)) (ha : ∀ Γ', EvA K Γ' tA ρ (Is args)) (hg : ∀ Γ', G Γ' args p (obD cs) (obD cs') R)
    (q : ∀ c, R c → NestP Δ0 Γ g (l ++ (k, p, cs') :: r) → Wp K Δ0 H0 (OwnN g obD (l ++ (k, p, cs') :: r) Γ) F (ρ.set i (some ⟨m + c⟩)) tz D) :
    Wp K Δ0 H0 (OwnN g obD (l ++ (k, p, cs) :: r) Γ) F ρ (tSeq (tAsg (tOp (rI0 fun i j => .int (i + j)) ta (tCall (spU K G) [] E tA)) (gName i)) tz) D := fun σ H st => by
  obtain ⟨ow, h2⟩ := nest_focus (ob := obD) np
  refine ev_run (te := ta) (hm _) st fun H1 st1 => ?_
  have st2 := stt_mem (fun x hx => ((h2 cs).2 x).mpr hx) st1
  refine callU_run ow st2 (ha _) (hg _) fun H2 c hc st3 => ⟨m, c, rfl, rfl, ?_⟩
  have st4 := stt_mem (fun x hx => ((h2 cs').2 x).mp hx) st3
  exact q c hc (h2 cs').1 _ H2 (stt_set hi (fun Δ _ _ => rfl) st4)
section
variable {t : TS}
/-- the same within another loop -/
theorem wp_forPN {β : Type} {P : β → Prop} {wi : TI} {g : TG} {js : List Nat} {n : β → Nat} {st : β → Nat → Z.Env → Z.Env} (Iv : β → Nat → Own → Z.Env → Prop) (S : SrcP K Γ wi g ρ js P n st) (h0 : ∀ b, P b → Iv b 0 Γ ρ) (hl : ∀ b i Γ' ρ', Iv b i Γ' ρ' → ρ'.length = ρ.length)
    (hs : ∀ b, P b → ∀ i Γ' ρ' F', i < n b → Iv b i Γ' ρ' → Wp K Δ0 H0 Γ' F' (st b i ρ') t { D with nx := At K Δ0 H0 F' (Iv b) (i + 1), ct := At K Δ0 H0 F' (Iv b) (i + 1), bk := tz D })
    (hd : ∀ b, P b → ∀ Γ' ρ', Iv b (n b) Γ' ρ' → Wp K Δ0 H0 Γ' F ρ' tz D) : Wp K Δ0 H0 Γ F ρ (tSeq (tFor wi g t) tz) D := fun σ H ⟨Δ, s, hh, e, f, e0, s1, s2⟩ =>
  S Δ σ H _ s hh e fun b J H1 pv pc hb e1 rp0 hgo hyld => by
    refine ⟨fun i m σ2 H2 => m = n b - i ∧ i ≤ n b ∧ At K Δ0 H0 ((pv, pc) :: F) (Iv b) i σ2 H2, ⟨n b, by simp, Nat.zero_le _, Γ, ρ, h0 b hb, Δ, s, e1.2, e.mono e1.1, ?_, ext0 e0 s1 s2 e1, s1, s2⟩, ?_⟩
    · intro q hq
      rcases List.mem_cons.mp hq with z | z
      · rw [z]; exact rp0
      · exact q.2.r.mono e1.1 (f q z)
    · rintro i m σ2 H2 ⟨rfl, hi, Γ', ρ', iv, st2⟩
      obtain ⟨Δ', s', hh', e', f', e0', s1', s2'⟩ := id st2
      have rp2 : pc.rp K Δ' H2 pv := f' (pv, pc) List.mem_cons_self
      have hg := hgo Δ' H2 rp2
      by_cases hlt : i < n b
      · refine .inr ⟨hg.1 i hlt, At K Δ0 H0 ((pv, pc) :: F) (Iv b) (i + 1), fun σ3 H3 a => ⟨n b - (i + 1), by omega, rfl, hlt, a⟩, fun x H3 hy => ?_⟩
        obtain ⟨e3, hput⟩ := hyld Δ' i H2 x H3 hlt hh' rp2 hy
        refine hput σ2 ρ' _ (hl b i Γ' ρ' iv) (e'.mono e3.1) fun σ3 env3 _ _ => ?_
        exact hs b hb i Γ' ρ' _ hlt iv σ3 H3 ⟨Δ', s', e3.2, env3, fun q hq => q.2.r.mono e3.1 (f' q hq), ext0 e0' s1' s2' e3, s1', s2'⟩
      · have ei : i = n b := by omega
        subst ei
        exact .inl ⟨hg.2, hd b hb Γ' ρ' iv σ2 H2 ⟨Δ', s', hh', e', fun q hq => f' q (List.mem_cons_of_mem _ hq), e0', s1', s2'⟩⟩
end
/-- name = {0: {0: True}} -/
theorem wp_disp2 {i : Nat} (hi : i < ρ.length) (q : ∀ g p, NestP Δ0 Γ g [(0, p, [0])] → Wp K Δ0 H0 (OwnN g obD [(0, p, [0])] Γ) F (ρ.set i (some ⟨(⟨g⟩ : Loc)⟩)) tz D) :
    Wp K Δ0 H0 Γ F ρ (tSeq (tAsg (tDisp [(tC (.int 0), tDisp [(tC (.int 0), tC (.bl true))])]) (gName i)) tz) D := fun σ H st => fun g hg => by
  obtain ⟨og, st1⟩ := stt_new (o := .dK []) hg st
  intro p hp
  obtain ⟨op, st2⟩ := stt_new (o := .dK []) hp st1
  refine ⟨upd_same, [(.inl 0, .bl true)], rfl, by show 1 ≤ 15; decide, ?_⟩
  have st3 := (own_putO (o2 := obD [0]) op st2).2
  have pg : p ≠ g := fun z => op.ne _ List.mem_cons_self z.symm
  have c3 := stt_cell (List.mem_cons_of_mem _ List.mem_cons_self) st3
  refine ⟨c3, [(.inl 0, .ref p)], rfl, by show 1 ≤ 15; decide, ?_⟩
  have og2 : OwnP Δ0 ((p, ObIs (obD [0])) :: Γ) g := ⟨og.n0, fun x hx => by
    rcases List.mem_cons.mp hx with z | z
    · rw [z]; exact pg
    · exact og.ne x z⟩
  have st4 := (own_putO (o2 := .dK (outV [(0, p, [0])])) og2 (stt_mem (fun x hx => by
    rcases List.mem_cons.mp hx with z | z
    · rw [z]; exact List.mem_cons_of_mem _ List.mem_cons_self
    · rcases List.mem_cons.mp z with z | z
      · rw [z]; exact List.mem_cons_self
      · exact List.mem_cons_of_mem _ (List.mem_cons_of_mem _ z)) st3)).2
  refine q g p ⟨og, fun e he => ?_, List.nodup_cons.mpr ⟨List.not_mem_nil, List.nodup_nil⟩, List.nodup_cons.mpr ⟨List.not_mem_nil, List.nodup_nil⟩⟩ _ _ (stt_set hi (fun Δ _ _ => rfl) st4)
  rw [List.mem_singleton.mp he]
  exact ⟨⟨op.n0, fun x hx => op.ne x (List.mem_cons_of_mem _ hx)⟩, pg⟩
end
end Z

set_option Elab.async false
set_option linter.all false
set_option maxRecDepth 100000
set_option maxHeartbeats 4000000
/-! sorted of a dict of texts, of any length; own dicts of texts set and asked; while -/
namespace L2
open PySem PySem.Spec PyProof.Rows
/-- sorted(d), its keys texts, any number of them -/
def rSortedDT : List V → Hp → VK → Prop := fun xs H Q => ∃ (a : Addr) (kvs : List (Key × V)) (ks : List Str), xs = [.ref a] ∧ Rd H a (.dK kvs) ∧ kvs.map (·.1) = ks.map Sum.inr ∧
  ∀ ys p, ys.Perm ks → Zs.Rise ys → H p = none → Q (.ref p) (upd H p (.lst (ys.map V.str)))
theorem cr_sortedDT {X : Cx} (hcalm : X.calm = true) : CallR X (.builtin "sorted") rSortedDT := by
  intro pins s σ H xs us Q I r q
  obtain ⟨a, kvs, ks, ex, hd, hks, q⟩ := q
  subst ex
  obtain ⟨u, eu, rx⟩ := vals1 r
  subst eu
  cases rx
  obtain ⟨z, lo, vs, rel, dd⟩ := dk_rd I.hok hd
  obtain ⟨ep, hat⟩ := dd.dictAt
  have hkeys : vs.map (·.1) = ks.map Sum.inr := rel.keys.symm.trans hks
  have hl : vs.length = ks.length := by
    have e := congrArg List.length hkeys
    rw [List.length_map, List.length_map] at e
    exact e
  have hl2 : kvs.length = vs.length := Paired.length rel
  have h16 : vs.length ≤ sizeLine := by omega
  refine Calls.call_function_entry PyProof.Rows.kind_sorted PyProof.Rows.plain_sorted PyProof.Rows.entry_sorted (PyProof.Rows.args_sorted1 _) ?_
  unfold Builtin.«sorted»
  refine wpAny_bind (m := checkCount "sorted" 1 1 _) (wpAny_pure ?_)
  refine wpAny_bind (PySem.W.kdu_collect (A := X.A.in1) (PySem.W.kdl_dict (knd := mixKind X.prog X.w) (kvs := vs) (ep := ep) lo) (I.ok.hd hcalm) hat h16 fun h' tk acc hk hacc => ?_)
  have hal : acc.toList.length = ks.length := by rw [Array.length_toList, hacc.1, hl]
  have hS : StrsAre acc.toList ks := strs_at hal fun j v e => by
    obtain ⟨k, x, e1, e2⟩ := hacc.2 j v (by rw [← Array.getElem?_toList]; exact e)
    have e3 : (vs.map (·.1))[j]? = some k := by rw [List.getElem?_map, e1]; all_goals rfl
    rw [hkeys, List.getElem?_map] at e3
    cases e4 : ks[j]? with
    | none => rw [e4] at e3; cases e3
    | some y =>
      rw [e4] at e3
      have e5 : Sum.inr y = k := Option.some.inj e3
      subst e5
      obtain ⟨t, ev⟩ := Value.isStrOf_shape (x := y) (v := v) e2
      exact ⟨y, t, rfl, ev⟩
  have hsz : acc.toList.length ≤ sizeLine := by rw [hal, ← hl]; exact h16
  have I1 : Inv X pins σ H { s with heap := h', toks := tk } := I.kept hk
  refine wpAny_bind (wpAny_newList ?_ hsz)
  have hoL : (h'.push (seqObj "list" acc.toList.toArray 0)).get? h'.objs.size = some (seqObj "list" acc.toList.toArray 0) := Heap.get?_push_size _ rfl
  show wpAny _ _ _ _ _ { s with heap := h'.push (seqObj "list" acc.toList.toArray 0), toks := tk }
  refine wpAny_bind (wpAny_holding (wpAny_call_entry PyProof.Rows.slot_list_sort ⟨_, hoL, rfl⟩ PyProof.Rows.entry_list_sort
    (SrtO.list_sort_ord Zs.swo_txt (s := { s with heap := h'.push (seqObj "list" acc.toList.toArray 0), toks := tk }) hoL hsz (fun h2 => Zs.txt_sortable hS h2) fun out h1 h2 => ⟨_, rfl, ?_⟩)
    (PyProof.Rows.args_list_sort _)))
  obtain ⟨k1, k2, k3⟩ := Zs.txt_out hS h1 h2
  obtain ⟨e', he'⟩ := PyProof.Rows.sortedHeap_at (vs := acc.toList) (out := out.toArray) hoL
  have hlen : ((out.map Zs.tv).map V.str).length ≤ sizeLine := by
    rw [List.length_map, k2.length_eq, ← hl]
    exact h16
  refine wpAny_pure ⟨_, rfl, .ref h'.objs.size, upd H h'.objs.size (.lst ((out.map Zs.tv).map V.str)), I1.laid (t' := tk) (fun b u e => ?_) (Nat.le_refl _)
    (show ObjOk X.prog X.w _ _ _ (.lst ((out.map Zs.tv).map V.str)) from ⟨hlen, out, e', vals_of_strs k1, he'⟩), rfl, q _ _ k2 k3 (I1.hok.fresh (Nat.le_refl _))⟩
  have hb : b < h'.objs.size := Heap.lt_size e
  rw [PyProof.Rows.sortedHeap_old (Nat.ne_of_lt hb) (by rw [size_push']; exact Nat.lt_succ_of_lt hb)]
  exact Heap.get?_push_of_some _ e
end L2
namespace Z
open PySem PySem.Spec PyProof.Rows L2 Zd
section
variable {K : PySem.W.Frag} {Δ0 : Gh} {H0 : Hp} {Γ Γ' : Own} {F : List (V × Cell)} {ρ : Z.Env} {te ta tk tx ti : TE} {tA : TA} {σ : L2.St} {H : Hp} {D : Ends} {tz : TS}
/-- sorted(d), the dict one's own -/
theorem ev_sortedD {d : Addr} {ks : List Tx} (hm : (d, ObIs (.dK (kvT ks))) ∈ Γ) (h : Ev K Γ te ρ (Is (⟨d⟩ : Loc))) : Ev K Γ (tCB rSortedDT (tCons te tNil)) ρ (SortedT ks) := fun Δ σ H Q s hh e k =>
  h Δ σ H _ s hh e fun v H1 a pa e1 r => by
    have ea : a = ⟨d⟩ := pa
    subst ea
    have ev : v = .ref d := r
    subst ev
    obtain ⟨u, hu, iu⟩ := e1.2 d _ (s _ hm)
    have iu' : u = HO.dK (kvT ks) := iu
    subst iu'
    refine ⟨d, kvT ks, ks.map tS, rfl, .inl hu, by unfold kvT; rw [List.map_map, List.map_map]; rfl, fun ns' l hp hr hl => ?_⟩
    have e1' : ns' = (ns'.map fun z => (⟨z.cps.toList⟩ : Tx)).map fun x => (⟨x.s.toArray⟩ : Str) := by
      rw [List.map_map]
      conv => lhs; rw [← List.map_id ns']
      exact List.map_congr_left fun z _ => by cases z; rfl
    refine k _ _ (ns'.map fun z => (⟨z.cps.toList⟩ : Tx)) ⟨?_, ?_⟩ (e1.trans (Ext.new e1.2 hl _)) (new_lst e1.2 hl ?_)
    · have h := hp.map fun z => (⟨z.cps.toList⟩ : Tx)
      rw [List.map_map] at h
      have e2 : (ks.map ((fun z => (⟨z.cps.toList⟩ : Tx)) ∘ tS)) = ks := by
        conv => rhs; rw [← List.map_id ks]
        exact List.map_congr_left fun z _ => by cases z; rfl
      rw [e2] at h
      exact h
    · exact List.pairwise_map.mpr hr
    · have e2 : ns'.map V.str = (ns'.map fun z => (⟨z.cps.toList⟩ : Tx)).map fun x => V.str ⟨x.s.toArray⟩ := by
        conv => lhs; rw [e1']
        rw [List.map_map]
        rfl
      rw [e2]
      have em : (ns'.map fun z => (⟨z.cps.toList⟩ : Tx)) = (ns'.map fun z => (⟨z.cps.toList⟩ : Tx)).map id := (List.map_id _).symm
      conv => rhs; rw [em]
      exact All2.map fun x _ => rfl
def addT (ks : List Tx) (x : Tx) : List Tx := if x ∈ ks then ks else ks ++ [x]
theorem putK_addT {ks : List Tx} {x : Tx} : putK (kvT ks) (.inr (tS x)) (.bl true) = kvT (addT ks x) := by
  unfold putK addT
  rw [any_kvT]
  by_cases h : x ∈ ks
  · rw [decide_eq_true h, if_pos rfl, if_pos h]
    unfold kvT
    rw [List.map_map]
    refine List.map_congr_left fun c _ => ?_
    show (if _ then _ else _) = _
    split <;> rfl
  · rw [decide_eq_false h, if_neg Bool.false_ne_true, if_neg h]
    unfold kvT
    rw [List.map_append]
    rfl
theorem valV_kvT {ks : List Tx} {x : Tx} : (valV (kvT ks) (.inr (tS x) : Key)).isSome = decide (x ∈ ks) := by
  induction ks with
  | nil => rfl
  | cons y ys ih =>
    by_cases e : y = x
    · subst e
      rw [show kvT (y :: ys) = (.inr (tS y), .bl true) :: kvT ys from rfl, valV_pos rfl]
      simp
    · show (valV ((.inr (tS y), .bl true) :: kvT ys) _).isSome = _
      rw [valV_neg (fun z => e (tS_inj.mp (Sum.inr.inj z))), ih]
      have e2 : ¬ x = y := fun z => e z.symm
      simp [e2]
/-- x not in d, d one's own -/
theorem ev_notInT {d : Addr} {ks : List Tx} {x : Tx} (hm : (d, ObIs (.dK (kvT ks))) ∈ Γ) (hx : Ev K Γ tx ρ (Is x)) (ho : Ev K Γ ta ρ (Is (⟨d⟩ : Loc))) : Ev K Γ (tDNotIn tx ta) ρ (Is (!decide (x ∈ ks))) := fun Δ σ H Q s hh e q =>
  hx Δ σ H _ s hh e fun v H1 a pa e1 r1 => ho Δ σ H1 _ s e1.2 (e.mono e1.1) fun w H2 b pb e2 r2 => by
    have ea : a = x := pa
    subst ea
    have ev : v = .str (tS a) := r1
    subst ev
    have eb : b = ⟨d⟩ := pb
    subst eb
    have ew : w = .ref d := r2
    subst ew
    obtain ⟨u, hu, iu⟩ := e2.2 d _ (s _ hm)
    have iu' : u = HO.dK (kvT ks) := iu
    subst iu'
    refine ⟨d, _, rfl, DGet.k (k := .inr (tS a)) hu, ?_⟩
    rw [valV_kvT]
    exact q _ H2 _ rfl (e1.trans e2) rfl
/-- d[x] = True, d one's own; the last of a block -/
theorem wp_putT {p : Addr} {ks : List Tx} {x : Tx} (ow : OwnP Δ0 Γ p) (hl : ks.length < 50000) (hv : Ev K ((p, ObIs (.dK (kvT ks))) :: Γ) te ρ (Is true)) (ho : Ev K ((p, ObIs (.dK (kvT ks))) :: Γ) ta ρ (Is (⟨p⟩ : Loc))) (hx : Ev K ((p, ObIs (.dK (kvT ks))) :: Γ) tx ρ (Is x))
    (k : Wp K Δ0 H0 ((p, ObIs (.dK (kvT (addT ks x)))) :: Γ) F ρ tNext D) : Wp K Δ0 H0 ((p, ObIs (.dK (kvT ks))) :: Γ) F ρ (sDPut ta tx te) D := fun σ H st => by
  refine ev_run (te := te) hv st fun H1 st1 => ?_
  refine ev_run (te := ta) ho st1 fun H2 st2 => ?_
  refine ev_run (te := tx) hx st2 fun H3 st3 => ?_
  refine ⟨p, _, rfl, DPut.k (k := .inr (tS x)) (stt_cell List.mem_cons_self st3) ?_, ?_⟩
  · unfold kvT
    rw [List.length_map]
    exact Nat.lt_trans hl (by decide)
  · have e : putK (kvT ks) (.inr (tS x)) (Flat.val true) = kvT (addT ks x) := putK_addT
    rw [e]
    exact k σ _ (own_putO ow st3).2
/-- list(d) of a dict that is kept still -/
theorem ev_listZ {d : Addr} {ks : List Tx} (h : Ev K Γ te ρ (Is (⟨d, .dK (kvT ks)⟩ : Fz))) : Ev K Γ (tCB (fun xs H Q => ∃ (a : Addr) (kvs : List (Key × V)), xs = [.ref a] ∧ Rd H a (.dK kvs) ∧ ∀ p, H p = none → Q (.ref p) (upd H p (.lst (kvs.map fun kv => kV kv.1)))) (tCons te tNil)) ρ (Is ks) := fun Δ σ H Q s hh e k =>
  h Δ σ H _ s hh e fun v H1 a pa e1 r => by
    have ea : a = ⟨d, .dK (kvT ks)⟩ := pa
    subst ea
    obtain ⟨rfl, n, od, hd⟩ := r
    refine ⟨d, kvT ks, rfl, .inr ⟨_, hd⟩, fun q hq => k _ _ ks rfl (e1.trans (Ext.new e1.2 hq _)) (new_lst e1.2 hq ?_)⟩
    have em : ((kvT ks).map fun kv => kV kv.1) = ks.map Flat.val := by
      unfold kvT
      rw [List.map_map]
      rfl
    rw [em]
    exact all2_flat ks
def AtW (K : PySem.W.Frag) (Δ0 : Gh) (H0 : Hp) (F : List (V × Cell)) (Iv : Nat → Own → Z.Env → Prop) (m : Nat) : L2.St → Hp → Prop := fun σ H => ∃ m', m' < m ∧ ∃ Γ' ρ', Iv m' Γ' ρ' ∧ Stt K Δ0 H0 Γ' F ρ' σ H
theorem wp_while {c : TT} {tb : TS} (Iv : Nat → Own → Z.Env → Prop) {m0 : Nat} (h0 : Iv m0 Γ ρ)
    (hc : ∀ m Γ' ρ', Iv m Γ' ρ' → ∃ b : Bool, EvT K Γ' c ρ' (Is b) ∧ (b = true → Wp K Δ0 H0 Γ' F ρ' tb { D with nx := AtW K Δ0 H0 F Iv m, ct := AtW K Δ0 H0 F Iv m, bk := tz D }) ∧ (b = false → Wp K Δ0 H0 Γ' F ρ' tz D)) :
    Wp K Δ0 H0 Γ F ρ (tSeq (tWhile c tb) tz) D := fun σ H st => by
  refine ⟨fun m σ H => ∃ Γ' ρ', Iv m Γ' ρ' ∧ Stt K Δ0 H0 Γ' F ρ' σ H, ⟨m0, Γ, ρ, h0, st⟩, ?_⟩
  rintro m σ1 H1 ⟨Γ', ρ', iv, st1⟩
  obtain ⟨b, ht, h1, h2⟩ := hc m Γ' ρ' iv
  obtain ⟨Δ, s, hh, e, f, e0, s1, s2⟩ := st1
  refine ht Δ σ1 H1 _ s hh e fun b' H2 pb e1 => ?_
  have eb : b' = b := pb
  subst eb
  have st2 : Stt K Δ0 H0 Γ' F ρ' σ1 H2 := ⟨Δ, s, e1.2, e.mono e1.1, fun q hq => q.2.r.mono e1.1 (f q hq), ext0 e0 s1 s2 e1, s1, s2⟩
  cases b' with
  | true =>
    rw [if_pos rfl]
    exact ⟨AtW K Δ0 H0 F Iv m, fun σ' H' ⟨m', lt, a⟩ => ⟨m', lt, a⟩, h1 rfl σ1 H2 st2⟩
  | false =>
    rw [if_neg Bool.false_ne_true]
    exact h2 rfl σ1 H2 st2
theorem wp_turnW {Iv : Nat → Own → Z.Env → Prop} {m m' : Nat} (hiv : Iv m' Γ ρ) (lt : m' < m) (e : D.nx = AtW K Δ0 H0 F Iv m) : Wp K Δ0 H0 Γ F ρ tNext D := fun σ H st => by
  show D.nx σ H
  rw [e]
  exact ⟨m', lt, Γ, ρ, hiv, st⟩
/-- a, b = {x: True}, [y] -/
theorem wp_parDL {i j : Nat} {x y : Tx} {tk tv ty : TE} (hk : ∀ Γ', Ev K Γ' tk ρ (Is x)) (hv : ∀ Γ', Ev K Γ' tv ρ (Is true)) (hy : ∀ Γ', Ev K Γ' ty ρ (Is y)) (hi : i < ρ.length) (hj : j < ρ.length)
    (k : ∀ d, OwnP Δ0 Γ d → Wp K Δ0 H0 ((d, ObIs (.dK (kvT [x]))) :: Γ) F ((ρ.set i (some ⟨(⟨d⟩ : Loc)⟩)).set j (some ⟨([y] : List Tx)⟩)) tz D) :
    Wp K Δ0 H0 Γ F ρ (tSeq (tPar i j (tCons (tDisp [(tk, tv)]) (tCons (tLst (tCons ty tNil)) tNil))) tz) D := fun σ H ⟨Δ, s, hh, e, f, e0, s1, s2⟩ => by
  have hd := en_disp1 (K := K) (Γ := Γ) (ρ := ρ) (κ := Tx) (ν := Bool) (x := x) (y := true) (k0 := .inr (tS x)) rfl (hk Γ) (hv Γ)
  show tDisp [(tk, tv)] σ H (fun v H1 => tLst (tCons ty tNil) σ H1 fun w H2 => ∃ v' w', [v, w] = [v', w'] ∧ tz D ((σ.set i (some v')).set j (some w')) H2)
  refine hd Δ σ H _ s hh e fun d H1 o io hd nd e1 hdo => ?_
  have eo : o = HO.dK (kvT [x]) := io
  subst eo
  obtain ⟨od, st⟩ := own_come (K := K) (Δ0 := Δ0) (H0 := H0) (F := F) s hh e f e0 s1 s2 hd e1 hdo
  obtain ⟨Δ', s', hh', e', f', e0', s1', s2'⟩ := st
  have hl := ev_lst (K := K) (Γ := (d, ObIs (.dK (kvT [x]))) :: Γ) (xs := [y]) (ea_1 (hy _) ea_nil) (by show 1 ≤ 100000; decide)
  refine hl Δ' σ H1 _ s' hh' e' fun v H2 ys pys e2 r2 => ?_
  have ey : ys = [y] := pys
  subst ey
  exact ⟨_, _, rfl, k d od _ _ ⟨Δ', s', e2.2, ((e'.mono e2.1).set (c := ⟨(⟨d⟩ : Loc)⟩) (v := .ref d) hi rfl).set (c := ⟨([y] : List Tx)⟩) (by rw [List.length_set]; exact hj) r2, fun q hq => q.2.r.mono e2.1 (f' q hq), ext0 e0' s1' s2' e2, s1', s2'⟩⟩
end
end Z

set_option Elab.async false
set_option linter.all false
set_option maxRecDepth 100000
set_option maxHeartbeats 4000000
/-! sorted of a list of nested data (tuples of numbers), of any length -/
namespace L2
open PySem PySem.Spec PyProof.Rows
def rSortedDt (K : PySem.W.Frag) : List V → Hp → VK → Prop := fun vs H Q => ∃ (a : Addr) (ps : List (V × PyData)), vs = [V.ref a] ∧ SqL K H a (ps.map (·.1)) ∧ (∀ p ∈ ps, Dp K H p.1 p.2) ∧ PySem.W.AllAlike (ps.map (·.2)) ∧ PySem.W.Sortable (ps.map (·.2)) ∧ (∀ p ∈ ps, p.2.depth ≤ 60) ∧
  ∀ q, H q = none → Q (.ref q) (upd H q (.lst ((ps.mergeSort (PySem.W.dataLe false (·.2))).map (·.1))))
theorem each_valsD : ∀ {ps : List (V × PyData)} {its : List Value}, Vals (ps.map (·.1)) its → PySem.W.EachIs (fun (v : Value) (b : V × PyData) => RelV b.1 v) its ps
  | [], [], _ => .nil
  | [], _ :: _, h => by cases h
  | _ :: _, [], h => by cases h
  | p :: ps, u :: us, h => by
    cases h with
    | cons r t => exact .cons r (each_valsD t)
theorem vals_eachD : ∀ {ps : List (V × PyData)} {its : List Value}, PySem.W.EachIs (fun (v : Value) (b : V × PyData) => RelV b.1 v) its ps → Vals (ps.map (·.1)) its
  | [], [], _ => .nil
  | [], _ :: _, h => by cases h
  | _ :: _, [], h => by cases h
  | p :: ps, u :: us, h => by
    cases h with
    | cons r t => exact .cons r (vals_eachD t)
theorem each_readsD {X : Cx} {pins : List (Addr × Obj)} {σ : St} {H : Hp} {s : Shared} (I : Inv X pins σ H s) : ∀ {ps : List (V × PyData)} {its : List Value}, PySem.W.EachIs (fun (v : Value) (b : V × PyData) => RelV b.1 v) its ps → (∀ p ∈ ps, Dp X.K H p.1 p.2) → PySem.W.EachIs (fun (v : Value) (b : V × PyData) => ∃ as, Reads s.heap v b.2 as) its ps
  | [], [], _, _ => .nil
  | [], _ :: _, h, _ => by cases h
  | _ :: _, [], h, _ => by cases h
  | p :: ps, u :: us, h, d => by
    cases h with
    | cons r t => exact .cons (Dp.reads I p.2 p.1 u (d p List.mem_cons_self) r) (each_readsD I t fun q hq => d q (List.mem_cons_of_mem _ hq))
theorem cr_sortedDt {X : Cx} (hu : X.A.units + 70 < cLine) : CallR X (.builtin "sorted") (rSortedDt X.K) := by
  intro pins s σ H vs us Q I r h
  obtain ⟨a, ps, rfl, hs, hd, hal, hk, hdep, q⟩ := h
  obtain ⟨its, rv, hl, hz⟩ := I.list hs
  rw [Vals.ref1 r]
  have e := each_valsD rv
  have hpl : ps.length = its.length := by
    have := rv.length
    rw [List.length_map] at this
    exact this
  have hps : ps.length ≤ sizeLine := by rw [List.length_map] at hz; exact hz
  refine PySem.W.sorted_data (enc := fun b : V × PyData => b.2) hl.isList e (each_readsD I e hd) hal hk hps (fun b hb => ?_) fun out ho eo => ?_
  · have := hdep b hb
    omega
  · obtain ⟨ep, he'⟩ := PyProof.Rows.sortedAll_at s.heap its out.toArray
    have hlen : ((ps.mergeSort (PySem.W.dataLe false (·.2))).map (·.1)).length ≤ sizeLine := by
      rw [List.length_map, List.length_mergeSort]
      exact hps
    exact ⟨.ref _, upd H (s.heap.objs.size + 1) (.lst ((ps.mergeSort (PySem.W.dataLe false (·.2))).map (·.1))), I.laid (t' := s.toks) (fun _ _ => PyProof.Rows.sortedAll_old) (Nat.le_succ _) ⟨hlen, out, ep, vals_eachD eo, he'⟩, rfl, q _ (I.hok.fresh (Nat.le_succ _))⟩
end L2
namespace Z
open PySem PySem.Spec PyProof.Rows L2
/-- not behind, as Python sorts tuples of numbers -/
def leI (a b : Tup Int) : Bool := PySem.W.dataLe false (fun t : Tup Int => Dt.d t) a b
theorem leI_total : PySem.W.TotalLe leI := PySem.W.sortLe_total (listOrd itemOrd) false fun b : Tup Int => PySem.W.keyToks (Dt.d b)
theorem toks_inj : ∀ {a b : List Int}, PySem.W.keyToksAll (a.map Dt.d) = PySem.W.keyToksAll (b.map Dt.d) → a = b
  | [], [], _ => rfl
  | [], y :: ys, h => by
    have h1 := (List.cons.inj (show (Sum.inl 0 : Int ⊕ List Nat) :: [] = .inl 1 :: _ from h)).1
    cases h1
  | x :: xs, [], h => by
    have h1 := (List.cons.inj (show (Sum.inl 1 : Int ⊕ List Nat) :: _ = .inl 0 :: [] from h)).1
    cases h1
  | x :: xs, y :: ys, h => by
    have h1 := (List.cons.inj (show (Sum.inl 1 : Int ⊕ List Nat) :: (.inl x :: PySem.W.keyToksAll (xs.map Dt.d)) = .inl 1 :: (.inl y :: PySem.W.keyToksAll (ys.map Dt.d)) from h)).2
    have h2 := List.cons.inj h1
    rw [Sum.inl.inj h2.1, toks_inj h2.2]
theorem leI_anti {a b : Tup Int} (h1 : leI a b = true) (h2 : leI b a = true) : a = b := by
  have e1 : PyProof.Rows.lexLt itemOrd (PySem.W.keyToks (Dt.d b)) (PySem.W.keyToks (Dt.d a)) = false := by
    have : (!PyProof.Rows.lexLt itemOrd (PySem.W.keyToks (Dt.d b)) (PySem.W.keyToks (Dt.d a))) = true := h1
    simpa using this
  have e2 : PyProof.Rows.lexLt itemOrd (PySem.W.keyToks (Dt.d a)) (PySem.W.keyToks (Dt.d b)) = false := by
    have : (!PyProof.Rows.lexLt itemOrd (PySem.W.keyToks (Dt.d a)) (PySem.W.keyToks (Dt.d b))) = true := h2
    simpa using this
  have e := lex_total (O := itemOrd) _ _ e1 e2
  obtain ⟨a⟩ := a
  obtain ⟨b⟩ := b
  rw [toks_inj (a := b) (b := a) e]
def srtI (S : List (Tup Int)) : List (Tup Int) := S.mergeSort leI
theorem srtI_perm (S : List (Tup Int)) : (srtI S).Perm S := List.mergeSort_perm _ _
theorem srtI_mem {S : List (Tup Int)} {x : Tup Int} : x ∈ srtI S ↔ x ∈ S := (srtI_perm S).mem_iff
theorem srtI_pw (S : List (Tup Int)) : (srtI S).Pairwise fun a b => leI a b = true := List.pairwise_mergeSort (fun a b c => leI_total.trans a b c) (fun a b => by
  rw [Bool.or_eq_true]
  exact leI_total.total a b) S
theorem pwI_uniq : ∀ {a b : List (Tup Int)}, a.Nodup → b.Nodup → a.Pairwise (fun x y => leI x y = true) → b.Pairwise (fun x y => leI x y = true) → (∀ x, x ∈ a ↔ x ∈ b) → a = b
  | [], [], _, _, _, _, _ => rfl
  | [], y :: _, _, _, _, _, m => absurd ((m y).mpr List.mem_cons_self) (by simp)
  | x :: _, [], _, _, _, _, m => absurd ((m x).mp List.mem_cons_self) (by simp)
  | x :: xs, y :: ys, n1, n2, p1, p2, m => by
    rw [List.nodup_cons] at n1 n2
    rw [List.pairwise_cons] at p1 p2
    have e : x = y := by
      rcases List.mem_cons.mp ((m x).mp List.mem_cons_self) with h | h
      · exact h
      · rcases List.mem_cons.mp ((m y).mpr List.mem_cons_self) with h2 | h2
        · exact h2.symm
        · exact leI_anti (p1.1 y h2) (p2.1 x h)
    subst e
    rw [pwI_uniq n1.2 n2.2 p1.2 p2.2 fun z => ⟨fun h => ?_, fun h => ?_⟩]
    · rcases List.mem_cons.mp ((m z).mp (List.mem_cons_of_mem _ h)) with q | q
      · exact absurd (q ▸ h) n1.1
      · exact q
    · rcases List.mem_cons.mp ((m z).mpr (List.mem_cons_of_mem _ h)) with q | q
      · exact absurd (q ▸ h) n2.1
      · exact q
theorem srtI_congr {S T : List (Tup Int)} (h1 : S.Nodup) (h2 : T.Nodup) (m : ∀ x, x ∈ S ↔ x ∈ T) : srtI S = srtI T :=
  pwI_uniq ((srtI_perm S).nodup_iff.mpr h1) ((srtI_perm T).nodup_iff.mpr h2) (srtI_pw S) (srtI_pw T) fun x => by rw [srtI_mem, srtI_mem, m]
section
variable {K : PySem.W.Frag}
theorem all2_zip {α : Type} {R : V → α → Prop} : ∀ {vs : List V} {xs : List α}, All2 R vs xs → ∃ zs : List (V × α), zs.map (·.1) = vs ∧ zs.map (·.2) = xs ∧ ∀ z ∈ zs, R z.1 z.2
  | [], [], _ => ⟨[], rfl, rfl, fun z hz => nomatch hz⟩
  | [], _ :: _, h => h.elim
  | _ :: _, [], h => h.elim
  | v :: vs, x :: xs, h => by
    obtain ⟨zs, e1, e2, hz⟩ := all2_zip h.2
    refine ⟨(v, x) :: zs, by rw [List.map_cons, e1], by rw [List.map_cons, e2], fun z hz' => ?_⟩
    rcases List.mem_cons.mp hz' with q | q
    · rw [q]
      exact h.1
    · exact hz z q
theorem alike_ints : ∀ (a b : List Int), PySem.W.alikeAll (a.map Dt.d) (b.map Dt.d) = true
  | [], _ => by cases ‹List Int› <;> rfl
  | _ :: _, [] => rfl
  | x :: xs, y :: ys => by
    show (PySem.W.alike (.int x) (.int y) && PySem.W.alikeAll (xs.map Dt.d) (ys.map Dt.d)) = true
    rw [alike_ints xs ys]
    rfl
theorem depth_ints : ∀ xs : List Int, PyData.depthAll (xs.map Dt.d) ≤ 1
  | [] => by simp [PyData.depthAll]
  | x :: xs => by
    rw [List.map_cons, PyData.depthAll]
    have := depth_ints xs
    have e : PyData.depth (Dt.d x) = 0 := by
      show PyData.depth (.int x) = 0
      rw [PyData.depth]
    rw [e]
    omega
/-- sorted(xs), xs tuples of numbers, none of them empty -/
theorem o1_sortedDt {xs : List (Tup Int)} (hne : ∀ x ∈ xs, x.l ≠ []) : Op1 K (rSortedDt K) xs (Is (srtI xs)) := fun Δ H v Q hh r k => by
  obtain ⟨p, vs, rfl, n, s, q⟩ := r
  obtain ⟨zs, e1, e2, hz⟩ := all2_zip q
  refine ⟨p, zs.map fun z => (z.1, Dt.d z.2), rfl, ?_, fun y hy => ?_, fun d hd d' hd' => ?_, .inl fun d hd => ?_, fun y hy => ?_, fun l hl => ?_⟩
  · rw [List.map_map]
    have : (zs.map ((fun x => x.1) ∘ fun z : V × Tup Int => (z.1, Dt.d z.2))) = vs := e1
    rw [this]
    exact s
  · obtain ⟨z, hzm, rfl⟩ := List.mem_map.mp hy
    exact Dt.ok (hz z hzm)
  · rw [List.map_map] at hd hd'
    obtain ⟨z, _, rfl⟩ := List.mem_map.mp hd
    obtain ⟨z', _, rfl⟩ := List.mem_map.mp hd'
    exact alike_ints z.2.l z'.2.l
  · rw [List.map_map] at hd
    obtain ⟨z, hzm, rfl⟩ := List.mem_map.mp hd
    have hx : z.2 ∈ xs := by rw [← e2]; exact List.mem_map.mpr ⟨z, hzm, rfl⟩
    obtain ⟨a, as, ea⟩ := List.exists_cons_of_ne_nil (hne _ hx)
    exact ⟨Dt.d a, as.map Dt.d, by show PyData.tuple (z.2.l.map Dt.d) = _; rw [ea]; rfl⟩
  · obtain ⟨z, _, rfl⟩ := List.mem_map.mp hy
    show PyData.depth (.tuple (z.2.l.map Dt.d)) ≤ 60
    rw [PyData.depth]
    have := depth_ints z.2.l
    omega
  · have em : ((zs.map fun z => (z.1, Dt.d z.2)).mergeSort (PySem.W.dataLe false (·.2))) = (zs.mergeSort fun a b => leI a.2 b.2).map fun z => (z.1, Dt.d z.2) := (List.map_mergeSort (f := fun z : V × Tup Int => (z.1, Dt.d z.2)) (fun a _ b _ => rfl)).symm
    have es : srtI xs = (zs.mergeSort fun a b => leI a.2 b.2).map (·.2) := by
      unfold srtI
      rw [← e2]
      exact (List.map_mergeSort (f := fun z : V × Tup Int => z.2) (fun a _ b _ => rfl)).symm
    rw [em, List.map_map]
    refine k _ _ (srtI xs) rfl (Ext.new hh hl _) (new_lst hh hl ?_)
    rw [es]
    exact All2.map fun z hzm => hz z ((List.mergeSort_perm _ _).mem_iff.mp hzm)
end
end Z
namespace L2
open PySem
theorem hu70 {k : Nat} {A : Around} (r : Room k A) : A.units + 70 < cLine := by
  have := r.un
  omega
end L2

set_option Elab.async false
set_option linter.all false
set_option maxRecDepth 100000
set_option maxHeartbeats 1000000
/-! lists of one's own whose members are told by data that is not plain (tuples) -/
namespace Z
open PySem PySem.Spec PyProof.Rows L2 Zd
/-- a list of one's own, with what stands in it -/
structure LocT (α : Type) where
  p : Addr
  vs : List V
  xs : List α
instance {α : Type} [Rp α] : Rp (LocT α) where
  rp K Δ H v a := v = .ref a.p ∧ All2 (fun u x => Rp.rp K Δ H u x) a.vs a.xs
  mono k h := ⟨h.1, h.2.imp fun _ _ => Rp.mono k⟩
  weak w h := ⟨h.1, h.2.imp fun _ _ => Rp.weak w⟩
section
variable {K : PySem.W.Frag} {Δ0 : Gh} {H0 : Hp} {Γ : Own} {F : List (V × Cell)} {ρ : Z.Env} {te ta tb : TE} {σ : L2.St} {H : Hp} {D : Ends} {tz : TS} {α : Type} [Rp α] {p : Addr} {vs : List V} {xs : List α} {i : Nat}
theorem all2_len : ∀ {vs : List V} {xs : List α} {R : V → α → Prop}, All2 R vs xs → vs.length = xs.length := fun h => h.len
/-- the variable told anew, its value as it was -/
theorem stt_retell {c c' : Cell} {v : V} (hi : ρ[i]? = some (some c)) (hv : ∀ (Δ : Gh) (H : Hp) (u : V), c.rp K Δ H u → u = v) (hc : ∀ (Δ : Gh), Sat Γ Δ → Hold Δ H → EnvOk K Δ σ H ρ → c'.rp K Δ H v) (st : Stt K Δ0 H0 Γ F ρ σ H) : Stt K Δ0 H0 Γ F (ρ.set i (some c')) σ H := by
  obtain ⟨Δ, s, hh, e, f, r⟩ := st
  have ilt : i < ρ.length := by
    rw [List.getElem?_eq_some_iff] at hi
    exact hi.1
  obtain ⟨u, hu, ru⟩ := e.2 i _ hi
  have eu := hv Δ H u ru
  subst eu
  have e3 := e.set (c := c') (v := u) ilt (hc Δ s hh e)
  have es : σ.set i (some u) = σ := List.ext_getElem? fun j => by
    by_cases hj : i = j
    · subst hj
      rw [List.getElem?_set_self (by rw [e.1]; exact ilt), hu]
    · rw [List.getElem?_set_ne hj]
  rw [es] at e3
  exact ⟨Δ, s, hh, e3, f, r⟩
/-- name = [] -/
theorem wp_newT (hi : i < ρ.length) (k : ∀ p, OwnP Δ0 Γ p → Wp K Δ0 H0 ((p, ObIs (.lst [])) :: Γ) F (ρ.set i (some ⟨(⟨p, [], []⟩ : LocT α)⟩)) tz D) : Wp K Δ0 H0 Γ F ρ (tSeq (tAsg (tLst tNil) (gName i)) tz) D := fun σ H st => by
  refine ⟨by show 0 ≤ sizeLine; decide, fun p hp => ?_⟩
  obtain ⟨op, st1⟩ := stt_new (o := .lst []) hp st
  exact k p op _ _ (stt_set hi (fun Δ _ _ => ⟨rfl, trivial⟩) st1)
/-- name.append(e), the last of a block -/
theorem wp_appT {P : α → Prop} (o : OwnP Δ0 Γ p) (hz : xs.length < 50000) (hi : ρ[i]? = some (some ⟨(⟨p, vs, xs⟩ : LocT α)⟩)) (h : Ev K ((p, ObIs (.lst vs)) :: Γ) te ρ P)
    (k : ∀ v a, P a → Wp K Δ0 H0 ((p, ObIs (.lst (vs ++ [v]))) :: Γ) F (ρ.set i (some ⟨(⟨p, vs ++ [v], xs ++ [a]⟩ : LocT α)⟩)) tNext D) : Wp K Δ0 H0 ((p, ObIs (.lst vs)) :: Γ) F ρ (tDrop (tBM K "list" rAppend (tVar i) (tCons te tNil))) D := fun σ H ⟨Δ, s, hh, e, f, e0, s1, s2⟩ => by
  obtain ⟨u, hu, ru⟩ := e.2 i _ hi
  have ilt : i < ρ.length := by
    rw [List.getElem?_eq_some_iff] at hi
    exact hi.1
  have eu : u = .ref p := ru.1
  subst eu
  obtain ⟨w, hw, iw⟩ := hh p _ (s _ List.mem_cons_self)
  have iw' : w = HO.lst vs := iw
  subst iw'
  refine ⟨.ref p, hu, .inl ⟨rfl, _, SqL.of hw⟩, h Δ σ H _ s hh e fun v H2 a pa e2 r2 => ?_⟩
  have st : Stt K Δ0 H0 ((p, ObIs (.lst vs)) :: Γ) ((v, ⟨a⟩) :: F) ρ σ H2 := ⟨Δ, s, e2.2, e.mono e2.1, fun q hq => by
    rcases List.mem_cons.mp hq with z | z
    · rw [z]
      exact r2
    · exact q.2.r.mono e2.1 (f q z), ext0 e0 s1 s2 e2, s1, s2⟩
  obtain ⟨hp, st'⟩ := own_putO (o2 := .lst (vs ++ [v])) o st
  have hl : vs.length = xs.length := ru.2.len
  refine ⟨p, _, _, rfl, rfl, hp, by rw [hl]; exact Nat.lt_trans hz (by decide), ?_⟩
  obtain ⟨Δ', s', hh', e', f', r'⟩ := st'
  obtain ⟨u2, hu2, ru2⟩ := e'.2 i _ hi
  rw [hu] at hu2
  cases hu2
  have rv := f' (v, ⟨a⟩) List.mem_cons_self
  have st2 : Stt K Δ0 H0 ((p, ObIs (.lst (vs ++ [v]))) :: Γ) F ρ σ (upd H2 p (.lst (vs ++ [v]))) := ⟨Δ', s', hh', e', fun q hq => f' q (List.mem_cons_of_mem _ hq), r'⟩
  have e3 := e'.set (c := ⟨(⟨p, vs ++ [v], xs ++ [a]⟩ : LocT α)⟩) (v := .ref p) ilt ⟨rfl, All2.app ru2.2 ⟨rv, trivial⟩⟩
  have es : σ.set i (some (.ref p)) = σ := List.ext_getElem? fun j => by
    by_cases hj : i = j
    · subst hj
      rw [List.getElem?_set_self (by rw [e.1]; exact ilt), hu]
    · rw [List.getElem?_set_ne hj]
  rw [es] at e3
  exact k v a pa σ _ ⟨Δ', s', hh', e3, fun q hq => f' q (List.mem_cons_of_mem _ hq), r'⟩
/-- name.extend(e), e a fresh list; the last of a block -/
theorem wp_extT {P : FL α → Prop} (o : OwnP Δ0 Γ p) (hz : ∀ ys, P ys → xs.length + ys.l.length ≤ 50000) (hi : ρ[i]? = some (some ⟨(⟨p, vs, xs⟩ : LocT α)⟩)) (h : Ev K ((p, ObIs (.lst vs)) :: Γ) te ρ P)
    (k : ∀ ws a, P a → Wp K Δ0 H0 ((p, ObIs (.lst (vs ++ ws))) :: Γ) F (ρ.set i (some ⟨(⟨p, vs ++ ws, xs ++ a.l⟩ : LocT α)⟩)) tNext D) : Wp K Δ0 H0 ((p, ObIs (.lst vs)) :: Γ) F ρ (tDrop (tBM K "list" rExtend (tVar i) (tCons te tNil))) D := fun σ H ⟨Δ, s, hh, e, f, e0, s1, s2⟩ => by
  obtain ⟨u, hu, ru⟩ := e.2 i _ hi
  have ilt : i < ρ.length := by
    rw [List.getElem?_eq_some_iff] at hi
    exact hi.1
  have eu : u = .ref p := ru.1
  subst eu
  obtain ⟨w, hw, iw⟩ := hh p _ (s _ List.mem_cons_self)
  have iw' : w = HO.lst vs := iw
  subst iw'
  refine ⟨.ref p, hu, .inl ⟨rfl, _, SqL.of hw⟩, h Δ σ H _ s hh e fun v H2 a pa e2 r2 => ?_⟩
  obtain ⟨b, ws, rfl, nb, hb, q⟩ := id r2
  have st : Stt K Δ0 H0 ((p, ObIs (.lst vs)) :: Γ) ((.ref b, ⟨a⟩) :: F) ρ σ H2 := ⟨Δ, s, e2.2, e.mono e2.1, fun q hq => by
    rcases List.mem_cons.mp hq with z | z
    · rw [z]
      exact r2
    · exact q.2.r.mono e2.1 (f q z), ext0 e0 s1 s2 e2, s1, s2⟩
  obtain ⟨hp, st'⟩ := own_putO (o2 := .lst (vs ++ ws)) o st
  have hl : vs.length = xs.length := ru.2.len
  have hl2 : ws.length = a.l.length := q.len
  refine ⟨p, b, _, _, rfl, rfl, hp, hb, by rw [hl, hl2]; exact Nat.le_trans (hz a pa) (by decide), ?_⟩
  obtain ⟨Δ', s', hh', e', f', r'⟩ := st'
  obtain ⟨u2, hu2, ru2⟩ := e'.2 i _ hi
  rw [hu] at hu2
  cases hu2
  have neb : b ≠ p := fun z => by
    have hΔ := s _ List.mem_cons_self
    rw [z] at nb
    have : Δ p = none := nb
    rw [this] at hΔ
    cases hΔ
  obtain ⟨b2, ws2, eb, nb2, hb2, q2⟩ := (show Rp.rp K Δ' (upd H2 p (.lst (vs ++ ws))) (.ref b) a from f' (.ref b, ⟨a⟩) List.mem_cons_self)
  cases eb
  rw [upd_ne neb, hb] at hb2
  cases hb2
  have e3 := e'.set (c := ⟨(⟨p, vs ++ ws, xs ++ a.l⟩ : LocT α)⟩) (v := .ref p) ilt ⟨rfl, All2.app ru2.2 q2⟩
  have es : σ.set i (some (.ref p)) = σ := List.ext_getElem? fun j => by
    by_cases hj : i = j
    · subst hj
      rw [List.getElem?_set_self (by rw [e.1]; exact ilt), hu]
    · rw [List.getElem?_set_ne hj]
  rw [es] at e3
  exact k ws a pa σ _ ⟨Δ', s', hh', e3, fun q hq => f' q (List.mem_cons_of_mem _ hq), r'⟩
/-- return name -/
theorem wp_retT {R : List α → Prop} (o : OwnP Δ0 Γ p) (hf : Fin K Δ0 H0 R D) (hr : R xs) (hi : ρ[i]? = some (some ⟨(⟨p, vs, xs⟩ : LocT α)⟩)) : Wp K Δ0 H0 ((p, ObIs (.lst vs)) :: Γ) F ρ (tRet (tVar i)) D := fun σ H ⟨Δ, s, hh, e, f, e0, s1, s2⟩ => by
  obtain ⟨u, hu, ru⟩ := e.2 i _ hi
  have eu : u = .ref p := ru.1
  subst eu
  obtain ⟨w, hw, iw⟩ := hh p _ (s _ List.mem_cons_self)
  have iw' : w = HO.lst vs := iw
  subst iw'
  exact ⟨.ref p, hu, hf _ H xs hr e0 ⟨p, vs, rfl, .inl ⟨o.n0, .inl hw⟩, .inl (.inl hw), ru.2.imp fun _ _ r => Rp.weak (fun x o _ n => none0 s1 n) r⟩⟩
/-- list(name), tuple(name): the members copied -/
theorem ev_lstT (hm : (p, ObIs (.lst vs)) ∈ Γ) (hi : ρ[i]? = some (some ⟨(⟨p, vs, xs⟩ : LocT α)⟩)) : Ev K Γ (tCB (fun xs H Q => ∃ p ys, xs = [.ref p] ∧ (SqL K H p ys ∨ SqT K H p ys) ∧ ∀ l, H l = none → Q (.ref l) (upd H l (.lst ys))) (tCons (tVar i) tNil)) ρ (Is xs) := fun Δ σ H Q s hh e k => by
  obtain ⟨u, hu, ru⟩ := e.2 i _ hi
  have eu : u = .ref p := ru.1
  subst eu
  obtain ⟨w, hw, iw⟩ := hh p _ (s _ hm)
  have iw' : w = HO.lst vs := iw
  subst iw'
  exact ⟨.ref p, hu, p, vs, rfl, .inl (SqL.of hw), fun q hq => k _ _ xs rfl (Ext.new hh hq _) (new_lst hh hq ru.2)⟩
theorem ev_tupT (hm : (p, ObIs (.lst vs)) ∈ Γ) (hi : ρ[i]? = some (some ⟨(⟨p, vs, xs⟩ : LocT α)⟩)) : Ev K Γ (tCB (fun xs H Q => ∃ p ys, xs = [.ref p] ∧ ((SqL K H p ys ∧ ∀ l, H l = none → Q (.ref l) (upd H l (.tup ys))) ∨ (SqT K H p ys ∧ Q (.ref p) H))) (tCons (tVar i) tNil)) ρ (Is (⟨xs⟩ : Tup α)) := fun Δ σ H Q s hh e k => by
  obtain ⟨u, hu, ru⟩ := e.2 i _ hi
  have eu : u = .ref p := ru.1
  subst eu
  obtain ⟨w, hw, iw⟩ := hh p _ (s _ hm)
  have iw' : w = HO.lst vs := iw
  subst iw'
  exact ⟨.ref p, hu, p, vs, rfl, .inl ⟨SqL.of hw, fun q hq => k _ _ (⟨xs⟩ : Tup α) rfl (Ext.new hh hq _) (new_tup hh hq ru.2)⟩⟩
end
end Z
namespace L2
open PySem PySem.Spec PyProof.Rows Z
theorem pi_enumTK {K : PySem.W.Frag} {X : Cx} {e : Expr} {ta : TA} {p pos tpos : Pos} {elts : List Expr} {kk : Nat} (hg : Gl X "enumerate") (hm : X.mg "enumerate" = none) (ha : PA X [e] ta) (h : X.K = K := by rfl) (hs : starEach [e] X.env = [(false, eval e X.env)] := by rfl) :
    PI X (.Tuple elts kk tpos) (.Call (.Name "enumerate" p) [e] [] pos) (iEnumT K ta) := by
  subst h
  exact pi_enumT hg hm ha hs
theorem pi_zipK {K : PySem.W.Frag} {X : Cx} {e e2 : Expr} {ta : TA} {p pos tpos : Pos} {elts : List Expr} {kk : Nat} (hg : Gl X "zip") (hm : X.mg "zip" = none) (ha : PA X [e, e2] ta) (h : X.K = K := by rfl) (hs : starEach [e, e2] X.env = (false, eval e X.env) :: starEach [e2] X.env := by rfl) (hpl : (backTo pos (starEach [e2] X.env)).any (·.1) = false := by rfl) :
    PI X (.Tuple elts kk tpos) (.Call (.Name "zip" p) [e, e2] [] pos) (iZip K ta) := by
  subst h
  exact pi_zip hg hm ha hs hpl
end L2

set_option Elab.async false
set_option linter.all false
set_option maxRecDepth 100000
set_option maxHeartbeats 200000
namespace Z
open PySem PySem.Spec PyProof.Rows L2 Zd
/-- two lists walked together -/
structure ZipD (α β : Type) where
  a : Addr
  b : Addr
  xs : List α
  ys : List β
instance {α β : Type} [Rp α] [Rp β] : Rp (ZipD α β) where
  rp K Δ H _ z := Rp.rp K Δ H (.ref z.a) z.xs ∧ Rp.rp K Δ H (.ref z.b) z.ys
  mono k h := ⟨Rp.mono k h.1, Rp.mono k h.2⟩
  weak w h := ⟨Rp.weak w h.1, Rp.weak w h.2⟩
theorem args2 {K : PySem.W.Frag} {Δ : Gh} {H : Hp} {c d : Cell} : ∀ {vs : List V}, ArgsOk K Δ H vs [c, d] → ∃ v w, vs = [v, w] ∧ c.rp K Δ H v ∧ d.rp K Δ H w
  | [], h => h.elim
  | [_], h => h.2.elim
  | [v, w], h => ⟨v, w, rfl, h.1, h.2.1⟩
  | _ :: _ :: _ :: _, h => h.2.2.elim
/-- zip(xs, ys), of equally many -/
theorem src_zipL {K : PySem.W.Frag} {Γ : Own} {ρ : Z.Env} {α β : Type} [Rp α] [Rp β] {ta : TA} {ja jb : Nat} {xs : List α} {ys : List β} {x0 : Nat → α} {y0 : Nat → β} (h : EvA K Γ ta ρ (Is [⟨xs⟩, ⟨ys⟩])) (hlen : xs.length = ys.length) (hx : ∀ i, i < xs.length → xs[i]? = some (x0 i) ∧ ys[i]? = some (y0 i)) (hja : ja < ρ.length) (hjb : jb < ρ.length) :
    Src K Γ (iZip K ta) (gTup K 2 (gCons (gName ja) (gCons (gName jb) gNil))) ρ [ja, jb] xs.length (fun i ρ => (ρ.set ja (some ⟨x0 i⟩)).set jb (some ⟨y0 i⟩)) := fun Δ σ H R s hh e k =>
  h Δ σ H _ s hh e fun vs H' cs pcs e1 r => by
    have ec : cs = [⟨xs⟩, ⟨ys⟩] := pcs
    subst ec
    · obtain ⟨v, w, rfl, r1', r2'⟩ := args2 r
      have r1 : Rp.rp K Δ H' v xs := r1'
      have r2 : Rp.rp K Δ H' w ys := r2'
      clear r
      obtain ⟨p, vs, rfl, n, sq, q⟩ := id r1
      obtain ⟨p2, vs2, rfl, n2, sq2, q2⟩ := id r2
      refine ⟨p, p2, vs, vs2, rfl, sq, sq2, k _ H' .non ⟨(⟨p, p2, xs, ys⟩ : ZipD α β)⟩ e1 ⟨r1, r2⟩ (fun Δ' H2 r => ?_) fun Δ' i H2 z H3 hi h2 r yy => ?_⟩
      · obtain ⟨ra, rb⟩ := (show Rp.rp K Δ' H2 V.non (⟨p, p2, xs, ys⟩ : ZipD α β) from r)
        obtain ⟨_, us, e1, _, s1, q1⟩ := ra
        cases e1
        obtain ⟨_, ws, e2, _, s2, q2⟩ := rb
        cases e2
        have l1 : us.length = xs.length := q1.len
        have l2 : ws.length = ys.length := q2.len
        exact ⟨fun i hi => ⟨us, ws, us[i]'(by omega), ws[i]'(by omega), s1, s2, List.getElem?_eq_getElem _, List.getElem?_eq_getElem _⟩, us, ws, s1, s2, .inl (by omega)⟩
      · obtain ⟨ra, rb⟩ := (show Rp.rp K Δ' H2 V.non (⟨p, p2, xs, ys⟩ : ZipD α β) from r)
        obtain ⟨_, us, e1, _, s1, q1⟩ := ra
        cases e1
        obtain ⟨_, ws, e2, _, s2, q2⟩ := rb
        cases e2
        obtain ⟨T, x, y, rfl, hT, e3, hc, hd⟩ := (show ∃ T x y, z = .ref T ∧ H2 T = none ∧ H3 = upd H2 T (.tup [x, y]) ∧ (∀ xs, SqL K H2 p xs → xs[i]? = some x) ∧ ∀ ys, SqL K H2 p2 ys → ys[i]? = some y from yy)
        obtain ⟨u, hu, ru⟩ := q1.get (hx i hi).1
        obtain ⟨w, hw, rw'⟩ := q2.get (hx i hi).2
        have eu : x = u := Option.some.inj ((hc _ s1).symm.trans hu)
        have ew : y = w := Option.some.inj ((hd _ s2).symm.trans hw)
        subst eu ew
        have ex := Ext.new h2 hT (.tup [x, y])
        refine ⟨by rw [e3]; exact ex, fun σ' ρ' Qs hl e' q => ?_⟩
        exact pair_put (ca := ⟨x0 i⟩) (cb := ⟨y0 i⟩) e3 (by rw [e3]; exact Rp.mono ex.1 ru) (by rw [e3]; exact Rp.mono ex.1 rw') (by rw [hl]; exact hja) (by rw [hl]; exact hjb) e' q
theorem ev_neg {K : PySem.W.Frag} {Γ : Own} {ρ : Z.Env} {te : TE} {i : Int} (h : Ev K Γ te ρ (Is i)) : Ev K Γ (tUn (rU fun i => .int (-i)) te) ρ (Is (-i)) := fun Δ σ H Q s hh e k =>
  h Δ σ H _ s hh e fun v H1 a pa e1 r => by
    have ea : a = i := pa
    subst ea
    have ev : v = .int a := r
    subst ev
    exact ⟨a, rfl, k _ H1 _ rfl e1 rfl⟩
end Z

set_option Elab.async false
set_option linter.all false
set_option maxRecDepth 100000
set_option maxHeartbeats 200000
/-! zip of two lists or of two tuples -/
namespace Z
open PySem PySem.Spec PyProof.Rows L2 Zd RZ
structure ZipT (α β : Type) where
  a : Addr
  b : Addr
  xs : Tup α
  ys : Tup β
instance {α β : Type} [Rp α] [Rp β] : Rp (ZipT α β) where
  rp K Δ H _ z := Rp.rp K Δ H (.ref z.a) z.xs ∧ Rp.rp K Δ H (.ref z.b) z.ys
  mono k h := ⟨Rp.mono k h.1, Rp.mono k h.2⟩
  weak w h := ⟨Rp.weak w h.1, Rp.weak w h.2⟩
/-- zip(xs, ys), of equally many -/
theorem src_zipAL {K : PySem.W.Frag} {Γ : Own} {ρ : Z.Env} {α β : Type} [Rp α] [Rp β] {ta : TA} {ja jb : Nat} {xs : List α} {ys : List β} {x0 : Nat → α} {y0 : Nat → β} (h : EvA K Γ ta ρ (Is [⟨xs⟩, ⟨ys⟩])) (hlen : xs.length = ys.length) (hx : ∀ i, i < xs.length → xs[i]? = some (x0 i) ∧ ys[i]? = some (y0 i)) (hja : ja < ρ.length) (hjb : jb < ρ.length) :
    Src K Γ (iZipA K ta) (gTup K 2 (gCons (gName ja) (gCons (gName jb) gNil))) ρ [ja, jb] xs.length (fun i ρ => (ρ.set ja (some ⟨x0 i⟩)).set jb (some ⟨y0 i⟩)) := fun Δ σ H R s hh e k =>
  h Δ σ H _ s hh e fun vs H' cs pcs e1 r => by
    have ec : cs = [⟨xs⟩, ⟨ys⟩] := pcs
    subst ec
    · obtain ⟨v, w, rfl, r1', r2'⟩ := args2 r
      have r1 : Rp.rp K Δ H' v xs := r1'
      have r2 : Rp.rp K Δ H' w ys := r2'
      clear r
      obtain ⟨p, vs, rfl, n, sq, q⟩ := id r1
      obtain ⟨p2, vs2, rfl, n2, sq2, q2⟩ := id r2
      refine ⟨p, p2, vs, vs2, rfl, .inl ⟨sq, sq2, k _ H' .non ⟨(⟨p, p2, xs, ys⟩ : ZipD α β)⟩ e1 ⟨r1, r2⟩ (fun Δ' H2 r => ?_) fun Δ' i H2 z H3 hi h2 r yy => ?_⟩⟩
      · obtain ⟨ra, rb⟩ := (show Rp.rp K Δ' H2 V.non (⟨p, p2, xs, ys⟩ : ZipD α β) from r)
        obtain ⟨_, us, e1, _, s1, q1⟩ := ra
        cases e1
        obtain ⟨_, ws, e2, _, s2, q2⟩ := rb
        cases e2
        have l1 : us.length = xs.length := q1.len
        have l2 : ws.length = ys.length := q2.len
        exact ⟨fun i hi => ⟨us, ws, us[i]'(by omega), ws[i]'(by omega), s1, s2, List.getElem?_eq_getElem _, List.getElem?_eq_getElem _⟩, us, ws, s1, s2, .inl (by omega)⟩
      · obtain ⟨ra, rb⟩ := (show Rp.rp K Δ' H2 V.non (⟨p, p2, xs, ys⟩ : ZipD α β) from r)
        obtain ⟨_, us, e1, _, s1, q1⟩ := ra
        cases e1
        obtain ⟨_, ws, e2, _, s2, q2⟩ := rb
        cases e2
        obtain ⟨T, x, y, rfl, hT, e3, hc, hd⟩ := (show ∃ T x y, z = .ref T ∧ H2 T = none ∧ H3 = upd H2 T (.tup [x, y]) ∧ (∀ xs, SqL K H2 p xs → xs[i]? = some x) ∧ ∀ ys, SqL K H2 p2 ys → ys[i]? = some y from yy)
        obtain ⟨u, hu, ru⟩ := q1.get (hx i hi).1
        obtain ⟨w, hw, rw'⟩ := q2.get (hx i hi).2
        have eu : x = u := Option.some.inj ((hc _ s1).symm.trans hu)
        have ew : y = w := Option.some.inj ((hd _ s2).symm.trans hw)
        subst eu ew
        have ex := Ext.new h2 hT (.tup [x, y])
        refine ⟨by rw [e3]; exact ex, fun σ' ρ' Qs hl e' q => ?_⟩
        exact pair_put (ca := ⟨x0 i⟩) (cb := ⟨y0 i⟩) e3 (by rw [e3]; exact Rp.mono ex.1 ru) (by rw [e3]; exact Rp.mono ex.1 rw') (by rw [hl]; exact hja) (by rw [hl]; exact hjb) e' q
/-- zip(xs, ys), of equally many -/
theorem src_zipAT {K : PySem.W.Frag} {Γ : Own} {ρ : Z.Env} {α β : Type} [Rp α] [Rp β] {ta : TA} {ja jb : Nat} {xs : Tup α} {ys : Tup β} {x0 : Nat → α} {y0 : Nat → β} (h : EvA K Γ ta ρ (Is [⟨xs⟩, ⟨ys⟩])) (hlen : xs.l.length = ys.l.length) (hx : ∀ i, i < xs.l.length → xs.l[i]? = some (x0 i) ∧ ys.l[i]? = some (y0 i)) (hja : ja < ρ.length) (hjb : jb < ρ.length) :
    Src K Γ (iZipA K ta) (gTup K 2 (gCons (gName ja) (gCons (gName jb) gNil))) ρ [ja, jb] xs.l.length (fun i ρ => (ρ.set ja (some ⟨x0 i⟩)).set jb (some ⟨y0 i⟩)) := fun Δ σ H R s hh e k =>
  h Δ σ H _ s hh e fun vs H' cs pcs e1 r => by
    have ec : cs = [⟨xs⟩, ⟨ys⟩] := pcs
    subst ec
    · obtain ⟨v, w, rfl, r1', r2'⟩ := args2 r
      have r1 : Rp.rp K Δ H' v xs := r1'
      have r2 : Rp.rp K Δ H' w ys := r2'
      clear r
      obtain ⟨p, vs, rfl, n, sq, q⟩ := id r1
      obtain ⟨p2, vs2, rfl, n2, sq2, q2⟩ := id r2
      refine ⟨p, p2, vs, vs2, rfl, .inr ⟨sq, sq2, k _ H' .non ⟨(⟨p, p2, xs, ys⟩ : ZipT α β)⟩ e1 ⟨r1, r2⟩ (fun Δ' H2 r => ?_) fun Δ' i H2 z H3 hi h2 r yy => ?_⟩⟩
      · obtain ⟨ra, rb⟩ := (show Rp.rp K Δ' H2 V.non (⟨p, p2, xs, ys⟩ : ZipT α β) from r)
        obtain ⟨_, us, e1, _, s1, q1⟩ := ra
        cases e1
        obtain ⟨_, ws, e2, _, s2, q2⟩ := rb
        cases e2
        have l1 : us.length = xs.l.length := q1.len
        have l2 : ws.length = ys.l.length := q2.len
        exact ⟨fun i hi => ⟨us, ws, us[i]'(by omega), ws[i]'(by omega), s1, s2, List.getElem?_eq_getElem _, List.getElem?_eq_getElem _⟩, us, ws, s1, s2, .inl (by omega)⟩
      · obtain ⟨ra, rb⟩ := (show Rp.rp K Δ' H2 V.non (⟨p, p2, xs, ys⟩ : ZipT α β) from r)
        obtain ⟨_, us, e1, _, s1, q1⟩ := ra
        cases e1
        obtain ⟨_, ws, e2, _, s2, q2⟩ := rb
        cases e2
        obtain ⟨T, x, y, rfl, hT, e3, hc, hd⟩ := (show ∃ T x y, z = .ref T ∧ H2 T = none ∧ H3 = upd H2 T (.tup [x, y]) ∧ (∀ xs, SqT K H2 p xs → xs[i]? = some x) ∧ ∀ ys, SqT K H2 p2 ys → ys[i]? = some y from yy)
        obtain ⟨u, hu, ru⟩ := q1.get (hx i hi).1
        obtain ⟨w, hw, rw'⟩ := q2.get (hx i hi).2
        have eu : x = u := Option.some.inj ((hc _ s1).symm.trans hu)
        have ew : y = w := Option.some.inj ((hd _ s2).symm.trans hw)
        subst eu ew
        have ex := Ext.new h2 hT (.tup [x, y])
        refine ⟨by rw [e3]; exact ex, fun σ' ρ' Qs hl e' q => ?_⟩
        exact pair_put (ca := ⟨x0 i⟩) (cb := ⟨y0 i⟩) e3 (by rw [e3]; exact Rp.mono ex.1 ru) (by rw [e3]; exact Rp.mono ex.1 rw') (by rw [hl]; exact hja) (by rw [hl]; exact hjb) e' q
section
variable {K : PySem.W.Frag} {Γ : Own} {ρ : Z.Env} {tb : TE} {α : Type} [Rp α] {p : Addr} {vs : List V} {xs : List α} {i : Nat}
/-- len(xs), a list of one's own whose members are told by data -/
theorem ev_lenT (hm : (p, ObIs (.lst vs)) ∈ Γ) (hi : ρ[i]? = some (some ⟨(⟨p, vs, xs⟩ : LocT α)⟩)) : Ev K Γ (tCB (fun xs H Q => ∃ x n, xs = [x] ∧ LenV K x H n ∧ Q (.int n) H) (tCons (tVar i) tNil)) ρ (Is (xs.length : Int)) := fun Δ σ H Q s hh e k => by
  obtain ⟨u, hu, ru⟩ := e.2 i _ hi
  have eu : u = .ref p := ru.1
  subst eu
  obtain ⟨w, hw, iw⟩ := hh p _ (s _ hm)
  have iw' : w = HO.lst vs := iw
  subst iw'
  exact ⟨.ref p, hu, .ref p, xs.length, rfl, .inl ⟨vs, .inl (.inl hw), ru.2.len.symm⟩, k _ H _ rfl (Ext.refl hh) rfl⟩
/-- xs[n], n some index -/
theorem ev_ixT (hm : (p, ObIs (.lst vs)) ∈ Γ) (hi : ρ[i]? = some (some ⟨(⟨p, vs, xs⟩ : LocT α)⟩)) (hb : Ev K Γ tb ρ (fun r : Int => 0 ≤ r ∧ r < xs.length)) : Ev K Γ (tOp (rIxL K) (tVar i) tb) ρ (fun y => y ∈ xs) := fun Δ σ H Q s hh e k => by
  obtain ⟨u, hu, ru⟩ := e.2 i _ hi
  have eu : u = .ref p := ru.1
  subst eu
  refine ⟨.ref p, hu, hb Δ σ H _ s hh e fun w H2 b pb e2 r2 => ?_⟩
  have ew : w = .int b := r2
  subst ew
  obtain ⟨w, hw, iw⟩ := e2.2 p _ (s _ hm)
  have iw' : w = HO.lst vs := iw
  subst iw'
  have hlt : b.toNat < xs.length := by omega
  have eb : b = ((b.toNat : Nat) : Int) := (Int.toNat_of_nonneg pb.1).symm
  obtain ⟨v, hv, rv⟩ := ru.2.get (List.getElem?_eq_getElem hlt)
  refine ⟨p, vs, b, v, rfl, rfl, .inl (.inl hw), ?_, k _ H2 xs[b.toNat] (List.getElem_mem hlt) e2 (Rp.mono e2.1 rv)⟩
  have hy := atI_nat hv
  rw [← eb] at hy
  exact hy
end
theorem all2_ints {K : PySem.W.Frag} {Δ : Gh} {H : Hp} : ∀ {vs : List V} {xs : List Int}, All2 (fun u a => Rp.rp K Δ H u a) vs xs → vs = xs.map V.int
  | [], [], _ => rfl
  | v :: vs, x :: xs, h => by
    have e : v = V.int x := h.1
    rw [e, all2_ints h.2, List.map_cons]
  | [], _ :: _, h => h.elim
  | _ :: _, [], h => h.elim
/-- sum(xs) -/
theorem ev_sum {K : PySem.W.Frag} {Γ : Own} {ρ : Z.Env} {te : TE} {xs : List Int} (h : Ev K Γ te ρ (Is xs)) : Ev K Γ (tCB (rSum K) (tCons te tNil)) ρ (Is xs.sum) := fun Δ σ H Q s hh e k =>
  h Δ σ H _ s hh e fun v H1 a pa e1 r => by
    have ea : a = xs := pa
    subst ea
    obtain ⟨p, vs, rfl, _, sq, q⟩ := r
    have ev := all2_ints q
    subst ev
    exact ⟨p, a, rfl, sq, k _ H1 _ rfl e1 rfl⟩
end Z
namespace L2
open PySem PySem.Spec PyProof.Rows Z RZ
theorem cr_sumK {K : PySem.W.Frag} {X : Cx} (hc : X.calm = true) (h : X.K = K := by rfl) : CallR X (.builtin "sum") (rSum K) := by subst h; exact cr_sum hc
theorem pi_zipAK {K : PySem.W.Frag} {X : Cx} {e e2 : Expr} {ta : TA} {p pos tpos : Pos} {elts : List Expr} {kk : Nat} (hg : Gl X "zip") (hm : X.mg "zip" = none) (ha : PA X [e, e2] ta) (h : X.K = K := by rfl) (hs : starEach [e, e2] X.env = (false, eval e X.env) :: starEach [e2] X.env := by rfl) (hpl : (backTo pos (starEach [e2] X.env)).any (·.1) = false := by rfl) :
    PI X (.Tuple elts kk tpos) (.Call (.Name "zip" p) [e, e2] [] pos) (iZipA K ta) := by
  subst h
  exact pi_zipA hg hm ha hs hpl
end L2

set_option Elab.async false
set_option linter.all false
set_option maxRecDepth 100000
set_option maxHeartbeats 4000000
/-! sorted(set(xs)), xs a list of tuples of numbers of any lengths -/
namespace Zts
open PySem PySem.Spec PyProof.Rows L2
theorem perm_lift {α β : Type} {f : α → β} {vs ws : List β} (p : vs.Perm ws) : ∀ L : List α, ws = L.map f → ∃ M : List α, M.Perm L ∧ vs = M.map f := by
  induction p with
  | nil => exact fun L h => ⟨[], by rw [List.map_eq_nil_iff.mp h.symm], rfl⟩
  | cons x p ih =>
    intro L h
    cases L with
    | nil => cases h
    | cons a L =>
      obtain ⟨e1, e2⟩ := List.cons.inj h
      obtain ⟨M, pm, em⟩ := ih L e2
      exact ⟨a :: M, pm.cons a, by rw [List.map_cons, ← e1, ← em]⟩
  | swap x y l =>
    intro L h
    match L, h with
    | a :: b :: L, h =>
      obtain ⟨e1, e2⟩ := List.cons.inj h
      obtain ⟨e2, e3⟩ := List.cons.inj e2
      exact ⟨b :: a :: L, .swap a b L, by rw [List.map_cons, List.map_cons, ← e1, ← e2, ← e3]⟩
  | trans _ _ ih1 ih2 =>
    intro L h
    obtain ⟨M2, p2, e2⟩ := ih2 L h
    obtain ⟨M1, p1, e1⟩ := ih1 M2 e2
    exact ⟨M1, p1.trans p2, e1⟩
/-- a tuple of numbers as data -/
abbrev encP (b : Addr × List Int) : PyData := .tuple (b.2.map .int)
theorem reads_ints {h : Heap} : ∀ {us : List Value} {k : List Int}, IntsAre us k → ReadsAll h us (k.map .int) []
  | _, _, .nil => .nil
  | _, _, .cons n t r => .cons (.int n t) (reads_ints r)
theorem reads_tup {P : Program} {w : World} {h : Heap} {k : List Int} {b : Addr} (x : IsT P w h k b) : Reads h (.ref b) (.tuple (k.map .int)) [] := by
  obtain ⟨o, its, n, ho, hc, hd, hi⟩ := x
  exact .tuple ho hc hd (reads_ints (ints_of_items hi))
theorem each_refs {R : Value → (Addr × List Int) → Prop} : ∀ {M : List (Addr × List Int)}, (∀ p ∈ M, R (.ref p.1) p) → PySem.W.EachIs R (M.map fun p => Value.ref p.1) M
  | [], _ => .nil
  | p :: M, h => .cons (h p List.mem_cons_self) (each_refs fun q hq => h q (List.mem_cons_of_mem _ hq))
theorem refs_each : ∀ {out : List Value} {M : List (Addr × List Int)}, PySem.W.EachIs (fun v (b : Addr × List Int) => v = .ref b.1) out M → out = M.map fun p => Value.ref p.1
  | _, _, .nil => rfl
  | _, _, .cons h t => by rw [h, refs_each t, List.map_cons]
section
variable {P : Program} {w : World} {A : Around} {E : Value → Shared → Prop} {s : Shared}
theorem sortedS {a : Addr} {L : List (Addr × List Int)} {es : Array (Int × Value)} {ep : Nat} {t : SetTable} {Q : Value → Shared → Prop} (R : SetTR P w s.heap a L es ep t) (hh : A.handled = none) (hu : A.units + 70 < cLine) (hne : ∀ p ∈ L, p.2 ≠ [])
    (hQ : ∀ s' q (c : Nat) (M : List (Addr × List Int)), (∀ b o, s.heap.get? b = some o → s'.heap.get? b = some o) → s'.gens = s.gens → s'.os = s.os → s.heap.objs.size ≤ q →
      s'.heap.get? q = some (seqObj "list" (M.map fun p => Value.ref p.1).toArray c) → M.Perm L → M.Pairwise (fun x y => PySem.W.dataLe false encP x y = true) → Q (.ref q) s') :
    wpAny (model P w) A (call (.builtin "sorted") [.ref a]) Q E s := by
  obtain ⟨o, ho, hex, hd⟩ := R.ob
  have few := R.few
  have rl : es.toList.map (·.2) = L.map fun p => Value.ref p.1 := by
    rw [R.rows, rowsOf, List.map_map]
    rfl
  refine Calls.call_function_entry kind_sorted plain_sorted entry_sorted (args_sorted1 _) ?_
  unfold Builtin.«sorted»
  refine wpAny_bind (m := checkCount "sorted" 1 1 _) (wpAny_pure ?_)
  refine wpAny_bind (collect_set (A := A.in1) hh ⟨o, ho, hex.1, hd⟩ R.fits (Nat.lt_of_le_of_lt (m := 63) (by rw [R.size]; omega) (by decide)) R.tab.ris R.led fun s1 vs k1 z1 g1 o1 pm => ?_)
  rw [rl] at pm
  obtain ⟨M0, p0, rfl⟩ := perm_lift pm L rfl
  have h63 : M0.length ≤ sizeLine := Nat.le_trans (m := 63) (by rw [p0.length_eq]; omega) (by decide)
  refine wpAny_bind (wpAny_newList ?_ (by rw [List.length_map]; exact h63))
  have hoL : (s1.heap.push (seqObj "list" (M0.map fun p => Value.ref p.1).toArray 0)).get? s1.heap.objs.size = some (seqObj "list" (M0.map fun p => Value.ref p.1).toArray 0) := Heap.get?_push_size _ rfl
  have rd : ∀ p ∈ M0, Reads (s1.heap.push (seqObj "list" (M0.map fun p => Value.ref p.1).toArray 0)) (.ref p.1) (encP p) [] := fun p hp =>
    reads_tup (isT_keep (R.tup p (p0.mem_iff.mp hp)) fun b u e => Heap.get?_push_of_some _ (k1 b u e))
  refine wpAny_bind (wpAny_holding (PySem.W.list_sort_data (s := { s1 with heap := s1.heap.push (seqObj "list" (M0.map fun p => Value.ref p.1).toArray 0) }) (bs := M0) (enc := encP) (R := fun v b => v = .ref b.1) hoL (each_refs fun p _ => rfl) (each_refs fun p hp => ⟨[], rd p hp, List.not_mem_nil⟩) ?_ ?_ h63 (fun b hb => ?_) fun out hl eo => ?_))
  · intro d hd d' hd'
    obtain ⟨x, _, rfl⟩ := List.mem_map.mp hd
    obtain ⟨y, _, rfl⟩ := List.mem_map.mp hd'
    exact PySem.W.alike_ints x.2 y.2
  · refine .inl fun d hd => ?_
    obtain ⟨x, hx, rfl⟩ := List.mem_map.mp hd
    obtain ⟨i, is, ei⟩ := List.exists_cons_of_ne_nil (hne x (p0.mem_iff.mp hx))
    exact ⟨.int i, is.map .int, by show PyData.tuple (x.2.map .int) = _; rw [ei]; rfl⟩
  · have e : (encP b).depth ≤ 2 := by
      rw [PyData.depth, PySem.W.depth_ints]
      omega
    have e2 : A.in1.units ≤ A.units + 2 := by
      first | exact Nat.le_refl _ | (unfold Around.in1; simp <;> omega)
    omega
  · have eo' := refs_each eo
    obtain ⟨c, hc⟩ := sortedHeap_at (vs := M0.map fun p => Value.ref p.1) (out := out.toArray) hoL
    rw [eo'] at hc ⊢
    have tot := PySem.W.sortLe_total (listOrd itemOrd) false fun b : Addr × List Int => PySem.W.keyToks (encP b)
    refine wpAny_pure ⟨_, rfl, hQ _ s1.heap.objs.size c (M0.mergeSort (PySem.W.dataLe false encP)) (fun b u e => ?_) g1 o1 z1 hc ((List.mergeSort_perm _ _).trans p0) ?_⟩
    · have q := k1 b u e
      have lt := Heap.lt_size q
      refine (sortedHeap_old (Nat.ne_of_lt lt) (by rw [size_push']; exact Nat.lt_succ_of_lt lt)).trans ?_
      exact Heap.get?_push_of_some _ q
    · exact List.pairwise_mergeSort (fun x y z => tot.trans x y z) (fun x y => by rw [Bool.or_eq_true]; exact tot.total x y) M0
end
end Zts
namespace L2
open PySem PySem.Spec PyProof.Rows
/-- sorted(set(xs)), xs tuples of numbers, fewer than 64 of them, none empty: each once, rising -/
def tSortSetT (K : PySem.W.Frag) (te : TE) : TE := fun σ H Q => te σ H fun x H1 => ∃ (a : Addr) (ks : List (Addr × List Int)), x = .ref a ∧ SqL K H1 a (ks.map fun p => V.ref p.1) ∧ (∀ p ∈ ks, SqT K H1 p.1 (p.2.map V.int)) ∧ ks.length < 64 ∧ (∀ p ∈ ks, p.2 ≠ []) ∧
  ∀ (M : List (Addr × List Int)) (q : Addr), (M.map (·.2)).Nodup → (∀ p ∈ M, p ∈ ks) → (∀ p ∈ ks, p.2 ∈ M.map (·.2)) → M.Pairwise (fun x y => PySem.W.dataLe false Zts.encP x y = true) → H1 q = none → Q (.ref q) (upd H1 q (.lst (M.map fun p => V.ref p.1)))
theorem pe_sortSetT {X : Cx} {e : Expr} {te : TE} {p p2 q pos : Pos} (hc : X.calm = true) (hu : X.A.units + 70 < cLine) (hg : Gl X "sorted") (hm : X.mg "sorted" = none) (hv : bootBuiltins "sorted" = some (.builtin "sorted")) (hg2 : Gl X "set") (hm2 : X.mg "set" = none) (he : PE X e te)
    (na : starEach [e] X.env = (false, eval e X.env) :: starEach [] X.env := by rfl) : PE X (.Call (.Name "sorted" p) [.Call (.Name "set" p2) [e] [] q] [] pos) (tSortSetT X.K te) := by
  refine ⟨fun pins s σ H Q I h => ?_⟩
  refine Call_ (ld_blt I hg hm hv ?_)
  refine PyProof.Rows.callWith_builtin1 (PyProof.Rows.args_cons ?_ rfl) rfl rfl
  refine Call_ (ld_blt I hg2 hm2 boot_set ?_)
  refine PyProof.Rows.callWith_type1 (PyProof.Rows.args_cons (thn (he.run pins s σ H _ I h) fun v s1 ⟨x, H1, I1, r1, q1⟩ => PyProof.Rows.args_nil ?_) na) na rfl
  obtain ⟨a, ks, rfl, hq, hk, hf, hne, q1⟩ := q1
  cases r1
  obtain ⟨its, rv, pl, hz⟩ := I1.list hq
  refine call_set_tups (P := X.prog) (w := X.w) ks (I1.ok.hd hc) pl.isList (by simpa using refs_of_vals rv) (fun p hp => I1.isT (hk p hp)) hf (by omega) fun h' tk L es ep t R g k => ?_
  have sub : ∀ p ∈ L, p ∈ ks := fun p hp => List.mem_of_mem_take (g.sub p hp)
  refine PyProof.Rows.args_nil ?_
  refine Zts.sortedS (s := { s1 with heap := h', toks := tk }) R (I1.ok.hd hc) hu (fun p hp => hne p (sub p hp)) fun s' l c M k2 g2 o2 l2 e2 pm pw => ?_
  have kp : ∀ b o, s1.heap.get? b = some o → s'.heap.get? b = some o := fun b o e => k2 b o (k b o e)
  have hl2 : s1.heap.objs.size ≤ l := by
    obtain ⟨_, ho, _⟩ := R.ob
    exact Nat.le_trans (Nat.le_of_lt (Heap.lt_size ho)) l2
  have new : ObjOk X.prog X.w (upd H1 l (.lst (M.map fun p => V.ref p.1))) s'.heap l (.lst (M.map fun p => V.ref p.1)) := by
    refine ⟨?_, M.map fun p => Value.ref p.1, c, vals_of_refs M, e2⟩
    rw [List.length_map, pm.length_eq]
    exact Nat.le_trans (Nat.le_of_lt R.few) (by decide)
  refine ⟨.ref l, upd H1 l (.lst (M.map fun p => V.ref p.1)), I1.call' (ch := []) o2 (Un.laid kp hl2 (I1.hok.fresh hl2)) (I1.hok.laid kp hl2 new) (by rw [g2]; exact I1.bare) (fun b z => nomatch z), rfl, q1 M l ?_ (fun p hp => sub p (pm.mem_iff.mp hp)) (fun p hp => ?_) pw (I1.hok.fresh hl2)⟩
  · exact (pm.map (·.2)).nodup_iff.mpr R.nd
  · exact (pm.map (·.2)).mem_iff.mpr (g.all p (by rw [List.take_length]; exact hp))
end L2
namespace Z
open PySem PySem.Spec PyProof.Rows L2
/-- sorted(set(xs)) -/
theorem ev_sortSetT {K : PySem.W.Frag} {Γ : Own} {ρ : Z.Env} {te : TE} {xs : List (Tup Int)} (h : Ev K Γ te ρ (Is xs)) (h64 : xs.length < 64) (hne : ∀ x ∈ xs, x.l ≠ []) : Ev K Γ (tSortSetT K te) ρ (fun ys : List (Tup Int) => ys.Nodup ∧ (∀ y, y ∈ ys ↔ y ∈ xs) ∧ ys.Pairwise fun a b => leI a b = true) := fun Δ σ H Q s hh e k =>
  h Δ σ H _ s hh e fun v H1 a pa e1 r => by
    have ea : a = xs := pa
    subst ea
    obtain ⟨p, vs, rfl, n, sq, q⟩ := r
    obtain ⟨zs, z1, z2, hz⟩ := all2_zip q
    -- each is a tuple of numbers at its place
    have pl : ∀ z ∈ zs, ∃ b, z.1 = V.ref b ∧ SqT K H1 b (z.2.l.map V.int) := fun z hz' => by
      obtain ⟨b, us, e0, st, sq', q'⟩ := hz z hz'
      exact ⟨b, e0, all2_int q' ▸ sq'⟩
    let f : V × Tup Int → Addr × List Int := fun z => (match z.1 with | .ref b => b | _ => p, z.2.l)
    have fp : ∀ z ∈ zs, z.1 = V.ref (f z).1 := fun z hz' => by
      obtain ⟨b, e0, _⟩ := pl z hz'
      show z.1 = V.ref (match z.1 with | .ref b => b | _ => p)
      rw [e0]
    refine ⟨p, zs.map f, rfl, ?_, fun y hy => ?_, ?_, fun y hy => ?_, fun M l nd sub all pw hl => ?_⟩
    · rw [List.map_map]
      have : zs.map ((fun p : Addr × List Int => V.ref p.1) ∘ f) = vs := by
        rw [← z1]
        exact List.map_congr_left fun z hz' => (fp z hz').symm
      rw [this]
      exact sq
    · obtain ⟨z, hz', rfl⟩ := List.mem_map.mp hy
      obtain ⟨b, e0, s0⟩ := pl z hz'
      have := fp z hz'
      rw [e0] at this
      cases this
      exact s0
    · rw [List.length_map]
      have := congrArg List.length z2
      rw [List.length_map] at this
      omega
    · obtain ⟨z, hz', rfl⟩ := List.mem_map.mp hy
      exact hne z.2 (by rw [← z2]; exact List.mem_map.mpr ⟨z, hz', rfl⟩)
    · refine k _ _ (M.map fun p => (⟨p.2⟩ : Tup Int)) ⟨?_, fun y => ?_, ?_⟩ (e1.trans (Ext.new e1.2 hl _)) (new_lst e1.2 hl ?_)
      · refine List.pairwise_map.mpr ((List.pairwise_map.mp nd).imp fun {x y} hne' e => hne' (Tup.mk.inj e))
      · rw [List.mem_map]
        constructor
        · rintro ⟨m, hm, rfl⟩
          obtain ⟨z, hz', rfl⟩ := List.mem_map.mp (sub m hm)
          rw [← z2]
          exact List.mem_map.mpr ⟨z, hz', rfl⟩
        · intro hy
          rw [← z2] at hy
          obtain ⟨z, hz', rfl⟩ := List.mem_map.mp hy
          obtain ⟨m, hm, em⟩ := List.mem_map.mp (all (f z) (List.mem_map.mpr ⟨z, hz', rfl⟩))
          exact ⟨m, hm, by rw [em]⟩
      · exact List.pairwise_map.mpr pw
      · exact All2.map fun m hm => by
          obtain ⟨z, hz', rfl⟩ := List.mem_map.mp (sub m hm)
          have := hz z hz'
          rw [fp z hz'] at this
          exact this
/-- .. which is the sorted list of any that has each once -/
theorem sortSet_is {xs ys zs : List (Tup Int)} (h : ys.Nodup ∧ (∀ y, y ∈ ys ↔ y ∈ xs) ∧ ys.Pairwise fun a b => leI a b = true) (nz : zs.Nodup) (m : ∀ z, z ∈ zs ↔ z ∈ xs) : ys = srtI zs :=
  pwI_uniq h.1 ((srtI_perm zs).nodup_iff.mpr nz) h.2.2 (srtI_pw zs) fun x => by rw [h.2.1, srtI_mem, m]
end Z

set_option Elab.async false
set_option linter.all false
set_option maxRecDepth 100000
set_option maxHeartbeats 4000000
/-! sorted(set(xs)), xs a list of numbers; t.index(n), xs.count(n) -/
namespace Zts
open PySem PySem.Spec PyProof.Rows L2 Zst
section
variable {P : Program} {w : World} {A : Around} {E : Value → Shared → Prop} {s : Shared}
theorem at_num : ∀ {us : List Value} {xs : List Int}, IntsAre us xs → ∀ (i : Nat) (v : Value), us[i]? = some v → ∃ k t, xs[i]? = some k ∧ v = .int k t
  | _, _, .nil, i, v, h => by simp at h
  | _, _, .cons n t r, 0, v, h => ⟨n, t, rfl, (Option.some.inj h).symm⟩
  | _, _, .cons n t r, i + 1, v, h => at_num r i v h
theorem call_setN {q : Addr} {its : Array Value} (xs : List Int) {Q : Value → Shared → Prop} (hh : A.handled = none) (hl : s.heap.IsList q its) (hit : IntsAre its.toList xs) (hb : xs.length + 1 < scanBound)
    (h : ∀ (h1 : Heap) (tk c : Nat), SetR w h1 s.heap.objs.size (fun j => decide (j ∈ xs)) c → c ≤ xs.length → (∀ b o, s.heap.get? b = some o → h1.get? b = some o) → Q (.ref s.heap.objs.size) { s with heap := h1, toks := tk }) :
    wpAny (model P w) A (call (.type "set") [.ref q]) Q E s := by
  have size : its.size = xs.length := by
    have e := IntsAre.length hit
    rw [Array.length_toList] at e
    exact e
  obtain ⟨c, tl, hmro⟩ := F.called_set.mro
  have hmade := F.called_set.made
  have hsub := F.called_set.sub
  refine wpAny_call (codeAny_of_tree ?_)
  show wpAny _ _ (callAny (.type "set") _) _ _ _
  refine wpAny_pure ⟨Code.quiet_builtin _ (by decide +kernel), codeAny_builtin F.entry_type_call ?_⟩
  rw [Around.under_plain (weight_type_call_type "set" [.ref q] []) rfl]
  have t1 := F.called_set.notType
  have t2 := F.called_set.canCreate
  have t3 := F.typeCall_set_1 (.ref q)
  repeat (any_goals (first | assumption | wp_step))
  refine codeAny_mono (code_set_led1 (.ref q) (E := E) (Q₁ := fun obj z => obj = .ref s.heap.objs.size ∧ z = { s with heap := s.heap.push (none0 w) }) ⟨rfl, rfl⟩) fun r z hr => ?_
  match r, hr with
  | .error e, hr => exact hr
  | .ok .next, hr => exact hr.elim
  | .ok .brk, hr => exact hr.elim
  | .ok .cont, hr => exact hr.elim
  | .ok (.ret obj), hr =>
    obtain ⟨rfl, rfl⟩ := hr
    have hS : (s.heap.push (none0 w)).get? s.heap.objs.size = some (none0 w) := Heap.get?_push_size _ rfl
    have hT : Shared.TypeIs { s with heap := s.heap.push (none0 w) } (.ref s.heap.objs.size) "set" := ⟨_, hS, rfl⟩
    have hli := F.called_set.init.lookup
    have hbi := F.called_set.init.bind (.ref s.heap.objs.size)
    repeat (any_goals (first | assumption | wp_step))
    refine codeAny_mono (codeAny_call_builtin (R := wants (fun r z => r = .none ∧ ∃ h1 tk c, z = { s with heap := h1, toks := tk } ∧ SetR w h1 s.heap.objs.size (fun j => decide (j ∈ xs)) c ∧ c ≤ xs.length ∧ (∀ b o, s.heap.get? b = some o → h1.get? b = some o)) E) F.called_set.init.plain F.entry_set_init (check_set_init_1 hT ?_)) fun r2 z2 hr2 => ?_
    · obtain ⟨ol, hol, hcl, nl, hdl⟩ := hl
      obtain ⟨ocls, odict, odata, oslots⟩ := ol
      simp only at hcl hdl
      subst hcl; subst hdl
      have hol' : (s.heap.push (none0 w)).get? q = some { cls := .type "list", dict := odict, data := .seq its nl, slots := oslots } := Heap.get?_push_of_some _ hol
      have hsls := F.sub_list_set
      have hslf := F.sub_list_frozenset
      have hne : (Value.type "list" == Value.type "dict") = false := by decide
      have hl1 : (s.heap.push (none0 w)).IsList q its := ⟨_, hol', rfl, nl, rfl⟩
      unfold Builtin.«set.__init__» noKeywords Builtin.Frozenset.updateFrom
      generalize hPI : pyIter = PI
      wp_walk
      subst hPI
      refine wpAny_pyIter_list hl1 ?_
      refine wpAny_bind (wpAny_runValue ?_)
      have below : q < s.heap.objs.size := Heap.lt_size hol
      have free : A.in1.in1.in1.handled = none := by simp [hh]
      have apart : q ≠ (s.heap.push (none0 w)).objs.size := by
        rw [Heap.size_push]; exact Nat.ne_of_lt (Nat.lt_succ_of_lt below)
      have off : s.heap.objs.size ∉ [(s.heap.push (none0 w)).objs.size, q] := by
        rw [Heap.size_push]; simp only [List.mem_cons, List.mem_singleton, List.not_mem_nil, or_false, not_or]
        exact ⟨Nat.ne_of_lt (Nat.lt_succ_self _), Nat.ne_of_gt below⟩
      have hval : ∀ (i : Nat) (v : Value), its[i]? = some v → ∃ k t, xs[i]? = some k ∧ v = .int k t := fun i v hv => at_num hit i v (by rw [Array.getElem?_toList]; exact hv)
      refine set_update_ints ((Walks.list free _ q apart its).toS) s.heap.objs.size off xs size hb hval (its.size - 0) 0 _ (by omega) (Nat.zero_le _) ⟨⟨_, Heap.get?_push_size _ rfl, rfl, rfl⟩, (hl1.push _)⟩ ⟨0, Nat.le_refl 0, setR_new_at (Heap.get?_push_of_some _ hS)⟩ fun z c' hm hc' hS' => ?_
      obtain ⟨h1, g2, d2, tk2, os2⟩ := z
      obtain rfl : g2 = s.gens := hm.gens
      obtain rfl : d2 = s.drawn := hm.drawn
      obtain rfl : os2 = s.os := hm.os
      show wpAny _ _ _ _ _ _
      refine wpAny_pure ?_
      show wpAny _ _ (ret Value.none) _ _ _
      rw [size] at hc'
      refine wpAny_pure ⟨rfl, h1, tk2, c', rfl, hS', hc', fun b o e => ?_⟩
      have b0 : b < s.heap.objs.size := Heap.lt_size e
      have b1 : b ≠ (s.heap.push (none0 w)).objs.size := by
        rw [Heap.size_push]; exact Nat.ne_of_lt (Nat.lt_succ_of_lt b0)
      exact hm.heap b o (by simp only [List.mem_cons, List.mem_singleton, List.not_mem_nil, or_false, not_or]; exact ⟨Nat.ne_of_lt b0, b1⟩) (Heap.get?_push_of_some _ (Heap.get?_push_of_some _ e))
    · match r2, hr2 with
      | .error e, hr2 => exact hr2
      | .ok .next, hr2 => exact hr2.elim
      | .ok .brk, hr2 => exact hr2.elim
      | .ok .cont, hr2 => exact hr2.elim
      | .ok (.ret r), hr2 =>
        obtain ⟨rfl, h1, tk, c', rfl, hS', hc', hk'⟩ := hr2
        repeat (any_goals (first | assumption | wp_step))
        exact h _ _ _ hS' hc' hk'
end
end Zts
namespace L2
open PySem PySem.Spec PyProof.Rows
/-- sorted(set(xs)), xs numbers, fewer than 63: each once, rising -/
def tSortSetI (K : PySem.W.Frag) (te : TE) : TE := fun σ H Q => te σ H fun x H1 => ∃ (a : Addr) (ns : List Int), x = .ref a ∧ SqL K H1 a (ns.map V.int) ∧ ns.length < 63 ∧
  ∀ (ys : List Int) (p : Addr), ys.Pairwise (· < ·) → (∀ k, k ∈ ys ↔ k ∈ ns) → H1 p = none → Q (.ref p) (upd H1 p (.lst (ys.map V.int)))
section
variable {X : Cx}
theorem pe_sortSetI {e : Expr} {te : TE} {p p2 q pos : Pos} (hc : X.calm = true) (hg : Gl X "sorted") (hm : X.mg "sorted" = none) (hv : bootBuiltins "sorted" = some (.builtin "sorted")) (hg2 : Gl X "set") (hm2 : X.mg "set" = none) (he : PE X e te)
    (na : starEach [e] X.env = (false, eval e X.env) :: starEach [] X.env := by rfl) : PE X (.Call (.Name "sorted" p) [.Call (.Name "set" p2) [e] [] q] [] pos) (tSortSetI X.K te) := by
  refine ⟨fun pins s σ H Q I h => ?_⟩
  refine Call_ (ld_blt I hg hm hv ?_)
  refine PyProof.Rows.callWith_builtin1 (PyProof.Rows.args_cons ?_ rfl) rfl rfl
  refine Call_ (ld_blt I hg2 hm2 boot_set ?_)
  refine PyProof.Rows.callWith_type1 (PyProof.Rows.args_cons (thn (he.run pins s σ H _ I h) fun v s1 ⟨x, H1, I1, r1, q1⟩ => PyProof.Rows.args_nil ?_) na) na rfl
  obtain ⟨a, ns, rfl, hq, hz, q1⟩ := q1
  cases r1
  obtain ⟨its, r, pl, hlz⟩ := I1.list hq
  refine Zts.call_setN (its := its.toArray) ns (I1.ok.hd hc) pl.isList (by simpa using ints_of_vals r) (by unfold scanBound; omega) fun h1 tk c hS hcn hk => ?_
  refine PyProof.Rows.args_nil ?_
  refine sorted_set (s := { s1 with heap := h1, toks := tk }) hS (I1.ok.hd hc) (by omega) fun s' l out c2 ys k2 g2 o2 l2 e2 r2 pw mm hl => ?_
  have kp : ∀ b o, s1.heap.get? b = some o → s'.heap.get? b = some o := fun b o e => k2 b o (hk b o e)
  have hl2 : s1.heap.objs.size ≤ l := Nat.le_trans (Nat.le_of_lt hS.lt) l2
  have new : ObjOk X.prog X.w (upd H1 l (.lst (ys.map V.int))) s'.heap l (.lst (ys.map V.int)) := by
    refine ⟨?_, out.toList, c2, vals_of_ints r2, e2⟩
    rw [List.length_map, hl]
    exact Nat.le_trans (m := 63) (by omega) (by decide)
  exact ⟨.ref l, upd H1 l (.lst (ys.map V.int)), I1.call' (ch := []) o2 (Un.laid kp hl2 (I1.hok.fresh hl2)) (I1.hok.laid kp hl2 new) (by rw [g2]; exact I1.bare) (fun b z => nomatch z), rfl, q1 ys l pw (fun k => (mm k).trans decide_eq_true_iff) (I1.hok.fresh hl2)⟩
/-- t.index(n), the first place -/
def rTIx (K : PySem.W.Frag) : V → List V → Hp → VK → Prop := fun x xs H Q => ∃ (p : Addr) (ys : List Int) (z : Int) (j : Nat), x = .ref p ∧ xs = [.int z] ∧ SqT K H p (ys.map V.int) ∧ ys[j]? = some z ∧ (∀ m, m < j → ys[m]? ≠ some z) ∧ Q (.int (j : Nat)) H
theorem flat_nums (ys : List Int) : (ys.map V.int).all flatV = true := by
  rw [List.all_map]
  exact List.all_eq_true.mpr fun _ _ => rfl
theorem mt_tix : MtR X "tuple.index" (rTIx X.K) := by
  intro pins s σ H x xs v us Q I rx rs h
  obtain ⟨p, ys, z, j, rfl, rfl, hq, hy, hno, q⟩ := h
  cases rx
  obtain ⟨u, rfl, t, rfl⟩ := vals1 rs
  obtain ⟨its, r, ⟨⟨cls, dd, dt, sl⟩, ho, hc, n, hd⟩, hz⟩ := I.tuple hq
  simp only at hc hd
  subst hc hd
  have sz : its.toArray.size = ys.length := by rw [List.size_toArray, ← r.length, List.length_map]
  have jl : j < its.toArray.size := by rw [sz]; exact (List.getElem?_eq_some_iff.mp hy).1
  have one : ∀ (m : Nat) (hm : m < its.toArray.size), ∃ y t', ys[m]? = some y ∧ its.toArray[m] = Value.int y t' := fun m hm => by
    obtain ⟨y, t', e1, e2⟩ := Zts.at_num (ints_of_vals r) m its.toArray[m] (by simp)
    exact ⟨y, t', e1, e2⟩
  refine call_meets PySem.F.slot_tuple_index ⟨_, ho, rfl⟩ PySem.F.entry_tuple_index (PySem.F.args_tuple_index_2 _ _) (TI.tuple_indexAt p its.toArray n dd sl (.int z t) (eqU (.int z)) j jl ?_ ?_)
    ⟨ho, fun w hw => mem_eqAt (x := .int z) ⟨t, rfl⟩ rfl r (flat_nums ys) w (by simpa using hw), ⟨.int (j : Nat), H, I.tok _, ⟨_, rfl⟩, q⟩⟩
  · obtain ⟨y, t', h1, h2⟩ := one j jl
    rw [hy] at h1
    cases h1
    rw [h2]
    show (z == z) = true
    exact beq_self_eq_true z
  · intro m hm hmj
    obtain ⟨y, t', h1, h2⟩ := one m hm
    rw [h2]
    show (y == z) = false
    exact beq_eq_false_iff_ne.mpr fun e => hno m hmj (e ▸ h1)
/-- tuple(xs) of a list, kept still -/
def rTupZ (K : PySem.W.Frag) : List V → Hp → VK → Prop := fun xs H Q => ∃ p ys, xs = [.ref p] ∧ SqL K H p ys ∧ ∀ l o, o.dict = none → H l = none → Q (.ref l) (upd H l (.frz o (.tup ys)))
theorem call_tupZ {K : PySem.W.Frag} (h : X.K = K := by rfl) : CallR X (.type "tuple") (rTupZ K) := by
  subst h
  intro pins s σ H xs us Q I r h
  obtain ⟨p, ys, rfl, hq, q⟩ := h
  obtain ⟨u, rfl, rx⟩ := vals1 r
  cases rx
  obtain ⟨its, rv, pl, hz⟩ := I.list hq
  have len := rv.length
  refine call_tuple_list pl.isList (fun h1 kp => ?_) (by simp only [List.size_toArray]; omega)
  have J : Inv X pins σ H { s with heap := h1 } := I.kept (t' := s.toks) kp
  have at1 : (h1.push { cls := .type "tuple", data := .seq its.toArray }).get? h1.objs.size = some { cls := .type "tuple", data := .seq its.toArray } := Heap.get?_push_size _ rfl
  refine ⟨.ref h1.objs.size, upd H h1.objs.size (.frz { cls := .type "tuple", data := .seq its.toArray } (.tup ys)), J.laid (t' := s.toks) (fun b o e => Heap.get?_push_of_some _ e) (Nat.le_refl _) ?_, rfl, q _ _ rfl (J.hok.fresh (Nat.le_refl _))⟩
  exact ⟨at1, hz, its, rv, ⟨_, at1, rfl, _, rfl⟩⟩
def tTIx (K : PySem.W.Frag) (to : TE) (t : TA) : TE := fun σ H Q => to σ H fun x H1 => ∃ p o vs, x = .ref p ∧ H1 p = some (.frz o (.tup vs)) ∧ o.dict = none ∧ t σ H1 fun xs H2 => rTIx K x xs H2 Q
/-- t.index(n), t a kept-still tuple -/
theorem pe_tix {K : PySem.W.Frag} {o e : Expr} {es : List Expr} {to : TE} {t : TA} {apos cpos : Pos} (ho : PE X o to) (ha : PA X (e :: es) t) (h : X.K = K := by rfl)
    (hbase : attributeBase o "index" X.env (eval o X.env) = eval o X.env := by rfl)
    (hfew : ((backTo cpos (starEach (e :: es) X.env)).all (fun x => !x.1) && (backToKw cpos (keywordEach [] X.env)).all (fun x => x.1.isSome)
      && decide ((e :: es).length + ([] : List Keyword).length + (if ([] : List Keyword).isEmpty then 0 else 1) < 30)) = true := by rfl)
    (hline : (apos.endLine == cpos.line) = true := by rfl) (hs : starEach (e :: es) X.env = (false, eval e X.env) :: starEach es X.env := by rfl) (hplain : (backTo cpos (starEach es X.env)).any (·.1) = false := by rfl) :
    PE X (.Call (.Attribute o "index" apos) (e :: es) [] cpos) (tTIx K to t) := by
  subst h
  refine ⟨fun pins s σ H Q I h => ?_⟩
  refine wpAny_Call_method_late hbase hfew hline rfl (thn (ho.run pins s σ H _ I h) fun v s1 ⟨x, H1, I1, r1, p, ob, vs, ex, hp, hd, q1⟩ => ?_)
  subst ex
  cases r1
  have z : s1.heap.get? p = some ob ∧ ObjOk X.prog X.w H1 s1.heap p (.tup vs) := I1.hok p _ hp
  obtain ⟨_, its, rv, o2, g2, c2, n2, d2⟩ := z.2
  refine ⟨"tuple", "tuple.index", PySem.F.plainAttrs_tuple, PySem.F.slot_tuple_index, PySem.F.type_tuple_index, ⟨o2, g2, c2⟩, fun a e => by cases e; exact ⟨ob, z.1, hd⟩, ?_⟩
  have hA := ha.run cpos pins s1 σ H1 _ I1 q1
  rw [hs] at hA ⊢
  refine Calls.callWith_builtin (by show (false || (backTo cpos (starEach es X.env)).any (·.1)) = false; rw [hplain]; rfl) (Calls.evalArgs_plain ?_)
  exact thn hA fun us s2 ⟨ws, H2, I2, r2, q2⟩ => mt_tix pins s2 σ H2 (.ref p) ws (.ref p) us Q I2 rfl r2 q2
end
end L2
namespace Z
open PySem PySem.Spec PyProof.Rows L2
/-- a tuple of numbers that is kept still -/
structure RowF where
  l : List Int
instance : Rp RowF where
  rp K Δ H v x := ∃ p vs o, v = .ref p ∧ Δ p = none ∧ H p = some (.frz o (.tup vs)) ∧ o.dict = none ∧ All2 (fun u (a : Int) => Rp.rp K Δ H u a) vs x.l
  mono k h := by
    obtain ⟨p, vs, o, e, n, hp, hd, q⟩ := h
    exact ⟨p, vs, o, e, n, k _ _ n hp, hd, q.imp fun _ _ => Rp.mono k⟩
  weak w h := by
    obtain ⟨p, vs, o, e, n, hp, hd, q⟩ := h
    exact ⟨p, vs, o, e, w p _ hp n, hp, hd, q.imp fun _ _ => Rp.weak w⟩
section
variable {K : PySem.W.Frag} {Γ : Own} {ρ : Z.Env} {te ta : TE}
theorem ev_sortSetI {xs : List Int} (h : Ev K Γ te ρ (Is xs)) (hz : xs.length < 63) : Ev K Γ (tSortSetI K te) ρ (fun ys : List Int => ys.Pairwise (· < ·) ∧ ∀ k, k ∈ ys ↔ k ∈ xs) := fun Δ σ H Q s hh e k =>
  h Δ σ H _ s hh e fun v H1 a pa e1 r => by
    have ea : a = xs := pa
    subst ea
    obtain ⟨p, vs, rfl, _, sq, q⟩ := r
    have ev := all2_ints q
    subst ev
    exact ⟨p, a, rfl, sq, hz, fun ys l pw mm hl => k _ _ ys ⟨pw, mm⟩ (e1.trans (Ext.new e1.2 hl _)) (new_lst e1.2 hl (by
      have em : ys = ys.map id := (List.map_id _).symm
      conv => rhs; rw [em]
      exact All2.map fun x _ => rfl))⟩
theorem lt_uniq : ∀ {a b : List Int}, a.Pairwise (· < ·) → b.Pairwise (· < ·) → (∀ x, x ∈ a ↔ x ∈ b) → a = b
  | [], [], _, _, _ => rfl
  | [], y :: _, _, _, m => absurd ((m y).mpr List.mem_cons_self) (by simp)
  | x :: _, [], _, _, m => absurd ((m x).mp List.mem_cons_self) (by simp)
  | x :: xs, y :: ys, p1, p2, m => by
    rw [List.pairwise_cons] at p1 p2
    have e : x = y := by
      rcases List.mem_cons.mp ((m x).mp List.mem_cons_self) with h | h
      · exact h
      · rcases List.mem_cons.mp ((m y).mpr List.mem_cons_self) with h2 | h2
        · exact h2.symm
        · have := p1.1 y h2
          have := p2.1 x h
          omega
    subst e
    rw [lt_uniq p1.2 p2.2 fun z => ⟨fun h => ?_, fun h => ?_⟩]
    · rcases List.mem_cons.mp ((m z).mp (List.mem_cons_of_mem _ h)) with q | q
      · have := p1.1 z h
        omega
      · exact q
    · rcases List.mem_cons.mp ((m z).mpr (List.mem_cons_of_mem _ h)) with q | q
      · have := p2.1 z h
        omega
      · exact q
/-- sorted(set(xs)), xs rising -/
theorem ev_sortSetUp {xs : List Int} (h : Ev K Γ te ρ (Is xs)) (hz : xs.length < 63) (pw : xs.Pairwise (· < ·)) : Ev K Γ (tSortSetI K te) ρ (Is xs) := (ev_sortSetI h hz).imp fun ys hy => lt_uniq hy.1 pw hy.2
/-- t.index(n), t a kept-still tuple -/
theorem ev_tix {x : RowF} {n : Int} {j : Nat} (h : Ev K Γ te ρ (Is x)) (hn : Ev K Γ ta ρ (Is n)) (hj : x.l[j]? = some n) (no : ∀ m, m < j → x.l[m]? ≠ some n) : Ev K Γ (tTIx K te (tCons ta tNil)) ρ (Is (j : Int)) := fun Δ σ H Q s hh e k =>
  h Δ σ H _ s hh e fun v H1 a pa e1 r => by
    have ea : a = x := pa
    subst ea
    obtain ⟨p, vs, o, rfl, n0, hp, hd, q⟩ := id r
    have ev := all2_ints q
    subst ev
    refine ⟨p, o, _, rfl, hp, hd, hn Δ σ H1 _ s e1.2 (e.mono e1.1) fun w H2 b pb e2 r2 => ?_⟩
    have eb : b = n := pb
    subst eb
    have ew : w = .int b := r2
    subst ew
    exact ⟨p, a.l, b, j, rfl, rfl, .inl (.inr ⟨o, e2.1 _ _ n0 hp⟩), hj, no, k _ H2 _ rfl (e1.trans e2) rfl⟩
/-- tuple(xs), kept still -/
theorem o1_tupZ {xs : List Int} : Op1 K (rTupZ K) xs (Is (⟨xs⟩ : RowF)) := fun Δ H v Q hh r k => by
  obtain ⟨p, vs, rfl, st, sq, q⟩ := r
  exact ⟨p, vs, rfl, sq, fun l o hd hl => k _ _ (⟨xs⟩ : RowF) rfl (Ext.new hh hl _) ⟨l, vs, o, rfl, hh.fresh hl, upd_same, hd, q.imp fun _ _ => Rp.mono (Ext.new hh hl _).1⟩⟩
theorem row_tup {Δ : Gh} {H : Hp} {v : V} {x : RowF} (r : Rp.rp K Δ H v x) : Rp.rp K Δ H v (⟨x.l⟩ : Tup Int) := by
  obtain ⟨p, vs, o, rfl, n0, hp, hd, q⟩ := r
  exact ⟨p, vs, rfl, .inl ⟨n0, .inr ⟨o, hp⟩⟩, .inl (.inr ⟨o, hp⟩), q⟩
theorem ev_row {x : RowF} (h : Ev K Γ te ρ (Is x)) : Ev K Γ te ρ (Is (⟨x.l⟩ : Tup Int)) := fun Δ σ H Q s hh e k => h Δ σ H Q s hh e fun v H1 a pa e1 r => by
  have ea : a = x := pa
  subst ea
  exact k v H1 _ rfl e1 (row_tup r)
theorem ev_rows {xs : List RowF} (h : Ev K Γ te ρ (Is (⟨xs⟩ : Tup RowF))) : Ev K Γ te ρ (Is (⟨xs.map fun x => ⟨x.l⟩⟩ : Tup (Tup Int))) := fun Δ σ H Q s hh e k => h Δ σ H Q s hh e fun v H1 a pa e1 r => by
  have ea : a = ⟨xs⟩ := pa
  subst ea
  obtain ⟨p, vs, rfl, st, sq, q⟩ := r
  exact k _ H1 _ rfl e1 ⟨p, vs, rfl, st, sq, all2_mapR (fun u x rx => row_tup rx) q⟩
/-- xs.count(n) -/
theorem ev_cnt {xs : List Int} {n : Int} (h : Ev K Γ te ρ (Is xs)) (hn : Ev K Γ ta ρ (Is n)) : Ev K Γ (tBM K "list" (rCntI K) te (tCons ta tNil)) ρ (Is ((xs.count n : Nat) : Int)) := fun Δ σ H Q s hh e k =>
  h Δ σ H _ s hh e fun v H1 a pa e1 r => by
    have ea : a = xs := pa
    subst ea
    obtain ⟨p, vs, rfl, st, sq, q⟩ := r
    have ev := all2_ints q
    subst ev
    refine ⟨.inl ⟨rfl, _, sq⟩, hn Δ σ H1 _ s e1.2 (e.mono e1.1) fun w H2 b pb e2 r2 => ?_⟩
    have eb : b = n := pb
    subst eb
    have ew : w = .int b := r2
    subst ew
    exact ⟨p, a, b, rfl, rfl, (st.mono e2.1).seq, k _ H2 _ rfl (e1.trans e2) rfl⟩
end
section
variable {K : PySem.W.Frag} {Δ0 : Gh} {H0 : Hp} {Γ : Own} {F : List (V × Cell)} {ρ : Z.Env} {D : Ends}
/-- continue -/
theorem wp_cont {Iv : Nat → Own → Z.Env → Prop} {i : Nat} (hiv : Iv i Γ ρ) (e : D.ct = At K Δ0 H0 F Iv i) : Wp K Δ0 H0 Γ F ρ tCont D := fun σ H st => by
  show D.ct σ H
  rw [e]
  exact ⟨Γ, ρ, hiv, st⟩
end
end Z
namespace L2
open PySem PySem.Spec PyProof.Rows Z
theorem pe_sortSetTK {K : PySem.W.Frag} {X : Cx} {e : Expr} {te : TE} {p p2 q pos : Pos} (hc : X.calm = true) (hu : X.A.units + 70 < cLine) (hg : Gl X "sorted") (hm : X.mg "sorted" = none) (hv : bootBuiltins "sorted" = some (.builtin "sorted")) (hg2 : Gl X "set") (hm2 : X.mg "set" = none) (he : PE X e te) (h : X.K = K := by rfl)
    (na : starEach [e] X.env = (false, eval e X.env) :: starEach [] X.env := by rfl) : PE X (.Call (.Name "sorted" p) [.Call (.Name "set" p2) [e] [] q] [] pos) (tSortSetT K te) := by
  subst h
  exact pe_sortSetT hc hu hg hm hv hg2 hm2 he na
end L2

set_option Elab.async false
set_option linter.all false
set_option maxRecDepth 100000
set_option maxHeartbeats 400000
namespace L2
open PySem PySem.Spec PyProof.Rows
theorem op_catAK {K : PySem.W.Frag} {X : Cx} (h : X.K = K := by rfl) : OpR X (binaryOp .Add) (rCatA K) := by subst h; exact op_catA
end L2
namespace Z
open PySem PySem.Spec PyProof.Rows L2
/-- any(bs) -/
theorem o1_anyB {K : PySem.W.Frag} {bs : List Bool} : Op1 K (rAny K) bs (Is (bs.any id)) := fun Δ H v Q hh r k => by
  obtain ⟨p, vs, rfl, n, s, q⟩ := r
  have e := all2_bl q
  subst e
  exact ⟨p, bs, rfl, s, k _ H _ rfl (Ext.refl hh) rfl⟩
theorem any_mapT {α : Type} (xs : List α) (f : α → Bool) : (((xs.filter fun _ => true).map f).any id) = xs.any f := by
  rw [List.filter_eq_self.mpr (fun _ _ => rfl), List.any_map]
  rfl
theorem all_mapT {α : Type} (xs : List α) (f : α → Bool) : (((xs.filter fun _ => true).map f).all id) = xs.all f := by
  rw [List.filter_eq_self.mpr (fun _ _ => rfl), List.all_map]
  rfl
end Z
namespace Z
open PySem PySem.Spec PyProof.Rows L2
theorem sortSet_core {K : PySem.W.Frag} {Δ : Gh} {H1 : Hp} {p : Addr} {vs : List V} {a : List (Tup Int)} {Q : VK} (q : All2 (fun u (x : Tup Int) => Rp.rp K Δ H1 u x) vs a) (sq : SqL K H1 p vs) (h64 : a.length < 64) (hne : ∀ x ∈ a, x.l ≠ [])
    (k : ∀ (ys : List (Tup Int)) (l : Addr) (ws : List V), ys.Nodup → (∀ y, y ∈ ys ↔ y ∈ a) → (ys.Pairwise fun a b => leI a b = true) → All2 (fun u (x : Tup Int) => Rp.rp K Δ H1 u x) ws ys → H1 l = none → Q (.ref l) (upd H1 l (.lst ws))) :
    ∃ (b : Addr) (ks : List (Addr × List Int)), V.ref p = .ref b ∧ SqL K H1 b (ks.map fun p => V.ref p.1) ∧ (∀ p ∈ ks, SqT K H1 p.1 (p.2.map V.int)) ∧ ks.length < 64 ∧ (∀ p ∈ ks, p.2 ≠ []) ∧
      ∀ (M : List (Addr × List Int)) (q : Addr), (M.map (·.2)).Nodup → (∀ p ∈ M, p ∈ ks) → (∀ p ∈ ks, p.2 ∈ M.map (·.2)) → M.Pairwise (fun x y => PySem.W.dataLe false Zts.encP x y = true) → H1 q = none → Q (.ref q) (upd H1 q (.lst (M.map fun p => V.ref p.1))) := by
  obtain ⟨zs, z1, z2, hz⟩ := all2_zip q
  have pl : ∀ z ∈ zs, ∃ b, z.1 = V.ref b ∧ SqT K H1 b (z.2.l.map V.int) := fun z hz' => by
    obtain ⟨b, us, e0, st, sq', q'⟩ := hz z hz'
    exact ⟨b, e0, all2_int q' ▸ sq'⟩
  let f : V × Tup Int → Addr × List Int := fun z => (match z.1 with | .ref b => b | _ => p, z.2.l)
  have fp : ∀ z ∈ zs, z.1 = V.ref (f z).1 := fun z hz' => by
    obtain ⟨b, e0, _⟩ := pl z hz'
    show z.1 = V.ref (match z.1 with | .ref b => b | _ => p)
    rw [e0]
  refine ⟨p, zs.map f, rfl, ?_, fun y hy => ?_, ?_, fun y hy => ?_, fun M l nd sub all pw hl => ?_⟩
  · rw [List.map_map]
    have : zs.map ((fun p : Addr × List Int => V.ref p.1) ∘ f) = vs := by
      rw [← z1]
      exact List.map_congr_left fun z hz' => (fp z hz').symm
    rw [this]
    exact sq
  · obtain ⟨z, hz', rfl⟩ := List.mem_map.mp hy
    obtain ⟨b, e0, s0⟩ := pl z hz'
    have := fp z hz'
    rw [e0] at this
    cases this
    exact s0
  · rw [List.length_map]
    have := congrArg List.length z2
    rw [List.length_map] at this
    omega
  · obtain ⟨z, hz', rfl⟩ := List.mem_map.mp hy
    exact hne z.2 (by rw [← z2]; exact List.mem_map.mpr ⟨z, hz', rfl⟩)
  · have r1 : M.map (fun p => V.ref p.1) = (M.map fun p => V.ref p.1) := rfl
    refine k (M.map fun p => (⟨p.2⟩ : Tup Int)) l (M.map fun p => V.ref p.1) ?_ (fun y => ?_) ?_ ?_ hl
    · refine List.pairwise_map.mpr ((List.pairwise_map.mp nd).imp fun {x y} hne' e => hne' (Tup.mk.inj e))
    · rw [List.mem_map]
      constructor
      · rintro ⟨m, hm, rfl⟩
        obtain ⟨z, hz', rfl⟩ := List.mem_map.mp (sub m hm)
        rw [← z2]
        exact List.mem_map.mpr ⟨z, hz', rfl⟩
      · intro hy
        rw [← z2] at hy
        obtain ⟨z, hz', rfl⟩ := List.mem_map.mp hy
        obtain ⟨m, hm, em⟩ := List.mem_map.mp (all (f z) (List.mem_map.mpr ⟨z, hz', rfl⟩))
        exact ⟨m, hm, by rw [em]⟩
    · exact List.pairwise_map.mpr pw
    · exact All2.map fun m hm => by
        obtain ⟨z, hz', rfl⟩ := List.mem_map.mp (sub m hm)
        have := hz z hz'
        rw [fp z hz'] at this
        exact this
/-- sorted(set(xs)), xs a list of one's own -/
theorem ev_sortSetOT {K : PySem.W.Frag} {Γ : Own} {ρ : Z.Env} {p : Addr} {vs : List V} {xs : List (Tup Int)} {i : Nat} (hm : (p, ObIs (.lst vs)) ∈ Γ) (hi : ρ[i]? = some (some ⟨(⟨p, vs, xs⟩ : LocT (Tup Int))⟩)) (h64 : xs.length < 64) (hne : ∀ x ∈ xs, x.l ≠ []) :
    Ev K Γ (tSortSetT K (tVar i)) ρ (fun ys : List (Tup Int) => ys.Nodup ∧ (∀ y, y ∈ ys ↔ y ∈ xs) ∧ ys.Pairwise fun a b => leI a b = true) := fun Δ σ H Q s hh e k => by
  obtain ⟨u, hu, ru⟩ := e.2 i _ hi
  have eu : u = .ref p := ru.1
  subst eu
  obtain ⟨w, hw, iw⟩ := hh p _ (s _ hm)
  have iw' : w = HO.lst vs := iw
  subst iw'
  exact ⟨.ref p, hu, sortSet_core (Δ := Δ) ru.2 (SqL.of hw) h64 hne fun ys l ws nd mm pw q hl => k _ _ ys ⟨nd, mm, pw⟩ (Ext.new hh hl _) (new_lst hh hl q)⟩
end Z

set_option Elab.async false
set_option linter.all false
set_option maxRecDepth 100000
set_option maxHeartbeats 400000
/-! == and != of lists and tuples of lists and tuples -/
namespace Z
open PySem PySem.Spec PyProof.Rows L2
class Nst (α : Type) [Rp α] [Dt α] where
  dep : Nat
  lay : ∀ x : α, PyData.canLay0 (Dt.d x) = true
  depth : ∀ x : α, PyData.depth (Dt.d x) ≤ dep
  eq : ∀ x y : α, PyData.eqv (Dt.d x) (Dt.d y) = true ↔ x = y
instance : Nst Int := ⟨0, fun _ => rfl, fun x => by show PyData.depth (.int x) ≤ 0; rw [PyData.depth]; exact Nat.le_refl _, fun x y => by
  show (x == y) = true ↔ _
  exact beq_iff_eq⟩
section
variable {α : Type} [Rp α] [Dt α] [Nst α]
theorem layN : ∀ xs : List α, PyData.canLayAll0 (xs.map Dt.d) = true ∧ PyData.depthAll (xs.map Dt.d) ≤ Nst.dep α
  | [] => by simp [PyData.canLayAll0, PyData.depthAll]
  | x :: xs => by
    have ih := layN xs
    have l := Nst.lay x
    have d := Nst.depth x
    rw [List.map_cons, PyData.canLayAll0, PyData.depthAll, ih.1, l]
    exact ⟨rfl, Nat.max_le.mpr ⟨d, ih.2⟩⟩
theorem eqN : ∀ xs ys : List α, PyData.eqvAll (xs.map Dt.d) (ys.map Dt.d) = true ↔ xs = ys
  | [], [] => by simp [PyData.eqvAll]
  | [], _ :: _ => by simp [PyData.eqvAll]
  | _ :: _, [] => by simp [PyData.eqvAll]
  | x :: xs, y :: ys => by
    rw [List.map_cons, List.map_cons, PyData.eqvAll, Bool.and_eq_true, eqN xs ys, Nst.eq x y, List.cons.injEq]
instance : Nst (List α) := ⟨Nst.dep α + 1, fun xs => by
  show PyData.canLay0 (.list _) = true
  rw [PyData.canLay0]
  exact (layN xs).1, fun xs => by
  show PyData.depth (.list _) ≤ _
  rw [PyData.depth]
  have := (layN xs).2
  omega, fun x y => eqN x y⟩
instance : Nst (Tup α) := ⟨Nst.dep α + 1, fun xs => by
  show PyData.canLay0 (.tuple _) = true
  rw [PyData.canLay0]
  exact (layN xs.l).1, fun xs => by
  show PyData.depth (.tuple _) ≤ _
  rw [PyData.depth]
  have := (layN xs.l).2
  omega, fun x y => (eqN x.l y.l).trans ⟨fun h => by cases x; cases y; exact congrArg Tup.mk h, fun h => by rw [h]⟩⟩
theorem shapedN (h : Nst.dep α ≤ 64) (x : α) : SeqAt.shaped (Dt.d x) = true := by
  unfold SeqAt.shaped
  rw [Nst.lay x, decide_eq_true (Nat.le_trans (Nst.depth x) h)]
  rfl
variable {K : PySem.W.Frag}
theorem o2_eqN {x y : α} {b : Bool} (hb : b = true ↔ x = y) (h : Nst.dep α ≤ 64 := by decide) : Op2 K (rEqD K) x y (Is b) := by
  have e : PyData.eqv (Dt.d x) (Dt.d y) = b := Bool.eq_iff_iff.mpr ((Nst.eq x y).trans hb.symm)
  rw [← e]
  exact o2_eqD (shapedN h x) (shapedN h y)
theorem o2_neN {x y : α} {b : Bool} (hb : b = true ↔ x = y) (h : Nst.dep α ≤ 64 := by decide) : Op2 K (rNeD K) x y (Is (!b)) := by
  have e : PyData.eqv (Dt.d x) (Dt.d y) = b := Bool.eq_iff_iff.mpr ((Nst.eq x y).trans hb.symm)
  rw [← e]
  exact o2_neD (shapedN h x) (shapedN h y)
end
end Z

set_option Elab.async false
set_option linter.all false
set_option maxRecDepth 100000
set_option maxHeartbeats 400000
namespace Z
open PySem PySem.Spec PyProof.Rows L2
section
variable {K : PySem.W.Frag} {Δ0 : Gh} {H0 : Hp} {Γ : Own} {F : List (V × Cell)} {ρ : Z.Env} {ta tb te : TE} {t u : TT} {tz : TS} {D : Ends} {α β γ : Type} [Rp α] [Rp β] [Rp γ]
/-- i, j = e, [] -/
theorem wp_parNT {i j : Nat} {P : γ → Prop} (h : Ev K Γ te ρ P) (hi : i < ρ.length) (hj : j < ρ.length) (k : ∀ a p, P a → OwnP Δ0 Γ p → Wp K Δ0 H0 ((p, ObIs (.lst [])) :: Γ) F ((ρ.set i (some ⟨a⟩)).set j (some ⟨(⟨p, [], []⟩ : LocT α)⟩)) tz D) :
    Wp K Δ0 H0 Γ F ρ (tSeq (tPar i j (tCons te (tCons (tLst tNil) tNil))) tz) D := fun σ H ⟨Δ, s, hh, e, f, e0, s1, s2⟩ =>
  h Δ σ H _ s hh e fun v H1 a pa e1 r1 => by
    refine ⟨by show 0 ≤ sizeLine; decide, fun p hp => ⟨v, .ref p, rfl, ?_⟩⟩
    have st : Stt K Δ0 H0 Γ F (ρ.set i (some ⟨a⟩)) (σ.set i (some v)) H1 := ⟨Δ, s, e1.2, (e.mono e1.1).set (c := ⟨a⟩) hi r1, fun q hq => q.2.r.mono e1.1 (f q hq), ext0 e0 s1 s2 e1, s1, s2⟩
    obtain ⟨op, st1⟩ := stt_new (o := .lst []) hp st
    exact k a p pa op _ _ (stt_set (by rw [List.length_set]; exact hj) (fun Δ _ _ => ⟨rfl, trivial⟩) st1)
/-- i, j = e, e a pair -/
theorem wp_unp2 {i j : Nat} {P : α × β → Prop} (h : Ev K Γ te ρ P) (hi : i < ρ.length) (hj : j < ρ.length) (k : ∀ x, P x → Wp K Δ0 H0 Γ F ((ρ.set i (some ⟨x.1⟩)).set j (some ⟨x.2⟩)) tz D) :
    Wp K Δ0 H0 Γ F ρ (tSeq (tAsg te (gTup K 2 (gCons (gName i) (gCons (gName j) gNil)))) tz) D := fun σ H ⟨Δ, s, hh, e, f, e0, s1, s2⟩ =>
  h Δ σ H _ s hh e fun v H1 x px e1 r1 => by
    obtain ⟨p, a, b, rfl, st, sq, ra, rb⟩ := r1
    exact ⟨p, [a, b], rfl, sq, rfl, a, [b], rfl, b, [], rfl, rfl, k x px _ _ ⟨Δ, s, e1.2, ((e.mono e1.1).set (c := ⟨x.1⟩) hi ra).set (c := ⟨x.2⟩) (by rw [List.length_set]; exact hj) rb, fun q hq => q.2.r.mono e1.1 (f q hq), ext0 e0 s1 s2 e1, s1, s2⟩⟩
/-- a and b, a told by some predicate -/
theorem et_andP {P : Bool → Prop} {b : Bool} (h1 : EvT K Γ t ρ P) (h2 : EvT K Γ u ρ (Is b)) : EvT K Γ (tAnd t u) ρ (fun c => c = true → b = true) := fun Δ σ H Q s hh e k => h1 Δ σ H _ s hh e fun c H' pc e1 => by
  cases c with
  | true => exact iteT (h2 Δ σ H' Q s e1.2 (e.mono e1.1) fun d H2 pd e2 => k d H2 (fun z => by rw [← show d = b from pd]; exact z) (e1.trans e2))
  | false => exact iteF (k false H' (fun z => by cases z) e1)
/-- xs != ys, xs a list of one's own -/
theorem ev_neOT [Dt α] [Nst α] {p : Addr} {vs : List V} {xs ys : List α} {i : Nat} {b : Bool} (hm : (p, ObIs (.lst vs)) ∈ Γ) (hi : ρ[i]? = some (some ⟨(⟨p, vs, xs⟩ : LocT α)⟩)) (hb : Ev K Γ tb ρ (Is ys)) (hq : b = true ↔ xs = ys) (hd : Nst.dep (List α) ≤ 64 := by decide) :
    Ev K Γ (tOp (rNeD K) (tVar i) tb) ρ (Is (!b)) := fun Δ σ H Q s hh e k => by
  obtain ⟨u, hu, ru⟩ := e.2 i _ hi
  have eu : u = .ref p := ru.1
  subst eu
  refine ⟨.ref p, hu, hb Δ σ H _ s hh e fun w H2 y py e2 r2 => ?_⟩
  have ey : y = ys := py
  subst ey
  obtain ⟨w0, hw, iw⟩ := e2.2 p _ (s _ hm)
  have iw' : w0 = HO.lst vs := iw
  subst iw'
  have q2 : All2 (fun u (x : α) => Rp.rp K Δ H2 u x) vs xs := ru.2.imp fun _ _ => Rp.mono e2.1
  have ee : PyData.eqv (Dt.d xs) (Dt.d y) = b := Bool.eq_iff_iff.mpr ((Nst.eq xs y).trans hq.symm)
  refine ⟨_, _, .lst (.inl (.inl hw)) (dall q2), Dt.ok r2, shapedN hd xs, shapedN hd y, k _ H2 _ rfl e2 ?_⟩
  show V.bl _ = V.bl _
  rw [← ee]
  rfl
/-- n not in t -/
theorem o2_notInT {i : Int} {xs : Tup Int} : Op2 K (rIn K true) i xs (Is (!decide (i ∈ xs.l))) := fun Δ H v w Q hh r1 r2 k => by
  have e1 : v = .int i := r1
  obtain ⟨p, vs, rfl, n, s, q⟩ := r2
  subst e1
  have ev := all2_int q
  subst ev
  exact ⟨p, _, rfl, .inr s, rfl, flat_int, k _ H _ rfl (Ext.refl hh) (by show V.bl _ = V.bl _; rw [if_pos rfl, inV_int])⟩
end
end Z
namespace L2
open PySem PySem.Spec PyProof.Rows
theorem pe_lcountK {K : PySem.W.Frag} {X : Cx} {o e : Expr} {es : List Expr} {to : TE} {t : TA} {apos cpos : Pos} (ho : PE X o to) (ha : PA X (e :: es) t) (h : X.K = K := by rfl)
    (hbase : attributeBase o "count" X.env (eval o X.env) = eval o X.env := by rfl)
    (hfew : ((backTo cpos (starEach (e :: es) X.env)).all (fun x => !x.1) && (backToKw cpos (keywordEach [] X.env)).all (fun x => x.1.isSome)
      && decide ((e :: es).length + ([] : List Keyword).length + (if ([] : List Keyword).isEmpty then 0 else 1) < 30)) = true := by rfl)
    (hline : (apos.endLine == cpos.line) = true := by rfl) (hs : starEach (e :: es) X.env = (false, eval e X.env) :: starEach es X.env := by rfl) (hplain : (backTo cpos (starEach es X.env)).any (·.1) = false := by rfl) :
    PE X (.Call (.Attribute o "count" apos) (e :: es) [] cpos) (tBM K "list" (rCntI K) to t) := by
  subst h
  exact pe_bm PySem.F.plainAttrs_list PySem.F.slot_list_count PySem.F.type_list_count mt_lcount ho ha hbase hfew hline hs hplain
end L2

set_option Elab.async false
set_option linter.all false
set_option maxRecDepth 100000
set_option maxHeartbeats 1000000
/-! sorted(text), a text's letters, count, in -/
namespace L2
open PySem PySem.Spec PyProof.Rows SrtO
/-- sorted(x), x a text -/
def rSortedS1 : List V → Hp → VK → Prop := fun vs H Q => ∃ (x : List Nat), vs = [V.str ⟨x.toArray⟩] ∧ x.length ≤ 1000 ∧
  ∀ (ns' : List Str) (p : Addr), ns'.Perm (x.map fun c => (⟨#[c]⟩ : Str)) → Zs.Rise ns' → H p = none → Q (.ref p) (upd H p (.lst (ns'.map V.str)))
theorem signs_strs {x : List Nat} : ∀ {l : List Value} {k : Nat}, (∀ j v, l[j]? = some v → SignAt ⟨x.toArray⟩ (k + j) v) → k + l.length = x.length → StrsAre l ((x.drop k).map fun c => (⟨#[c]⟩ : Str))
  | [], k, _, hk => by
    rw [List.drop_of_length_le (by rw [List.length_nil] at hk; omega)]
    exact .nil
  | v :: l, k, h, hk => by
    obtain ⟨c, u, hc, hv⟩ := h 0 v rfl
    rw [List.length_cons] at hk
    have hlt : k < x.length := by omega
    have hc' : x[k]? = some c := by
      have : x.toArray[k + 0]? = some c := hc
      rw [Nat.add_zero, List.getElem?_toArray] at this
      exact this
    have e : x.drop k = c :: x.drop (k + 1) := by
      rw [List.drop_eq_getElem_cons hlt]
      congr 1
      rw [List.getElem?_eq_getElem hlt] at hc'
      exact Option.some.inj hc'
    rw [e, hv, List.map_cons]
    refine .cons _ _ (signs_strs (fun j w hj => ?_) (by omega))
    have := h (j + 1) w hj
    rw [Nat.add_assoc, Nat.add_comm 1 j]
    exact this
section
variable {X : Cx}
theorem cr_sortedS1 (hc : X.calm = true) : CallR X (.builtin "sorted") rSortedS1 := by
  intro pins s σ H vs us Q I r h
  obtain ⟨x, rfl, hx, q⟩ := h
  obtain ⟨u, rfl, ru⟩ := Vals.one r
  obtain ⟨t, rfl⟩ := ru
  refine Calls.call_function_entry kind_sorted plain_sorted entry_sorted (args_sorted1 _) ?_
  unfold Builtin.«sorted»
  refine wpAny_bind (m := checkCount "sorted" 1 1 _) (wpAny_pure ?_)
  have hln : x.length ≤ sizeLine := Nat.le_trans hx (by decide)
  refine wpAny_bind (wpAny_collect_str (A := X.A.in1) (I.ok.hd hc) ⟨x.toArray⟩ t (fun s1 acc k1 g1 d1 o1 hit => ?_) (by show x.toArray.size ≤ sizeLine; rw [List.size_toArray]; exact hln))
  have hI : StrsAre acc.toList (x.map fun c => (⟨#[c]⟩ : Str)) := by
    have := signs_strs (x := x) (l := acc.toList) (k := 0) (fun j v hj => by rw [Nat.zero_add]; exact hit.2 j v (by rw [← Array.getElem?_toList]; exact hj)) (by rw [Nat.zero_add, Array.length_toList, hit.1]; exact List.size_toArray ..)
    rw [List.drop_zero] at this
    exact this
  have hvl : acc.toList.length = x.length := by rw [Array.length_toList, hit.1]; exact List.size_toArray ..
  refine wpAny_bind (wpAny_newList ?_ (by rw [hvl]; exact hln))
  have hoL : (s1.heap.push (seqObj "list" acc.toList.toArray 0)).get? s1.heap.objs.size = some (seqObj "list" acc.toList.toArray 0) := Heap.get?_push_size _ rfl
  refine wpAny_bind (wpAny_holding (wpAny_call_entry slot_list_sort ⟨_, hoL, rfl⟩ entry_list_sort (list_sort_ord Zs.swo_txt hoL (by rw [hvl]; exact hln) (fun h2 => Zs.txt_sortable hI h2) fun out h1 h2 => ⟨_, rfl, ?_⟩) (args_list_sort _)))
  obtain ⟨k4, k2, k3⟩ := Zs.txt_out hI h1 h2
  obtain ⟨c, hcS⟩ := sortedHeap_at (vs := acc.toList) (out := out.toArray) hoL
  have I1 : Inv X pins σ H s1 := I.call' (ch := []) o1 (Un.kept k1) (I.hok.kept k1) (by rw [g1]; exact I.bare) fun b z => nomatch z
  have keep : ∀ b u, s1.heap.get? b = some u → (sortedHeap (s1.heap.push (seqObj "list" acc.toList.toArray 0)) s1.heap.objs.size acc.toList out.toArray).get? b = some u := fun b u e1 => by
    have hlt := Heap.lt_size e1
    rw [sortedHeap_old (Nat.ne_of_lt hlt) (by rw [size_push']; exact Nat.lt_succ_of_lt hlt)]
    exact Heap.get?_push_of_some _ e1
  have hlen : ((out.map Zs.tv).map V.str).length ≤ sizeLine := by
    rw [List.length_map, k2.length_eq, List.length_map]
    exact hln
  have J := I1.laid (t' := s1.toks) keep (Nat.le_refl _) (o := .lst ((out.map Zs.tv).map V.str)) ⟨hlen, out, c, vals_of_strs k4, hcS⟩
  exact wpAny_pure ⟨_, rfl, .ref _, _, J, rfl, q _ _ k2 k3 (I1.hok.fresh (Nat.le_refl _))⟩
end
end L2
namespace Z
open PySem PySem.Spec PyProof.Rows L2
section
variable {K : PySem.W.Frag} {Γ : Own} {ρ : Z.Env} {ta tb te : TE}
theorem strs_back (ns : List Str) : ns = (ns.map fun z => (⟨z.cps.toList⟩ : Tx)).map fun x => (⟨x.s.toArray⟩ : Str) := by
  rw [List.map_map]
  conv => lhs; rw [← List.map_id ns]
  exact List.map_congr_left fun z _ => by cases z; rfl
theorem new_txF {Δ : Gh} {H : Hp} {l : Addr} {ns : List Str} {xs : List Tx} (hh : Hold Δ H) (hl : H l = none) (e : (ns.map fun z => (⟨z.cps.toList⟩ : Tx)) = xs) : Rp.rp K Δ (upd H l (.lst (ns.map V.str))) (.ref l) (⟨xs⟩ : FL Tx) := by
  refine new_FL hh hl ?_
  subst e
  have e2 : ns.map V.str = ((ns.map fun z => (⟨z.cps.toList⟩ : Tx))).map fun x => V.str ⟨x.s.toArray⟩ := by
    conv => lhs; rw [strs_back ns]
    rw [List.map_map]
    rfl
  rw [e2]
  exact all2_flat _
theorem rise_pw {ns : List Str} (h : Zs.Rise ns) : (ns.map fun z => (⟨z.cps.toList⟩ : Tx)).Pairwise NL' := List.pairwise_map.mpr h
/-- sorted(xs), texts without doubles -/
theorem o1_sortedF {xs : List Tx} (nd : xs.Nodup) : Op1 K (rSortedTx K) xs (Is (⟨srt xs⟩ : FL Tx)) := fun Δ H v Q hh r k => by
  obtain ⟨p, vs, rfl, n, s, q⟩ := r
  have ev := all2_tx q
  subst ev
  refine ⟨p, _, rfl, s, fun ns l hp hr hl => ?_⟩
  have e2 : (xs.map fun x => (⟨x.s.toArray⟩ : Str)).map (fun z => (⟨z.cps.toList⟩ : Tx)) = xs := by
    rw [List.map_map]
    conv => rhs; rw [← List.map_id xs]
    exact List.map_congr_left fun z _ => by cases z; rfl
  have pm : (ns.map fun z => (⟨z.cps.toList⟩ : Tx)).Perm xs := by
    have := hp.map fun z => (⟨z.cps.toList⟩ : Tx)
    rw [e2] at this
    exact this
  exact k _ _ _ rfl (Ext.new hh hl _) (new_txF hh hl (srt_of (pm.nodup_iff.mpr nd) (rise_pw hr) fun x => pm.mem_iff))
/-- a text's letters -/
def lets (x : List Nat) : List Tx := x.map fun c => ⟨[c]⟩
/-- sorted(x), the letters of a text without doubles -/
theorem o1_sortedS1 {x : Tx} (nd : x.s.Nodup) (hz : x.s.length ≤ 1000) : Op1 K rSortedS1 x (Is (⟨srt (lets x.s)⟩ : FL Tx)) := fun Δ H v Q hh r k => by
  have ev : v = .str ⟨x.s.toArray⟩ := r
  subst ev
  refine ⟨x.s, rfl, hz, fun ns l hp hr hl => ?_⟩
  have e2 : (x.s.map fun c => (⟨#[c]⟩ : Str)).map (fun z => (⟨z.cps.toList⟩ : Tx)) = lets x.s := by
    rw [List.map_map]
    rfl
  have pm : (ns.map fun z => (⟨z.cps.toList⟩ : Tx)).Perm (lets x.s) := by
    have := hp.map fun z => (⟨z.cps.toList⟩ : Tx)
    rw [e2] at this
    exact this
  have nl : (lets x.s).Nodup := nd.map _ fun a b h e => h (by simpa using e)
  exact k _ _ _ rfl (Ext.new hh hl _) (new_txF hh hl (srt_of (pm.nodup_iff.mpr nl) (rise_pw hr) fun x => pm.mem_iff))
/-- 'c' in x -/
theorem o2_inS1 {c : Nat} {x : Tx} : Op2 K (fun x y H Q => ∃ i j, x = .str i ∧ y = .str j ∧ Q (.bl (!(Builtin.Str.occurrences j i 0 j.length 1).isEmpty)) H) (⟨[c]⟩ : Tx) x (Is (decide (c ∈ x.s))) := fun Δ H v w Q hh r1 r2 k => by
  have e1 : v = .str ⟨[c].toArray⟩ := r1
  have e2 : w = .str ⟨x.s.toArray⟩ := r2
  subst e1 e2
  exact ⟨_, _, rfl, rfl, k _ H _ rfl (Ext.refl hh) (congrArg V.bl (PySem.StrLaws.found_one ⟨x.s.toArray⟩ c))⟩
theorem o2_notInS1 {c : Nat} {x : Tx} : Op2 K (fun x y H Q => ∃ i j, x = .str i ∧ y = .str j ∧ Q (.bl (!(!(Builtin.Str.occurrences j i 0 j.length 1).isEmpty))) H) (⟨[c]⟩ : Tx) x (Is (!decide (c ∈ x.s))) := fun Δ H v w Q hh r1 r2 k => by
  have e1 : v = .str ⟨[c].toArray⟩ := r1
  have e2 : w = .str ⟨x.s.toArray⟩ := r2
  subst e1 e2
  exact ⟨_, _, rfl, rfl, k _ H _ rfl (Ext.refl hh) (congrArg (fun b => V.bl (!b)) (PySem.StrLaws.found_one ⟨x.s.toArray⟩ c))⟩
theorem cnt_count (c : Nat) : ∀ l : List Nat, PyProof.Rows.cnt c l = ((l.count c : Nat) : Int)
  | [] => rfl
  | n :: r => by
    rw [PyProof.Rows.cnt_cons, cnt_count c r, List.count_cons]
    by_cases h : n = c
    · rw [if_pos h, if_pos (by rw [h]; exact beq_self_eq_true c)]
      omega
    · rw [if_neg h, if_neg (by rw [beq_iff_eq]; exact h)]
      omega
theorem txt_count (l : List Nat) (c : Nat) : Txt.count ⟨l.toArray⟩ ⟨[c].toArray⟩ = ((l.count c : Nat) : Int) := by
  have h : Txt.count ⟨l.toArray⟩ ⟨[c].toArray⟩ = PyProof.Rows.cnt c l := PyProof.Rows.count_is ⟨l.toArray⟩ c
  rw [h, cnt_count]
theorem eqV_tx {x y : Tx} : eqV (V.str ⟨y.s.toArray⟩) (V.str ⟨x.s.toArray⟩) = decide (x = y) := by
  show ((⟨y.s.toArray⟩ : Str) == ⟨x.s.toArray⟩) = _
  by_cases h : x = y
  · subst h
    rw [decide_eq_true rfl]
    exact beq_self_eq_true _
  · rw [decide_eq_false h]
    rw [beq_eq_false_iff_ne]
    intro e
    apply h
    cases x
    cases y
    congr 1
    simpa using e.symm
theorem inV_tx {x : Tx} : ∀ {xs : List Tx}, inV (.str ⟨x.s.toArray⟩) ((xs.map fun x => (⟨x.s.toArray⟩ : Str)).map V.str) = decide (x ∈ xs)
  | [] => rfl
  | y :: xs => by
    have ih := inV_tx (x := x) (xs := xs)
    unfold inV at ih ⊢
    rw [List.map_cons, List.map_cons, List.any_cons, ih, eqV_tx]
    by_cases h : x = y
    · subst h
      simp
    · simp [h]
theorem flat_tx : ∀ {xs : List Tx}, ((xs.map fun x => (⟨x.s.toArray⟩ : Str)).map V.str).all flatV = true
  | [] => rfl
  | _ :: xs => by
    rw [List.map_cons, List.map_cons, List.all_cons, flat_tx]
    rfl
/-- x not in xs -/
theorem o2_notInLT {x : Tx} {xs : List Tx} : Op2 K (rIn K true) x xs (Is (!decide (x ∈ xs))) := fun Δ H v w Q hh r1 r2 k => by
  have e1 : v = .str ⟨x.s.toArray⟩ := r1
  obtain ⟨p, vs, rfl, n, s, q⟩ := r2
  subst e1
  have ev := all2_tx q
  subst ev
  exact ⟨p, _, rfl, .inl s, rfl, flat_tx, k _ H _ rfl (Ext.refl hh) (by show V.bl _ = V.bl _; rw [if_pos rfl, inV_tx])⟩
/-- x.count('c') -/
theorem ev_countT {x : Tx} {c : Nat} (h : Ev K Γ te ρ (Is x)) (ha : Ev K Γ ta ρ (Is (⟨[c]⟩ : Tx))) : Ev K Γ (tBM K "str" (fun x xs H Q => ∃ a b, x = .str a ∧ xs = [.str b] ∧ Q (.int (Txt.count a b)) H) te (tCons ta tNil)) ρ (Is ((x.s.count c : Nat) : Int)) := fun Δ σ H Q s hh e k =>
  h Δ σ H _ s hh e fun v H1 a pa e1 r1 => by
    have ea : a = x := pa
    subst ea
    have ev : v = .str ⟨a.s.toArray⟩ := r1
    subst ev
    refine ⟨rfl, ha Δ σ H1 _ s e1.2 (e.mono e1.1) fun w H2 b pb e2 r2 => ?_⟩
    have eb : b = ⟨[c]⟩ := pb
    subst eb
    have ew : w = .str ⟨[c].toArray⟩ := r2
    subst ew
    refine ⟨_, _, rfl, rfl, k _ H2 _ rfl (e1.trans e2) ?_⟩
    exact congrArg V.int (txt_count a.s c)
end
end Z
namespace L2
open PySem PySem.Spec PyProof.Rows
/-- x.count(y), x a text, within a comprehension too -/
theorem pe_scountK {K : PySem.W.Frag} {X : Cx} {o e : Expr} {es : List Expr} {to : TE} {t : TA} {apos cpos : Pos} (ho : PE X o to) (ha : PA X (e :: es) t) (h : X.K = K := by rfl)
    (hbase : attributeBase o "count" X.env (eval o X.env) = eval o X.env := by rfl)
    (hfew : ((backTo cpos (starEach (e :: es) X.env)).all (fun x => !x.1) && (backToKw cpos (keywordEach [] X.env)).all (fun x => x.1.isSome)
      && decide ((e :: es).length + ([] : List Keyword).length + (if ([] : List Keyword).isEmpty then 0 else 1) < 30)) = true := by rfl)
    (hline : (apos.endLine == cpos.line) = true := by rfl) (hs : starEach (e :: es) X.env = (false, eval e X.env) :: starEach es X.env := by rfl) (hplain : (backTo cpos (starEach es X.env)).any (·.1) = false := by rfl) :
    PE X (.Call (.Attribute o "count" apos) (e :: es) [] cpos) (tBM K "str" (fun x xs H Q => ∃ a b, x = .str a ∧ xs = [.str b] ∧ Q (.int (Txt.count a b)) H) to t) := by
  subst h
  exact pe_bm PySem.F.plainAttrs_str PySem.F.slot_str_count PySem.F.type_str_count mt_count ho ha hbase hfew hline hs hplain
theorem cr_sortedTxK {K : PySem.W.Frag} {X : Cx} (h : X.K = K := by rfl) : CallR X (.builtin "sorted") (rSortedTx K) := by
  subst h
  exact cr_sortedTx
end L2

set_option Elab.async false
set_option linter.all false
set_option maxRecDepth 100000
set_option maxHeartbeats 1000000
/-! generators whose taker may do what it likes with its own things while they sleep: the context is laid anew at each waking -/
namespace Zg
open PySem PySem.Spec PyProof.Rows L2 GenW
def dead : Obj := { cls := .none, data := .freed }
/-- of a heap, what stood at hc's places -/
def cutH (hc h : Heap) : Heap := { h with objs := ((List.range hc.objs.size).map fun b => if (hc.get? b).isSome = true then h.objs.getD b dead else dead).toArray }
theorem cut_size (hc h : Heap) : (cutH hc h).objs.size = hc.objs.size := by
  unfold cutH
  rw [List.size_toArray, List.length_map, List.length_range]
theorem cut_get (hc h : Heap) (b : Addr) : (cutH hc h).get? b = if (hc.get? b).isSome = true then h.get? b else none := by
  by_cases q : (hc.get? b).isSome = true
  · rw [if_pos q]
    obtain ⟨o, ho⟩ := Option.isSome_iff_exists.mp q
    have lt := Heap.lt_size ho
    unfold cutH Heap.get?
    have e : (((List.range hc.objs.size).map fun b => if (hc.get? b).isSome = true then h.objs.getD b dead else dead).toArray)[b]? = some (h.objs.getD b dead) := by
      rw [List.getElem?_toArray, List.getElem?_map, List.getElem?_range lt]
      show some (if (hc.get? b).isSome = true then _ else _) = _
      rw [if_pos q]
    show (match (((List.range hc.objs.size).map fun b => if (hc.get? b).isSome = true then h.objs.getD b dead else dead).toArray)[b]? with | some ⟨_, _, .freed, _⟩ => none | o => o) = _
    rw [e]
    by_cases r : b < h.objs.size
    · have e2 : h.objs.getD b dead = h.objs[b] := by
        rw [Array.getD_eq_getD_getElem?, Array.getElem?_eq_getElem r]
        rfl
      rw [e2, Array.getElem?_eq_getElem r]
      rfl
    · have e2 : h.objs.getD b dead = dead := by
        rw [Array.getD_eq_getD_getElem?, Array.getElem?_eq_none (Nat.le_of_not_lt r)]
        rfl
      rw [e2, Array.getElem?_eq_none (Nat.le_of_not_lt r)]
      rfl
  · rw [if_neg q]
    unfold cutH Heap.get?
    show (match (((List.range hc.objs.size).map fun b => if (hc.get? b).isSome = true then h.objs.getD b dead else dead).toArray)[b]? with | some ⟨_, _, .freed, _⟩ => none | o => o) = _
    rw [List.getElem?_toArray, List.getElem?_map]
    cases e : (List.range hc.objs.size)[b]? with
    | none => rfl
    | some i =>
      have ei : i = b := by
        obtain ⟨h1, h2⟩ := List.getElem?_eq_some_iff.mp e
        rw [← h2, List.getElem_range]
      subst ei
      show (match some (if (hc.get? i).isSome = true then _ else dead) with | some ⟨_, _, .freed, _⟩ => none | o => o) = _
      rw [if_neg q]
      rfl
theorem cut_some {hc h : Heap} {b : Addr} {o : Obj} (e : (cutH hc h).get? b = some o) : (∃ u, hc.get? b = some u) ∧ h.get? b = some o := by
  rw [cut_get] at e
  by_cases q : (hc.get? b).isSome = true
  · rw [if_pos q] at e
    exact ⟨Option.isSome_iff_exists.mp q, e⟩
  · rw [if_neg q] at e
    cases e
theorem cut_of {hc h : Heap} {b : Addr} {o u : Obj} (q : hc.get? b = some u) (e : h.get? b = some o) : (cutH hc h).get? b = some o := by
  rw [cut_get, q]
  exact e
abbrev cutS (hc : Heap) (s : Shared) : Shared := { s with heap := cutH hc s.heap }
abbrev noH : Hp := fun _ => none
/-- the lists alone -/
def lsO (H : Hp) : Hp := fun b => match H b with
  | some (.lst xs) => some (.lst xs)
  | _ => none
theorem lsO_some {H : Hp} {b : Addr} {o : HO} (e : lsO H b = some o) : ∃ xs, o = .lst xs ∧ H b = some (.lst xs) := by
  unfold lsO at e
  split at e
  · next xs h => exact ⟨xs, (Option.some.inj e).symm, h⟩
  · cases e
theorem lsO_lst {H : Hp} {b : Addr} {xs : List V} (e : H b = some (.lst xs)) : lsO H b = some (.lst xs) := by
  unfold lsO
  rw [e]
theorem lsO_none {H : Hp} {b : Addr} (e : H b = none) : lsO H b = none := by
  unfold lsO
  rw [e]
/-- the context of a generator def's body, laid at s -/
def gX (P : Program) (w : World) (K : PySem.W.Frag) (mg : Str → Option Value) (base : Heap) (N : List Str) (qual : Str) (scope : Scope) (f : Addr) (cd : Value) (A : Around) (outer : List Env) (z : Nat) (pn : List (Addr × Obj)) (s : Shared) : Cx where
  prog := P
  w := w
  K := K
  mg := mg
  base := base
  A := A.deeper (envOfC qual scope z f cd)
  N := N
  s_0 := s
  H_0 := noH
  env := envOfC qual scope z f cd
  outer := outer
  stack := envOfC qual scope z f cd :: outer
  ex := []
  calm := true
  fn := fun _ => true
  pn := pn
  xe := fun _ _ => False
/-- what the taker brings at a waking -/
structure Up (base : Heap) (outer : List Env) (hc : Heap) (s : Shared) : Prop where
  bare : AllBare s.gens
  bs : ∀ b o, base.get? b = some o → (∃ u, hc.get? b = some u) ∧ s.heap.get? b = some o
  there : ∀ b o, hc.get? b = some o → ∃ o', s.heap.get? b = some o'
  funs : (cutH hc s.heap).FunFrames base outer
/-- while it sleeps: its own young things stay; B: the taker's young things -/
structure Idle (base : Heap) (outer : List Env) (hc : Heap) (B : List Addr) (s s' : Shared) : Prop where
  os : s'.os = s.os
  up : Up base outer hc s'
  young : ∀ b o, hc.get? b = none → b ∉ B → s.heap.get? b = some o → (∀ v, o.data ≠ .cell v) → s'.heap.get? b = some o
  bs : ∀ b ∈ B, ∃ o, s'.heap.get? b = some o ∧ ∀ v, o.data ≠ .cell v
/-- what a run leaves of the taker's things -/
structure After (outer : List Env) (hc : Heap) (B : List Addr) (z0 s : Shared) : Prop where
  os : s.os = z0.os
  bare : AllBare s.gens
  keep : ∀ b u o, hc.get? b = some u → z0.heap.get? b = some o → b ∉ frs outer → s.heap.get? b = some o
  slot : ∀ b u o, hc.get? b = some u → z0.heap.get? b = some o → b ∈ frs outer → ∃ sl, s.heap.get? b = some { o with slots := sl }
  own : ∀ b ∈ B, ∀ o, z0.heap.get? b = some o → s.heap.get? b = some o
/-- a generator and its places -/
structure Fm where
  P : Program
  w : World
  K : PySem.W.Frag
  mg : Str → Option Value
  base : Heap
  N : List Str
  qual : Str
  scope : Scope
  f : Addr
  cd : Value
  A : Around
  outer : List Env
  hc : Heap
  pn : List (Addr × Obj)
  B : List Addr
  out : List V
def Fm.X (G : Fm) (z0 : Shared) : Cx := gX G.P G.w G.K G.mg G.base G.N G.qual G.scope G.f G.cd G.A G.outer G.hc.objs.size G.pn (cutS G.hc z0)
def Fm.env (G : Fm) : Env := envOfC G.qual G.scope G.hc.objs.size G.f G.cd
structure Fm.Ok (G : Fm) : Prop where
  mod : Mod G.K G.mg G.base
  kind : G.scope.kind = .function
  noc : ∀ y c, (cellsFrom (G.hc.objs.size + 1) G.scope.names []).lookup y = some c → False
  nok : ∀ y, G.scope.names.lookup y ≠ some .cell ∧ G.scope.names.lookup y ≠ some .free
  hd : G.A.handled = none
  frames : G.A.frames = some G.outer
  bsz : G.base.objs.size ≤ G.hc.objs.size
  pnB : ∀ p ∈ G.pn, G.hc.get? p.1 = none ∧ p.1 ∉ G.B
  Bz : ∀ b ∈ G.B, G.hc.get? b = none ∧ b ≠ G.hc.objs.size
  fz : ∀ b ∈ frs G.outer, ∃ u, G.hc.get? b = some u
theorem Fm.cxok {G : Fm} (O : G.Ok) {s : Shared} (U : Up G.base G.outer G.hc s) : (G.X s).Ok where
  mod := O.mod
  kind := O.kind
  glob := rfl
  blt := rfl
  above := Nat.le_of_eq (cut_size G.hc s.heap)
  inj := fun x y c h => (O.noc x c h).elim
  has := fun x h => by
    rcases h with h | h
    · exact absurd h (O.nok x).1
    · exact absurd h (O.nok x).2
  cab := fun x c _ h => (O.noc x c h).elim
  hd := fun _ => O.hd
  frames := Around.frames_deeper O.frames
  stk := .inr ⟨rfl, rfl⟩
  exf := fun b hb => nomatch (show b ∈ ([] : List Addr) from hb)
  bs := fun b o e => by
    obtain ⟨⟨u, hu⟩, h⟩ := U.bs b o e
    exact ⟨cut_of hu h, rfl⟩
  bsz := by
    show G.base.objs.size ≤ (cutH G.hc s.heap).objs.size
    rw [cut_size]
    exact O.bsz
  noex := fun b o _ hb => nomatch (show b ∈ ([] : List Addr) from hb)
  exfs := fun b hb => nomatch (show b ∈ ([] : List Addr) from hb)
  funs := U.funs
  frf := fun b _ => rfl
/-- amid a run that began at z0: ip, what is kept still meanwhile -/
structure Fm.Run (G : Fm) (ip : List (Addr × Obj)) (σ : L2.St) (H : Hp) (z0 s : Shared) : Prop where
  inv : Inv (G.X z0) (ip ++ pinsAt G.B z0.heap) σ H s
  there : ∀ b o, G.hc.get? b = some o → ∃ o', z0.heap.get? b = some o'
  B : ∀ b ∈ G.B, ∃ o, z0.heap.get? b = some o
  ipz : ∀ p ∈ ip, G.hc.get? p.1 = none ∧ p.1 ∉ G.B
theorem Fm.Run.old {G : Fm} {ip : List (Addr × Obj)} {σ : L2.St} {H : Hp} {z0 s : Shared} (R : G.Run ip σ H z0 s) {b : Addr} {u : Obj} (h : G.hc.get? b = some u) : H b = none := by
  obtain ⟨o, ho⟩ := R.there b u h
  exact R.inv.base.free b o (cut_of h ho) rfl (fun hb => nomatch (show b ∈ ([] : List Addr) from hb))
theorem Fm.Run.after {G : Fm} {ip : List (Addr × Obj)} {σ : L2.St} {H : Hp} {z0 s : Shared} (R : G.Run ip σ H z0 s) : After G.outer G.hc G.B z0 s where
  os := R.inv.os
  bare := R.inv.bare
  keep := fun b u o h e n => R.inv.base.keep b o (cut_of h e) rfl n (fun hb => nomatch (show b ∈ ([] : List Addr) from hb))
  slot := fun b u o h e n => R.inv.base.slot b o (cut_of h e) rfl n (fun hb => nomatch (show b ∈ ([] : List Addr) from hb))
  own := fun b hb o e => (R.inv.pin (b, o) (List.mem_append_right _ (List.mem_append_right _ (mem_pinsAt hb e)))).1
/-- woken -/
theorem Fm.Run.wake {G : Fm} (O : G.Ok) {ip : List (Addr × Obj)} {σ : L2.St} {H : Hp} {z0 s s' : Shared} (R : G.Run ip σ H z0 s) (I : Idle G.base G.outer G.hc G.B s s') : G.Run ip σ (lsO H) s' s' := by
  have yo : ∀ {b : Addr} {xs : List V}, H b = some (.lst xs) → G.hc.get? b = none := fun {b xs} h => by
    cases q : G.hc.get? b with
    | none => rfl
    | some u =>
      have := R.old q
      rw [h] at this
      cases this
  have nB : ∀ {b : Addr} {o : HO}, H b = some o → b ∉ G.B := fun {b o} h hb => by
    obtain ⟨u, hu⟩ := R.B b hb
    have := (R.inv.pin (b, u) (List.mem_append_right _ (List.mem_append_right _ (mem_pinsAt hb hu)))).2.1
    rw [h] at this
    cases this
  have zy : G.hc.get? G.hc.objs.size = none := by
    cases q : G.hc.get? G.hc.objs.size with
    | none => rfl
    | some u => exact absurd (Heap.lt_size q) (Nat.lt_irrefl _)
  have fy : ∀ {b : Addr}, G.hc.get? b = none → b ∉ frs G.outer := fun {b} h hb => by
    obtain ⟨u, hu⟩ := O.fz b hb
    rw [h] at hu
    cases hu
  refine ⟨⟨G.cxok O I.up, rfl, I.up.bare, ⟨fun b o e _ _ _ => (cut_some e).2, fun b o e _ _ _ => ⟨o.slots, (cut_some e).2⟩, fun b o e _ _ => ?_, fun b o e _ => ⟨o, (cut_some e).2⟩, (fun b xs e => nomatch e), (fun b o u e => nomatch e), (fun b ps e => nomatch e)⟩, ?_, fun x c h => (O.noc x c h).elim, ?_, fun x c h => (O.noc x c h).elim, fun p hp => ?_, fun b o e => ?_, R.inv.len⟩, fun b o h => I.up.there b o h, fun b hb => (I.bs b hb).imp fun o q => q.1, R.ipz⟩
  · obtain ⟨⟨u, hu⟩, _⟩ := cut_some e
    exact lsO_none (R.old hu)
  · obtain ⟨m, ⟨ob, es, ep, ho, hd, r⟩, hv⟩ := R.inv.loc
    refine ⟨m, ⟨ob, es, ep, I.young _ ob zy (fun hb => (O.Bz _ hb).2 rfl) ho (fun v e => by rw [hd] at e; cases e), hd, r⟩, fun i x v h1 h2 h3 => ?_⟩
    obtain ⟨u, ru, lk⟩ := hv i x v h1 h2 h3
    refine ⟨u, ru, lk.imp id fun ⟨_, c, hc, _⟩ => (O.noc x c hc).elim⟩
  · exact lsO_none R.inv.free
  · rcases List.mem_append.mp hp with hp | hp
    · obtain ⟨h1, h2, h3, h4, h5⟩ := R.inv.pin p (List.mem_append_left _ hp)
      obtain ⟨y1, y2⟩ := O.pnB p hp
      exact ⟨I.young _ _ y1 y2 h1 h5, lsO_none h2, h3, h4, h5⟩
    · rcases List.mem_append.mp hp with hp | hp
      · obtain ⟨h1, h2, h3, h4, h5⟩ := R.inv.pin p (List.mem_append_right _ (List.mem_append_left _ hp))
        obtain ⟨y1, y2⟩ := R.ipz p hp
        exact ⟨I.young _ _ y1 y2 h1 h5, lsO_none h2, h3, h4, h5⟩
      · obtain ⟨hb, e⟩ := of_pinsAt hp
        obtain ⟨o, ho, hc⟩ := I.bs _ hb
        obtain ⟨u, hu⟩ := R.B _ hb
        obtain ⟨_, h2, h3, h4, _⟩ := R.inv.pin (p.1, u) (List.mem_append_right _ (List.mem_append_right _ (mem_pinsAt hb hu)))
        have eo : p.2 = o := Option.some.inj (e.symm.trans ho)
        exact ⟨e, lsO_none h2, h3, h4, by rw [eo]; exact hc⟩
  · obtain ⟨xs, rfl, h⟩ := lsO_some e
    obtain ⟨hz, its, n, rv, ho⟩ := (show xs.length ≤ sizeLine ∧ ∃ (its : List Value) (n : Nat), Vals xs its ∧ s.heap.get? b = some { cls := .type "list", data := .seq its.toArray n } from R.inv.hok b _ h)
    exact ⟨hz, its, n, rv, I.young b _ (yo h) (nB h) ho (fun v e => nomatch e)⟩
end Zg

set_option Elab.async false
set_option linter.all false
set_option maxRecDepth 100000
set_option maxHeartbeats 1000000
/-! statements of such a generator's body -/
namespace Zg
open PySem PySem.Spec PyProof.Rows L2 GenW
def Fm.Y (G : Fm) (a : Addr) (g : Nat) : Protocol := fun n z0 v s kap => ∃ i x, n + 1 + i = sizeLine ∧ G.out[i]? = some x ∧ RelV x v ∧ After G.outer G.hc G.B z0 s ∧ s.heap.NoLimit ∧ s.heap.IsGen a g ∧ ∀ s', Idle G.base G.outer G.hc G.B s s' → kap (.send .none) s'
def Fm.R (G : Fm) : GenEnd := fun n z0 r s => ((r = .ok (.ret .none) ∨ r = .ok .next) ∧ (n + G.out.length = sizeLine ∧ After G.outer G.hc G.B z0 s)) ∨ ∃ e, r = .error e ∧ False
/-- what is wanted behind a statement; the number: how many items are out -/
structure GE where
  nx : Nat → L2.St → Hp → Prop
  rt : Nat → Hp → Prop := fun _ _ => False
  bk : Nat → L2.St → Hp → Prop := fun _ _ _ => False
  ct : Nat → L2.St → Hp → Prop := fun _ _ _ => False
abbrev TY := GE → Nat → L2.St → Hp → Prop
def GE.at (D : GE) (i : Nat) : Ends := { nx := D.nx i, rt := fun v H => v = .non ∧ D.rt i H, bk := D.bk i, ct := D.ct i }
def Fj (G : Fm) (ip : List (Addr × Obj)) (D : GE) (i : Nat) (z0 : Shared) (f : Flow) (s : Shared) : Prop :=
  match f with
  | .next => ∃ σ H, G.Run ip σ H z0 s ∧ D.nx i σ H
  | .brk => ∃ σ H, G.Run ip σ H z0 s ∧ D.bk i σ H
  | .cont => ∃ σ H, G.Run ip σ H z0 s ∧ D.ct i σ H
  | .ret u => ∃ v σ H, G.Run ip σ H z0 s ∧ RelV v u ∧ v = .non ∧ D.rt i H
structure At (G : Fm) (A0 : Around) (c : Code) (fs : List Frame) (gd : Bool → Bool) : Prop where
  over : A0.over c fs = G.A.deeper G.env
  split : splitAtGen fs = none
  guard : fs.any Frame.guarded = false
  gd : gd false = false
def Goal (G : Fm) (a : Addr) (g : Nat) (ip : List (Addr × Obj)) (A0 : Around) (R : GenEnd) (c : Code) (fs : List Frame) (K : Flow → Sem PySem.Fin) (D : GE) : Prop :=
  ∀ (n i : Nat) (z0 s : Shared) (f : Flow), n + i = sizeLine → Fj G ip D i z0 f s → Seg (model G.P G.w) A0 R (G.Y a g) n z0 c (K f) fs s
def RunsY (G : Fm) (a : Addr) (g : Nat) (body : (Flow → Sem PySem.Fin) → (Value → Sem PySem.Fin) → (Bool → Bool) → (List Value → List Value) → Sem PySem.Fin) (t : TY) : Prop :=
  ∀ (A0 : Around) (R : GenEnd) (n i : Nat) (z0 : Shared) (c : Code) (fs : List Frame) (K : Flow → Sem PySem.Fin) (J : Value → Sem PySem.Fin) (gd : Bool → Bool) (lv : List Value → List Value) (s : Shared) (σ : L2.St) (H : Hp) (D : GE) (ip : List (Addr × Obj)),
    At G A0 c fs gd → n + i = sizeLine → Goal G a g ip A0 R c fs K D → G.Run ip σ H z0 s → t D i σ H → Seg (model G.P G.w) A0 R (G.Y a g) n z0 c (body K J gd lv) fs s
def SY (G : Fm) (a : Addr) (g : Nat) (st : Stmt) (t : TY) : Prop := RunsY G a g (fun K J gd lv => (exec st G.env).wrap K J gd lv) t
def BY (G : Fm) (a : Addr) (g : Nat) (body : List Stmt) (t : TY) : Prop := RunsY G a g (fun K J gd lv => (execs body G.env).wrap K J gd lv) t
section
variable {G : Fm} {a : Addr} {g : Nat} {st : Stmt} {rest : List Stmt}
def tY0 : TY := fun D i σ H => D.nx i σ H
def tYThen (t u : TY) : TY := fun D i σ H => t { D with nx := fun i' σ' H' => u D i' σ' H' } i σ H
def tYPl (t : TS) : TY := fun D i σ H => t (D.at i) σ H
def tYld (out : List V) (te : TE) : TY := fun D i σ H => i < sizeLine ∧ te σ H fun x H1 => out[i]? = some x ∧ D.nx (i + 1) σ (lsO H1)
theorem by_nil : BY G a g [] tY0 := fun A0 R n i z0 c fs K J gd lv s σ H D ip at' hn k r ht => seg_execs_nil (k n i z0 s .next hn ⟨σ, H, r, ht⟩)
theorem by_cons {t u : TY} (h : SY G a g st t) (hr : BY G a g rest u) : BY G a g (st :: rest) (tYThen t u) := fun A0 R n i z0 c fs K J gd lv s σ H D ip at' hn k r ht =>
  seg_execs_cons (h A0 R n i z0 c fs _ J gd lv s σ H { D with nx := fun i' σ' H' => u D i' σ' H' } ip at' hn (fun n1 i1 y0 s1 f hn1 hf => by
    match f, hf with
    | .next, ⟨σ1, H1, r1, q⟩ => exact hr A0 R n1 i1 y0 c fs K J gd lv s1 σ1 H1 D ip at' hn1 k r1 q
    | .brk, hf => exact k n1 i1 y0 s1 .brk hn1 hf
    | .cont, hf => exact k n1 i1 y0 s1 .cont hn1 hf
    | .ret u, hf => exact k n1 i1 y0 s1 (.ret u) hn1 hf) r ht)
theorem sy_plain {t : TS} (h : ∀ s0, PS (G.X s0) st t) : SY G a g st (tYPl t) := fun A0 R n i z0 c fs K J gd lv s σ H D ip at' hn k r ht => by
  refine seg_wrap ?_
  rw [at'.over]
  refine wpAny_mono ((h z0).run _ s σ H (D.at i) r.inv ht) (fun f s1 hs => k n i z0 s1 f hn ?_) fun x s1 hx => hx.elim
  cases f with
  | next => obtain ⟨σ1, H1, I1, q⟩ := hs; exact ⟨σ1, H1, ⟨I1, r.there, r.B, r.ipz⟩, q⟩
  | brk => obtain ⟨σ1, H1, I1, q⟩ := hs; exact ⟨σ1, H1, ⟨I1, r.there, r.B, r.ipz⟩, q⟩
  | cont => obtain ⟨σ1, H1, I1, q⟩ := hs; exact ⟨σ1, H1, ⟨I1, r.there, r.B, r.ipz⟩, q⟩
  | ret u => obtain ⟨v, σ1, H1, I1, r1, q⟩ := hs; exact ⟨v, σ1, H1, ⟨I1, r.there, r.B, r.ipz⟩, r1, q⟩
theorem sy_yield {e : Expr} {te : TE} {yp pos : Pos} (O : G.Ok) (hg : ∀ h : Heap, (∀ p ∈ G.pn, h.get? p.1 = some p.2) → h.IsGen a g) (he : ∀ s0, PE (G.X s0) e te) (hco : G.scope.isCoroutine = false) (hi : interactive G.env = false := by rfl) : SY G a g (.Expr (.Yield (some e) yp) pos) (tYld G.out te) :=
  fun A0 R n i z0 c fs K J gd lv s σ H D ip at' hn k r ht => by
  obtain ⟨hlt, ht⟩ := ht
  obtain ⟨n, rfl⟩ : ∃ m, n = m + 1 := ⟨n - 1, by omega⟩
  refine seg_Expr_Yield at'.split at'.gd at'.guard ?_ hco hi
  rw [at'.over]
  refine wpAny_mono ((he z0).run _ s σ H _ r.inv ht) (fun v s' hv => ?_) fun x s' hx => hx.elim
  obtain ⟨x, H1, I1, rv, hx, q⟩ := hv
  have r1 : G.Run ip σ H1 z0 s' := ⟨I1, r.there, r.B, r.ipz⟩
  intro kap hk
  refine ⟨i, x, hn, hx, rv, r1.after, I1.nolimit, hg _ fun p hp => (I1.pin p (List.mem_append_left _ hp)).1, fun s'' z => hk .none s'' ?_⟩
  exact k n (i + 1) s'' s'' .next (by omega) ⟨σ, lsO H1, r1.wake O z, q⟩
end
end Zg

set_option Elab.async false
set_option linter.all false
set_option maxRecDepth 100000
set_option maxHeartbeats 1000000
/-! for within a generator's body -/
namespace Zg
open PySem PySem.Spec PyProof.Rows L2 GenW
section
variable {prog : Program} {w : World} {A : Around} {R : GenEnd} {Y : Protocol} {n : Nat} {z0 : Shared} {c : Code} {fs : List Frame} {s : Shared} {env : Env}
  {K : Flow → Sem PySem.Fin} {J : Value → Sem PySem.Fin} {gd : Bool → Bool} {lv : List Value → List Value}
theorem seg_For {tg iter : Expr} {body : List Stmt} {pos : Pos} (hs : ∀ x, foldedSetIterable iter env x = pure x)
    (h : wpAny (model prog w) (A.over c fs) (eval iter env) (fun v s1 => wpAny (model prog w) (A.over c fs) (pyIter v) (fun it s2 => ∀ (kf : Result → Sem PySem.Fin) (kl : List Value) (p : Pos), (∀ f, kf (.ok f) = K f) →
      Seg (model prog w) A R Y n z0 (.forLoop tg it body [] env) ((model prog w).den (.forLoop tg it body [] env)) (.ret kf none (gd false) kl c p [] :: fs) s2) (fun _ _ => False) s1) (fun _ _ => False) s) :
    Seg (model prog w) A R Y n z0 c ((exec (.For tg iter body [] pos) env).wrap K J gd lv) fs s := by
  rw [exec_For]
  refine seg_bind_wrap (wpAny_standAt ?_)
  refine seg_bind_wrap (wpAny_mono h (fun v s1 h1 => ?_) fun _ _ x => x.elim)
  refine seg_bind_wrap (wpAny_of_eq (hs v) ?_)
  refine seg_bind_wrap (wpAny_standAt ?_)
  refine seg_bind_wrap (wpAny_holding (wpAny_mono h1 (fun it s2 h2 => ?_) fun _ _ x => x.elim))
  refine seg_call fun p => ?_
  exact h2 _ _ p fun f => rfl
theorem seg_forLoop {tg : Expr} {it : Value} {body : List Stmt}
    (h : wpAny (model prog w) (A.over (.forLoop tg it body [] env) fs) (pyNext it) (fun r s1 => match r with
      | none => Seg (model prog w) A R Y n z0 (.forLoop tg it body [] env) (.pure (.again (.block [] env))) fs s1
      | some v => wpAny (model prog w) (A.over (.forLoop tg it body [] env) fs) (letOwnedTupleGo tg it v) (fun _ s2 => wpAny (model prog w) (A.over (.forLoop tg it body [] env) fs) (assign tg env v) (fun _ s3 =>
          ∀ J0 : Value → Sem PySem.Fin, Seg (model prog w) A R Y n z0 (.forLoop tg it body [] env) ((execs body env).wrap (fun f => match f with
            | .next | .cont => .pure (.again (.forLoop tg it body [] env))
            | .brk => .pure (.done .next)
            | .ret v => .pure (.done (.ret v))) J0 id id) fs s3) (fun _ _ => False) s2) (fun _ _ => False) s1) (fun _ _ => False) s) :
    Seg (model prog w) A R Y n z0 (.forLoop tg it body [] env) ((model prog w).den (.forLoop tg it body [] env)) fs s := by
  show Seg _ A R Y n z0 _ ((forTurn tg it body [] env).onRaise (fun x => do noteFrame x env; theTreesLotGoes x)) fs s
  unfold forTurn
  rw [Sem.onRaise_eq_wrap]
  refine seg_bind_wrap (wpAny_standAt ?_)
  refine seg_bind_wrap (wpAny_onRaise (wpAny_mono h (fun r s1 h1 => ?_) fun _ _ x => x.elim))
  cases r with
  | none => exact h1
  | some v =>
    refine seg_bind_wrap (wpAny_mono h1 (fun _ s2 h2 => ?_) fun _ _ x => x.elim)
    refine seg_bind_wrap (wpAny_mono h2 (fun _ s3 h3 => ?_) fun _ _ x => x.elim)
    rw [Sem.bind_eq_wrap', Sem.wrap_wrap]
    have h4 := h3 (fun e => (.raise e : Sem PySem.Fin).wrap .pure (fun e => (do noteFrame e env; theTreesLotGoes e : Sem Unit).bind fun _ => .raise e) id id)
    refine Eq.mp ?_ h4
    congr 1
    refine Sem.wrap_congr _ _ _ (fun f => ?_) (fun e => ?_)
    · cases f <;> rfl
    · rfl
theorem seg_blockNil (h : Seg (model prog w) A R Y n z0 c (K .next) fs s) {cf : Code} {kf : Result → Sem PySem.Fin} {g : Bool} {kl kp : List Value} {p : Pos} {hd : Option Value} (hk : kf (.ok .next) = K .next) :
    Seg (model prog w) A R Y n z0 cf (.pure (.again (.block [] env))) (.ret kf hd g kl c p kp :: fs) s := by
  refine seg_again rfl ?_
  show Seg _ A R Y n z0 _ (((execs [] env).onRaise (fun x => do noteFrame x env; theTreesLotGoes x)) >>= fun f => pure (Fin.done f)) _ s
  refine seg_leaf (.ok .next) ?_
  rw [hk]
  exact h
end
section
variable {G : Fm} {a : Addr} {g : Nat}
def tYFor (wi : TI) (gt : TG) (tb : TY) : TY := fun D i σ H => wi σ H fun J H1 => ∃ W : Nat → Nat → Nat → L2.St → Hp → Prop, (∃ m, W 0 m i σ H1) ∧
  ∀ t m i σ H, W t m i σ H → (J.stop t H ∧ D.nx i σ H) ∨ (J.go t H ∧ ∃ N : Nat → L2.St → Hp → Prop, (∀ i' σ' H', N i' σ' H' → ∃ m', m' < m ∧ W (t + 1) m' i' σ' H') ∧
    ∀ x H', J.yld t H x H' → gt x σ H' fun σ2 H2 => tb { nx := N, ct := N, bk := D.nx, rt := D.rt } i σ2 H2)
theorem sy_for {tg iter : Expr} {body : List Stmt} {pos : Pos} {wi : TI} {gt : TG} {tb : TY} (hi : ∀ s0, PI (G.X s0) tg iter wi) (hgt : ∀ s0, PG (G.X s0) tg gt) (hb : BY G a g body tb)
    (hs : ∀ x, foldedSetIterable iter G.env x = pure x := by intro _; rfl) : SY G a g (.For tg iter body [] pos) (tYFor wi gt tb) := fun A0 R n i z0 c fs K J gd lv s σ H D ip at' hn k r ht => by
  refine seg_For hs ?_
  rw [at'.over]
  refine wpAny_mono ((hi z0).run _ s σ H _ r.inv ht) (fun v s1 h1 => wpAny_mono h1 (fun itv s2 h2 => ?_) fun _ _ x => x.elim) fun _ _ x => x.elim
  obtain ⟨it, fp, tn, Jt, H2, rfl, I2, T, st2, f2, W, ⟨m0, w0⟩, turn⟩ := h2
  intro kf kl p hkf
  have stat : ∀ b ∈ fp, b ≠ G.hc.objs.size ∧ b ∉ frs G.outer ∧ G.hc.get? b = none ∧ b ∉ G.B ∧ ∀ q ∈ G.pn ++ ip, q.1 ≠ b := fun b hbf => by
    obtain ⟨_, q2, q3, q4, _, q6⟩ := f2 b hbf
    refine ⟨q2, q3, ?_, fun hB => ?_, fun q hq => q6 q ?_⟩
    · rcases q4 with q4 | q4
      · nomatch (show b ∈ ([] : List Addr) from q4)
      · cases e : G.hc.get? b with
        | none => rfl
        | some u =>
          have l1 := Heap.lt_size e
          have l2 : G.hc.objs.size ≤ b := by
            have l3 : (cutH G.hc z0.heap).objs.size ≤ b := q4
            rwa [cut_size] at l3
          exact absurd (Nat.lt_of_lt_of_le l1 l2) (Nat.lt_irrefl _)
    · obtain ⟨u, hu⟩ := r.B b hB
      exact q6 (b, u) (List.mem_append_right _ (List.mem_append_right _ (mem_pinsAt hB hu))) rfl
    · rcases List.mem_append.mp hq with z | z
      · exact List.mem_append_left _ z
      · exact List.mem_append_right _ (List.mem_append_left _ z)
  have fok : ∀ {z1 s' : Shared} {σ' : L2.St} {H' : Hp}, G.Run ip σ' H' z1 s' → (∀ b ∈ fp, H' b = none) → ∀ b ∈ fp, FpOk (G.X z1) (ip ++ pinsAt G.B z1.heap) H' b := fun {z1 s' σ' H'} r' hn b hbf => by
    obtain ⟨q2, q3, q4, q5, q6⟩ := stat b hbf
    refine ⟨hn b hbf, q2, q3, .inr ?_, fun x y e z => ?_, fun q hq => ?_⟩
    · show (cutH G.hc z1.heap).objs.size ≤ b
      rw [cut_size]
      obtain ⟨_, _, _, l4, _⟩ := f2 b hbf
      rcases l4 with l4 | l4
      · nomatch (show b ∈ ([] : List Addr) from l4)
      · have l3 : (cutH G.hc z0.heap).objs.size ≤ b := l4
        rwa [cut_size] at l3
    · obtain ⟨_, _, _, _, l5, _⟩ := f2 b hbf
      exact l5 x y e z
    · rcases List.mem_append.mp hq with z | z
      · exact q6 q (List.mem_append_left _ z)
      · rcases List.mem_append.mp z with z | z
        · exact q6 q (List.mem_append_right _ z)
        · exact fun e => q5 (e ▸ (of_pinsAt z).1)
  have ov : A0.over (.forLoop tg (.ref it) body [] G.env) (.ret kf none (gd false) kl c p [] :: fs) = G.A.deeper G.env := (over_loop rfl rfl).trans at'.over
  have at2 : At G A0 (.forLoop tg (.ref it) body [] G.env) (.ret kf none (gd false) kl c p [] :: fs) id := by
    refine ⟨ov, ?_, ?_, rfl⟩
    · show (splitAtGen fs).map _ = none
      rw [at'.split]; rfl
    · show (gd false || fs.any Frame.guarded) = false
      rw [at'.gd, at'.guard]; rfl
  have loop : ∀ (m t n i : Nat) (z0 s : Shared) (σ : L2.St) (H : Hp), n + i = sizeLine → G.Run ip σ H z0 s → tn t s.heap → (∀ b ∈ fp, H b = none) → W t m i σ H →
      Seg (model G.P G.w) A0 R (G.Y a g) n z0 (.forLoop tg (.ref it) body [] G.env) ((model G.P G.w).den (.forLoop tg (.ref it) body [] G.env)) (.ret kf none (gd false) kl c p [] :: fs) s := by
    intro m
    induction m using Nat.strongRecOn with
    | ind m ih =>
      intro t n i z0 s σ H hn r hst hfp w0
      refine seg_forLoop ?_
      rw [ov]
      rcases turn t m i σ H w0 with ⟨stop, q⟩ | ⟨go, N, hN, step⟩
      · refine wpAny_mono (T.done (G.X z0) rfl rfl rfl rfl t _ s σ H (fun _ _ => False) r.inv (fok r hfp) hst stop) (fun rr s4 ⟨hr, I4⟩ => ?_) fun _ _ x => x.elim
        subst hr
        exact seg_blockNil (K := K) (k n i z0 s4 .next hn ⟨σ, H, ⟨I4, r.there, r.B, r.ipz⟩, q⟩) (hkf .next)
      · refine wpAny_mono (T.item (G.X z0) rfl rfl rfl rfl t _ s σ H (fun _ _ => False) r.inv (fok r hfp) hst go) (fun rr s4 ⟨u, hr, h4⟩ => ?_) fun _ _ x => x.elim
        subst hr
        refine wpAny_mono h4 (fun _ s5 ⟨x, H5, I5, r5, y5, st5, fr5⟩ => ?_) fun _ _ x => x.elim
        have r5' : G.Run ip σ H5 z0 s5 := ⟨I5, r.there, r.B, r.ipz⟩
        have I5' := (I5.pinned (fok r5' fr5) (T.obj _ _ st5)).pins_of (pins' := (ip ++ pinsAt fp s5.heap) ++ pinsAt G.B z0.heap) fun q hq => (I5.pinned (fok r5' fr5) (T.obj _ _ st5)).pin q (List.mem_append_right _ (by
          rcases List.mem_append.mp hq with z | z
          · rcases List.mem_append.mp z with z | z
            · exact List.mem_append_left _ (List.mem_append_left _ z)
            · exact List.mem_append_right _ z
          · exact List.mem_append_left _ (List.mem_append_right _ z)))
        refine wpAny_mono ((hgt z0).run _ s5 σ H5 x u _ I5' r5 (step x H5 y5)) (fun _ s6 ⟨σ6, H6, I6, q6⟩ => ?_) fun _ _ x => x.elim
        intro J0
        have ipz2 : ∀ q ∈ ip ++ pinsAt fp s5.heap, G.hc.get? q.1 = none ∧ q.1 ∉ G.B := fun q hq => by
          rcases List.mem_append.mp hq with z | z
          · exact r.ipz q z
          · obtain ⟨_, _, q4, q5, _⟩ := stat q.1 (of_pinsAt z).1
            exact ⟨q4, q5⟩
        refine hb A0 R n i z0 _ _ _ J0 id id s6 σ6 H6 _ (ip ++ pinsAt fp s5.heap) at2 hn (fun n1 i1 y0 s7 f hn1 hf => ?_) ⟨I6, r.there, r.B, ipz2⟩ q6
        have back : ∀ {σ7 : L2.St} {H7 : Hp}, G.Run (ip ++ pinsAt fp s5.heap) σ7 H7 y0 s7 → G.Run ip σ7 H7 y0 s7 ∧ tn (t + 1) s7.heap ∧ ∀ b ∈ fp, H7 b = none := fun {σ7 H7} r7 => by
          refine ⟨⟨r7.inv.pins_of fun q hq => r7.inv.pin q (List.mem_append_right _ (by
            rcases List.mem_append.mp hq with z | z
            · exact List.mem_append_left _ (List.mem_append_left _ z)
            · exact List.mem_append_right _ z)), r7.there, r7.B, fun q hq => r7.ipz q (List.mem_append_left _ hq)⟩, T.keep _ _ _ st5 fun b hbf o e => ?_, fun b hbf => ?_⟩
          · exact (r7.inv.pin (b, o) (List.mem_append_right _ (List.mem_append_left _ (List.mem_append_right _ (mem_pinsAt hbf e))))).1
          · obtain ⟨o, e, _⟩ := T.obj _ _ st5 b hbf
            exact (r7.inv.pin (b, o) (List.mem_append_right _ (List.mem_append_left _ (List.mem_append_right _ (mem_pinsAt hbf e))))).2.1
        have again : ∀ {σ7 : L2.St} {H7 : Hp}, G.Run (ip ++ pinsAt fp s5.heap) σ7 H7 y0 s7 → N i1 σ7 H7 → Seg (model G.P G.w) A0 R (G.Y a g) n1 y0 (.forLoop tg (.ref it) body [] G.env) (.pure (.again (.forLoop tg (.ref it) body [] G.env))) (.ret kf none (gd false) kl c p [] :: fs) s7 := fun {σ7 H7} r7 n7 => by
          obtain ⟨m', hm, w7⟩ := hN i1 σ7 H7 n7
          obtain ⟨r8, t8, f8⟩ := back r7
          exact seg_again rfl (ih m' hm (t + 1) n1 i1 y0 s7 σ7 H7 hn1 r8 t8 f8 w7)
        match f, hf with
        | .next, ⟨σ7, H7, r7, n7⟩ => exact again r7 n7
        | .cont, ⟨σ7, H7, r7, n7⟩ => exact again r7 n7
        | .brk, ⟨σ7, H7, r7, q7⟩ =>
          refine seg_leaf (.ok .next) ?_
          rw [hkf]
          exact k n1 i1 y0 s7 .next hn1 ⟨σ7, H7, (back r7).1, q7⟩
        | .ret u, ⟨v, σ7, H7, r7, rv, ev, q7⟩ =>
          refine seg_leaf (.ok (.ret u)) ?_
          rw [hkf]
          exact k n1 i1 y0 s7 (.ret u) hn1 ⟨v, σ7, H7, (back r7).1, rv, ev, q7⟩
  exact loop m0 0 n i z0 s2 σ H2 hn ⟨I2, r.there, r.B, r.ipz⟩ st2 (fun b hbf => (f2 b hbf).1) w0
end
end Zg

set_option Elab.async false
set_option linter.all false
set_option maxRecDepth 100000
set_option maxHeartbeats 1000000
/-! what such a generator def promises; list of it -/
namespace Zg
open PySem PySem.Spec PyProof.Rows L2 GenW
def YP (base : Heap) (outer : List Env) (hc : Heap) (B : List Addr) (out : List V) (a : Addr) (g : Nat) : Protocol := fun n z0 v s kap => ∃ i x, n + 1 + i = sizeLine ∧ out[i]? = some x ∧ RelV x v ∧ After outer hc B z0 s ∧ s.heap.NoLimit ∧ s.heap.IsGen a g ∧ ∀ s', Idle base outer hc B s s' → kap (.send .none) s'
def RP (outer : List Env) (hc : Heap) (B : List Addr) (out : List V) : GenEnd := fun n z0 r s => ((r = .ok (.ret .none) ∨ r = .ok .next) ∧ (n + out.length = sizeLine ∧ After outer hc B z0 s)) ∨ ∃ e, r = .error e ∧ False
/-- what the taker wants kept -/
structure Part (base : Heap) (outer : List Env) (hc h : Heap) : Prop where
  size : hc.objs.size = h.objs.size
  sub : ∀ b o, hc.get? b = some o → h.get? b = some o
  base : ∀ b o, base.get? b = some o → ∃ u, hc.get? b = some u
  frs : ∀ b ∈ frs outer, ∃ u, hc.get? b = some u
/-- a generator that was just made: called in sc, it will hand out out -/
def MadeY (P : Program) (w : World) (base : Heap) (k : Nat) (outer : List Env) (sc : Shared) (out : List V) (u : Value) (s' : Shared) : Prop :=
  ∃ (a : Addr) (g : Nat) (c : Code), u = .ref a ∧ sc.heap.objs.size ≤ a ∧ a < s'.heap.objs.size ∧ s'.heap.IsGen a g ∧ s'.gens[g]? = some (.fresh c) ∧ s'.os = sc.os ∧ AllBare s'.gens ∧ s'.heap.NoLimit ∧ (∀ b o, sc.heap.get? b = some o → s'.heap.get? b = some o) ∧
    ∀ (hc : Heap) (A : Around) (B : List Addr) (s2 : Shared), Part base outer hc sc.heap → Room k A → A.frames = some outer → (∀ b ∈ B, s'.heap.objs.size ≤ b) → Idle base outer hc B s' s2 → Seg (model P w) A (RP outer hc B out) (YP base outer hc B out a g) sizeLine s2 c ((model P w).den c) [] s2
structure GFnY (P : Program) (w : World) (K : PySem.W.Frag) (mg : Str → Option Value) (base : Heap) (k : Nat) (f : Addr) (fd : FuncData) (ps : List Str) (sp : List V → List V → Prop) : Prop where
  len : ∀ vs out, sp vs out → vs.length = ps.length
  run : ∀ (A : Around) (outer : List Env) (s : Shared) (H : Hp) (args : Args) (us : List Value) (vs out : List V), Room k A → Env0 P w K mg base A outer s H → BindsTo s fd args (ps.zip us) → Vals vs us → sp vs out →
    codeAny (model P w) A (.call (.ref f) args) (fun r s' => match r with | .ok (.ret u) => MadeY P w base k outer s out u s' | _ => False) s
theorem none_of_size {h : Heap} {b : Addr} (q : h.objs.size ≤ b) : h.get? b = none := by
  cases e : h.get? b with
  | none => rfl
  | some o => exact absurd (Nat.lt_of_lt_of_le (Heap.lt_size e) q) (Nat.lt_irrefl _)
theorem cells_noneCell : ∀ (names : List (Str × NameKind)) (n : Nat) (acc : List (Str × Addr)), (∀ y ∈ names, y.2 ≠ .cell) → cellsFrom n names acc = acc
  | [], _, _, _ => rfl
  | (nm, kind) :: r, n, acc, h => by
    have hk : (kind == NameKind.cell) = false := by
      have := h (nm, kind) (List.mem_cons_self ..)
      cases kind <;> first | rfl | exact absurd rfl this
    unfold cellsFrom
    rw [if_neg (by rw [hk]; exact Bool.false_ne_true)]
    exact cells_noneCell r n acc fun y hy => h y (List.mem_cons_of_mem _ hy)
theorem gfnY_of {P : Program} {w : World} {K : PySem.W.Frag} {mg : Str → Option Value} {base : Heap} {k : Nat} {f : Addr} {name qual : Str} {params : Arguments} {body : List Stmt} {scope : Scope} {dV kV doc pm cdv ct oc : Value} {an od : Option Addr}
    {osl : Array (Option Value)} {N ps : List Str} {sp : List V → List V → Prop} (lk : K.lookup f = some ⟨oc, od, .func (PySem.W.fnOf name qual params body scope dV kV doc pm an cdv ct), osl⟩) (hcd : PySem.W.codeIn K cdv qual = true) (Sc : GScope N ps scope) (hloc : ∀ y ∈ scope.names, y.2 ≠ .cell ∧ y.2 ≠ .free)
    (len : ∀ vs out, sp vs out → vs.length = ps.length)
    (hbody : ∀ (A : Around) (outer : List Env) (hc : Heap) (pn : List (Addr × Obj)) (B : List Addr) (a : Addr) (g : Nat) (vs out : List V), (Fm.mk P w K mg base N qual scope f cdv A outer hc pn B out).Ok → (∀ h : Heap, (∀ p ∈ pn, h.get? p.1 = some p.2) → h.IsGen a g) → Room k (A.deeper (envOfC qual scope hc.objs.size f cdv)) → sp vs out →
      ∃ t, BY (Fm.mk P w K mg base N qual scope f cdv A outer hc pn B out) a g body t ∧ t { nx := fun i _ _ => i = out.length, rt := fun i _ => i = out.length } 0 (start N vs) noH) :
    GFnY P w K mg base (k + 1) f (PySem.W.fnOf name qual params body scope dV kV doc pm an cdv ct) ps sp := by
  refine ⟨len, fun A outer s H args us vs out hr e0 hb r hsp => ?_⟩
  have hl := len _ _ hsp
  have inK : K.In s.heap := e0.mod.kin.keeps fun b o e => (e0.bs b o e).1
  have noL : s.heap.NoLimit := e0.mod.nolimit.keeps fun b o e => (e0.bs b o e).1
  have e1 : Env0 P w K mg base A outer s noH := ⟨e0.frames, e0.mod, fun b o e => ⟨(e0.bs b o e).1, rfl⟩, e0.bsz, e0.funs, fun _ _ => rfl, (fun b o e => nomatch e), e0.bare⟩
  have kinds : ∀ y ∈ ps.zip us, scope.names.lookup y.1 = some .local ∨ (scope.names.lookup y.1 = some .cell ∧ ((cellsFrom (s.heap.objs.size + 1) scope.names []).lookup y.1).isSome = true) := fun ⟨m, v⟩ hy =>
    (Sc.par m (List.of_mem_zip hy).1).imp id fun q => ⟨q, PySem.W.cellsFrom_some _ _ _ (.inl q)⟩
  have nok : ∀ y, scope.names.lookup y ≠ some .cell ∧ scope.names.lookup y ≠ some .free := fun y =>
    ⟨fun e => (hloc _ (PySem.mem_of_lookup e)).1 rfl, fun e => (hloc _ (PySem.mem_of_lookup e)).2 rfl⟩
  refine codeAny_call_generator hr.depth (inK _ _ lk) rfl Sc.co Sc.gen rfl (PySem.W.codeRec_of inK hcd) (hb _ _ _ _ ?_)
  refine wpAny_newFunctionEnv_cells Sc.kind kinds fun env he s1 x => ?_
  subst he
  refine ⟨noL.keeps x.toInCall.keep, ?_⟩
  obtain ⟨h1, tk, es1, hk1⟩ := x.done
  have os1 : s1.os = s.os := by rw [es1]
  have gs1 : s1.gens = s.gens := by rw [es1]
  have up : s.heap.objs.size < s1.heap.objs.size := x.toInCall.ns.lt
  have kp : ∀ b o, s.heap.get? b = some o → s1.heap.get? b = some o := x.toInCall.keep
  have main : ∀ (go : Obj) (nm qn : Value) (tk2 : Nat), go.cls = .type "generator" → go.data = .fields #[.int s1.gens.size 0, nm, qn] → go.slots = #[] → (∀ h : Heap, (h.push go).get? h.objs.size = some go) →
      MadeY P w base (k + 1) outer s out (.ref s1.heap.objs.size) { s1 with gens := s1.gens.push (.fresh (.func body (envOfC qual scope s.heap.objs.size f cdv))), toks := tk2, heap := s1.heap.push go } := by
    intro go nm qn tk2 c1 c2 c3 gp
    have isG : ∀ h : Heap, h.get? s1.heap.objs.size = some go → h.IsGen s1.heap.objs.size s1.gens.size := fun h e => ⟨go, nm, qn, e, c1, c2, c3⟩
    have at1 : (s1.heap.push go).get? s1.heap.objs.size = some go := gp _
    refine ⟨s1.heap.objs.size, s1.gens.size, _, rfl, Nat.le_of_lt up, ?_, isG _ at1, Array.getElem?_push_size .., os1, ?_, (noL.keeps kp).keeps fun b o e => Heap.get?_push_of_some _ e, fun b o e => Heap.get?_push_of_some _ (kp b o e), ?_⟩
    · show _ < (s1.heap.push _).objs.size
      rw [Heap.size_push]; exact Nat.lt_succ_self _
    · exact AllBare.push (by rw [gs1]; exact e0.bare) rfl
    intro hc Aw B s2 hp hrw hfr hBx hI
    have big : ∀ b, (s1.heap.push go).objs.size ≤ b → s1.heap.objs.size < b := fun b hb => by rw [Heap.size_push] at hb; exact hb
    have I1 : Inv (gcxOf P w K mg base N qual scope f cdv A outer s noH Zw.noX []) [] (start N vs) noH s1 := inv_startG Sc hr.hd e1 hl r x
    have hsz := hp.size
    have hcn : ∀ {b : Addr}, s.heap.objs.size ≤ b → hc.get? b = none := fun {b} q => none_of_size (by rw [hsz]; exact q)
    have noc : ∀ y c, (cellsFrom (hc.objs.size + 1) scope.names []).lookup y = some c → False := fun y c e => by
      rw [cells_noneCell _ _ _ fun y hy => (hloc y hy).1] at e
      cases e
    have O : (Fm.mk P w K mg base N qual scope f cdv Aw outer hc [(s1.heap.objs.size, go)] B out).Ok :=
      ⟨e0.mod, Sc.kind, noc, nok, hrw.hd, hfr, (by rw [hsz]; exact e0.bsz), fun p hp => by
        rw [List.mem_singleton.mp hp]
        exact ⟨hcn (Nat.le_of_lt up), fun hb => Nat.lt_irrefl _ (big _ (hBx _ hb))⟩, fun b hb => ⟨hcn (Nat.le_of_lt (Nat.lt_trans up (big _ (hBx b hb)))), by rw [hsz]; exact Nat.ne_of_gt (Nat.lt_trans up (big _ (hBx b hb)))⟩, hp.frs⟩
    have nBz : ∀ b, b ≤ s1.heap.objs.size → b ∉ B := fun b hb hB => Nat.lt_irrefl _ (Nat.lt_of_le_of_lt hb (big _ (hBx b hB)))
    obtain ⟨t, ht, hq⟩ := hbody Aw outer hc [(s1.heap.objs.size, go)] B s1.heap.objs.size s1.gens.size vs out O (fun h hp => isG h (hp _ (List.mem_singleton.mpr rfl))) (hrw.deeper _) hsp
    have go2 : s2.heap.get? s1.heap.objs.size = some go := hI.young _ go (hcn (Nat.le_of_lt up)) (nBz _ (Nat.le_refl _)) at1 (fun v q => by rw [c2] at q; cases q)
    have R0 : (Fm.mk P w K mg base N qual scope f cdv Aw outer hc [(s1.heap.objs.size, go)] B out).Run [] (start N vs) noH s2 s2 := by
      refine ⟨⟨Fm.cxok O hI.up, rfl, hI.up.bare, ⟨fun b o e _ _ _ => (cut_some e).2, fun b o e _ _ _ => ⟨o.slots, (cut_some e).2⟩, fun b o e _ _ => rfl, fun b o e _ => ⟨o, (cut_some e).2⟩, (fun b xs e => nomatch e), (fun b o u e => nomatch e), (fun b ps e => nomatch e)⟩, ?_, fun y c h => (noc y c h).elim, rfl, fun y c h => (noc y c h).elim, fun p hp => ?_, (fun b o e => nomatch e), I1.len⟩, fun b o h => hI.up.there b o h, fun b hb => (hI.bs b hb).imp fun o q => q.1, fun p hp => nomatch hp⟩
      · show ∃ m, s2.heap.Ns (envOfC qual scope hc.objs.size f cdv).locals m ∧ ∀ (i : Nat) (x : Str) (v : V), N[i]? = some x → (start N vs)[i]? = some (some v) → Vis (envOfC qual scope hc.objs.size f cdv).scope x → ∃ u, RelV v u ∧ Look (envOfC qual scope hc.objs.size f cdv) s2.heap m x u
        rw [hsz] at noc ⊢
        obtain ⟨m, ⟨ob, es, ep, ho, hd, rr⟩, hv⟩ := I1.loc
        refine ⟨m, ⟨ob, es, ep, hI.young _ ob (hcn (Nat.le_refl _)) (nBz _ (Nat.le_of_lt up)) (Heap.get?_push_of_some _ ho) (fun v e => by rw [hd] at e; cases e), hd, rr⟩, fun i y v h1 h2 h3 => ?_⟩
        obtain ⟨u, ru, lk⟩ := hv i y v h1 h2 h3
        exact ⟨u, ru, lk.imp id fun ⟨_, c, hc, _⟩ => (noc y c hc).elim⟩
      · have yng : ∀ b, s1.heap.objs.size ≤ b → b ≠ s.heap.objs.size ∧ b ∉ frs outer := fun b hb => ⟨Nat.ne_of_gt (Nat.lt_of_lt_of_le up hb), fun hf => by
          obtain ⟨_, o, ho, _⟩ := e0.funs.mem hf
          exact Nat.lt_irrefl _ (Nat.lt_of_lt_of_le (Nat.lt_trans (Heap.lt_size ho) up) hb)⟩
        rcases List.mem_append.mp hp with hp | hp
        · rw [List.mem_singleton.mp hp]
          obtain ⟨q1, q2⟩ := yng _ (Nat.le_refl _)
          exact ⟨go2, rfl, (by show _ ≠ hc.objs.size; rw [hsz]; exact q1), q2, fun v q => by rw [c2] at q; cases q⟩
        · obtain ⟨hb, e⟩ := of_pinsAt (show p ∈ pinsAt B s2.heap from hp)
          obtain ⟨o, ho, hnc⟩ := hI.bs _ hb
          obtain ⟨q1, q2⟩ := yng p.1 (Nat.le_of_lt (big _ (hBx _ hb)))
          have eo : p.2 = o := Option.some.inj (e.symm.trans ho)
          exact ⟨e, rfl, (by show _ ≠ hc.objs.size; rw [hsz]; exact q1), q2, by rw [eo]; exact hnc⟩
    show Seg (model P w) Aw (RP outer hc B out) (YP base outer hc B out s1.heap.objs.size s1.gens.size) sizeLine s2 (.func body (envOfC qual scope s.heap.objs.size f cdv)) ((model P w).den (.func body (envOfC qual scope s.heap.objs.size f cdv))) [] s2
    rw [← hsz]
    refine seg_func ?_
    refine ht Aw _ sizeLine 0 s2 _ [] _ _ id id s2 (start N vs) noH _ [] ⟨over_func, rfl, rfl, rfl⟩ rfl (fun n i z0 s' fl hn hf => ?_) R0 hq
    match fl, hf with
    | .next, ⟨σ1, H1, hR, hi⟩ => exact seg_end (.ok (.ret .none)) (.inl ⟨.inl rfl, by rw [← hi]; exact hn, hR.after⟩)
    | .brk, ⟨_, _, _, q⟩ => exact q.elim
    | .cont, ⟨_, _, _, q⟩ => exact q.elim
    | .ret u, ⟨v, σ1, H1, hR, rv, ev, hi⟩ =>
      subst ev
      obtain rfl : u = Value.none := rv
      exact seg_end (.ok (.ret .none)) (.inl ⟨.inl rfl, by rw [← hi]; exact hn, hR.after⟩)
  exact main _ _ _ _ rfl rfl rfl fun h => Heap.get?_push_size _ rfl
end Zg

set_option Elab.async false
set_option linter.all false
set_option maxRecDepth 100000
set_option maxHeartbeats 1000000
/-! list(g) of a generator that anyone may wake -/
namespace Zg
open PySem PySem.Spec PyProof.Rows L2 GenW
/-- the protocol and the end may be weakened, with what holds at each waking -/
theorem seg_impG {M : Model} {A : Around} {R R' : GenEnd} {Y Y' : Protocol} (inv : Nat → Shared → Prop) (hR : ∀ n z r s, inv n z → R n z r s → R' n z r s)
    (hY : ∀ m z v s (kap kap' : Resume → Shared → Prop), inv m z → (∀ r s', (m = 0 → False) → inv (m - 1) s' → kap r s' → kap' r s') → (m = 0 → ∀ r s', kap r s' → False) → Y (m - 1) z v s kap → Y' (m - 1) z v s kap') :
    ∀ (n : Nat) {z : Shared} {c : Code} {t : Sem PySem.Fin} {fs : List Frame} {s : Shared}, inv n z → Seg M A R Y n z c t fs s → Seg M A R' Y' n z c t fs s := by
  intro n
  induction n with
  | zero =>
    intro z c t fs s hi h
    rw [seg_iff] at h ⊢
    intro Γ p hc hΓ
    obtain ⟨e, s', hr, he⟩ := h Γ p hc hΓ
    refine ⟨e, s', hr, ?_⟩
    cases e with
    | ret r => exact hR _ _ _ _ hi he
    | susp v g l k c' p' fs' =>
      obtain ⟨h1, h2⟩ := he
      exact ⟨h1, hY 0 _ _ _ _ _ hi (fun _ _ q _ _ => (q rfl).elim) (fun _ _ _ q => q) h2⟩
  | succ n ih =>
    intro z c t fs s hi h
    rw [seg_iff] at h ⊢
    intro Γ p hc hΓ
    obtain ⟨e, s', hr, he⟩ := h Γ p hc hΓ
    refine ⟨e, s', hr, ?_⟩
    cases e with
    | ret r => exact hR _ _ _ _ hi he
    | susp v g l k c' p' fs' =>
      obtain ⟨h1, h2⟩ := he
      exact ⟨h1, hY (n + 1) _ _ _ _ _ hi (fun _ _ _ i q => ih i q) (fun q => nomatch q) h2⟩
/-- the taker's things, for one that holds only what was there and a list -/
theorem idle_of {base : Heap} {outer : List Env} {hc : Heap} {B : List Addr} {s s' : Shared} (hos : s'.os = s.os) (hb : AllBare s'.gens) (hbs : ∀ b o, base.get? b = some o → (∃ u, hc.get? b = some u) ∧ s.heap.get? b = some o)
    (hB : ∀ b ∈ B, ∃ o, s'.heap.get? b = some o ∧ ∀ v, o.data ≠ .cell v) (hBy : ∀ b ∈ B, hc.get? b = none) (hk : ∀ b o, b ∉ B → s.heap.get? b = some o → s'.heap.get? b = some o)
    (ht : ∀ b o, hc.get? b = some o → ∃ sl, s.heap.get? b = some { o with slots := sl }) (hf : hc.FunFrames base outer) : Idle base outer hc B s s' := by
  have nB : ∀ {b : Addr} {u : Obj}, hc.get? b = some u → b ∉ B := fun {b u} h z => by
    rw [hBy b z] at h
    cases h
  refine ⟨hos, ⟨hb, fun b o e => ?_, fun b o e => ?_, Heap.FunFrames.of_keeps (fun b o e _ => ?_) hf⟩, fun b o _ n e _ => hk b o n e, hB⟩
  · obtain ⟨⟨u, hu⟩, h2⟩ := hbs b o e
    exact ⟨⟨u, hu⟩, hk b o (nB hu) h2⟩
  · obtain ⟨sl, h⟩ := ht b o e
    exact ⟨_, hk b _ (nB e) h⟩
  · obtain ⟨sl, h⟩ := ht b o e
    exact ⟨_, cut_of e (hk b _ (nB e) h), rfl⟩
/-- what holds of the caller's heap while the generator lives -/
structure Kept (outer : List Env) (sc s : Shared) : Prop where
  os : s.os = sc.os
  keep : ∀ b o, sc.heap.get? b = some o → b ∉ frs outer → s.heap.get? b = some o
  slot : ∀ b o, sc.heap.get? b = some o → b ∈ frs outer → ∃ sl, s.heap.get? b = some { o with slots := sl }
theorem Kept.any {outer : List Env} {sc s : Shared} (K : Kept outer sc s) {b : Addr} {o : Obj} (e : sc.heap.get? b = some o) : ∃ sl, s.heap.get? b = some { o with slots := sl } := by
  by_cases h : b ∈ frs outer
  · exact K.slot b o e h
  · exact ⟨o.slots, K.keep b o e h⟩
theorem Kept.after {outer : List Env} {sc z s : Shared} {B : List Addr} (K : Kept outer sc z) (A : After outer sc.heap B z s) : Kept outer sc s := by
  refine ⟨A.os.trans K.os, fun b o e n => A.keep b o o e (K.keep b o e n) n, fun b o e n => ?_⟩
  obtain ⟨sl, h⟩ := K.slot b o e n
  obtain ⟨sl2, h2⟩ := A.slot b o _ e h n
  exact ⟨sl2, h2⟩
theorem Kept.un {P : Program} {w : World} {outer : List Env} {H : Hp} {sc s : Shared} (K : Kept outer sc s) : Un (frs outer) [] H H sc.heap s.heap :=
  ⟨fun b o e _ n _ => K.keep b o e n, fun b o e _ n _ => K.slot b o e n, fun _ _ _ n _ => n, fun b o e _ => (let ⟨_, q⟩ := K.any e; ⟨_, q⟩), fun _ _ e => e, fun _ _ _ e => e, fun _ _ e => ⟨#[], by rw [Array.append_empty]; exact e⟩⟩
theorem Kept.hok {P : Program} {w : World} {outer : List Env} {H : Hp} {sc s : Shared} (K : Kept outer sc s) (hf : ∀ b ∈ frs outer, H b = none) (x : HOk P w H sc.heap) : HOk P w H s.heap := fun a o e =>
  (x a o e).stay (fun b u hb q => K.keep b u q fun hm => by
    have hn := hf b hm
    rcases hb with hb | hb
    · rw [hb, e] at hn; cases hn
    · rw [hb] at hn; cases hn) (fun _ q => q) fun _ _ q => q
theorem gmade_of {P : Program} {w : World} {K : PySem.W.Frag} {mg : Str → Option Value} {base : Heap} {k : Nat} {A : Around} {outer : List Env} {H : Hp} {sc : Shared} {out : List V} {u : Value} {s' : Shared} {Q : List V → Hp → Prop} {E : XK}
    (e0 : Env0 P w K mg base A outer sc H) (hm : MadeY P w base k outer sc out u s') (hz : out.length ≤ sizeLine) (hq : Q out H) : GMade P w k outer H sc [] Q E u s' := by
  obtain ⟨a, g, c, eu, ha1, ha2, hg, hgs, hos, hb, hl, hkp, wake⟩ := hm
  refine ⟨a, g, c, eu, ha1, ha2, hg, hgs, hos, hb, hl, hkp, fun A1 S s2 hr hfr hS hk2 ⟨c0, hS0⟩ hos2 hb2 => ?_⟩
  have zS : sc.heap.objs.size ≤ S := Nat.le_trans ha1 (Nat.le_of_lt (Nat.lt_of_lt_of_le ha2 hS))
  have hSn : sc.heap.get? S = none := none_of_size zS
  have bsS : ∀ {s1 : Shared}, Kept outer sc s1 → ∀ b o, base.get? b = some o → (∃ u, sc.heap.get? b = some u) ∧ s1.heap.get? b = some o := fun {s1} K1 b o e => by
    have h := (e0.bs b o e).1
    refine ⟨⟨o, h⟩, K1.keep b o h fun hm => by
      have := (e0.funs.mem hm).1
      rw [e] at this
      cases this⟩
  have K2 : Kept outer sc s2 := ⟨hos2, fun b o e _ => hk2 b o (hkp b o e), fun b o e _ => ⟨o.slots, hk2 b o (hkp b o e)⟩⟩
  have By : ∀ b ∈ [S], sc.heap.get? b = none := fun b hb => by rw [List.mem_singleton.mp hb]; exact hSn
  have i2 : Idle base outer sc.heap [S] s' s2 := idle_of (hos2.trans hos.symm) hb2 (fun b o e => ⟨⟨o, (e0.bs b o e).1⟩, hkp b o (e0.bs b o e).1⟩) (fun b hb => by rw [List.mem_singleton.mp hb]; exact ⟨_, hS0, fun v q => nomatch q⟩) By (fun b o _ e => hk2 b o e) (fun b o e => ⟨o.slots, hkp b o e⟩) e0.funs
  have seg := wake sc.heap A1 [S] s2 ⟨rfl, fun _ _ e => e, fun b o e => ⟨o, (e0.bs b o e).1⟩, fun b hb => let ⟨_, o, ho, _⟩ := e0.funs.mem hb; ⟨o, ho⟩⟩ hr hfr (fun b hb => by rw [List.mem_singleton.mp hb]; exact hS) i2
  refine seg_impG (fun m z => Kept outer sc z ∧ ∃ (i : Nat) (acc : Array Value) (c : Nat), m + i = sizeLine ∧ z.heap.get? S = some (lstObj acc c) ∧ Vals (out.take i) acc.toList ∧ acc.size = i) (fun n z r s ⟨hk, i, acc, c, hn, hs, hv, hi⟩ hr => ?_) (fun m z v s kap kap' ⟨hk, i, acc, c, hn, hs, hv, hi⟩ hkk h0 hy => ?_) sizeLine ⟨K2, 0, #[], c0, rfl, hS0, .nil, rfl⟩ seg
  · rcases hr with ⟨hr, hl, af⟩ | ⟨_, _, q⟩
    · have ei : i = out.length := by omega
      refine .inl ⟨hr, H, out, acc, c, (hk.after af).os, af.bare, (hk.after af).un (P := P) (w := w), (hk.after af).hok e0.frf e0.hok, e0.hok.fresh zS, af.own S (List.mem_singleton.mpr rfl) _ hs, ?_, hz, hq⟩
      rw [ei, List.take_length] at hv
      exact hv
    · exact q.elim
  · obtain ⟨i2, x, e1, hx, rv, af, nl, ig, wk⟩ := hy
    have hk1 := hk.after af
    have hS1 := af.own S (List.mem_singleton.mpr rfl) _ hs
    have gen : ∀ s3, Slept S v s s3 → Idle base outer sc.heap [S] s s3 := fun s3 z3 => by
      obtain ⟨c3, h3⟩ := z3.own acc c hS1
      exact idle_of z3.os z3.bare (bsS hk1) (fun b hb => by rw [List.mem_singleton.mp hb]; exact ⟨_, h3, fun v q => nomatch q⟩) By (fun b o n e => z3.keep b o (fun q => n (List.mem_singleton.mpr q)) e) (fun b o e => hk1.any e) e0.funs
    have m0 : m = 0 → False := fun h => h0 h _ _ (wk _ (gen _ (Slept.push hS1 af.bare)))
    have ei : i2 = i := by
      have : m ≠ 0 := m0
      omega
    subst ei
    refine ⟨hk1.os, af.bare, nl, ig, ⟨acc, c, hS1, by omega⟩, fun s3 z3 => hkk _ _ m0 ⟨?_, i2 + 1, acc.push v, ?_⟩ (wk s3 (gen s3 z3))⟩
    · refine ⟨z3.os.trans hk1.os, fun b o e n => z3.keep b o ?_ (hk1.keep b o e n), fun b o e n => ?_⟩
      · rintro rfl
        rw [hSn] at e; cases e
      · obtain ⟨sl, h⟩ := hk1.slot b o e n
        refine ⟨sl, z3.keep b _ ?_ h⟩
        rintro rfl
        rw [hSn] at e; cases e
    · obtain ⟨c3, h3⟩ := z3.own acc c hS1
      refine ⟨c3, by omega, h3, ?_, by rw [Array.size_push]; omega⟩
      rw [List.take_succ, hx, Array.toList_push]
      exact hv.append (.cons rv .nil)
theorem gfn_of_Y {P : Program} {w : World} {K : PySem.W.Frag} {mg : Str → Option Value} {base : Heap} {k : Nat} {f : Addr} {fd : FuncData} {ps : List Str} {sp : List V → List V → Prop} (G : GFnY P w K mg base k f fd ps sp) (hz : ∀ vs out, sp vs out → out.length ≤ sizeLine) :
    GFn P w K mg base k f fd ps (fun vs H Q _ => ∃ out, sp vs out ∧ Q out H) :=
  ⟨fun vs H Q E ⟨out, h, _⟩ => G.len vs out h, fun A outer s H args us vs Q E hr e0 hb hv ⟨out, h, hq⟩ => codeAny_mono (G.run A outer s H args us vs out hr e0 hb hv h) fun r s' hm => by
    match r, hm with
    | .ok (.ret u), hm => exact gmade_of e0 hm (hz _ _ h) hq⟩
end Zg

set_option Elab.async false
set_option linter.all false
set_option maxRecDepth 100000
set_option maxHeartbeats 1000000
/-! calls of such generator defs -/
namespace Zg
open PySem PySem.Spec PyProof.Rows L2 GenW
abbrev noX : XK := fun _ _ _ => False
section
variable {X : Cx} {k n : Nat} {f : Addr} {fd : FuncData} {ps ks : List Str} {sp : List V → List V → Prop} {dvs : List V} {ds : List Value} {x : Str} {p pos : Pos} {e : Expr} {es : List Expr} {kws : List Keyword} {t tk : TA} {g : List Value → List Value → List Value} {gV : List V → List V → List V}
structure PGenY (X : Cx) (k : Nat) (e : Expr) (tg : TGen) : Prop where
  run : ∀ (pins : List (Addr × Obj)) (s : Shared) (σ : L2.St) (H : Hp) (cont : List V → Hp → Prop), Inv X pins σ H s → tg σ H cont → wpAny (model X.prog X.w) X.A (eval e X.env)
    (fun u s' => ∃ H1 sc out, Inv X pins σ H1 sc ∧ MadeY X.prog X.w X.base k X.stack sc out u s' ∧ out.length ≤ sizeLine ∧ cont out H1) X.xe s
theorem run_gfnY {pins : List (Addr × Obj)} {σ : L2.St} {H : Hp} {s : Shared} {args : Args} {us : List Value} {vs out : List V} {cont : List V → Hp → Prop} {E1 : Value → Shared → Prop} (F : GFnY X.prog X.w X.K X.mg X.base k f fd ps sp) (hr : Room k X.A)
    (hb : BindsTo s fd args (ps.zip us)) (I : Inv X pins σ H s) (r : Vals vs us) (h : sp vs out) (hz : out.length ≤ sizeLine) (hq : cont out H) :
    codeAny (model X.prog X.w) X.A (.call (.ref f) args) (fun r s' => match r with | .ok (.ret u) => ∃ H1 sc out, Inv X pins σ H1 sc ∧ MadeY X.prog X.w X.base k X.stack sc out u s' ∧ out.length ≤ sizeLine ∧ cont out H1 | .ok _ => False | .error e => E1 e s') s :=
  codeAny_mono (F.run X.A X.stack s H args us vs out hr I.env0 hb r h) fun r s' hm => by
    match r, hm with
    | .ok (.ret u), hm => exact ⟨H, s, out, I, hm, hz, hq⟩
def tCallY (sp : List V → List V → Prop) (dvs : List V) (t : TA) : TGen := fun σ H cont => t σ H fun vs H1 => ∃ out, sp (vs ++ dvs) out ∧ out.length ≤ sizeLine ∧ cont out H1
def tCallYN (n m : Nat) (sp : List V → List V → Prop) (gV : List V → List V → List V) (t tk : TA) : TGen := fun σ H cont => t σ H fun vs H1 => tk σ H1 fun zs H2 => vs.length = n ∧ zs.length = m ∧ ∃ out, sp (gV vs zs) out ∧ out.length ≤ sizeLine ∧ cont out H2
theorem pgenY_call (F : GFnY X.prog X.w X.K X.mg X.base k f fd ps sp) (hr : Room k X.A) (hg : Gl X x) (hm : X.mg x = some (.ref f)) (hk : PySem.W.keepIn X.K (.ref f) = true) (hb : Binds X.K fd ps ds) (hd : Vals dvs ds)
    (ha : PA X (e :: es) t) (hdb : (x == ("__debug__" : Str)) = false := by decide) (he : starEach (e :: es) X.env = (false, eval e X.env) :: starEach es X.env := by rfl) (hpl : (backTo pos (starEach es X.env)).any (·.1) = false := by rfl) :
    PGenY X k (.Call (.Name x p) (e :: es) [] pos) (tCallY sp dvs t) := by
  refine ⟨fun pins s σ H cont I h => wpAny_Call_Name_kw (ld_glob I hg hm ?_ hdb)⟩
  refine PySem.W.callWith_K (h₀ := X.base) I.ok.mod.kin hk (thn (ha.run pos pins s σ H _ I h) fun us s1 ⟨vs, H1, I1, r, out, q, hz, hq⟩ => ⟨I1.kIn, ?_⟩) he hpl
  have r2 : Vals (vs ++ dvs) (us ++ ds) := r.append hd
  refine wpAny_call (codeAny_mono (run_gfnY (E1 := X.xe) F hr (hb s1 us I1.kIn (by rw [← r2.length]; exact F.len _ _ q)) I1 r2 q hz hq) fun r s' hq => ?_)
  match r, hq with
  | .ok (.ret u), hq => exact hq
  | .error e, hq => exact hq
theorem pgenY_callN (F : GFnY X.prog X.w X.K X.mg X.base k f fd ps sp) (hr : Room k X.A) (hg : Gl X x) (hm : X.mg x = some (.ref f)) (hk : PySem.W.keepIn X.K (.ref f) = true) (hb : KBn X.K fd ps n ks g gV)
    (ha : PA X (e :: es) t) (hkw : PK X kws tk) (hall : (backToKw pos (keywordEach kws X.env)).all (·.1.isSome) = true := by rfl) (hks : (backToKw pos (keywordEach kws X.env)).filterMap (·.1) = ks := by rfl)
    (hdb : (x == ("__debug__" : Str)) = false := by decide) (he : starEach (e :: es) X.env = (false, eval e X.env) :: starEach es X.env := by rfl)
    (hpl : ((backTo pos (starEach (e :: es) X.env)).any (·.1) || (backToKw pos (keywordEach kws X.env)).any (·.1.isNone)) = false := by rfl) :
    PGenY X k (.Call (.Name x p) (e :: es) kws pos) (tCallYN n ks.length sp gV t tk) := by
  refine ⟨fun pins s σ H cont I h => wpAny_Call_Name_kw (ld_glob I hg hm ?_ hdb)⟩
  refine PySem.W.callWith_KW (h₀ := X.base) I.ok.mod.kin hk hall (thn (ha.run pos pins s σ H _ I h) fun us s1 ⟨vs, H1, I1, r, q⟩ => ?_) hpl he
  refine thn (hkw.run pos pins s1 σ H1 _ I1 q) fun ws s2 ⟨zs, H2, I2, rz, l1, l2, out, q2, hz, hq⟩ => ⟨I2.kIn, ?_⟩
  rw [hks]
  refine wpAny_call (codeAny_mono (run_gfnY (E1 := X.xe) F hr (hb.to s2 us ws I2.kIn (r.length.symm.trans l1) (rz.length.symm.trans l2)) I2 (hb.rel r rz) q2 hz hq) fun r s' hq => ?_)
  match r, hq with
  | .ok (.ret u), hq => exact hq
  | .error e, hq => exact hq
theorem pgen_of_Y {tg : TGen} (h : PGenY X k e tg) : PGen X k e tg noX :=
  ⟨fun pins s σ H cont I hq => thn (h.run pins s σ H cont I hq) fun u s' ⟨H1, sc, out, I1, hm, hz, q⟩ => ⟨H1, sc, [], I1, .nil, gmade_of I1.env0 hm hz q⟩⟩
end
end Zg

set_option Elab.async false
set_option linter.all false
set_option maxRecDepth 100000
set_option maxHeartbeats 1000000
/-! for x in g(..): b.append(x); if len(b) == N: break -/
namespace Zg
open PySem PySem.Spec PyProof.Rows L2 GenW
theorem objOk_some {P : Program} {w : World} {H : Hp} {h : Heap} {a : Addr} {o : HO} (x : ObjOk P w H h a o) : ∃ u, h.get? a = some u := by
  cases o with
  | lst xs => obtain ⟨_, _, _, _, e⟩ := x; exact ⟨_, e⟩
  | tup xs => obtain ⟨_, _, _, ob, e, _⟩ := x; exact ⟨_, e⟩
  | dK kvs => obtain ⟨_, _, _, _, o, _, _, e, _⟩ := x; exact ⟨_, e⟩
  | dT kvs => obtain ⟨_, _, _, _, o, _, _, e, _⟩ := x; exact ⟨_, e⟩
  | set S n => obtain ⟨o, _, _, _, e, _⟩ := x; exact ⟨_, e⟩
  | ins C dx fs => obtain ⟨_, _, _, e, _⟩ := x; exact ⟨_, e⟩
  | own y => exact x
  | xd fs => obtain ⟨_, ⟨_, _, _, e, _⟩, _⟩ := x; exact ⟨_, e⟩
  | rng lo hi => obtain ⟨_, _, _, e⟩ := x; exact ⟨_, e⟩
  | frz ob u => obtain ⟨e, _⟩ := x; exact ⟨_, e⟩
  | tbl ps => exact ⟨_, show h.get? a = some _ from x⟩
  | met f y => exact ⟨_, show h.get? a = some _ from x⟩
  | ext φ => obtain ⟨_, e, _⟩ := x; exact e
section
variable {X : Cx} {pins : List (Addr × Obj)} {σ σ0 : L2.St} {H H1 : Hp} {sc z s : Shared}
theorem inv_local (I : Inv X pins σ H s) : ∃ o, s.heap.get? X.env.locals = some o := by
  obtain ⟨m, ⟨o, es, ep, ho, _⟩, _⟩ := I.loc
  exact ⟨o, ho⟩
/-- behind a run of the generator: what the taker held at the call and holds now stands -/
theorem inv_slept (Ic : Inv X pins σ0 H1 sc) (Iz : Inv X pins σ H z) (hd : ∀ b, H1 b = none → H b = none) (hex : X.ex = []) (A : After X.stack sc.heap [] z s) : Inv X pins σ H s := by
  have nex : ∀ b, b ∉ X.ex := fun b hb => by rw [hex] at hb; cases hb
  have neL : ∀ b o, X.s_0.heap.get? b = some o → b ≠ X.env.locals := fun b o e => Nat.ne_of_lt (Nat.lt_of_lt_of_le (Heap.lt_size e) Iz.ok.above)
  have keep : ∀ b u o, sc.heap.get? b = some u → b ≠ X.env.locals → b ∉ X.fs → z.heap.get? b = some o → s.heap.get? b = some o := fun b u o h n1 n2 e =>
    A.keep b u o h e fun hb => (List.mem_cons.mp (Iz.stkSub b hb)).elim n1 n2
  have any : ∀ b u o, sc.heap.get? b = some u → z.heap.get? b = some o → ∃ sl, s.heap.get? b = some { o with slots := sl } := fun b u o h e => by
    by_cases hb : b ∈ frs X.stack
    · exact A.slot b u o h e hb
    · exact ⟨o.slots, A.keep b u o h e hb⟩
  refine ⟨Iz.ok, A.os.trans Iz.os, A.bare, ⟨fun b o e n hb hx => ?_, fun b o e n hb hx => ?_, Iz.base.free, fun b o e hx => ?_, Iz.base.tups, Iz.base.frzs, Iz.base.tbls⟩, ?_, fun x c e => ?_, Iz.free, Iz.freeC, fun p hp => ?_, fun a o e => ?_, Iz.len⟩
  · exact keep b o o (Ic.base.keep b o e n hb hx) (neL b o e) hb (Iz.base.keep b o e n hb hx)
  · obtain ⟨sl0, e0⟩ := Ic.base.slot b o e n hb hx
    obtain ⟨sl1, e1⟩ := Iz.base.slot b o e n hb hx
    obtain ⟨sl2, e2⟩ := any b _ _ e0 e1
    exact ⟨sl2, e2⟩
  · obtain ⟨o0, e0⟩ := Ic.base.there b o e hx
    obtain ⟨o1, e1⟩ := Iz.base.there b o e hx
    obtain ⟨sl2, e2⟩ := any b _ _ e0 e1
    exact ⟨_, e2⟩
  · obtain ⟨oc, hoc⟩ := inv_local Ic
    obtain ⟨m, ⟨o, es, ep, ho, hn⟩, hl⟩ := Iz.loc
    obtain ⟨sl, e⟩ := any _ _ _ hoc ho
    refine ⟨m, ⟨_, es, ep, e, hn⟩, fun i x v e1 e2 e3 => ?_⟩
    obtain ⟨u, r, l⟩ := hl i x v e1 e2 e3
    refine ⟨u, r, l.imp id fun ⟨k, c, hc, ob, hob, hd⟩ => ⟨k, c, hc, ?_⟩⟩
    obtain ⟨_, oc, hoc, _⟩ := Ic.cell x c hc
    obtain ⟨sl, e⟩ := any _ _ _ hoc hob
    exact ⟨_, e, hd⟩
  · obtain ⟨v, ob, hob, hd⟩ := Iz.cell x c e
    obtain ⟨_, oc, hoc, _⟩ := Ic.cell x c e
    obtain ⟨sl, e⟩ := any _ _ _ hoc hob
    exact ⟨v, _, e, hd⟩
  · obtain ⟨e, n, ne, nf, d⟩ := Iz.pin p hp
    exact ⟨keep p.1 p.2 p.2 (Ic.pin p hp).1 ne nf e, n, ne, nf, d⟩
  · have fr : ∀ b, b ∈ frs X.stack → H b = none := Iz.stkFree
    refine (Iz.hok a o e).stay (fun b u hb q => ?_) (fun _ q => q) fun _ _ q => q
    have hHb : H b ≠ none := by
      rcases hb with hb | hb
      · rw [hb, e]; exact fun q => nomatch q
      · rw [hb]; exact fun q => nomatch q
    have h1b : H1 b ≠ none := fun q => hHb (hd b q)
    obtain ⟨o1, e1⟩ := Option.ne_none_iff_exists'.mp h1b
    obtain ⟨u1, h1⟩ := objOk_some (Ic.hok b o1 e1)
    exact A.keep b u1 u h1 q fun hm => hHb (fr b hm)
/-- a local name is stored -/
theorem inv_stored {i t' : Nat} {x : Str} {v : V} {u : Value} {h' : Heap} {m : Str → Option Value} (I : Inv X pins σ H s) (hN : X.N.Nodup) (hi : X.N[i]? = some x) (hk : X.env.kindOf x = some .local) (r : RelV v u)
    (hl : ∀ (j : Nat) (y : Str) (v : V), X.N[j]? = some y → σ[j]? = some (some v) → Vis X.env.scope y → ∃ u, RelV v u ∧ Look X.env s.heap m y u)
    (hn' : h'.Ns X.env.locals (fun y => if y = x then some u else m y)) (hs : Heap.SameBut X.env.locals s.heap h') : Inv X pins (σ.set i (some v)) H { s with heap := h', toks := t' } := by
  have inσ : i < σ.length := I.len ▸ (List.getElem?_eq_some_iff.mp hi).1
  have offL : ∀ b o, X.s_0.heap.get? b = some o → b ≠ X.env.locals := fun b o q z => Nat.lt_irrefl _ (Nat.lt_of_lt_of_le (Heap.lt_size (z ▸ q)) I.ok.above)
  refine ⟨I.ok, I.os, I.bare, ⟨fun b o e n hb hx => (hs.2 b (offL b o e)).trans (I.base.keep b o e n hb hx), fun b o e n hb hx => ?_, I.base.free, fun b o e hx => ?_, I.base.tups, I.base.frzs, I.base.tbls⟩, ⟨_, hn', fun j y v' e1 e2 e3 => ?_⟩, fun y c e => ?_, I.free, I.freeC, fun p hp => ?_, fun a o e => ?_, by rw [List.length_set]; exact I.len⟩
  · exact (I.base.slot b o e n hb hx).imp fun _ q => (hs.2 b (offL b o e)).trans q
  · obtain ⟨o1, e1⟩ := I.base.there b o e hx
    exact ⟨o1, (hs.2 b (offL b o e)).trans e1⟩
  · by_cases hj : i = j
    · subst hj
      rw [hi] at e1
      cases e1
      rw [List.getElem?_set_self inσ] at e2
      cases e2
      exact ⟨u, r, .inl ⟨hk, if_pos rfl⟩⟩
    · rw [List.getElem?_set_ne hj] at e2
      obtain ⟨u', r', l⟩ := hl j y v' e1 e2 e3
      have hy : y ≠ x := fun q => hj (nodup_ix hN hi (q ▸ e1))
      refine ⟨u', r', ?_⟩
      rcases l with ⟨k, q⟩ | ⟨k, c, e, q⟩
      · exact .inl ⟨k, (if_neg hy).trans q⟩
      · exact .inr ⟨k, c, e, q.sameBut hs (I.cne y c e)⟩
  · obtain ⟨w', q⟩ := I.cell y c e
    exact ⟨w', q.sameBut hs (I.cne y c e)⟩
  · have q := I.pin p hp
    exact ⟨(hs.2 p.1 q.2.2.1).trans q.1, q.2⟩
  · refine (I.hok a o e).stay (fun b u hb q => (hs.2 b ?_).trans q) (fun _ q => q) fun _ _ q => q
    rintro rfl
    rcases hb with hb | hb
    · rw [← hb, I.free] at e; cases e
    · rw [I.free] at hb; cases hb
theorem ld_var {E : Value → Shared → Prop} {i : Nat} {x : Str} {pos : Pos} {v : V} {Q : Value → Shared → Prop} (I : Inv X pins σ H s) (hN : X.N[i]? = some x) (e : σ[i]? = some (some v)) (hv : Vis X.env.scope x) (h : ∀ u, RelV v u → Q u s)
    (hd : (x == ("__debug__" : Str)) = false := by decide) (hcd : (x == ("__classdict__" : Str)) = false := by decide) : wpAny (model X.prog X.w) X.A (eval (.Name x pos) X.env) Q E s := by
  obtain ⟨m, hn, hl⟩ := I.loc
  match hl i x v hN e hv with
  | ⟨u, r, .inl ⟨k, q⟩⟩ => exact wpAny_Name (wpAny_loadName_local I.ok.kind k hn q (h u r)) hd
  | ⟨u, r, .inr ⟨.inl k, c, hc, q⟩⟩ => exact wpAny_Name (wpAny_loadName_cell I.ok.kind k hc q (h u r)) hd
  | ⟨u, r, .inr ⟨.inr k, c, hc, q⟩⟩ => exact wpAny_Name (wpAny_loadName_free I.ok.kind k hc q (h u r) hcd) hd
end
end Zg

set_option Elab.async false
set_option linter.all false
set_option maxRecDepth 100000
set_option maxHeartbeats 1000000
/-! for x in g(..): b.append(x); if len(b) == N: break -/
namespace Zg
open PySem PySem.Spec PyProof.Rows L2 GenW
theorem funFrames_cut {hc h base : Heap} : ∀ {l : List Env}, (∀ b ∈ frs l, ∃ u, hc.get? b = some u) → h.FunFrames base l → (cutH hc h).FunFrames base l
  | [], _, _ => trivial
  | env :: rest, hf, hl => by
    obtain ⟨hk, ⟨L, o, f, hn, ho, hd⟩, hr⟩ := hl
    have hL : L ∈ frs (env :: rest) := by
      unfold frs
      rw [List.filterMap_cons, f]
      exact List.mem_cons_self ..
    obtain ⟨u, hu⟩ := hf L hL
    refine ⟨hk, ⟨L, o, f, hn, cut_of hu ho, hd⟩, funFrames_cut (fun b hb => hf b ?_) hr⟩
    unfold frs at hb ⊢
    rw [List.filterMap_cons, f]
    exact List.mem_cons_of_mem _ hb
theorem upd_self {H : Hp} {p : Addr} {o : HO} (e : H p = some o) : upd H p o = H := by
  funext b
  by_cases hb : b = p
  · subst hb; rw [upd_same, e]
  · rw [upd_ne hb]
section
variable {X : Cx} {pins : List (Addr × Obj)}
theorem inv_gens {σ : L2.St} {H : Hp} {s : Shared} {g : Nat} {x : GenState} (I : Inv X pins σ H s) (hx : x.bare = true) : Inv X pins σ H (s.setGen g x) :=
  I.call' (s' := s.setGen g x) (ch := []) rfl (Un.kept fun _ _ e => e) I.hok (allBare_setGen I.bare hx) fun b z => nomatch z
theorem X_hd {σ : L2.St} {H : Hp} {s : Shared} (I : Inv X pins σ H s) (hc : X.calm = true) : X.A.handled = none := I.ok.hd hc
/-- at the head of a turn -/
def Turn (X : Cx) (pins : List (Addr × Obj)) (σ : L2.St) (H1 : Hp) (sc : Shared) (p : Addr) (ix N : Nat) (out : List V) (a : Addr) (g : Nat) (n : Nat) (s : Shared) : Prop :=
  ∃ (i : Nat) (σ' : L2.St), i < N ∧ i ≤ out.length ∧ n + i = sizeLine ∧ (σ'.length = σ.length ∧ ∀ j, j ≠ ix → σ'[j]? = σ[j]?) ∧ Inv X pins σ' (upd H1 p (.lst (out.take i))) s ∧ s.heap.IsGen a g ∧
    (∃ gs, s.gens[g]? = some gs ∧ gs.Goes (model X.prog X.w) X.A.in1 (RP X.stack sc.heap [] out) (YP X.base X.stack sc.heap [] out a g) n (.send .none) (s.setGen g .running)) ∧ ∀ b u, sc.heap.get? b = some u → ∃ o, s.heap.get? b = some o
def tForTake (ib ix N : Nat) (tg : TGen) : TS := fun D σ H => tg σ H fun out H1 => ∃ p, σ[ib]? = some (some (.ref p)) ∧ H1 p = some (.lst []) ∧ 0 < N ∧ N ≤ 1000 ∧
  ∀ σ' : L2.St, σ'.length = σ.length → (∀ j, j ≠ ix → σ'[j]? = σ[j]?) → D.nx σ' (upd H1 p (.lst (out.take N)))
theorem ps_forTake {k : Nat} {iter : Expr} {tg : TGen} {x b ln : Str} {ix ib N : Nat} {jj : Nat} {p0 p1 p2 p3 p4 p5 p6 p7 p8 p9 p10 p11 p12 p13 : Pos} (h0 : PGenY X k iter tg) (hr : Room (k + 3) X.A) (hc : X.calm = true) (hex : X.ex = []) (hN : X.N.Nodup)
    (hx : X.N[ix]? = some x) (hk : X.env.kindOf x = some .local) (hb : X.N[ib]? = some b) (hvb : Vis X.env.scope b) (hxb : ib ≠ ix) (hvx : Vis X.env.scope x)
    (hg : Gl X ln) (hmg : X.mg ln = none) (hv : bootBuiltins ln = some (.builtin "len"))
    (hs : ∀ y, foldedSetIterable iter X.env y = pure y := by intro _; rfl)
    (hbase : attributeBase (.Name b p1) "append" X.env (eval (.Name b p1) X.env) = eval (.Name b p1) X.env := by rfl)
    (hfew : ((backTo p4 (starEach [.Name x p3] X.env)).all (fun x => !x.1) && (backToKw p4 (keywordEach [] X.env)).all (fun x => x.1.isSome) && decide ([Expr.Name x p3].length + ([] : List Keyword).length + (if ([] : List Keyword).isEmpty then 0 else 1) < 30)) = true := by rfl)
    (hline : (p2.endLine == p4.line) = true := by rfl) (hsw : swapsWith (.Call (.Attribute (.Name b p1) "append" p2) [.Name x p3] [] p4) none p5.line X.env = pure false := by rfl)
    (he1 : starEach [.Name x p3] X.env = (false, eval (.Name x p3) X.env) :: starEach [] X.env := by rfl) (he2 : starEach [.Name b p7] X.env = (false, eval (.Name b p7) X.env) :: starEach [] X.env := by rfl)
    (hd1 : (x == ("__debug__" : Str)) = false := by decide) (hd2 : (b == ("__debug__" : Str)) = false := by decide) (hd3 : (ln == ("__debug__" : Str)) = false := by decide) (hn : ln ≠ "__name__" := by decide)
    (hd4 : (x == ("__classdict__" : Str)) = false := by decide) (hd5 : (b == ("__classdict__" : Str)) = false := by decide) :
    PS X (.For (.Name x p0) iter [.Expr (.Call (.Attribute (.Name b p1) "append" p2) [.Name x p3] [] p4) p5, .If (.Compare (.Call (.Name ln p6) [.Name b p7] [] p8) [.Eq] [.Constant (.int N) jj p9] p10) [.Break p11] [] p12] [] p13) (tForTake ib ix N tg) := by
  refine ⟨fun pins s σ H D I h => ?_⟩
  refine wpAny_For (thn (h0.run pins s σ H _ I h) fun u s' ⟨H1, sc, out, I1, ⟨a, g, c, eu, ha1, ha2, hg0, hgs, hos, hba, hli, hkp, wake⟩, hz, p, e1, e2, hn0, hn1, fin⟩ => ?_) hs
  subst eu
  refine wpAny_pyIter_gen hg0 ?_
  have Is : Inv X pins σ H1 s' := I1.call' (ch := []) hos (Un.kept hkp) (I1.hok.kept hkp) hba (fun b z => nomatch z)
  have fz : ∀ b ∈ frs X.stack, ∃ u, sc.heap.get? b = some u := fun b hb => let ⟨_, o, ho, _⟩ := I1.stack.mem hb; ⟨o, ho⟩
  have oldp : ∃ u, sc.heap.get? p = some u := objOk_some (I1.hok p _ e2)
  have oldL : ∃ u, sc.heap.get? X.env.locals = some u := inv_local I1
  have dom : ∀ (ys : List V) b, H1 b = none → upd H1 p (.lst ys) b = none := fun ys b e => by rw [upd_ne (ne_of_none e2 e |>.symm)]; exact e
  refine codeAny_forLoop_any (Turn X pins σ H1 sc p ix N out a g) ?_ sizeLine ⟨0, σ, hn0, Nat.zero_le _, rfl, ⟨rfl, fun _ _ => rfl⟩, ?_, hg0, ⟨.fresh c, hgs, rfl, ?_⟩, fun b u e => ⟨u, hkp b u e⟩⟩
  · rintro n s4 ⟨i, σ4, hiN, hio, hni, ⟨hl4, hj4⟩, I4, hg4, ⟨gs, t4, t5⟩, th4⟩
    have big : 1000 < sizeLine := by decide
    obtain ⟨n, rfl⟩ : ∃ m, n = m + 1 := ⟨n - 1, by omega⟩
    have hgl : g < s4.gens.size := (Array.getElem?_eq_some_iff.mp t4).1
    have t5' : gs.Goes (model X.prog X.w) X.A.in1 (fun n z0 r s1 => ((r = .ok (.ret .none) ∨ r = .ok .next) ∧ (n + out.length = sizeLine ∧ After X.stack sc.heap [] z0 s1)) ∨ ∃ e, r = .error e ∧ False) (YP X.base X.stack sc.heap [] out a g) (n + 1) (.send .none) (s4.setGen g .running) := t5
    refine wpAny_gsz (n := g + 1) hgl (next_genG (A := X.A) (X_hd I1 hc) I4.nolimit (by have := hr.dp; omega) hg4 t4 t5' (fun v s5 gs' hbare hv => ?_) (fun s5 hp h' hkh => ?_) fun e s5 he => he.elim)
    · intro hsz
      obtain ⟨i2, y, q1, q2, q3, q4, q5, q6, q7⟩ := hv
      have ei : i2 = i := by omega
      subst ei
      have hlt : i2 < out.length := (List.getElem?_eq_some_iff.mp q2).1
      have I5 := inv_gens (g := g) (x := gs') (inv_slept I1 (inv_gens (g := g) (x := .running) I4 rfl) (dom _) hex q4) hbare
      have lg : g < s5.gens.size := by
        have q : (s5.setGen g gs').gens.size = s5.gens.size := setGen_size _ _ _
        have hsz' : g + 1 ≤ (s5.setGen g gs').gens.size := hsz
        omega
      have th5 : ∀ b u, sc.heap.get? b = some u → ∃ o, s5.heap.get? b = some o := fun b u e => by
        obtain ⟨o, ho⟩ := th4 b u e
        by_cases hb : b ∈ frs X.stack
        · obtain ⟨sl, e2⟩ := q4.slot b u o e ho hb
          exact ⟨_, e2⟩
        · exact ⟨o, q4.keep b u o e ho hb⟩
      obtain ⟨go, nm, qn, eg5, c1, c2, c3⟩ := id q6
      refine go_of (o := go) (n := "generator") eg5 c1 c2 (by decide) ?_
      obtain ⟨m6, n6, l6⟩ := I5.loc
      refine wpAny_assign_Name (wpAny_storeName_local hk n6 (fun h7 n7 sb7 => ?_) (by rw [I1.ok.kind]; rfl))
      have I7 := inv_stored (t' := s5.toks + 1) I5 hN hx hk q3 l6 n7 sb7
      have hix : ix < σ4.length := by rw [I4.len]; exact (List.getElem?_eq_some_iff.mp hx).1
      have e7b : (σ4.set ix (some y))[ib]? = some (some (.ref p)) := by
        rw [List.getElem?_set_ne (Ne.symm hxb), hj4 ib hxb]
        exact e1
      have e7x : (σ4.set ix (some y))[ix]? = some (some y) := List.getElem?_set_self hix
      refine wpAny_execs_cons (wpAny_Expr_any (wpAny_Call_method_late hbase hfew hline rfl (ld_var I7 hb e7b hvb (fun u ru => ?_) hd2 hd5)) I7.quiet hsw)
      cases ru
      have hH7 : upd H1 p (.lst (out.take i2)) p = some (.lst (out.take i2)) := upd_same
      obtain ⟨z7, its, n7', rv7, ho7⟩ := I7.hok p _ hH7
      refine ⟨"list", "list.append", PySem.F.plainAttrs_list, PySem.F.slot_list_append, PySem.F.type_list_append, ⟨_, ho7, rfl⟩, fun b eb => by cases eb; exact ⟨_, ho7, rfl⟩, ?_⟩
      rw [he1]
      refine Calls.callWith_builtin rfl (Calls.evalArgs_plain (Calls.spliced_cons (ld_var I7 hx e7x hvx (fun u ru => Calls.spliced_nil ?_) hd1 hd4)))
      refine append_at ho7 (fun h8 sb8 e8 => ?_) (by rw [List.size_toArray, ← rv7.length]; exact z7)
      have hlen : its.length = i2 := by
        rw [← rv7.length, List.length_take]
        omega
      have hx8 : ∃ ux, RelV y ux ∧ h8.get? p = some { cls := .type "list", data := .seq (its.toArray.push ux) (n7' + 1) } := ⟨u, ru, e8⟩
      have hts : out.take i2 ++ [y] = out.take (i2 + 1) := by
        rw [List.take_succ, q2]
        rfl
      have I8 : Inv X pins (σ4.set ix (some y)) (upd H1 p (.lst (out.take (i2 + 1)))) { s5.setGen g gs' with heap := h8, toks := s5.toks + 1 } := by
        have J := I7.write (x := p) (e := p) (o := .lst (out.take (i2 + 1))) (h' := h8) (t' := s5.toks + 1) (by rw [hH7]; exact True.intro) (.inl rfl) (fun b o nb q => (sb8.2 b nb).trans q) ⟨_, e8⟩ ⟨by rw [List.length_take]; omega, its ++ [u], n7' + 1, by rw [← hts]; exact rv7.append (.cons ru .nil), by rw [e8, List.push_toArray]⟩
        rw [upd_upd] at J
        exact J
      have e8b : (σ4.set ix (some y))[ib]? = some (some (.ref p)) := e7b
      show wpAny _ _ (execs [_] _) _ _ _
      refine wpAny_execs_cons (wpAny_If (wpAny_isTrue_Compare1 (wpAny_Call_Name_kw (ld_blt I8 hg hmg hv ?_ hn hd3)) (nobehind _ (by decide) (by decide))))
      refine callWith_builtin1 ?_ he2 rfl
      rw [he2]
      refine Calls.spliced_cons (ld_var I8 hb e8b hvb (fun u ru => Calls.spliced_nil ?_) hd2 hd5)
      cases ru
      have hl8 : (its.toArray.push u).size = i2 + 1 := by rw [Array.size_push, List.size_toArray, hlen]
      refine Calls.call_len_list (items := its.toArray.push u) ⟨_, e8, rfl, _, rfl⟩ (by rw [hl8]; omega) ?_
      refine wpAny_Constant_int (eq_int (wpAny_truthy_bool ?_))
      have I9 : Inv X pins (σ4.set ix (some y)) (upd H1 p (.lst (out.take (i2 + 1)))) ({ s5.setGen g gs' with heap := h8, toks := s5.toks + 1 + 1 + 1 + 1 } : Shared) := I8.tok _
      have hl9 : (σ4.set ix (some y)).length = σ.length := by rw [List.length_set]; exact hl4
      have hj9 : ∀ j, j ≠ ix → (σ4.set ix (some y))[j]? = σ[j]? := fun j hj => by rw [List.getElem?_set_ne (Ne.symm hj)]; exact hj4 j hj
      rw [hl8]
      by_cases hq : i2 + 1 = N
      · subst hq
        rw [show ((((i2 + 1 : Nat) : Int) == ((i2 + 1 : Nat) : Int)) = true) from beq_self_eq_true _]
        rw [if_pos rfl]
        refine wpAny_execs_cons (wpAny_Break ?_)
        exact ⟨_, _, I9, fin _ hl9 hj9⟩
      · rw [show ((((i2 + 1 : Nat) : Int) == ((N : Nat) : Int)) = false) from beq_eq_false_iff_ne.mpr (by omega)]
        rw [if_neg Bool.false_ne_true]
        refine wpAny_execs_nil (wpAny_execs_nil ?_)
        have kp : ∀ b o, b ≠ X.env.locals → b ≠ p → s5.heap.get? b = some o → h8.get? b = some o := fun b o n1 n2 q => (sb8.2 b n2).trans ((sb7.2 b n1).trans q)
        have gp : ∀ o, go = o → a ≠ X.env.locals ∧ a ≠ p := fun _ _ => by
          obtain ⟨uL, hL⟩ := oldL
          obtain ⟨up, hp⟩ := oldp
          exact ⟨fun q => Nat.lt_irrefl _ (Nat.lt_of_lt_of_le (Heap.lt_size hL) (q ▸ ha1)), fun q => Nat.lt_irrefl _ (Nat.lt_of_lt_of_le (Heap.lt_size hp) (q ▸ ha1))⟩
        have old9 : ∀ b u, sc.heap.get? b = some u → ∃ o, h8.get? b = some o := fun b u e => by
          by_cases n1 : b = X.env.locals
          · subst n1
            exact inv_local I9
          · by_cases n2 : b = p
            · subst n2
              exact ⟨_, e8⟩
            · obtain ⟨o, ho⟩ := th5 b u e
              exact ⟨o, kp b o n1 n2 ho⟩
        have idle : Idle X.base X.stack sc.heap [] s5 (({ s5.setGen g gs' with heap := h8, toks := s5.toks + 1 + 1 + 1 + 1 } : Shared).setGen g .running) := by
          refine ⟨rfl, ⟨allBare_setGen I9.bare rfl, fun b o e => ⟨⟨o, (I1.bs b o e).1⟩, (I9.bs b o e).1⟩, old9, funFrames_cut fz I9.stack⟩, fun b o n _ e _ => kp b o ?_ ?_ e, fun b hb => nomatch hb⟩
          · rintro rfl
            obtain ⟨uL, hL⟩ := oldL
            rw [n] at hL; cases hL
          · rintro rfl
            obtain ⟨up, hp⟩ := oldp
            rw [n] at hp; cases hp
        obtain ⟨g1, g2⟩ := gp go rfl
        exact ⟨n, Nat.lt_succ_self n, i2 + 1, _, by omega, hlt, by omega, ⟨hl9, hj9⟩, I9, ⟨go, nm, qn, kp a go g1 g2 eg5, c1, c2, c3⟩, ⟨gs', setGen_at lg, q7 _ idle⟩, old9⟩
    · intro hsz
      obtain ⟨q1, q2⟩ := hp
      have ei : i = out.length := by omega
      have I5 := inv_gens (g := g) (x := .finished) (inv_slept I1 (inv_gens (g := g) (x := .running) I4 rfl) (dom _) hex q2) rfl
      refine wpAny_execs_nil ⟨σ4, _, I5.kept (t' := _) hkh, ?_⟩
      have := fin σ4 hl4 hj4
      rw [List.take_of_length_le (by omega)] at this ⊢
      exact this
  · rw [List.take_zero, upd_self e2]; exact Is
  · refine wake sc.heap X.A.in1 [] _ ⟨rfl, fun _ _ e => e, fun b o e => ⟨o, (I1.bs b o e).1⟩, fz⟩ ⟨hr.hd, ?_, ?_⟩ I1.ok.frames (fun b hb => nomatch hb) (idle_of rfl (allBare_setGen hba rfl) (fun b o e => ⟨⟨o, (I1.bs b o e).1⟩, hkp b o (I1.bs b o e).1⟩) (fun b hb => nomatch hb) (fun b hb => nomatch hb) (fun b o _ e => e) (fun b o e => ⟨o.slots, hkp b o e⟩) I1.stack)
    · have := hr.dp
      show X.A.depth + 3 * k + 5 < _
      omega
    · have := hr.un
      show X.A.units + 1 + 16 * k + 200 < _
      omega
end
end Zg

set_option Elab.async false
set_option linter.all false
set_option maxRecDepth 100000
set_option maxHeartbeats 1000000
/-! such generator defs, on data -/
namespace Zg
open PySem PySem.Spec PyProof.Rows L2 GenW Z
abbrev ghN : Gh := fun _ => none
/-- it stands while the generator sleeps -/
def SafeC (c : Cell) : Prop := ∀ (K : PySem.W.Frag) (H : Hp) (v : V), c.rp K ghN H v → c.rp K ghN (lsO H) v
theorem safe_int {i : Int} : SafeC ⟨i⟩ := fun _ _ _ h => h
theorem safe_tx {x : Tx} : SafeC ⟨x⟩ := fun _ _ _ h => h
theorem safe_fl {xs : List Tx} : SafeC ⟨(⟨xs⟩ : FL Tx)⟩ := fun K H v ⟨p, vs, e, n, h, q⟩ => ⟨p, vs, e, n, lsO_lst h, q⟩
def SafeE (ρ : Z.Env) : Prop := ∀ (i : Nat) (c : Cell), ρ[i]? = some (some c) → SafeC c
theorem SafeE.nil : SafeE [] := fun i c e => nomatch e
theorem SafeE.cons {c : Cell} {ρ : Z.Env} (h : SafeC c) (r : SafeE ρ) : SafeE (some c :: ρ) := fun i d e => by
  cases i with
  | zero => cases e; exact h
  | succ i => exact r i d e
theorem SafeE.skip {ρ : Z.Env} (r : SafeE ρ) : SafeE (none :: ρ) := fun i d e => by
  cases i with
  | zero => cases e
  | succ i => exact r i d e
def FOk (K : PySem.W.Frag) (F : List (V × Cell)) (H : Hp) : Prop := ∀ f ∈ F, SafeC f.2 ∧ f.2.rp K ghN H f.1
def WpY (K : PySem.W.Frag) (F : List (V × Cell)) (ρ : Z.Env) (t : TY) (D : GE) (i : Nat) : Prop := ∀ σ H, EnvOk K ghN σ H ρ → FOk K F H → t D i σ H
/-- how things stand ahead of a turn, i items out -/
def AtY (K : PySem.W.Frag) (F : List (V × Cell)) (Iv : Z.Env → Prop) (i : Nat) : Nat → L2.St → Hp → Prop := fun i' σ H => i' = i ∧ ∃ ρ, Iv ρ ∧ EnvOk K ghN σ H ρ ∧ FOk K F H
section
variable {K : PySem.W.Frag} {F : List (V × Cell)} {ρ : Z.Env} {D : GE} {i : Nat} {t : TS} {u tb : TY} {te tl : TE}
theorem hold0 (H : Hp) : Hold ghN H := fun a I e => nomatch e
theorem wpy_pl0 (h : Wp K ghN noH [] [] ρ (tSeq t fun _ σ H => u D i σ H) (D.at i)) : WpY K [] ρ (tYThen (tYPl t) u) D i := fun σ H e f =>
  h σ H ⟨ghN, (fun _ q => nomatch q), hold0 H, e, fun x hx => (f x hx).2, ⟨fun a o _ q => (nomatch q), hold0 H⟩, fun _ _ q => q, fun x n m => absurd n m⟩
theorem wpy_rest {Γ : Own} {D' : Ends} (h : WpY K [] ρ u D i) : Wp K ghN noH Γ [] ρ (fun _ σ H => u D i σ H) D' := fun σ H ⟨Δ, _, _, e, _, _⟩ => h σ H (e.weak fun _ _ _ _ => rfl) fun f hf => nomatch hf
theorem wpy_yield {x : Tx} {out : List V} (h : Ev K [] te ρ (Is x)) (hx : out[i]? = some (Flat.val x)) (hz : i < sizeLine) (hs : SafeE ρ) (k : ∀ σ H, EnvOk K ghN σ H ρ → FOk K F H → D.nx (i + 1) σ H) : WpY K F ρ (tYld out te) D i := fun σ H e f =>
  ⟨hz, h ghN σ H _ (fun _ q => nomatch q) (hold0 H) e fun v H1 a pa e1 r => by
    have ea : a = x := pa
    subst ea
    have ev : v = Flat.val a := Flat.iff.mp r
    subst ev
    refine ⟨hx, k σ (lsO H1) ⟨e.1, fun j c q => ?_⟩ fun g hg => ⟨(f g hg).1, (f g hg).1 K H1 _ (g.2.r.mono e1.1 (f g hg).2)⟩⟩
    obtain ⟨v, e2, r2⟩ := e.2 j c q
    exact ⟨v, e2, hs j c q K H1 v (c.r.mono e1.1 r2)⟩⟩
theorem wpy_one {v : TY} (h : WpY K F ρ u D i) (hv : ∀ (D : GE) i σ H, v D i σ H = D.nx i σ H) : WpY K F ρ (tYThen u v) D i := fun σ H e f => by
  show u { D with nx := fun i' σ' H' => v D i' σ' H' } i σ H
  rw [show (fun i' σ' H' => v D i' σ' H') = D.nx from by funext i' σ' H'; exact hv D i' σ' H']
  exact h σ H e f
/-- for x in xs -/
theorem wpy_for {xs : List Tx} {j : Nat} (Iv : Z.Env → Prop) (f : Nat → Nat) (h : Ev K [] tl ρ (Is (⟨xs⟩ : FL Tx))) (h0 : Iv ρ) (hi : i = f 0) (hj : ∀ ρ', Iv ρ' → j < ρ'.length)
    (hs : ∀ t ρ' F', t < xs.length → Iv ρ' → WpY K F' (ρ'.set j (some ⟨xs.getD t ⟨[]⟩⟩)) tb { nx := AtY K F' Iv (f (t + 1)), ct := AtY K F' Iv (f (t + 1)), bk := D.nx, rt := D.rt } (f t))
    (hd : ∀ ρ' σ H, Iv ρ' → EnvOk K ghN σ H ρ' → FOk K F H → D.nx (f xs.length) σ H) : WpY K F ρ (tYFor (iList K tl) (gName j) tb) D i := fun σ H e fo => by
  subst hi
  refine h ghN σ H _ (fun _ q => nomatch q) (hold0 H) e fun v H1 a pa e1 r => ?_
  have ea : a = ⟨xs⟩ := pa
  subst ea
  obtain ⟨p, vs, rfl, n, hp, q⟩ := id r
  refine ⟨p, rfl, ⟨vs, .inl (.inl hp)⟩, ?_⟩
  have F1 : FOk K ((.ref p, ⟨(⟨xs⟩ : FL Tx)⟩) :: F) H1 := fun g hg => by
    rcases List.mem_cons.mp hg with hg | hg
    · subst hg
      exact ⟨safe_fl, r⟩
    · exact ⟨(fo g hg).1, g.2.r.mono e1.1 (fo g hg).2⟩
  refine ⟨fun t m i' σ' H' => m = xs.length - t ∧ t ≤ xs.length ∧ AtY K ((.ref p, ⟨(⟨xs⟩ : FL Tx)⟩) :: F) Iv (f t) i' σ' H', ⟨xs.length, rfl, Nat.zero_le _, rfl, ρ, h0, e.mono e1.1, F1⟩, ?_⟩
  rintro t m i' σ2 H2 ⟨rfl, ht, rfl, ρ2, iv, e2, f2⟩
  obtain ⟨p', ws, ep, n', hp', q'⟩ := (f2 _ List.mem_cons_self).2
  cases ep
  have hl : ws.length = xs.length := q'.len
  have sq : SqL K H2 p ws := .inl (.inl hp')
  by_cases hlt : t < xs.length
  · refine .inr ⟨⟨ws, ws[t]'(by omega), sq, List.getElem?_eq_getElem (by omega)⟩, AtY K ((.ref p, ⟨(⟨xs⟩ : FL Tx)⟩) :: F) Iv (f (t + 1)), fun i3 σ3 H3 h3 => ⟨xs.length - (t + 1), by omega, rfl, hlt, h3⟩, fun x H3 hy => ?_⟩
    obtain ⟨e3, hy⟩ := (show H3 = H2 ∧ ∀ zs, SqL K H2 p zs → zs[t]? = some x from hy)
    subst e3
    have hgx : xs[t]? = some (xs.getD t ⟨[]⟩) := by rw [List.getD_eq_getElem?_getD, List.getElem?_eq_getElem hlt]; rfl
    obtain ⟨w, hw, rw'⟩ := q'.get hgx
    have ew : x = w := Option.some.inj ((hy _ sq).symm.trans hw)
    subst ew
    exact hs t ρ2 _ hlt iv _ _ (e2.set (c := ⟨xs.getD t ⟨[]⟩⟩) (hj _ iv) rw') f2
  · have et : t = xs.length := by omega
    subst et
    exact .inl ⟨⟨ws, sq, by omega⟩, hd ρ2 σ2 H2 iv e2 fun g hg => f2 g (List.mem_cons_of_mem _ hg)⟩
end
section
variable {P : Program} {w : World} {K : PySem.W.Frag} {mg : Str → Option Value} {base : Heap}
theorem def_okY {x qual : Str} {args : Arguments} {body : List Stmt} {scope : Scope} {dvs : List V} {kws : List (Str × V)} {f : Addr} {fd : FuncData} {N ps : List Str} {k : Nat} {sp : List V → List V → Prop}
    (Fn : FunD K x qual args body scope dvs kws f fd) (S : GScope N ps scope) (hloc : ∀ y ∈ scope.names, y.2 ≠ .cell ∧ y.2 ≠ .free) (len : ∀ vs out, sp vs out → vs.length = ps.length)
    (hb : ∀ (cdv : Value) (A : Around) (outer : List PySem.Env) (hc : Heap) (pn : List (Addr × Obj)) (B : List Addr) (a : Addr) (g : Nat) (vs out : List V), (Fm.mk P w K mg base N qual scope f cdv A outer hc pn B out).Ok → (∀ h : Heap, (∀ p ∈ pn, h.get? p.1 = some p.2) → h.IsGen a g) → Room k (A.deeper (envOfC qual scope hc.objs.size f cdv)) → sp vs out →
      ∃ t cs, BY (Fm.mk P w K mg base N qual scope f cdv A outer hc pn B out) a g body t ∧ ArgsOk K ghN noH vs cs ∧ WpY K [] (env0 N cs) t { nx := fun i _ _ => i = out.length, rt := fun i _ => i = out.length } 0) :
    GFnY P w K mg base (k + 1) f fd ps sp := by
  obtain ⟨oc, od, dV, kV, doc, pm, an, cdv, ct, osl, rfl, lk, hcd, _, _⟩ := Fn.ex
  refine gfnY_of lk hcd S hloc len fun A outer hc pn B a g vs out O hg hr h => ?_
  obtain ⟨t, cs, ht, ha, hw⟩ := hb cdv A outer hc pn B a g vs out O hg hr h
  exact ⟨t, ht, hw _ _ (start_ok ha) fun f hf => nomatch hf⟩
end
end Zg

set_option Elab.async false
set_option linter.all false
set_option maxRecDepth 100000
set_option maxHeartbeats 1000000
/-! list(g(..)), for x in g(..) with break, on data -/
namespace Zg
open PySem PySem.Spec PyProof.Rows L2 GenW Z
/-- it gives a generator that will hand out xs -/
def SrcG (K : PySem.W.Frag) (Γ : Own) (tg : TGen) (ρ : Z.Env) (xs : List Tx) : Prop := ∀ (Δ : Gh) (σ : L2.St) (H : Hp) (cont : List V → Hp → Prop), Sat Γ Δ → Hold Δ H → EnvOk K Δ σ H ρ → (∀ H', Ext Δ H H' → cont (xs.map Flat.val) H') → tg σ H cont
section
variable {K : PySem.W.Frag} {Δ0 : Gh} {H0 : Hp} {Γ : Own} {F : List (V × Cell)} {ρ : Z.Env} {t tk : TA} {tg : TGen} {tz : TS} {D : Ends} {xs : List Tx} {cs ds : List Cell} {sp : List V → List V → Prop}
theorem srcg_call {dvs : List V} (h : EvA K Γ t ρ (Is cs)) (hz : xs.length ≤ sizeLine) (hv : ∀ Δ H vs, ArgsOk K Δ H vs cs → sp (vs ++ dvs) (xs.map Flat.val)) : SrcG K Γ (tCallY sp dvs t) ρ xs := fun Δ σ H cont s hh e k =>
  h Δ σ H _ s hh e fun vs H1 cs' pcs e1 r => by
    have ec : cs' = cs := pcs
    subst ec
    exact ⟨_, hv _ _ _ r, by rw [List.length_map]; exact hz, k H1 e1⟩
theorem srcg_callN {n m : Nat} {gV : List V → List V → List V} (h : EvA K Γ t ρ (Is cs)) (hk : EvA K Γ tk ρ (Is ds)) (hz : xs.length ≤ sizeLine) (hn : cs.length = n) (hm : ds.length = m) (hv : ∀ Δ H vs H' zs, ArgsOk K Δ H vs cs → ArgsOk K Δ H' zs ds → sp (gV vs zs) (xs.map Flat.val)) :
    SrcG K Γ (tCallYN n m sp gV t tk) ρ xs := fun Δ σ H cont s hh e k =>
  h Δ σ H _ s hh e fun vs H1 cs' pcs e1 r => by
    have ec : cs' = cs := pcs
    subst ec
    refine hk Δ σ H1 _ s e1.2 (e.mono e1.1) fun zs H2 ds' pds e2 r2 => ?_
    have ed : ds' = ds := pds
    subst ed
    exact ⟨(All2.len r).trans hn, (All2.len r2).trans hm, _, hv _ _ _ _ _ r r2, by rw [List.length_map]; exact hz, k H2 (e1.trans e2)⟩
theorem ev_listY (h : SrcG K Γ tg ρ xs) : Ev K Γ (tListG tg) ρ (Is (⟨xs⟩ : FL Tx)) := fun Δ σ H Q s hh e k =>
  h Δ σ H _ s hh e fun H1 e1 p hp => k _ _ _ rfl (e1.trans (Ext.new e1.2 hp _)) (new_FL e1.2 hp (all2_flat xs))
theorem wp_forTake {p : Addr} {ib ix N : Nat} (o : OwnP Δ0 Γ p) (hib : ρ[ib]? = some (some ⟨(⟨p⟩ : Z.Loc)⟩)) (hix : ρ[ix]? = some none) (h : SrcG K (OwnL p ([] : List Tx) :: Γ) tg ρ xs) (h1 : 0 < N) (h2 : N ≤ 1000)
    (k : Wp K Δ0 H0 (OwnL p (xs.take N) :: Γ) F ρ tz D) : Wp K Δ0 H0 (OwnL p ([] : List Tx) :: Γ) F ρ (tSeq (tForTake ib ix N tg) tz) D := fun σ H ⟨Δ, s, hh, e, f, e0, s1, s2⟩ => by
  refine h Δ σ H _ s hh e fun H1 e1 => ?_
  obtain ⟨v, ev, rv⟩ := e.2 ib _ hib
  obtain rfl : v = V.ref p := rv
  obtain ⟨u, hu, iu⟩ := e1.2 p _ (s _ List.mem_cons_self)
  have iu' : u = HO.lst _ := iu
  subst iu'
  refine ⟨p, ev, hu, h1, h2, fun σ' hl hj => ?_⟩
  have st : Stt K Δ0 H0 (OwnL p ([] : List Tx) :: Γ) F ρ σ' H1 := ⟨Δ, s, e1.2, ⟨hl.trans e.1, fun i c q => by
    have hi : i ≠ ix := by
      rintro rfl
      rw [hix] at q
      cases q
    obtain ⟨w, q1, q2⟩ := e.2 i c q
    exact ⟨w, (hj i hi).trans q1, c.r.mono e1.1 q2⟩⟩, fun q hq => q.2.r.mono e1.1 (f q hq), ext0 e0 s1 s2 e1, s1, s2⟩
  obtain ⟨hp, st'⟩ := own_putO (o2 := .lst ((xs.take N).map Flat.val)) o st
  have e5 : (xs.map Flat.val).take N = (xs.take N).map Flat.val := List.map_take.symm
  rw [e5]
  exact k σ' _ st'
end
end Zg

set_option Elab.async false
set_option linter.all false
set_option maxRecDepth 100000
namespace K00
open PySem PySem.Spec PyProof.Rows L2 Z
/-! ### the mathematics -/
/-- sign i of a row -/
def sg (x : Tx) (i : Nat) : Nat := x.s.getD i 0
/-- the row of n signs -/
def mk (n : Nat) (f : Nat → Nat) : Tx := ⟨(List.range n).map f⟩
/-- the places below n with p -/
def ix (n : Nat) (p : Nat → Bool) : List Int := ((List.range n).filter p).map fun i => ((i : Nat) : Int)
theorem sg_at {x : Tx} {i : Nat} (h : i < x.s.length) : x.s[i]? = some (sg x i) := by
  rw [sg, List.getD_eq_getElem?_getD, List.getElem?_eq_getElem h]
  rfl
theorem mk_len {n : Nat} {f : Nat → Nat} : (mk n f).s.length = n := by simp [mk]
theorem mk_sg {n : Nat} {f : Nat → Nat} {i : Nat} (h : i < n) : sg (mk n f) i = f i := by
  simp [sg, mk, List.getD_eq_getElem?_getD, h]
theorem mk_self (x : Tx) : mk x.s.length (sg x) = x := by
  cases x with
  | mk s =>
    unfold mk
    congr 1
    apply List.ext_getElem?
    intro i
    by_cases h : i < s.length
    · simp [h, sg]
    · rw [List.getElem?_eq_none (by simp; omega), List.getElem?_eq_none (by omega)]
theorem mk_congr {n : Nat} {f g : Nat → Nat} (h : ∀ i, i < n → f i = g i) : mk n f = mk n g := by
  unfold mk
  congr 1
  exact List.map_congr_left fun i hi => h i (List.mem_range.mp hi)
theorem ix_congr {n : Nat} {p q : Nat → Bool} (h : ∀ i, i < n → p i = q i) : ix n p = ix n q := by
  unfold ix
  congr 1
  exact List.filter_congr fun i hi => h i (List.mem_range.mp hi)
theorem map_sw (x : Tx) : (⟨x.s.map sw⟩ : Tx) = mk x.s.length fun i => sw (sg x i) := by
  conv => lhs; rw [← mk_self x]
  unfold mk
  rw [List.map_map]
  rfl
theorem flat_mk {n : Nat} {f : Nat → Nat} : (⟨(((List.range n).map fun i => (⟨[f i]⟩ : Tx)).map (·.s)).flatten⟩ : Tx) = mk n f := by
  unfold mk
  congr 1
  induction n with
  | zero => rfl
  | succ n ih => rw [List.range_succ, List.map_append, List.map_append, List.flatten_append, ih, List.map_append]; rfl
theorem flat_len {n : Nat} {f : Nat → Nat} : (((List.range n).map fun i => (⟨[f i]⟩ : Tx)).map (·.s)).flatten.length = n := by
  have h := congrArg (fun t : Tx => t.s.length) (flat_mk (n := n) (f := f))
  simp only [mk_len] at h
  exact h
/-- a row of at most nine signs -/
structure Row (x : Tx) : Prop where
  all : x.s.all isSign = true
  len : x.s.length ≤ 9
theorem Row.sg {x : Tx} (h : Row x) {i : Nat} (hi : i < x.s.length) : isSign (sg x i) = true := List.all_eq_true.mp h.all _ (by
  rw [K00.sg, List.getD_eq_getElem?_getD, List.getElem?_eq_getElem hi]
  exact List.getElem_mem hi)
theorem row_mk {n : Nat} {f : Nat → Nat} (hn : n ≤ 9) (h : ∀ i, i < n → isSign (f i) = true) : Row (mk n f) := ⟨List.all_eq_true.mpr fun c hc => by
  unfold K00.mk at hc
  obtain ⟨i, hi, rfl⟩ := List.mem_map.mp hc
  exact h i (List.mem_range.mp hi), by rw [mk_len]; exact hn⟩
/-- ascending, from l on, below n -/
def ascF (n : Int) : Int → List Int → Bool
  | _, [] => true
  | l, t :: r => (decide (l ≤ t) && decide (t ≤ n - 1)) && ascF n (t + 1) r
theorem ascF_all {n : Int} : ∀ {l : Int} {ts : List Int}, ascF n l ts = true → ∀ t ∈ ts, l ≤ t ∧ t < n
  | _, [], _, t, ht => by cases ht
  | l, t0 :: r, h, t, ht => by
    simp only [ascF, Bool.and_eq_true, decide_eq_true_eq] at h
    rcases List.mem_cons.mp ht with rfl | ht
    · omega
    · have := ascF_all h.2 t ht
      omega
/-- what is asked of the next thing -/
def nextL (l : Int) : List Int → Int
  | [] => l
  | t :: r => nextL (t + 1) r
theorem nextL_snoc (l : Int) : ∀ (ts : List Int) (t : Int), nextL l (ts ++ [t]) = t + 1
  | [], t => rfl
  | a :: r, t => nextL_snoc (a + 1) r t
theorem ascF_snoc (n : Int) : ∀ (l : Int) (ts : List Int) (t : Int), ascF n l (ts ++ [t]) = (ascF n l ts && (decide (nextL l ts ≤ t) && decide (t ≤ n - 1)))
  | l, [], t => by
    show ((decide (l ≤ t) && decide (t ≤ n - 1)) && true) = (true && (decide (l ≤ t) && decide (t ≤ n - 1)))
    rw [Bool.and_true, Bool.true_and]
  | l, a :: r, t => by
    show (_ && ascF n (a + 1) (r ++ [t])) = _
    rw [ascF_snoc n (a + 1) r t, ← Bool.and_assoc]
    rfl
theorem ascF_app {n l : Int} {ts us : List Int} (h : ascF n l ts = false) : ascF n l (ts ++ us) = false := by
  induction ts generalizing l with
  | nil => cases h
  | cons a r ih =>
    show (_ && ascF n (a + 1) (r ++ us)) = false
    have h' : (_ && ascF n (a + 1) r) = false := h
    cases hx : (decide (l ≤ a) && decide (a ≤ n - 1)) with
    | false => rfl
    | true =>
      rw [hx] at h'
      rw [ih h']
      rfl
/-- the code of a row's first i signs -/
def bitAt (i c : Nat) : Nat := if c = 43 then 2 ^ i else if c = 45 then 2 ^ (i + 9) else 0
def codeUp (x : Tx) : Nat → Nat
  | 0 => 0
  | i + 1 => codeUp x i ||| bitAt i (sg x i)
def codeT (x : Tx) : Nat := codeUp x x.s.length
def tcode (c : Nat) : Nat := c / 2 ^ 9 ||| (c &&& 511) * 2 ^ 9
/-- apart at a sign, agreeing there -/
def ap (c d : Nat) : Bool := (!decide (c = 48)) && ((!decide (d = 48)) && !decide (c = d))
def upr (x y : Tx) : Bool := decide (decide (codeT x &&& codeT y = 0) = decide (codeT x &&& tcode (codeT y) = 0))

end K00

set_option Elab.async false
set_option linter.all false
set_option maxRecDepth 100000
set_option maxHeartbeats 1000000
namespace K31
open PySem PySem.Spec PyProof.Rows L2 Z
def top (i : Nat) : Stmt := PySem.Challenge.pw_sidesigns_k31_paintings_listed.main.body.getD i (.Pass ⟨0, 0, 0, 0⟩)
structure Txt (K : PySem.W.Frag) (mg : Str → Option Value) : Prop where
  z_abs : mg "abs" = none
  z_all : mg "all" = none
  z_bool : mg "bool" = none
  z_int : mg "int" = none
  z_isinstance : mg "isinstance" = none
  z_len : mg "len" = none
  z_list : mg "list" = none
  z_max : mg "max" = none
  z_min : mg "min" = none
  z_range : mg "range" = none
  z_sorted : mg "sorted" = none
  z_str : mg "str" = none
  i_MAX_THINGS : ∃ t, mg "MAX_THINGS" = some (.int 9 t)
/-- a def without defaults -/
structure Df (K : PySem.W.Frag) (mg : Str → Option Value) (x : Str) (st : Stmt) (ps : List Str) (f : Addr) (fd : FuncData) : Prop where
  F : FunD K x x (defArgs st) (defBody st) (defScope st) [] [] f fd
  g : mg x = some (.ref f)
  b : Binds K fd ps []
theorem Df.kp {K : PySem.W.Frag} {mg : Str → Option Value} {x : Str} {st : Stmt} {ps : List Str} {f : Addr} {fd : FuncData} (D : Df K mg x st ps f fd) : PySem.W.keepIn K (.ref f) = true := D.F.kp
abbrev acosS : Str := "acos"
/-- a def with a default of a keyword -/
structure DfK (K : PySem.W.Frag) (mg : Str → Option Value) (x : Str) (st : Stmt) (ps : List Str) (f : Addr) (fd : FuncData) (ds : List Value) : Prop where
  F : FunD K x x (defArgs st) (defBody st) (defScope st) [] [("letters", V.str acosS)] f fd
  g : mg x = some (.ref f)
  b1 : Binds K fd ps ds
  v1 : Vals [V.str acosS] ds
  bk : KBn K fd ps 1 ["letters"] (fun us ws => us ++ ws) (fun vs zs => vs ++ zs)
theorem DfK.kp {K : PySem.W.Frag} {mg : Str → Option Value} {x : Str} {st : Stmt} {ps : List Str} {f : Addr} {fd : FuncData} {ds : List Value} (D : DfK K mg x st ps f fd ds) : PySem.W.keepIn K (.ref f) = true := D.F.kp
abbrev s_InvalidNumber___init__ : Stmt := inClass (top 3) 0
abbrev s_is_integer : Stmt := top 5
abbrev s_is_between : Stmt := top 6
abbrev s_check_many : Stmt := top 9
abbrev s_paintings : Stmt := top 11
abbrev s__words : Stmt := top 12
abbrev s__parts : Stmt := top 13
abbrev s__law_dice : Stmt := top 15
abbrev s__law_roll : Stmt := top 16
abbrev s__law_some : Stmt := top 17
abbrev s__law_every_painting : Stmt := top 18
abbrev s__law_power : Stmt := top 19
abbrev s__law_right : Stmt := top 20
abbrev s_law : Stmt := top 21
section
variable {P : Program} {w : World} {K : PySem.W.Frag} {mg : Str → Option Value} {base : Heap}
abbrev Pm (β : Type) := Own → List Cell → (β → Prop) → Prop
def F_is_integer : Pm Bool := fun _ cs R => ∃ i : Int, cs = [⟨i⟩] ∧ R = Is true
theorem sc_is_integer : FnScope ["value"] ["value"] (defScope s_is_integer) := ⟨rfl, rfl, rfl, by decide +kernel, rfl, by decide +kernel, by decide +kernel⟩
theorem ok_is_integer (T : Txt K mg) {f : Addr} {fd : FuncData} (D : Df K mg "is_integer" s_is_integer ["value"] f fd) : FnOk P w K mg base CX0 2 f fd ["value"] (spD K F_is_integer) := by
  obtain ⟨_, hI_MAX_THINGS⟩ := T.i_MAX_THINGS
  refine def_ok D.F sc_is_integer (fun Γ cs R g => ?len) (fun cdv A outer s H E hr Γ cs R g => ?_)
  case len => obtain ⟨i, rfl, _⟩ := g; rfl
  obtain ⟨i, rfl, rfl⟩ := g
  refine ⟨_, (pss_one (ps_ret (pe_and (pe_callB call_isK (by rfl) T.z_isinstance (by decide +kernel) (pa_cons (pv 0) (pa_cons (pe_bltn (v := .ty "int") (u := .type "int") (by rfl) T.z_int (by decide +kernel) rfl) pa_nil))) (pe_one (pe_not (pe_callB call_isK (by rfl) T.z_isinstance (by decide +kernel) (pa_cons (pv 0) (pa_cons (pe_bltn (v := .ty "bool") (u := .type "bool") (by rfl) T.z_bool (by decide +kernel) rfl) pa_nil)))))))), fun Δ0 D' hf hn => wp_ret hf ?_⟩
  exact ev_is (ev_andV (ev_isi ev_var ty_int (kit_ty (r := true) (by decide +kernel))) fun _ => ev_notV (ev_isi ev_var ty_int (kit_ty (r := false) (by decide +kernel)))) rfl
def F_is_between : Pm Bool := fun _ cs R => ∃ v l m : Int, cs = [⟨v⟩, ⟨l⟩, ⟨m⟩] ∧ R = Is (decide (l ≤ v) && decide (v ≤ m))
theorem sc_is_between : FnScope ["value", "least", "most"] ["value", "least", "most"] (defScope s_is_between) := ⟨rfl, rfl, rfl, by decide +kernel, rfl, by decide +kernel, by decide +kernel⟩
theorem ok_is_between (T : Txt K mg) {f : Addr} {fd : FuncData} (D : Df K mg "is_between" s_is_between ["value", "least", "most"] f fd) {f_is_integer : Addr} {fd_is_integer : FuncData} (D_is_integer : Df K mg "is_integer" s_is_integer ["value"] f_is_integer fd_is_integer) (G_is_integer : FnOk P w K mg base CX0 2 f_is_integer fd_is_integer ["value"] (spD K F_is_integer)) : FnOk P w K mg base CX0 3 f fd ["value", "least", "most"] (spD K F_is_between) := by
  obtain ⟨_, hI_MAX_THINGS⟩ := T.i_MAX_THINGS
  refine def_ok D.F sc_is_between (fun Γ cs R g => ?len) (fun cdv A outer s H E hr Γ cs R g => ?_)
  case len => obtain ⟨v, l, m, rfl, _⟩ := g; rfl
  obtain ⟨v, l, m, rfl, rfl⟩ := g
  refine ⟨_, (pss_one (ps_ret (pe_and (pe_call G_is_integer (hr.mono (by decide)) (by rfl) D_is_integer.g D_is_integer.kp D_is_integer.b .nil pass0 (pa_cons (pv 0) pa_nil)) (pe_one (pe_chain op_le op_le (pv 1) (pv 0) (pv 2)))))), fun Δ0 D' hf hn => wp_ret hf ?_⟩
  exact ev_is (ev_andV (ev_call1 (ea_1 ev_var ea_nil) ⟨v, rfl, rfl⟩) fun _ => ev_chain ev_var ev_var ev_var o2_B0 o2_B0) rfl
def F_check_many : Pm Unit := fun _ cs R => ∃ n : Nat, cs = [⟨(n : Int)⟩] ∧ n ≤ 9 ∧ R = Is ()
theorem sc_check_many : FnScope ["many"] ["many"] (defScope s_check_many) := ⟨rfl, rfl, rfl, by decide +kernel, rfl, by decide +kernel, by decide +kernel⟩
theorem ok_check_many (T : Txt K mg) {f : Addr} {fd : FuncData} (D : Df K mg "check_many" s_check_many ["many"] f fd) {f_is_between : Addr} {fd_is_between : FuncData} (D_is_between : Df K mg "is_between" s_is_between ["value", "least", "most"] f_is_between fd_is_between) (G_is_between : FnOk P w K mg base CX0 3 f_is_between fd_is_between ["value", "least", "most"] (spD K F_is_between)) : FnOk P w K mg base CX0 4 f fd ["many"] (spD K F_check_many) := by
  obtain ⟨_, hI_MAX_THINGS⟩ := T.i_MAX_THINGS
  refine def_ok D.F sc_check_many (fun Γ cs R g => ?len) (fun cdv A outer s H E hr Γ cs R g => ?_)
  case len => obtain ⟨n, rfl, _⟩ := g; rfl
  obtain ⟨n, rfl, hn9, rfl⟩ := g
  refine ⟨_, (pss_one (ps_if (pt_not (pt_val (pe_call G_is_between (hr.mono (by decide)) (by rfl) D_is_between.g D_is_between.kp D_is_between.b .nil pass0 (pa_cons (pv 0) (pa_cons pe_int (pa_cons (pe_glob (v := .int 9) rfl hI_MAX_THINGS ⟨_, rfl⟩) pa_nil)))))) (pss_one ps_never) pss_nil)), fun Δ0 D' hf hn => ?_⟩
  refine wp_noL ?_ (et_not (et_B (ev_call1 (ea_1 ev_var (ea_1 ev_int (ea_1 ev_int ea_nil))) ⟨_, _, _, rfl, rfl⟩))) (wp_none rfl hn)
  rw [decide_eq_true (by omega), decide_eq_true (by omega)]
  rfl
/-- the binding of its arguments -/
theorem dfk_of {f : Addr} {fd : FuncData} (F : FunD K "paintings" "paintings" (defArgs s_paintings) (defBody s_paintings) (defScope s_paintings) [] [("letters", V.str acosS)] f fd) (g : mg "paintings" = some (.ref f)) : ∃ ds, DfK K mg "paintings" s_paintings ["many", "letters"] f fd ds := by
  obtain ⟨ds, hv, hb⟩ := FunD.binds0 (ps := ["many", "letters"]) F 1 (fun z => by cases z) rfl fun D doc pm an cdv ct us ks h1 h2 => match us, h1, ks, h2 with
    | [_], _, [_], _ => ⟨_, _, _, _, _, _, rfl, rfl, rfl⟩
  obtain ⟨mv, hk⟩ := FunD.kbinds0 (ps := ["many", "letters"]) F 1 ["letters"] [] (fun us _ ws => us ++ ws) (fun z => by cases z) (fun q hq => nomatch hq) (fun r1 _ r3 => r1.append r3) fun D doc pm an cdv ct us mv ws h1 h2 h3 => match us, h1, mv, h2, ws, h3 with
    | [_], _, [], _, [_], _ => rfl
  exact ⟨ds, F, g, hb, hv, hk⟩
end
end K31

set_option Elab.async false
set_option linter.all false
set_option maxRecDepth 100000
set_option maxHeartbeats 1000000
namespace K31
open PySem PySem.Spec PyProof.Rows L2 Z K00
section
variable {P : Program} {w : World} {K : PySem.W.Frag} {mg : Str → Option Value} {base : Heap}
theorem fmod_nn {x t : Int} (hx : 0 ≤ x) (ht : 0 < t) : 0 ≤ x.fmod t ∧ x.fmod t < t := by
  rw [Int.fmod_eq_emod_of_nonneg x (Int.le_of_lt ht)]
  exact ⟨Int.emod_nonneg x (by omega), Int.emod_lt_of_pos x ht⟩
theorem fdiv_nn {x t : Int} (hx : 0 ≤ x) (ht : 0 < t) : 0 ≤ x.fdiv t := by
  rw [Int.fdiv_eq_ediv_of_nonneg x (Int.le_of_lt ht)]
  exact Int.ediv_nonneg hx (Int.le_of_lt ht)
def F__law_roll : Pm Int := fun Γ cs R => ∃ (p : Addr) (t : Int), cs = [⟨(⟨p⟩ : Z.Loc)⟩, ⟨t⟩] ∧ (p, DiceI) ∈ Γ ∧ 1 ≤ t ∧ t ≤ 1000000 ∧ R = fun r => 0 ≤ r ∧ r < t
theorem sc__law_roll : FnScope ["_law_dice_here", "_law_total", "_law_found", "_law_one", "_law_two"] ["_law_dice_here", "_law_total"] (defScope s__law_roll) := ⟨rfl, rfl, rfl, by decide +kernel, rfl, by decide +kernel, by decide +kernel⟩
theorem ok__law_roll (T : Txt K mg) {f : Addr} {fd : FuncData} (D : Df K mg "_law_roll" s__law_roll ["_law_dice_here", "_law_total"] f fd) : FnOk P w K mg base CX0 2 f fd ["_law_dice_here", "_law_total"] (spD K F__law_roll) := by
  obtain ⟨_, hI_MAX_THINGS⟩ := T.i_MAX_THINGS
  refine def_ok D.F sc__law_roll (fun Γ cs R g => ?len) (fun cdv A outer s H E hr Γ cs R g => ?_)
  case len => obtain ⟨x, n, rfl, _⟩ := g; rfl
  obtain ⟨p, t, rfl, hp, h1, h2, rfl⟩ := g
  refine ⟨_, (pss_cons (ps_if (pt_cmpR op_gt (pe_ix ix_listK (pv 0) pe_int (fun _ _ => rfl)) pe_int (nomark _)) (pss_cons (ps_set (i := 2) sc__law_roll.nd rfl (by first | exact .inl rfl | exact .inr rfl) (pe_op op_modN (pe_callTy call_int1 (by rfl) T.z_int (by decide +kernel) (pa_cons (pe_ix ix_listK (pv 0) pe_int (fun _ _ => rfl)) pa_nil)) (pv 1)))
        (pss_cons (ps_asg (pe_op op_fdivN (pe_ix ix_listK (pv 0) pe_int (fun _ _ => rfl)) (pv 1)) (pg_sub (pv 0) pe_int set_list))
        (pss_one (ps_ret (pv 2))))) pss_nil)
      (pss_cons (ps_asg (pe_op op_add (pe_ix ix_listK (pv 0) pe_int (fun _ _ => rfl)) pe_int) (pg_sub (pv 0) pe_int set_list))
      (pss_cons (ps_set (i := 3) sc__law_roll.nd rfl (by first | exact .inl rfl | exact .inr rfl) (pe_op op_modN (pe_callTy call_int1 (by rfl) T.z_int (by decide +kernel) (pa_cons (pe_op op_add (pe_ix ix_listK (pv 0) pe_int (fun _ _ => rfl)) (pe_op op_mul pe_int (pe_ix ix_listK (pv 0) pe_int (fun _ _ => rfl)))) pa_nil)) pe_int))
      (pss_cons (ps_set (i := 4) sc__law_roll.nd rfl (by first | exact .inl rfl | exact .inr rfl) (pe_op op_add (pe_op op_mul (pe_op op_modN (pe_callTy call_int1 (by rfl) T.z_int (by decide +kernel) (pa_cons (pe_op op_add (pe_op op_mul (pv 3) (pv 3)) (pe_op op_mul pe_int (pe_ix ix_listK (pv 0) pe_int (fun _ _ => rfl)))) pa_nil)) pe_int) pe_int) (pv 3)))
      (pss_one (ps_ret (pe_op op_modN (pe_callTy call_int1 (by rfl) T.z_int (by decide +kernel) (pa_cons (pe_op op_fdivN (pv 4) pe_int) pa_nil)) (pv 1)))))))), fun Δ0 D' hf hn => ?_⟩
  have d0 : ∀ {ρ : Z.Env}, ρ[0]? = some (some ⟨(⟨p⟩ : Z.Loc)⟩) → Ev K Γ (tOp (rIxL K) (tVar 0) (tC (.int 0))) ρ (fun n : Int => 0 ≤ n) := fun h => ev_dice (i := 0) hp (by decide) (ev_var h)
  have d1 : ∀ {ρ : Z.Env}, ρ[0]? = some (some ⟨(⟨p⟩ : Z.Loc)⟩) → Ev K Γ (tOp (rIxL K) (tVar 0) (tC (.int 1))) ρ (fun n : Int => 0 ≤ n) := fun h => ev_dice (i := 1) hp (by decide) (ev_var h)
  have d2 : ∀ {ρ : Z.Env}, ρ[0]? = some (some ⟨(⟨p⟩ : Z.Loc)⟩) → Ev K Γ (tOp (rIxL K) (tVar 0) (tC (.int 2))) ρ (fun n : Int => 0 ≤ n) := fun h => ev_dice (i := 2) hp (by decide) (ev_var h)
  have md : ∀ {ρ : Z.Env} {ta tb : TE} {m : Int}, 0 < m → Ev K Γ ta ρ (fun n : Int => 0 ≤ n) → Ev K Γ tb ρ (Is m) → Ev K Γ (tOp (rI (fun _ j => j ≠ 0) fun i j => .int (i.fmod j)) ta tb) ρ (fun n : Int => 0 ≤ n ∧ n < m) := fun hm ha hb =>
    ev_opP ha hb fun x y hx hy => ⟨x.fmod y, o2_I (g := Int.fmod) (by rw [show y = _ from hy]; omega), by rw [show y = _ from hy]; exact fmod_nn hx hm⟩
  have it : ∀ {ρ : Z.Env} {ta : TE}, Ev K Γ ta ρ (fun n : Int => 0 ≤ n) → Ev K Γ (tCB (fun xs H Q => (∃ i, xs = [.int i] ∧ Q (.int i) H) ∨ ∃ k, xs = [.bl k] ∧ Q (.int (if k then 1 else 0)) H) (tCons ta tNil)) ρ (fun n : Int => 0 ≤ n) := fun h => ev_cbP h fun x hx => ⟨x, o1_int, hx⟩
  refine wp_ifP (D := { D' with nx := _ }) (PB := fun _ => True) (et_test (ev_opP (d0 rfl) ev_int fun x y _ _ => ⟨decide (y < x), o2_B0 (g := fun i j => decide (j < i)), trivial⟩)) (fun _ => ?_) (fun _ => ?_)
  · refine wp_asg (md (m := t) (by omega) (it (d0 rfl)) (ev_var (i := 1))) (ltr rfl) fun a ha => ?_
    refine wp_dice (i := 0) hp (by decide) (ev_opP (d0 rfl) (ev_var (i := 1) (a := t)) fun x y hx hy => ⟨x.fdiv y, o2_I (C := CDivN) (g := Int.fdiv) (by rw [show y = t from hy]; exact ⟨by omega, by omega⟩), by rw [show y = t from hy]; exact fdiv_nn hx (by omega)⟩) (ev_var (i := 0)) ?_
    exact wp_ret hf ((ev_var (i := 2)).imp fun r hr => by rw [show r = a from hr]; exact ha)
  · refine wp_dice (i := 2) hp (by decide) (ev_opP (d2 rfl) ev_int fun x y hx hy => ⟨x + y, o2_I0 (g := fun i j => i + j), by rw [show y = _ from hy]; omega⟩) (ev_var (i := 0)) ?_
    refine wp_asg (md (m := 2305843009213693487) (by decide) (it (ev_opP (d1 rfl) (ev_opP (Pc := fun n : Int => 0 ≤ n) ev_int (d2 rfl) fun x y hx hy => ⟨x * y, o2_I (C := CMul) (g := fun i j => i * j) (.inl (by rw [show x = 104395303 from hx]; decide)), by rw [show x = 104395303 from hx]; exact Int.mul_nonneg (by decide) hy⟩) fun x y hx hy => ⟨x + y, o2_I0 (g := fun i j => i + j), Int.add_nonneg hx hy⟩)) ev_int) (ltr rfl) fun one h1' => ?_
    refine wp_asg (P := fun n : Int => 0 ≤ n) (ev_opP (ev_opP (Pc := fun n : Int => 0 ≤ n) (md (m := 2305843009213693223) (by decide) (it (ev_opP (Pc := fun n : Int => 0 ≤ n) (ev_opP (Pc := fun n : Int => 0 ≤ n) (ev_var (i := 3) (a := one)) (ev_var (i := 3) (a := one)) fun x y hx hy => ⟨x * y, o2_I (C := CMul) (g := fun i j => i * j) (.inl (by rw [show x = one from hx]; omega)), by rw [show x = one from hx, show y = one from hy]; exact Int.mul_nonneg h1'.1 h1'.1⟩) (ev_opP (Pc := fun n : Int => 0 ≤ n) ev_int (d2 rfl) fun x y hx hy => ⟨x * y, o2_I (C := CMul) (g := fun i j => i * j) (.inl (by rw [show x = 113 from hx]; decide)), by rw [show x = 113 from hx]; exact Int.mul_nonneg (by decide) hy⟩) fun x y hx hy => ⟨x + y, o2_I0 (g := fun i j => i + j), Int.add_nonneg hx hy⟩)) ev_int) ev_int fun x y hx hy => ⟨x * y, o2_I (C := CMul) (g := fun i j => i * j) (.inl (by omega)), by rw [show y = 3497861 from hy]; exact Int.mul_nonneg hx.1 (by decide)⟩) (ev_var (i := 3) (a := one)) fun x y hx hy => ⟨x + y, o2_I0 (g := fun i j => i + j), by rw [show y = one from hy]; exact Int.add_nonneg hx h1'.1⟩) (ltr rfl) fun two h2' => ?_
    exact wp_ret hf (md (m := t) (by omega) (it (ev_opP (ev_var (i := 4) (a := two)) ev_int fun x y hx hy => ⟨x.fdiv y, o2_I (C := CDivN) (g := Int.fdiv) (by rw [show y = 65536 from hy]; exact ⟨by decide, by decide⟩), by rw [show x = two from hx, show y = 65536 from hy]; exact fdiv_nn h2' (by decide)⟩)) (ev_var (i := 1)))
def F__law_dice : Own → List Cell → Prop := fun _ cs => ∃ (xs : List Int) (n : Nat), cs = [⟨xs⟩, ⟨(n : Int)⟩]
theorem abs_nn (c : Int) : 0 ≤ (if c < 0 then -c else c) := by split <;> omega
theorem sc__law_dice : FnScope ["_law_script", "_law_spot", "_law_cell", "_law_left"] ["_law_script", "_law_spot"] (defScope s__law_dice) := ⟨rfl, rfl, rfl, by decide +kernel, rfl, by decide +kernel, by decide +kernel⟩
theorem ok__law_dice (T : Txt K mg) {f : Addr} {fd : FuncData} (D : Df K mg "_law_dice" s__law_dice ["_law_script", "_law_spot"] f fd) : FnOk P w K mg base CX0 2 f fd ["_law_script", "_law_spot"] (spF K F__law_dice DiceI) := by
  obtain ⟨_, hI_MAX_THINGS⟩ := T.i_MAX_THINGS
  refine def_okF D.F sc__law_dice (fun Γ cs g => ?len) (fun cdv A outer s H E hr Γ cs g => ?_)
  case len => obtain ⟨xs, n, rfl⟩ := g; rfl
  obtain ⟨xs, n, rfl⟩ := g
  refine ⟨_, (pss_cons (ps_set (i := 2) sc__law_dice.nd rfl (by first | exact .inl rfl | exact .inr rfl) (pe_ifExp (pt_cmpR op_lt (pv 1) (pe_callB call_lenK (by rfl) T.z_len (by decide +kernel) (pa_cons (pv 0) pa_nil)) (nomark _)) (pe_callTy call_int1 (by rfl) T.z_int (by decide +kernel) (pa_cons (pe_ix ix_listK (pv 0) (pv 1) (fun _ _ => rfl)) pa_nil)) (pe_op op_add (pe_op op_mul pe_int (pv 1)) pe_int)))
      (pss_cons (ps_set (i := 3) sc__law_dice.nd rfl (by first | exact .inl rfl | exact .inr rfl) (pe_op op_modN (pe_callB (call_max2 rfl) (by rfl) T.z_max (by decide +kernel) (pa_cons pe_int (pa_cons (pe_op op_sub (pe_callB call_abs (by rfl) T.z_abs (by decide +kernel) (pa_cons (pv 2) pa_nil)) (pe_op op_pow pe_int pe_int)) pa_nil))) (pe_op op_mulW (pe_op op_pow pe_int pe_int) (pe_op op_pow pe_int pe_int))))
      (pss_one (ps_ret (pe_lst (pa_cons (pv 3) (pa_cons (pe_op op_add (pe_op op_add (pe_op op_add (pe_op op_mul (pe_op op_modN (pe_callB call_abs (by rfl) T.z_abs (by decide +kernel) (pa_cons (pv 2) pa_nil)) pe_int) pe_int) (pe_op op_mul pe_int (pv 1))) (pe_op op_mul pe_int (pe_callTy call_int1 (by rfl) T.z_int (by decide +kernel) (pa_cons (pe_cmpR op_lt (pv 2) pe_int (nomark _)) pa_nil)))) pe_int) (pa_cons pe_int pa_nil)))))))), fun Δ0 D' hf => ?_⟩
  refine wp_asg (P := fun _ : Int => True) (ev_if (et_test (ev_op1 (ev_var (i := 1)) (ev_cb (ev_var (i := 0) (a := xs)) o1_lenL) (o2_B0 (g := fun i j => decide (i < j))))) (fun h => (ev_cb (ev_op1 (ev_var (i := 0) (a := xs)) (ev_var (i := 1)) (o2_ixL (List.getElem?_eq_getElem (by have := of_decide_eq_true h; omega)))) o1_int).imp fun _ _ => trivial) fun _ => (ev_op1 (ev_op1 ev_int (ev_var (i := 1)) (o2_I (C := CMul) (g := fun i j => i * j) (.inl (by decide)))) ev_int (o2_I0 (g := fun i j => i + j))).imp fun _ _ => trivial) (ltr rfl) fun c _ => ?_
  refine wp_asg (P := fun n : Int => 0 ≤ n) ((ev_op1 (ev_max2 ev_int (ev_op1 (ev_cb (ev_var (i := 2)) o1_abs) (ev_op1 ev_int ev_int (o2_I (C := CPow) (g := fun i j => i ^ j.toNat) ⟨by decide, by decide, by decide⟩)) (o2_I0 (g := fun i j => i - j)))) (ev_op1 (ev_op1 ev_int ev_int (o2_I (C := CPow) (g := fun i j => i ^ j.toNat) ⟨by decide, by decide, by decide⟩)) (ev_op1 ev_int ev_int (o2_I (C := CPow) (g := fun i j => i ^ j.toNat) ⟨by decide, by decide, by decide⟩)) (o2_I (C := CMulW) (g := fun i j => i * j) (wide_mul (a := 200) (b := 200) (by decide +kernel) (by decide +kernel) (by decide) (by decide) (by decide)))) (o2_I (C := fun _ j => j ≠ 0) (g := Int.fmod) (by decide +kernel))).imp fun r hr => ?_) (ltr rfl) fun l hl => ?_
  · rw [show r = _ from hr]
    refine (fmod_nn ?_ (by decide +kernel)).1
    split <;> omega
  refine wp_ret3 hf (ea_cons (Pa := fun n : Int => 0 ≤ n) ((ev_var (i := 3) (a := l)).imp fun r hr => by rw [show r = l from hr]; exact hl) (ea_cons (Pa := fun n : Int => 0 ≤ n) (P := fun cs => ∃ b c : Int, cs = [⟨b⟩, ⟨c⟩] ∧ 0 ≤ b ∧ 0 ≤ c) ((ev_op1 (ev_op1 (ev_op1 (ev_op1 (ev_op1 (ev_cb (ev_var (i := 2) (a := c)) o1_abs) ev_int (o2_I (C := fun _ j => j ≠ 0) (g := Int.fmod) (by decide))) ev_int (o2_I (C := CMul) (g := fun i j => i * j) (.inr (by decide)))) (ev_op1 ev_int (ev_var (i := 1)) (o2_I (C := CMul) (g := fun i j => i * j) (.inl (by decide)))) (o2_I0 (g := fun i j => i + j))) (ev_op1 ev_int (ev_cb (ev_op1 (ev_var (i := 2) (a := c)) ev_int (o2_B0 (g := fun i j => decide (i < j)))) o1_intB) (o2_I (C := CMul) (g := fun i j => i * j) (.inl (by decide)))) (o2_I0 (g := fun i j => i + j))) ev_int (o2_I0 (g := fun i j => i + j))).imp fun r hr => ?_) (ea_cons (Pa := fun n : Int => 0 ≤ n) (Ps := Is []) (P := fun cs => ∃ c : Int, cs = [⟨c⟩] ∧ 0 ≤ c) (ev_int.imp fun r hr => by rw [show r = 0 from hr]; decide) ea_nil fun a cs ha hc => ⟨a, by rw [show cs = [] from hc], ha⟩) fun a cs ha hc => by obtain ⟨c, rfl, h⟩ := hc; exact ⟨a, c, rfl, ha, h⟩) fun a cs ha hc => by obtain ⟨b, c, rfl, h1, h2⟩ := hc; exact ⟨a, b, c, rfl, ha, h1, h2⟩)
  rw [show r = _ from hr]
  have h1 := (fmod_nn (t := 1152921504606846397) (abs_nn c) (by decide)).1
  have h2 : (0 : Int) ≤ if decide (c < 0) = true then 1 else 0 := by split <;> decide
  show (0 : Int) ≤ Int.fmod (if c < 0 then -c else c) 1152921504606846397 * 73 + 811 * (n : Int) + 43 * (if decide (c < 0) = true then 1 else 0) + 19
  omega

end
end K31

set_option Elab.async false
set_option linter.all false
set_option maxRecDepth 100000
set_option maxHeartbeats 4000000
namespace K31
open PySem PySem.Spec PyProof.Rows L2 Z K00
/-! words of letters, with at most one r -/
def step (L : List Nat) (ws : List Tx) : List Tx := ws.flatMap fun w => L.map fun c => ⟨w.s ++ [c]⟩
def gen (l : List Nat) (r : Nat) : Nat → List Tx
  | 0 => [⟨[]⟩]
  | n + 1 => (step (l ++ [114]) (gen l r n)).filter fun w => decide (w.s.count 114 ≤ r)
def partsS (l : List Nat) (r n : Nat) : List Tx := (gen l r n).filter fun w => decide (w.s.count 114 = r)
def parts (l : List Nat) (r n : Nat) : List Tx := srt (partsS l r n)
def headsL (l : List Nat) (h : Nat) : List Tx := srt (parts l 0 h ++ parts l 1 h)
def tailsL (l : List Nat) (m : Nat) (w : Tx) : List Tx := if 114 ∈ w.s then parts l 0 m else parts l 1 m
def paintL (l : List Nat) (n : Nat) : List Tx := (headsL l (n / 2)).flatMap fun w => (tailsL l (n - n / 2) w).map fun t => ⟨w.s ++ t.s⟩
def menu (l : List Nat) : List Tx := srt (lets (l ++ [114]))
def extM (M : List Tx) (w : Tx) : List Tx := (M.filter fun c => !decide (c = ⟨[114]⟩) || !decide (114 ∈ w.s)).map fun c => ⟨w.s ++ c.s⟩
def lawW (M : List Tx) : Nat → List Tx
  | 0 => [⟨[]⟩]
  | n + 1 => (lawW M n).flatMap (extM M)
def lawP (l : List Nat) (n : Nat) : List Tx := (lawW (menu l) n).filter fun w => decide (114 ∈ w.s)
/-- letters that may be asked for -/
structure Good (l : List Nat) : Prop where
  nd : l.Nodup
  nr : 114 ∉ l
  len : l.length ≤ 4
def Word (l : List Nat) (n : Nat) (w : Tx) : Prop := w.s.length = n ∧ ∀ c ∈ w.s, c ∈ l ∨ c = 114
section
variable {l : List Nat} {r n : Nat} {w : Tx}
theorem tx_eq {a b : List Nat} (h : a = b) : (⟨a⟩ : Tx) = ⟨b⟩ := congrArg Tx.mk h
theorem mem_step {L : List Nat} {ws : List Tx} : w ∈ step L ws ↔ ∃ v ∈ ws, ∃ c ∈ L, w = ⟨v.s ++ [c]⟩ := by
  unfold step
  rw [List.mem_flatMap]
  constructor
  · rintro ⟨v, hv, h⟩
    obtain ⟨c, hc, e⟩ := List.mem_map.mp h
    exact ⟨v, hv, c, hc, e.symm⟩
  · rintro ⟨v, hv, c, hc, e⟩
    exact ⟨v, hv, List.mem_map.mpr ⟨c, hc, e.symm⟩⟩
theorem mem_gen : ∀ {n : Nat} {w : Tx}, w ∈ gen l r n ↔ Word l n w ∧ w.s.count 114 ≤ r
  | 0, w => by
    unfold gen
    rw [List.mem_singleton]
    constructor
    · rintro rfl
      exact ⟨⟨rfl, fun c hc => nomatch hc⟩, Nat.zero_le _⟩
    · rintro ⟨⟨h, _⟩, _⟩
      cases w
      exact tx_eq (List.length_eq_zero_iff.mp h)
  | n + 1, w => by
    unfold gen
    rw [List.mem_filter, mem_step, decide_eq_true_eq]
    constructor
    · rintro ⟨⟨v, hv, c, hc, rfl⟩, hk⟩
      obtain ⟨⟨h1, h2⟩, h3⟩ := mem_gen.mp hv
      refine ⟨⟨by show (v.s ++ [c]).length = _; rw [List.length_append, h1]; rfl, fun d hd => ?_⟩, hk⟩
      rcases List.mem_append.mp hd with hd | hd
      · exact h2 d hd
      · rw [List.mem_singleton.mp hd]
        rcases List.mem_append.mp hc with hc | hc
        · exact .inl hc
        · exact .inr (List.mem_singleton.mp hc)
    · rintro ⟨⟨h1, h2⟩, hk⟩
      refine ⟨?_, hk⟩
      have hne : w.s ≠ [] := fun e => by rw [e] at h1; cases h1
      have e := (List.dropLast_concat_getLast hne).symm
      refine ⟨⟨w.s.dropLast⟩, mem_gen.mpr ⟨⟨by show w.s.dropLast.length = _; rw [List.length_dropLast, h1]; rfl, fun c hc => h2 c (List.dropLast_subset _ hc)⟩, Nat.le_trans ?_ hk⟩, w.s.getLast hne, ?_, ?_⟩
      · show w.s.dropLast.count 114 ≤ _
        exact (List.dropLast_sublist w.s).count_le 114
      · rcases h2 _ (List.getLast_mem hne) with h | h
        · exact List.mem_append_left _ h
        · exact List.mem_append_right _ (List.mem_singleton.mpr h)
      · cases w
        exact tx_eq e
theorem mem_parts : w ∈ parts l r n ↔ Word l n w ∧ w.s.count 114 = r := by
  unfold parts partsS
  rw [srt_mem, List.mem_filter, mem_gen, decide_eq_true_eq]
  constructor
  · rintro ⟨⟨a, _⟩, c⟩
    exact ⟨a, c⟩
  · rintro ⟨a, c⟩
    exact ⟨⟨a, Nat.le_of_eq c⟩, c⟩
theorem step_nodup {L : List Nat} {ws : List Tx} (hL : L.Nodup) (hw : ws.Nodup) : (step L ws).Nodup := by
  unfold step List.Nodup
  rw [List.pairwise_flatMap]
  refine ⟨fun v _ => List.pairwise_map.mpr (hL.imp fun {a b} h e => h ?_), hw.imp fun {a b} h x hx y hy e => h ?_⟩
  · have := Tx.mk.inj e
    simpa using this
  · obtain ⟨c, _, rfl⟩ := List.mem_map.mp hx
    obtain ⟨d, _, rfl⟩ := List.mem_map.mp hy
    have := Tx.mk.inj e
    have := (List.append_inj' this rfl).1
    cases a
    cases b
    exact tx_eq this
theorem good_nd (g : Good l) : (l ++ [114]).Nodup := by
  rw [List.nodup_append]
  refine ⟨g.nd, by simp, fun a ha b hb e => ?_⟩
  rw [e, List.mem_singleton.mp hb] at ha
  exact g.nr ha
theorem gen_nodup (g : Good l) : ∀ n, (gen l r n).Nodup
  | 0 => by simp [gen]
  | n + 1 => (step_nodup (good_nd g) (gen_nodup g n)).filter _
theorem partsS_nodup (g : Good l) : (partsS l r n).Nodup := (gen_nodup g n).filter _
theorem step_len {L : List Nat} : ∀ ws : List Tx, (step L ws).length = ws.length * L.length
  | [] => by simp [step]
  | w :: ws => by
    have := step_len (L := L) ws
    unfold step at this ⊢
    rw [List.flatMap_cons, List.length_append, this, List.length_map, List.length_cons, Nat.succ_mul, Nat.add_comm]
theorem gen_len (g : Good l) : ∀ n, (gen l r n).length ≤ 5 ^ n
  | 0 => by simp [gen]
  | n + 1 => by
    have ih := gen_len g n
    refine Nat.le_trans (List.length_filter_le _ _) ?_
    rw [step_len, List.length_append, Nat.pow_succ]
    exact Nat.mul_le_mul ih (by have := g.len; simp; omega)
theorem parts_len (g : Good l) : (parts l r n).length ≤ 5 ^ n := Nat.le_trans srt_len (Nat.le_trans (List.length_filter_le _ _) (gen_len g n))
theorem parts_nd : (parts l r n).Nodup := srt_nd _
theorem both_nd : (parts l 0 n ++ parts l 1 n).Nodup := by
  rw [List.nodup_append]
  refine ⟨parts_nd, parts_nd, fun a ha b hb e => ?_⟩
  have h1 := (mem_parts.mp ha).2
  have h2 := (mem_parts.mp hb).2
  rw [e, h2] at h1
  cases h1
theorem mem_heads : w ∈ headsL l n ↔ Word l n w ∧ w.s.count 114 ≤ 1 := by
  unfold headsL
  rw [srt_mem, List.mem_append, mem_parts, mem_parts]
  constructor
  · rintro (⟨a, b⟩ | ⟨a, b⟩)
    · exact ⟨a, by omega⟩
    · exact ⟨a, by omega⟩
  · rintro ⟨a, b⟩
    by_cases h : w.s.count 114 = 0
    · exact .inl ⟨a, h⟩
    · exact .inr ⟨a, by omega⟩
theorem heads_len (g : Good l) : (headsL l n).length ≤ 2 * 5 ^ n := by
  refine Nat.le_trans srt_len ?_
  rw [List.length_append]
  have := parts_len g (r := 0) (n := n)
  have := parts_len g (r := 1) (n := n)
  omega
theorem tails_len (g : Good l) : (tailsL l n w).length ≤ 5 ^ n := by
  unfold tailsL
  split
  · exact parts_len g
  · exact parts_len g
/-- rising without doubles -/
def SL (xs : List Tx) : Prop := xs.Pairwise fun x y => x.s < y.s
theorem srt_SL (S : List Tx) : SL (srt S) := by
  have h := (srt_pw S).and (srt_nd S)
  refine h.imp fun {a b} ⟨h1, h2⟩ => Classical.byContradiction fun h3 => h2 (tx_anti h1 h3)
theorem SL.nd {xs : List Tx} (h : SL xs) : xs.Nodup := h.imp fun {a b} h e => by rw [e] at h; exact List.lt_irrefl _ h
theorem SL.pw {xs : List Tx} (h : SL xs) : xs.Pairwise NL' := h.imp fun {a b} h => fun h2 => List.lt_irrefl _ (List.lt_trans h h2)
theorem lt_app {a b c d : List Nat} (hl : a.length = b.length) (h : a < b) : a ++ c < b ++ d := by
  induction a generalizing b with
  | nil =>
    cases b with
    | nil => exact absurd h (List.lt_irrefl _)
    | cons _ _ => cases hl
  | cons x a ih =>
    cases b with
    | nil => cases hl
    | cons y b =>
      rw [List.cons_append, List.cons_append]
      rw [List.cons_lt_cons_iff] at h ⊢
      rcases h with h | ⟨h1, h2⟩
      · exact .inl h
      · exact .inr ⟨h1, ih (Nat.succ.inj hl) h2⟩
theorem app_lt {a c d : List Nat} (h : c < d) : a ++ c < a ++ d := by
  induction a with
  | nil => exact h
  | cons x a ih =>
    rw [List.cons_append, List.cons_append, List.cons_lt_cons_iff]
    exact .inr ⟨rfl, ih⟩
theorem SL_flat {hs : List Tx} {ts : Tx → List Tx} {m : Nat} (h1 : SL hs) (h2 : ∀ x ∈ hs, x.s.length = m) (h3 : ∀ x ∈ hs, SL (ts x)) : SL (hs.flatMap fun w => (ts w).map fun t => ⟨w.s ++ t.s⟩) := by
  unfold SL
  rw [List.pairwise_flatMap]
  refine ⟨fun w hw => List.pairwise_map.mpr ((h3 w hw).imp fun {a b} h => app_lt h), ?_⟩
  refine List.Pairwise.imp_of_mem (fun {a b} ha hb h x hx y hy => ?_) h1
  obtain ⟨t, _, rfl⟩ := List.mem_map.mp hx
  obtain ⟨u, _, rfl⟩ := List.mem_map.mp hy
  exact lt_app ((h2 a ha).trans (h2 b hb).symm) h
theorem paint_SL : SL (paintL l n) := by
  refine SL_flat (m := n / 2) (srt_SL _) (fun x hx => (mem_heads.mp hx).1.1) fun x _ => ?_
  unfold tailsL
  split
  · exact srt_SL _
  · exact srt_SL _
theorem count_zero {v : List Nat} : v.count 114 = 0 ↔ 114 ∉ v := List.count_eq_zero
theorem mem_paint : w ∈ paintL l n ↔ Word l n w ∧ w.s.count 114 = 1 := by
  unfold paintL
  rw [List.mem_flatMap]
  constructor
  · rintro ⟨v, hv, hw⟩
    obtain ⟨t, ht, rfl⟩ := List.mem_map.mp hw
    obtain ⟨⟨a1, a2⟩, a3⟩ := mem_heads.mp hv
    have key : Word l (n - n / 2) t ∧ v.s.count 114 + t.s.count 114 = 1 := by
      unfold tailsL at ht
      split at ht
      · next h =>
        obtain ⟨b1, b2⟩ := mem_parts.mp ht
        have : v.s.count 114 ≠ 0 := fun z => count_zero.mp z h
        exact ⟨b1, by omega⟩
      · next h =>
        obtain ⟨b1, b2⟩ := mem_parts.mp ht
        have := count_zero.mpr h
        exact ⟨b1, by omega⟩
    refine ⟨⟨?_, fun c hc => ?_⟩, ?_⟩
    · show (v.s ++ t.s).length = n
      rw [List.length_append, a1, key.1.1]
      omega
    · rcases List.mem_append.mp hc with hc | hc
      · exact a2 c hc
      · exact key.1.2 c hc
    · show (v.s ++ t.s).count 114 = 1
      rw [List.count_append]
      exact key.2
  · rintro ⟨⟨h1, h2⟩, h3⟩
    have e : w.s = w.s.take (n / 2) ++ w.s.drop (n / 2) := (List.take_append_drop _ _).symm
    have hc : (w.s.take (n / 2)).count 114 + (w.s.drop (n / 2)).count 114 = 1 := by
      rw [← List.count_append, ← e]
      exact h3
    have w1 : Word l (n / 2) ⟨w.s.take (n / 2)⟩ := ⟨by show (w.s.take (n / 2)).length = _; rw [List.length_take, h1]; omega, fun c hc => h2 c (List.mem_of_mem_take hc)⟩
    have w2 : Word l (n - n / 2) ⟨w.s.drop (n / 2)⟩ := ⟨by show (w.s.drop (n / 2)).length = _; rw [List.length_drop, h1], fun c hc => h2 c (List.mem_of_mem_drop hc)⟩
    refine ⟨⟨w.s.take (n / 2)⟩, mem_heads.mpr ⟨w1, by show (w.s.take (n / 2)).count 114 ≤ 1; omega⟩, List.mem_map.mpr ⟨⟨w.s.drop (n / 2)⟩, ?_, ?_⟩⟩
    · unfold tailsL
      split
      · next h =>
        have hn : (w.s.take (n / 2)).count 114 ≠ 0 := fun z => count_zero.mp z h
        exact mem_parts.mpr ⟨w2, by show (w.s.drop (n / 2)).count 114 = 0; omega⟩
      · next h =>
        have hn : (w.s.take (n / 2)).count 114 = 0 := count_zero.mpr h
        exact mem_parts.mpr ⟨w2, by show (w.s.drop (n / 2)).count 114 = 1; omega⟩
    · cases w
      exact tx_eq e.symm
theorem sum_le {α : Type} {f : α → List Tx} {b : Nat} : ∀ {xs : List α}, (∀ x ∈ xs, (f x).length ≤ b) → (xs.flatMap f).length ≤ xs.length * b
  | [], _ => by simp
  | x :: xs, h => by
    rw [List.flatMap_cons, List.length_append, List.length_cons, Nat.succ_mul, Nat.add_comm]
    exact Nat.add_le_add (sum_le fun y hy => h y (List.mem_cons_of_mem _ hy)) (h x List.mem_cons_self)
theorem paint_len (g : Good l) (hn : n ≤ 9) : (paintL l n).length ≤ 4000000 := by
  refine Nat.le_trans (sum_le (b := 5 ^ (n - n / 2)) fun x _ => by rw [List.length_map]; exact tails_len g) ?_
  refine Nat.le_trans (Nat.mul_le_mul_right _ (heads_len g)) ?_
  rw [Nat.mul_assoc, ← Nat.pow_add]
  have : n / 2 + (n - n / 2) = n := by omega
  rw [this]
  have := Nat.pow_le_pow_right (n := 5) (by decide) hn
  omega
end
end K31

set_option Elab.async false
set_option linter.all false
set_option maxRecDepth 100000
set_option maxHeartbeats 4000000
namespace K31
open PySem PySem.Spec PyProof.Rows L2 Z K00
/-! the law's own list is the program's -/
section
variable {l : List Nat} {n : Nat} {w : Tx}
theorem mem_menu {c : Tx} : c ∈ menu l ↔ ∃ d, (d ∈ l ∨ d = 114) ∧ c = ⟨[d]⟩ := by
  unfold menu lets
  rw [srt_mem, List.mem_map]
  constructor
  · rintro ⟨d, hd, rfl⟩
    refine ⟨d, ?_, rfl⟩
    rcases List.mem_append.mp hd with h | h
    · exact .inl h
    · exact .inr (List.mem_singleton.mp h)
  · rintro ⟨d, hd, rfl⟩
    refine ⟨d, ?_, rfl⟩
    rcases hd with h | h
    · exact List.mem_append_left _ h
    · exact List.mem_append_right _ (List.mem_singleton.mpr h)
theorem menu_len : (menu l).length ≤ l.length + 1 := by
  refine Nat.le_trans srt_len ?_
  unfold lets
  rw [List.length_map, List.length_append]
  exact Nat.le_refl _
theorem mem_ext {M : List Tx} {v : Tx} : w ∈ extM M v ↔ ∃ c ∈ M, (c ≠ ⟨[114]⟩ ∨ 114 ∉ v.s) ∧ w = ⟨v.s ++ c.s⟩ := by
  unfold extM
  rw [List.mem_map]
  constructor
  · rintro ⟨c, hc, rfl⟩
    obtain ⟨h1, h2⟩ := List.mem_filter.mp hc
    exact ⟨c, h1, by simpa using h2, rfl⟩
  · rintro ⟨c, hc, h, rfl⟩
    exact ⟨c, List.mem_filter.mpr ⟨hc, by simpa using h⟩, rfl⟩
theorem mem_lawW : ∀ {n : Nat} {w : Tx}, w ∈ lawW (menu l) n ↔ Word l n w ∧ w.s.count 114 ≤ 1
  | 0, w => by
    unfold lawW
    rw [List.mem_singleton]
    constructor
    · rintro rfl
      exact ⟨⟨rfl, fun c hc => nomatch hc⟩, Nat.zero_le _⟩
    · rintro ⟨⟨h, _⟩, _⟩
      cases w
      exact tx_eq (List.length_eq_zero_iff.mp h)
  | n + 1, w => by
    unfold lawW
    rw [List.mem_flatMap]
    constructor
    · rintro ⟨v, hv, hw⟩
      obtain ⟨c, hc, hk, rfl⟩ := mem_ext.mp hw
      obtain ⟨d, hd, rfl⟩ := mem_menu.mp hc
      obtain ⟨⟨h1, h2⟩, h3⟩ := mem_lawW.mp hv
      refine ⟨⟨by show (v.s ++ [d]).length = _; rw [List.length_append, h1]; rfl, fun x hx => ?_⟩, ?_⟩
      · rcases List.mem_append.mp hx with hx | hx
        · exact h2 x hx
        · rw [List.mem_singleton.mp hx]
          exact hd
      · show (v.s ++ [d]).count 114 ≤ 1
        rw [List.count_append]
        rcases hk with hk | hk
        · have : d ≠ 114 := fun e => hk (by rw [e])
          rw [List.count_singleton]
          rw [if_neg (by rw [beq_iff_eq]; exact this)]
          exact h3
        · rw [count_zero.mpr hk]
          rw [List.count_singleton]
          split <;> omega
    · rintro ⟨⟨h1, h2⟩, hk⟩
      have hne : w.s ≠ [] := fun e => by rw [e] at h1; cases h1
      have e := (List.dropLast_concat_getLast hne).symm
      have hc : w.s.dropLast.count 114 + [w.s.getLast hne].count 114 ≤ 1 := by
        rw [← List.count_append, ← e]
        exact hk
      refine ⟨⟨w.s.dropLast⟩, mem_lawW.mpr ⟨⟨by show w.s.dropLast.length = _; rw [List.length_dropLast, h1]; rfl, fun c hc => h2 c (List.dropLast_subset _ hc)⟩, by show w.s.dropLast.count 114 ≤ 1; omega⟩, mem_ext.mpr ⟨⟨[w.s.getLast hne]⟩, mem_menu.mpr ⟨_, h2 _ (List.getLast_mem hne), rfl⟩, ?_, ?_⟩⟩
      · by_cases h : w.s.getLast hne = 114
        · refine .inr (count_zero.mp ?_)
          show w.s.dropLast.count 114 = 0
          rw [h] at hc
          have : [114].count 114 = 1 := by decide
          omega
        · exact .inl fun q => h (by have := Tx.mk.inj q; simpa using this)
      · cases w
        exact tx_eq e
theorem law_SL : ∀ n, SL (lawW (menu l) n)
  | 0 => by unfold lawW SL; simp
  | n + 1 => by
    unfold lawW extM
    exact SL_flat (m := n) (law_SL n) (fun x hx => (mem_lawW.mp hx).1.1) fun x _ => (srt_SL _).filter _
theorem mem_lawP : w ∈ lawP l n ↔ Word l n w ∧ w.s.count 114 = 1 := by
  unfold lawP
  rw [List.mem_filter, mem_lawW, decide_eq_true_eq]
  constructor
  · rintro ⟨⟨a, b⟩, c⟩
    have : w.s.count 114 ≠ 0 := fun z => count_zero.mp z c
    exact ⟨a, by omega⟩
  · rintro ⟨a, b⟩
    exact ⟨⟨a, by omega⟩, Classical.byContradiction fun c => by rw [count_zero.mpr c] at b; cases b⟩
theorem lawP_SL (n : Nat) : SL (lawP l n) := (law_SL n).filter _
theorem paint_eq : paintL l n = lawP l n :=
  pw_uniq paint_SL.nd (lawP_SL n).nd paint_SL.pw (lawP_SL n).pw fun x => by rw [mem_paint]; exact mem_lawP.symm
theorem ext_len {M : List Tx} {v : Tx} : (extM M v).length ≤ M.length := by
  unfold extM
  rw [List.length_map]
  exact List.length_filter_le _ _
theorem law_len : ∀ n, (lawW (menu l) n).length ≤ (l.length + 1) ^ n
  | 0 => Nat.le_refl _
  | n + 1 => by
    unfold lawW
    refine Nat.le_trans (sum_le (b := l.length + 1) fun x _ => Nat.le_trans ext_len menu_len) ?_
    rw [Nat.pow_succ]
    exact Nat.mul_le_mul_right _ (law_len n)
/-! how many -/
def zer (w : Tx) : Bool := !decide (114 ∈ w.s)
def one (w : Tx) : Bool := decide (114 ∈ w.s)
theorem menu_k (g : Good l) : ((menu l).filter fun c => !decide (c = ⟨[114]⟩)).length = l.length ∧ ((menu l).filter fun c => decide (c = ⟨[114]⟩)).length = 1 := by
  have nl : (lets (l ++ [114])).Nodup := (good_nd g).map _ fun a b h e => h (by simpa using e)
  have pm : (menu l).Perm (lets (l ++ [114])) := (List.perm_ext_iff_of_nodup (srt_nd _) nl).mpr fun x => srt_mem
  have r1 : ∀ m : List Nat, 114 ∉ m → (lets m).filter (fun c => !decide (c = ⟨[114]⟩)) = lets m ∧ (lets m).filter (fun c => decide (c = ⟨[114]⟩)) = [] := by
    intro m hm
    constructor
    · rw [List.filter_eq_self]
      intro c hc
      obtain ⟨d, hd, rfl⟩ := List.mem_map.mp hc
      simp only [Bool.not_eq_true', decide_eq_false_iff_not]
      intro q
      have := Tx.mk.inj q
      simp only [List.cons.injEq, and_true] at this
      exact hm (this ▸ hd)
    · rw [List.filter_eq_nil_iff]
      intro c hc
      obtain ⟨d, hd, rfl⟩ := List.mem_map.mp hc
      simp only [decide_eq_true_eq]
      intro q
      have := Tx.mk.inj q
      simp only [List.cons.injEq, and_true] at this
      exact hm (this ▸ hd)
  have e : lets (l ++ [114]) = lets l ++ [⟨[114]⟩] := by unfold lets; rw [List.map_append]; rfl
  constructor
  · rw [(pm.filter _).length_eq, e, List.filter_append, (r1 l g.nr).1]
    simp [lets]
  · rw [(pm.filter _).length_eq, e, List.filter_append, (r1 l g.nr).2]
    simp
theorem ext_zer (g : Good l) {v : Tx} : ((extM (menu l) v).filter zer).length = if 114 ∈ v.s then 0 else l.length := by
  unfold extM
  rw [List.filter_map, List.length_map, List.filter_filter]
  split
  · next h =>
    rw [List.length_eq_zero_iff, List.filter_eq_nil_iff]
    intro c _ hc
    simp [zer, h] at hc
  · next h =>
    rw [← (menu_k g).1]
    congr 1
    refine List.filter_congr fun c hc => ?_
    obtain ⟨d, hd, rfl⟩ := mem_menu.mp hc
    by_cases e : d = 114
    · subst e
      simp [zer, h]
    · have e' : ¬ (114 : Nat) = d := fun q => e q.symm
      simp [zer, h, e, e']
theorem ext_one (g : Good l) {v : Tx} : ((extM (menu l) v).filter one).length = if 114 ∈ v.s then l.length else 1 := by
  unfold extM
  rw [List.filter_map, List.length_map, List.filter_filter]
  split
  · next h =>
    rw [← (menu_k g).1]
    congr 1
    refine List.filter_congr fun c hc => ?_
    obtain ⟨d, hd, rfl⟩ := mem_menu.mp hc
    by_cases e : d = 114
    · subst e
      simp [one, h]
    · simp [one, h, e]
  · next h =>
    rw [← (menu_k g).2]
    congr 1
    refine List.filter_congr fun c hc => ?_
    obtain ⟨d, hd, rfl⟩ := mem_menu.mp hc
    by_cases e : d = 114
    · subst e
      simp [one, h]
    · have e' : ¬ (114 : Nat) = d := fun q => e q.symm
      simp [one, h, e, e']
theorem flat_zer (g : Good l) : ∀ ws : List Tx, ((ws.flatMap (extM (menu l))).filter zer).length = (ws.filter zer).length * l.length ∧ ((ws.flatMap (extM (menu l))).filter one).length = (ws.filter one).length * l.length + (ws.filter zer).length
  | [] => by simp
  | w :: ws => by
    obtain ⟨h1, h2⟩ := flat_zer g ws
    rw [List.flatMap_cons, List.filter_append, List.filter_append, List.length_append, List.length_append, h1, h2, ext_zer g, ext_one g, List.filter_cons, List.filter_cons]
    by_cases h : 114 ∈ w.s
    · have a : zer w = false := by simp [zer, h]
      have b : one w = true := by simp [one, h]
      rw [if_pos h, if_pos h, a, b]
      simp [Nat.succ_mul]
      omega
    · have a : zer w = true := by simp [zer, h]
      have b : one w = false := by simp [one, h]
      rw [if_neg h, if_neg h, a, b]
      simp [Nat.succ_mul]
      omega
theorem law_counts (g : Good l) : ∀ n, ((lawW (menu l) n).filter zer).length = l.length ^ n ∧ ((lawW (menu l) n).filter one).length = n * l.length ^ (n - 1)
  | 0 => ⟨rfl, rfl⟩
  | n + 1 => by
    obtain ⟨h1, h2⟩ := law_counts g n
    unfold lawW
    rw [(flat_zer g _).1, (flat_zer g _).2, h1, h2]
    refine ⟨(Nat.pow_succ ..).symm, ?_⟩
    cases n with
    | zero => simp
    | succ n =>
      show (n + 1) * l.length ^ n * l.length + l.length ^ (n + 1) = (n + 1 + 1) * l.length ^ (n + 1)
      rw [Nat.mul_assoc, ← Nat.pow_succ, Nat.succ_mul (n + 1)]
theorem lawP_len (g : Good l) : (lawP l n).length = n * l.length ^ (n - 1) := (law_counts g n).2
/-! some of them -/
theorem menu_acos : menu [97, 99, 111, 115] = [⟨[97]⟩, ⟨[99]⟩, ⟨[111]⟩, ⟨[114]⟩, ⟨[115]⟩] :=
  (srt_of (by decide) (by decide) fun x => by simp [lets]; constructor <;> (intro h; rcases h with h | h | h | h | h <;> simp [h])).symm
theorem menu_nil : menu [] = [⟨[114]⟩] := (srt_of (by decide) (by decide) fun x => by simp [lets]).symm
theorem law_nine : (lawP [97, 99, 111, 115] 9).take 2 = [⟨[97, 97, 97, 97, 97, 97, 97, 97, 114]⟩, ⟨[97, 97, 97, 97, 97, 97, 97, 99, 114]⟩] := by
  unfold lawP
  rw [menu_acos]
  decide +kernel
theorem law_last : lawP [] 1 = [⟨[114]⟩] := by
  unfold lawP
  rw [menu_nil]
  decide +kernel
end
end K31

set_option Elab.async false
set_option linter.all false
set_option maxRecDepth 100000
set_option maxHeartbeats 4000000
namespace K31
open PySem PySem.Spec PyProof.Rows L2 Z K00
section
variable {K : PySem.W.Frag} {Γ : Own} {ρ : Z.Env} {tl te : TE} {t : TT}
theorem ev_isF {xs : List Tx} (h : Ev K Γ te ρ (Is (⟨xs⟩ : FL Tx))) : Ev K Γ te ρ (Is xs) := ev_ofFL (h.imp fun y hy => by rw [show y = _ from hy]; rfl)
theorem getT {xs : List Tx} {i : Nat} (h : i < xs.length) : xs[i]? = some (xs.getD i ⟨[]⟩) := by rw [List.getD_eq_getElem?_getD, List.getElem?_eq_getElem h]; rfl
theorem take1 {xs : List Tx} {i : Nat} (h : i < xs.length) : xs.take (i + 1) = xs.take i ++ [xs.getD i ⟨[]⟩] := by
  rw [List.take_add_one, getT h]
  rfl
theorem filt_true {α : Type} (xs : List α) : xs.filter (fun _ => true) = xs := List.filter_eq_self.mpr fun _ _ => rfl
theorem getC {xs : List Nat} {i : Nat} (h : i < xs.length) : xs[i]? = some (xs.getD i 0) := by rw [List.getD_eq_getElem?_getD, List.getElem?_eq_getElem h]; rfl
/-- [f(x) for x in xs if p(x)] -/
theorem ev_lcTx {j : Nat} {xs : List Tx} {p : Tx → Bool} {f : Tx → Tx} (h : Ev K Γ tl ρ (Is xs)) (hj : j < ρ.length) (hz : xs.length ≤ 50000) (ht : ∀ x ∈ xs, EvT K Γ t ((wipeE ρ [j]).set j (some ⟨x⟩)) (Is (p x))) (he : ∀ x ∈ xs, p x = true → Ev K Γ te ((wipeE ρ [j]).set j (some ⟨x⟩)) (Is (f x))) :
    Ev K Γ (tLc (iList K tl) (gName j) t te [j]) ρ (Is (⟨(xs.filter p).map f⟩ : FL Tx)) := by
  refine (ev_lcF (β := Tx) (fun i acc => acc = ((xs.take i).filter p).map f) (src_list (xs := xs) (x0 := fun k => xs.getD k ⟨[]⟩) h (fun k hk => getT hk) hj) hz (by simp) rfl fun i acc hi ha => ⟨Is (p (xs.getD i ⟨[]⟩)), ht _ (List.mem_of_getElem? (getT hi)), fun hb => ?_, fun hb => ⟨Is (f (xs.getD i ⟨[]⟩)), he _ (List.mem_of_getElem? (getT hi)) (show true = _ from hb).symm, fun b hb2 => ?_⟩⟩).imp fun y hy => ?_
  · have hb' : p (xs.getD i ⟨[]⟩) = false := (show false = _ from hb).symm
    rw [take1 hi, List.filter_append, ha, List.filter_cons, hb']
    simp
  · have hb' : p (xs.getD i ⟨[]⟩) = true := (show true = _ from hb).symm
    rw [take1 hi, List.filter_append, ha, List.filter_cons, hb', show b = _ from hb2]
    simp
  · show y = _
    have : y.l = ((xs.take xs.length).filter p).map f := hy
    rw [List.take_length] at this
    cases y
    exact congrArg FL.mk this
theorem ev_filt {j : Nat} {xs : List Tx} {p : Tx → Bool} (h : Ev K Γ tl ρ (Is xs)) (hj : j < ρ.length) (hz : xs.length ≤ 50000) (ht : ∀ x ∈ xs, EvT K Γ t ((wipeE ρ [j]).set j (some ⟨x⟩)) (Is (p x))) (he : ∀ x : Tx, Ev K Γ te ((wipeE ρ [j]).set j (some ⟨x⟩)) (Is x)) :
    Ev K Γ (tLc (iList K tl) (gName j) t te [j]) ρ (Is (⟨xs.filter p⟩ : FL Tx)) := ev_is (ev_lcTx (f := id) h hj hz ht fun x _ _ => he x) (by rw [List.map_id])
theorem wp_asgL1 {Δ0 : Gh} {H0 : Hp} {F : List (V × Cell)} {D : Ends} {α : Type} [Rp α] {i : Nat} {a : α} (h : Ev K Γ te ρ (Is a)) (hi : i < ρ.length) (k : Wp K Δ0 H0 Γ F (ρ.set i (some ⟨a⟩)) tNext D) : Wp K Δ0 H0 Γ F ρ (tAsg te (gName i)) D := wp_asgL h hi fun b e => by rw [show b = a from e]; exact k
end
/-! what a comprehension with two for has laid out -/
def partL (L : List Nat) (ws : List Tx) (i j : Nat) : List Tx := step L (ws.take i) ++ (L.take j).map fun c => ⟨(ws.getD i ⟨[]⟩).s ++ [c]⟩
theorem part_more {L : List Nat} {ws : List Tx} {i j : Nat} (h : j < L.length) : partL L ws i j ++ [⟨(ws.getD i ⟨[]⟩).s ++ [L.getD j 0]⟩] = partL L ws i (j + 1) := by
  unfold partL
  rw [List.take_add_one, getC h, List.append_assoc]
  simp
theorem part_next {L : List Nat} {ws : List Tx} {i : Nat} (h : i < ws.length) : partL L ws i L.length = partL L ws (i + 1) 0 := by
  unfold partL
  rw [take1 h, List.take_length]
  unfold step
  rw [List.flatMap_append]
  simp
theorem part_end {L : List Nat} {ws : List Tx} : partL L ws ws.length 0 = step L ws := by
  unfold partL
  rw [List.take_length]
  simp
theorem part_len {L : List Nat} {ws : List Tx} {i j : Nat} : (partL L ws i j).length ≤ ws.length * L.length + L.length := by
  unfold partL
  rw [List.length_append, step_len, List.length_map]
  have h1 : (ws.take i).length ≤ ws.length := List.length_take_le' i _
  have h2 : (L.take j).length ≤ L.length := List.length_take_le' j _
  exact Nat.add_le_add (Nat.mul_le_mul_right _ h1) h2
def subsT (l : List Nat) : List Tx := l.foldl (fun ws c => ws ++ ws.map fun w => ⟨w.s ++ [c]⟩) [⟨[]⟩]
abbrev acosL : List Nat := [97, 99, 111, 115]
abbrev rL : List Nat := [114]
section
variable {P : Program} {w : World} {K : PySem.W.Frag} {mg : Str → Option Value} {base : Heap}
abbrev IvW : Nat → Own → Z.Env → Prop := fun i Γ' ρ' => ∃ a b, ρ' = [some ⟨(⟨acosL⟩ : Tx)⟩, some ⟨(⟨subsT (acosL.take i)⟩ : FL Tx)⟩, a, b]
theorem subs_next : ∀ i, i < 4 → subsT (acosL.take (i + 1)) = subsT (acosL.take i) ++ (subsT (acosL.take i)).map (fun w => ⟨w.s ++ [acosL.getD i 0]⟩) ∧ (subsT (acosL.take i)).length ≤ 8 ∧ ∀ w ∈ subsT (acosL.take i), w.s.length ≤ 4 := by decide
def F__words : Pm (FL Tx) := fun _ cs R => cs = [⟨(⟨acosL⟩ : Tx)⟩] ∧ R = Is ⟨subsT acosL⟩
theorem sc__words : FnScope ["letters", "words", "letter", "word"] ["letters"] (defScope s__words) := ⟨rfl, rfl, rfl, by decide +kernel, rfl, by decide +kernel, by decide +kernel⟩
theorem ok__words (T : Txt K mg) {f : Addr} {fd : FuncData} (D : Df K mg "_words" s__words ["letters"] f fd) : FnOk P w K mg base CX0 2 f fd ["letters"] (spD K F__words) := by
  obtain ⟨_, hI_MAX_THINGS⟩ := T.i_MAX_THINGS
  refine def_ok D.F sc__words (fun Γ cs R g => ?len) (fun cdv A outer s H E hr Γ cs R g => ?_)
  case len => obtain ⟨rfl, _⟩ := g; rfl
  obtain ⟨rfl, rfl⟩ := g
  refine ⟨_, (pss_cons (ps_set (i := 1) sc__words.nd rfl (by first | exact .inl rfl | exact .inr rfl) (pe_lst (pa_cons pe_str pa_nil)))
      (pss_cons (ps_for PassesOwn.never rfl (pi_str (pv 0)) (pg_name (i := 2) sc__words.nd rfl (by first | exact .inl rfl | exact .inr rfl))
        (pss_one (ps_set (i := 1) sc__words.nd rfl (by first | exact .inl rfl | exact .inr rfl) (pe_op op_cat (pv 1) (pe_lc (own := [("word", 3)]) (g := (gName 3)) (tt := tYes) rfl sc__words.nd (pi_listK (pv 1)) (blkOk_by (N := ["letters", "words", "letter", "word"]) (sc := defScope s__words) (by decide +kernel)) (fun _ _ _ _ _ => (pg_name (i := 3) sc__words.nd rfl (by first | exact .inl rfl | exact .inr rfl))) (fun _ _ _ _ _ => pts_nil) (fun _ _ _ _ _ => (pe_op op_add_str (pv 3) (pv 2))))))))
      (pss_one (ps_ret (pv 1))))), fun Δ0 D' hf hn => ?_⟩
  refine wp_asg1 (a := (⟨subsT []⟩ : FL Tx)) (ev_lstF (xs := [(⟨[]⟩ : Tx)]) (ea_1 (ev_strc []) ea_nil) (by decide)) (ltr rfl) ?_
  refine wp_for IvW (src_str (x := ⟨acosL⟩) (c0 := fun i => acosL.getD i 0) (ev_var (i := 0)) (fun k hk => getC hk) (j := 2) (ltr rfl)) ⟨none, none, rfl⟩ (fun i Γ' ρ' h => by obtain ⟨a, b, rfl⟩ := h; rfl) ?_ ?_
  · rintro i Γ1 ρ' F' hi ⟨a, b, rfl⟩
    obtain ⟨e1, e2, e3⟩ := subs_next i hi
    refine wp_asgL1 (a := (⟨subsT (acosL.take (i + 1))⟩ : FL Tx)) (ev_is (ev_op1 (ev_var (i := 1)) (ev_lcTx (p := fun _ => true) (f := fun w => ⟨w.s ++ [acosL.getD i 0]⟩) (ev_isF (ev_var (i := 1))) (ltr rfl) (by omega) (fun x hx => et_yes) fun x hx _ => ev_op1 (ev_var (i := 3)) (ev_var (i := 2)) (o2_addS (x := x) (y := ⟨[acosL.getD i 0]⟩) (by have := e3 x hx; simp; omega))) (o2_catF ?_)) ?_) (ltr rfl) (wp_turn (Iv := IvW) ⟨_, _, rfl⟩ rfl)
    · show (subsT (acosL.take i)).length + _ ≤ _
      rw [List.length_map, filt_true]
      omega
    · rw [e1, filt_true]
  · rintro Γ1 ρ' F' ⟨a, b, rfl⟩
    exact wp_ret hf (ev_var (i := 1))
abbrev IvP (l : List Nat) (r n : Nat) : Nat → Own → Z.Env → Prop := fun i Γ' ρ' => ∃ a b c, ρ' = [some ⟨(n : Int)⟩, some ⟨(⟨l⟩ : Tx)⟩, some ⟨(r : Int)⟩, some ⟨(⟨gen l r i⟩ : FL Tx)⟩, a, b, c]
def F__parts : Pm (FL Tx) := fun _ cs R => ∃ (n : Nat) (l : List Nat) (r : Nat), cs = [⟨(n : Int)⟩, ⟨(⟨l⟩ : Tx)⟩, ⟨(r : Int)⟩] ∧ n ≤ 5 ∧ Good l ∧ R = Is ⟨parts l r n⟩
theorem sc__parts : FnScope ["size", "letters", "reds", "words", "_", "word", "letter"] ["size", "letters", "reds"] (defScope s__parts) := ⟨rfl, rfl, rfl, by decide +kernel, rfl, by decide +kernel, by decide +kernel⟩
theorem ok__parts (T : Txt K mg) {f : Addr} {fd : FuncData} (D : Df K mg "_parts" s__parts ["size", "letters", "reds"] f fd) : FnOk P w K mg base CX0 2 f fd ["size", "letters", "reds"] (spD K F__parts) := by
  obtain ⟨_, hI_MAX_THINGS⟩ := T.i_MAX_THINGS
  refine def_ok D.F sc__parts (fun Γ cs R g => ?len) (fun cdv A outer s H E hr Γ cs R g => ?_)
  case len => obtain ⟨n, l, r, rfl, _⟩ := g; rfl
  obtain ⟨n, l, r, rfl, n5, gd, rfl⟩ := g
  refine ⟨_, (pss_cons (ps_set (i := 3) sc__parts.nd rfl (by first | exact .inl rfl | exact .inr rfl) (pe_lst (pa_cons pe_str pa_nil)))
      (pss_cons (ps_for PassesOwn.never rfl (pi_range1 (by rfl) T.z_range (pa_cons (pv 0) pa_nil)) (pg_name (i := 4) sc__parts.nd rfl (by first | exact .inl rfl | exact .inr rfl))
        (pss_cons (ps_setLc2 (i := 3) (own := [("word", 5), ("letter", 6)]) (vs1 := [6]) (g := (gName 5)) (g1 := (gName 6)) (tt := tYes) (tt1 := tYes) rfl sc__parts.nd rfl rfl (by kernel_rfl) (pi_listK (pv 3)) (blkOk_by (N := ["size", "letters", "reds", "words", "_", "word", "letter"]) (sc := defScope s__parts) (by decide +kernel)) (by decide) (fun _ _ _ _ _ => (pg_name (i := 5) sc__parts.nd rfl (by first | exact .inl rfl | exact .inr rfl))) (fun _ _ _ _ _ => pts_nil) (fun _ _ _ _ _ => (pi_str (pe_op op_add_str (pv 1) pe_str))) (fun _ _ _ _ _ => (pg_name (i := 6) sc__parts.nd rfl (by first | exact .inl rfl | exact .inr rfl))) (fun _ _ _ _ _ => pts_nil) (fun _ _ _ _ _ => (pe_op op_add_str (pv 5) (pv 6))))
        (pss_one (ps_setLc (i := 3) (own := [("word", 5)]) (g := (gName 5)) (tt := _) rfl sc__parts.nd rfl rfl (sw_true rfl rfl rfl (by decide +kernel)) (pi_listK (pv 3)) (blkOk_by (N := ["size", "letters", "reds", "words", "_", "word", "letter"]) (sc := defScope s__parts) (by decide +kernel)) (fun _ _ _ _ _ => (pg_name (i := 5) sc__parts.nd rfl (by first | exact .inl rfl | exact .inr rfl))) (fun _ _ _ _ _ => (pts_one (pt_cmpR op_le (pe_scountK (pv 5) (pa_cons pe_str pa_nil)) (pv 2) (nomark _)))) (fun _ _ _ _ _ => (pv 5))))))
      (pss_one (ps_ret (pe_callB cr_sortedTxK (by rfl) T.z_sorted (by decide +kernel) (pa_cons (pe_lc (own := [("word", 5)]) (g := (gName 5)) (tt := _) rfl sc__parts.nd (pi_listK (pv 3)) (blkOk_by (N := ["size", "letters", "reds", "words", "_", "word", "letter"]) (sc := defScope s__parts) (by decide +kernel)) (fun _ _ _ _ _ => (pg_name (i := 5) sc__parts.nd rfl (by first | exact .inl rfl | exact .inr rfl))) (fun _ _ _ _ _ => (pts_one (pt_cmpR op_eq (pe_scountK (pv 5) (pa_cons pe_str pa_nil)) (pv 2) (nomark _)))) (fun _ _ _ _ _ => (pv 5))) pa_nil)))))), fun Δ0 D' hf hn => ?_⟩
  have pw5 : ∀ {i : Nat}, i ≤ 5 → 5 ^ i ≤ 3125 := fun hi => Nat.pow_le_pow_right (n := 5) (by decide) hi
  have l4 := gd.len
  refine wp_asg1 (a := (⟨gen l r 0⟩ : FL Tx)) (ev_lstF (xs := [(⟨[]⟩ : Tx)]) (ea_1 (ev_strc []) ea_nil) (by decide)) (ltr rfl) ?_
  refine wp_for (IvP l r n) (src_rng1 (n := n) (ea_1 (ev_var (i := 0)) ea_nil) (by omega) (ltr rfl)) ⟨none, none, none, rfl⟩ (fun i Γ' ρ' h => by obtain ⟨a, b, c, rfl⟩ := h; rfl) ?_ ?_
  · rintro i Γ1 ρ' F' hi ⟨a, b, c, rfl⟩
    have g1 := gen_len gd (r := r) i
    have p1 := pw5 (i := i) (by omega)
    have sl : (step (l ++ [114]) (gen l r i)).length ≤ 15625 := by
      rw [step_len, List.length_append]
      exact Nat.le_trans (Nat.mul_le_mul (Nat.le_trans g1 p1) (show l.length + [114].length ≤ 5 by simp; omega)) (by decide)
    refine wp_asg1 (a := (⟨step (l ++ [114]) (gen l r i)⟩ : NL Tx)) ((ev_lc2 (β := Tx) (m := fun _ => (l ++ [114]).length) (fun i' j acc => acc = partL (l ++ [114]) (gen l r i) i' j) (src_list (xs := gen l r i) (x0 := fun k => (gen l r i).getD k ⟨[]⟩) (ev_isF (ev_var (i := 3))) (fun k hk => getT hk) (j := 5) (ltr rfl)) (by decide) (fun i' _ => src_str (x := ⟨l ++ [114]⟩) (c0 := fun k => (l ++ [114]).getD k 0) (ev_op1 (ev_var (i := 1)) (ev_strc [114]) (o2_addS (x := ⟨l⟩) (y := ⟨[114]⟩) (by simp; omega))) (fun k hk => getC hk) (j := 6) (ltr rfl)) (by decide) ?_ (fun i' j acc h => ?_) (fun i' j acc h1 h2 h => ⟨Is (⟨((gen l r i).getD i' ⟨[]⟩).s ++ [(l ++ [114]).getD j 0]⟩ : Tx), ?_, fun b' hb' => ?_⟩) (fun i' acc h1 h => ?_)).imp fun y hy => ?_) (ltr rfl) ?_
    · unfold partL; simp [step]
    · rw [h]
      refine Nat.le_trans part_len ?_
      rw [← step_len]
      have : (l ++ [114]).length ≤ 5 := by simp; omega
      omega
    · have hw := (mem_gen.mp (List.mem_of_getElem? (getT h1))).1.1
      exact ev_op1 (ev_var (i := 5)) (ev_var (i := 6)) (o2_addS (x := (gen l r i).getD i' ⟨[]⟩) (y := ⟨[(l ++ [114]).getD j 0]⟩) (by rw [hw]; simp; omega))
    · rw [show b' = _ from hb', h, part_more h2]
    · rw [h, part_next h1]
    · have : y.l = partL (l ++ [114]) (gen l r i) (gen l r i).length 0 := hy
      rw [part_end] at this
      cases y
      exact congrArg NL.mk this
    · refine wp_asgL1 (a := (⟨gen l r (i + 1)⟩ : FL Tx)) (ev_filt (p := fun w => decide (w.s.count 114 ≤ r)) (ev_ofNL (y := (⟨step (l ++ [114]) (gen l r i)⟩ : NL Tx)) (ev_var (i := 3))) (ltr rfl) (show (step (l ++ [114]) (gen l r i)).length ≤ 50000 by omega) (fun x _ => et_is (et_test (ev_op1 (ev_countT (c := 114) (ev_var (i := 5) (a := x)) (ev_strc [114])) (ev_var (i := 2) (a := (r : Int))) (o2_B0 (g := fun i j => decide (i ≤ j))))) (by simp [Int.ofNat_le])) fun x => ev_var (i := 5)) (ltr rfl) (wp_turn (Iv := IvP l r n) ⟨_, _, _, rfl⟩ rfl)
  · rintro Γ1 ρ' F' ⟨a, b, c, rfl⟩
    have g1 := gen_len gd (r := r) n
    have p1 := pw5 n5
    exact wp_ret hf (ev_cb (ev_isF (ev_filt (p := fun w => decide (w.s.count 114 = r)) (ev_isF (ev_var (i := 3))) (ltr rfl) (by omega) (fun x _ => et_is (et_test (ev_op1 (ev_countT (c := 114) (ev_var (i := 5) (a := x)) (ev_strc [114])) (ev_var (i := 2) (a := (r : Int))) o2_eqI)) (by simp [Int.ofNat_inj])) fun x => ev_var (i := 5))) (o1_sortedF (partsS_nodup gd)))
end
end K31

set_option Elab.async false
set_option linter.all false
set_option maxRecDepth 100000
set_option maxHeartbeats 4000000
namespace K31
open PySem PySem.Spec PyProof.Rows L2 Z K00
theorem flat_at {hs : List Tx} {ts : Tx → List Tx} {t s : Nat} {w x : Tx} (h1 : hs[t]? = some w) (h2 : (ts w)[s]? = some x) : (hs.flatMap ts)[((hs.take t).flatMap ts).length + s]? = some x := by
  obtain ⟨hlt, hw⟩ := List.getElem?_eq_some_iff.mp h1
  obtain ⟨hs2, _⟩ := List.getElem?_eq_some_iff.mp h2
  have e : hs = hs.take t ++ w :: hs.drop (t + 1) := by
    rw [← hw]
    exact (List.take_append_drop t hs).symm.trans (congrArg (hs.take t ++ ·) (List.drop_eq_getElem_cons hlt))
  conv => lhs; arg 1; rw [e, List.flatMap_append, List.flatMap_cons]
  rw [List.getElem?_append_right (Nat.le_add_right _ _), Nat.add_sub_cancel_left, List.getElem?_append_left hs2]
  exact h2
theorem flat_step {hs : List Tx} {ts : Tx → List Tx} {t : Nat} (h : t < hs.length) : ((hs.take (t + 1)).flatMap ts).length = ((hs.take t).flatMap ts).length + (ts (hs.getD t ⟨[]⟩)).length := by
  rw [take1 h, List.flatMap_append, List.length_append]
  simp
theorem good_all : ∀ t ∈ subsT acosL, t.s.Nodup ∧ 114 ∉ t.s ∧ t.s.length ≤ 4 := by decide
theorem good_of {l : List Nat} (h : (⟨l⟩ : Tx) ∈ subsT acosL) : Good l := ⟨(good_all _ h).1, (good_all _ h).2.1, (good_all _ h).2.2⟩
def SP_paintings : List V → List V → Prop := fun vs out => ∃ (n : Nat) (l : List Nat), vs = [.int (n : Int), .str ⟨l.toArray⟩] ∧ n ≤ 9 ∧ (⟨l⟩ : Tx) ∈ subsT acosL ∧ out = (paintL l n).map Flat.val
section
variable {P : Program} {w : World} {K : PySem.W.Frag} {mg : Str → Option Value} {base : Heap}
abbrev blk (l : List Nat) (n : Nat) (w : Tx) : List Tx := (tailsL l (n - n / 2) w).map fun t => ⟨w.s ++ t.s⟩
abbrev fH (l : List Nat) (n : Nat) (t : Nat) : Nat := (((headsL l (n / 2)).take t).flatMap (blk l n)).length
abbrev IvH (l : List Nat) (n : Nat) : Z.Env → Prop := fun ρ' => ∃ (a b : Option Tx), ρ' = [some ⟨(n : Int)⟩, some ⟨(⟨l⟩ : Tx)⟩, some ⟨((n / 2 : Nat) : Int)⟩, some ⟨(⟨parts l 0 (n - n / 2)⟩ : FL Tx)⟩, some ⟨(⟨parts l 1 (n - n / 2)⟩ : FL Tx)⟩, a.map fun x => ⟨x⟩, b.map fun x => ⟨x⟩]
abbrev IvT (l : List Nat) (n : Nat) (w : Tx) : Z.Env → Prop := fun ρ' => ∃ (b : Option Tx), ρ' = [some ⟨(n : Int)⟩, some ⟨(⟨l⟩ : Tx)⟩, some ⟨((n / 2 : Nat) : Int)⟩, some ⟨(⟨parts l 0 (n - n / 2)⟩ : FL Tx)⟩, some ⟨(⟨parts l 1 (n - n / 2)⟩ : FL Tx)⟩, some ⟨w⟩, b.map fun x => ⟨x⟩]
theorem gsc_paintings : GScope ["many", "letters", "half", "plain", "red", "head", "tail"] ["many", "letters"] (defScope s_paintings) := ⟨rfl, rfl, rfl, by decide +kernel, rfl, by decide +kernel, by decide +kernel⟩
theorem okY_paintings (T : Txt K mg) {f : Addr} {fd : FuncData} {ds : List Value} (D : DfK K mg "paintings" s_paintings ["many", "letters"] f fd ds) {f_check_many : Addr} {fd_check_many : FuncData} (D_check_many : Df K mg "check_many" s_check_many ["many"] f_check_many fd_check_many) (G_check_many : FnOk P w K mg base CX0 4 f_check_many fd_check_many ["many"] (spD K F_check_many)) {f__parts : Addr} {fd__parts : FuncData} (D__parts : Df K mg "_parts" s__parts ["size", "letters", "reds"] f__parts fd__parts) (G__parts : FnOk P w K mg base CX0 2 f__parts fd__parts ["size", "letters", "reds"] (spD K F__parts)) {f__words : Addr} {fd__words : FuncData} (D__words : Df K mg "_words" s__words ["letters"] f__words fd__words) (G__words : FnOk P w K mg base CX0 2 f__words fd__words ["letters"] (spD K F__words)) : Zg.GFnY P w K mg base 6 f fd ["many", "letters"] SP_paintings := by
  obtain ⟨_, hI_MAX_THINGS⟩ := T.i_MAX_THINGS
  refine Zg.def_okY D.F gsc_paintings (by decide +kernel) (fun vs out h => ?len) fun cdv A outer hc pn B a g vs out O hg hr h => ?_
  case len => obtain ⟨n, l, rfl, _⟩ := h; rfl
  obtain ⟨n, l, rfl, n9, hl, rfl⟩ := h
  have gd := good_of hl
  have l4 := gd.len
  refine ⟨_, [⟨(n : Int)⟩, ⟨(⟨l⟩ : Tx)⟩], (Zg.by_cons (Zg.sy_plain fun _ => (ps_expr (pe_call G_check_many (hr.mono (by decide)) (by rfl) D_check_many.g D_check_many.kp D_check_many.b .nil pass0 (pa_cons (pv 0) pa_nil))))
      (Zg.by_cons (Zg.sy_plain fun _ => (ps_if (PW.pt (pw_or (pt_not (pt_val (pe_callB call_isK (by rfl) T.z_isinstance (by decide +kernel) (pa_cons (pv 1) (pa_cons (pe_bltn (v := .ty "str") (u := .type "str") (by rfl) T.z_str (by decide +kernel) rfl) pa_nil))))) (pw_or1 (pt_cmpR op_notInK (pv 1) (pe_call G__words (hr.mono (by decide)) (by rfl) D__words.g D__words.kp D__words.b .nil pass0 (pa_cons pe_str pa_nil)) (by rfl))))) (pss_one ps_never) pss_nil))
      (Zg.by_cons (Zg.sy_plain fun _ => (ps_set (i := 2) gsc_paintings.nd rfl (by first | exact .inl rfl | exact .inr rfl) (pe_op op_fdivN (pv 0) pe_int)))
      (Zg.by_cons (Zg.sy_plain fun _ => (ps_set (i := 3) gsc_paintings.nd rfl (by first | exact .inl rfl | exact .inr rfl) (pe_call G__parts (hr.mono (by decide)) (by rfl) D__parts.g D__parts.kp D__parts.b .nil pass0 (pa_cons (pe_op op_sub (pv 0) (pv 2)) (pa_cons (pv 1) (pa_cons pe_int pa_nil))))))
      (Zg.by_cons (Zg.sy_plain fun _ => (ps_set (i := 4) gsc_paintings.nd rfl (by first | exact .inl rfl | exact .inr rfl) (pe_call G__parts (hr.mono (by decide)) (by rfl) D__parts.g D__parts.kp D__parts.b .nil pass0 (pa_cons (pe_op op_sub (pv 0) (pv 2)) (pa_cons (pv 1) (pa_cons pe_int pa_nil))))))
      (Zg.by_cons (Zg.sy_for (fun _ => (pi_listK (pe_callB cr_sortedTxK (by rfl) T.z_sorted (by decide +kernel) (pa_cons (pe_op op_cat (pe_call G__parts (hr.mono (by decide)) (by rfl) D__parts.g D__parts.kp D__parts.b .nil pass0 (pa_cons (pv 2) (pa_cons (pv 1) (pa_cons pe_int pa_nil)))) (pe_call G__parts (hr.mono (by decide)) (by rfl) D__parts.g D__parts.kp D__parts.b .nil pass0 (pa_cons (pv 2) (pa_cons (pv 1) (pa_cons pe_int pa_nil))))) pa_nil)))) (fun _ => (pg_name (i := 5) gsc_paintings.nd rfl (by first | exact .inl rfl | exact .inr rfl))) (Zg.by_cons (Zg.sy_for (fun _ => (pi_listK (pe_ifExp (pt_cmpR op_in_str pe_str (pv 5) (by rfl)) (pv 3) (pv 4)))) (fun _ => (pg_name (i := 6) gsc_paintings.nd rfl (by first | exact .inl rfl | exact .inr rfl))) (Zg.by_cons (Zg.sy_yield O hg (fun _ => (pe_op op_add_str (pv 5) (pv 6))) rfl)
      Zg.by_nil))
      Zg.by_nil))
      Zg.by_nil)))))), ⟨rfl, rfl, trivial⟩, ?_⟩
  refine Zg.wpy_pl0 (wp_drop (ev_call1 (ea_1 (ev_var (i := 0)) ea_nil) ⟨n, rfl, n9, rfl⟩) (Zg.wpy_rest ?_))
  refine Zg.wpy_pl0 (wp_no ?_ (et_or (et_not (et_B (ev_isi (ev_var (i := 1)) ty_tx (kit_ty (r := true) (by decide +kernel))))) fun _ => et_test (ev_op1 (ev_var (i := 1)) (ev_isF (ev_call1 (ea_1 (ev_strc acosL) ea_nil) ⟨rfl, rfl⟩)) o2_notInLT)) (Zg.wpy_rest ?_))
  · rw [decide_eq_true hl]
    rfl
  refine Zg.wpy_pl0 (wp_asg1 (a := ((n / 2 : Nat) : Int)) (ev_is (ev_op1 (ev_var (i := 0)) ev_int (o2_I (C := CDivN) (g := Int.fdiv) ⟨by omega, by decide⟩)) ?_) (ltr rfl) (Zg.wpy_rest ?_))
  · show Int.fdiv (n : Int) 2 = _
    rw [Int.fdiv_eq_ediv_of_nonneg _ (by decide)]
    rfl
  have arg : ∀ {Γ : Z.Own} {ρ : Z.Env}, ρ[0]? = some (some ⟨(n : Int)⟩) → ρ[2]? = some (some ⟨((n / 2 : Nat) : Int)⟩) → Ev K Γ (tOp (rI0 fun i j => .int (i - j)) (tVar 0) (tVar 2)) ρ (Is ((n - n / 2 : Nat) : Int)) := fun h1 h2 => ev_is (ev_op1 (ev_var h1) (ev_var h2) (o2_I0 (g := fun i j => i - j))) (by omega)
  refine Zg.wpy_pl0 (wp_asg1 (a := (⟨parts l 0 (n - n / 2)⟩ : FL Tx)) (ev_call1 (ea_1 (arg rfl rfl) (ea_1 (ev_var (i := 1)) (ea_1 ev_int ea_nil))) ⟨n - n / 2, l, 0, rfl, by omega, gd, rfl⟩) (ltr rfl) (Zg.wpy_rest ?_))
  refine Zg.wpy_pl0 (wp_asg1 (a := (⟨parts l 1 (n - n / 2)⟩ : FL Tx)) (ev_call1 (ea_1 (arg rfl rfl) (ea_1 (ev_var (i := 1)) (ea_1 ev_int ea_nil))) ⟨n - n / 2, l, 1, rfl, by omega, gd, rfl⟩) (ltr rfl) (Zg.wpy_rest ?_))
  have pl := paint_len gd n9
  have sz : 4000000 < sizeLine := by decide
  have p5 : 5 ^ (n / 2) ≤ 625 := Nat.pow_le_pow_right (n := 5) (i := n / 2) (j := 4) (by decide) (by omega)
  refine Zg.wpy_one (Zg.wpy_for (xs := headsL l (n / 2)) (j := 5) (IvH l n) (fH l n) (ev_cb (x := parts l 0 (n / 2) ++ parts l 1 (n / 2)) (ev_isF (ev_op1 (ev_call1 (ea_1 (ev_var (i := 2)) (ea_1 (ev_var (i := 1)) (ea_1 ev_int ea_nil))) ⟨n / 2, l, 0, rfl, by omega, gd, rfl⟩) (ev_call1 (ea_1 (ev_var (i := 2)) (ea_1 (ev_var (i := 1)) (ea_1 ev_int ea_nil))) ⟨n / 2, l, 1, rfl, by omega, gd, rfl⟩) (o2_catF ?_))) (o1_sortedF both_nd)) ⟨none, none, rfl⟩ rfl (fun ρ' h => by obtain ⟨a, b, rfl⟩ := h; show 5 < 7; decide) ?_ ?_) fun _ _ _ _ => rfl
  · have := parts_len gd (r := 0) (n := n / 2)
    have := parts_len gd (r := 1) (n := n / 2)
    show (parts l 0 (n / 2)).length + (parts l 1 (n / 2)).length ≤ _
    omega
  · rintro t ρ' F' ht ⟨a, b, rfl⟩
    generalize hw : (headsL l (n / 2)).getD t ⟨[]⟩ = v
    have hv : (headsL l (n / 2))[t]? = some v := by rw [← hw]; exact getT ht
    have hvl := (mem_heads.mp (List.mem_of_getElem? hv)).1.1
    refine Zg.wpy_one (Zg.wpy_for (xs := tailsL l (n - n / 2) v) (j := 6) (IvT l n v) (fun s => fH l n t + s) (ev_if (b := decide (114 ∈ v.s)) (et_test (ev_op1 (ev_strc [114]) (ev_var (i := 5) (a := v)) o2_inS1)) (fun h => ?_) (fun h => ?_)) ⟨b, rfl⟩ rfl (fun ρ' h => by obtain ⟨b, rfl⟩ := h; show 6 < 7; decide) ?_ ?_) fun _ _ _ _ => rfl
    · refine ev_is (ev_var (i := 3)) ?_
      unfold tailsL
      rw [if_pos (of_decide_eq_true h)]
    · refine ev_is (ev_var (i := 4)) ?_
      unfold tailsL
      rw [if_neg (of_decide_eq_false h)]
    · rintro s ρ' F2 hs ⟨b, rfl⟩
      generalize hx : (tailsL l (n - n / 2) v).getD s ⟨[]⟩ = x
      have hx2 : (tailsL l (n - n / 2) v)[s]? = some x := by rw [← hx]; exact getT hs
      have hxl : x.s.length = n - n / 2 := by
        have := List.mem_of_getElem? hx2
        unfold tailsL at this
        split at this
        · exact (mem_parts.mp this).1.1
        · exact (mem_parts.mp this).1.1
      have hat : (paintL l n)[fH l n t + s]? = some ⟨v.s ++ x.s⟩ := flat_at (ts := blk l n) hv (by rw [List.getElem?_map, hx2]; rfl)
      have hlt := (List.getElem?_eq_some_iff.mp hat).1
      refine Zg.wpy_one (Zg.wpy_yield (x := ⟨v.s ++ x.s⟩) (ev_op1 (ev_var (i := 5) (a := v)) (ev_var (i := 6) (a := x)) (o2_addS (by rw [hvl, hxl]; omega))) (by rw [List.getElem?_map, hat]; rfl) (by omega) ?_ fun σ H e f => ⟨rfl, _, ⟨some x, rfl⟩, e, f⟩) fun _ _ _ _ => rfl
      exact .cons Zg.safe_int (.cons Zg.safe_tx (.cons Zg.safe_int (.cons Zg.safe_fl (.cons Zg.safe_fl (.cons Zg.safe_tx (.cons Zg.safe_tx .nil))))))
    · rintro ρ' σ H ⟨b, rfl⟩ e f
      refine ⟨?_, _, ⟨some v, b, rfl⟩, e, f⟩
      show fH l n t + (tailsL l (n - n / 2) v).length = fH l n (t + 1)
      unfold fH
      rw [flat_step ht, hw, List.length_map]
  · rintro ρ' σ H ⟨a, b, rfl⟩ e f
    show fH l n (headsL l (n / 2)).length = ((paintL l n).map Flat.val).length
    unfold fH
    rw [List.length_map, List.take_length]
    rfl
end
end K31

set_option Elab.async false
set_option linter.all false
set_option maxRecDepth 100000
set_option maxHeartbeats 4000000
namespace K31
open PySem PySem.Spec PyProof.Rows L2 Z K00
section
variable {K : PySem.W.Frag} {Γ : Own} {ρ : Z.Env} {ta tb : TE}
/-- x op y, x a list of one's own -/
theorem ev_opO {r : R2} {p : Addr} {xs : List Tx} {y : List Tx} {b : Bool} (hm : OwnL p xs ∈ Γ) (ho : Ev K Γ ta ρ (Is (⟨p⟩ : Z.Loc))) (hb : Ev K Γ tb ρ (Is y)) (hr : Op2 K r xs y (Is b)) : Ev K Γ (tOp r ta tb) ρ (Is b) := fun Δ σ H Q s hh e k =>
  ho Δ σ H _ s hh e fun v H1 a pa e1 r1 => by
    have ea : a = ⟨p⟩ := pa
    subst ea
    have ev : v = .ref p := r1
    subst ev
    refine hb Δ σ H1 _ s e1.2 (e.mono e1.1) fun w H2 c pc e2 r2 => ?_
    have ec : c = y := pc
    subst ec
    obtain ⟨u, hu, iu⟩ := e2.2 p _ (s _ hm)
    have iu' : u = HO.lst _ := iu
    subst iu'
    have r0 : Rp.rp K Zg.ghN H2 (.ref p) xs := ⟨p, _, rfl, .inl ⟨rfl, .inl hu⟩, .inl (.inl hu), all2_flat xs⟩
    refine hr Zg.ghN H2 (.ref p) w Q (Zg.hold0 H2) r0 (Rp.weak (fun _ _ _ _ => rfl) r2) fun z H3 d pd e3 r3 => ?_
    refine k z H3 d pd (e1.trans (e2.trans ⟨fun a o _ q => e3.1 a o rfl q, fun a I q => ?_⟩)) ?_
    · obtain ⟨o, ho, io⟩ := e2.2 a I q
      exact ⟨o, e3.1 a o rfl ho, io⟩
    · exact r3
end
section
variable {P : Program} {w : World} {K : PySem.W.Frag} {mg : Str → Option Value} {base : Heap}
abbrev IvPw (b n : Nat) : Nat → Own → Z.Env → Prop := fun i Γ' ρ' => ∃ a, ρ' = [some ⟨(b : Int)⟩, some ⟨(n : Int)⟩, some ⟨((b ^ i : Nat) : Int)⟩, a]
def F__law_power : Pm Int := fun _ cs R => ∃ b n : Nat, cs = [⟨(b : Int)⟩, ⟨(n : Int)⟩] ∧ b ≤ 4 ∧ n ≤ 9 ∧ R = Is ((b ^ n : Nat) : Int)
theorem sc__law_power : FnScope ["_law_base", "_law_many", "_law_found", "_law_turn"] ["_law_base", "_law_many"] (defScope s__law_power) := ⟨rfl, rfl, rfl, by decide +kernel, rfl, by decide +kernel, by decide +kernel⟩
theorem ok__law_power (T : Txt K mg) {f : Addr} {fd : FuncData} (D : Df K mg "_law_power" s__law_power ["_law_base", "_law_many"] f fd) : FnOk P w K mg base CX0 2 f fd ["_law_base", "_law_many"] (spD K F__law_power) := by
  obtain ⟨_, hI_MAX_THINGS⟩ := T.i_MAX_THINGS
  refine def_ok D.F sc__law_power (fun Γ cs R g => ?len) (fun cdv A outer s H E hr Γ cs R g => ?_)
  case len => obtain ⟨b, n, rfl, _⟩ := g; rfl
  obtain ⟨b, n, rfl, b4, n9, rfl⟩ := g
  refine ⟨_, (pss_cons (ps_set (i := 2) sc__law_power.nd rfl (by first | exact .inl rfl | exact .inr rfl) pe_int)
      (pss_cons (ps_for PassesOwn.never rfl (pi_range1 (by rfl) T.z_range (pa_cons (pv 1) pa_nil)) (pg_name (i := 3) sc__law_power.nd rfl (by first | exact .inl rfl | exact .inr rfl))
        (pss_one (ps_set (i := 2) sc__law_power.nd rfl (by first | exact .inl rfl | exact .inr rfl) (pe_op op_mul (pv 2) (pv 0)))))
      (pss_one (ps_ret (pv 2))))), fun Δ0 D' hf hn => ?_⟩
  refine wp_asg1 (a := ((b ^ 0 : Nat) : Int)) ev_int (ltr rfl) ?_
  refine wp_for (IvPw b n) (src_rng1 (n := n) (ea_1 (ev_var (i := 1)) ea_nil) (by omega) (ltr rfl)) ⟨none, rfl⟩ (fun i Γ' ρ' h => by obtain ⟨a, rfl⟩ := h; rfl) ?_ ?_
  · rintro i Γ1 ρ' F' hi ⟨a, rfl⟩
    refine wp_asgL1 (a := ((b ^ (i + 1) : Nat) : Int)) (ev_is (ev_op1 (ev_var (i := 2)) (ev_var (i := 0) (a := (b : Int))) (o2_I (C := CMul) (g := fun i j => i * j) (.inr ⟨by omega, by omega⟩))) ?_) (ltr rfl) (wp_turn (Iv := IvPw b n) ⟨some ⟨(i : Int)⟩, rfl⟩ rfl)
    show ((b ^ i : Nat) : Int) * (b : Int) = _
    rw [Nat.pow_succ, Int.natCast_mul]
  · rintro Γ1 ρ' F' ⟨a, rfl⟩
    exact wp_ret hf (ev_var (i := 2))
def F__law_some : Pm (List Tx) := fun Γ cs R => ∃ (p : Addr) (xs : List Tx), cs = [⟨(⟨p⟩ : Z.Loc)⟩, ⟨xs⟩] ∧ (p, DiceI) ∈ Γ ∧ xs.length ≤ 1000 ∧ R = fun ys => ys.Sublist xs
theorem sc__law_some : FnScope ["_law_dice_here", "_law_items", "_law_item"] ["_law_dice_here", "_law_items"] (defScope s__law_some) := ⟨rfl, rfl, rfl, by decide +kernel, rfl, by decide +kernel, by decide +kernel⟩
theorem ok__law_some (T : Txt K mg) {f : Addr} {fd : FuncData} (D : Df K mg "_law_some" s__law_some ["_law_dice_here", "_law_items"] f fd) {f__law_roll : Addr} {fd__law_roll : FuncData} (D__law_roll : Df K mg "_law_roll" s__law_roll ["_law_dice_here", "_law_total"] f__law_roll fd__law_roll) (G__law_roll : FnOk P w K mg base CX0 2 f__law_roll fd__law_roll ["_law_dice_here", "_law_total"] (spD K F__law_roll)) : FnOk P w K mg base CX0 3 f fd ["_law_dice_here", "_law_items"] (spD K F__law_some) := by
  obtain ⟨_, hI_MAX_THINGS⟩ := T.i_MAX_THINGS
  refine def_ok D.F sc__law_some (fun Γ cs R g => ?len) (fun cdv A outer s H E hr Γ cs R g => ?_)
  case len => obtain ⟨p, xs, rfl, _⟩ := g; rfl
  obtain ⟨p, xs, rfl, hp, hz, rfl⟩ := g
  refine ⟨_, (pss_one (ps_ret (pe_lc (own := [("_law_item", 2)]) (g := (gName 2)) (tt := _) rfl sc__law_some.nd (pi_listK (pv 1)) (blkOk_by (N := ["_law_dice_here", "_law_items", "_law_item"]) (sc := defScope s__law_some) (by decide +kernel)) (fun _ _ _ _ _ => (pg_name (i := 2) sc__law_some.nd rfl (by first | exact .inl rfl | exact .inr rfl))) (fun _ _ _ _ _ => (pts_one (pt_cmpR op_eq (pe_call G__law_roll (hr.mono (by decide)) (by rfl) D__law_roll.g D__law_roll.kp D__law_roll.b .nil pass0 (pa_cons (pv 0) (pa_cons pe_int pa_nil))) pe_int (nomark _)))) (fun _ _ _ _ _ => (pv 2))))), fun Δ0 D' hf hn => ?_⟩
  refine wp_ret hf ((ev_lc (fun i (acc : List Tx) => acc.Sublist (xs.take i) ∧ acc.length ≤ i) (src_list (xs := xs) (x0 := fun i => xs.getD i ⟨[]⟩) (ev_var (i := 1)) (fun i hi => getT hi) (j := 2) (ltr rfl)) (by omega) (by decide) ⟨by simp, Nat.le_refl _⟩ fun i acc hi h => ⟨_, et_eqP (ev_call1 (ea_1 (ev_var (i := 0)) (ea_1 ev_int ea_nil)) ⟨p, 2, rfl, hp, by decide, by decide, rfl⟩) ev_int, fun _ => ⟨?_, Nat.le_succ_of_le h.2⟩, fun _ => ⟨Is (xs.getD i ⟨[]⟩), ev_var (i := 2), fun b hb => ⟨?_, ?_⟩⟩⟩).imp fun ys hy => ?_)
  · rw [take1 hi]
    exact h.1.trans (List.sublist_append_left _ _)
  · rw [take1 hi, show b = _ from hb]
    exact h.1.append (List.Sublist.refl _)
  · rw [List.length_append]
    exact Nat.succ_le_succ h.2
  · have := hy.1
    rw [List.take_length] at this
    exact this
abbrev IvE (l : List Nat) (n : Nat) : Nat → Own → Z.Env → Prop := fun i Γ' ρ' => ∃ a b c d, ρ' = [some ⟨(n : Int)⟩, some ⟨(⟨l⟩ : Tx)⟩, some ⟨(⟨lawW (menu l) i⟩ : NL Tx)⟩, some ⟨(⟨menu l⟩ : FL Tx)⟩, a, b, c, d]
abbrev IvE2 (Γ : Own) (p : Addr) (l : List Nat) (n i : Nat) (x : Option Cell) : Nat → Own → Z.Env → Prop := fun k Γ' ρ' => Γ' = OwnL p (((lawW (menu l) i).take k).flatMap (extM (menu l))) :: Γ ∧ ∃ c d, ρ' = [some ⟨(n : Int)⟩, some ⟨(⟨l⟩ : Tx)⟩, some ⟨(⟨lawW (menu l) i⟩ : NL Tx)⟩, some ⟨(⟨menu l⟩ : FL Tx)⟩, x, some ⟨(⟨p⟩ : Z.Loc)⟩, c, d]
def F__law_every_painting : Pm (FL Tx) := fun _ cs R => ∃ (n : Nat) (l : List Nat), cs = [⟨(n : Int)⟩, ⟨(⟨l⟩ : Tx)⟩] ∧ n ≤ 9 ∧ Good l ∧ (l.length + 1) ^ n ≤ 20000 ∧ R = Is ⟨lawP l n⟩
theorem sc__law_every_painting : FnScope ["_law_many", "_law_letters", "_law_found", "_law_menu", "_law_thing", "_law_longer", "_law_one", "_law_letter"] ["_law_many", "_law_letters"] (defScope s__law_every_painting) := ⟨rfl, rfl, rfl, by decide +kernel, rfl, by decide +kernel, by decide +kernel⟩
theorem ok__law_every_painting (T : Txt K mg) {f : Addr} {fd : FuncData} (D : Df K mg "_law_every_painting" s__law_every_painting ["_law_many", "_law_letters"] f fd) : FnOk P w K mg base CX0 2 f fd ["_law_many", "_law_letters"] (spD K F__law_every_painting) := by
  obtain ⟨_, hI_MAX_THINGS⟩ := T.i_MAX_THINGS
  refine def_ok D.F sc__law_every_painting (fun Γ cs R g => ?len) (fun cdv A outer s H E hr Γ cs R g => ?_)
  case len => obtain ⟨n, l, rfl, _⟩ := g; rfl
  obtain ⟨n, l, rfl, n9, gd, hz, rfl⟩ := g
  refine ⟨_, (pss_cons (ps_par (i := 2) (j := 3) (by rfl) sc__law_every_painting.nd rfl rfl (by decide) rfl rfl (pa_cons (pe_lst (pa_cons pe_str pa_nil)) (pa_cons (pe_callB (cr_sortedS1 rfl) (by rfl) T.z_sorted (by decide +kernel) (pa_cons (pe_op op_add_str (pv 1) pe_str) pa_nil)) pa_nil)) (by kernel_rfl))
      (pss_cons (ps_for PassesOwn.never rfl (pi_range1 (by rfl) T.z_range (pa_cons (pv 0) pa_nil)) (pg_name (i := 4) sc__law_every_painting.nd rfl (by first | exact .inl rfl | exact .inr rfl))
        (pss_cons (ps_set (i := 5) sc__law_every_painting.nd rfl (by first | exact .inl rfl | exact .inr rfl) (pe_lst pa_nil))
        (pss_cons (ps_for PassesOwn.never rfl (pi_listK (pv 2)) (pg_name (i := 6) sc__law_every_painting.nd rfl (by first | exact .inl rfl | exact .inr rfl))
          (pss_one (ps_expr (pe_bm PySem.F.plainAttrs_list PySem.F.slot_list_extend PySem.F.type_list_extend mt_extend (pv 5) (pa_cons (pe_lc (own := [("_law_letter", 7)]) (g := (gName 7)) (tt := _) rfl sc__law_every_painting.nd (pi_listK (pv 3)) (blkOk_by (N := ["_law_many", "_law_letters", "_law_found", "_law_menu", "_law_thing", "_law_longer", "_law_one", "_law_letter"]) (sc := defScope s__law_every_painting) (by decide +kernel)) (fun _ _ _ _ _ => (pg_name (i := 7) sc__law_every_painting.nd rfl (by first | exact .inl rfl | exact .inr rfl))) (fun _ _ _ _ _ => (pts_one (PW.pt (pw_or (pt_cmpR op_ne (pv 7) pe_str (nomark _)) (pw_or1 (pt_cmpR op_notin_str pe_str (pv 6) (by rfl))))))) (fun _ _ _ _ _ => (pe_op op_add_str (pv 6) (pv 7)))) pa_nil)))))
        (pss_one (ps_set (i := 2) sc__law_every_painting.nd rfl (by first | exact .inl rfl | exact .inr rfl) (pe_callTy call_lstK (by rfl) T.z_list (by decide +kernel) (pa_cons (pv 5) pa_nil)))))))
      (pss_one (ps_ret (pe_lc (own := [("_law_one", 6)]) (g := (gName 6)) (tt := _) rfl sc__law_every_painting.nd (pi_listK (pv 2)) (blkOk_by (N := ["_law_many", "_law_letters", "_law_found", "_law_menu", "_law_thing", "_law_longer", "_law_one", "_law_letter"]) (sc := defScope s__law_every_painting) (by decide +kernel)) (fun _ _ _ _ _ => (pg_name (i := 6) sc__law_every_painting.nd rfl (by first | exact .inl rfl | exact .inr rfl))) (fun _ _ _ _ _ => (pts_one (pt_cmpR op_in_str pe_str (pv 6) (by rfl)))) (fun _ _ _ _ _ => (pv 6))))))), fun Δ0 D' hf hn => ?_⟩
  have l4 := gd.len
  have small : ∀ i, i ≤ n → (lawW (menu l) i).length ≤ 20000 := fun i hi => Nat.le_trans (law_len i) (Nat.le_trans (Nat.pow_le_pow_right (Nat.succ_pos _) hi) hz)
  have ml := menu_len (l := l)
  refine wp_par (Q := Is [⟨(⟨lawW (menu l) 0⟩ : NL Tx)⟩, ⟨(⟨menu l⟩ : FL Tx)⟩]) (ea_1 (ev_lstN (xs := [(⟨[]⟩ : Tx)]) (ea_1 (ev_strc []) ea_nil) (by decide)) (ea_1 (ev_cb (ev_op1 (ev_var (i := 1)) (ev_strc [114]) (o2_addS (x := ⟨l⟩) (y := ⟨[114]⟩) (by simp; omega))) (o1_sortedS1 (good_nd gd) (by simp; omega))) ea_nil)) (ltr rfl) (ltr rfl) fun cs hc => ⟨_, _, hc, ?_⟩
  refine wp_for (IvE l n) (src_rng1 (n := n) (ea_1 (ev_var (i := 0)) ea_nil) (by omega) (ltr rfl)) ⟨none, none, none, none, rfl⟩ (fun i Γ' ρ' h => by obtain ⟨a, b, c, d, rfl⟩ := h; rfl) ?_ ?_
  · rintro i Γ1 ρ' F' hi ⟨a, b, c, d, rfl⟩
    have hlen := small i (by omega)
    refine wp_newL (α := Tx) (ltr rfl) fun p ow => ?_
    refine wp_forN (IvE2 Γ1 p l n i (some ⟨(i : Int)⟩)) (src_list (xs := lawW (menu l) i) (x0 := fun k => (lawW (menu l) i).getD k ⟨[]⟩) (ev_ofNL (y := ⟨lawW (menu l) i⟩) (ev_var (i := 2))) (fun k hk => getT hk) (j := 6) (ltr rfl)) ⟨by simp, c, d, rfl⟩ (fun k Γ' ρ' h => by obtain ⟨_, x, y, rfl⟩ := h; rfl) ?_ ?_
    · rintro k Γ2 ρ' F2 hk ⟨rfl, x, y, rfl⟩
      generalize hv : (lawW (menu l) i).getD k ⟨[]⟩ = v
      have hvm : v ∈ lawW (menu l) i := by rw [← hv]; exact List.mem_of_getElem? (getT hk)
      have hvl := (mem_lawW.mp hvm).1.1
      refine wp_extL (P := Is (⟨extM (menu l) v⟩ : FL Tx)) ow (fun ys hy => ?_) (ev_var (i := 5)) (ev_lcTx (xs := menu l) (p := fun c => !decide (c = ⟨[114]⟩) || !decide (114 ∈ v.s)) (f := fun c => ⟨v.s ++ c.s⟩) (ev_isF (ev_var (i := 3))) (ltr rfl) (by omega) (fun c hc => et_or (et_test (ev_op1 (ev_var (i := 7) (a := c)) (ev_strc [114]) o2_neS)) fun _ => et_test (ev_op1 (ev_strc [114]) (ev_var (i := 6) (a := v)) o2_notInS1)) fun c hc _ => ev_op1 (ev_var (i := 6) (a := v)) (ev_var (i := 7) (a := c)) (o2_addS ?_)) fun ys hy => ?_
      · rw [show ys = _ from hy]
        have h1 : (((lawW (menu l) i).take k).flatMap (extM (menu l))).length ≤ (lawW (menu l) (i + 1)).length := by
          show _ ≤ ((lawW (menu l) i).flatMap (extM (menu l))).length
          conv => rhs; rw [← List.take_append_drop k (lawW (menu l) i), List.flatMap_append, List.length_append]
          exact Nat.le_add_right _ _
        have h2 := small (i + 1) (by omega)
        have h3 := ext_len (M := menu l) (v := v)
        show _ + (extM (menu l) v).length ≤ _
        omega
      · obtain ⟨d, _, rfl⟩ := mem_menu.mp hc
        rw [hvl]
        simp
        omega
      · refine wp_turn (Iv := IvE2 Γ1 p l n i (some ⟨(i : Int)⟩)) ⟨?_, _, _, rfl⟩ rfl
        rw [take1 hk, hv, List.flatMap_append, show ys = _ from hy]
        simp
    · rintro Γ2 ρ' ⟨rfl, x, y, rfl⟩
      refine wp_asgL1 (a := (⟨lawW (menu l) (i + 1)⟩ : NL Tx)) (ev_is (ev_lstO (xs := ((lawW (menu l) i).take (lawW (menu l) i).length).flatMap (extM (menu l))) List.mem_cons_self (ev_var (i := 5))) ?_) (ltr rfl) (wp_turn (Iv := IvE l n) ⟨some ⟨(i : Int)⟩, some ⟨(⟨p⟩ : Z.Loc)⟩, x, y, rfl⟩ rfl)
      rw [List.take_length]
      rfl
  · rintro Γ1 ρ' F' ⟨a, b, c, d, rfl⟩
    have hlen := small n (Nat.le_refl _)
    exact wp_ret hf (ev_filt (xs := lawW (menu l) n) (p := fun w => decide (114 ∈ w.s)) (ev_ofNL (y := ⟨lawW (menu l) n⟩) (ev_var (i := 2))) (ltr rfl) (by omega) (fun x _ => et_test (ev_op1 (ev_strc [114]) (ev_var (i := 6) (a := x)) o2_inS1)) fun x => ev_var (i := 6))
end
end K31

set_option Elab.async false
set_option linter.all false
set_option maxRecDepth 100000
set_option maxHeartbeats 4000000
namespace K31
open PySem PySem.Spec PyProof.Rows L2 Z K00
abbrev chars : List Tx := [⟨[97]⟩, ⟨[99]⟩, ⟨[111]⟩, ⟨[115]⟩]
theorem sub4 {ys : List Tx} (h : ys.Sublist chars) : (⟨(ys.map (·.s)).flatten⟩ : Tx) ∈ subsT acosL := by
  cases h <;> rename_i h <;> cases h <;> rename_i h <;> cases h <;> rename_i h <;> cases h <;> rename_i h <;> cases h <;> decide
abbrev upto : List Int := [10, 10, 10, 6, 5]
theorem many_all : ∀ t ∈ subsT acosL, upto[t.s.length]? = some (upto.getD t.s.length 0) ∧ 1 ≤ upto.getD t.s.length 0 ∧ upto.getD t.s.length 0 ≤ 10 ∧ (∀ c ∈ t.s, c < 200) ∧ ∀ n : Nat, n < 10 → (n : Int) < upto.getD t.s.length 0 → (t.s.length + 1) ^ n ≤ 20000 := by decide
theorem acos_eq : acosS = (⟨acosL.toArray⟩ : Str) := by decide +kernel
section
variable {P : Program} {w : World} {K : PySem.W.Frag} {mg : Str → Option Value} {base : Heap}
theorem tok_law {l : List Nat} {n : Nat} (hl : ∀ c ∈ l, c < 200) : TOk (lawP l n) := fun x hx => by
  have h := (mem_lawP.mp hx).1.2
  show (x.s.toArray.all fun c => decide (c < 0x110000)) = true
  rw [List.all_toArray, List.all_eq_true]
  intro c hc
  have : c < 0x110000 := by
    rcases h c hc with q | q
    · have := hl c q
      omega
    · omega
  simpa using this
theorem sp_kw {n : Nat} {l : List Nat} (n9 : n ≤ 9) (hl : (⟨l⟩ : Tx) ∈ subsT acosL) : ∀ Δ H vs H' zs, ArgsOk K Δ H vs [⟨(n : Int)⟩] → ArgsOk K Δ H' zs [⟨(⟨l⟩ : Tx)⟩] → SP_paintings (vs ++ zs) ((lawP l n).map Flat.val) := fun Δ H vs H' zs h1 h2 => by
  match vs, h1, zs, h2 with
  | [v], h1, [z], h2 =>
    have e1 : v = .int (n : Int) := h1.1
    have e2 : z = .str ⟨l.toArray⟩ := h2.1
    subst e1 e2
    exact ⟨n, l, rfl, n9, hl, by rw [paint_eq]⟩
theorem sp_pos {n : Nat} (n9 : n ≤ 9) : ∀ Δ H vs, ArgsOk K Δ H vs [⟨(n : Int)⟩] → SP_paintings (vs ++ [V.str acosS]) ((lawP acosL n).map Flat.val) := fun Δ H vs h1 => by
  match vs, h1 with
  | [v], h1 =>
    have e1 : v = .int (n : Int) := h1.1
    subst e1
    exact ⟨n, acosL, by rw [acos_eq]; rfl, n9, by decide, by rw [paint_eq]⟩
theorem law_small {l : List Nat} {n : Nat} (g : Good l) (n9 : n ≤ 9) : (lawP l n).length ≤ sizeLine := by
  rw [← paint_eq]
  exact Nat.le_trans (paint_len g n9) (by decide)
def F__law_right : Pm Bool := fun Γ cs R => ∃ p : Addr, cs = [⟨(⟨p⟩ : Z.Loc)⟩] ∧ (p, DiceI) ∈ Γ ∧ R = Is true
theorem sc__law_right : FnScope ["_law_dice_here", "_law_letters", "_law_many", "_law_due", "_law_told", "_law_begun", "_law_one"] ["_law_dice_here"] (defScope s__law_right) := ⟨rfl, rfl, rfl, by decide +kernel, rfl, by decide +kernel, by decide +kernel⟩
theorem ok__law_right (T : Txt K mg) {f : Addr} {fd : FuncData} (D : Df K mg "_law_right" s__law_right ["_law_dice_here"] f fd) {f__law_roll : Addr} {fd__law_roll : FuncData} (D__law_roll : Df K mg "_law_roll" s__law_roll ["_law_dice_here", "_law_total"] f__law_roll fd__law_roll) (G__law_roll : FnOk P w K mg base CX0 2 f__law_roll fd__law_roll ["_law_dice_here", "_law_total"] (spD K F__law_roll)) {f__law_every_painting : Addr} {fd__law_every_painting : FuncData} (D__law_every_painting : Df K mg "_law_every_painting" s__law_every_painting ["_law_many", "_law_letters"] f__law_every_painting fd__law_every_painting) (G__law_every_painting : FnOk P w K mg base CX0 2 f__law_every_painting fd__law_every_painting ["_law_many", "_law_letters"] (spD K F__law_every_painting)) {f_paintings : Addr} {fd_paintings : FuncData} {ds_paintings : List Value} (D_paintings : DfK K mg "paintings" s_paintings ["many", "letters"] f_paintings fd_paintings ds_paintings) (Y_paintings : Zg.GFnY P w K mg base 6 f_paintings fd_paintings ["many", "letters"] SP_paintings) {f__law_some : Addr} {fd__law_some : FuncData} (D__law_some : Df K mg "_law_some" s__law_some ["_law_dice_here", "_law_items"] f__law_some fd__law_some) (G__law_some : FnOk P w K mg base CX0 3 f__law_some fd__law_some ["_law_dice_here", "_law_items"] (spD K F__law_some)) {f__law_power : Addr} {fd__law_power : FuncData} (D__law_power : Df K mg "_law_power" s__law_power ["_law_base", "_law_many"] f__law_power fd__law_power) (G__law_power : FnOk P w K mg base CX0 2 f__law_power fd__law_power ["_law_base", "_law_many"] (spD K F__law_power)) : FnOk P w K mg base CX0 13 f fd ["_law_dice_here"] (spD K F__law_right) := by
  obtain ⟨_, hI_MAX_THINGS⟩ := T.i_MAX_THINGS
  refine def_ok D.F sc__law_right (fun Γ cs R g => ?len) (fun cdv A outer s H E hr Γ cs R g => ?_)
  case len => obtain ⟨p, rfl, _⟩ := g; rfl
  obtain ⟨p, rfl, hp, rfl⟩ := g
  refine ⟨_, (pss_cons (ps_set (i := 1) sc__law_right.nd rfl (by first | exact .inl rfl | exact .inr rfl) (pe_joinK pe_str (pe_call G__law_some (hr.mono (by decide)) (by rfl) D__law_some.g D__law_some.kp D__law_some.b .nil pass0 (pa_cons (pv 0) (pa_cons (pe_lst (pa_cons pe_str (pa_cons pe_str (pa_cons pe_str (pa_cons pe_str pa_nil))))) pa_nil)))))
      (pss_cons (ps_set (i := 2) sc__law_right.nd rfl (by first | exact .inl rfl | exact .inr rfl) (pe_call G__law_roll (hr.mono (by decide)) (by rfl) D__law_roll.g D__law_roll.kp D__law_roll.b .nil pass0 (pa_cons (pv 0) (pa_cons (pe_ix ix_listK (pe_lst (pa_cons pe_int (pa_cons pe_int (pa_cons pe_int (pa_cons pe_int (pa_cons pe_int pa_nil)))))) (pe_callB call_lenK (by rfl) T.z_len (by decide +kernel) (pa_cons (pv 1) pa_nil)) (fun _ _ => rfl)) pa_nil))))
      (pss_cons (ps_set (i := 3) sc__law_right.nd rfl (by first | exact .inl rfl | exact .inr rfl) (pe_call G__law_every_painting (hr.mono (by decide)) (by rfl) D__law_every_painting.g D__law_every_painting.kp D__law_every_painting.b .nil pass0 (pa_cons (pv 2) (pa_cons (pv 1) pa_nil))))
      (pss_cons (ps_set (i := 4) sc__law_right.nd rfl (by first | exact .inl rfl | exact .inr rfl) (pe_listG (Zg.pgen_of_Y (Zg.pgenY_callN Y_paintings (hr.mono (by decide)) (by rfl) D_paintings.g D_paintings.kp D_paintings.bk (pa_cons (pv 2) pa_nil) (pk_cons (pv 1) pk_nil))) hx_noX hns_noX (hr.mono (by decide)) (by rfl) T.z_list (by decide +kernel)))
      (pss_cons (ps_if (PW.pt (pw_or (pt_cmpR (op_neK hr.units) (pv 4) (pv 3) (nomark _)) (pw_or1 (pt_not (pt_val (pe_callB (cr_allK rfl) (by rfl) T.z_all (by decide +kernel) (pa_cons (pe_lc (own := [("_law_one", 6)]) (g := (gName 6)) (tt := tYes) rfl sc__law_right.nd (pi_listK (pv 4)) (blkOk_by (N := ["_law_dice_here", "_law_letters", "_law_many", "_law_due", "_law_told", "_law_begun", "_law_one"]) (sc := defScope s__law_right) (by decide +kernel)) (fun _ _ _ _ _ => (pg_name (i := 6) sc__law_right.nd rfl (by first | exact .inl rfl | exact .inr rfl))) (fun _ _ _ _ _ => pts_nil) (fun _ _ _ _ _ => (pe_callB call_isK (by rfl) T.z_isinstance (by decide +kernel) (pa_cons (pv 6) (pa_cons (pe_bltn (v := .ty "str") (u := .type "str") (by rfl) T.z_str (by decide +kernel) rfl) pa_nil))))) pa_nil))))))) (pss_one (ps_ret pe_bl)) pss_nil)
      (pss_cons (ps_if (pt_cmpR op_ne (pe_callB call_lenK (by rfl) T.z_len (by decide +kernel) (pa_cons (pv 4) pa_nil)) (pe_ifExp (pt_cmpR op_gt (pv 2) pe_int (nomark _)) (pe_op op_mul (pv 2) (pe_call G__law_power (hr.mono (by decide)) (by rfl) D__law_power.g D__law_power.kp D__law_power.b .nil pass0 (pa_cons (pe_callB call_lenK (by rfl) T.z_len (by decide +kernel) (pa_cons (pv 1) pa_nil)) (pa_cons (pe_op op_sub (pv 2) pe_int) pa_nil)))) pe_int) (nomark _)) (pss_one (ps_ret pe_bl)) pss_nil)
      (pss_cons (ps_set (i := 5) sc__law_right.nd rfl (by first | exact .inl rfl | exact .inr rfl) (pe_lst pa_nil))
      (pss_cons (Zg.ps_forTake (ix := 6) (ib := 5) (N := 3) (Zg.pgenY_callN Y_paintings (hr.mono (by decide)) (by rfl) D_paintings.g D_paintings.kp D_paintings.bk (pa_cons (pv 2) pa_nil) (pk_cons (pv 1) pk_nil)) (hr.mono (by decide)) rfl rfl sc__law_right.nd rfl rfl rfl (by first | exact .inl rfl | exact .inr (.inl rfl)) (by decide) (by first | exact .inl rfl | exact .inr (.inl rfl)) (by rfl) T.z_len (by decide +kernel))
      (pss_one (ps_ret (pe_and (pe_cmpR (op_eqK hr.units) (pv 5) (pe_slice sl_list (pv 3) po_none (po_some pe_int)) (nomark _)) (pe_one (pe_or (pe_cmpR op_ne (pv 1) pe_str (nomark _)) (pe_one (pe_cmpR (op_eqK hr.units) (pe_listG (Zg.pgen_of_Y (Zg.pgenY_call Y_paintings (hr.mono (by decide)) (by rfl) D_paintings.g D_paintings.kp D_paintings.b1 D_paintings.v1 (pa_cons (pv 2) pa_nil))) hx_noX hns_noX (hr.mono (by decide)) (by rfl) T.z_list (by decide +kernel)) (pv 3) (nomark _)))))))))))))))), fun Δ0 D' hf hn => ?_⟩
  refine wp_asg (P := fun x : Tx => x ∈ subsT acosL) ((ev_joinP (P := fun ys => ys.Sublist chars) rfl (ev_call1 (ea_1 (ev_var (i := 0)) (ea_1 (ev_lst (xs := chars) (ea_1 (ev_strc [97]) (ea_1 (ev_strc [99]) (ea_1 (ev_strc [111]) (ea_1 (ev_strc [115]) ea_nil)))) (by decide)) ea_nil)) ⟨p, chars, rfl, hp, by decide, rfl⟩) fun ys hy => ?_).imp fun x hx => ?_) (ltr rfl) fun x hx => ?_
  · have := (good_all _ (sub4 hy)).2.2
    exact Nat.le_trans this (by decide)
  · obtain ⟨ys, hy, e⟩ := hx
    rw [e]
    exact sub4 hy
  obtain ⟨l⟩ := x
  have gd := good_of hx
  have l4 := gd.len
  obtain ⟨t1, t2, t3, t4, t5⟩ := many_all _ hx
  generalize ht : upto.getD l.length 0 = t at *
  refine wp_asg (P := fun r : Int => 0 ≤ r ∧ r < t) (ev_call1 (ea_1 (ev_var (i := 0)) (ea_1 (ev_op1 (ev_lst (xs := upto) (ea_1 ev_int (ea_1 ev_int (ea_1 ev_int (ea_1 ev_int (ea_1 ev_int ea_nil))))) (by decide)) (ev_cb (ev_var (i := 1) (a := (⟨l⟩ : Tx))) (o1_lenS (Nat.le_trans l4 (by decide)))) (o2_ixL (i := l.length) (a := t) t1)) ea_nil)) ⟨p, t, rfl, hp, t2, by omega, rfl⟩) (ltr rfl) fun rI hr => ?_
  obtain ⟨n, rfl⟩ : ∃ n : Nat, rI = (n : Int) := ⟨rI.toNat, by omega⟩
  have n9 : n ≤ 9 := by omega
  have hz : (l.length + 1) ^ n ≤ 20000 := t5 n (by omega) hr.2
  have hlen : (lawP l n).length ≤ 20000 := Nat.le_trans (List.length_filter_le _ _) (Nat.le_trans (law_len n) hz)
  have tok : TOk (lawP l n) := tok_law t4
  have tok3 : TOk ((lawP l n).take 3) := fun x hx => tok x (List.mem_of_mem_take hx)
  refine wp_asg1 (a := (⟨lawP l n⟩ : FL Tx)) (ev_call1 (ea_1 (ev_var (i := 2)) (ea_1 (ev_var (i := 1)) ea_nil)) ⟨n, l, rfl, n9, gd, hz, rfl⟩) (ltr rfl) ?_
  refine wp_asg1 (a := (⟨lawP l n⟩ : FL Tx)) (Zg.ev_listY (Zg.srcg_callN (cs := [⟨(n : Int)⟩]) (ds := [⟨(⟨l⟩ : Tx)⟩]) (ea_1 (ev_var (i := 2)) ea_nil) (ea_1 (ev_var (i := 1)) ea_nil) (law_small gd n9) rfl rfl (sp_kw n9 hx))) (ltr rfl) ?_
  refine wp_no ?_ (et_or (et_test (ev_op1 (ev_isF (ev_var (i := 4))) (ev_isF (ev_var (i := 3))) (o2_neLS tok tok))) fun _ => et_not (et_B (ev_cb (x := List.replicate (lawP l n).length true) ((ev_lc (β := Bool) (fun i acc => acc = List.replicate i true) (src_list (xs := lawP l n) (x0 := fun k => (lawP l n).getD k ⟨[]⟩) (ev_isF (ev_var (i := 4))) (fun k hk => getT hk) (j := 6) (ltr rfl)) (by omega) (by decide) rfl fun i acc hi h => ⟨Is true, et_yes, fun q => (by cases q), fun _ => ⟨Is true, ev_isi (ev_var (i := 6) (a := (lawP l n).getD i ⟨[]⟩)) ty_tx (kit_ty (r := true) (by decide +kernel)), fun b hb => ?_⟩⟩).imp fun y hy => hy) o1_all))) ?_
  · simp
  · rw [h, show b = true from hb, List.replicate_succ']
  refine wp_no ?_ (et_test (ev_op1 (ev_cb (ev_isF (ev_var (i := 4))) o1_lenL) (ev_if (b := decide ((0 : Int) < (n : Int))) (et_test (ev_op1 (ev_var (i := 2) (a := (n : Int))) ev_int (o2_B0 (g := fun i j => decide (j < i))))) (fun h => ev_is (ev_op1 (ev_var (i := 2) (a := (n : Int))) (ev_call1 (ea_1 (ev_cb (ev_var (i := 1) (a := (⟨l⟩ : Tx))) (o1_lenS (Nat.le_trans l4 (by decide)))) (ea_1 (ev_is (b := ((n - 1 : Nat) : Int)) (ev_op1 (ev_var (i := 2) (a := (n : Int))) ev_int (o2_I0 (g := fun i j => i - j))) ?_) ea_nil)) ⟨l.length, n - 1, rfl, l4, by omega, rfl⟩) (o2_I (C := CMul) (g := fun i j => i * j) (.inl ⟨by omega, by omega⟩))) (b := ((lawP l n).length : Int)) ?_) (fun h => ev_is ev_int (b := ((lawP l n).length : Int)) ?_)) o2_neI)) ?_
  · simp
  · have := of_decide_eq_true h
    omega
  · show (n : Int) * ((l.length ^ (n - 1) : Nat) : Int) = _
    rw [lawP_len gd, Int.natCast_mul]
  · have := of_decide_eq_false h
    have : n = 0 := by omega
    subst this
    rw [lawP_len gd]
    simp
  refine wp_newL (α := Tx) (ltr rfl) fun q oq => ?_
  refine Zg.wp_forTake oq rfl rfl (Zg.srcg_callN (cs := [⟨(n : Int)⟩]) (ds := [⟨(⟨l⟩ : Tx)⟩]) (ea_1 (ev_var (i := 2)) ea_nil) (ea_1 (ev_var (i := 1)) ea_nil) (law_small gd n9) rfl rfl (sp_kw n9 hx)) (by decide) (by decide) ?_
  refine wp_ret hf (ev_is (ev_andV (ev_opO (xs := (lawP l n).take 3) List.mem_cons_self (ev_var (i := 5)) (ev_isF (ev_cutF (n := 3) (ev_isF (ev_var (i := 3))) ev_int)) (o2_eqLS tok3 tok3)) fun _ => ev_orV (ev_op1 (ev_var (i := 1) (a := (⟨l⟩ : Tx))) (ev_strc acosL) o2_neS) fun h => ev_op1 (x := lawP l n) (ev_isF (Zg.ev_listY ?_)) (ev_isF (ev_var (i := 3))) (o2_eqLS tok tok)) ?_)
  · have e : l = acosL := by
      have h2 : decide ((⟨l⟩ : Tx) = ⟨acosL⟩) = true := by simpa using h
      exact Tx.mk.inj (of_decide_eq_true h2)
    subst e
    exact Zg.srcg_call (cs := [⟨(n : Int)⟩]) (ea_1 (ev_var (i := 2)) ea_nil) (law_small gd n9) (sp_pos n9)
  · simp
def F_law : Pm Bool := fun _ cs R => ∃ (xs : List Int), cs = [⟨xs⟩] ∧ R = Is true
abbrev IvL (Γ : Own) (xs : List Int) : Nat → Own → Z.Env → Prop := fun _ Γ' ρ' => Γ' = Γ ∧ ∃ a, ρ' = [some ⟨xs⟩, a, none, none]
theorem sc_law : FnScope ["_law_script", "_law_spot", "_law_first", "_law_one"] ["_law_script"] (defScope s_law) := ⟨rfl, rfl, rfl, by decide +kernel, rfl, by decide +kernel, by decide +kernel⟩
theorem ok_law (T : Txt K mg) {f : Addr} {fd : FuncData} (D : Df K mg "law" s_law ["_law_script"] f fd) {f_paintings : Addr} {fd_paintings : FuncData} {ds_paintings : List Value} (D_paintings : DfK K mg "paintings" s_paintings ["many", "letters"] f_paintings fd_paintings ds_paintings) (Y_paintings : Zg.GFnY P w K mg base 6 f_paintings fd_paintings ["many", "letters"] SP_paintings) {f__law_right : Addr} {fd__law_right : FuncData} (D__law_right : Df K mg "_law_right" s__law_right ["_law_dice_here"] f__law_right fd__law_right) (G__law_right : FnOk P w K mg base CX0 13 f__law_right fd__law_right ["_law_dice_here"] (spD K F__law_right)) {f__law_dice : Addr} {fd__law_dice : FuncData} (D__law_dice : Df K mg "_law_dice" s__law_dice ["_law_script", "_law_spot"] f__law_dice fd__law_dice) (G__law_dice : FnOk P w K mg base CX0 2 f__law_dice fd__law_dice ["_law_script", "_law_spot"] (spF K F__law_dice DiceI)) : FnOk P w K mg base CX0 14 f fd ["_law_script"] (spD K F_law) := by
  obtain ⟨_, hI_MAX_THINGS⟩ := T.i_MAX_THINGS
  refine def_ok D.F sc_law (fun Γ cs R g => ?len) (fun cdv A outer s H E hr Γ cs R g => ?_)
  case len => obtain ⟨xs, rfl, _⟩ := g; rfl
  obtain ⟨xs, rfl, rfl⟩ := g
  refine ⟨_, (pss_cons (ps_for PassesOwn.never rfl (pi_range1 (by rfl) T.z_range (pa_cons (pe_callB (call_max2 rfl) (by rfl) T.z_max (by decide +kernel) (pa_cons pe_int (pa_cons (pe_callB (call_min2 rfl) (by rfl) T.z_min (by decide +kernel) (pa_cons pe_int (pa_cons (pe_callB call_lenK (by rfl) T.z_len (by decide +kernel) (pa_cons (pv 0) pa_nil)) pa_nil))) pa_nil))) pa_nil)) (pg_name (i := 1) sc_law.nd rfl (by first | exact .inl rfl | exact .inr rfl))
        (pss_one (ps_if (pt_not (pt_val (pe_call G__law_right (hr.mono (by decide)) (by rfl) D__law_right.g D__law_right.kp D__law_right.b .nil pass0 (pa_cons (pe_call G__law_dice (hr.mono (by decide)) (by rfl) D__law_dice.g D__law_dice.kp D__law_dice.b .nil pass0 (pa_cons (pv 0) (pa_cons (pv 1) pa_nil))) pa_nil)))) (pss_one (ps_ret pe_bl)) pss_nil)))
      (pss_cons (ps_set (i := 2) sc_law.nd rfl (by first | exact .inl rfl | exact .inr rfl) (pe_lst pa_nil))
      (pss_cons (Zg.ps_forTake (ix := 3) (ib := 2) (N := 2) (Zg.pgenY_call Y_paintings (hr.mono (by decide)) (by rfl) D_paintings.g D_paintings.kp D_paintings.b1 D_paintings.v1 (pa_cons pe_int pa_nil)) (hr.mono (by decide)) rfl rfl sc_law.nd rfl rfl rfl (by first | exact .inl rfl | exact .inr (.inl rfl)) (by decide) (by first | exact .inl rfl | exact .inr (.inl rfl)) (by rfl) T.z_len (by decide +kernel))
      (pss_one (ps_ret (pe_and (pe_cmpR (op_eqK hr.units) (pv 2) (pe_lst (pa_cons pe_str (pa_cons pe_str pa_nil))) (nomark _)) (pe_one (pe_cmpR (op_eqK hr.units) (pe_listG (Zg.pgen_of_Y (Zg.pgenY_callN Y_paintings (hr.mono (by decide)) (by rfl) D_paintings.g D_paintings.kp D_paintings.bk (pa_cons pe_int pa_nil) (pk_cons pe_str pk_nil))) hx_noX hns_noX (hr.mono (by decide)) (by rfl) T.z_list (by decide +kernel)) (pe_lst (pa_cons pe_str pa_nil)) (nomark _))))))))), fun Δ0 D' hf hn => ?_⟩
  obtain ⟨n, hn5, en⟩ : ∃ n : Nat, n ≤ 10 ∧ (if (if (xs.length : Int) < 10 then (xs.length : Int) else 10) > 1 then (if (xs.length : Int) < 10 then (xs.length : Int) else 10) else 1) = (n : Int) := by
    refine ⟨(if (if (xs.length : Int) < 10 then (xs.length : Int) else 10) > 1 then (if (xs.length : Int) < 10 then (xs.length : Int) else 10) else 1).toNat, ?_, ?_⟩
    · split <;> (try split) <;> omega
    · rw [Int.toNat_of_nonneg]
      split <;> (try split) <;> omega
  refine wp_for (IvL Γ xs) (src_rng1 (n := n) (ea_1 (ev_is (ev_max2 ev_int (ev_min2 ev_int (ev_cb (ev_var (i := 0) (a := xs)) o1_lenL))) en) ea_nil) (by omega) (ltr rfl)) ⟨rfl, none, rfl⟩ (fun i Γ' ρ' h => by obtain ⟨_, a, rfl⟩ := h; rfl) ?_ ?_
  · rintro i Γ' ρ' F' hi ⟨rfl, a, rfl⟩
    exact wp_noL (b := false) rfl (et_not (a := true) (et_B (ev_callF (ea_1 (ev_var (i := 0) (a := xs)) (ea_1 (ev_var (i := 1)) ea_nil)) ⟨xs, i, rfl⟩ fun p => ⟨p, rfl, List.mem_cons_self, rfl⟩))) (wp_turn (Iv := IvL Γ' xs) ⟨rfl, some ⟨(i : Int)⟩, rfl⟩ rfl)
  · rintro Γ' ρ' F' ⟨rfl, a, rfl⟩
    have ga : Good acosL := good_of (by decide)
    refine wp_newL (α := Tx) (ltr rfl) fun q oq => ?_
    refine Zg.wp_forTake oq rfl rfl (xs := lawP acosL 9) (Zg.srcg_call (cs := [⟨((9 : Nat) : Int)⟩]) (ea_1 ev_int ea_nil) (law_small ga (by decide)) (sp_pos (by decide))) (by decide) (by decide) ?_
    rw [law_nine]
    have t2 : TOk [⟨[97, 97, 97, 97, 97, 97, 97, 97, 114]⟩, ⟨[97, 97, 97, 97, 97, 97, 97, 99, 114]⟩] := fun x hx => by
      rcases List.mem_cons.mp hx with h | h
      · rw [h]; decide +kernel
      · rw [List.mem_singleton.mp h]; decide +kernel
    have t1 : TOk [⟨[114]⟩] := fun x hx => by rw [List.mem_singleton.mp hx]; decide +kernel
    refine wp_ret hf (ev_is (ev_andV (ev_opO List.mem_cons_self (ev_var (i := 2)) (ev_lst (xs := [(⟨[97, 97, 97, 97, 97, 97, 97, 97, 114]⟩ : Tx), ⟨[97, 97, 97, 97, 97, 97, 97, 99, 114]⟩]) (ea_1 (ev_strc [97, 97, 97, 97, 97, 97, 97, 97, 114]) (ea_1 (ev_strc [97, 97, 97, 97, 97, 97, 97, 99, 114]) ea_nil)) (by decide)) (o2_eqLS t2 t2)) fun _ => ev_op1 (x := [(⟨[114]⟩ : Tx)]) (ev_isF (ev_is (Zg.ev_listY (xs := lawP [] 1) (Zg.srcg_callN (cs := [⟨((1 : Nat) : Int)⟩]) (ds := [⟨(⟨[]⟩ : Tx)⟩]) (ea_1 ev_int ea_nil) (ea_1 (ev_strc []) ea_nil) (law_small (good_of (by decide)) (by decide)) rfl rfl (sp_kw (by decide) (by decide)))) (by rw [law_last]))) (ev_lst (xs := [(⟨[114]⟩ : Tx)]) (ea_1 (ev_strc [114]) ea_nil) (by decide)) (o2_eqLS t1 t1)) ?_)
    simp
end
end K31

set_option Elab.async false
set_option linter.all false
set_option maxRecDepth 100000
set_option maxHeartbeats 0
namespace Hd
open PySem PySem.Spec PyProof.Rows L2
def top (i : Nat) : Stmt := PySem.Challenge.pw_sidesigns_k31_paintings_listed.main.body.getD i (.Pass ⟨0, 0, 0, 0⟩)
abbrev s_InvalidNumber_init : Stmt := inClass (top 3) 0
def d_InvalidNumber_init : He.DefD := ⟨("InvalidNumber", some "__init__"), "__init__", "InvalidNumber.__init__", defArgs s_InvalidNumber_init, defBody s_InvalidNumber_init, defScope s_InvalidNumber_init, [], []⟩
abbrev s_is_integer : Stmt := top 5
def d_is_integer : He.DefD := ⟨("is_integer", none), "is_integer", "is_integer", defArgs s_is_integer, defBody s_is_integer, defScope s_is_integer, [], []⟩
abbrev s_is_between : Stmt := top 6
def d_is_between : He.DefD := ⟨("is_between", none), "is_between", "is_between", defArgs s_is_between, defBody s_is_between, defScope s_is_between, [], []⟩
abbrev s_check_many : Stmt := top 9
def d_check_many : He.DefD := ⟨("check_many", none), "check_many", "check_many", defArgs s_check_many, defBody s_check_many, defScope s_check_many, [], []⟩
abbrev s_paintings : Stmt := top 11
def d_paintings : He.DefD := ⟨("paintings", none), "paintings", "paintings", defArgs s_paintings, defBody s_paintings, defScope s_paintings, [], [("letters", .str "acos")]⟩
abbrev s_words : Stmt := top 12
def d_words : He.DefD := ⟨("_words", none), "_words", "_words", defArgs s_words, defBody s_words, defScope s_words, [], []⟩
abbrev s_parts : Stmt := top 13
def d_parts : He.DefD := ⟨("_parts", none), "_parts", "_parts", defArgs s_parts, defBody s_parts, defScope s_parts, [], []⟩
abbrev s_law_dice : Stmt := top 15
def d_law_dice : He.DefD := ⟨("_law_dice", none), "_law_dice", "_law_dice", defArgs s_law_dice, defBody s_law_dice, defScope s_law_dice, [], []⟩
abbrev s_law_roll : Stmt := top 16
def d_law_roll : He.DefD := ⟨("_law_roll", none), "_law_roll", "_law_roll", defArgs s_law_roll, defBody s_law_roll, defScope s_law_roll, [], []⟩
abbrev s_law_some : Stmt := top 17
def d_law_some : He.DefD := ⟨("_law_some", none), "_law_some", "_law_some", defArgs s_law_some, defBody s_law_some, defScope s_law_some, [], []⟩
abbrev s_law_every_painting : Stmt := top 18
def d_law_every_painting : He.DefD := ⟨("_law_every_painting", none), "_law_every_painting", "_law_every_painting", defArgs s_law_every_painting, defBody s_law_every_painting, defScope s_law_every_painting, [], []⟩
abbrev s_law_power : Stmt := top 19
def d_law_power : He.DefD := ⟨("_law_power", none), "_law_power", "_law_power", defArgs s_law_power, defBody s_law_power, defScope s_law_power, [], []⟩
abbrev s_law_right : Stmt := top 20
def d_law_right : He.DefD := ⟨("_law_right", none), "_law_right", "_law_right", defArgs s_law_right, defBody s_law_right, defScope s_law_right, [], []⟩
abbrev s_law : Stmt := top 21
def d_law : He.DefD := ⟨("law", none), "law", "law", defArgs s_law, defBody s_law, defScope s_law, [], []⟩
def fn : List He.DefD := [d_InvalidNumber_init, d_is_integer, d_is_between, d_check_many, d_paintings, d_words, d_parts, d_law_dice, d_law_roll, d_law_some, d_law_every_painting, d_law_power, d_law_right, d_law]
def gs : List Zh.GetD := []
def ts : List (PySem.W.Frag → Bool) := [fun K => decide (PySem.W.specialIn K (.builtin "object.__class__") "__get__" = some (some (.builtin "getset_descriptor.__get__"))), fun K => decide (PySem.W.takesIn K (.builtin "object.__class__") = some true)]
def fa : List He.Fa := [.glo "is_integer", .glo "is_between", .glo "check_many", .glo "paintings", .glo "_words", .glo "_parts", .glo "_law_dice", .glo "_law_roll", .glo "_law_some", .glo "_law_every_painting", .glo "_law_power", .glo "_law_right", .glo "law", .int "MAX_THINGS" 9, .free "IndexError", .free "ValueError", .free "abs", .free "all", .free "bool", .free "int", .free "isinstance", .free "len", .free "list", .free "max", .free "min", .free "range", .free "sorted", .free "str", .glo "SignsError", .glo "InvalidOperation", .glo "InvalidNumber"]
def names : List PySem.Str := (["SignsError", "InvalidOperation", "InvalidNumber", "is_integer", "is_between", "MAX_THINGS", "check_many", "paintings", "_words", "_parts", "_law_dice", "_law_roll", "_law_some", "_law_every_painting", "_law_power", "_law_right"] : List PySem.Str)
abbrev R : PySem.W.OpenRow := PySem.W.OpenLaw.row PySem.Challenge.rw_sidesigns_k31_paintings_listed
abbrev hk : PySem.W.Hook := Zh.hookP 5 fa fn gs ts
def ob (s : PySem.W.SharedT) : Zh.AlP := Zh.obsPG 5 fa fn gs ts (HandSHeadRun.getT s)
theorem ob_eq (s : PySem.W.SharedT) : ob s = hk.obs s.abs := Zh.obsPG_eq (HandSHeadRun.getT_eq s)
theorem run (w : World) : HandSHeadRun.RunEq R (PySem.W.view R.prog [21]) hk ob 9000 names w := by
  intro os
  kernel_rfl
end Hd

set_option Elab.async false
set_option linter.all false
set_option maxRecDepth 100000
set_option maxHeartbeats 0
namespace K31
open PySem PySem.Spec PyProof.Rows L2 Z
theorem all2_ints {K : PySem.W.Frag} {Δ : Gh} {H : Hp} : ∀ ns : List Int, All2 (fun (u : V) (a : Int) => Rp.rp K Δ H u a) (ns.map V.int) ns
  | [] => trivial
  | _ :: ns => ⟨rfl, all2_ints ns⟩
theorem start_law {K : PySem.W.Frag} {H : Hp} {a : Addr} {ns : List Int} (hS : SqL K H a (ns.map V.int)) : spD K F_law [.ref a] H (fun v _ => v = .bl true) fun _ _ _ => False := by
  refine ⟨[], fun _ => none, [⟨ns⟩], Is true, ⟨ns, rfl, rfl⟩, fun p hp => (nomatch hp), fun a I h => (nomatch h), ⟨⟨a, ns.map V.int, rfl, ?_, hS, ?_⟩, trivial⟩, fun v H' b hb _ r => ?_⟩
  · rcases hS with h | h
    · exact .inl ⟨rfl, h⟩
    · exact .inr h
  · exact all2_ints ns
  · rw [show v = .bl b from r, show b = true from hb]
theorem facts {P : Program} {w : World} {K : PySem.W.Frag} {h : Heap} {mg : Str → Option Value} {f : Addr} (X : K.In h) (G : h.Ns mainGlobals mg) (hfa : mg ("law" : Str) = some (.ref f)) (c : Zh.SaysP Hd.fa Hd.fn Hd.gs Hd.ts K) :
    ∃ fd : FuncData, (∀ (s : Shared) (v : Value), BindsTo s fd ⟨[v], []⟩ [("_law_script", v)]) ∧ ∀ base : Heap, K.In base → base.Ns mainGlobals mg → FnOk P w K mg base CX0 14 f fd ["_law_script"] (spD K F_law) := by
  have T : Txt K mg := ⟨He.free_ok X G (c.d.fact 16 (f := .free "abs") rfl), He.free_ok X G (c.d.fact 17 (f := .free "all") rfl), He.free_ok X G (c.d.fact 18 (f := .free "bool") rfl), He.free_ok X G (c.d.fact 19 (f := .free "int") rfl), He.free_ok X G (c.d.fact 20 (f := .free "isinstance") rfl), He.free_ok X G (c.d.fact 21 (f := .free "len") rfl), He.free_ok X G (c.d.fact 22 (f := .free "list") rfl), He.free_ok X G (c.d.fact 23 (f := .free "max") rfl), He.free_ok X G (c.d.fact 24 (f := .free "min") rfl), He.free_ok X G (c.d.fact 25 (f := .free "range") rfl), He.free_ok X G (c.d.fact 26 (f := .free "sorted") rfl), He.free_ok X G (c.d.fact 27 (f := .free "str") rfl), He.int_ok X G (c.d.fact 13 (f := .int "MAX_THINGS" 9) rfl)⟩
  obtain ⟨fd_is_integer, F_is_integer'⟩ := c.d.def_ 1 (d := Hd.d_is_integer) rfl
  have D_is_integer : Df K mg "is_integer" s_is_integer ["value"] _ fd_is_integer := ⟨F_is_integer', He.glo_ok X G (c.d.fact 0 (f := .glo "is_integer") rfl), F_is_integer'.bindsN fun _ _ _ _ _ _ us hl => match us, hl with | [_], _ => rfl⟩
  obtain ⟨fd_is_between, F_is_between'⟩ := c.d.def_ 2 (d := Hd.d_is_between) rfl
  have D_is_between : Df K mg "is_between" s_is_between ["value", "least", "most"] _ fd_is_between := ⟨F_is_between', He.glo_ok X G (c.d.fact 1 (f := .glo "is_between") rfl), F_is_between'.bindsN fun _ _ _ _ _ _ us hl => match us, hl with | [_,_,_], _ => rfl⟩
  obtain ⟨fd_check_many, F_check_many'⟩ := c.d.def_ 3 (d := Hd.d_check_many) rfl
  have D_check_many : Df K mg "check_many" s_check_many ["many"] _ fd_check_many := ⟨F_check_many', He.glo_ok X G (c.d.fact 2 (f := .glo "check_many") rfl), F_check_many'.bindsN fun _ _ _ _ _ _ us hl => match us, hl with | [_], _ => rfl⟩
  obtain ⟨fd__parts, F__parts'⟩ := c.d.def_ 6 (d := Hd.d_parts) rfl
  have D__parts : Df K mg "_parts" s__parts ["size", "letters", "reds"] _ fd__parts := ⟨F__parts', He.glo_ok X G (c.d.fact 5 (f := .glo "_parts") rfl), F__parts'.bindsN fun _ _ _ _ _ _ us hl => match us, hl with | [_,_,_], _ => rfl⟩
  obtain ⟨fd__words, F__words'⟩ := c.d.def_ 5 (d := Hd.d_words) rfl
  have D__words : Df K mg "_words" s__words ["letters"] _ fd__words := ⟨F__words', He.glo_ok X G (c.d.fact 4 (f := .glo "_words") rfl), F__words'.bindsN fun _ _ _ _ _ _ us hl => match us, hl with | [_], _ => rfl⟩
  obtain ⟨fd_paintings, F_paintings'⟩ := c.d.def_ 4 (d := Hd.d_paintings) rfl
  obtain ⟨ds_paintings, D_paintings⟩ := dfk_of F_paintings' (He.glo_ok X G (c.d.fact 3 (f := .glo "paintings") rfl))
  obtain ⟨fd__law_roll, F__law_roll'⟩ := c.d.def_ 8 (d := Hd.d_law_roll) rfl
  have D__law_roll : Df K mg "_law_roll" s__law_roll ["_law_dice_here", "_law_total"] _ fd__law_roll := ⟨F__law_roll', He.glo_ok X G (c.d.fact 7 (f := .glo "_law_roll") rfl), F__law_roll'.bindsN fun _ _ _ _ _ _ us hl => match us, hl with | [_,_], _ => rfl⟩
  obtain ⟨fd__law_every_painting, F__law_every_painting'⟩ := c.d.def_ 10 (d := Hd.d_law_every_painting) rfl
  have D__law_every_painting : Df K mg "_law_every_painting" s__law_every_painting ["_law_many", "_law_letters"] _ fd__law_every_painting := ⟨F__law_every_painting', He.glo_ok X G (c.d.fact 9 (f := .glo "_law_every_painting") rfl), F__law_every_painting'.bindsN fun _ _ _ _ _ _ us hl => match us, hl with | [_,_], _ => rfl⟩
  obtain ⟨fd__law_some, F__law_some'⟩ := c.d.def_ 9 (d := Hd.d_law_some) rfl
  have D__law_some : Df K mg "_law_some" s__law_some ["_law_dice_here", "_law_items"] _ fd__law_some := ⟨F__law_some', He.glo_ok X G (c.d.fact 8 (f := .glo "_law_some") rfl), F__law_some'.bindsN fun _ _ _ _ _ _ us hl => match us, hl with | [_,_], _ => rfl⟩
  obtain ⟨fd__law_power, F__law_power'⟩ := c.d.def_ 11 (d := Hd.d_law_power) rfl
  have D__law_power : Df K mg "_law_power" s__law_power ["_law_base", "_law_many"] _ fd__law_power := ⟨F__law_power', He.glo_ok X G (c.d.fact 10 (f := .glo "_law_power") rfl), F__law_power'.bindsN fun _ _ _ _ _ _ us hl => match us, hl with | [_,_], _ => rfl⟩
  obtain ⟨fd__law_right, F__law_right'⟩ := c.d.def_ 12 (d := Hd.d_law_right) rfl
  have D__law_right : Df K mg "_law_right" s__law_right ["_law_dice_here"] _ fd__law_right := ⟨F__law_right', He.glo_ok X G (c.d.fact 11 (f := .glo "_law_right") rfl), F__law_right'.bindsN fun _ _ _ _ _ _ us hl => match us, hl with | [_], _ => rfl⟩
  obtain ⟨fd__law_dice, F__law_dice'⟩ := c.d.def_ 7 (d := Hd.d_law_dice) rfl
  have D__law_dice : Df K mg "_law_dice" s__law_dice ["_law_script", "_law_spot"] _ fd__law_dice := ⟨F__law_dice', He.glo_ok X G (c.d.fact 6 (f := .glo "_law_dice") rfl), F__law_dice'.bindsN fun _ _ _ _ _ _ us hl => match us, hl with | [_,_], _ => rfl⟩
  obtain ⟨fd_law, F_law'⟩ := c.d.def_ 13 (d := Hd.d_law) rfl
  have e := hfa.symm.trans (He.glo_ok X G (c.d.fact 12 (f := .glo "law") rfl))
  cases e
  have b := FunD.bindsA (ps := ["_law_script"]) F_law' fun _ _ _ _ _ _ us hl => match us, hl with | [_], _ => rfl
  have D_law : Df K mg "law" s_law ["_law_script"] _ fd_law := ⟨F_law', hfa, F_law'.bindsN fun _ _ _ _ _ _ us hl => match us, hl with | [_], _ => rfl⟩
  refine ⟨fd_law, fun s v => b s [v] rfl, fun base _ _ => ?_⟩
  have G_is_integer := ok_is_integer (P := P) (w := w) (base := base) T D_is_integer
  have G_is_between := ok_is_between (P := P) (w := w) (base := base) T D_is_between D_is_integer G_is_integer
  have G_check_many := ok_check_many (P := P) (w := w) (base := base) T D_check_many D_is_between G_is_between
  have G__parts := ok__parts (P := P) (w := w) (base := base) T D__parts
  have G__words := ok__words (P := P) (w := w) (base := base) T D__words
  have Y_paintings := okY_paintings (P := P) (w := w) (base := base) T D_paintings D_check_many G_check_many D__parts G__parts D__words G__words
  have G__law_roll := ok__law_roll (P := P) (w := w) (base := base) T D__law_roll
  have G__law_every_painting := ok__law_every_painting (P := P) (w := w) (base := base) T D__law_every_painting
  have G__law_some := ok__law_some (P := P) (w := w) (base := base) T D__law_some D__law_roll G__law_roll
  have G__law_power := ok__law_power (P := P) (w := w) (base := base) T D__law_power
  have G__law_right := ok__law_right (P := P) (w := w) (base := base) T D__law_right D__law_roll G__law_roll D__law_every_painting G__law_every_painting D_paintings Y_paintings D__law_some G__law_some D__law_power G__law_power
  have G__law_dice := ok__law_dice (P := P) (w := w) (base := base) T D__law_dice
  exact ok_law T D_law D_paintings Y_paintings D__law_right G__law_right D__law_dice G__law_dice
end K31
open PySem PySem.W PySem.Calls PyProof.Rows
theorem PySem.Challenge.cw_sidesigns_k31_paintings_listed_holds : PySem.Challenge.rw_sidesigns_k31_paintings_listed.Holds := by
  w_on; o_law
  refine HandSHeadRun.head_any (r := OpenLaw.row PySem.Challenge.rw_sidesigns_k31_paintings_listed) (q := view (OpenLaw.row PySem.Challenge.rw_sidesigns_k31_paintings_listed).prog [21]) (H := Hd.hk) (ob := Hd.ob) (M := 9000) (loose := Hd.names) (d := HandSHeadRun.topDef (OpenLaw.row PySem.Challenge.rw_sidesigns_k31_paintings_listed).prog 21) (kwd := []) Hd.ob_eq
    (by kernel_rfl) (fun s => by kernel_rfl) Hd.run (by kernel_rfl) (by kernel_rfl) (by kernel_rfl) (by rfl) (by first | assumption | decide +kernel) (by decide +kernel) ⟨rfl, rfl, rfl, rfl, rfl, by decide +kernel⟩ ?hw ?hc
  case hw => w_witness2
  case hc =>
    refine L2.walk_ofE (l := PySem.Challenge.rw_sidesigns_k31_paintings_listed) (n := 63) (k := 14) (x := "_law_script") (CX := L2.CX0) rfl (by decide) (by kernel_rfl) ⟨rfl, by decide, by decide⟩ ?F (fun _ _ _ _ z => z)
    intro w mg fa h Y G hmg0
    obtain ⟨K, KX, c⟩ := Y
    have hmg : mg ("law" : PySem.Str) = some (.ref fa) := by
      have e : (HandSHeadRun.topDef (OpenLaw.row PySem.Challenge.rw_sidesigns_k31_paintings_listed).prog 21).name = ("law" : PySem.Str) := by kernel_rfl
      rw [← e]
      exact hmg0
    obtain ⟨fd, hb, hF⟩ := K31.facts (P := (PySem.Challenge.rw_sidesigns_k31_paintings_listed).prog) (w := w) KX G hmg c
    refine ⟨K, fd, Z.spD K K31.F_law, KX, hb, fun H a ns hl _ hS => ?_, hF⟩
    exact K31.start_law hS


