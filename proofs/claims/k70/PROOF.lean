import PyProof.Rows.All
import Wide.All
import OpenK.AllK
import Wide.FinOn
import KE.KStateDown
import Lean
import HandS.ForMost
import HandS.Exc
import HandS.TryOnly
import HandS.ExcOwn
import HandS.WordsExc
import HandS.ExcInit
import HandS.ExcField
import HandS.CallSlots
import KE.KExcIs
import HandS.ExcIs
import HandS.Conv
import HandS.SortKw
import KE.DataMinMax
import HandS.AnyAll
import HandS.IsInst
import HandS.Style
import HandS.Wide
import HandS.FStr
import HandS.Flow
import HandS.Codes
import HandS.Defaults
import HandS.More
import HandS.Head0
import HandS.Head1
import HandS.Head2
import HandS.HeadEnd
import HandS.HeadHook1
import HandS.HeadHook2
import HandS.HeadHook3
import HandS.HeadHook4
import HandS.EndBits
import HandS.EndTab
import HandS.HeadWalk
import HandS.RevRange
import KE.KDictZip
import HandS.TryMany
import HandS.ExcValue
import HandS.NoneIn
import HandS.Deep
import PySem.Challenge.RW_joinranks_k70_no_grammar
set_option Elab.async false
set_option linter.all false
set_option maxRecDepth 100000
set_option maxHeartbeats 2000000
namespace Jr
open PySem PySem.Spec PyProof.Rows L2
/-! ### list(text) -/
/-- the signs of a text, each a text -/
def sgn (c : Nat) : Str := ⟨#[c]⟩
def sgs (z : Str) : List Str := z.cps.toList.map sgn
theorem sgs_len (z : Str) : (sgs z).length = z.length := by simp [sgs, Str.length]
section
variable {X : Cx}
def rListStr : List V → Hp → VK → Prop := fun xs H Q => ∃ z : Str, xs = [.str z] ∧ z.length ≤ sizeLine ∧ ∀ l, H l = none → Q (.ref l) (upd H l (.lst ((sgs z).map V.str)))
theorem call_list_str (hc : X.calm = true) : CallR X (.type "list") rListStr := by
  intro pins s σ H xs us Q I r h
  obtain ⟨z, rfl, hz, q⟩ := h
  cases r with
  | cons r rr =>
    cases rr
    obtain ⟨t, rfl⟩ := r
    refine PySem.call_list_str (I.ok.hd hc) z t (fun h' tk acc c' hk e hi => ?_) hz
    refine ⟨.ref s.heap.objs.size, upd H s.heap.objs.size (.lst ((sgs z).map V.str)), I.laid hk (Nat.le_refl _) ⟨by rw [List.length_map, sgs_len]; exact hz, acc.toList, c', ?_, by rw [Array.toArray_toList]; exact e⟩, rfl, q _ (I.hok.fresh (Nat.le_refl _))⟩
    refine vals_of_idx _ _ (by rw [List.length_map, sgs_len, Array.length_toList]; exact hi.1) fun j u hj => ?_
    obtain ⟨c, t', hcx, rfl⟩ := hi.2 j u (by rw [← Array.getElem?_toList]; exact hj)
    refine ⟨.str (sgn c), ?_, ⟨_, rfl⟩⟩
    have e1 : z.cps.toList[j]? = some c := by rw [Array.getElem?_toList]; exact hcx
    simp [sgs, e1]
end
/-! ### enumerate(text) -/
def Ites (x : Str) : It :=
  ⟨fun i _ => i < x.cps.size, fun i H v H' => ∃ T c, v = .ref T ∧ H T = none ∧ x.cps[i]? = some c ∧ H' = upd H T (.tup [.int (i : Nat), .str (sgn c)]), fun i _ => x.cps.size ≤ i⟩
theorem turn_enumS {P : Program} {w : World} {K : PySem.W.Frag} {elts : List Expr} {kk : Nat} {tpos : Pos} (x : Str) (t : Tok) (ty : String) (hty : ty = "str_ascii_iterator" ∨ ty = "str_iterator") (e it : Addr) :
    Turn P w K (.Tuple elts kk tpos) (Ites x) [e, it] e (fun i h => i ≤ x.cps.size ∧ (∃ old, IsEnum h e it ((i : Nat) : Int) old) ∧ h.IsStrIter it ty x t i ∧ e ≠ it) where
  mem := by simp
  obj := fun i h st b hb => by
    obtain ⟨_, ⟨old, he⟩, ⟨o, ho, hc, hd⟩, _⟩ := st
    have e' : b = e ∨ b = it := by simpa using hb
    rcases e' with z | z
    · rw [z]; exact ⟨_, he, fun v q => nomatch q⟩
    · rw [z]; exact ⟨o, ho, fun v q => by rw [hd] at q; cases q⟩
  keep := fun i h h' st k => let ⟨hl, ⟨old, he⟩, ⟨o, ho, r⟩, hne⟩ := st; ⟨hl, ⟨old, k e (by simp) _ he⟩, ⟨o, k it (by simp) o ho, r⟩, hne⟩
  item := by
    intro X hP hw hK hc i pins s σ H E I hf st hg
    subst hP hw hK
    obtain ⟨hl0, ⟨old, he⟩, hit, hne⟩ := st
    have D : Draws X.prog X.w X.A.in1 it [it] x.cps.size (fun i v => ∃ c u, x.cps[i]? = some c ∧ v = .str ⟨#[c]⟩ u) (fun i h => h.IsStrIter it ty x t i) := by
      rcases hty with z | z
      · rw [z]; exact Draws.strAscii (A := X.A.in1) (I.ok.hd hc) it x t
      · rw [z]; exact Draws.strWide (A := X.A.in1) (I.ok.hd hc) it x t
    have hel : e < s.heap.objs.size := Heap.lt_size he
    have hil : it < s.heap.objs.size := by obtain ⟨_, q, _⟩ := hit; exact Heap.lt_size q
    refine wpAny_pyNext_enum_itemD D he hit hg hne (by simpa using hne) fun u h' tk hu ho hit' hT hsz hk => ?_
    obtain ⟨c, tu, hcx, rfl⟩ := hu
    refine ⟨_, rfl, wpAny_letOwnedTupleGo_enum (s := { s with heap := h', toks := tk + 1 }) ho fun h'' he' sb => ?_⟩
    have hT2 : h''.get? s.heap.objs.size = some { cls := .type "tuple", data := .seq #[.int i tk, .str ⟨#[c]⟩ tu] } := (sb.2 _ (Nat.ne_of_gt hel)).trans hT
    have new : ObjOk X.prog X.w (upd H s.heap.objs.size (.tup [.int (i : Nat), .str (sgn c)])) h'' s.heap.objs.size (.tup [.int (i : Nat), .str (sgn c)]) :=
      ⟨by show 2 ≤ sizeLine; decide, [.int i tk, .str ⟨#[c]⟩ tu], .cons ⟨_, rfl⟩ (.cons ⟨_, rfl⟩ .nil), ⟨_, hT2, rfl, _, rfl⟩⟩
    have I1 : Inv X pins σ (upd H s.heap.objs.size (.tup [.int (i : Nat), .str (sgn c)])) { s with heap := h'', toks := tk + 1 } :=
      I.turnedNew (ch := [e, it]) (fun b ob hb q => (sb.2 b (fun z => hb (by simp [z]))).trans (hk b ob (fun z => hb (by simp [z])) (fun z => hb (by simp [z])) q)) hf (Nat.le_refl _) new
    refine ⟨.ref s.heap.objs.size, _, I1, rfl, ⟨_, c, rfl, I.hok.fresh (Nat.le_refl _), hcx, rfl⟩, ⟨hg, ⟨.str ⟨#[c]⟩ tu, ?_⟩, ?_, hne⟩, fun b hb => ?_⟩
    · have e1 : ((i + 1 : Nat) : Int) = (i : Int) + 1 := by omega
      rw [e1]; exact he'
    · obtain ⟨o, q, r⟩ := hit'
      exact ⟨o, (sb.2 it (Ne.symm hne)).trans q, r⟩
    · have hb' : b < s.heap.objs.size := by
        have e' : b = e ∨ b = it := by simpa using hb
        rcases e' with z | z
        · rw [z]; exact hel
        · rw [z]; exact hil
      rw [upd_ne (Nat.ne_of_lt hb')]
      exact (hf b hb).1
  done := by
    intro X hP hw hK hc i pins s σ H E I hf st hg
    subst hP hw hK
    obtain ⟨hl0, ⟨old, he⟩, hit, hne⟩ := st
    have ei : i = x.cps.size := Nat.le_antisymm hl0 hg
    subst ei
    have D : Draws X.prog X.w X.A.in1 it [it] x.cps.size (fun i v => ∃ c u, x.cps[i]? = some c ∧ v = .str ⟨#[c]⟩ u) (fun i h => h.IsStrIter it ty x t i) := by
      rcases hty with z | z
      · rw [z]; exact Draws.strAscii (A := X.A.in1) (I.ok.hd hc) it x t
      · rw [z]; exact Draws.strWide (A := X.A.in1) (I.ok.hd hc) it x t
    obtain ⟨f0, f1, f2, f3, f4, f5⟩ := hf it (by simp)
    exact wpAny_pyNext_enum_endD D he hit fun h' eb => ⟨rfl, I.turned (t' := s.toks) (fun b o hb q => eb b o hb q) f0 f1 f3 f4 f5⟩
  self := fun A i s Q E st h => let ⟨_, ⟨_, he⟩, _⟩ := st; wpAny_pyIter_enum he h
def iEnumS (ta : TA) : TI := fun σ H R => ta σ H fun vs H1 => ∃ x : Str, vs = [.str x] ∧ R (Ites x) H1
theorem pi_enumS {X : Cx} {e : Expr} {ta : TA} {p pos tpos : Pos} {elts : List Expr} {kk : Nat} (hg : Gl X "enumerate") (hm : X.mg "enumerate" = none) (ha : PA X [e] ta) (hs : starEach [e] X.env = [(false, eval e X.env)] := by rfl) :
    PI X (.Tuple elts kk tpos) (.Call (.Name "enumerate" p) [e] [] pos) (iEnumS ta) := by
  refine ⟨fun pins s σ H R I h => ?_⟩
  refine Call_ (ld_blt I hg hm boot_enumerate (PyProof.Rows.callWith_type1 (thn (ha.run pos pins s σ H _ I h) fun us s1 ⟨vs, H1, I1, r1, q1⟩ => ?_) hs rfl))
  obtain ⟨x, ex, q⟩ := q1
  subst ex
  cases r1 with
  | cons r rr =>
    cases rr
    obtain ⟨t, rfl⟩ := r
    refine call_enumerate_str fun h' he hit hsz hk => wpAny_pyIter_enum he ?_
    have I2 : Inv X pins σ H1 { s1 with heap := h' } := I1.kept (t' := s1.toks) hk
    have hty : strIterType x = "str_ascii_iterator" ∨ strIterType x = "str_iterator" := by
      unfold strIterType
      split
      · exact .inl rfl
      · exact .inr rfl
    refine ⟨s1.heap.objs.size + 1, [s1.heap.objs.size + 1, s1.heap.objs.size], _, _, H1, rfl, I2, turn_enumS x t (strIterType x) hty (s1.heap.objs.size + 1) s1.heap.objs.size, ⟨Nat.zero_le _, ⟨.none, he⟩, hit, Nat.succ_ne_self _⟩, fun b hb => ?_, q⟩
    have e' : b = s1.heap.objs.size + 1 ∨ b = s1.heap.objs.size := by simpa using hb
    have hle : s1.heap.objs.size ≤ b := by
      rcases e' with z | z
      · rw [z]; exact Nat.le_add_right _ _
      · rw [z]; exact Nat.le_refl _
    exact I1.fpOk hle (I1.hok.fresh hle)
/-! ### loops in short -/
section
variable {g : TG} {tb : TS} {D : Ends} {σ : L2.St} {H : Hp}
theorem for_enumS {x : Str} (Pv : Nat → L2.St → Hp → Prop) (h0 : Pv 0 σ H)
    (hs : ∀ i c T σ H, x.cps.toList[i]? = some c → H T = none → Pv i σ H → g (.ref T) σ (upd H T (.tup [.int (i : Nat), .str (sgn c)])) fun σ2 H2 => tb { D with nx := Pv (i + 1), ct := Pv (i + 1), bk := D.nx } σ2 H2) (hd : ∀ σ H, Pv x.cps.toList.length σ H → D.nx σ H) :
    ∃ W : Nat → Nat → L2.St → Hp → Prop, (∃ m, W 0 m σ H) ∧ ∀ i m σ H, W i m σ H →
      ((Ites x).stop i H ∧ D.nx σ H) ∨ ((Ites x).go i H ∧ ∃ N : L2.St → Hp → Prop, (∀ σ' H', N σ' H' → ∃ m', m' < m ∧ W (i + 1) m' σ' H') ∧ ∀ y H', (Ites x).yld i H y H' → g y σ H' fun σ2 H2 => tb { D with nx := N, ct := N, bk := D.nx } σ2 H2) := by
  have es : x.cps.toList.length = x.cps.size := by simp
  rw [es] at hd
  refine ⟨fun i m σ H => m = x.cps.size - i ∧ i ≤ x.cps.size ∧ Pv i σ H, ⟨x.cps.size, by simp, Nat.zero_le _, h0⟩, ?_⟩
  rintro i m σ H ⟨rfl, hi, p⟩
  by_cases hlt : i < x.cps.size
  · refine .inr ⟨hlt, Pv (i + 1), fun σ' H' p' => ⟨x.cps.size - (i + 1), by omega, rfl, hlt, p'⟩, fun y H' z => ?_⟩
    obtain ⟨T, c, rfl, hT, hc, rfl⟩ := z
    exact hs i c T σ H (by rw [Array.getElem?_toList]; exact hc) hT p
  · have e : i = x.cps.size := by omega
    subst e
    exact .inl ⟨Nat.le_refl _, hd σ H p⟩
theorem for_str {x : Str} (Pv : Nat → L2.St → Hp → Prop) (h0 : Pv 0 σ H)
    (hs : ∀ i c σ H, x.cps.toList[i]? = some c → Pv i σ H → g (.str (sgn c)) σ H fun σ2 H2 => tb { D with nx := Pv (i + 1), ct := Pv (i + 1), bk := D.nx } σ2 H2) (hd : ∀ σ H, Pv x.cps.toList.length σ H → D.nx σ H) :
    ∃ W : Nat → Nat → L2.St → Hp → Prop, (∃ m, W 0 m σ H) ∧ ∀ i m σ H, W i m σ H →
      ((Its x).stop i H ∧ D.nx σ H) ∨ ((Its x).go i H ∧ ∃ N : L2.St → Hp → Prop, (∀ σ' H', N σ' H' → ∃ m', m' < m ∧ W (i + 1) m' σ' H') ∧ ∀ y H', (Its x).yld i H y H' → g y σ H' fun σ2 H2 => tb { D with nx := N, ct := N, bk := D.nx } σ2 H2) := by
  have es : x.cps.toList.length = x.cps.size := by simp
  rw [es] at hd
  refine ⟨fun i m σ H => m = x.cps.size - i ∧ i ≤ x.cps.size ∧ Pv i σ H, ⟨x.cps.size, by simp, Nat.zero_le _, h0⟩, ?_⟩
  rintro i m σ H ⟨rfl, hi, p⟩
  by_cases hlt : i < x.cps.size
  · refine .inr ⟨hlt, Pv (i + 1), fun σ' H' p' => ⟨x.cps.size - (i + 1), by omega, rfl, hlt, p'⟩, fun y H' z => ?_⟩
    obtain ⟨e, c, hc, rfl⟩ := z
    subst e
    exact hs i c σ _ (by rw [Array.getElem?_toList]; exact hc) p
  · have e : i = x.cps.size := by omega
    subst e
    exact .inl ⟨Nat.le_refl _, hd σ H p⟩
theorem for_enum {K : PySem.W.Frag} {a : Addr} {xs : List V} (Pv : Nat → L2.St → Hp → Prop) (h0 : Pv 0 σ H) (hl : ∀ i σ H, i ≤ xs.length → Pv i σ H → SqL K H a xs)
    (hs : ∀ i x T σ H, xs[i]? = some x → H T = none → Pv i σ H → g (.ref T) σ (upd H T (.tup [.int (i : Nat), x])) fun σ2 H2 => tb { D with nx := Pv (i + 1), ct := Pv (i + 1), bk := D.nx } σ2 H2) (hd : ∀ σ H, Pv xs.length σ H → D.nx σ H) :
    ∃ W : Nat → Nat → L2.St → Hp → Prop, (∃ m, W 0 m σ H) ∧ ∀ i m σ H, W i m σ H →
      ((Ite K a).stop i H ∧ D.nx σ H) ∨ ((Ite K a).go i H ∧ ∃ N : L2.St → Hp → Prop, (∀ σ' H', N σ' H' → ∃ m', m' < m ∧ W (i + 1) m' σ' H') ∧ ∀ y H', (Ite K a).yld i H y H' → g y σ H' fun σ2 H2 => tb { D with nx := N, ct := N, bk := D.nx } σ2 H2) := by
  refine ⟨fun i m σ H => m = xs.length - i ∧ i ≤ xs.length ∧ Pv i σ H, ⟨xs.length, by simp, Nat.zero_le _, h0⟩, ?_⟩
  rintro i m σ H ⟨rfl, hi, p⟩
  have q := hl i σ H hi p
  by_cases hlt : i < xs.length
  · refine .inr ⟨⟨xs, xs[i], q, by simp [hlt]⟩, Pv (i + 1), fun σ' H' p' => ⟨xs.length - (i + 1), by omega, rfl, hlt, p'⟩, fun y H' z => ?_⟩
    obtain ⟨T, x, rfl, hT, rfl, hx⟩ := z
    exact hs i x T σ H (hx xs q) hT p
  · have e : i = xs.length := by omega
    subst e
    exact .inl ⟨⟨xs, q, Nat.le_refl _⟩, hd σ H p⟩
end
/-! ### defs and methods that keep a promise, by name -/
structure Cal (P : Program) (w : World) (K : PySem.W.Frag) (mg : Str → Option Value) (base : Heap) (CX : CXT) (k : Nat) (x : Str) (sp : Sp) : Prop where
  ex : ∃ (f : Addr) (fd : FuncData) (ps : List Str), FnOk P w K mg base CX k f fd ps sp ∧ mg x = some (.ref f) ∧ PySem.W.keepIn K (.ref f) = true ∧ Binds K fd ps []
structure Met (P : Program) (w : World) (K : PySem.W.Frag) (mg : Str → Option Value) (base : Heap) (CX : CXT) (k : Nat) (C : Addr) (m : Str) (sp : Sp) : Prop where
  cl : Cls K C
  ex : ∃ (f : Addr) (fd : FuncData) (ps : List Str), FnOk P w K mg base CX k f fd ps sp ∧ Meth K C m f ∧ Binds K fd ps []
structure Mkc (P : Program) (w : World) (K : PySem.W.Frag) (mg : Str → Option Value) (base : Heap) (CX : CXT) (k : Nat) (x : Str) (C : Addr) (sp : Sp) : Prop where
  ex : ∃ (f : Addr) (fd : FuncData) (ps : List Str), FnOk P w K mg base CX k f fd ps sp ∧ Mk K C f ∧ Binds K fd ps []
  g : mg x = some (.ref C)
section
variable {X : Cx} {k : Nat} {x : Str} {sp : Sp} {e : Expr} {es : List Expr} {t : TA} {p pos apos : Pos} {C : Addr} {m : Str} {o : Expr} {ta : TE}
theorem pe_cal (F : Cal X.prog X.w X.K X.mg X.base CX0 k x sp) (hr : Room k X.A) (hg : Gl X x) (ha : PA X (e :: es) t) (hdb : (x == ("__debug__" : Str)) = false := by decide)
    (he : starEach (e :: es) X.env = (false, eval e X.env) :: starEach es X.env := by rfl) (hpl : (backTo pos (starEach es X.env)).any (·.1) = false := by rfl) :
    PE X (.Call (.Name x p) (e :: es) [] pos) (fun σ H Q => t σ H fun vs H1 => sp vs H1 Q E0) := by
  obtain ⟨f, fd, ps, G, gm, kp, b⟩ := F.ex
  have z := pe_call (p := p) (pos := pos) (es := es) G hr hg gm kp b .nil pass0 ha hdb he hpl
  refine ⟨fun pins s σ H Q I h => z.run pins s σ H Q I ?_⟩
  show t σ H fun vs H1 => sp (vs ++ []) H1 Q E0
  simpa only [List.append_nil] using h
theorem pe_cal0 (F : Cal X.prog X.w X.K X.mg X.base CX0 k x sp) (hr : Room k X.A) (hg : Gl X x) (hdb : (x == ("__debug__" : Str)) = false := by decide) :
    PE X (.Call (.Name x p) [] [] pos) (fun _ H Q => sp [] H Q E0) := by
  obtain ⟨f, fd, ps, G, gm, kp, b⟩ := F.ex
  have z := pe_call0 (p := p) (pos := pos) G hr hg gm kp b .nil pass0 hdb
  exact ⟨fun pins s σ H Q I h => z.run pins s σ H Q I h⟩
theorem pe_met {pl : Sem Bool} (F : Met X.prog X.w X.K X.mg X.base CX0 k C m sp) (ho : PE X o ta) (hr : Room k X.A) (ha : PA X (e :: es) t)
    (hc : eval (.Call (.Attribute o m apos) (e :: es) [] pos) X.env = (do
      let ov ← eval o X.env
      standAt apos.atName
      let (f, first) ← holding [ov] (getMethod ov m pl)
      callWith pos f first (backTo pos (starEach (e :: es) X.env)) (backToKw pos (keywordEach [] X.env))) := by rfl)
    (he : starEach (e :: es) X.env = (false, eval e X.env) :: starEach es X.env := by rfl) (hpl : (backTo pos (starEach es X.env)).any (·.1) = false := by rfl) :
    PE X (.Call (.Attribute o m apos) (e :: es) [] pos) (fun σ H Q => ta σ H fun x H1 => ∃ a dx fs, x = .ref a ∧ H1 a = some (.ins C dx fs) ∧ fs.lookup m = none ∧ t σ H1 fun vs H2 => sp (x :: vs) H2 Q E0) := by
  obtain ⟨f, fd, ps, G, mt, b⟩ := F.ex
  have z := pe_meth (apos := apos) (pos := pos) ho F.cl mt G hr b .nil pass0 ha he hpl hc
  refine ⟨fun pins s σ H Q I h => z.run pins s σ H Q I ?_⟩
  show ta σ H fun x H1 => ∃ a dx fs, x = .ref a ∧ H1 a = some (.ins C dx fs) ∧ fs.lookup m = none ∧ t σ H1 fun vs H2 => sp (x :: (vs ++ [])) H2 Q E0
  simpa only [List.append_nil] using h
theorem pe_met0 {pl : Sem Bool} (F : Met X.prog X.w X.K X.mg X.base CX0 k C m sp) (ho : PE X o ta) (hr : Room k X.A)
    (hc : eval (.Call (.Attribute o m apos) [] [] pos) X.env = (do
      let ov ← eval o X.env
      standAt apos.atName
      let (f, first) ← holding [ov] (getMethod ov m pl)
      callWith pos f first (backTo pos (starEach [] X.env)) (backToKw pos (keywordEach [] X.env))) := by rfl) :
    PE X (.Call (.Attribute o m apos) [] [] pos) (fun σ H Q => ta σ H fun x H1 => ∃ a dx fs, x = .ref a ∧ H1 a = some (.ins C dx fs) ∧ fs.lookup m = none ∧ sp [x] H1 Q E0) := by
  obtain ⟨f, fd, ps, G, mt, b⟩ := F.ex
  have z := pe_meth0 (apos := apos) (pos := pos) ho F.cl mt G hr b .nil pass0 hc
  exact ⟨fun pins s σ H Q I h => z.run pins s σ H Q I h⟩
theorem pe_mk (F : Mkc X.prog X.w X.K X.mg X.base CX0 k x C sp) (hr : Room (k + 1) X.A) (hg : Gl X x) (ha : PA X (e :: es) t) (hdb : (x == ("__debug__" : Str)) = false := by decide)
    (he : starEach (e :: es) X.env = (false, eval e X.env) :: starEach es X.env := by rfl) (hpl : (backTo pos (starEach es X.env)).any (·.1) = false := by rfl) :
    PE X (.Call (.Name x p) (e :: es) [] pos) (fun σ H Q => t σ H fun vs H1 => ∀ x dx, H1 x = none → H1 dx = none → dx ≠ x →
      sp (.ref x :: vs) (upd (upd H1 dx (.own x)) x (.ins C dx [])) (fun v H2 => v = .non ∧ Q (.ref x) H2) E0) := by
  obtain ⟨f, fd, ps, G, mk, b⟩ := F.ex
  have z := pe_make (p := p) (pos := pos) (es := es) mk G hr hg F.g b .nil pass0 ha hdb he hpl
  refine ⟨fun pins s σ H Q I h => z.run pins s σ H Q I ?_⟩
  show t σ H fun vs H1 => ∀ x dx, H1 x = none → H1 dx = none → dx ≠ x → sp (.ref x :: (vs ++ [])) (upd (upd H1 dx (.own x)) x (.ins C dx [])) (fun v H2 => v = .non ∧ Q (.ref x) H2) E0
  simpa only [List.append_nil] using h
end
/-! ### heaps -/
theorem Same.new {H : Hp} {p : Addr} {o : HO} (h : H p = none) : Same H (upd H p o) := fun b x e => by
  rw [upd_ne (ne_of_none e h)]
  exact e
/-- an object that H does not know may change -/
theorem Same.mut {H H' : Hp} {p : Addr} {o : HO} (s : Same H H') (h : H p = none) : Same H (upd H' p o) := fun b x e => by
  rw [upd_ne (ne_of_none e h)]
  exact s b x e
theorem Same.put {H H' : Hp} {p : Addr} {o : HO} (s : Same H H') (h : H' p = none) : Same H (upd H' p o) := s.trans (Same.new h)
theorem sz {n : Nat} (h : n ≤ 100000) : n ≤ sizeLine := Nat.le_trans h (by decide)
theorem szl {n : Nat} (h : n < 100000) : n < sizeLine := Nat.lt_of_lt_of_le h (by decide)
theorem ats {α : Type} {xs : List α} {i : Nat} {x : α} (h : xs[i]? = some x) : atI xs (i : Int) = some x := by
  have hl : i < xs.length := (List.getElem?_eq_some_iff.mp h).1
  unfold atI ixN
  rw [if_pos (by omega), if_pos (by omega)]
  simpa using h
/-- digits below their sizes -/
abbrev Digs : List Int → List Int → Prop := Paired fun z d => 0 ≤ d ∧ d < z
end Jr
namespace Jr
open PySem PySem.Spec PyProof.Rows L2
/-! ### xs + ys, lists that may be locked -/
def rCatL (K : PySem.W.Frag) : R2 := fun x y H Q => ∃ l b xs zs, x = .ref l ∧ y = .ref b ∧ SqL K H l xs ∧ SqL K H b zs ∧ xs.length + zs.length ≤ sizeLine ∧ ∀ p, H p = none → Q (.ref p) (upd H p (.lst (xs ++ zs)))
theorem op_catL {X : Cx} : OpR X (binaryOp .Add) (rCatL X.K) := by
  intro pins s σ H x y v u Q I rx ry h
  obtain ⟨l, b, xs, zs, rfl, rfl, hH, hB, hz, q⟩ := h
  cases rx
  cases ry
  obtain ⟨its, r, ⟨o1, n1, g1, c1, d1, t1⟩, z1⟩ := I.list hH
  obtain ⟨its2, r2, ⟨o2, n2, g2, c2, d2, t2⟩, z2⟩ := I.list hB
  obtain ⟨k1, e1, dt1, sl1⟩ := o1
  obtain ⟨k2, e2, dt2, sl2⟩ := o2
  simp only at c1 d1 t1 c2 d2 t2
  subst c1 d1 t1 c2 d2 t2
  have l1 := r.length
  have l2 := r2.length
  have ea : its.toArray ++ its2.toArray = (its ++ its2).toArray := by simp
  have fin := I.lnew (t' := s.toks) (r.append r2) (by rw [List.length_append]; omega)
  rw [← ea] at fin
  exact concat_meets ⟨_, g1, rfl⟩ ⟨_, g2, rfl⟩ noFill_list_add seq_list_add F.slot_list_add F.entry_list_add (F.args_list_add_2 _ _)
    (list_addW l b its.toArray its2.toArray n1 n2 none none sl1 sl2 (by rw [List.size_toArray, List.size_toArray]; omega)) ⟨g1, g2, ⟨.ref _, _, fin, rfl, q _ I.fresh⟩⟩
end Jr
namespace Jr
open PySem PySem.Spec PyProof.Rows L2
/-! ### rules whose reading names the written part, for comprehensions -/
section
variable {X : Cx} {K : PySem.W.Frag}
theorem call_len_seqK (h : X.K = K := by rfl) : CallR X (.builtin "len") (fun xs H Q => ∃ p ys, xs = [.ref p] ∧ (SqL K H p ys ∨ SqT K H p ys) ∧ Q (.int ys.length) H) := by subst h; exact call_len_seq
theorem ix_listK (h : X.K = K := by rfl) : IxR X (rIxL K) := by subst h; exact ix_list
theorem ix_tupK (h : X.K = K := by rfl) : IxR X (rIxT K) := by subst h; exact ix_tup
theorem sl_listK (h : X.K = K := by rfl) : SlR X (rSlL K) := by subst h; exact sl_list
theorem op_in_seqK (h : X.K = K := by rfl) : OpR X (compareOp .In) (rIn K false) := by subst h; exact op_in_seq
theorem op_notIn_seqK (h : X.K = K := by rfl) : OpR X (compareOp .NotIn) (rIn K true) := by subst h; exact op_notIn_seq
theorem op_eqDK (hu : X.A.units + 64 < cLine) (h : X.K = K := by rfl) : OpR X (compareOp .Eq) (rEqD K) := by subst h; exact op_eqD hu
theorem op_neDK (hu : X.A.units + 64 < cLine) (h : X.K = K := by rfl) : OpR X (compareOp .NotEq) (rNeD K) := by subst h; exact op_neD hu
theorem call_isiK' (h : X.K = K := by rfl) : CallR X (.builtin "isinstance") (rIsi K) := by subst h; exact call_isi
theorem call_list_ofK (h : X.K = K := by rfl) : CallR X (.type "list") (fun xs H Q => ∃ p ys, xs = [.ref p] ∧ (SqL K H p ys ∨ SqT K H p ys) ∧ ∀ l, H l = none → Q (.ref l) (upd H l (.lst ys))) := by subst h; exact call_list_of
end
end Jr
namespace Jr
open PySem PySem.Spec PyProof.Rows L2
/-! ### comprehensions whose element and test change nothing: a filter and a map -/
section
variable {α : Type} {item : α → V} {p : α → Bool} {f : α → V} {g : TG} {tt : TT} {te : TE} {vs : List Nat} {σ : L2.St} {H1 : Hp} {D : Addr} {Qd : Hp → Prop}
/-- one turn of such a comprehension -/
def LcTurn (item : α → V) (p : α → Bool) (f : α → V) (g : TG) (tt : TT) (te : TE) (vs : List Nat) (σ : L2.St) (H1 : Hp) (x : α) : Prop :=
  ∀ (H' : Hp), Same H1 H' → ∀ (N : Hp → Prop) (M : V → Hp → Prop), (p x = true → M (f x) H') → (p x = false → N H') →
    g (item x) (wipe σ vs) H' fun σ2 H2 => wipe σ2 vs = wipe σ vs ∧ tt σ2 H2 fun b H3 => if b = true then te σ2 H3 M else N H3
theorem lc_step {l : List α} {i : Nat} {x : α} {H : Hp} (hD : H1 D = none) (hx : l[i]? = some x) (hlen : l.length ≤ 100000) (turn : LcTurn item p f g tt te vs σ H1 x)
    (sm : Same H1 H) (hL : H D = some (.lst (((l.take i).filter p).map f))) :
    g (item x) (wipe σ vs) H fun σ2 H2 => wipe σ2 vs = wipe σ vs ∧ tt σ2 H2 fun b H3 =>
      if b = true then te σ2 H3 fun y H4 => ∃ acc, H4 D = some (.lst acc) ∧ acc.length < sizeLine ∧ (fun H' => Same H1 H' ∧ H' D = some (.lst (((l.take (i + 1)).filter p).map f))) (upd H4 D (.lst (acc ++ [y])))
      else (fun H' => Same H1 H' ∧ H' D = some (.lst (((l.take (i + 1)).filter p).map f))) H3 := by
  have e : l.take (i + 1) = l.take i ++ [x] := by rw [List.take_add_one, hx]; rfl
  refine turn H sm _ _ (fun hp => ?_) (fun hp => ?_)
  · refine ⟨_, hL, ?_, Same.mut sm hD, ?_⟩
    · have h1 : ((l.take i).filter p).length ≤ (l.take i).length := List.length_filter_le ..
      have h2 : (l.take i).length ≤ i := by rw [List.length_take]; omega
      have h3 : i < l.length := (List.getElem?_eq_some_iff.mp hx).1
      rw [List.length_map]
      exact szl (by omega)
    · rw [upd_same, e, List.filter_append, List.map_append]
      simp [hp]
  · refine ⟨sm, ?_⟩
    rw [hL, e, List.filter_append, List.map_append]
    simp [hp]
theorem lc_listM {K : PySem.W.Frag} {a : Addr} {l : List α} (hS : SqL K H1 a (l.map item)) (hD : H1 D = none) (hlen : l.length ≤ 100000) (turn : ∀ x ∈ l, LcTurn item p f g tt te vs σ H1 x)
    (hd : ∀ H, Same H1 H → H D = some (.lst ((l.filter p).map f)) → Qd H) :
    ∃ W : Nat → Nat → Hp → Prop, (∃ m, W 0 m (upd H1 D (.lst []))) ∧ ∀ i m H, W i m H →
      ((Itl K a).stop i H ∧ Qd H) ∨ ((Itl K a).go i H ∧ ∃ Nx : Hp → Prop, (∀ H', Nx H' → ∃ m', m' < m ∧ W (i + 1) m' H') ∧ ∀ x H', (Itl K a).yld i H x H' → g x (wipe σ vs) H' fun σ2 H2 => wipe σ2 vs = wipe σ vs ∧ tt σ2 H2 fun b H3 =>
        if b = true then te σ2 H3 fun y H4 => ∃ acc, H4 D = some (.lst acc) ∧ acc.length < sizeLine ∧ Nx (upd H4 D (.lst (acc ++ [y]))) else Nx H3) := by
  refine lc_list (K := K) (a := a) (xs := l.map item) (fun i H => Same H1 H ∧ H D = some (.lst (((l.take i).filter p).map f))) ⟨Same.new hD, upd_same⟩ (fun i H _ ⟨s, _⟩ => s.seq hS) ?_ ?_
  · rintro i x H hx ⟨sm, hL⟩
    rw [List.getElem?_map] at hx
    cases e : l[i]? with
    | none => rw [e] at hx; cases hx
    | some y =>
      rw [e] at hx
      cases hx
      exact lc_step hD e hlen (turn y (List.mem_of_getElem? e)) sm hL
  · rintro H ⟨sm, hL⟩
    rw [List.length_map, List.take_length] at hL
    exact hd H sm hL
theorem lc_strM {x : Str} {p : Nat → Bool} {f : Nat → V} (hD : H1 D = none) (hlen : x.cps.toList.length ≤ 100000) (turn : ∀ c ∈ x.cps.toList, LcTurn (fun c => V.str (sgn c)) p f g tt te vs σ H1 c)
    (hd : ∀ H, Same H1 H → H D = some (.lst ((x.cps.toList.filter p).map f)) → Qd H) :
    ∃ W : Nat → Nat → Hp → Prop, (∃ m, W 0 m (upd H1 D (.lst []))) ∧ ∀ i m H, W i m H →
      ((Its x).stop i H ∧ Qd H) ∨ ((Its x).go i H ∧ ∃ Nx : Hp → Prop, (∀ H', Nx H' → ∃ m', m' < m ∧ W (i + 1) m' H') ∧ ∀ y H', (Its x).yld i H y H' → g y (wipe σ vs) H' fun σ2 H2 => wipe σ2 vs = wipe σ vs ∧ tt σ2 H2 fun b H3 =>
        if b = true then te σ2 H3 fun y H4 => ∃ acc, H4 D = some (.lst acc) ∧ acc.length < sizeLine ∧ Nx (upd H4 D (.lst (acc ++ [y]))) else Nx H3) := by
  have es : x.cps.toList.length = x.cps.size := by simp
  refine ⟨fun i m H => m = x.cps.size - i ∧ i ≤ x.cps.size ∧ Same H1 H ∧ H D = some (.lst (((x.cps.toList.take i).filter p).map f)), ⟨x.cps.size, by simp, Nat.zero_le _, Same.new hD, upd_same⟩, ?_⟩
  rintro i m H ⟨rfl, hi, sm, hL⟩
  by_cases hlt : i < x.cps.size
  · refine .inr ⟨hlt, (fun H' => Same H1 H' ∧ H' D = some (.lst (((x.cps.toList.take (i + 1)).filter p).map f))), fun H' p' => ⟨x.cps.size - (i + 1), by omega, rfl, hlt, p'⟩, fun y H' z => ?_⟩
    obtain ⟨e, c, hc, rfl⟩ := z
    subst e
    have hc' : x.cps.toList[i]? = some c := by rw [Array.getElem?_toList]; exact hc
    exact lc_step (item := fun c => V.str (sgn c)) hD hc' hlen (turn c (List.mem_of_getElem? hc')) sm hL
  · have e : i = x.cps.size := by omega
    subst e
    rw [← es, List.take_length] at hL
    exact .inl ⟨Nat.le_refl _, hd H sm hL⟩
theorem lc_rangeM {lo : Int} {n : Nat} {p : Nat → Bool} {f : Nat → V} (hD : H1 D = none) (hlen : n ≤ 100000) (turn : ∀ i, i < n → LcTurn (fun i : Nat => V.int (lo + i)) p f g tt te vs σ H1 i)
    (hd : ∀ H, Same H1 H → H D = some (.lst (((List.range n).filter p).map f)) → Qd H) :
    ∃ W : Nat → Nat → Hp → Prop, (∃ m, W 0 m (upd H1 D (.lst []))) ∧ ∀ i m H, W i m H →
      ((Itr lo n).stop i H ∧ Qd H) ∨ ((Itr lo n).go i H ∧ ∃ Nx : Hp → Prop, (∀ H', Nx H' → ∃ m', m' < m ∧ W (i + 1) m' H') ∧ ∀ y H', (Itr lo n).yld i H y H' → g y (wipe σ vs) H' fun σ2 H2 => wipe σ2 vs = wipe σ vs ∧ tt σ2 H2 fun b H3 =>
        if b = true then te σ2 H3 fun y H4 => ∃ acc, H4 D = some (.lst acc) ∧ acc.length < sizeLine ∧ Nx (upd H4 D (.lst (acc ++ [y]))) else Nx H3) := by
  refine lc_range (lo := lo) (n := n) (fun i H => Same H1 H ∧ H D = some (.lst ((((List.range n).take i).filter p).map f))) ⟨Same.new hD, upd_same⟩ ?_ ?_
  · rintro i H hi ⟨sm, hL⟩
    exact lc_step (l := List.range n) (item := fun i : Nat => V.int (lo + i)) hD (by rw [List.getElem?_range hi]) (by rw [List.length_range]; exact hlen) (turn i hi) sm hL
  · rintro H ⟨sm, hL⟩
    have e : (List.range n).take n = List.range n := by
      have := List.take_length (l := List.range n)
      rw [List.length_range] at this
      exact this
    rw [e] at hL
    exact hd H sm hL
end
/-! ### lists -/
theorem pigeon {α : Type} [DecidableEq α] : ∀ (l m : List α), l.Nodup → (∀ x ∈ l, x ∈ m) → l.length ≤ m.length
  | [], _, _, _ => Nat.zero_le _
  | x :: l, m, nd, h => by
    have hx : x ∈ m := h x List.mem_cons_self
    have nd' := List.nodup_cons.mp nd
    have ih := pigeon l (m.erase x) nd'.2 fun y hy => by
      have hne : y ≠ x := fun e => nd'.1 (e ▸ hy)
      exact (List.mem_erase_of_ne hne).mpr (h y (List.mem_cons_of_mem _ hy))
    have hl := List.length_erase_of_mem hx
    have hp : 0 < m.length := List.length_pos_of_mem hx
    rw [List.length_cons]
    omega
theorem Paired.get {α β : Type} {F : α → β → Prop} : ∀ {l : List α} {m : List β} {i : Nat} {x : α}, Paired F l m → l[i]? = some x → ∃ y, m[i]? = some y ∧ F x y
  | _, _, _, _, .nil, h => by simp at h
  | _, _, 0, _, .cons r _, h => ⟨_, rfl, by have e := Option.some.inj h; subst e; exact r⟩
  | _, _, i + 1, _, .cons _ q, h => Paired.get (i := i) q h
theorem Paired.get2 {α β : Type} {F : α → β → Prop} : ∀ {l : List α} {m : List β} {i : Nat} {y : β}, Paired F l m → m[i]? = some y → ∃ x, l[i]? = some x ∧ F x y
  | _, _, _, _, .nil, h => by simp at h
  | _, _, 0, _, .cons r _, h => ⟨_, rfl, by have e := Option.some.inj h; subst e; exact r⟩
  | _, _, i + 1, _, .cons _ q, h => Paired.get2 (i := i) q h
theorem Paired.mem2 {α β : Type} {F : α → β → Prop} {l : List α} {m : List β} {y : β} (h : Paired F l m) (hy : y ∈ m) : ∃ x ∈ l, F x y := by
  obtain ⟨i, hi, e⟩ := List.mem_iff_getElem.mp hy
  obtain ⟨x, hx, r⟩ := Paired.get2 h (i := i) (by rw [List.getElem?_eq_getElem hi, e])
  exact ⟨x, List.mem_of_getElem? hx, r⟩
theorem Paired.app {α β : Type} {F : α → β → Prop} : ∀ {l : List α} {m : List β} {l' : List α} {m' : List β}, Paired F l m → Paired F l' m' → Paired F (l ++ l') (m ++ m')
  | _, _, _, _, .nil, h => h
  | _, _, _, _, .cons r q, h => .cons r (Paired.app q h)
theorem Paired.tk {α β : Type} {F : α → β → Prop} : ∀ {l : List α} {m : List β} (n : Nat), Paired F l m → Paired F (l.take n) (m.take n)
  | _, _, _, .nil => by simp only [List.take_nil]; exact .nil
  | _, _, 0, .cons _ _ => .nil
  | _, _, n + 1, .cons r q => .cons r (Paired.tk n q)
theorem Paired.dr {α β : Type} {F : α → β → Prop} : ∀ {l : List α} {m : List β} (n : Nat), Paired F l m → Paired F (l.drop n) (m.drop n)
  | _, _, _, .nil => by simp only [List.drop_nil]; exact .nil
  | _, _, 0, .cons r q => .cons r q
  | _, _, n + 1, .cons _ q => Paired.dr n q
theorem Paired.len {α β : Type} {F : α → β → Prop} {l : List α} {m : List β} (h : Paired F l m) : l.length = m.length := Paired.length h
/-! ### texts -/
theorem app_cps (a b : Str) : (a ++ b).cps.toList = a.cps.toList ++ b.cps.toList := by
  show (a.cps ++ b.cps).toList = _
  simp
theorem app_len (a b : Str) : (a ++ b).length = a.length + b.length := by
  show (a.cps ++ b.cps).size = a.cps.size + b.cps.size
  simp
theorem str_ext {a b : Str} (h : a.cps.toList = b.cps.toList) : a = b := by
  cases a; cases b
  simp only at h
  congr
  exact Array.toList_inj.mp h
theorem len_cps (a : Str) : a.cps.toList.length = a.length := by simp [Str.length]
theorem app_assoc (a b c : Str) : a ++ b ++ c = a ++ (b ++ c) := str_ext (by simp only [app_cps, List.append_assoc])
theorem sgn_inj {c d : Nat} (h : sgn c = sgn d) : c = d := by
  have e : (sgn c).cps.toList = (sgn d).cps.toList := by rw [h]
  simpa [sgn] using e
theorem sgn_len (c : Nat) : (sgn c).length = 1 := rfl
theorem cut_from (z : Str) (d : Nat) : (cutS z (some (d : Int)) none).cps.toList = z.cps.toList.drop d := by
  show ((z.cps.toList.drop (HT.sIx z.length 0 (some (d : Int)))).take (HT.sIx z.length z.length none - HT.sIx z.length 0 (some (d : Int)))).toArray.toList = _
  rw [HT.sIx_nat, HT.sIx_none, List.toList_toArray]
  have e : z.cps.toList.length = z.length := len_cps z
  by_cases h : d ≤ z.length
  · rw [Nat.min_eq_left h, List.take_of_length_le (by rw [List.length_drop, e]; exact Nat.le_refl _)]
  · rw [Nat.min_eq_right (by omega), List.drop_of_length_le (by omega), List.drop_of_length_le (by omega)]
    simp
theorem cut_to (z : Str) (d : Nat) : (cutS z none (some (d : Int))).cps.toList = z.cps.toList.take d := by
  show ((z.cps.toList.drop (HT.sIx z.length 0 none)).take (HT.sIx z.length z.length (some (d : Int)) - HT.sIx z.length 0 none)).toArray.toList = _
  rw [HT.sIx_nat, HT.sIx_none, List.toList_toArray, List.drop_zero, Nat.sub_zero]
  have e : z.cps.toList.length = z.length := len_cps z
  by_cases h : d ≤ z.length
  · rw [Nat.min_eq_left h]
  · rw [Nat.min_eq_right (by omega), List.take_of_length_le (by omega), List.take_of_length_le (by omega)]
theorem cutV_from (xs : List V) (d : Nat) : cutV xs (some (d : Int)) none = xs.drop d := by
  show (xs.drop (HT.sIx xs.length 0 (some (d : Int)))).take (HT.sIx xs.length xs.length none - HT.sIx xs.length 0 (some (d : Int))) = _
  rw [HT.sIx_nat, HT.sIx_none]
  by_cases h : d ≤ xs.length
  · rw [Nat.min_eq_left h, List.take_of_length_le (by rw [List.length_drop]; exact Nat.le_refl _)]
  · rw [Nat.min_eq_right (by omega), List.drop_of_length_le (Nat.le_refl _), List.drop_of_length_le (by omega)]
    simp
theorem cutV_to (xs : List V) (d : Nat) : cutV xs none (some (d : Int)) = xs.take d := by
  show (xs.drop (HT.sIx xs.length 0 none)).take (HT.sIx xs.length xs.length (some (d : Int)) - HT.sIx xs.length 0 none) = _
  rw [HT.sIx_nat, HT.sIx_none, List.drop_zero, Nat.sub_zero]
  by_cases h : d ≤ xs.length
  · rw [Nat.min_eq_left h]
  · rw [Nat.min_eq_right (by omega), List.take_of_length_le (Nat.le_refl _), List.take_of_length_le (by omega)]
theorem cutV_mid (xs : List V) (a b : Nat) : cutV xs (some (a : Int)) (some (b : Int)) = (xs.drop a).take (b - a) := by
  show (xs.drop (HT.sIx xs.length 0 (some (a : Int)))).take (HT.sIx xs.length xs.length (some (b : Int)) - HT.sIx xs.length 0 (some (a : Int))) = _
  rw [HT.sIx_nat, HT.sIx_nat]
  by_cases h : a ≤ xs.length
  · rw [Nat.min_eq_left h]
    by_cases h2 : b ≤ xs.length
    · rw [Nat.min_eq_left h2]
    · rw [Nat.min_eq_right (by omega), List.take_of_length_le (by rw [List.length_drop]; exact Nat.le_refl _), List.take_of_length_le (by rw [List.length_drop]; omega)]
  · rw [Nat.min_eq_right (show xs.length ≤ a by omega), List.drop_of_length_le (Nat.le_refl _), List.drop_of_length_le (by omega)]
    simp
/-- an item of a list of a kind, by its place -/
theorem atm {α : Type} {f : α → V} {xs : List α} {i : Nat} {x : α} (h : xs[i]? = some x) : atI (xs.map f) (i : Int) = some (f x) := ats (by rw [List.getElem?_map, h]; rfl)
end Jr
namespace Jr
open PySem PySem.Spec PyProof.Rows L2
/-! ### tables as data -/
/-- what the signs of a table are: unlike, from the blank to ~ but the percent sign -/
structure SignsOk (z : Str) : Prop where
  nd : z.cps.toList.Nodup
  ok : ∀ c ∈ z.cps.toList, 32 ≤ c ∧ c ≤ 126 ∧ c ≠ 37
abbrev Rws := List (Str × Str)
def jn (r : Str × Str) : Str := r.1 ++ r.2
/-- the pieces, by their numbers -/
def pcs (z : Str) (rs : Rws) : List Str := sgs z ++ rs.map jn
/-- each row's parts are pieces ahead of it, its joined text is none of these and has at most 16 signs -/
structure RowOk (z : Str) (rs : Rws) (r : Str × Str) : Prop where
  lm : r.1 ∈ pcs z rs
  rm : r.2 ∈ pcs z rs
  len : (jn r).length ≤ 16
  new : ¬ jn r ∈ pcs z rs
structure TabOk (z : Str) (rs : Rws) : Prop where
  sg : SignsOk z
  n1 : 1 ≤ z.length
  n12 : z.length ≤ 12
  many : rs.length ≤ 24
  rows : ∀ i r, rs[i]? = some r → RowOk z (rs.take i) r
theorem TabOk.nil {z : Str} (s : SignsOk z) (h1 : 1 ≤ z.length) (h2 : z.length ≤ 12) : TabOk z [] := ⟨s, h1, h2, Nat.zero_le _, fun i r h => by simp at h⟩
theorem TabOk.take {z : Str} {rs : Rws} (T : TabOk z rs) (n : Nat) : TabOk z (rs.take n) := by
  refine ⟨T.sg, T.n1, T.n12, Nat.le_trans (by rw [List.length_take]; omega) T.many, fun i r h => ?_⟩
  rw [List.getElem?_take] at h
  split at h
  · rename_i hi
    have := T.rows i r h
    rw [List.take_take, Nat.min_eq_left (by omega)]
    exact this
  · cases h
theorem TabOk.snoc {z : Str} {rs : Rws} {r : Str × Str} (T : TabOk z rs) (h : RowOk z rs r) (hl : rs.length < 24) : TabOk z (rs ++ [r]) := by
  refine ⟨T.sg, T.n1, T.n12, by rw [List.length_append]; simp; omega, fun i q hq => ?_⟩
  by_cases hi : i < rs.length
  · rw [List.getElem?_append_left hi] at hq
    rw [List.take_append_of_le_length (by omega)]
    exact T.rows i q hq
  · rw [List.getElem?_append_right (by omega)] at hq
    have e : i = rs.length := by
      by_cases e : i - rs.length = 0
      · omega
      · rw [List.getElem?_eq_none (by simp; omega)] at hq
        cases hq
    subst e
    rw [Nat.sub_self] at hq
    have e2 : r = q := Option.some.inj hq
    subst e2
    rw [List.take_left']
    · exact h
    · rfl
theorem pcs_len (z : Str) (rs : Rws) : (pcs z rs).length = z.length + rs.length := by
  unfold pcs
  rw [List.length_append, sgs_len, List.length_map]
theorem pcs_snoc (z : Str) (rs : Rws) (r : Str × Str) : pcs z (rs ++ [r]) = pcs z rs ++ [jn r] := by
  unfold pcs
  rw [List.map_append, ← List.append_assoc]
  rfl
theorem sgs_nodup {z : Str} (h : z.cps.toList.Nodup) : (sgs z).Nodup := by
  unfold sgs
  exact List.Pairwise.map _ (fun a b hab e => hab (sgn_inj e)) h
theorem TabOk.nodup {z : Str} {rs : Rws} (T : TabOk z rs) : (pcs z rs).Nodup := by
  have key : ∀ n, n ≤ rs.length → (pcs z (rs.take n)).Nodup := fun n => by
    induction n with
    | zero =>
      intro _
      show (sgs z ++ []).Nodup
      rw [List.append_nil]
      exact sgs_nodup T.sg.nd
    | succ n ih =>
      intro hn
      have hx : rs[n]? = some rs[n] := List.getElem?_eq_getElem (by omega)
      rw [List.take_add_one, hx]
      show (pcs z (rs.take n ++ [rs[n]])).Nodup
      rw [pcs_snoc, List.nodup_append]
      refine ⟨ih (by omega), by simp, fun x hx2 y hy => ?_⟩
      rw [List.mem_singleton] at hy
      rw [hy]
      exact fun e => (T.rows n _ hx).new (e ▸ hx2)
  have := key rs.length (Nat.le_refl _)
  rw [List.take_length] at this
  exact this
theorem TabOk.plen {z : Str} {rs : Rws} (T : TabOk z rs) {p : Str} (h : p ∈ pcs z rs) : 1 ≤ p.length ∧ p.length ≤ 16 := by
  have key : ∀ n, n ≤ rs.length → ∀ p ∈ pcs z (rs.take n), 1 ≤ p.length ∧ p.length ≤ 16 := fun n => by
    induction n with
    | zero =>
      intro _ p hp
      have hp2 : p ∈ sgs z ++ [] := hp
      rw [List.append_nil] at hp2
      obtain ⟨c, _, rfl⟩ := List.mem_map.mp hp2
      exact ⟨Nat.le_refl _, by rw [sgn_len]; omega⟩
    | succ n ih =>
      intro hn p hp
      have hx : rs[n]? = some rs[n] := List.getElem?_eq_getElem (by omega)
      rw [List.take_add_one, hx] at hp
      have hp2 : p ∈ pcs z (rs.take n ++ [rs[n]]) := hp
      rw [pcs_snoc] at hp2
      rcases List.mem_append.mp hp2 with hp3 | hp3
      · exact ih (by omega) p hp3
      · rw [List.mem_singleton] at hp3
        rw [hp3]
        have o := T.rows n _ hx
        have := (ih (by omega) _ o.lm).1
        refine ⟨?_, o.len⟩
        show 1 ≤ (rs[n].1 ++ rs[n].2).length
        rw [app_len]
        omega
  have := key rs.length (Nat.le_refl _) p
  rw [List.take_length] at this
  exact this h
/-! ### a list of rows in the heap -/
def TupAt (H : Hp) (a : Addr) (r : Str × Str) : Prop := H a = some (.tup [.str r.1, .str r.2])
def RowsAt (H : Hp) (l : Addr) (rs : Rws) : Prop := ∃ as : List Addr, H l = some (.lst (as.map V.ref)) ∧ Paired (TupAt H) as rs
theorem TupAt.same {H H' : Hp} (s : Same H H') {as : List Addr} {rs : Rws} (h : Paired (TupAt H) as rs) : Paired (TupAt H') as rs := L2.Paired.mapP h fun _ _ q => s _ _ q
theorem RowsAt.same {H H' : Hp} {l : Addr} {rs : Rws} (h : RowsAt H l rs) (s : Same H H') : RowsAt H' l rs := by
  obtain ⟨as, e, p⟩ := h
  exact ⟨as, s _ _ e, TupAt.same s p⟩
theorem inV_str (x : Str) (ps : List Str) : inV (.str x) (ps.map V.str) = decide (x ∈ ps) := by
  unfold inV
  rw [List.any_map]
  have e : ((fun y => eqV y (V.str x)) ∘ V.str) = fun y : Str => y == x := by
    funext y
    show eqV (V.str y) (V.str x) = (y == x)
    rfl
  rw [e]
  by_cases h : x ∈ ps
  · rw [decide_eq_true h]
    exact List.any_eq_true.mpr ⟨x, h, by simp⟩
  · rw [decide_eq_false h]
    rw [List.any_eq_false]
    intro y hy
    simp only [beq_iff_eq]
    exact fun e => h (e ▸ hy)
theorem flat_str (ps : List Str) : (ps.map V.str).all flatV = true := by
  rw [List.all_map]
  exact List.all_eq_true.mpr fun _ _ => rfl
end Jr
namespace Jr
open PySem PySem.Spec PyProof.Rows L2
/-! ### what a table holds -/
def numD : Nat → List Str → List (Key × V)
  | _, [] => []
  | i, p :: ps => (Sum.inr p, V.int (i : Nat)) :: numD (i + 1) ps
def rankD : Nat → Rws → List (List Key × V)
  | _, [] => []
  | i, r :: rs => ([Sum.inr r.1, Sum.inr r.2], V.int (i : Nat)) :: rankD (i + 1) rs
theorem numD_len : ∀ (i : Nat) (ps : List Str), (numD i ps).length = ps.length
  | _, [] => rfl
  | i, p :: ps => by show (numD (i + 1) ps).length + 1 = _; rw [numD_len (i + 1) ps]; rfl
theorem rankD_len : ∀ (i : Nat) (rs : Rws), (rankD i rs).length = rs.length
  | _, [] => rfl
  | i, r :: rs => by show (rankD (i + 1) rs).length + 1 = _; rw [rankD_len (i + 1) rs]; rfl
theorem numD_snoc : ∀ (i : Nat) (ps : List Str) (p : Str), numD i (ps ++ [p]) = numD i ps ++ [(Sum.inr p, V.int ((i + ps.length : Nat)))]
  | i, [], p => rfl
  | i, q :: ps, p => by
    show _ :: numD (i + 1) (ps ++ [p]) = _ :: (numD (i + 1) ps ++ _)
    rw [numD_snoc (i + 1) ps p, List.length_cons, show i + 1 + ps.length = i + (ps.length + 1) by omega]
theorem rankD_snoc : ∀ (i : Nat) (rs : Rws) (r : Str × Str), rankD i (rs ++ [r]) = rankD i rs ++ [([Sum.inr r.1, Sum.inr r.2], V.int ((i + rs.length : Nat)))]
  | i, [], r => rfl
  | i, q :: rs, r => by
    show _ :: rankD (i + 1) (rs ++ [r]) = _ :: (rankD (i + 1) rs ++ _)
    rw [rankD_snoc (i + 1) rs r, List.length_cons, show i + 1 + rs.length = i + (rs.length + 1) by omega]
theorem numD_none : ∀ (i : Nat) (ps : List Str) (p : Str), ¬ p ∈ ps → valV (numD i ps) (Sum.inr p) = none
  | _, [], _, _ => rfl
  | i, q :: ps, p, h => by
    have hq : ¬ (Sum.inr q : Key) = Sum.inr p := fun e => h (by rw [Sum.inr.inj e]; exact List.mem_cons_self)
    exact (valV_neg (p := (Sum.inr q, V.int (i : Nat))) hq).trans (numD_none (i + 1) ps p fun z => h (List.mem_cons_of_mem _ z))
theorem numD_at : ∀ (i : Nat) (ps : List Str) (p : Str) (j : Nat), ps.Nodup → ps[j]? = some p → valV (numD i ps) (Sum.inr p) = some (V.int ((i + j : Nat)))
  | _, [], _, _, _, h => by simp at h
  | i, q :: ps, p, 0, _, h => by
    have e : q = p := Option.some.inj h
    rw [e]
    exact valV_pos (p := ((Sum.inr p : Key), V.int (i : Nat))) rfl
  | i, q :: ps, p, j + 1, nd, h => by
    have nd' := List.nodup_cons.mp nd
    have hm : p ∈ ps := List.mem_of_getElem? (show ps[j]? = some p from h)
    have hq : ¬ (Sum.inr q : Key) = Sum.inr p := fun e => nd'.1 (by rw [Sum.inr.inj e]; exact hm)
    refine (valV_neg (p := (Sum.inr q, V.int (i : Nat))) hq).trans ?_
    rw [numD_at (i + 1) ps p j nd'.2 h, show i + 1 + j = i + (j + 1) by omega]
theorem rankD_none : ∀ (i : Nat) (rs : Rws) (l r : Str), ¬ (l, r) ∈ rs → valV (rankD i rs) [Sum.inr l, Sum.inr r] = none
  | _, [], _, _, _ => rfl
  | i, q :: rs, l, r, h => by
    have hq : ¬ ([Sum.inr q.1, Sum.inr q.2] : List Key) = [Sum.inr l, Sum.inr r] := fun e => h (by
      have e1 := (List.cons.inj e).1
      have e2 := (List.cons.inj (List.cons.inj e).2).1
      have e3 : q = (l, r) := Prod.ext (Sum.inr.inj e1) (Sum.inr.inj e2)
      rw [e3]; exact List.mem_cons_self)
    exact (valV_neg (p := (([Sum.inr q.1, Sum.inr q.2] : List Key), V.int (i : Nat))) hq).trans (rankD_none (i + 1) rs l r fun z => h (List.mem_cons_of_mem _ z))
theorem rankD_at : ∀ (i : Nat) (rs : Rws) (r : Str × Str) (j : Nat), rs.Nodup → rs[j]? = some r → valV (rankD i rs) [Sum.inr r.1, Sum.inr r.2] = some (V.int ((i + j : Nat)))
  | _, [], _, _, _, h => by simp at h
  | i, q :: rs, r, 0, _, h => by
    have e : q = r := Option.some.inj h
    rw [e]
    exact valV_pos (p := (([Sum.inr r.1, Sum.inr r.2] : List Key), V.int (i : Nat))) rfl
  | i, q :: rs, r, j + 1, nd, h => by
    have nd' := List.nodup_cons.mp nd
    have hm : r ∈ rs := List.mem_of_getElem? (show rs[j]? = some r from h)
    have hq : ¬ ([Sum.inr q.1, Sum.inr q.2] : List Key) = [Sum.inr r.1, Sum.inr r.2] := fun e => nd'.1 (by
      have e1 := (List.cons.inj e).1
      have e2 := (List.cons.inj (List.cons.inj e).2).1
      have e3 : q = r := Prod.ext (Sum.inr.inj e1) (Sum.inr.inj e2)
      rw [e3]; exact hm)
    refine (valV_neg (p := (([Sum.inr q.1, Sum.inr q.2] : List Key), V.int (i : Nat))) hq).trans ?_
    rw [rankD_at (i + 1) rs r j nd'.2 h, show i + 1 + j = i + (j + 1) by omega]
theorem TabOk.rnodup {z : Str} {rs : Rws} (T : TabOk z rs) : rs.Nodup := by
  have h := (List.nodup_append.mp T.nodup).2.1
  have key : ∀ l : Rws, (l.map jn).Nodup → l.Nodup := fun l => by
    induction l with
    | nil => intro _; exact List.nodup_nil
    | cons x l ih =>
      intro hn
      have h2 := List.nodup_cons.mp hn
      exact List.nodup_cons.mpr ⟨fun hx => h2.1 (List.mem_map.mpr ⟨x, hx, rfl⟩), ih h2.2⟩
  exact key rs h
def tf5 (z : Str) (lr lp dn dr : Addr) : List (Str × V) := [("sign_text", .str z), ("row_list", .ref lr), ("piece_list", .ref lp), ("number_by_piece", .ref dn), ("rank_by_row", .ref dr)]
def tf6 (z : Str) (lr lp dn dr : Addr) (m : Int) : List (Str × V) := [("sign_text", .str z), ("row_list", .ref lr), ("piece_list", .ref lp), ("number_by_piece", .ref dn), ("rank_by_row", .ref dr), ("most_signs", .int m)]
/-- a made table -/
structure TabAt (C : Addr) (H : Hp) (x : Addr) (z : Str) (rs : Rws) : Prop where
  ex : ∃ (dx lr lp dn dr : Addr) (m : Nat), H x = some (.ins C dx (tf6 z lr lp dn dr (m : Int))) ∧ RowsAt H lr rs ∧ H lp = some (.lst ((pcs z rs).map V.str)) ∧ H dn = some (.dK (numD 0 (pcs z rs))) ∧ H dr = some (.dT (rankD 0 rs)) ∧
    (∃ p ∈ pcs z rs, p.length = m) ∧ ∀ p ∈ pcs z rs, p.length ≤ m
  ok : TabOk z rs
theorem TabAt.same {C : Addr} {H H' : Hp} {x : Addr} {z : Str} {rs : Rws} (T : TabAt C H x z rs) (s : Same H H') : TabAt C H' x z rs := by
  obtain ⟨dx, lr, lp, dn, dr, m, h1, h2, h3, h4, h5, h6⟩ := T.ex
  exact ⟨⟨dx, lr, lp, dn, dr, m, s _ _ h1, h2.same s, s _ _ h3, s _ _ h4, s _ _ h5, h6⟩, T.ok⟩
section
variable (z : Str) (lr lp dn dr : Addr) (m : Int)
theorem l5_num : (tf5 z lr lp dn dr).lookup ("number_by_piece" : Str) = some (V.ref dn) := by kernel_rfl
theorem l5_pl : (tf5 z lr lp dn dr).lookup ("piece_list" : Str) = some (V.ref lp) := by kernel_rfl
theorem l5_rl : (tf5 z lr lp dn dr).lookup ("row_list" : Str) = some (V.ref lr) := by kernel_rfl
theorem l5_rk : (tf5 z lr lp dn dr).lookup ("rank_by_row" : Str) = some (V.ref dr) := by kernel_rfl
theorem l5_which : (tf5 z lr lp dn dr).lookup ("which" : Str) = none := by kernel_rfl
theorem l5_tp : (tf5 z lr lp dn dr).lookup ("take_piece" : Str) = none := by kernel_rfl
theorem l5_tr : (tf5 z lr lp dn dr).lookup ("take_row" : Str) = none := by kernel_rfl
theorem l5_mt : (tf5 z lr lp dn dr).lookup ("may_take_row" : Str) = none := by kernel_rfl
theorem l5_most : putF "most_signs" (.int m) (tf5 z lr lp dn dr) = tf6 z lr lp dn dr m := by kernel_rfl
theorem l5_put : putF "rank_by_row" (.ref dr) (putF "number_by_piece" (.ref dn) (putF "piece_list" (.ref lp) (putF "row_list" (.ref lr) (putF "sign_text" (.str z) [])))) = tf5 z lr lp dn dr := by kernel_rfl
theorem l6_st : (tf6 z lr lp dn dr m).lookup ("sign_text" : Str) = some (V.str z) := by kernel_rfl
theorem l6_num : (tf6 z lr lp dn dr m).lookup ("number_by_piece" : Str) = some (V.ref dn) := by kernel_rfl
theorem l6_pl : (tf6 z lr lp dn dr m).lookup ("piece_list" : Str) = some (V.ref lp) := by kernel_rfl
theorem l6_rl : (tf6 z lr lp dn dr m).lookup ("row_list" : Str) = some (V.ref lr) := by kernel_rfl
theorem l6_rk : (tf6 z lr lp dn dr m).lookup ("rank_by_row" : Str) = some (V.ref dr) := by kernel_rfl
theorem l6_ms : (tf6 z lr lp dn dr m).lookup ("most_signs" : Str) = some (V.int m) := by kernel_rfl
theorem l6_mw : (tf6 z lr lp dn dr m).lookup ("which" : Str) = none := by kernel_rfl
theorem l6_ms_ : (tf6 z lr lp dn dr m).lookup ("signs" : Str) = none := by kernel_rfl
theorem l6_mr : (tf6 z lr lp dn dr m).lookup ("rows" : Str) = none := by kernel_rfl
theorem l6_mp : (tf6 z lr lp dn dr m).lookup ("pieces" : Str) = none := by kernel_rfl
theorem l6_mp1 : (tf6 z lr lp dn dr m).lookup ("piece" : Str) = none := by kernel_rfl
theorem l6_mpa : (tf6 z lr lp dn dr m).lookup ("parts" : Str) = none := by kernel_rfl
theorem l6_mrk : (tf6 z lr lp dn dr m).lookup ("rank" : Str) = none := by kernel_rfl
theorem l6_ml : (tf6 z lr lp dn dr m).lookup ("longest" : Str) = none := by kernel_rfl
end
/-- no text -/
def NoStr (K : PySem.W.Frag) (H : Hp) (v : V) : Prop := ∃ t, TyX K H v t ∧ PySem.W.kitOne K t (.type "str") = some false
theorem isStr {K : PySem.W.Frag} : PySem.W.kitOne K (.type "str") (.type "str") = some true := kit_ty (by decide +kernel)
theorem isLst {K : PySem.W.Frag} : PySem.W.kitOne K (.type "list") (.type "list") = some true := kit_ty (by decide +kernel)
theorem isTup {K : PySem.W.Frag} : PySem.W.kitOne K (.type "tuple") (.type "tuple") = some true := kit_ty (by decide +kernel)
end Jr
namespace Jr
open PySem PySem.Spec PyProof.Rows L2
/-! ### == of lists of texts, of ints, of rows -/
def dS (xs : List Str) : PyData := .list (xs.map PyData.str)
def dI (xs : List Int) : PyData := .list (xs.map PyData.int)
def dR (rs : Rws) : PyData := .list (rs.map fun r => PyData.tuple [.str r.1, .str r.2])
/-- a text of plain signs -/
def Asc (x : Str) : Prop := ∀ c ∈ x.cps.toList, c ≤ 126
theorem asc_ok {x : Str} (h : Asc x) : PyData.strOk x = true := by
  unfold PyData.strOk
  rw [← Array.all_toList, List.all_eq_true]
  intro c hc
  have := h c hc
  simp
  omega
theorem asc_app {a b : Str} (ha : Asc a) (hb : Asc b) : Asc (a ++ b) := fun c hc => by
  rw [app_cps] at hc
  rcases List.mem_append.mp hc with h | h
  · exact ha c h
  · exact hb c h
theorem asc_sgn {c : Nat} (h : c ≤ 126) : Asc (sgn c) := fun d hd => by
  have e : d = c := by simpa [sgn] using hd
  omega
theorem TabOk.asc {z : Str} {rs : Rws} (T : TabOk z rs) {p : Str} (h : p ∈ pcs z rs) : Asc p := by
  have key : ∀ n, n ≤ rs.length → ∀ p ∈ pcs z (rs.take n), Asc p := fun n => by
    induction n with
    | zero =>
      intro _ p hp
      have hp2 : p ∈ sgs z ++ [] := hp
      rw [List.append_nil] at hp2
      obtain ⟨c, hc, rfl⟩ := List.mem_map.mp hp2
      exact asc_sgn (T.sg.ok c hc).2.1
    | succ n ih =>
      intro hn p hp
      have hx : rs[n]? = some rs[n] := List.getElem?_eq_getElem (by omega)
      rw [List.take_add_one, hx] at hp
      have hp2 : p ∈ pcs z (rs.take n ++ [rs[n]]) := hp
      rw [pcs_snoc] at hp2
      rcases List.mem_append.mp hp2 with hp3 | hp3
      · exact ih (by omega) p hp3
      · rw [List.mem_singleton] at hp3
        rw [hp3]
        have o := T.rows n _ hx
        exact asc_app (ih (by omega) _ o.lm) (ih (by omega) _ o.rm)
  have := key rs.length (Nat.le_refl _) p
  rw [List.take_length] at this
  exact this h
theorem lay_strs : ∀ xs : List Str, (∀ x ∈ xs, Asc x) → PyData.canLayAll0 (xs.map PyData.str) = true
  | [], _ => by simp [PyData.canLayAll0]
  | x :: xs, h => by
    have h1 := asc_ok (h x List.mem_cons_self)
    have h2 := lay_strs xs fun y hy => h y (List.mem_cons_of_mem _ hy)
    simp [PyData.canLayAll0, PyData.canLay0, h1, h2]
theorem dep_strs : ∀ xs : List Str, PyData.depthAll (xs.map PyData.str) = 0
  | [] => by simp [PyData.depthAll]
  | x :: xs => by simp [PyData.depthAll, PyData.depth, dep_strs xs]
theorem shS {xs : List Str} (h : ∀ x ∈ xs, Asc x) : SeqAt.shaped (dS xs) = true := by
  unfold SeqAt.shaped dS
  have h1 : PyData.canLay0 (.list (xs.map PyData.str)) = true := by simp [PyData.canLay0, lay_strs xs h]
  have h2 : PyData.depth (.list (xs.map PyData.str)) = 1 := by simp [PyData.depth, dep_strs]
  rw [h1, h2]; rfl
theorem eqvA_strs : ∀ xs ys : List Str, PyData.eqvAll (xs.map PyData.str) (ys.map PyData.str) = decide (xs = ys)
  | [], [] => by simp [PyData.eqvAll]
  | [], y :: ys => by simp [PyData.eqvAll]
  | x :: xs, [] => by simp [PyData.eqvAll]
  | x :: xs, y :: ys => by
    have ih := eqvA_strs xs ys
    simp only [List.map_cons, PyData.eqvAll, PyData.eqv, ih]
    by_cases h : x = y
    · subst h; simp
    · simp [h]
theorem eqS (xs ys : List Str) : PyData.eqv (dS xs) (dS ys) = decide (xs = ys) := by
  unfold dS
  rw [PyData.eqv]
  exact eqvA_strs xs ys
theorem dpA_strs {K : PySem.W.Frag} {H : Hp} : ∀ xs : List Str, DpAll K H (xs.map V.str) (xs.map PyData.str)
  | [] => .nil
  | x :: xs => .cons (.str x) (dpA_strs xs)
theorem dpS {K : PySem.W.Frag} {H : Hp} {a : Addr} {xs : List Str} (h : SqL K H a (xs.map V.str)) : Dp K H (.ref a) (dS xs) := .lst h (dpA_strs xs)
theorem lay_ints : ∀ xs : List Int, PyData.canLayAll0 (xs.map PyData.int) = true
  | [] => by simp [PyData.canLayAll0]
  | x :: xs => by simp [PyData.canLayAll0, PyData.canLay0, lay_ints xs]
theorem dep_ints : ∀ xs : List Int, PyData.depthAll (xs.map PyData.int) = 0
  | [] => by simp [PyData.depthAll]
  | x :: xs => by simp [PyData.depthAll, PyData.depth, dep_ints xs]
theorem shI (xs : List Int) : SeqAt.shaped (dI xs) = true := by
  unfold SeqAt.shaped dI
  have h1 : PyData.canLay0 (.list (xs.map PyData.int)) = true := by simp [PyData.canLay0, lay_ints xs]
  have h2 : PyData.depth (.list (xs.map PyData.int)) = 1 := by simp [PyData.depth, dep_ints]
  rw [h1, h2]; rfl
theorem eqvA_ints : ∀ xs ys : List Int, PyData.eqvAll (xs.map PyData.int) (ys.map PyData.int) = decide (xs = ys)
  | [], [] => by simp [PyData.eqvAll]
  | [], y :: ys => by simp [PyData.eqvAll]
  | x :: xs, [] => by simp [PyData.eqvAll]
  | x :: xs, y :: ys => by
    have ih := eqvA_ints xs ys
    simp only [List.map_cons, PyData.eqvAll, PyData.eqv, ih]
    by_cases h : x = y
    · subst h; simp
    · simp [h]
theorem eqI (xs ys : List Int) : PyData.eqv (dI xs) (dI ys) = decide (xs = ys) := by
  unfold dI
  rw [PyData.eqv]
  exact eqvA_ints xs ys
theorem dpA_ints {K : PySem.W.Frag} {H : Hp} : ∀ xs : List Int, DpAll K H (xs.map V.int) (xs.map PyData.int)
  | [] => .nil
  | x :: xs => .cons (.int x) (dpA_ints xs)
theorem dpI {K : PySem.W.Frag} {H : Hp} {a : Addr} {xs : List Int} (h : SqL K H a (xs.map V.int)) : Dp K H (.ref a) (dI xs) := .lst h (dpA_ints xs)
theorem lay_rows : ∀ rs : Rws, (∀ r ∈ rs, Asc r.1 ∧ Asc r.2) → PyData.canLayAll0 (rs.map fun r => PyData.tuple [.str r.1, .str r.2]) = true
  | [], _ => by simp [PyData.canLayAll0]
  | r :: rs, h => by
    obtain ⟨h1, h2⟩ := h r List.mem_cons_self
    have h3 := lay_rows rs fun y hy => h y (List.mem_cons_of_mem _ hy)
    simp [PyData.canLayAll0, PyData.canLay0, asc_ok h1, asc_ok h2, h3]
theorem dep_rows : ∀ rs : Rws, PyData.depthAll (rs.map fun r => PyData.tuple [.str r.1, .str r.2]) ≤ 1
  | [] => by simp [PyData.depthAll]
  | r :: rs => by
    have := dep_rows rs
    simp only [List.map_cons, PyData.depthAll, PyData.depth]
    omega
theorem shR {rs : Rws} (h : ∀ r ∈ rs, Asc r.1 ∧ Asc r.2) : SeqAt.shaped (dR rs) = true := by
  unfold SeqAt.shaped dR
  have h1 : PyData.canLay0 (.list (rs.map fun r => PyData.tuple [.str r.1, .str r.2])) = true := by simp [PyData.canLay0, lay_rows rs h]
  have h2 : PyData.depth (.list (rs.map fun r => PyData.tuple [.str r.1, .str r.2])) ≤ 2 := by
    have := dep_rows rs
    simp only [PyData.depth]
    omega
  rw [h1, decide_eq_true (Nat.le_trans h2 (by decide))]; rfl
theorem eqvA_rows : ∀ xs ys : Rws, PyData.eqvAll (xs.map fun r => PyData.tuple [.str r.1, .str r.2]) (ys.map fun r => PyData.tuple [.str r.1, .str r.2]) = decide (xs = ys)
  | [], [] => by simp [PyData.eqvAll]
  | [], y :: ys => by simp [PyData.eqvAll]
  | x :: xs, [] => by simp [PyData.eqvAll]
  | x :: xs, y :: ys => by
    have ih := eqvA_rows xs ys
    simp only [List.map_cons, PyData.eqvAll, PyData.eqv, ih]
    obtain ⟨a, b⟩ := x
    obtain ⟨c, d⟩ := y
    by_cases h : a = c
    · subst h
      by_cases h2 : b = d
      · subst h2; simp
      · simp [h2]
    · simp [h]
theorem eqR (xs ys : Rws) : PyData.eqv (dR xs) (dR ys) = decide (xs = ys) := by
  unfold dR
  rw [PyData.eqv]
  exact eqvA_rows xs ys
theorem dpA_rows {K : PySem.W.Frag} {H : Hp} : ∀ {as : List Addr} {rs : Rws}, Paired (TupAt H) as rs → DpAll K H (as.map V.ref) (rs.map fun r => PyData.tuple [.str r.1, .str r.2])
  | _, _, .nil => .nil
  | _, _, .cons h q => .cons (.tup (SqT.of h) (.cons (.str _) (.cons (.str _) .nil))) (dpA_rows q)
theorem dpR {K : PySem.W.Frag} {H : Hp} {a : Addr} {rs : Rws} (h : RowsAt H a rs) : Dp K H (.ref a) (dR rs) := by
  obtain ⟨as, e, p⟩ := h
  exact .lst (SqL.of e) (dpA_rows p)
/-! ### the pass of a rank -/
def pass1 (l r : Str) : List Str → List Str
  | a :: b :: t => if a = l ∧ b = r then (l ++ r) :: pass1 l r t else a :: pass1 l r (b :: t)
  | t => t
/-- the places of the borders that fall; n signs stand ahead -/
def plc (l r : Str) : Nat → List Str → List Nat
  | n, a :: b :: t => if a = l ∧ b = r then (n + a.length) :: plc l r (n + a.length + b.length) t else plc l r (n + a.length) (b :: t)
  | _, _ => []
def passAll (rs : Rws) (xs : List Str) : List Str := rs.foldl (fun ys r => pass1 r.1 r.2 ys) xs
def sweep (rs : Rws) (t : Str) : List Str := passAll rs (sgs t)
theorem pass1_one (l r a : Str) : pass1 l r [a] = [a] := by unfold pass1; rfl
theorem pass1_nil (l r : Str) : pass1 l r [] = [] := by unfold pass1; rfl
theorem pass1_yes (l r : Str) (t : List Str) : pass1 l r (l :: r :: t) = (l ++ r) :: pass1 l r t := by
  rw [pass1]; exact if_pos ⟨rfl, rfl⟩
theorem pass1_no {l r a b : Str} (t : List Str) (h : ¬ (a = l ∧ b = r)) : pass1 l r (a :: b :: t) = a :: pass1 l r (b :: t) := by
  rw [pass1]; exact if_neg h
theorem pass1_mem (l r : Str) : ∀ (xs : List Str) (p : Str), p ∈ pass1 l r xs → p ∈ xs ∨ p = l ++ r
  | [], p, h => by rw [pass1_nil] at h; cases h
  | [a], p, h => by rw [pass1_one] at h; exact .inl h
  | a :: b :: t, p, h => by
    by_cases c : a = l ∧ b = r
    · obtain ⟨rfl, rfl⟩ := c
      rw [pass1_yes] at h
      rcases List.mem_cons.mp h with e | e
      · exact .inr e
      · rcases pass1_mem a b t p e with q | q
        · exact .inl (List.mem_cons_of_mem _ (List.mem_cons_of_mem _ q))
        · exact .inr q
    · rw [pass1_no t c] at h
      rcases List.mem_cons.mp h with e | e
      · exact .inl (e ▸ List.mem_cons_self)
      · rcases pass1_mem l r (b :: t) p e with q | q
        · exact .inl (List.mem_cons_of_mem _ q)
        · exact .inr q
termination_by xs => xs.length
theorem pass1_len (l r : Str) : ∀ xs : List Str, (pass1 l r xs).length ≤ xs.length
  | [] => by rw [pass1_nil]; exact Nat.le_refl _
  | [a] => by rw [pass1_one]; exact Nat.le_refl _
  | a :: b :: t => by
    by_cases c : a = l ∧ b = r
    · obtain ⟨rfl, rfl⟩ := c
      rw [pass1_yes]
      have := pass1_len a b t
      simp only [List.length_cons]
      omega
    · rw [pass1_no t c]
      have := pass1_len l r (b :: t)
      simp only [List.length_cons] at this ⊢
      omega
termination_by xs => xs.length
theorem plc_len (l r : Str) : ∀ (n : Nat) (xs : List Str), (plc l r n xs).length ≤ xs.length
  | n, [] => by unfold plc; exact Nat.zero_le _
  | n, [a] => by unfold plc; exact Nat.zero_le _
  | n, a :: b :: t => by
    rw [plc]
    by_cases c : a = l ∧ b = r
    · rw [if_pos c]
      have := plc_len l r (n + a.length + b.length) t
      simp only [List.length_cons]
      omega
    · rw [if_neg c]
      have := plc_len l r (n + a.length) (b :: t)
      simp only [List.length_cons] at this ⊢
      omega
termination_by _ xs => xs.length
end Jr
namespace Jr
open PySem PySem.Spec PyProof.Rows L2
/-! ### texts joined; passes keep the text -/
def flat (xs : List Str) : List Nat := xs.flatMap fun x => x.cps.toList
theorem joinL_nil : ∀ xs : List (List Nat), TL.joinL [] xs = xs.flatten
  | [] => rfl
  | [a] => by show a = _; simp
  | a :: b :: r => by
    show a ++ ([] ++ TL.joinL [] (b :: r)) = _
    rw [joinL_nil (b :: r)]
    simp
theorem join_cps (xs : List Str) : (Txt.join (Str.ofString "") xs).cps.toList = flat xs := by
  have e := TL.tl_join (Str.ofString "") xs
  rw [TL.join_eq]
  have e2 : TL.tl (Str.ofString "") = [] := by decide +kernel
  rw [e2, joinL_nil] at e
  refine Eq.trans e ?_
  unfold flat
  rw [List.flatMap_def]
theorem flat_sgs (t : Str) : flat (sgs t) = t.cps.toList := by
  unfold flat sgs
  rw [List.flatMap_map]
  have : ∀ l : List Nat, l.flatMap (fun c => (sgn c).cps.toList) = l := fun l => by
    induction l with
    | nil => rfl
    | cons c l ih => rw [List.flatMap_cons, ih]; rfl
  exact this _
theorem flat_cons (x : Str) (xs : List Str) : flat (x :: xs) = x.cps.toList ++ flat xs := List.flatMap_cons
theorem flat_app (xs ys : List Str) : flat (xs ++ ys) = flat xs ++ flat ys := List.flatMap_append
theorem pass1_flat (l r : Str) : ∀ xs : List Str, flat (pass1 l r xs) = flat xs
  | [] => by rw [pass1_nil]
  | [a] => by rw [pass1_one]
  | a :: b :: t => by
    by_cases c : a = l ∧ b = r
    · obtain ⟨rfl, rfl⟩ := c
      rw [pass1_yes, flat_cons, flat_cons, flat_cons, pass1_flat a b t, app_cps, List.append_assoc]
    · rw [pass1_no t c, flat_cons, flat_cons, pass1_flat l r (b :: t)]
termination_by xs => xs.length
theorem passAll_flat : ∀ (rs : Rws) (xs : List Str), flat (passAll rs xs) = flat xs
  | [], _ => rfl
  | r :: rs, xs => by
    show flat (passAll rs (pass1 r.1 r.2 xs)) = _
    rw [passAll_flat rs, pass1_flat]
theorem sweep_flat (rs : Rws) (t : Str) : flat (sweep rs t) = t.cps.toList := by
  unfold sweep
  rw [passAll_flat, flat_sgs]
theorem passAll_take {rs : Rws} {i : Nat} {r : Str × Str} (xs : List Str) (h : rs[i]? = some r) : passAll (rs.take (i + 1)) xs = pass1 r.1 r.2 (passAll (rs.take i) xs) := by
  unfold passAll
  rw [List.take_add_one, h]
  simp [List.foldl_append]
theorem passAll_len : ∀ (rs : Rws) (xs : List Str), (passAll rs xs).length ≤ xs.length
  | [], _ => Nat.le_refl _
  | r :: rs, xs => Nat.le_trans (passAll_len rs (pass1 r.1 r.2 xs)) (pass1_len ..)
theorem passAll_mem : ∀ (rs : Rws) (xs : List Str) (p : Str), p ∈ passAll rs xs → p ∈ xs ∨ ∃ r ∈ rs, p = jn r
  | [], _, _, h => .inl h
  | r :: rs, xs, p, h => by
    rcases passAll_mem rs (pass1 r.1 r.2 xs) p h with q | ⟨s, hs, e⟩
    · rcases pass1_mem r.1 r.2 xs p q with z | z
      · exact .inl z
      · exact .inr ⟨r, List.mem_cons_self, z⟩
    · exact .inr ⟨s, List.mem_cons_of_mem _ hs, e⟩
/-! ### the law's own pass: from the left, the last piece looked at -/
def stp (l r : Str) (f : List Str) (p : Str) : List Str := if p = r ∧ f.getLast? = some l then f.dropLast ++ [l ++ r] else f ++ [p]
theorem stp_cons {l r a : Str} {f : List Str} (p : Str) (h : f ≠ []) : stp l r (a :: f) p = a :: stp l r f p := by
  unfold stp
  have e : (a :: f).getLast? = f.getLast? := by
    cases f with
    | nil => exact absurd rfl h
    | cons b t => exact List.getLast?_cons_cons
  have e2 : (a :: f).dropLast = a :: f.dropLast := List.dropLast_cons_of_ne_nil h
  rw [e, e2]
  by_cases c : p = r ∧ f.getLast? = some l
  · rw [if_pos c, if_pos c]; rfl
  · rw [if_neg c, if_neg c]; rfl
theorem pass1_ne (l r : Str) : ∀ xs : List Str, xs ≠ [] → pass1 l r xs ≠ []
  | [], h => absurd rfl h
  | [a], _ => by rw [pass1_one]; simp
  | a :: b :: t, _ => by
    by_cases c : a = l ∧ b = r
    · obtain ⟨rfl, rfl⟩ := c
      rw [pass1_yes]; simp
    · rw [pass1_no t c]; simp
theorem app_ne {l r : Str} (h : 1 ≤ r.length) : ¬ l ++ r = l := fun e => by
  have := congrArg Str.length e
  rw [app_len] at this
  omega
theorem pass1_snoc {l r : Str} (hr : 1 ≤ r.length) : ∀ (xs : List Str) (p : Str), pass1 l r (xs ++ [p]) = stp l r (pass1 l r xs) p
  | [], p => by
    rw [pass1_nil, List.nil_append, pass1_one]
    unfold stp
    rw [if_neg (by simp)]
    rfl
  | [a], p => by
    rw [pass1_one]
    show pass1 l r [a, p] = _
    unfold stp
    by_cases c : a = l ∧ p = r
    · obtain ⟨rfl, rfl⟩ := c
      rw [pass1_yes, pass1_nil, if_pos ⟨rfl, rfl⟩]; rfl
    · rw [pass1_no [] c, pass1_one, if_neg (fun z => c ⟨Option.some.inj z.2, z.1⟩)]; rfl
  | a :: b :: t, p => by
    by_cases c : a = l ∧ b = r
    · obtain ⟨rfl, rfl⟩ := c
      show pass1 a b (a :: b :: (t ++ [p])) = _
      rw [pass1_yes, pass1_yes, pass1_snoc hr t p]
      by_cases e : t = []
      · subst e
        rw [pass1_nil]
        unfold stp
        rw [if_neg (by simp), if_neg (fun z => app_ne hr (Option.some.inj z.2))]; rfl
      · rw [stp_cons p (pass1_ne a b t e)]
    · show pass1 l r (a :: b :: (t ++ [p])) = _
      rw [pass1_no _ c, pass1_no _ c]
      have ih := pass1_snoc (l := l) hr (b :: t) p
      have ih2 : pass1 l r (b :: (t ++ [p])) = stp l r (pass1 l r (b :: t)) p := ih
      rw [ih2, stp_cons p (pass1_ne l r (b :: t) (by simp))]
termination_by xs => xs.length
theorem pass1_take {l r : Str} (hr : 1 ≤ r.length) {xs : List Str} {i : Nat} {p : Str} (h : xs[i]? = some p) : pass1 l r (xs.take (i + 1)) = stp l r (pass1 l r (xs.take i)) p := by
  rw [List.take_add_one, h]
  exact pass1_snoc hr _ _
end Jr
namespace Jr
open PySem PySem.Spec PyProof.Rows L2
/-- a text of the table's signs -/
def TextOf (z t : Str) : Prop := ∀ c ∈ t.cps.toList, c ∈ z.cps.toList
theorem sweep_in {z : Str} {rs : Rws} {t : Str} (tx : TextOf z t) {n : Nat} {p : Str} (h : p ∈ passAll (rs.take n) (sgs t)) : p ∈ pcs z rs := by
  rcases passAll_mem _ _ p h with q | ⟨r, hr, rfl⟩
  · obtain ⟨c, hc, rfl⟩ := List.mem_map.mp q
    exact List.mem_append_left _ (List.mem_map.mpr ⟨c, tx c hc, rfl⟩)
  · exact List.mem_append_right _ (List.mem_map.mpr ⟨r, List.mem_of_mem_take hr, rfl⟩)
theorem sweep_pc {z : Str} {rs : Rws} {t : Str} (tx : TextOf z t) {p : Str} (h : p ∈ sweep rs t) : p ∈ pcs z rs := by
  have h2 : p ∈ passAll (rs.take rs.length) (sgs t) := by rw [List.take_length]; exact h
  exact sweep_in tx h2
theorem at_last {α : Type} {xs : List α} {x : α} (h : xs.getLast? = some x) : atI xs (-1) = some x := by
  have hl : 0 < xs.length := by
    cases xs with
    | nil => cases h
    | cons a t => simp
  unfold atI ixN
  rw [if_neg (by omega), if_pos (by omega)]
  have e : ((-1 : Int) + (xs.length : Int)).toNat = xs.length - 1 := by omega
  rw [e]
  rw [List.getLast?_eq_getElem?] at h
  exact h
theorem ix_last {n : Nat} (h : 0 < n) : ixN n (-1) = some (n - 1) := by
  unfold ixN
  rw [if_neg (by omega), if_pos (by omega)]
  have e : ((-1 : Int) + (n : Int)).toNat = n - 1 := by omega
  rw [e]
theorem set_last {α : Type} (y : α) : ∀ xs : List α, xs ≠ [] → xs.set (xs.length - 1) y = xs.dropLast ++ [y]
  | [], h => absurd rfl h
  | [a], _ => rfl
  | a :: b :: t, _ => by
    have ih := set_last y (b :: t) (by simp)
    show a :: (b :: t).set ((b :: t).length - 1) y = a :: ((b :: t).dropLast ++ [y])
    rw [ih]
theorem rep_one {α : Type} (n : Nat) (x : α) : (List.replicate n [x]).flatten = List.replicate n x := by simp
theorem map_rep {α β : Type} (f : α → β) (n : Nat) (x : α) : (List.replicate n x).map f = List.replicate n (f x) := by simp
theorem text_app {z a b : Str} (ha : TextOf z a) (hb : TextOf z b) : TextOf z (a ++ b) := fun c hc => by
  rw [app_cps] at hc
  rcases List.mem_append.mp hc with h | h
  · exact ha c h
  · exact hb c h
theorem text_nil (z : Str) : TextOf z (Str.ofString "") := fun c hc => by
  have e : (Str.ofString "").cps.toList = [] := by decide +kernel
  rw [e] at hc; cases hc
theorem text_to {z t : Str} (h : TextOf z t) (n : Nat) : TextOf z (cutS t none (some (n : Int))) := fun c hc => by
  rw [cut_to] at hc; exact h c (List.mem_of_mem_take hc)
theorem text_from {z t : Str} (h : TextOf z t) (n : Nat) : TextOf z (cutS t (some (n : Int)) none) := fun c hc => by
  rw [cut_from] at hc; exact h c (List.mem_of_mem_drop hc)
theorem RowsAt.copy {H : Hp} {p q : Addr} {rs : Rws} {as : List Addr} (h : Paired (TupAt H) as rs) (hq : H q = none) : RowsAt (upd H q (.lst (as.map V.ref))) q rs := ⟨as, upd_same, TupAt.same (Same.new hq) h⟩
/-- texts that a sweeping tells are the text -/
theorem join_sweep (rs : Rws) (t : Str) : Txt.join (Str.ofString "") (sweep rs t) = t := str_ext (by rw [join_cps, sweep_flat])
theorem flat_len : ∀ xs : List Str, (xs.map (·.length)).sum = (flat xs).length
  | [] => rfl
  | x :: xs => by rw [List.map_cons, List.sum_cons, flat_cons, List.length_append, flat_len xs, len_cps]
theorem zip_fst {α β γ : Type} {F : α → β → Prop} (f : α → γ) : ∀ {l : List α} {m : List β}, Paired F l m → (l.zip m).map (fun x => f x.1) = l.map f
  | _, _, .nil => rfl
  | _, _, .cons _ q => by rw [List.zip_cons_cons, List.map_cons, List.map_cons, zip_fst f q]
theorem zip_snd {α β γ : Type} {F : α → β → Prop} (f : β → γ) : ∀ {l : List α} {m : List β}, Paired F l m → (l.zip m).map (fun x => f x.2) = m.map f
  | _, _, .nil => rfl
  | _, _, .cons _ q => by rw [List.zip_cons_cons, List.map_cons, List.map_cons, zip_snd f q]
theorem zip_mem {α β : Type} {F : α → β → Prop} : ∀ {l : List α} {m : List β}, Paired F l m → ∀ x ∈ l.zip m, F x.1 x.2 ∧ x.2 ∈ m
  | _, _, .nil, x, h => by cases h
  | _, _, .cons r q, x, h => by
    rw [List.zip_cons_cons] at h
    rcases List.mem_cons.mp h with e | e
    · rw [e]; exact ⟨r, List.mem_cons_self⟩
    · obtain ⟨a, b⟩ := zip_mem q x e
      exact ⟨a, List.mem_cons_of_mem _ b⟩
theorem TabOk.rlen {z : Str} {rs : Rws} (T : TabOk z rs) : ∀ r ∈ rs, r.1.length + r.2.length ≤ 1000 := fun r hr => by
  obtain ⟨i, hi, e⟩ := List.mem_iff_getElem.mp hr
  have o := T.rows i r (by rw [List.getElem?_eq_getElem hi, e])
  have := o.len
  have q : (jn r).length = r.1.length + r.2.length := app_len _ _
  omega
def spLaw (K : PySem.W.Frag) : Sp := fun vs H Q _ => ∃ (a : Addr) (ns : List Int), vs = [.ref a] ∧ SqL K H a (ns.map V.int) ∧ ns.length ≤ 63 ∧ ∀ H', Q (.bl true) H'
theorem mod_at {α : Type} (f : α → V) (xs : List α) (h : 0 < xs.length) (d : Int) : ∃ x ∈ xs, atI (xs.map f) (d % ((xs.map f).length : Nat)) = some (f x) := by
  have h0 := Int.emod_nonneg d (show (((xs.map f).length : Nat) : Int) ≠ 0 by rw [List.length_map]; omega)
  have h1 := Int.emod_lt_of_pos d (show (0 : Int) < ((xs.map f).length : Nat) by rw [List.length_map]; omega)
  obtain ⟨m, hm⟩ := Int.eq_ofNat_of_zero_le h0
  rw [hm]
  rw [hm, List.length_map] at h1
  have hm2 : m < xs.length := by omega
  exact ⟨xs[m], List.getElem_mem hm2, atm (List.getElem?_eq_getElem hm2)⟩
end Jr
namespace Jr
open PySem PySem.Spec PyProof.Rows L2
/-! ### new objects, told by Same: nothing of the heap but what is known stays in a question -/
section
variable {X : Cx}
theorem pe_mono {e : Expr} {t t' : TE} (h : PE X e t) (m : ∀ σ H Q, t' σ H Q → t σ H Q) : PE X e t' := ⟨fun pins s σ H Q I q => h.run pins s σ H Q I (m σ H Q q)⟩
theorem ps_mono {e : Stmt} {t t' : TS} (h : PS X e t) (m : ∀ D σ H, t' D σ H → t D σ H) : PS X e t' := ⟨fun pins s σ H D I q => h.run pins s σ H D I (m D σ H q)⟩
theorem op_mono {f : Value → Value → Sem Value} {r r' : R2} (h : OpR X f r) (m : ∀ x y H Q, r' x y H Q → r x y H Q) : OpR X f r' := fun pins s σ H x y v u Q I rx ry q => h pins s σ H x y v u Q I rx ry (m x y H Q q)
theorem call_mono {f : Value} {r r' : List V → Hp → VK → Prop} (h : CallR X f r) (m : ∀ x H Q, r' x H Q → r x H Q) : CallR X f r' := fun pins s σ H x v Q I rx q => h pins s σ H x v Q I rx (m x H Q q)
theorem sl_mono {r r' : V → Option Int → Option Int → Hp → VK → Prop} (h : SlR X r) (m : ∀ x lo hi H Q, r' x lo hi H Q → r x lo hi H Q) : SlR X r' :=
  fun pins s σ H x v vl vu lo hi sl Q I rx hs pl pu q => h pins s σ H x v vl vu lo hi sl Q I rx hs pl pu (m x lo hi H Q q)
/-- a new object -/
def New (H : Hp) (o : HO) (Q : VK) : Prop := ∀ p H', H p = none → Same H H' → H' p = some o → Q (.ref p) H'
theorem New.of {H : Hp} {o : HO} {Q : VK} (h : New H o Q) : ∀ p, H p = none → Q (.ref p) (upd H p o) := fun p hp => h p _ hp (Same.new hp) upd_same
/-- arguments, what follows weakened -/
def clA (t : TA) : TA := fun σ H Q => ∃ Q', (∀ vs H, Q' vs H → Q vs H) ∧ t σ H Q'
def clE (t : TE) : TE := fun σ H Q => ∃ Q', (∀ v H, Q' v H → Q v H) ∧ t σ H Q'
theorem pa_cl {es : List Expr} {t : TA} (h : PA X es t) : PA X es (clA t) := ⟨fun pos pins s σ H Q I ⟨Q', m, q⟩ => thn (h.run pos pins s σ H Q' I q) fun _ _ ⟨vs, H', I', r, z⟩ => ⟨vs, H', I', r, m _ _ z⟩⟩
theorem pe_cl {e : Expr} {t : TE} (h : PE X e t) : PE X e (clE t) := ⟨fun pins s σ H Q I ⟨Q', m, q⟩ => thn (h.run pins s σ H Q' I q) fun _ _ ⟨v, H', I', r, z⟩ => ⟨v, H', I', r, m _ _ z⟩⟩
/-- a test, its answer told ahead -/
def clT (t : TT) : TT := fun σ H Q => ∃ Q' : Bool → Hp → Prop, t σ H Q' ∧ ∀ b H, Q' b H → Q b H
theorem pt_cl {e : Expr} {t : TT} (h : PT X e t) : PT X e (clT t) := ⟨fun pins s σ H Q I ⟨Q', q, m⟩ => thn (h.run pins s σ H Q' I q) fun _ _ ⟨H', I', z⟩ => ⟨H', I', m _ _ z⟩⟩
def tLstG (t : TA) : TE := fun σ H Q => t σ H fun xs H1 => xs.length ≤ sizeLine ∧ New H1 (.lst xs) Q
def tTupG (t : TA) : TE := fun σ H Q => t σ H fun xs H1 => xs.length ≤ sizeLine ∧ New H1 (.tup xs) Q
theorem pe_lstG {es : List Expr} {t : TA} {pos : Pos} (h : PA X es t) : PE X (.List es pos) (tLstG t) := pe_mono (pe_lst (pa_cl h)) fun _ _ _ q => ⟨_, fun _ _ ⟨z, n⟩ => ⟨z, n.of⟩, q⟩
theorem pe_tupG {es : List Expr} {t : TA} {pos : Pos} {x1} (h : PA X es t) : PE X (.Tuple es x1 pos) (tTupG t) := pe_mono (pe_tup (pa_cl h)) fun _ _ _ q => ⟨_, fun _ _ ⟨z, n⟩ => ⟨z, n.of⟩, q⟩
def rCatG (K : PySem.W.Frag) : R2 := fun x y H Q => ∃ l b xs zs, x = .ref l ∧ y = .ref b ∧ SqL K H l xs ∧ SqL K H b zs ∧ xs.length + zs.length ≤ sizeLine ∧ New H (.lst (xs ++ zs)) Q
theorem op_catG : OpR X (binaryOp .Add) (rCatG X.K) := op_mono op_catL fun _ _ _ _ ⟨l, b, xs, zs, e1, e2, h1, h2, z, n⟩ => ⟨l, b, xs, zs, e1, e2, h1, h2, z, n.of⟩
theorem sl_listG : SlR X (fun x lo hi H Q => ∃ a xs, x = .ref a ∧ SqL X.K H a xs ∧ New H (.lst (cutV xs lo hi)) Q) := sl_mono sl_list fun _ _ _ _ _ ⟨a, xs, e, h, n⟩ => ⟨a, xs, e, h, n.of⟩
theorem call_listG : CallR X (.type "list") (fun xs H Q => ∃ p ys, xs = [.ref p] ∧ (SqL X.K H p ys ∨ SqT X.K H p ys) ∧ New H (.lst ys) Q) := call_mono call_list_of fun _ _ _ ⟨p, ys, e, h, n⟩ => ⟨p, ys, e, h, n.of⟩
theorem call_listSG (hc : X.calm = true) : CallR X (.type "list") (fun xs H Q => ∃ z : Str, xs = [.str z] ∧ z.length ≤ sizeLine ∧ New H (.lst ((sgs z).map V.str)) Q) := call_mono (call_list_str hc) fun _ _ _ ⟨z, e, h, n⟩ => ⟨z, e, h, n.of⟩
theorem op_catGK {K : PySem.W.Frag} (h : X.K = K := by rfl) : OpR X (binaryOp .Add) (rCatG K) := by subst h; exact op_catG
theorem sl_listGK {K : PySem.W.Frag} (h : X.K = K := by rfl) : SlR X (fun x lo hi H Q => ∃ a xs, x = .ref a ∧ SqL K H a xs ∧ New H (.lst (cutV xs lo hi)) Q) := by subst h; exact sl_listG
theorem call_listGK {K : PySem.W.Frag} (h : X.K = K := by rfl) : CallR X (.type "list") (fun xs H Q => ∃ p ys, xs = [.ref p] ∧ (SqL K H p ys ∨ SqT K H p ys) ∧ New H (.lst ys) Q) := by subst h; exact call_listG
theorem op_repG : OpR X (binaryOp .Mult) (fun x y H Q => ∃ l k xs, x = .ref l ∧ y = .int k ∧ H l = some (.lst xs) ∧ -(2 ^ 63) ≤ k ∧ k < 2 ^ 63 ∧ xs.length * k.toNat ≤ sizeLine ∧ New H (.lst (List.replicate k.toNat xs).flatten) Q) :=
  op_mono op_rep fun _ _ _ _ ⟨l, k, xs, e1, e2, h, a, b, c, n⟩ => ⟨l, k, xs, e1, e2, h, a, b, c, n.of⟩
/-! ### a written list of ints -/
def tInts (ns : List Int) : TE := fun _ H Q => New H (.lst (ns.map V.int)) Q
theorem pe_litI {e : Expr} {t : TA} {ns : List Int} (h : PE X e (tLst t)) (ht : ∀ σ H Q, t σ H Q = Q (ns.map V.int) H) (hl : ns.length ≤ 1000) : PE X e (tInts ns) := pe_mono h fun σ H Q n => by
  show t σ H _
  rw [ht]
  exact ⟨by rw [List.length_map]; exact sz (by omega), n.of⟩
theorem pe_catI {a b : Expr} {ms ns : List Int} {pos : Pos} (ha : PE X a (tInts ms)) (hb : PE X b (tInts ns)) (hl : ms.length + ns.length ≤ 1000) : PE X (.BinOp a .Add b pos) (tInts (ms ++ ns)) :=
  pe_mono (pe_op op_catG ha hb) fun _ _ _ n p H1 np s1 h1 q H2 nq s2 h2 =>
    ⟨p, q, _, _, rfl, rfl, SqL.of (s2 _ _ h1), SqL.of h2, by rw [List.length_map, List.length_map]; exact sz (by omega), fun r H3 nr s3 h3 =>
      n r H3 (s1.free (s2.free nr)) ((s1.trans s2).trans s3) (by rw [h3, List.map_append])⟩
theorem pe_repI {a b : Expr} {ms : List Int} {k : Nat} {pos : Pos} (ha : PE X a (tInts ms)) (hb : PE X b (tC (.int (k : Int)))) (hl : ms.length * k ≤ 1000) (hk : k ≤ 1000) : PE X (.BinOp a .Mult b pos) (tInts (List.replicate k ms).flatten) :=
  pe_mono (pe_op op_rep ha hb) fun _ _ _ n p H1 np s1 h1 => by
    refine ⟨p, _, _, rfl, rfl, h1, ?_, ?_, ?_, fun q nq => n q _ (s1.free nq) (s1.trans (Same.new nq)) ?_⟩
    · omega
    · omega
    · rw [List.length_map, Int.toNat_natCast]; exact sz (by omega)
    · rw [upd_same, Int.toNat_natCast]
      congr 2
      rw [List.map_flatten, List.map_replicate]
theorem pe_intsAs {e : Expr} {ms ns : List Int} (h : PE X e (tInts ms)) (q : ms = ns) : PE X e (tInts ns) := q ▸ h
end
end Jr
namespace Jr
open PySem PySem.Spec PyProof.Rows L2
/-! ### calls of defs, methods, classes that may raise -/
section
variable {X : Cx} {k : Nat} {x : Str} {sp : Sp} {e : Expr} {es : List Expr} {t : TA} {p pos apos : Pos} {C : Addr} {m : Str} {o : Expr} {ta : TE} {W : WX}
theorem pe_calX (F : Cal X.prog X.w X.K X.mg X.base (L2.CX X.prog X.w) k x sp) (hr : Room k X.A) (hg : Gl X x) (tk : Takes X W) (ha : PA X (e :: es) t) (hdb : (x == ("__debug__" : Str)) = false := by decide)
    (he : starEach (e :: es) X.env = (false, eval e X.env) :: starEach es X.env := by rfl) (hpl : (backTo pos (starEach es X.env)).any (·.1) = false := by rfl) :
    PE X (.Call (.Name x p) (e :: es) [] pos) (fun σ H Q => t σ H fun vs H1 => sp vs H1 Q (WE W σ)) := by
  obtain ⟨f, fd, ps, G, gm, kp, b⟩ := F.ex
  exact pe_callS G hr hg gm kp b (fun σ => passAt tk σ) ha hdb he hpl
theorem pe_calL (F : Cal X.prog X.w X.K X.mg X.base (L2.CX X.prog X.w) k x sp) (hr : Room k X.A) (hg : Gl X x) (ha : PA X (e :: es) t) (hdb : (x == ("__debug__" : Str)) = false := by decide)
    (he : starEach (e :: es) X.env = (false, eval e X.env) :: starEach es X.env := by rfl) (hpl : (backTo pos (starEach es X.env)).any (·.1) = false := by rfl) :
    PE X (.Call (.Name x p) (e :: es) [] pos) (fun σ H Q => t σ H fun vs H1 => sp vs H1 Q E0) := by
  obtain ⟨f, fd, ps, G, gm, kp, b⟩ := F.ex
  have z := pe_call (p := p) (pos := pos) (es := es) G hr hg gm kp b .nil passL ha hdb he hpl
  refine ⟨fun pins s σ H Q I h => z.run pins s σ H Q I ?_⟩
  show t σ H fun vs H1 => sp (vs ++ []) H1 Q E0
  simpa only [List.append_nil] using h
theorem pe_metL {pl : Sem Bool} (F : Met X.prog X.w X.K X.mg X.base (L2.CX X.prog X.w) k C m sp) (ho : PE X o ta) (hr : Room k X.A) (ha : PA X (e :: es) t)
    (hc : eval (.Call (.Attribute o m apos) (e :: es) [] pos) X.env = (do
      let ov ← eval o X.env
      standAt apos.atName
      let (f, first) ← holding [ov] (getMethod ov m pl)
      callWith pos f first (backTo pos (starEach (e :: es) X.env)) (backToKw pos (keywordEach [] X.env))) := by rfl)
    (he : starEach (e :: es) X.env = (false, eval e X.env) :: starEach es X.env := by rfl) (hpl : (backTo pos (starEach es X.env)).any (·.1) = false := by rfl) :
    PE X (.Call (.Attribute o m apos) (e :: es) [] pos) (fun σ H Q => ta σ H fun x H1 => ∃ a dx fs, x = .ref a ∧ H1 a = some (.ins C dx fs) ∧ fs.lookup m = none ∧ t σ H1 fun vs H2 => sp (x :: vs) H2 Q E0) := by
  obtain ⟨f, fd, ps, G, mt, b⟩ := F.ex
  have z := pe_meth (apos := apos) (pos := pos) ho F.cl mt G hr b .nil passL ha he hpl hc
  refine ⟨fun pins s σ H Q I h => z.run pins s σ H Q I ?_⟩
  show ta σ H fun x H1 => ∃ a dx fs, x = .ref a ∧ H1 a = some (.ins C dx fs) ∧ fs.lookup m = none ∧ t σ H1 fun vs H2 => sp (x :: (vs ++ [])) H2 Q E0
  simpa only [List.append_nil] using h
theorem pe_metX {pl : Sem Bool} (F : Met X.prog X.w X.K X.mg X.base (L2.CX X.prog X.w) k C m sp) (ho : PE X o ta) (hr : Room k X.A) (tk : Takes X W) (ha : PA X (e :: es) t)
    (hc : eval (.Call (.Attribute o m apos) (e :: es) [] pos) X.env = (do
      let ov ← eval o X.env
      standAt apos.atName
      let (f, first) ← holding [ov] (getMethod ov m pl)
      callWith pos f first (backTo pos (starEach (e :: es) X.env)) (backToKw pos (keywordEach [] X.env))) := by rfl)
    (he : starEach (e :: es) X.env = (false, eval e X.env) :: starEach es X.env := by rfl) (hpl : (backTo pos (starEach es X.env)).any (·.1) = false := by rfl) :
    PE X (.Call (.Attribute o m apos) (e :: es) [] pos) (fun σ H Q => ta σ H fun x H1 => ∃ a dx fs, x = .ref a ∧ H1 a = some (.ins C dx fs) ∧ fs.lookup m = none ∧ t σ H1 fun vs H2 => sp (x :: vs) H2 Q (WE W σ)) := by
  obtain ⟨f, fd, ps, G, mt, b⟩ := F.ex
  constructor
  intro pins s σ H Q I h
  refine PySem.W.methodCall_KW (pl := pl) (thn (ho.run pins s σ H _ I h) ?_) hc
  rintro u s1 ⟨v, H1, I1, rv, a, dx, fs, ev, ea, hl, q⟩
  subst ev
  obtain rfl : u = Value.ref a := rv
  refine getmeth_ok I1 ea F.cl mt hl (PySem.W.callWith_K (first := [.ref a]) (h₀ := X.base) I1.ok.mod.kin mt.kp (thn (ha.run pos pins s1 σ H1 _ I1 q) ?_) he hpl)
  rintro us s2 ⟨vs, H2, I2, r, q2⟩
  exact ⟨I2.kIn, run_fnS (us := .ref a :: us) (vs := .ref a :: vs) (E := WE W) G hr b (passAt tk σ) I2 (.cons rfl r) q2⟩
/-- C(..) of an own class whose __init__ may raise -/
theorem pe_mkX (F : Mkc X.prog X.w X.K X.mg X.base (L2.CX X.prog X.w) k x C sp) (hr : Room (k + 1) X.A) (hg : Gl X x) (tk : Takes X W) (ha : PA X (e :: es) t) (hdb : (x == ("__debug__" : Str)) = false := by decide)
    (he : starEach (e :: es) X.env = (false, eval e X.env) :: starEach es X.env := by rfl) (hpl : (backTo pos (starEach es X.env)).any (·.1) = false := by rfl) :
    PE X (.Call (.Name x p) (e :: es) [] pos) (fun σ H Q => t σ H fun vs H1 => ∀ x dx, H1 x = none → H1 dx = none → dx ≠ x →
      sp (.ref x :: vs) (upd (upd H1 dx (.own x)) x (.ins C dx [])) (fun v H2 => v = .non ∧ Q (.ref x) H2) (WE W σ)) := by
  obtain ⟨f, fd, ps, G, mk, b⟩ := F.ex
  constructor
  intro pins s σ H Q I h
  refine wpAny_Call_Name_kw (ld_glob I hg F.g (PySem.W.callWith_K (h₀ := X.base) I.ok.mod.kin mk.kp (thn (ha.run pos pins s σ H _ I h) ?_) he hpl) hdb)
  rintro us s1 ⟨vs, H1, I1, r, q⟩
  refine ⟨I1.kIn, ?_⟩
  have hq := q (s1.heap.objs.size + 1) s1.heap.objs.size (I1.hok.fresh (Nat.le_succ _)) (I1.hok.fresh (Nat.le_refl _)) (Nat.ne_of_lt (Nat.lt_succ_self _))
  have I2 := Inv.made (C := C) I1
  have r2 : Vals (V.ref (s1.heap.objs.size + 1) :: vs) (Value.ref (s1.heap.objs.size + 1) :: us) := .cons rfl r
  have hl : (Value.ref (s1.heap.objs.size + 1) :: us).length = ps.length := by
    rw [← r2.length]
    exact G.len _ _ _ _ hq
  have bb := b { s1 with heap := _ } (Value.ref (s1.heap.objs.size + 1) :: us) I2.kIn (by rw [List.append_nil]; exact hl)
  rw [List.append_nil] at bb
  have G2 := G.run _ X.stack _ _ ⟨Value.ref (s1.heap.objs.size + 1) :: us, []⟩ (Value.ref (s1.heap.objs.size + 1) :: us) _ _ (WE W σ) (hr.make C us []) (I2.env0.make C us []) bb r2 hq
  refine wpAny_call (make_map (f := f) I1.kIn mk.makes mk.init (beq_iff_eq.mp mk.fn) (codeAny_mono G2 ?_))
  intro r' s' hq'
  cases r' with
  | error er => exact passAt tk σ pins _ _ er s' I2 hq'
  | ok fl =>
    cases fl with
    | ret u =>
      obtain ⟨v, H', I3, rv, ev, q3⟩ := I2.after hq'
      subst ev
      exact ⟨rv, ⟨V.ref (s1.heap.objs.size + 1), H', I3, rfl, q3⟩⟩
    | next => exact hq'.elim
    | brk => exact hq'.elim
    | cont => exact hq'.elim
theorem pe_mkL (F : Mkc X.prog X.w X.K X.mg X.base (L2.CX X.prog X.w) k x C sp) (hr : Room (k + 1) X.A) (hg : Gl X x) (ha : PA X (e :: es) t) (hdb : (x == ("__debug__" : Str)) = false := by decide)
    (he : starEach (e :: es) X.env = (false, eval e X.env) :: starEach es X.env := by rfl) (hpl : (backTo pos (starEach es X.env)).any (·.1) = false := by rfl) :
    PE X (.Call (.Name x p) (e :: es) [] pos) (fun σ H Q => t σ H fun vs H1 => ∀ x dx, H1 x = none → H1 dx = none → dx ≠ x →
      sp (.ref x :: vs) (upd (upd H1 dx (.own x)) x (.ins C dx [])) (fun v H2 => v = .non ∧ Q (.ref x) H2) E0) := by
  obtain ⟨f, fd, ps, G, mk, b⟩ := F.ex
  have z := pe_make (p := p) (pos := pos) (es := es) mk G hr hg F.g b .nil passL ha hdb he hpl
  refine ⟨fun pins s σ H Q I h => z.run pins s σ H Q I ?_⟩
  show t σ H fun vs H1 => ∀ x dx, H1 x = none → H1 dx = none → dx ≠ x → sp (.ref x :: (vs ++ [])) (upd (upd H1 dx (.own x)) x (.ins C dx [])) (fun v H2 => v = .non ∧ Q (.ref x) H2) E0
  simpa only [List.append_nil] using h
end
/-! ### a def read off its class: C.m(self, ..) -/
theorem vV (K : PySem.W.Frag) : PySem.W.findCls K (.type "ValueError") (.type "type") "__init__" = some (.val (.builtin "ValueError.__init__")) := by kernel_rfl
structure Cdf (P : Program) (w : World) (K : PySem.W.Frag) (mg : Str → Option Value) (base : Heap) (k : Nat) (x : Str) (C : Addr) (m : Str) (sp : Sp) : Prop where
  ex : ∃ (f : Addr) (fd : FuncData) (ps : List Str), FnOk P w K mg base CX0 k f fd ps sp ∧ PySem.W.readsIn K C (.type "type") = true ∧ PySem.W.specialIn K (.ref C) "__getattribute__" = some (some (.builtin "type.__getattribute__")) ∧
    PySem.W.findCls K (.ref C) (.type "type") m = some (.val (.ref f)) ∧ PySem.W.keepIn K (.ref f) = true ∧ Binds K fd ps []
  g : mg x = some (.ref C)
theorem pe_cdef {X : Cx} {k : Nat} {x m : Str} {C : Addr} {sp : Sp} {e : Expr} {es : List Expr} {t : TA} {p1 p2 pos : Pos} {pl : Sem Bool} (F : Cdf X.prog X.w X.K X.mg X.base k x C m sp) (hr : Room k X.A) (hg : Gl X x) (ha : PA X (e :: es) t)
    (hc : eval (.Call (.Attribute (.Name x p1) m p2) (e :: es) [] pos) X.env = (do
      let ov ← eval (.Name x p1) X.env
      standAt p2.atName
      let (f, first) ← holding [ov] (getMethod ov m pl)
      callWith pos f first (backTo pos (starEach (e :: es) X.env)) (backToKw pos (keywordEach [] X.env))) := by rfl)
    (hdb : (x == ("__debug__" : Str)) = false := by decide) (he : starEach (e :: es) X.env = (false, eval e X.env) :: starEach es X.env := by rfl) (hpl : (backTo pos (starEach es X.env)).any (·.1) = false := by rfl) :
    PE X (.Call (.Attribute (.Name x p1) m p2) (e :: es) [] pos) (fun σ H Q => t σ H fun vs H1 => sp vs H1 Q E0) := by
  obtain ⟨f, fd, ps, G, rd, ga, fc, kp, b⟩ := F.ex
  constructor
  intro pins s σ H Q I h
  refine PySem.W.methodCall_KW (pl := pl) (ld_glob I hg F.g (PySem.W.method_cls I.kIn ga (PySem.W.cls_value I.kIn rd fc rfl ?_)) hdb) hc
  refine PySem.W.callWith_K (first := []) (h₀ := X.base) I.ok.mod.kin kp (thn (ha.run pos pins _ σ H _ (I.tok _) h) ?_) he hpl
  rintro us s1 ⟨vs, H1, I1, r, q⟩
  exact ⟨I1.kIn, run_fn (us := us) G hr b .nil pass0 I1 r (by rw [List.append_nil]; exact q)⟩
/-! ### {x} of None, an int, a text -/
def Fmt (v : V) : Prop := v = .non ∨ (∃ i : Int, v = .int i ∧ i.natAbs.log2 < 1920) ∨ ∃ y : Str, v = .str y ∧ y.length ≤ 1000
def tFmtN (te : TE) : TE := fun σ H Q => te σ H fun x H1 => Fmt x ∧ ∀ y : Str, y.length ≤ 2000 → Q (.str y) H1
theorem pe_fmtN {X : Cx} {e : Expr} {te : TE} {pos : Pos} (he : PE X e te) : PE X (.FormattedValue e (-1) none pos) (tFmtN te) := by
  constructor
  intro pins s σ H Q I h
  refine wpAny_FormattedValue_plain (thn (he.run pins s σ H _ I h) ?_)
  rintro v s1 ⟨x, H1, I1, r1, fm, q⟩
  rcases fm with rfl | ⟨i, rfl, hz⟩ | ⟨y, rfl, hz⟩
  · cases r1
    exact wpAny_formatField_none ⟨.str "None", H1, I1.tok _, ⟨_, rfl⟩, q _ (by decide +kernel)⟩
  · obtain ⟨t, rfl⟩ := r1
    have l := int_text_length_le (k := 1920) (by decide) hz
    refine wpAny_formatField_int hz ⟨.str (Str.ofString (toString i)), H1, I1.tok _, ⟨_, rfl⟩, q _ ?_⟩
    rw [PySem.ofString_length]
    omega
  · obtain ⟨t, rfl⟩ := r1
    exact wpAny_formatField_str ⟨.str y, H1, I1, ⟨t, rfl⟩, q y (by omega)⟩ ⟨.str y, H1, I1.tok _, ⟨_, rfl⟩, q y (by omega)⟩ (sz (by omega))
/-! ### what the text says of an own exception class, as a Bool -/
def clsB (K : PySem.W.Frag) (C : Addr) : Bool := match K.lookup C with
  | some ⟨.type "type", _, .cls cd, sl⟩ => (match cd.mro, sl.toList with
    | .ref D :: bm, [_, _, _, _, some (.builtin n), _] => (D == C && n == "ValueError.__new__") && (!cd.hasDel && (cd.hasDict && PySem.HandSPX.refsVE bm))
    | _, _ => false)
  | _ => false
theorem clsB_ok {K : PySem.W.Frag} {C : Addr} (h : clsB K C = true) : ∃ nm q N bs bm sn sub ab col dd k0 k1 k2 k3 k5, K.lookup C = some (excClassObj nm q C N bs bm true sn sub ab col dd k0 k1 k2 k3 k5 "ValueError.__new__") ∧ PySem.HandSPX.refsVE bm = true := by
  unfold clsB at h
  split at h
  · rename_i dd cd sl ho
    split at h
    · rename_i D bm k0 k1 k2 k3 n k5 e1 e2
      rw [Bool.and_eq_true, Bool.and_eq_true, Bool.and_eq_true, Bool.and_eq_true, beq_iff_eq, beq_iff_eq, Bool.not_eq_true'] at h
      obtain ⟨⟨h1, h2⟩, h3, h4, h5⟩ := h
      subst h1 h2
      obtain ⟨nm, bs, mro, ns, qn, hd, sn, sub, ab, col, de⟩ := cd
      simp only at e1 h3 h4
      subst e1 h3 h4
      have e3 : sl = #[k0, k1, k2, k3, some (.builtin "ValueError.__new__"), k5] := by
        obtain ⟨l⟩ := sl
        simp only at e2
        rw [e2]
      subst e3
      exact ⟨nm, qn, ns, bs, bm, sn, sub, ab, col, dd, k0, k1, k2, k3, k5, ho, h5⟩
    · cases h
  · cases h
def fcB (K : PySem.W.Frag) (C f : Addr) : Bool := match PySem.W.findCls K (.ref C) (.type "type") "__init__" with
  | some (.val (.ref g)) => decide (g = f)
  | _ => false
theorem fcB_ok {K : PySem.W.Frag} {C f : Addr} (h : fcB K C f = true) : PySem.W.findCls K (.ref C) (.type "type") "__init__" = some (.val (.ref f)) := by
  unfold fcB at h
  split at h
  · rename_i g e
    rw [e, of_decide_eq_true h]
  · cases h
/-- all that is asked of a class -/
structure XcC (K : PySem.W.Frag) (C : Addr) : Prop where
  oex : OexC K C
  xf : XfC K C
  ic : (PySem.W.clsIn K C).isSome = true
  ca : PySem.W.findIn K (.ref C) "__class__" = some (some (.builtin "object.__class__"))
  cg : PySem.W.specialIn K (.builtin "object.__class__") "__get__" = some (some (.builtin "getset_descriptor.__get__"))
  ct : PySem.W.takesIn K (.builtin "object.__class__") = some true
  cm : PySem.W.mroIn K C (.type "object") = some true
def xcB (K : PySem.W.Frag) (C : Addr) : Bool := clsB K C && (decide (PySem.W.findIn K (.ref C) "__setattr__" = some (some (.builtin "object.__setattr__"))) && (decide (PySem.W.typeIn K (.ref C) = some (.type "type")) && (PySem.W.keepIn K (.ref C) && (xfB K C && ((PySem.W.clsIn K C).isSome &&
  (decide (PySem.W.findIn K (.ref C) "__class__" = some (some (.builtin "object.__class__"))) && (decide (PySem.W.specialIn K (.builtin "object.__class__") "__get__" = some (some (.builtin "getset_descriptor.__get__"))) &&
    (decide (PySem.W.takesIn K (.builtin "object.__class__") = some true) && decide (PySem.W.mroIn K C (.type "object") = some true)))))))))
theorem xcB_ok {K : PySem.W.Frag} {C : Addr} (h : xcB K C = true) : XcC K C := by
  unfold xcB at h
  simp only [Bool.and_eq_true, decide_eq_true_eq] at h
  obtain ⟨h1, h2, h3, h4, h5, h6, h7, h8, h9, h10⟩ := h
  have xf := xfB_ok h5
  exact ⟨⟨clsB_ok h1, h2, xf.exC, h3, h4⟩, xf, h6, h7, h8, h9, h10⟩
/-! ### promises of __init__, and what is raised -/
/-- __init__(self, v): one field -/
def spX1 (C : Addr) (f : Str) : Sp := fun vs H Q _ => ∃ (a : Addr) (v : V), vs = [.ref a, v] ∧ Fmt v ∧ H a = some (exo a C none) ∧ ∀ d, H d = none → d ≠ a → Q .non (upd (upd H d (exd d [(f, v)])) a (exo a C (some d)))
/-- __init__(self, v, u): two fields -/
def spX2 (C : Addr) (f g : Str) : Sp := fun vs H Q _ => ∃ (a : Addr) (v u : V), vs = [.ref a, v, u] ∧ Fmt v ∧ Fmt u ∧ H a = some (exo a C none) ∧ ∀ d, H d = none → d ≠ a → Q .non (upd (upd (upd H d (exd d [(f, v)])) a (exo a C (some d))) d (exd d [(g, u), (f, v)]))
structure Exk (P : Program) (w : World) (K : PySem.W.Frag) (mg : Str → Option Value) (base : Heap) (k : Nat) (x : Str) (C : Addr) (sp : Sp) : Prop where
  ex : ∃ (f : Addr) (fd : FuncData) (ps : List Str), FnOk P w K mg base CX0 k f fd ps sp ∧ PySem.W.findIn K (.ref C) "__init__" = some (some (.ref f)) ∧ PySem.W.typeIn K (.ref f) = some (.type "function") ∧ Binds K fd ps []
  xc : XcC K C
  g : mg x = some (.ref C)
section
variable {X : Cx} {k : Nat} {x f g : Str} {C : Addr} {e e2 : Expr} {ta : TA} {p pos : Pos}
def tMk1 (C : Addr) (f : Str) (ta : TA) : L2.St → Hp → XK → Prop := fun σ H Q => ta σ H fun vs H1 => ∃ v, vs = [v] ∧ Fmt v ∧ ∀ d, H1 d = none → Q (.ref C) (some d) (upd H1 d (.xd [(f, v)]))
def tMk2 (C : Addr) (f g : Str) (ta : TA) : L2.St → Hp → XK → Prop := fun σ H Q => ta σ H fun vs H1 => ∃ v u, vs = [v, u] ∧ Fmt v ∧ Fmt u ∧ ∀ d, H1 d = none → Q (.ref C) (some d) (upd H1 d (.xd [(g, u), (f, v)]))
theorem pmk_mono {e : Expr} {t t' : L2.St → Hp → XK → Prop} (h : PMk X e t) (m : ∀ σ H Q, t' σ H Q → t σ H Q) : PMk X e t' := fun pins s σ H Q I q => h pins s σ H Q I (m σ H Q q)
theorem pass0F {X : Cx} : Passes CX0 X (fun _ _ _ => False) := pass0
theorem upd_del {H1 H2 : Hp} {a d : Addr} {o : HO} (ha : H1 a = none) (h : ∀ b, b ≠ a → b ≠ d → H2 b = H1 b) : upd (del H2 a) d o = upd H1 d o := by
  funext b
  by_cases hd : b = d
  · rw [hd, upd_same, upd_same]
  · rw [upd_ne hd, upd_ne hd]
    by_cases hb : b = a
    · rw [hb, del_same, ha]
    · rw [del_ne hb, h b hb hd]
theorem Exk.mk1 (F : Exk X.prog X.w X.K X.mg X.base k x C (spX1 C f)) (hr : Room (k + 1) X.A) (ha : PA X [e] ta) (hg : Gl X x := by rfl) (hdb : (x == ("__debug__" : Str)) = false := by decide)
    (he : starEach [e] X.env = (false, eval e X.env) :: starEach [] X.env := by rfl) (hpl : (backTo pos (starEach [] X.env)).any (·.1) = false := by rfl) : PMk X (.Call (.Name x p) [e] [] pos) (tMk1 C f ta) := by
  obtain ⟨fI, fd, ps, G, iC, tI, b⟩ := F.ex
  refine pmk_mono (pmk_oex F.xc.oex iC tI G hr b .nil pass0F hg F.g (pa_cl ha) hdb he hpl) fun σ H Q q => ⟨_, ?_, q⟩
  rintro vs H1 ⟨v, rfl, fm, q⟩
  refine ⟨by show 1 ≤ 1000; decide, fun a na => ⟨a, v, rfl, fm, upd_same, fun d nd ne => ⟨rfl, d, [(f, v)], upd_same, ?_, ?_, ?_⟩⟩⟩
  · rw [upd_ne ne, upd_same]
  · rw [upd_ne ne] at nd
    exact nd
  · rw [upd_ne ne] at nd
    rw [upd_del na fun b hb hd => by rw [upd_ne hb, upd_ne hd, upd_ne hb]]
    exact q d nd
theorem Exk.mk2 (F : Exk X.prog X.w X.K X.mg X.base k x C (spX2 C f g)) (hr : Room (k + 1) X.A) (ha : PA X [e, e2] ta) (hg : Gl X x := by rfl) (hdb : (x == ("__debug__" : Str)) = false := by decide)
    (he : starEach [e, e2] X.env = (false, eval e X.env) :: starEach [e2] X.env := by rfl) (hpl : (backTo pos (starEach [e2] X.env)).any (·.1) = false := by rfl) : PMk X (.Call (.Name x p) [e, e2] [] pos) (tMk2 C f g ta) := by
  obtain ⟨fI, fd, ps, G, iC, tI, b⟩ := F.ex
  refine pmk_mono (pmk_oex F.xc.oex iC tI G hr b .nil pass0F hg F.g (pa_cl ha) hdb he hpl) fun σ H Q q => ⟨_, ?_, q⟩
  rintro vs H1 ⟨v, u, rfl, fv, fu, q⟩
  refine ⟨by show 2 ≤ 1000; decide, fun a na => ⟨a, v, u, rfl, fv, fu, upd_same, fun d nd ne => ⟨rfl, d, [(g, u), (f, v)], ?_, upd_same, ?_, ?_⟩⟩⟩
  · rw [upd_ne (Ne.symm ne), upd_same]
  · rw [upd_ne ne] at nd
    exact nd
  · rw [upd_ne ne] at nd
    rw [upd_del na fun b hb hd => by rw [upd_ne hd, upd_ne hb, upd_ne hd, upd_ne hb]]
    exact q d nd
end
/-! ### isinstance of a caught error with fields -/
def rIsD (K : PySem.W.Frag) (a : Addr) (cls : Value) (d : Option Addr) (D : Addr) : List V → Hp → VK → Prop := fun xs H Q => ∃ (c : V) (cv : Value) (b : Bool) (dd : Addr) (fs : List (Str × V)), xs = [.ref a, c] ∧ cls = .ref D ∧ d = some dd ∧ H dd = some (.xd fs) ∧
  (∀ u, RelV c u → u = cv) ∧ PySem.W.kitOne K (.ref D) cv = some b ∧ Q (.bl b) H
theorem call_isD {X : Cx} {a D : Addr} {oe : Obj} {cls : Value} {d : Option Addr} {pn : List (Addr × Obj)} (C : XcC X.K D) (hz : Zc cls d oe) (hf : ∃ vs, oe.data = .fields vs) : CallR (X.suite a ((a, oe) :: pn)) (.builtin "isinstance") (rIsD X.K a cls d D) := by
  intro pins s σ H xs us Q I r h
  obtain ⟨c, cv, b, dd, fs, rfl, ec, ed, hdd, hcv, e, q⟩ := h
  cases r with
  | cons rx rr =>
    cases rr with
    | cons rt rr =>
      cases rr
      cases rx
      have e1 := hcv _ rt
      subst e1
      obtain ⟨hget, _⟩ := I.pin (a, oe) (List.mem_append.mpr (.inl List.mem_cons_self))
      obtain ⟨vs, hv⟩ := hf
      have hx : ObjOk X.prog X.w H s.heap dd (.xd fs) := I.hok dd _ hdd
      obtain ⟨mA, hns, _⟩ := hx
      obtain ⟨od, ho, _⟩ := lookIn_ns hns
      have J : PySem.W.InstAt s.heap a oe D (some od) := ⟨hget, by rw [hz.1, ec], by unfold PySem.W.notCls; rw [hv] <;> rfl, by rw [hz.2, ed]; exact ho⟩
      exact PySem.W.kia_one (PySem.W.kitx_exc C.ic C.xf.ga C.xf.gg C.xf.exC C.ca C.cg C.ct C.cm) I.kIn J e (fun z => nomatch z) fun tk => ⟨.bl b, H, I.kept (t' := tk) fun _ _ z => z, rfl, q⟩
end Jr

namespace Jr
open PySem PySem.Spec PyProof.Rows L2
/-! ### the head's facts, the interpreter's own statics among them -/
def asC (g : Addr → Option Obj) (n : Nat) : List Addr := He.asD g n ++ [cStatics]
def obsC (n : Nat) (fa : List He.Fa) (fn : List He.DefD) (ex : PySem.W.Frag → Bool) (g : Addr → Option Obj) : He.AlX := (He.obsT fa fn [] (He.frT g (asC g n)), ex (He.frT g (asC g n)))
structure SaysC (fa : List He.Fa) (fn : List He.DefD) (ex : PySem.W.Frag → Bool) (w : World) (K : PySem.W.Frag) : Prop where
  t : He.SaysT fa fn [] w K
  more : ex K = true
theorem saysC_of {n : Nat} {fa : List He.Fa} {fn : List He.DefD} {ex : PySem.W.Frag → Bool} {w : World} {h : Heap} (e : obsC n fa fn ex h.get? = He.valX fn [] w) : SaysC fa fn ex w (He.frT h.get? (asC h.get? n)) :=
  ⟨congrArg (fun z : He.AlX => z.1) e, congrArg (fun z : He.AlX => z.2) e⟩
def hookC (n : Nat) (fa : List He.Fa) (fn : List He.DefD) (ex : PySem.W.Frag → Bool) : PySem.W.Hook where
  α := He.AlX
  obs := fun s => obsC n fa fn ex s.heap.get?
  val := fun w => He.valX fn [] w
  says := fun w h => ∃ K : PySem.W.Frag, K.In h ∧ SaysC fa fn ex w K
  of := fun _ _ e => ⟨_, He.frT_in, saysC_of e⟩
  keeps := fun _ _ _ ⟨K, hK, c⟩ k => ⟨K, PySem.W.Frag.In.keeps hK k, c⟩
theorem obsC_eq {n : Nat} {fa : List He.Fa} {fn : List He.DefD} {ex : PySem.W.Frag → Bool} {g : Addr → Option Obj} {s : Shared} (h : ∀ a, g a = s.heap.get? a) : obsC n fa fn ex g = (hookC n fa fn ex).obs s := by
  have e : g = s.heap.get? := funext h
  rw [e]; rfl
end Jr
namespace Jr
open PySem PySem.Spec PyProof.Rows L2
/-! ### the text -/
def top (i : Nat) : Stmt := PySem.Challenge.pw_joinranks_k70_no_grammar.main.body.getD i (.Pass ⟨0, 0, 0, 0⟩)
abbrev s__wall : Stmt := (top 0)
abbrev N__wall : List Str := ["k"]
abbrev P__wall : List Str := ["k"]
theorem sc__wall : FnScope N__wall P__wall (defScope s__wall) := ⟨rfl, rfl, rfl, by decide +kernel, rfl, by decide +kernel, by decide +kernel⟩
abbrev s_JoinError___init__ : Stmt := (inClass (top 2) 0)
abbrev N_JoinError___init__ : List Str := ["self", "words"]
abbrev P_JoinError___init__ : List Str := ["self", "words"]
theorem sc_JoinError___init__ : FnScope N_JoinError___init__ P_JoinError___init__ (defScope s_JoinError___init__) := ⟨rfl, rfl, rfl, by decide +kernel, rfl, by decide +kernel, by decide +kernel⟩
abbrev s_NoTable___init__ : Stmt := (inClass (top 3) 0)
abbrev N_NoTable___init__ : List Str := ["self", "part", "number"]
abbrev P_NoTable___init__ : List Str := ["self", "part", "number"]
theorem sc_NoTable___init__ : FnScope N_NoTable___init__ P_NoTable___init__ (defScope s_NoTable___init__) := ⟨rfl, rfl, rfl, by decide +kernel, rfl, by decide +kernel, by decide +kernel⟩
abbrev s_NoGrammar___init__ : Stmt := (inClass (top 4) 0)
abbrev N_NoGrammar___init__ : List Str := ["self", "part", "number"]
abbrev P_NoGrammar___init__ : List Str := ["self", "part", "number"]
theorem sc_NoGrammar___init__ : FnScope N_NoGrammar___init__ P_NoGrammar___init__ (defScope s_NoGrammar___init__) := ⟨rfl, rfl, rfl, by decide +kernel, rfl, by decide +kernel, by decide +kernel⟩
abbrev s_NoCutting___init__ : Stmt := (inClass (top 5) 0)
abbrev N_NoCutting___init__ : List Str := ["self", "kind", "place"]
abbrev P_NoCutting___init__ : List Str := ["self", "kind", "place"]
theorem sc_NoCutting___init__ : FnScope N_NoCutting___init__ P_NoCutting___init__ (defScope s_NoCutting___init__) := ⟨rfl, rfl, rfl, by decide +kernel, rfl, by decide +kernel, by decide +kernel⟩
abbrev s_NoSign___init__ : Stmt := (inClass (top 6) 0)
abbrev N_NoSign___init__ : List Str := ["self", "place"]
abbrev P_NoSign___init__ : List Str := ["self", "place"]
theorem sc_NoSign___init__ : FnScope N_NoSign___init__ P_NoSign___init__ (defScope s_NoSign___init__) := ⟨rfl, rfl, rfl, by decide +kernel, rfl, by decide +kernel, by decide +kernel⟩
abbrev s_NoPiece___init__ : Stmt := (inClass (top 7) 0)
abbrev N_NoPiece___init__ : List Str := ["self", "place"]
abbrev P_NoPiece___init__ : List Str := ["self", "place"]
theorem sc_NoPiece___init__ : FnScope N_NoPiece___init__ P_NoPiece___init__ (defScope s_NoPiece___init__) := ⟨rfl, rfl, rfl, by decide +kernel, rfl, by decide +kernel, by decide +kernel⟩
abbrev s_NoNumber___init__ : Stmt := (inClass (top 8) 0)
abbrev N_NoNumber___init__ : List Str := ["self", "place"]
abbrev P_NoNumber___init__ : List Str := ["self", "place"]
theorem sc_NoNumber___init__ : FnScope N_NoNumber___init__ P_NoNumber___init__ (defScope s_NoNumber___init__) := ⟨rfl, rfl, rfl, by decide +kernel, rfl, by decide +kernel, by decide +kernel⟩
abbrev s_NoCount___init__ : Stmt := (inClass (top 9) 0)
abbrev N_NoCount___init__ : List Str := ["self", "number"]
abbrev P_NoCount___init__ : List Str := ["self", "number"]
theorem sc_NoCount___init__ : FnScope N_NoCount___init__ P_NoCount___init__ (defScope s_NoCount___init__) := ⟨rfl, rfl, rfl, by decide +kernel, rfl, by decide +kernel, by decide +kernel⟩
abbrev s_NoText___init__ : Stmt := (inClass (top 10) 0)
abbrev N_NoText___init__ : List Str := ["self", "row"]
abbrev P_NoText___init__ : List Str := ["self", "row"]
theorem sc_NoText___init__ : FnScope N_NoText___init__ P_NoText___init__ (defScope s_NoText___init__) := ⟨rfl, rfl, rfl, by decide +kernel, rfl, by decide +kernel, by decide +kernel⟩
abbrev s_is_whole : Stmt := (top 17)
abbrev N_is_whole : List Str := ["thing"]
abbrev P_is_whole : List Str := ["thing"]
theorem sc_is_whole : FnScope N_is_whole P_is_whole (defScope s_is_whole) := ⟨rfl, rfl, rfl, by decide +kernel, rfl, by decide +kernel, by decide +kernel⟩
abbrev s_is_up_to : Stmt := (top 18)
abbrev N_is_up_to : List Str := ["thing", "most"]
abbrev P_is_up_to : List Str := ["thing", "most"]
theorem sc_is_up_to : FnScope N_is_up_to P_is_up_to (defScope s_is_up_to) := ⟨rfl, rfl, rfl, by decide +kernel, rfl, by decide +kernel, by decide +kernel⟩
abbrev s_may_be_sign : Stmt := (top 23)
abbrev N_may_be_sign : List Str := ["sign", "code"]
abbrev P_may_be_sign : List Str := ["sign"]
theorem sc_may_be_sign : FnScope N_may_be_sign P_may_be_sign (defScope s_may_be_sign) := ⟨rfl, rfl, rfl, by decide +kernel, rfl, by decide +kernel, by decide +kernel⟩
abbrev s_Grammar___init__ : Stmt := (inClass (top 27) 0)
abbrev N_Grammar___init__ : List Str := ["self", "many", "ways", "ends"]
abbrev P_Grammar___init__ : List Str := ["self", "many", "ways", "ends"]
theorem sc_Grammar___init__ : FnScope N_Grammar___init__ P_Grammar___init__ (defScope s_Grammar___init__) := ⟨rfl, rfl, rfl, by decide +kernel, rfl, by decide +kernel, by decide +kernel⟩
abbrev s_Grammar_is_state : Stmt := (inClass (top 27) 1)
abbrev N_Grammar_is_state : List Str := ["self", "thing"]
abbrev P_Grammar_is_state : List Str := ["self", "thing"]
theorem sc_Grammar_is_state : FnScope N_Grammar_is_state P_Grammar_is_state (defScope s_Grammar_is_state) := ⟨rfl, rfl, rfl, by decide +kernel, rfl, by decide +kernel, by decide +kernel⟩
abbrev s_Grammar_may_take_way : Stmt := (inClass (top 27) 2)
abbrev N_Grammar_may_take_way : List Str := ["self", "way", "state", "sign", "ahead"]
abbrev P_Grammar_may_take_way : List Str := ["self", "way"]
theorem sc_Grammar_may_take_way : FnScope N_Grammar_may_take_way P_Grammar_may_take_way (defScope s_Grammar_may_take_way) := ⟨rfl, rfl, rfl, by decide +kernel, rfl, by decide +kernel, by decide +kernel⟩
abbrev s_Grammar_take_ways : Stmt := (inClass (top 27) 3)
abbrev N_Grammar_take_ways : List Str := ["self", "ways", "number", "way", "state", "sign", "ahead"]
abbrev P_Grammar_take_ways : List Str := ["self", "ways"]
theorem sc_Grammar_take_ways : FnScope N_Grammar_take_ways P_Grammar_take_ways (defScope s_Grammar_take_ways) := ⟨rfl, rfl, rfl, by decide +kernel, rfl, by decide +kernel, by decide +kernel⟩
abbrev s_Grammar_take_ends : Stmt := (inClass (top 27) 4)
abbrev N_Grammar_take_ends : List Str := ["self", "ends", "number", "end"]
abbrev P_Grammar_take_ends : List Str := ["self", "ends"]
theorem sc_Grammar_take_ends : FnScope N_Grammar_take_ends P_Grammar_take_ends (defScope s_Grammar_take_ends) := ⟨rfl, rfl, rfl, by decide +kernel, rfl, by decide +kernel, by decide +kernel⟩
abbrev s_Grammar_many : Stmt := (inClass (top 27) 5)
abbrev N_Grammar_many : List Str := ["self"]
abbrev P_Grammar_many : List Str := ["self"]
theorem sc_Grammar_many : FnScope N_Grammar_many P_Grammar_many (defScope s_Grammar_many) := ⟨rfl, rfl, rfl, by decide +kernel, rfl, by decide +kernel, by decide +kernel⟩
abbrev s_Grammar_ways : Stmt := (inClass (top 27) 6)
abbrev N_Grammar_ways : List Str := ["self"]
abbrev P_Grammar_ways : List Str := ["self"]
theorem sc_Grammar_ways : FnScope N_Grammar_ways P_Grammar_ways (defScope s_Grammar_ways) := ⟨rfl, rfl, rfl, by decide +kernel, rfl, by decide +kernel, by decide +kernel⟩
abbrev s_Grammar_ends : Stmt := (inClass (top 27) 7)
abbrev N_Grammar_ends : List Str := ["self"]
abbrev P_Grammar_ends : List Str := ["self"]
theorem sc_Grammar_ends : FnScope N_Grammar_ends P_Grammar_ends (defScope s_Grammar_ends) := ⟨rfl, rfl, rfl, by decide +kernel, rfl, by decide +kernel, by decide +kernel⟩
abbrev s_Grammar_leads : Stmt := (inClass (top 27) 8)
abbrev N_Grammar_leads : List Str := ["self", "state", "text"]
abbrev P_Grammar_leads : List Str := ["self", "state", "text"]
theorem sc_Grammar_leads : FnScope N_Grammar_leads P_Grammar_leads (defScope s_Grammar_leads) := ⟨rfl, rfl, rfl, by decide +kernel, rfl, by decide +kernel, by decide +kernel⟩
abbrev s_Grammar_tells : Stmt := (inClass (top 27) 9)
abbrev N_Grammar_tells : List Str := ["self", "text"]
abbrev P_Grammar_tells : List Str := ["self", "text"]
theorem sc_Grammar_tells : FnScope N_Grammar_tells P_Grammar_tells (defScope s_Grammar_tells) := ⟨rfl, rfl, rfl, by decide +kernel, rfl, by decide +kernel, by decide +kernel⟩
abbrev s__law_cell_at : Stmt := (top 29)
abbrev N__law_cell_at : List Str := ["_law_script", "_law_k"]
abbrev P__law_cell_at : List Str := ["_law_script", "_law_k"]
theorem sc__law_cell_at : FnScope N__law_cell_at P__law_cell_at (defScope s__law_cell_at) := ⟨rfl, rfl, rfl, by decide +kernel, rfl, by decide +kernel, by decide +kernel⟩
abbrev s__law_numbers : Stmt := (top 30)
abbrev N__law_numbers : List Str := ["_law_cell", "_law_salt", "_law_sizes", "_law_number", "_law_left", "_law_found", "_law_k", "_law_one"]
abbrev P__law_numbers : List Str := ["_law_cell", "_law_salt", "_law_sizes"]
theorem sc__law_numbers : FnScope N__law_numbers P__law_numbers (defScope s__law_numbers) := ⟨rfl, rfl, rfl, by decide +kernel, rfl, by decide +kernel, by decide +kernel⟩
abbrev s__law_signs : Stmt := (top 31)
abbrev N__law_signs : List Str := ["_law_digits", "_law_some", "_law_signs_here", "_law_digit", "_law_turned", "_law_sign"]
abbrev P__law_signs : List Str := ["_law_digits"]
theorem sc__law_signs : FnScope N__law_signs P__law_signs (defScope s__law_signs) := ⟨rfl, rfl, rfl, by decide +kernel, rfl, by decide +kernel, by decide +kernel⟩
abbrev s__law_whole : Stmt := (top 32)
abbrev N__law_whole : List Str := ["_law_thing"]
abbrev P__law_whole : List Str := ["_law_thing"]
theorem sc__law_whole : FnScope N__law_whole P__law_whole (defScope s__law_whole) := ⟨rfl, rfl, rfl, by decide +kernel, rfl, by decide +kernel, by decide +kernel⟩
abbrev s__law_grammar : Stmt := (top 33)
abbrev N__law_grammar : List Str := ["_law_cell", "_law_salt", "_law_signs_here", "_law_digits", "_law_many", "_law_ways", "_law_state", "_law_k", "_law_sign", "_law_to", "_law_ends"]
abbrev P__law_grammar : List Str := ["_law_cell", "_law_salt", "_law_signs_here"]
theorem sc__law_grammar : FnScope N__law_grammar P__law_grammar (defScope s__law_grammar) := ⟨rfl, rfl, rfl, by decide +kernel, rfl, by decide +kernel, by decide +kernel⟩
abbrev s__law_refusal : Stmt := (top 34)
abbrev N__law_refusal : List Str := ["_law_error", "_law_kinds", "_law_k"]
abbrev P__law_refusal : List Str := ["_law_error"]
theorem sc__law_refusal : FnScope N__law_refusal P__law_refusal (defScope s__law_refusal) := ⟨rfl, rfl, rfl, by decide +kernel, rfl, by decide +kernel, by decide +kernel⟩
abbrev s__law_seen : Stmt := (top 35)
abbrev N__law_seen : List Str := ["_law_error", "_law_found"]
abbrev P__law_seen : List Str := ["_law_error"]
theorem sc__law_seen : FnScope N__law_seen P__law_seen (defScope s__law_seen) := ⟨rfl, rfl, rfl, by decide +kernel, rfl, by decide +kernel, by decide +kernel⟩
abbrev s__law_is_sign : Stmt := (top 36)
abbrev N__law_is_sign : List Str := ["_law_thing", "_law_some"]
abbrev P__law_is_sign : List Str := ["_law_thing"]
theorem sc__law_is_sign : FnScope N__law_is_sign P__law_is_sign (defScope s__law_is_sign) := ⟨rfl, rfl, rfl, by decide +kernel, rfl, by decide +kernel, by decide +kernel⟩
abbrev s__law_is_state : Stmt := (top 37)
abbrev N__law_is_state : List Str := ["_law_thing", "_law_many"]
abbrev P__law_is_state : List Str := ["_law_thing", "_law_many"]
theorem sc__law_is_state : FnScope N__law_is_state P__law_is_state (defScope s__law_is_state) := ⟨rfl, rfl, rfl, by decide +kernel, rfl, by decide +kernel, by decide +kernel⟩
abbrev s__law_due : Stmt := (top 38)
abbrev N__law_due : List Str := ["_law_many", "_law_ways", "_law_ends", "_law_seen_here", "_law_k", "_law_way", "_law_end"]
abbrev P__law_due : List Str := ["_law_many", "_law_ways", "_law_ends"]
theorem sc__law_due : FnScope N__law_due P__law_due (defScope s__law_due) := ⟨rfl, rfl, rfl, by decide +kernel, rfl, by decide +kernel, by decide +kernel⟩
abbrev s__law_bent_ways : Stmt := (top 39)
abbrev N__law_bent_ways : List Str := ["_law_ways", "_law_many", "_law_digits", "_law_way", "_law_at", "_law_digit", "_law_one", "_law_other", "_law_some"]
abbrev P__law_bent_ways : List Str := ["_law_ways", "_law_many", "_law_digits"]
theorem sc__law_bent_ways : FnScope N__law_bent_ways P__law_bent_ways (defScope s__law_bent_ways) := ⟨rfl, rfl, rfl, by decide +kernel, rfl, by decide +kernel, by decide +kernel⟩
abbrev s__law_bent_ends : Stmt := (top 40)
abbrev N__law_bent_ends : List Str := ["_law_ends", "_law_many", "_law_digits", "_law_way", "_law_at", "_law_digit"]
abbrev P__law_bent_ends : List Str := ["_law_ends", "_law_many", "_law_digits"]
theorem sc__law_bent_ends : FnScope N__law_bent_ends P__law_bent_ends (defScope s__law_bent_ends) := ⟨rfl, rfl, rfl, by decide +kernel, rfl, by decide +kernel, by decide +kernel⟩
abbrev s__law_block : Stmt := (top 41)
abbrev N__law_block : List Str := ["_law_script", "_law_at", "_law_head", "_law_grammar_here", "_law_digits", "_law_many", "_law_ways", "_law_ends", "_law_due_here", "_law_kept", "_law_made", "e"]
abbrev P__law_block : List Str := ["_law_script", "_law_at"]
theorem sc__law_block : FnScope N__law_block P__law_block (defScope s__law_block) := ⟨rfl, rfl, rfl, by decide +kernel, rfl, by decide +kernel, by decide +kernel⟩
abbrev s_law : Stmt := (top 42)
abbrev N_law : List Str := ["_law_script", "_law_at"]
abbrev P_law : List Str := ["_law_script"]
theorem sc_law : FnScope N_law P_law (defScope s_law) := ⟨rfl, rfl, rfl, by decide +kernel, rfl, by decide +kernel, by decide +kernel⟩
/-- what the top has written -/
structure Tx (K : PySem.W.Frag) (mg : Str → Option Value) : Prop where
  n_len : mg "len" = none
  n_range : mg "range" = none
  n_max : mg "max" = none
  n_min : mg "min" = none
  n_isinstance : mg "isinstance" = none
  n_str : mg "str" = none
  n_int : mg "int" = none
  n_bool : mg "bool" = none
  n_list : mg "list" = none
  n_tuple : mg "tuple" = none
  n_ord : mg "ord" = none
  n_enumerate : mg "enumerate" = none
  n_ValueError : mg "ValueError" = none
  c_BLANK_CODE : ∃ t, mg "BLANK_CODE" = some (.int 32 t)
  c_PERCENT_CODE : ∃ t, mg "PERCENT_CODE" = some (.int 37 t)
  c_TILDE_CODE : ∃ t, mg "TILDE_CODE" = some (.int 126 t)
  c_MOST_STATES : ∃ t, mg "MOST_STATES" = some (.int 4 t)
  c_MOST_WAYS : ∃ t, mg "MOST_WAYS" = some (.int 48 t)
  g_JoinError : mg "JoinError" = some (.ref (He.ga K "JoinError"))
  rd_JoinError : PySem.W.readsIn K (He.ga K "JoinError") (.type "type") = true
  ga_JoinError : PySem.W.specialIn K (.ref (He.ga K "JoinError")) "__getattribute__" = some (some (.builtin "type.__getattribute__"))
  fc_JoinError : PySem.W.findCls K (.ref (He.ga K "JoinError")) (.type "type") "__init__" = some (.val (.ref (He.fAd K ("JoinError", some "__init__"))))
  g_NoTable : mg "NoTable" = some (.ref (He.ga K "NoTable"))
  g_NoGrammar : mg "NoGrammar" = some (.ref (He.ga K "NoGrammar"))
  xc_NoGrammar : XcC K (He.ga K "NoGrammar")
  in_NoGrammar : PySem.W.findIn K (.ref (He.ga K "NoGrammar")) "__init__" = some (some (.ref (He.fAd K ("NoGrammar", some "__init__"))))
  it_NoGrammar : PySem.W.typeIn K (.ref (He.fAd K ("NoGrammar", some "__init__"))) = some (.type "function")
  no_NoGrammar_part : PySem.W.findIn K (.ref (He.ga K "NoGrammar")) "part" = some none
  no_NoGrammar_number : PySem.W.findIn K (.ref (He.ga K "NoGrammar")) "number" = some none
  exm_NoGrammar_JoinError : PySem.W.exmOne K (.ref (He.ga K "NoGrammar")) (.ref (He.ga K "JoinError")) = some true
  kit_NoGrammar_JoinError : PySem.W.kitOne K (.ref (He.ga K "NoGrammar")) (.ref (He.ga K "JoinError")) = some true
  kit_NoGrammar_NoTable : PySem.W.kitOne K (.ref (He.ga K "NoGrammar")) (.ref (He.ga K "NoTable")) = some false
  kit_NoGrammar_NoGrammar : PySem.W.kitOne K (.ref (He.ga K "NoGrammar")) (.ref (He.ga K "NoGrammar")) = some true
  kit_NoGrammar_NoCutting : PySem.W.kitOne K (.ref (He.ga K "NoGrammar")) (.ref (He.ga K "NoCutting")) = some false
  kit_NoGrammar_NoSign : PySem.W.kitOne K (.ref (He.ga K "NoGrammar")) (.ref (He.ga K "NoSign")) = some false
  kit_NoGrammar_NoPiece : PySem.W.kitOne K (.ref (He.ga K "NoGrammar")) (.ref (He.ga K "NoPiece")) = some false
  kit_NoGrammar_NoNumber : PySem.W.kitOne K (.ref (He.ga K "NoGrammar")) (.ref (He.ga K "NoNumber")) = some false
  kit_NoGrammar_NoCount : PySem.W.kitOne K (.ref (He.ga K "NoGrammar")) (.ref (He.ga K "NoCount")) = some false
  kit_NoGrammar_NoText : PySem.W.kitOne K (.ref (He.ga K "NoGrammar")) (.ref (He.ga K "NoText")) = some false
  kit_NoGrammar_NoPlace : PySem.W.kitOne K (.ref (He.ga K "NoGrammar")) (.ref (He.ga K "NoPlace")) = some false
  kit_NoGrammar_NoLead : PySem.W.kitOne K (.ref (He.ga K "NoGrammar")) (.ref (He.ga K "NoLead")) = some false
  kit_NoGrammar_NoDeed : PySem.W.kitOne K (.ref (He.ga K "NoGrammar")) (.ref (He.ga K "NoDeed")) = some false
  kit_NoGrammar_NoRow : PySem.W.kitOne K (.ref (He.ga K "NoGrammar")) (.ref (He.ga K "NoRow")) = some false
  kit_NoGrammar_NoName : PySem.W.kitOne K (.ref (He.ga K "NoGrammar")) (.ref (He.ga K "NoName")) = some false
  kit_NoGrammar_ValueError : PySem.W.kitOne K (.ref (He.ga K "NoGrammar")) (.type "ValueError") = some true
  g_NoCutting : mg "NoCutting" = some (.ref (He.ga K "NoCutting"))
  g_NoSign : mg "NoSign" = some (.ref (He.ga K "NoSign"))
  g_NoPiece : mg "NoPiece" = some (.ref (He.ga K "NoPiece"))
  g_NoNumber : mg "NoNumber" = some (.ref (He.ga K "NoNumber"))
  g_NoCount : mg "NoCount" = some (.ref (He.ga K "NoCount"))
  g_NoText : mg "NoText" = some (.ref (He.ga K "NoText"))
  g_NoPlace : mg "NoPlace" = some (.ref (He.ga K "NoPlace"))
  g_NoLead : mg "NoLead" = some (.ref (He.ga K "NoLead"))
  g_NoDeed : mg "NoDeed" = some (.ref (He.ga K "NoDeed"))
  g_NoRow : mg "NoRow" = some (.ref (He.ga K "NoRow"))
  g_NoName : mg "NoName" = some (.ref (He.ga K "NoName"))
  g_Grammar : mg "Grammar" = some (.ref (He.ga K "Grammar"))
  cl_Grammar : Cls K (He.ga K "Grammar")
  no_Grammar_state_count : NoAttr K (He.ga K "Grammar") "state_count"
  no_Grammar_way_list : NoAttr K (He.ga K "Grammar") "way_list"
  no_Grammar_state_by_way : NoAttr K (He.ga K "Grammar") "state_by_way"
  no_Grammar_end_list : NoAttr K (He.ga K "Grammar") "end_list"
  mk_Grammar : Mk K (He.ga K "Grammar") (He.fAd K ("Grammar", some "__init__"))
  m_Grammar_is_state : Meth K (He.ga K "Grammar") "is_state" (He.fAd K ("Grammar", some "is_state"))
  m_Grammar_may_take_way : Meth K (He.ga K "Grammar") "may_take_way" (He.fAd K ("Grammar", some "may_take_way"))
  m_Grammar_take_ways : Meth K (He.ga K "Grammar") "take_ways" (He.fAd K ("Grammar", some "take_ways"))
  m_Grammar_take_ends : Meth K (He.ga K "Grammar") "take_ends" (He.fAd K ("Grammar", some "take_ends"))
  m_Grammar_many : Meth K (He.ga K "Grammar") "many" (He.fAd K ("Grammar", some "many"))
  m_Grammar_ways : Meth K (He.ga K "Grammar") "ways" (He.fAd K ("Grammar", some "ways"))
  m_Grammar_ends : Meth K (He.ga K "Grammar") "ends" (He.fAd K ("Grammar", some "ends"))
  d_JoinError___init__ : ∃ fd, FunD K "__init__" "JoinError.__init__" (defArgs s_JoinError___init__) (defBody s_JoinError___init__) (defScope s_JoinError___init__) [] [] (He.fAd K ("JoinError", some "__init__")) fd
  d_NoGrammar___init__ : ∃ fd, FunD K "__init__" "NoGrammar.__init__" (defArgs s_NoGrammar___init__) (defBody s_NoGrammar___init__) (defScope s_NoGrammar___init__) [] [] (He.fAd K ("NoGrammar", some "__init__")) fd
  g_is_whole : mg "is_whole" = some (.ref (He.fAd K ("is_whole", none)))
  d_is_whole : ∃ fd, FunD K "is_whole" "is_whole" (defArgs s_is_whole) (defBody s_is_whole) (defScope s_is_whole) [] [] (He.fAd K ("is_whole", none)) fd
  g_is_up_to : mg "is_up_to" = some (.ref (He.fAd K ("is_up_to", none)))
  d_is_up_to : ∃ fd, FunD K "is_up_to" "is_up_to" (defArgs s_is_up_to) (defBody s_is_up_to) (defScope s_is_up_to) [] [] (He.fAd K ("is_up_to", none)) fd
  g_may_be_sign : mg "may_be_sign" = some (.ref (He.fAd K ("may_be_sign", none)))
  d_may_be_sign : ∃ fd, FunD K "may_be_sign" "may_be_sign" (defArgs s_may_be_sign) (defBody s_may_be_sign) (defScope s_may_be_sign) [] [] (He.fAd K ("may_be_sign", none)) fd
  d_Grammar___init__ : ∃ fd, FunD K "__init__" "Grammar.__init__" (defArgs s_Grammar___init__) (defBody s_Grammar___init__) (defScope s_Grammar___init__) [] [] (He.fAd K ("Grammar", some "__init__")) fd
  d_Grammar_is_state : ∃ fd, FunD K "is_state" "Grammar.is_state" (defArgs s_Grammar_is_state) (defBody s_Grammar_is_state) (defScope s_Grammar_is_state) [] [] (He.fAd K ("Grammar", some "is_state")) fd
  d_Grammar_may_take_way : ∃ fd, FunD K "may_take_way" "Grammar.may_take_way" (defArgs s_Grammar_may_take_way) (defBody s_Grammar_may_take_way) (defScope s_Grammar_may_take_way) [] [] (He.fAd K ("Grammar", some "may_take_way")) fd
  d_Grammar_take_ways : ∃ fd, FunD K "take_ways" "Grammar.take_ways" (defArgs s_Grammar_take_ways) (defBody s_Grammar_take_ways) (defScope s_Grammar_take_ways) [] [] (He.fAd K ("Grammar", some "take_ways")) fd
  d_Grammar_take_ends : ∃ fd, FunD K "take_ends" "Grammar.take_ends" (defArgs s_Grammar_take_ends) (defBody s_Grammar_take_ends) (defScope s_Grammar_take_ends) [] [] (He.fAd K ("Grammar", some "take_ends")) fd
  d_Grammar_many : ∃ fd, FunD K "many" "Grammar.many" (defArgs s_Grammar_many) (defBody s_Grammar_many) (defScope s_Grammar_many) [] [] (He.fAd K ("Grammar", some "many")) fd
  d_Grammar_ways : ∃ fd, FunD K "ways" "Grammar.ways" (defArgs s_Grammar_ways) (defBody s_Grammar_ways) (defScope s_Grammar_ways) [] [] (He.fAd K ("Grammar", some "ways")) fd
  d_Grammar_ends : ∃ fd, FunD K "ends" "Grammar.ends" (defArgs s_Grammar_ends) (defBody s_Grammar_ends) (defScope s_Grammar_ends) [] [] (He.fAd K ("Grammar", some "ends")) fd
  g__law_cell_at : mg "_law_cell_at" = some (.ref (He.fAd K ("_law_cell_at", none)))
  d__law_cell_at : ∃ fd, FunD K "_law_cell_at" "_law_cell_at" (defArgs s__law_cell_at) (defBody s__law_cell_at) (defScope s__law_cell_at) [] [] (He.fAd K ("_law_cell_at", none)) fd
  g__law_numbers : mg "_law_numbers" = some (.ref (He.fAd K ("_law_numbers", none)))
  d__law_numbers : ∃ fd, FunD K "_law_numbers" "_law_numbers" (defArgs s__law_numbers) (defBody s__law_numbers) (defScope s__law_numbers) [] [] (He.fAd K ("_law_numbers", none)) fd
  g__law_signs : mg "_law_signs" = some (.ref (He.fAd K ("_law_signs", none)))
  d__law_signs : ∃ fd, FunD K "_law_signs" "_law_signs" (defArgs s__law_signs) (defBody s__law_signs) (defScope s__law_signs) [] [] (He.fAd K ("_law_signs", none)) fd
  g__law_whole : mg "_law_whole" = some (.ref (He.fAd K ("_law_whole", none)))
  d__law_whole : ∃ fd, FunD K "_law_whole" "_law_whole" (defArgs s__law_whole) (defBody s__law_whole) (defScope s__law_whole) [] [] (He.fAd K ("_law_whole", none)) fd
  g__law_grammar : mg "_law_grammar" = some (.ref (He.fAd K ("_law_grammar", none)))
  d__law_grammar : ∃ fd, FunD K "_law_grammar" "_law_grammar" (defArgs s__law_grammar) (defBody s__law_grammar) (defScope s__law_grammar) [] [] (He.fAd K ("_law_grammar", none)) fd
  g__law_refusal : mg "_law_refusal" = some (.ref (He.fAd K ("_law_refusal", none)))
  d__law_refusal : ∃ fd, FunD K "_law_refusal" "_law_refusal" (defArgs s__law_refusal) (defBody s__law_refusal) (defScope s__law_refusal) [] [] (He.fAd K ("_law_refusal", none)) fd
  g__law_seen : mg "_law_seen" = some (.ref (He.fAd K ("_law_seen", none)))
  d__law_seen : ∃ fd, FunD K "_law_seen" "_law_seen" (defArgs s__law_seen) (defBody s__law_seen) (defScope s__law_seen) [] [] (He.fAd K ("_law_seen", none)) fd
  g__law_is_sign : mg "_law_is_sign" = some (.ref (He.fAd K ("_law_is_sign", none)))
  d__law_is_sign : ∃ fd, FunD K "_law_is_sign" "_law_is_sign" (defArgs s__law_is_sign) (defBody s__law_is_sign) (defScope s__law_is_sign) [] [] (He.fAd K ("_law_is_sign", none)) fd
  g__law_is_state : mg "_law_is_state" = some (.ref (He.fAd K ("_law_is_state", none)))
  d__law_is_state : ∃ fd, FunD K "_law_is_state" "_law_is_state" (defArgs s__law_is_state) (defBody s__law_is_state) (defScope s__law_is_state) [] [] (He.fAd K ("_law_is_state", none)) fd
  g__law_due : mg "_law_due" = some (.ref (He.fAd K ("_law_due", none)))
  d__law_due : ∃ fd, FunD K "_law_due" "_law_due" (defArgs s__law_due) (defBody s__law_due) (defScope s__law_due) [] [] (He.fAd K ("_law_due", none)) fd
  g__law_bent_ways : mg "_law_bent_ways" = some (.ref (He.fAd K ("_law_bent_ways", none)))
  d__law_bent_ways : ∃ fd, FunD K "_law_bent_ways" "_law_bent_ways" (defArgs s__law_bent_ways) (defBody s__law_bent_ways) (defScope s__law_bent_ways) [] [] (He.fAd K ("_law_bent_ways", none)) fd
  g__law_bent_ends : mg "_law_bent_ends" = some (.ref (He.fAd K ("_law_bent_ends", none)))
  d__law_bent_ends : ∃ fd, FunD K "_law_bent_ends" "_law_bent_ends" (defArgs s__law_bent_ends) (defBody s__law_bent_ends) (defScope s__law_bent_ends) [] [] (He.fAd K ("_law_bent_ends", none)) fd
  g__law_block : mg "_law_block" = some (.ref (He.fAd K ("_law_block", none)))
  d__law_block : ∃ fd, FunD K "_law_block" "_law_block" (defArgs s__law_block) (defBody s__law_block) (defScope s__law_block) [] [] (He.fAd K ("_law_block", none)) fd
  g_law : mg "law" = some (.ref (He.fAd K ("law", none)))
  d_law : ∃ fd, FunD K "law" "law" (defArgs s_law) (defBody s_law) (defScope s_law) [] [] (He.fAd K ("law", none)) fd
end Jr
namespace Jr
open PySem PySem.Spec PyProof.Rows L2
def exs (K : PySem.W.Frag) : List Bool := [PySem.W.readsIn K (He.ga K "JoinError") (.type "type"),
  decide (PySem.W.specialIn K (.ref (He.ga K "JoinError")) "__getattribute__" = some (some (.builtin "type.__getattribute__"))),
  fcB K (He.ga K "JoinError") (He.fAd K ("JoinError", some "__init__")),
  xcB K (He.ga K "NoGrammar"),
  decide (PySem.W.findIn K (.ref (He.ga K "NoGrammar")) "__init__" = some (some (.ref (He.fAd K ("NoGrammar", some "__init__"))))),
  decide (PySem.W.typeIn K (.ref (He.fAd K ("NoGrammar", some "__init__"))) = some (.type "function")),
  decide (PySem.W.findIn K (.ref (He.ga K "NoGrammar")) "part" = some none),
  decide (PySem.W.findIn K (.ref (He.ga K "NoGrammar")) "number" = some none),
  decide (PySem.W.exmOne K (.ref (He.ga K "NoGrammar")) (.ref (He.ga K "JoinError")) = some true),
  decide (PySem.W.kitOne K (.ref (He.ga K "NoGrammar")) (.ref (He.ga K "JoinError")) = some true),
  decide (PySem.W.kitOne K (.ref (He.ga K "NoGrammar")) (.ref (He.ga K "NoTable")) = some false),
  decide (PySem.W.kitOne K (.ref (He.ga K "NoGrammar")) (.ref (He.ga K "NoGrammar")) = some true),
  decide (PySem.W.kitOne K (.ref (He.ga K "NoGrammar")) (.ref (He.ga K "NoCutting")) = some false),
  decide (PySem.W.kitOne K (.ref (He.ga K "NoGrammar")) (.ref (He.ga K "NoSign")) = some false),
  decide (PySem.W.kitOne K (.ref (He.ga K "NoGrammar")) (.ref (He.ga K "NoPiece")) = some false),
  decide (PySem.W.kitOne K (.ref (He.ga K "NoGrammar")) (.ref (He.ga K "NoNumber")) = some false),
  decide (PySem.W.kitOne K (.ref (He.ga K "NoGrammar")) (.ref (He.ga K "NoCount")) = some false),
  decide (PySem.W.kitOne K (.ref (He.ga K "NoGrammar")) (.ref (He.ga K "NoText")) = some false),
  decide (PySem.W.kitOne K (.ref (He.ga K "NoGrammar")) (.ref (He.ga K "NoPlace")) = some false),
  decide (PySem.W.kitOne K (.ref (He.ga K "NoGrammar")) (.ref (He.ga K "NoLead")) = some false),
  decide (PySem.W.kitOne K (.ref (He.ga K "NoGrammar")) (.ref (He.ga K "NoDeed")) = some false),
  decide (PySem.W.kitOne K (.ref (He.ga K "NoGrammar")) (.ref (He.ga K "NoRow")) = some false),
  decide (PySem.W.kitOne K (.ref (He.ga K "NoGrammar")) (.ref (He.ga K "NoName")) = some false),
  decide (PySem.W.kitOne K (.ref (He.ga K "NoGrammar")) (.type "ValueError") = some true)]
theorem exAt {l : List Bool} {i : Nat} {b : Bool} (h : l.all id = true) (e : l[i]? = some b) : b = true := List.all_eq_true.mp h b (List.mem_of_getElem? e)
def fa : List He.Fa := [.free "len",
  .free "range",
  .free "max",
  .free "min",
  .free "isinstance",
  .free "str",
  .free "int",
  .free "bool",
  .free "list",
  .free "tuple",
  .free "ord",
  .free "enumerate",
  .free "ValueError",
  .int "BLANK_CODE" 32,
  .int "PERCENT_CODE" 37,
  .int "TILDE_CODE" 126,
  .int "MOST_STATES" 4,
  .int "MOST_WAYS" 48,
  .glo "JoinError",
  .glo "NoTable",
  .glo "NoGrammar",
  .glo "NoCutting",
  .glo "NoSign",
  .glo "NoPiece",
  .glo "NoNumber",
  .glo "NoCount",
  .glo "NoText",
  .glo "NoPlace",
  .glo "NoLead",
  .glo "NoDeed",
  .glo "NoRow",
  .glo "NoName",
  .glo "Grammar",
  .cls "Grammar",
  .noat "Grammar" "state_count",
  .noat "Grammar" "way_list",
  .noat "Grammar" "state_by_way",
  .noat "Grammar" "end_list",
  .mkr "Grammar",
  .meth "Grammar" "is_state",
  .meth "Grammar" "may_take_way",
  .meth "Grammar" "take_ways",
  .meth "Grammar" "take_ends",
  .meth "Grammar" "many",
  .meth "Grammar" "ways",
  .meth "Grammar" "ends",
  .glo "is_whole",
  .glo "is_up_to",
  .glo "may_be_sign",
  .glo "_law_cell_at",
  .glo "_law_numbers",
  .glo "_law_signs",
  .glo "_law_whole",
  .glo "_law_grammar",
  .glo "_law_refusal",
  .glo "_law_seen",
  .glo "_law_is_sign",
  .glo "_law_is_state",
  .glo "_law_due",
  .glo "_law_bent_ways",
  .glo "_law_bent_ends",
  .glo "_law_block",
  .glo "law"]
def fn : List He.DefD := [⟨("JoinError", some "__init__"), "__init__", "JoinError.__init__", defArgs s_JoinError___init__, defBody s_JoinError___init__, defScope s_JoinError___init__, [], []⟩,
  ⟨("NoGrammar", some "__init__"), "__init__", "NoGrammar.__init__", defArgs s_NoGrammar___init__, defBody s_NoGrammar___init__, defScope s_NoGrammar___init__, [], []⟩,
  ⟨("is_whole", none), "is_whole", "is_whole", defArgs s_is_whole, defBody s_is_whole, defScope s_is_whole, [], []⟩,
  ⟨("is_up_to", none), "is_up_to", "is_up_to", defArgs s_is_up_to, defBody s_is_up_to, defScope s_is_up_to, [], []⟩,
  ⟨("may_be_sign", none), "may_be_sign", "may_be_sign", defArgs s_may_be_sign, defBody s_may_be_sign, defScope s_may_be_sign, [], []⟩,
  ⟨("Grammar", some "__init__"), "__init__", "Grammar.__init__", defArgs s_Grammar___init__, defBody s_Grammar___init__, defScope s_Grammar___init__, [], []⟩,
  ⟨("Grammar", some "is_state"), "is_state", "Grammar.is_state", defArgs s_Grammar_is_state, defBody s_Grammar_is_state, defScope s_Grammar_is_state, [], []⟩,
  ⟨("Grammar", some "may_take_way"), "may_take_way", "Grammar.may_take_way", defArgs s_Grammar_may_take_way, defBody s_Grammar_may_take_way, defScope s_Grammar_may_take_way, [], []⟩,
  ⟨("Grammar", some "take_ways"), "take_ways", "Grammar.take_ways", defArgs s_Grammar_take_ways, defBody s_Grammar_take_ways, defScope s_Grammar_take_ways, [], []⟩,
  ⟨("Grammar", some "take_ends"), "take_ends", "Grammar.take_ends", defArgs s_Grammar_take_ends, defBody s_Grammar_take_ends, defScope s_Grammar_take_ends, [], []⟩,
  ⟨("Grammar", some "many"), "many", "Grammar.many", defArgs s_Grammar_many, defBody s_Grammar_many, defScope s_Grammar_many, [], []⟩,
  ⟨("Grammar", some "ways"), "ways", "Grammar.ways", defArgs s_Grammar_ways, defBody s_Grammar_ways, defScope s_Grammar_ways, [], []⟩,
  ⟨("Grammar", some "ends"), "ends", "Grammar.ends", defArgs s_Grammar_ends, defBody s_Grammar_ends, defScope s_Grammar_ends, [], []⟩,
  ⟨("_law_cell_at", none), "_law_cell_at", "_law_cell_at", defArgs s__law_cell_at, defBody s__law_cell_at, defScope s__law_cell_at, [], []⟩,
  ⟨("_law_numbers", none), "_law_numbers", "_law_numbers", defArgs s__law_numbers, defBody s__law_numbers, defScope s__law_numbers, [], []⟩,
  ⟨("_law_signs", none), "_law_signs", "_law_signs", defArgs s__law_signs, defBody s__law_signs, defScope s__law_signs, [], []⟩,
  ⟨("_law_whole", none), "_law_whole", "_law_whole", defArgs s__law_whole, defBody s__law_whole, defScope s__law_whole, [], []⟩,
  ⟨("_law_grammar", none), "_law_grammar", "_law_grammar", defArgs s__law_grammar, defBody s__law_grammar, defScope s__law_grammar, [], []⟩,
  ⟨("_law_refusal", none), "_law_refusal", "_law_refusal", defArgs s__law_refusal, defBody s__law_refusal, defScope s__law_refusal, [], []⟩,
  ⟨("_law_seen", none), "_law_seen", "_law_seen", defArgs s__law_seen, defBody s__law_seen, defScope s__law_seen, [], []⟩,
  ⟨("_law_is_sign", none), "_law_is_sign", "_law_is_sign", defArgs s__law_is_sign, defBody s__law_is_sign, defScope s__law_is_sign, [], []⟩,
  ⟨("_law_is_state", none), "_law_is_state", "_law_is_state", defArgs s__law_is_state, defBody s__law_is_state, defScope s__law_is_state, [], []⟩,
  ⟨("_law_due", none), "_law_due", "_law_due", defArgs s__law_due, defBody s__law_due, defScope s__law_due, [], []⟩,
  ⟨("_law_bent_ways", none), "_law_bent_ways", "_law_bent_ways", defArgs s__law_bent_ways, defBody s__law_bent_ways, defScope s__law_bent_ways, [], []⟩,
  ⟨("_law_bent_ends", none), "_law_bent_ends", "_law_bent_ends", defArgs s__law_bent_ends, defBody s__law_bent_ends, defScope s__law_bent_ends, [], []⟩,
  ⟨("_law_block", none), "_law_block", "_law_block", defArgs s__law_block, defBody s__law_block, defScope s__law_block, [], []⟩,
  ⟨("law", none), "law", "law", defArgs s_law, defBody s_law, defScope s_law, [], []⟩]

abbrev RR : PySem.W.OpenRow := PySem.W.OpenLaw.row PySem.Challenge.rw_joinranks_k70_no_grammar
def loose : List PySem.Str := (["_wall", "JoinError", "NoTable", "NoGrammar", "NoCutting", "NoSign", "NoPiece", "NoNumber", "NoCount", "NoText", "NoPlace", "NoLead", "NoDeed", "NoRow", "NoName", "is_whole", "is_up_to", "BLANK_CODE", "PERCENT_CODE", "TILDE_CODE", "may_be_sign", "MOST_STATES", "MOST_WAYS", "Grammar", "_law_cell_at", "_law_numbers", "_law_signs", "_law_whole", "_law_grammar", "_law_refusal"] : List PySem.Str) ++ (["_law_seen", "_law_is_sign", "_law_is_state", "_law_due", "_law_bent_ways", "_law_bent_ends", "_law_block"] : List PySem.Str)
abbrev hk : PySem.W.Hook := hookC 4 fa fn (fun K => (exs K).all id)
def ob (s : PySem.W.SharedT) : He.AlX := obsC 4 fa fn (fun K => (exs K).all id) (HandSHeadRun.getT s)
theorem ob_eq (s : PySem.W.SharedT) : ob s = hk.obs s.abs := obsC_eq (HandSHeadRun.getT_eq s)
theorem run (w : World) : HandSHeadRun.RunEq RR (PySem.W.view RR.prog [42]) hk ob 8000 loose w := by
  intro os
  kernel_rfl
end Jr
namespace Jr
open PySem PySem.Spec PyProof.Rows L2
/-! ### grammars as data: the ways (state, sign, the state that it leads to) -/
abbrev Gws := List (Nat × Nat × Nat)
def gky (s c : Nat) : List Key := [Sum.inl (s : Int), Sum.inr (sgn c)]
def wayD (ws : Gws) : List (List Key × V) := ws.map fun w => (gky w.1 w.2.1, .int (w.2.2 : Nat))
def wayTo (ws : Gws) (s c : Nat) : Option Nat := (ws.find? fun w => w.1 == s && w.2.1 == c).map (·.2.2)
theorem gky_inj {s c s' c' : Nat} (h : gky s c = gky s' c') : s = s' ∧ c = c' := by
  unfold gky at h
  have h1 := Sum.inl.inj (List.cons.inj h).1
  have h2 := Sum.inr.inj (List.cons.inj (List.cons.inj h).2).1
  exact ⟨by omega, sgn_inj h2⟩
theorem wayTo_cons (w : Nat × Nat × Nat) (ws : Gws) (s c : Nat) : wayTo (w :: ws) s c = if w.1 = s ∧ w.2.1 = c then some w.2.2 else wayTo ws s c := by
  unfold wayTo
  rw [List.find?_cons]
  by_cases h : w.1 = s ∧ w.2.1 = c
  · rw [if_pos h, h.1, h.2]
    simp
  · rw [if_neg h]
    have e : (w.1 == s && w.2.1 == c) = false := by
      rw [Bool.eq_false_iff]
      intro z
      rw [Bool.and_eq_true, beq_iff_eq, beq_iff_eq] at z
      exact h z
    rw [e]
theorem wayD_val : ∀ (ws : Gws) (s c : Nat), valV (wayD ws) (gky s c) = (wayTo ws s c).map fun n => V.int (n : Nat)
  | [], _, _ => rfl
  | w :: ws, s, c => by
    rw [wayTo_cons]
    by_cases h : w.1 = s ∧ w.2.1 = c
    · rw [if_pos h]
      show valV ((gky w.1 w.2.1, V.int (w.2.2 : Nat)) :: wayD ws) _ = _
      rw [h.1, h.2, valV_pos rfl]
      rfl
    · rw [if_neg h]
      show valV ((gky w.1 w.2.1, V.int (w.2.2 : Nat)) :: wayD ws) _ = _
      rw [valV_neg (fun e => h (gky_inj e)), wayD_val ws s c]
theorem wayD_len (ws : Gws) : (wayD ws).length = ws.length := by unfold wayD; rw [List.length_map]
theorem wayD_snoc (ws : Gws) (w : Nat × Nat × Nat) : wayD (ws ++ [w]) = wayD ws ++ [(gky w.1 w.2.1, .int (w.2.2 : Nat))] := by unfold wayD; rw [List.map_append]; rfl
theorem wayTo_none {ws : Gws} {s c : Nat} : wayTo ws s c = none ↔ ∀ w ∈ ws, ¬ (w.1 = s ∧ w.2.1 = c) := by
  unfold wayTo
  rw [Option.map_eq_none_iff, List.find?_eq_none]
  constructor
  · intro h w hw z
    have := h w hw
    simp [z.1, z.2] at this
  · intro h w hw z
    rw [Bool.and_eq_true, beq_iff_eq, beq_iff_eq] at z
    exact h w hw z
structure GOk (many : Nat) (ws : Gws) (es : List Nat) : Prop where
  m1 : 1 ≤ many
  m4 : many ≤ 4
  len : ws.length ≤ 48
  way : ∀ w ∈ ws, w.1 < many ∧ w.2.2 < many ∧ 32 ≤ w.2.1 ∧ w.2.1 ≤ 126 ∧ w.2.1 ≠ 37
  new : ∀ i w, ws[i]? = some w → wayTo (ws.take i) w.1 w.2.1 = none
  ends : ∀ e ∈ es, e < many
  nd : es.Nodup
theorem wayTo_mem {ws : Gws} {s c n : Nat} (h : wayTo ws s c = some n) : (s, c, n) ∈ ws := by
  unfold wayTo at h
  obtain ⟨w, hw, e⟩ := Option.map_eq_some_iff.mp h
  have h1 := List.mem_of_find?_eq_some hw
  have h2 := List.find?_some hw
  rw [Bool.and_eq_true, beq_iff_eq, beq_iff_eq] at h2
  have e2 : w = (s, c, n) := Prod.ext h2.1 (Prod.ext h2.2 e)
  rw [← e2]; exact h1
theorem GOk.to {many : Nat} {ws : Gws} {es : List Nat} (G : GOk many ws es) {s c n : Nat} (h : wayTo ws s c = some n) : n < many := (G.way _ (wayTo_mem h)).2.1
/-- where a text leads -/
def leadG (ws : Gws) (s : Nat) : List Nat → Option Nat
  | [] => some s
  | c :: cs => match wayTo ws s c with
    | some n => leadG ws n cs
    | none => none
theorem leadG_snoc (ws : Gws) : ∀ (cs : List Nat) (s c : Nat), leadG ws s (cs ++ [c]) = (leadG ws s cs).bind fun n => wayTo ws n c
  | [], s, c => by
    show (match wayTo ws s c with | some n => leadG ws n [] | none => none) = wayTo ws s c
    cases wayTo ws s c <;> rfl
  | d :: cs, s, c => by
    show (match wayTo ws s d with | some n => leadG ws n (cs ++ [c]) | none => none) = ((match wayTo ws s d with | some n => leadG ws n cs | none => none)).bind fun n => wayTo ws n c
    cases wayTo ws s d with
    | none => rfl
    | some n => exact leadG_snoc ws cs n c
theorem leadG_lt {many : Nat} {ws : Gws} {es : List Nat} (G : GOk many ws es) : ∀ (cs : List Nat) (s n : Nat), s < many → leadG ws s cs = some n → n < many
  | [], s, n, hs, h => by
    have e : s = n := Option.some.inj h
    omega
  | c :: cs, s, n, hs, h => by
    have h2 : (match wayTo ws s c with | some n => leadG ws n cs | none => none) = some n := h
    cases e : wayTo ws s c with
    | none => rw [e] at h2; cases h2
    | some m =>
      rw [e] at h2
      exact leadG_lt G cs m n (G.to e) h2
theorem leadG_dead {ws : Gws} {s : Nat} (a b : List Nat) (h : leadG ws s a = none) : leadG ws s (a ++ b) = none := by
  induction a generalizing s with
  | nil => cases h
  | cons c a ih =>
    show (match wayTo ws s c with | some n => leadG ws n (a ++ b) | none => none) = none
    have h2 : (match wayTo ws s c with | some n => leadG ws n a | none => none) = none := h
    cases e : wayTo ws s c with
    | none => rfl
    | some m =>
      rw [e] at h2
      exact ih h2
/-! ### grammars as objects -/
def WayAt (H : Hp) (a : Addr) (w : Nat × Nat × Nat) : Prop := H a = some (.tup [.int (w.1 : Nat), .str (sgn w.2.1), .int (w.2.2 : Nat)])
theorem WayAt.same {H H' : Hp} (s : Same H H') {as : List Addr} {ws : Gws} (h : Paired (WayAt H) as ws) : Paired (WayAt H') as ws := L2.Paired.mapP h fun _ _ q => s _ _ q
def WaysAt (H : Hp) (p : Addr) (ws : Gws) : Prop := ∃ as : List Addr, H p = some (.lst (as.map V.ref)) ∧ Paired (WayAt H) as ws
theorem WaysAt.same {H H' : Hp} {p : Addr} {ws : Gws} (h : WaysAt H p ws) (s : Same H H') : WaysAt H' p ws := let ⟨as, a, b⟩ := h; ⟨as, s _ _ a, WayAt.same s b⟩
def gf (m : Nat) (lw dw le : Addr) : List (Str × V) := [("state_count", .int (m : Nat)), ("way_list", .ref lw), ("state_by_way", .ref dw), ("end_list", .ref le)]
section
variable (m : Nat) (lw dw le : Addr)
theorem gf_put : putF "end_list" (.ref le) (putF "state_by_way" (.ref dw) (putF "way_list" (.ref lw) (putF "state_count" (.int (m : Nat)) []))) = gf m lw dw le := by kernel_rfl
theorem gf_c : (gf m lw dw le).lookup ("state_count" : Str) = some (V.int (m : Nat)) := by kernel_rfl
theorem gf_w : (gf m lw dw le).lookup ("way_list" : Str) = some (V.ref lw) := by kernel_rfl
theorem gf_d : (gf m lw dw le).lookup ("state_by_way" : Str) = some (V.ref dw) := by kernel_rfl
theorem gf_e : (gf m lw dw le).lookup ("end_list" : Str) = some (V.ref le) := by kernel_rfl
theorem gf_ms : (gf m lw dw le).lookup ("is_state" : Str) = none := by kernel_rfl
theorem gf_mm : (gf m lw dw le).lookup ("may_take_way" : Str) = none := by kernel_rfl
theorem gf_mtw : (gf m lw dw le).lookup ("take_ways" : Str) = none := by kernel_rfl
theorem gf_mte : (gf m lw dw le).lookup ("take_ends" : Str) = none := by kernel_rfl
theorem gf_mc : (gf m lw dw le).lookup ("many" : Str) = none := by kernel_rfl
theorem gf_mw : (gf m lw dw le).lookup ("ways" : Str) = none := by kernel_rfl
theorem gf_me : (gf m lw dw le).lookup ("ends" : Str) = none := by kernel_rfl
theorem gf_ml : (gf m lw dw le).lookup ("leads" : Str) = none := by kernel_rfl
theorem gf_mt : (gf m lw dw le).lookup ("tells" : Str) = none := by kernel_rfl
end
/-- a grammar, all of it new behind H0 -/
def GrFr (C : Addr) (H0 H : Hp) (g : Addr) (m : Nat) (ws : Gws) (es : List Nat) : Prop := ∃ (dx lw dw le : Addr) (as : List Addr), H g = some (.ins C dx (gf m lw dw le)) ∧ H lw = some (.lst (as.map V.ref)) ∧ Paired (WayAt H) as ws ∧ H dw = some (.dT (wayD ws)) ∧ H le = some (.lst (es.map fun e : Nat => V.int (e : Nat))) ∧ GOk m ws es ∧
  H0 g = none ∧ H0 lw = none ∧ H0 dw = none ∧ H0 le = none ∧ ∀ a ∈ as, H0 a = none
theorem GrFr.keep {C : Addr} {H0 H H' : Hp} {g : Addr} {m : Nat} {ws : Gws} {es : List Nat} (h : GrFr C H0 H g m ws es) (k : ∀ b o, H0 b = none → H b = some o → H' b = some o) : GrFr C H0 H' g m ws es := by
  obtain ⟨dx, lw, dw, le, as, h1, h2, h3, h4, h5, ok, f1, f2, f3, f4, f5⟩ := h
  refine ⟨dx, lw, dw, le, as, k _ _ f1 h1, k _ _ f2 h2, ?_, k _ _ f3 h4, k _ _ f4 h5, ok, f1, f2, f3, f4, f5⟩
  have key : ∀ {l : List Addr} {r : Gws}, Paired (WayAt H) l r → (∀ a ∈ l, H0 a = none) → Paired (WayAt H') l r := fun {l r} hp => by
    induction hp with
    | nil => intro _; exact .nil
    | cons q _ ih => intro hf; exact .cons (k _ _ (hf _ List.mem_cons_self) q) (ih fun a ha => hf a (List.mem_cons_of_mem _ ha))
  exact key h3 f5
theorem GrFr.same {C : Addr} {H0 H H' : Hp} {g : Addr} {m : Nat} {ws : Gws} {es : List Nat} (h : GrFr C H0 H g m ws es) (s : Same H H') : GrFr C H0 H' g m ws es := h.keep fun b o _ e => s b o e
/-- a grammar that stands -/
def GrAt (C : Addr) (H : Hp) (g : Addr) (m : Nat) (ws : Gws) (es : List Nat) : Prop := ∃ (dx lw dw le : Addr), H g = some (.ins C dx (gf m lw dw le)) ∧ WaysAt H lw ws ∧ H dw = some (.dT (wayD ws)) ∧ H le = some (.lst (es.map fun e : Nat => V.int (e : Nat))) ∧ GOk m ws es
theorem GrFr.at_ {C : Addr} {H0 H : Hp} {g : Addr} {m : Nat} {ws : Gws} {es : List Nat} (h : GrFr C H0 H g m ws es) : GrAt C H g m ws es := by
  obtain ⟨dx, lw, dw, le, as, h1, h2, h3, h4, h5, ok, _⟩ := h
  exact ⟨dx, lw, dw, le, h1, ⟨as, h2, h3⟩, h4, h5, ok⟩
theorem GrAt.same {C : Addr} {H H' : Hp} {g : Addr} {m : Nat} {ws : Gws} {es : List Nat} (h : GrAt C H g m ws es) (s : Same H H') : GrAt C H' g m ws es := by
  obtain ⟨dx, lw, dw, le, h1, h2, h4, h5, ok⟩ := h
  exact ⟨dx, lw, dw, le, s _ _ h1, h2.same s, s _ _ h4, s _ _ h5, ok⟩
theorem GrAt.ok {C : Addr} {H : Hp} {g : Addr} {m : Nat} {ws : Gws} {es : List Nat} (h : GrAt C H g m ws es) : GOk m ws es := let ⟨_, _, _, _, _, _, _, _, ok⟩ := h; ok
end Jr
namespace Jr
open PySem PySem.Spec PyProof.Rows L2
theorem isInt {K : PySem.W.Frag} : PySem.W.kitOne K (.type "int") (.type "int") = some true := kit_ty (by decide +kernel)
theorem intBool {K : PySem.W.Frag} : PySem.W.kitOne K (.type "int") (.type "bool") = some false := kit_ty (by decide +kernel)
theorem boolInt {K : PySem.W.Frag} : PySem.W.kitOne K (.type "bool") (.type "int") = some true := kit_ty (by decide +kernel)
theorem boolBool {K : PySem.W.Frag} : PySem.W.kitOne K (.type "bool") (.type "bool") = some true := kit_ty (by decide +kernel)
/-- no int, no bool -/
def NoInt (K : PySem.W.Frag) (H : Hp) (v : V) : Prop := ∃ t, TyX K H v t ∧ PySem.W.kitOne K t (.type "int") = some false
/-- is_whole: of an int True, of a bool and all else False -/
def spWhole (K : PySem.W.Frag) : Sp := fun vs H Q _ => ∃ v : V, vs = [v] ∧ ((∃ n : Int, v = .int n ∧ Q (.bl true) H) ∨ (((∃ b : Bool, v = .bl b) ∨ NoInt K H v) ∧ Q (.bl false) H))
end Jr
namespace Jr
open PySem PySem.Spec PyProof.Rows L2
/-! ### what is refused, and with what -/
theorem tyx_same {K : PySem.W.Frag} {H H' : Hp} {v : V} {t : Value} (h : TyX K H v t) (s : Same H H') : TyX K H' v t := by
  cases h with
  | base b =>
    cases b with
    | non => exact .base .non
    | bl x => exact .base (.bl x)
    | int i => exact .base (.int i)
    | str x => exact .base (.str x)
    | flt x => exact .base (.flt x)
    | lst e => exact .base (.lst (s _ _ e))
    | frz e => exact .base (.frz (s _ _ e))
    | tup e => exact .base (.tup (s _ _ e))
    | dK e => exact .base (.dK (s _ _ e))
    | dT e => exact .base (.dT (s _ _ e))
    | ins e cl ha hn htk hm => exact .base (.ins (s _ _ e) cl ha hn htk hm)
  | byt b => exact .byt b
  | set e => exact .set (s _ _ e)
  | kList e c => exact .kList e c
  | kTuple e c => exact .kTuple e c
  | kDict e c => exact .kDict e c
  | fTuple e => exact .fTuple (s _ _ e)
  | fDict e => exact .fDict (s _ _ e)
theorem NoStr.same {K : PySem.W.Frag} {H H' : Hp} {v : V} (h : NoStr K H v) (s : Same H H') : NoStr K H' v := by
  obtain ⟨t, a, b⟩ := h
  exact ⟨t, tyx_same a s, b⟩
section
variable {K : PySem.W.Frag} {H : Hp}
theorem noStr_non : NoStr K H .non := ⟨_, .base .non, kit_ty (by decide +kernel)⟩
theorem noStr_bl (b : Bool) : NoStr K H (.bl b) := ⟨_, .base (.bl b), kit_ty (by decide +kernel)⟩
theorem noStr_int (i : Int) : NoStr K H (.int i) := ⟨_, .base (.int i), kit_ty (by decide +kernel)⟩
theorem noStr_lst {a : Addr} {xs : List V} (h : H a = some (.lst xs)) : NoStr K H (.ref a) := ⟨_, .base (.lst h), kit_ty (by decide +kernel)⟩
theorem noStr_tup {a : Addr} {xs : List V} (h : H a = some (.tup xs)) : NoStr K H (.ref a) := ⟨_, .base (.tup h), kit_ty (by decide +kernel)⟩
theorem noStr_dK {a : Addr} {xs : List (Key × V)} (h : H a = some (.dK xs)) : NoStr K H (.ref a) := ⟨_, .base (.dK h), kit_ty (by decide +kernel)⟩
end
/-- the place of the first sign that is not z's -/
def wrong1 (z t : Str) : Option Nat := t.cps.toList.findIdx? fun c => !decide (c ∈ z.cps.toList)
theorem wrong1_none {z t : Str} : wrong1 z t = none ↔ TextOf z t := by
  unfold wrong1
  rw [List.findIdx?_eq_none_iff]
  exact ⟨fun h c hc => by simpa using h c hc, fun h c hc => by simpa using h c hc⟩
theorem wrong1_at {z t : Str} {i c : Nat} (h : ∀ j d, j < i → t.cps.toList[j]? = some d → d ∈ z.cps.toList) (hc : t.cps.toList[i]? = some c) (n : ¬ c ∈ z.cps.toList) : wrong1 z t = some i := by
  unfold wrong1
  obtain ⟨hi, e⟩ := List.getElem?_eq_some_iff.mp hc
  rw [List.findIdx?_eq_some_iff_getElem]
  refine ⟨hi, ?_, fun j hj => ?_⟩
  · rw [e]; simpa using n
  · have := h j _ hj (List.getElem?_eq_getElem (by omega))
    simpa using this
theorem wrong1_lt {z t : Str} {i : Nat} (h : wrong1 z t = some i) : i < t.length := by
  unfold wrong1 at h
  obtain ⟨hi, _⟩ := List.findIdx?_eq_some_iff_getElem.mp h
  rw [← len_cps]; exact hi
/-- v is refused as a text of z's signs, w the place -/
def Bad (K : PySem.W.Frag) (H : Hp) (z : Str) (v w : V) : Prop := (∃ t i, v = .str t ∧ wrong1 z t = some i ∧ w = .int (i : Nat)) ∨ (NoStr K H v ∧ w = .non)
theorem Bad.same {K : PySem.W.Frag} {H H' : Hp} {z : Str} {v w : V} (h : Bad K H z v w) (s : Same H H') : Bad K H' z v w := by
  rcases h with h | ⟨h, e⟩
  · exact .inl h
  · exact .inr ⟨h.same s, e⟩
/-- an error of the class at C with one field is wanted -/
def Rz (C : Addr) (f : Str) (v : V) (H : Hp) (E : XK) : Prop := ∀ H' d, Same H H' → H d = none → H' d = some (.xd [(f, v)]) → E (.ref C) (some d) H'
theorem Rz.same {C : Addr} {f : Str} {v : V} {H H1 : Hp} {E : XK} (h : Rz C f v H E) (s : Same H H1) : Rz C f v H1 E := fun H' d s1 n e => h H' d (s.trans s1) (s.free n) e
theorem Rz.now {C : Addr} {f : Str} {v : V} {H : Hp} {E : XK} (h : Rz C f v H E) : ∀ d, H d = none → E (.ref C) (some d) (upd H d (.xd [(f, v)])) := fun d n => h _ d (Same.new n) n upd_same
theorem fmt_nat (i : Nat) (h : i ≤ 100000) : Fmt (.int (i : Nat)) := .inr (.inl ⟨_, rfl, by
  have e : ((i : Nat) : Int).natAbs = i := by omega
  rw [e]
  rcases Nat.eq_zero_or_pos i with h0 | h0
  · rw [h0]; decide
  · have : i.log2 < 20 := (Nat.log2_lt (by omega)).mpr (by omega)
    omega⟩)
end Jr
namespace Jr
open PySem PySem.Spec PyProof.Rows L2
/-- no number from 0 to m -/
def NoPl (K : PySem.W.Frag) (H : Hp) (v : V) (m : Int) : Prop := (∃ n : Int, v = .int n ∧ ¬ (0 ≤ n ∧ n ≤ m)) ∨ (∃ b : Bool, v = .bl b) ∨ NoInt K H v
theorem NoInt.same {K : PySem.W.Frag} {H H' : Hp} {v : V} (h : NoInt K H v) (s : Same H H') : NoInt K H' v := by
  obtain ⟨t, a, b⟩ := h
  exact ⟨t, tyx_same a s, b⟩
theorem NoPl.same {K : PySem.W.Frag} {H H' : Hp} {v : V} {m : Int} (h : NoPl K H v m) (s : Same H H') : NoPl K H' v m := by
  rcases h with h | h | h
  · exact .inl h
  · exact .inr (.inl h)
  · exact .inr (.inr (h.same s))
section
variable {K : PySem.W.Frag} {H : Hp}
theorem noInt_non : NoInt K H .non := ⟨_, .base .non, kit_ty (by decide +kernel)⟩
theorem noInt_str (x : Str) : NoInt K H (.str x) := ⟨_, .base (.str x), kit_ty (by decide +kernel)⟩
theorem noInt_lst {a : Addr} {xs : List V} (h : H a = some (.lst xs)) : NoInt K H (.ref a) := ⟨_, .base (.lst h), kit_ty (by decide +kernel)⟩
theorem noInt_tup {a : Addr} {xs : List V} (h : H a = some (.tup xs)) : NoInt K H (.ref a) := ⟨_, .base (.tup h), kit_ty (by decide +kernel)⟩
theorem noInt_dK {a : Addr} {xs : List (Key × V)} (h : H a = some (.dK xs)) : NoInt K H (.ref a) := ⟨_, .base (.dK h), kit_ty (by decide +kernel)⟩
end
section
variable {P : Program} {w : World} {K : PySem.W.Frag} {mg : Str → Option Value} {base : Heap}
theorem calU_is_whole (T : Tx K mg) : Cal P w K mg base CX0 1 "is_whole" (spWhole K) := by
  obtain ⟨fd, F⟩ := T.d_is_whole
  refine ⟨_, fd, P_is_whole, F.ok sc_is_whole (fun vs H Q E h => ?_) (fun cdv A outer s H vs Q E hr h => ?_), T.g_is_whole, F.kp, F.bindsN (ps := P_is_whole) fun _ _ _ _ _ _ us hl => match us, hl with | [_], _ => rfl⟩
  · obtain ⟨v, rfl, _⟩ := h
    rfl
  · obtain ⟨v, rfl, k⟩ := h
    refine ⟨_, (PSs.nox (pss_one (ps_ret (pe_and (pe_callB (id := "isinstance") call_isi (by rfl) T.n_isinstance (by decide +kernel) (pa_cons (pv 0) (pa_cons (pe_bltn (v := .ty "int") (by rfl) T.n_int (by decide +kernel) rfl) pa_nil))) (pe_one (pe_not (pe_callB (id := "isinstance") call_isi (by rfl) T.n_isinstance (by decide +kernel) (pa_cons (pv 0) (pa_cons (pe_bltn (v := .ty "bool") (by rfl) T.n_bool (by decide +kernel) rfl) pa_nil))))))))), ?_⟩
    rcases k with ⟨n, rfl, k⟩ | ⟨⟨b, rfl⟩ | ⟨t, ht, hk⟩, k⟩
    · exact ⟨_, rfl, _, _, _, _, _, rfl, .ty "int", .base (.int n), isInt, _, rfl, iteT ⟨_, rfl, _, _, _, _, _, rfl, .ty "bool", .base (.int n), intBool, _, rfl, k⟩⟩
    · exact ⟨_, rfl, _, _, _, _, _, rfl, .ty "int", .base (.bl b), boolInt, _, rfl, iteT ⟨_, rfl, _, _, _, _, _, rfl, .ty "bool", .base (.bl b), boolBool, _, rfl, k⟩⟩
    · exact ⟨_, rfl, _, _, _, _, _, rfl, .ty "int", ht, hk, _, rfl, iteF k⟩
/-- is_up_to of anything -/
def spUpToX (K : PySem.W.Frag) : Sp := fun vs H Q _ => ∃ (v : V) (m : Int), vs = [v, .int m] ∧ ((∃ n : Int, v = .int n ∧ 0 ≤ n ∧ n ≤ m ∧ Q (.bl true) H) ∨ (NoPl K H v m ∧ Q (.bl false) H))
theorem calU_is_up_to (T : Tx K mg) : Cal P w K mg base CX0 2 "is_up_to" (spUpToX K) := by
  have C_is_whole := calU_is_whole (P := P) (w := w) (base := base) T
  obtain ⟨fd, F⟩ := T.d_is_up_to
  refine ⟨_, fd, P_is_up_to, F.ok sc_is_up_to (fun vs H Q E h => ?_) (fun cdv A outer s H vs Q E hr h => ?_), T.g_is_up_to, F.kp, F.bindsN (ps := P_is_up_to) fun _ _ _ _ _ _ us hl => match us, hl with | [_, _], _ => rfl⟩
  · obtain ⟨n, m, rfl, _⟩ := h
    rfl
  · obtain ⟨v, m, rfl, k⟩ := h
    refine ⟨_, (PSs.nox (pss_one (ps_ret (pe_and (pe_cal C_is_whole (by first | exact hr | exact hr.mono (by decide)) (by rfl) (pa_cons (pv 0) pa_nil)) (pe_one (pe_chain op_le op_le pe_int (pv 0) (pv 1))))))), ?_⟩
    rcases k with ⟨n, rfl, c1, c2, k⟩ | ⟨⟨n, rfl, c⟩ | h, k⟩
    · refine ⟨_, rfl, .int n, rfl, .inl ⟨n, rfl, _, rfl, iteT ⟨_, rfl, _, _, rfl, rfl, _, rfl, ite2 (fun c => ⟨_, rfl, _, _, rfl, rfl, ?_⟩) (fun c => ?_)⟩⟩⟩
      · have e : decide (n ≤ m) = true := decide_eq_true c2
        show Q (V.bl (decide (n ≤ m))) H
        rw [e]; exact k
      · have c' : ¬ (0 : Int) ≤ n := of_decide_eq_false (by simpa using c)
        exact absurd c1 c'
    · refine ⟨_, rfl, .int n, rfl, .inl ⟨n, rfl, _, rfl, iteT ⟨_, rfl, _, _, rfl, rfl, _, rfl, ite2 (fun c1 => ⟨_, rfl, _, _, rfl, rfl, ?_⟩) (fun c1 => ?_)⟩⟩⟩
      · have c' : (0 : Int) ≤ n := of_decide_eq_true c1
        have e : decide (n ≤ m) = false := decide_eq_false fun z => c ⟨c', z⟩
        show Q (V.bl (decide (n ≤ m))) H
        rw [e]; exact k
      · exact k
    · exact ⟨_, rfl, v, rfl, .inr ⟨h, _, rfl, iteF k⟩⟩
end
end Jr
namespace Jr
open PySem PySem.Spec PyProof.Rows L2
/-- v is no piece -/
def NoPc (K : PySem.W.Frag) (H : Hp) (z : Str) (rs : Rws) (v : V) : Prop := (∃ t, v = .str t ∧ ¬ t ∈ pcs z rs) ∨ NoStr K H v
theorem NoPc.same {K : PySem.W.Frag} {H H' : Hp} {z : Str} {rs : Rws} {v : V} (h : NoPc K H z rs v) (s : Same H H') : NoPc K H' z rs v := by
  rcases h with h | h
  · exact .inl h
  · exact .inr (h.same s)
/-- the first of us that is no piece stands at i -/
structure FirstPc (K : PySem.W.Frag) (H : Hp) (z : Str) (rs : Rws) (us : List V) (i : Nat) : Prop where
  good : ∀ j v, j < i → us[j]? = some v → ∃ p, p ∈ pcs z rs ∧ v = .str p
  bad : ∃ v, us[i]? = some v ∧ NoPc K H z rs v
theorem FirstPc.same {K : PySem.W.Frag} {H H' : Hp} {z : Str} {rs : Rws} {us : List V} {i : Nat} (h : FirstPc K H z rs us i) (s : Same H H') : FirstPc K H' z rs us i :=
  ⟨h.good, let ⟨v, a, b⟩ := h.bad; ⟨v, a, b.same s⟩⟩
theorem FirstPc.lt {K : PySem.W.Frag} {H : Hp} {z : Str} {rs : Rws} {us : List V} {i : Nat} (h : FirstPc K H z rs us i) : i < us.length := by
  obtain ⟨v, e, _⟩ := h.bad
  exact (List.getElem?_eq_some_iff.mp e).1
theorem noPc_str {K : PySem.W.Frag} {H : Hp} {z : Str} {rs : Rws} {p : Str} (h : NoPc K H z rs (.str p)) : ¬ p ∈ pcs z rs := by
  rcases h with ⟨t, e, n⟩ | ⟨t, a, b⟩
  · cases e; exact n
  · cases a with
    | base a => cases a; rw [isStr] at b; cases b
end Jr
namespace Jr
open PySem PySem.Spec PyProof.Rows L2
/-- v is no list -/
def NoLst (K : PySem.W.Frag) (H : Hp) (v : V) : Prop := ∃ t, TyX K H v t ∧ PySem.W.kitOne K t (.type "list") = some false
theorem NoLst.same {K : PySem.W.Frag} {H H' : Hp} {v : V} (h : NoLst K H v) (s : Same H H') : NoLst K H' v := by
  obtain ⟨t, a, b⟩ := h
  exact ⟨t, tyx_same a s, b⟩
section
variable {K : PySem.W.Frag} {H : Hp}
theorem noLst_non : NoLst K H .non := ⟨_, .base .non, kit_ty (by decide +kernel)⟩
theorem noLst_bl (b : Bool) : NoLst K H (.bl b) := ⟨_, .base (.bl b), kit_ty (by decide +kernel)⟩
theorem noLst_int (i : Int) : NoLst K H (.int i) := ⟨_, .base (.int i), kit_ty (by decide +kernel)⟩
theorem noLst_str (x : Str) : NoLst K H (.str x) := ⟨_, .base (.str x), kit_ty (by decide +kernel)⟩
theorem noLst_tup {a : Addr} {xs : List V} (h : H a = some (.tup xs)) : NoLst K H (.ref a) := ⟨_, .base (.tup h), kit_ty (by decide +kernel)⟩
theorem noLst_dK {a : Addr} {xs : List (Key × V)} (h : H a = some (.dK xs)) : NoLst K H (.ref a) := ⟨_, .base (.dK h), kit_ty (by decide +kernel)⟩
end
end Jr
namespace Jr
open PySem PySem.Spec PyProof.Rows L2
/-! ### what makes no table -/
def SgnOk (c : Nat) : Prop := 32 ≤ c ∧ c ≤ 126 ∧ c ≠ 37
/-- the first wrong sign of z stands at i -/
structure WSign (z : Str) (i : Nat) : Prop where
  bad : ∃ c, z.cps.toList[i]? = some c ∧ (¬ SgnOk c ∨ c ∈ z.cps.toList.take i)
  good : ∀ j d, j < i → z.cps.toList[j]? = some d → SgnOk d ∧ ¬ d ∈ z.cps.toList.take j
def WSigns (K : PySem.W.Frag) (H : Hp) (sv u : V) : Prop := (NoStr K H sv ∧ u = .non) ∨ (∃ z, sv = .str z ∧ z.length ≤ 100000 ∧ ¬ (1 ≤ z.length ∧ z.length ≤ 12) ∧ u = .non) ∨ ∃ z i, sv = .str z ∧ 1 ≤ z.length ∧ z.length ≤ 12 ∧ WSign z i ∧ u = .int (i : Nat)
/-- v is no tuple -/
def NoTup (K : PySem.W.Frag) (H : Hp) (v : V) : Prop := ∃ t, TyX K H v t ∧ PySem.W.kitOne K t (.type "tuple") = some false
theorem NoTup.same {K : PySem.W.Frag} {H H' : Hp} {v : V} (h : NoTup K H v) (s : Same H H') : NoTup K H' v := by
  obtain ⟨t, a, b⟩ := h
  exact ⟨t, tyx_same a s, b⟩
section
variable {K : PySem.W.Frag} {H : Hp}
theorem noTup_non : NoTup K H .non := ⟨_, .base .non, kit_ty (by decide +kernel)⟩
theorem noTup_bl (b : Bool) : NoTup K H (.bl b) := ⟨_, .base (.bl b), kit_ty (by decide +kernel)⟩
theorem noTup_int (i : Int) : NoTup K H (.int i) := ⟨_, .base (.int i), kit_ty (by decide +kernel)⟩
theorem noTup_str (x : Str) : NoTup K H (.str x) := ⟨_, .base (.str x), kit_ty (by decide +kernel)⟩
theorem noTup_lst {a : Addr} {xs : List V} (h : H a = some (.lst xs)) : NoTup K H (.ref a) := ⟨_, .base (.lst h), kit_ty (by decide +kernel)⟩
theorem noTup_dK {a : Addr} {xs : List (Key × V)} (h : H a = some (.dK xs)) : NoTup K H (.ref a) := ⟨_, .base (.dK h), kit_ty (by decide +kernel)⟩
end
/-- two parts that make no row behind rs -/
def BadParts (K : PySem.W.Frag) (H : Hp) (z : Str) (rs : Rws) (u1 u2 : V) : Prop := NoPc K H z rs u1 ∨ ∃ l, u1 = .str l ∧ l ∈ pcs z rs ∧ (NoPc K H z rs u2 ∨ ∃ r, u2 = .str r ∧ r ∈ pcs z rs ∧ (16 < (l ++ r).length ∨ l ++ r ∈ pcs z rs))
/-- v is no row that may stand behind rs -/
def BadRow (K : PySem.W.Frag) (H : Hp) (z : Str) (rs : Rws) (v : V) : Prop := NoTup K H v ∨ ∃ a us, v = .ref a ∧ H a = some (.tup us) ∧ us.length ≤ 1000 ∧ (us.length ≠ 2 ∨ ∃ u1 u2, us = [u1, u2] ∧ BadParts K H z rs u1 u2)
theorem BadParts.same {K : PySem.W.Frag} {H H' : Hp} {z : Str} {rs : Rws} {u1 u2 : V} (h : BadParts K H z rs u1 u2) (s : Same H H') : BadParts K H' z rs u1 u2 := by
  rcases h with h | ⟨l, e, hl, h | h⟩
  · exact .inl (h.same s)
  · exact .inr ⟨l, e, hl, .inl (h.same s)⟩
  · exact .inr ⟨l, e, hl, .inr h⟩
theorem BadRow.same {K : PySem.W.Frag} {H H' : Hp} {z : Str} {rs : Rws} {v : V} (h : BadRow K H z rs v) (s : Same H H') : BadRow K H' z rs v := by
  rcases h with h | ⟨a, us, e, hA, ul, h⟩
  · exact .inl (h.same s)
  · refine .inr ⟨a, us, e, s _ _ hA, ul, ?_⟩
    rcases h with h | ⟨u1, u2, e2, h⟩
    · exact .inl h
    · exact .inr ⟨u1, u2, e2, h.same s⟩
/-- the list us: its first things are the rows rs; the next one, if there is one, may not stand -/
structure RowsTo (K : PySem.W.Frag) (H : Hp) (z : Str) (us : List V) (rs : Rws) : Prop where
  pre : ∃ as, us.take rs.length = as.map V.ref ∧ Paired (TupAt H) as rs
  le : rs.length ≤ us.length
  ok : TabOk z rs
  nx : ∀ v, us[rs.length]? = some v → BadRow K H z rs v
theorem RowsTo.same {K : PySem.W.Frag} {H H' : Hp} {z : Str} {us : List V} {rs : Rws} (h : RowsTo K H z us rs) (s : Same H H') : RowsTo K H' z us rs :=
  ⟨let ⟨as, e, p⟩ := h.pre; ⟨as, e, TupAt.same s p⟩, h.le, h.ok, fun v e => (h.nx v e).same s⟩
def WRows (K : PySem.W.Frag) (H : Hp) (z : Str) (rv u : V) : Prop := (NoLst K H rv ∧ u = .non) ∨ (∃ a us, rv = .ref a ∧ H a = some (.lst us) ∧ us.length ≤ 1000 ∧ 24 < us.length ∧ u = .non) ∨
  ∃ a us rs, rv = .ref a ∧ H a = some (.lst us) ∧ us.length ≤ 24 ∧ RowsTo K H z us rs ∧ rs.length < us.length ∧ u = .int (rs.length : Nat)
/-- what is wrong with signs and rows: the part and the number -/
def WTab (K : PySem.W.Frag) (H : Hp) (sv rv : V) (part : Str) (u : V) : Prop := (part = Str.ofString "signs" ∧ WSigns K H sv u) ∨ (part = Str.ofString "rows" ∧ ∃ z, sv = .str z ∧ SignsOk z ∧ 1 ≤ z.length ∧ z.length ≤ 12 ∧ WRows K H z rv u)
theorem WSigns.same {K : PySem.W.Frag} {H H' : Hp} {sv u : V} (h : WSigns K H sv u) (s : Same H H') : WSigns K H' sv u := by
  rcases h with ⟨h, e⟩ | h | h
  · exact .inl ⟨h.same s, e⟩
  · exact .inr (.inl h)
  · exact .inr (.inr h)
theorem WRows.same {K : PySem.W.Frag} {H H' : Hp} {z : Str} {rv u : V} (h : WRows K H z rv u) (s : Same H H') : WRows K H' z rv u := by
  rcases h with ⟨h, e⟩ | ⟨a, us, e, hA, h⟩ | ⟨a, us, rs, e, hA, ul, rt, h⟩
  · exact .inl ⟨h.same s, e⟩
  · exact .inr (.inl ⟨a, us, e, s _ _ hA, h⟩)
  · exact .inr (.inr ⟨a, us, rs, e, s _ _ hA, ul, rt.same s, h⟩)
theorem WTab.same {K : PySem.W.Frag} {H H' : Hp} {sv rv : V} {p : Str} {u : V} (h : WTab K H sv rv p u) (s : Same H H') : WTab K H' sv rv p u := by
  rcases h with ⟨e, h⟩ | ⟨e, z, e2, a, b, c, h⟩
  · exact .inl ⟨e, h.same s⟩
  · exact .inr ⟨e, z, e2, a, b, c, h.same s⟩
theorem WTab.fmt {K : PySem.W.Frag} {H : Hp} {sv rv : V} {p : Str} {u : V} (h : WTab K H sv rv p u) : (p = Str.ofString "signs" ∨ p = Str.ofString "rows") ∧ (u = .non ∨ ∃ i : Nat, i ≤ 24 ∧ u = .int (i : Nat)) := by
  rcases h with ⟨e, ⟨_, h⟩ | ⟨_, _, _, _, h⟩ | ⟨z, i, _, _, z12, w, h⟩⟩ | ⟨e, z, _, _, _, _, ⟨_, h⟩ | ⟨_, _, _, _, _, _, h⟩ | ⟨a, us, rs, _, _, ul, _, rl, h⟩⟩
  · exact ⟨.inl e, .inl h⟩
  · exact ⟨.inl e, .inl h⟩
  · obtain ⟨c, hc, _⟩ := w.bad
    have := (List.getElem?_eq_some_iff.mp hc).1
    rw [len_cps] at this
    exact ⟨.inl e, .inr ⟨i, by omega, h⟩⟩
  · exact ⟨.inr e, .inl h⟩
  · exact ⟨.inr e, .inl h⟩
  · exact ⟨.inr e, .inr ⟨_, by omega, h⟩⟩
theorem signs_ok_of {z : Str} (h : ∀ j d, z.cps.toList[j]? = some d → SgnOk d ∧ ¬ d ∈ z.cps.toList.take j) : SignsOk z := by
  refine ⟨?_, fun c hc => ?_⟩
  · rw [List.Nodup, List.pairwise_iff_getElem]
    intro i j hi hj hij e
    have ej := List.getElem?_eq_getElem hj
    refine (h j _ ej).2 ?_
    refine List.mem_of_getElem? (i := i) ?_
    rw [List.getElem?_take, if_pos hij, List.getElem?_eq_getElem hi, e]
  · obtain ⟨j, hj, e⟩ := List.mem_iff_getElem.mp hc
    exact (h j c (by rw [List.getElem?_eq_getElem hj, e])).1
/-- every text of one to twelve signs is good, or has a first wrong one -/
theorem wsign_or (z : Str) : SignsOk z ∨ ∃ i, WSign z i := by
  by_cases h : ∃ i, ∃ c, z.cps.toList[i]? = some c ∧ (¬ SgnOk c ∨ c ∈ z.cps.toList.take i)
  · have key : ∀ n, (∃ i, i ≤ n ∧ ∃ c, z.cps.toList[i]? = some c ∧ (¬ SgnOk c ∨ c ∈ z.cps.toList.take i)) → ∃ i, WSign z i := fun n => by
      induction n with
      | zero =>
        rintro ⟨i, hi, c, hc, b⟩
        exact ⟨i, ⟨c, hc, b⟩, fun j d hj => by omega⟩
      | succ n ih =>
        rintro ⟨i, hi, c, hc, b⟩
        by_cases e : ∃ i, i ≤ n ∧ ∃ c, z.cps.toList[i]? = some c ∧ (¬ SgnOk c ∨ c ∈ z.cps.toList.take i)
        · exact ih e
        · refine ⟨i, ⟨c, hc, b⟩, fun j d hj hd => ?_⟩
          have no : ¬ (¬ SgnOk d ∨ d ∈ z.cps.toList.take j) := fun x => e ⟨j, by omega, d, hd, x⟩
          exact ⟨Classical.byContradiction fun x => no (.inl x), fun x => no (.inr x)⟩
    obtain ⟨i, hi⟩ := h
    exact .inr (key i ⟨i, Nat.le_refl _, hi⟩)
  · refine .inl (signs_ok_of fun j d hd => ?_)
    have no : ¬ (¬ SgnOk d ∨ d ∈ z.cps.toList.take j) := fun x => h ⟨j, d, hd, x⟩
    exact ⟨Classical.byContradiction fun x => no (.inl x), fun x => no (.inr x)⟩
end Jr
namespace Jr
open PySem PySem.Spec PyProof.Rows L2
/-! ### what makes no grammar -/
def StV (K : PySem.W.Frag) (H : Hp) (m : Nat) (u : V) : Option Nat → Prop
  | some n => u = .int (n : Nat) ∧ n < m
  | none => NoPl K H u ((m : Int) - 1)
def SgV (K : PySem.W.Frag) (H : Hp) (u : V) : Option Nat → Prop
  | some c => u = .str (sgn c) ∧ 32 ≤ c ∧ c ≤ 126 ∧ c ≠ 37
  | none => NoStr K H u ∨ ∃ t, u = .str t ∧ t.length ≤ 100000 ∧ ∀ c, t = sgn c → ¬ (32 ≤ c ∧ c ≤ 126 ∧ c ≠ 37)
/-- what a thing is as a way -/
def WyV (K : PySem.W.Frag) (H : Hp) (m : Nat) (v : V) : Option (Nat × Nat × Nat) → Prop
  | some w => ∃ a, v = .ref a ∧ WayAt H a w ∧ w.1 < m ∧ w.2.2 < m ∧ 32 ≤ w.2.1 ∧ w.2.1 ≤ 126 ∧ w.2.1 ≠ 37
  | none => NoTup K H v ∨ ∃ a us, v = .ref a ∧ H a = some (.tup us) ∧ us.length ≤ 1000 ∧ (us.length ≠ 3 ∨ ∃ u1 u2 u3 o1 o2 o3, us = [u1, u2, u3] ∧ StV K H m u1 o1 ∧ SgV K H u2 o2 ∧ StV K H m u3 o3 ∧ (o1 = none ∨ o2 = none ∨ o3 = none))
def okWay (ws : Gws) : Option (Nat × Nat × Nat) → Bool
  | some w => (wayTo ws w.1 w.2.1).isNone
  | none => false
section
variable {K : PySem.W.Frag} {H H' : Hp}
theorem StV.same {m : Nat} {u : V} {o : Option Nat} (h : StV K H m u o) (s : Same H H') : StV K H' m u o := by
  cases o with
  | some n => exact h
  | none => exact NoPl.same h s
theorem SgV.same {u : V} {o : Option Nat} (h : SgV K H u o) (s : Same H H') : SgV K H' u o := by
  cases o with
  | some n => exact h
  | none => exact Or.imp (fun h => NoStr.same h s) id h
theorem WyV.same {m : Nat} {v : V} {o : Option (Nat × Nat × Nat)} (h : WyV K H m v o) (s : Same H H') : WyV K H' m v o := by
  cases o with
  | some w => obtain ⟨a, e, hw, r⟩ := h; exact ⟨a, e, s _ _ hw, r⟩
  | none =>
    rcases h with h | ⟨a, us, e, hA, ul, h⟩
    · exact .inl (h.same s)
    · refine .inr ⟨a, us, e, s _ _ hA, ul, ?_⟩
      rcases h with h | ⟨u1, u2, u3, o1, o2, o3, e2, h1, h2, h3, h4⟩
      · exact .inl h
      · exact .inr ⟨u1, u2, u3, o1, o2, o3, e2, h1.same s, h2.same s, h3.same s, h4⟩
end
structure GOkW (m : Nat) (ws : Gws) : Prop where
  len : ws.length ≤ 48
  way : ∀ w ∈ ws, w.1 < m ∧ w.2.2 < m ∧ 32 ≤ w.2.1 ∧ w.2.1 ≤ 126 ∧ w.2.1 ≠ 37
  new : ∀ (i : Nat) (w : Nat × Nat × Nat), ws[i]? = some w → wayTo (ws.take i) w.1 w.2.1 = none
/-- the list us: its first things are the ways ws; the next one, if there is one, may not stand -/
structure WaysTo (K : PySem.W.Frag) (H : Hp) (m : Nat) (us : List V) (ws : Gws) : Prop where
  pre : ∀ (i : Nat) (w : Nat × Nat × Nat), ws[i]? = some w → ∃ v, us[i]? = some v ∧ WyV K H m v (some w)
  le : ws.length ≤ us.length
  ok : GOkW m ws
  nx : ∀ v, us[ws.length]? = some v → ∃ o, WyV K H m v o ∧ okWay ws o = false
theorem WaysTo.same {K : PySem.W.Frag} {H H' : Hp} {m : Nat} {us : List V} {ws : Gws} (h : WaysTo K H m us ws) (s : Same H H') : WaysTo K H' m us ws :=
  ⟨fun i w e => let ⟨v, a, b⟩ := h.pre i w e; ⟨v, a, b.same s⟩, h.le, h.ok, fun v e => let ⟨o, a, b⟩ := h.nx v e; ⟨o, a.same s, b⟩⟩
def WWays (K : PySem.W.Frag) (H : Hp) (m : Nat) (wv u : V) : Prop := (NoLst K H wv ∧ u = .non) ∨ (∃ a us, wv = .ref a ∧ H a = some (.lst us) ∧ us.length ≤ 1000 ∧ 48 < us.length ∧ u = .non) ∨
  ∃ a us ws, wv = .ref a ∧ H a = some (.lst us) ∧ us.length ≤ 48 ∧ WaysTo K H m us ws ∧ ws.length < us.length ∧ u = .int (ws.length : Nat)
/-- the list us: its first things are the ends es; the next one may not stand -/
structure EndsTo (K : PySem.W.Frag) (H : Hp) (m : Nat) (us : List V) (es : List Nat) : Prop where
  pre : ∀ (i e : Nat), es[i]? = some e → us[i]? = some (V.int (e : Nat))
  le : es.length ≤ us.length
  lt : ∀ e ∈ es, e < m
  nd : es.Nodup
  nx : ∀ v, us[es.length]? = some v → NoPl K H v ((m : Int) - 1) ∨ ∃ e : Nat, v = .int (e : Nat) ∧ e < m ∧ e ∈ es
theorem EndsTo.same {K : PySem.W.Frag} {H H' : Hp} {m : Nat} {us : List V} {es : List Nat} (h : EndsTo K H m us es) (s : Same H H') : EndsTo K H' m us es :=
  ⟨h.pre, h.le, h.lt, h.nd, fun v e => (h.nx v e).imp (fun n => n.same s) id⟩
def WEnds (K : PySem.W.Frag) (H : Hp) (m : Nat) (ev u : V) : Prop := (NoLst K H ev ∧ u = .non) ∨
  ∃ a us es, ev = .ref a ∧ H a = some (.lst us) ∧ us.length ≤ 1000 ∧ EndsTo K H m us es ∧ es.length < us.length ∧ u = .int (es.length : Nat)
/-- what is wrong with a number of states, ways and ends -/
def WGram (K : PySem.W.Frag) (H : Hp) (mv wv ev : V) (part : Str) (u : V) : Prop :=
  (part = Str.ofString "many" ∧ (NoPl K H mv 4 ∨ mv = .int 0) ∧ u = .non) ∨ ∃ m : Nat, mv = .int (m : Nat) ∧ 1 ≤ m ∧ m ≤ 4 ∧
    ((part = Str.ofString "ways" ∧ WWays K H m wv u) ∨ ∃ a us ws, wv = .ref a ∧ H a = some (.lst us) ∧ WaysTo K H m us ws ∧ ws.length = us.length ∧ part = Str.ofString "ends" ∧ WEnds K H m ev u)
theorem WWays.same {K : PySem.W.Frag} {H H' : Hp} {m : Nat} {wv u : V} (h : WWays K H m wv u) (s : Same H H') : WWays K H' m wv u := by
  rcases h with ⟨h, e⟩ | ⟨a, us, e, hA, h⟩ | ⟨a, us, ws, e, hA, ul, wt, h⟩
  · exact .inl ⟨h.same s, e⟩
  · exact .inr (.inl ⟨a, us, e, s _ _ hA, h⟩)
  · exact .inr (.inr ⟨a, us, ws, e, s _ _ hA, ul, wt.same s, h⟩)
theorem WEnds.same {K : PySem.W.Frag} {H H' : Hp} {m : Nat} {ev u : V} (h : WEnds K H m ev u) (s : Same H H') : WEnds K H' m ev u := by
  rcases h with ⟨h, e⟩ | ⟨a, us, es, e, hA, ul, wt, h⟩
  · exact .inl ⟨h.same s, e⟩
  · exact .inr ⟨a, us, es, e, s _ _ hA, ul, wt.same s, h⟩
theorem ways_to {K : PySem.W.Frag} {H : Hp} {p : Addr} {m : Nat} {ws : Gws} (h : WaysAt H p ws) (ok : GOkW m ws) : ∃ us, H p = some (.lst us) ∧ us.length = ws.length ∧ WaysTo K H m us ws := by
  obtain ⟨as, hp, hts⟩ := h
  have al := Paired.len hts
  refine ⟨_, hp, by rw [List.length_map, al], fun i w hw => ?_, by rw [List.length_map, al]; exact Nat.le_refl _, ok, fun v hv => ?_⟩
  · obtain ⟨a, ha, hta⟩ := Paired.get2 hts hw
    exact ⟨.ref a, by rw [List.getElem?_map, ha]; rfl, a, rfl, hta, ok.way w (List.mem_of_getElem? hw)⟩
  · rw [List.getElem?_eq_none (by rw [List.length_map, al]; exact Nat.le_refl _)] at hv
    cases hv
theorem ends_to {K : PySem.W.Frag} {H : Hp} {m : Nat} {es : List Nat} (h1 : ∀ e ∈ es, e < m) (h2 : es.Nodup) : EndsTo K H m (es.map fun e : Nat => V.int (e : Nat)) es :=
  ⟨fun i e h => by rw [List.getElem?_map, h]; rfl, by rw [List.length_map]; exact Nat.le_refl _, h1, h2, fun v hv => by
    rw [List.getElem?_eq_none (by rw [List.length_map]; exact Nat.le_refl _)] at hv
    cases hv⟩
theorem GOkW.snoc {m : Nat} {ws : Gws} {i : Nat} {w : Nat × Nat × Nat} (hi : ws[i]? = some w) : ws.take (i + 1) = ws.take i ++ [w] := by rw [List.take_add_one, hi]; rfl
end Jr
namespace Jr
open PySem PySem.Spec PyProof.Rows L2
section
variable {P : Program} {w : World} {K : PySem.W.Frag} {mg : Str → Option Value} {base : Heap}
def spMayBe : Sp := fun vs H Q _ => ∃ c : Nat, vs = [.str (sgn c)] ∧ Q (.bl (decide (32 ≤ c ∧ c ≤ 126 ∧ c ≠ 37))) H
theorem cal_may_be_sign (T : Tx K mg) : Cal P w K mg base CX0 1 "may_be_sign" spMayBe := by
  obtain ⟨fd, F⟩ := T.d_may_be_sign
  refine ⟨_, fd, P_may_be_sign, F.ok sc_may_be_sign (fun vs H Q E h => ?_) (fun cdv A outer s H vs Q E hr h => ?_), T.g_may_be_sign, F.kp, F.bindsN (ps := P_may_be_sign) fun _ _ _ _ _ _ us hl => match us, hl with | [_], _ => rfl⟩
  · obtain ⟨c, rfl, _⟩ := h
    rfl
  · obtain ⟨c, rfl, k⟩ := h
    refine ⟨_, (PSs.nox (pss_cons (ps_set (i := 1) sc_may_be_sign.nd rfl (Or.inl rfl) (pe_callB (id := "ord") call_ord (by rfl) T.n_ord (by decide +kernel) (pa_cons (pv 0) pa_nil)))
      (pss_one (ps_ret (pe_and (pe_chain op_le op_le (pe_glob (v := .int 32) (by rfl) T.c_BLANK_CODE.choose_spec ⟨_, rfl⟩) (pv 1) (pe_glob (v := .int 126) (by rfl) T.c_TILDE_CODE.choose_spec ⟨_, rfl⟩)) (pe_one (pe_cmpR op_ne (pv 1) (pe_glob (v := .int 37) (by rfl) T.c_PERCENT_CODE.choose_spec ⟨_, rfl⟩) (nomark _)))))))), ?_⟩
    refine ⟨_, rfl, _, rfl, rfl, ?_⟩
    have ec : (((sgn c).cps.getD 0 0 : Nat) : Int) = (c : Int) := rfl
    rw [ec]
    refine ⟨_, rfl, _, _, rfl, rfl, _, rfl, ite2 (fun c1 => ⟨_, _, rfl, rfl, _, rfl, ite2 (fun c2 => ⟨_, rfl, rfl, ?_⟩) (fun c2 => ?_)⟩) (fun c1 => ⟨_, rfl, iteF ?_⟩)⟩
    · have h1 : (32 : Int) ≤ c := of_decide_eq_true c1
      have h2 : (c : Int) ≤ 126 := of_decide_eq_true c2
      have e : (!decide (V.int (c : Int) = V.int 37)) = decide (32 ≤ c ∧ c ≤ 126 ∧ c ≠ 37) := by
        by_cases h3 : c = 37
        · subst h3; decide
        · have h4 : ¬ V.int (c : Int) = V.int 37 := fun z => h3 (by have := V.int.inj z; omega)
          rw [decide_eq_false h4, decide_eq_true ⟨by omega, by omega, h3⟩]; rfl
      show Q (V.bl (!decide (V.int (c : Int) = V.int 37))) H
      rw [e]
      exact k
    · have h2 : ¬ (c : Int) ≤ 126 := of_decide_eq_false (by simpa using c2)
      have e : decide (32 ≤ c ∧ c ≤ 126 ∧ c ≠ 37) = false := decide_eq_false (by omega)
      rw [e] at k
      exact k
    · have h1 : ¬ (32 : Int) ≤ c := of_decide_eq_false (by simpa using c1)
      have e : decide (32 ≤ c ∧ c ≤ 126 ∧ c ≠ 37) = false := decide_eq_false (by omega)
      rw [e] at k
      exact k
end
end Jr
namespace Jr
open PySem PySem.Spec PyProof.Rows L2
/-- raised with two fields -/
def Rz2 (C : Addr) (f g : Str) (v u : V) (H : Hp) (E : XK) : Prop := ∀ H' d, Same H H' → H d = none → H' d = some (.xd [(g, u), (f, v)]) → E (.ref C) (some d) H'
theorem Rz2.same {C : Addr} {f g : Str} {v u : V} {H H1 : Hp} {E : XK} (h : Rz2 C f g v u H E) (s : Same H H1) : Rz2 C f g v u H1 E := fun H' d s1 n e => h H' d (s.trans s1) (s.free n) e
theorem Rz2.now {C : Addr} {f g : Str} {v u : V} {H : Hp} {E : XK} (h : Rz2 C f g v u H E) : ∀ d, H d = none → E (.ref C) (some d) (upd H d (.xd [(g, u), (f, v)])) := fun d n => h _ d (Same.new n) n upd_same
end Jr
namespace Jr
open PySem PySem.Spec PyProof.Rows L2
theorem len2 {s y : Str} {n m : Nat} (h : s.length ≤ n) (hy : y.length ≤ m) : (s ++ y).length ≤ n + m := by rw [app_len]; omega
section
variable {P : Program} {w : World} {K : PySem.W.Frag} {mg : Str → Option Value} {base : Heap}
def spJE (K : PySem.W.Frag) : Sp := fun vs H Q _ => ∃ (a C : Addr) (v : V), vs = [.ref a, v] ∧ OexC K C ∧ H a = some (exo a C none) ∧ Q .non H
theorem cdf_JoinError (T : Tx K mg) : Cdf P w K mg base 1 "JoinError" (He.ga K "JoinError") "__init__" (spJE K) := by
  obtain ⟨fd, F⟩ := T.d_JoinError___init__
  refine ⟨⟨_, fd, P_JoinError___init__, F.ok sc_JoinError___init__ (fun vs H Q E h => ?_) (fun cdv A outer s H vs Q E hr h => ?_), T.rd_JoinError, T.ga_JoinError, T.fc_JoinError, F.kp,
    F.bindsN (ps := P_JoinError___init__) fun _ _ _ _ _ _ us hl => match us, hl with | [_, _], _ => rfl⟩, T.g_JoinError⟩
  · obtain ⟨a, C, v, rfl, _⟩ := h
    rfl
  · obtain ⟨a, C, v, rfl, ox, ha, k⟩ := h
    refine ⟨_, (PSs.nox (pss_one (ps_expr (pe_veinit (by rfl) T.n_ValueError (vV _) (pa_cons (pv 0) (pa_cons (pv 1) pa_nil)))))), ?_⟩
    exact ⟨_, rfl, _, rfl, a, C, [v], rfl, (by show 1 ≤ 1000; decide), ox, ha, k⟩
end
end Jr
namespace Jr
open PySem PySem.Spec PyProof.Rows L2
section
variable {P : Program} {w : World} {K : PySem.W.Frag} {mg : Str → Option Value} {base : Heap}
theorem exk_NoGrammar (T : Tx K mg) : Exk P w K mg base 2 "NoGrammar" (He.ga K "NoGrammar") (spX2 (He.ga K "NoGrammar") "part" "number") := by
  have D_JoinError___init__ := cdf_JoinError (P := P) (w := w) (base := base) T
  obtain ⟨fd, F⟩ := T.d_NoGrammar___init__
  refine ⟨⟨_, fd, P_NoGrammar___init__, F.ok sc_NoGrammar___init__ (fun vs H Q E h => ?_) (fun cdv A outer s H vs Q E hr h => ?_), T.in_NoGrammar, T.it_NoGrammar,
    F.bindsN (ps := P_NoGrammar___init__) fun _ _ _ _ _ _ us hl => match us, hl with | [_, _, _], _ => rfl⟩, T.xc_NoGrammar, T.g_NoGrammar⟩
  · obtain ⟨a, v, u, rfl, _⟩ := h
    rfl
  · obtain ⟨a, v, u, rfl, fv, fu, ha, k⟩ := h
    refine ⟨_, (PSs.nox (pss_cons (ps_expr (pe_cdef D_JoinError___init__ (by first | exact hr | exact hr.mono (by decide)) (by rfl) (pa_cons (pv 0) (pa_cons (pe_joined (.cons pe_str (.cons (pe_fmtN (pv 1)) (.cons pe_str (.cons (pe_fmtN (pv 2)) .nil))))) pa_nil))))
      (pss_cons (ps_ost (pv 0) (pv 1))
      (pss_one (ps_ost (pv 0) (pv 2)))))), ?_⟩
    refine ⟨_, rfl, _, rfl, (by decide +kernel), _, rfl, fv, fun y hy => ?_⟩
    have l1 := len2 (s := Str.empty ++ (Str.ofString "no grammar: ")) (n := 100) (by decide +kernel) hy
    have l2 := len2 l1 (show (Str.ofString ", ").length ≤ 10 by decide +kernel)
    refine ⟨y, rfl, sz (by omega), _, rfl, sz (by omega), _, rfl, fu, fun y2 hy2 => ?_⟩
    have l3 := len2 l2 hy2
    refine ⟨y2, rfl, sz (by omega), a, _, _, rfl, T.xc_NoGrammar.oex, ha, ?_⟩
    refine ⟨_, rfl, _, rfl, a, _, rfl, T.xc_NoGrammar.oex, T.no_NoGrammar_part, .inl ⟨ha, fun d nd ne => ?_⟩⟩
    refine ⟨_, rfl, _, rfl, a, _, rfl, T.xc_NoGrammar.oex, T.no_NoGrammar_number, .inr ⟨d, _, upd_same, ?_, (by show 1 ≤ 900; decide), k d nd ne⟩⟩
    rw [upd_ne ne, upd_same]
end
end Jr
namespace Jr
open PySem PySem.Spec PyProof.Rows L2
/-! ### lists of flat things: == -/
def fdV : V → PyData
  | .bl b => .bool b
  | .int i => .int i
  | .str s => .str s
  | _ => .none
def Fl : V → Prop
  | .non => True
  | .bl _ => True
  | .int _ => True
  | .str s => Asc s
  | _ => False
section
variable {K : PySem.W.Frag} {H : Hp}
theorem dpFl {v : V} (h : Fl v) : Dp K H v (fdV v) := by
  cases v with
  | non => exact .non
  | bl b => exact .bl b
  | int i => exact .int i
  | str s => exact .str s
  | _ => exact h.elim
theorem dpAFl : ∀ {xs : List V}, (∀ x ∈ xs, Fl x) → DpAll K H xs (xs.map fdV)
  | [], _ => .nil
  | x :: xs, h => .cons (dpFl (h x List.mem_cons_self)) (dpAFl fun y hy => h y (List.mem_cons_of_mem _ hy))
theorem dpL {a : Addr} {xs : List V} (h : SqL K H a xs) (f : ∀ x ∈ xs, Fl x) : Dp K H (.ref a) (.list (xs.map fdV)) := .lst h (dpAFl f)
theorem dpT {a : Addr} {xs : List V} (h : SqT K H a xs) (f : ∀ x ∈ xs, Fl x) : Dp K H (.ref a) (.tuple (xs.map fdV)) := .tup h (dpAFl f)
end
theorem lay_fl {v : V} (h : Fl v) : PyData.canLay0 (fdV v) = true := by
  cases v with
  | str s => exact asc_ok h
  | non => rfl
  | bl b => rfl
  | int i => rfl
  | _ => exact h.elim
theorem layA_fl : ∀ {xs : List V}, (∀ x ∈ xs, Fl x) → PyData.canLayAll0 (xs.map fdV) = true
  | [], _ => by simp [PyData.canLayAll0]
  | x :: xs, h => by
    have h1 := lay_fl (h x List.mem_cons_self)
    have h2 := layA_fl fun y hy => h y (List.mem_cons_of_mem _ hy)
    simp [PyData.canLayAll0, h1, h2]
theorem dep_fl (v : V) : PyData.depth (fdV v) = 0 := by cases v <;> rfl
theorem depA_fl : ∀ xs : List V, PyData.depthAll (xs.map fdV) = 0
  | [] => by simp [PyData.depthAll]
  | x :: xs => by simp [PyData.depthAll, dep_fl, depA_fl xs]
theorem shL {xs : List V} (h : ∀ x ∈ xs, Fl x) : SeqAt.shaped (.list (xs.map fdV)) = true := by
  unfold SeqAt.shaped
  have h1 : PyData.canLay0 (.list (xs.map fdV)) = true := by simp [PyData.canLay0, layA_fl h]
  have h2 : PyData.depth (.list (xs.map fdV)) = 1 := by simp [PyData.depth, depA_fl]
  rw [h1, h2]; rfl
theorem shT {xs : List V} (h : ∀ x ∈ xs, Fl x) : SeqAt.shaped (.tuple (xs.map fdV)) = true := by
  unfold SeqAt.shaped
  have h1 : PyData.canLay0 (.tuple (xs.map fdV)) = true := by simp [PyData.canLay0, layA_fl h]
  have h2 : PyData.depth (.tuple (xs.map fdV)) = 1 := by simp [PyData.depth, depA_fl]
  rw [h1, h2]; rfl
theorem eqL {xs : List V} (h : ∀ x ∈ xs, Fl x) : PyData.eqv (.list (xs.map fdV)) (.list (xs.map fdV)) = true := SeqAt.eqv_refl _ (by simp [PyData.canLay0, layA_fl h])
theorem eqT {xs : List V} (h : ∀ x ∈ xs, Fl x) : PyData.eqv (.tuple (xs.map fdV)) (.tuple (xs.map fdV)) = true := SeqAt.eqv_refl _ (by simp [PyData.canLay0, layA_fl h])
/-! ### comprehensions over enumerate(text) -/
section
variable {g : TG} {tt : TT} {te : TE} {vs : List Nat} {σ : L2.St} {H1 : Hp} {D : Addr} {Qd : Hp → Prop}
def enL (x : Str) (p : Nat → Nat → Bool) (f : Nat → Nat → V) (n : Nat) : List V := ((x.cps.toList.zipIdx.take n).filter fun q => p q.2 q.1).map fun q => f q.2 q.1
theorem lc_enumSM {x : Str} {p : Nat → Nat → Bool} {f : Nat → Nat → V} (hD : H1 D = none) (hlen : x.cps.toList.length ≤ 100000)
    (turn : ∀ i c, x.cps.toList[i]? = some c → ∀ (H' : Hp) (T : Addr), Same H1 H' → H' T = some (.tup [.int (i : Nat), .str (sgn c)]) → ∀ (N : Hp → Prop) (M : V → Hp → Prop), (p i c = true → M (f i c) H') → (p i c = false → N H') →
      g (.ref T) (wipe σ vs) H' fun σ2 H2 => wipe σ2 vs = wipe σ vs ∧ tt σ2 H2 fun b H3 => if b = true then te σ2 H3 M else N H3)
    (hd : ∀ H, Same H1 H → H D = some (.lst (enL x p f x.cps.toList.length)) → Qd H) :
    ∃ W : Nat → Nat → Hp → Prop, (∃ m, W 0 m (upd H1 D (.lst []))) ∧ ∀ i m H, W i m H →
      ((Ites x).stop i H ∧ Qd H) ∨ ((Ites x).go i H ∧ ∃ Nx : Hp → Prop, (∀ H', Nx H' → ∃ m', m' < m ∧ W (i + 1) m' H') ∧ ∀ y H', (Ites x).yld i H y H' → g y (wipe σ vs) H' fun σ2 H2 => wipe σ2 vs = wipe σ vs ∧ tt σ2 H2 fun b H3 =>
        if b = true then te σ2 H3 fun y H4 => ∃ acc, H4 D = some (.lst acc) ∧ acc.length < sizeLine ∧ Nx (upd H4 D (.lst (acc ++ [y]))) else Nx H3) := by
  have es : x.cps.toList.length = x.cps.size := by simp
  refine ⟨fun i m H => m = x.cps.size - i ∧ i ≤ x.cps.size ∧ Same H1 H ∧ H D = some (.lst (enL x p f i)), ⟨x.cps.size, by simp, Nat.zero_le _, Same.new hD, upd_same⟩, ?_⟩
  rintro i m H ⟨rfl, hi, sm, hL⟩
  by_cases hlt : i < x.cps.size
  · refine .inr ⟨hlt, (fun H' => Same H1 H' ∧ H' D = some (.lst (enL x p f (i + 1)))), fun H' p' => ⟨x.cps.size - (i + 1), by omega, rfl, hlt, p'⟩, fun y H' z => ?_⟩
    obtain ⟨T, c, rfl, hT, hc, rfl⟩ := z
    have hc' : x.cps.toList[i]? = some c := by rw [Array.getElem?_toList]; exact hc
    have hz : x.cps.toList.zipIdx[i]? = some (c, i) := by rw [List.getElem?_zipIdx, hc']; simp
    have e : x.cps.toList.zipIdx.take (i + 1) = x.cps.toList.zipIdx.take i ++ [(c, i)] := by rw [List.take_add_one, hz]; rfl
    have tD : T ≠ D := fun z => by rw [z, hL] at hT; cases hT
    have hL2 := Same.new (o := .tup [.int (i : Nat), .str (sgn c)]) hT _ _ hL
    refine turn i c hc' _ T (Same.put sm hT) upd_same _ _ (fun hp => ⟨_, hL2, ?_, Same.mut (Same.put sm hT) hD, ?_⟩) (fun hp => ⟨Same.put sm hT, ?_⟩)
    · unfold enL
      have h1 : ((x.cps.toList.zipIdx.take i).filter fun q => p q.2 q.1).length ≤ (x.cps.toList.zipIdx.take i).length := List.length_filter_le ..
      have h2 : (x.cps.toList.zipIdx.take i).length ≤ i := by rw [List.length_take]; omega
      rw [List.length_map]
      exact szl (by omega)
    · rw [upd_same]
      unfold enL
      rw [e, List.filter_append, List.map_append]
      simp [hp]
    · rw [hL2]
      unfold enL
      rw [e, List.filter_append, List.map_append]
      simp [hp]
  · have e : i = x.cps.size := by omega
    subst e
    exact .inl ⟨Nat.le_refl _, hd H sm (by rw [es]; exact hL)⟩
theorem enL_first (x : Str) (P : Nat → Bool) : (enL x (fun _ c => P c) (fun i _ => V.int (i : Nat)) x.cps.toList.length).take 1 = (x.cps.toList.findIdx? P).toList.map fun i => V.int (i : Nat) := by
  unfold enL
  have e0 : x.cps.toList.zipIdx.take x.cps.toList.length = x.cps.toList.zipIdx := List.take_of_length_le (by rw [List.length_zipIdx]; exact Nat.le_refl _)
  rw [e0]
  have key : ∀ (l : List Nat) (k : Nat), (((l.zipIdx k).filter fun q => P q.1).map fun q => V.int ((q.2 : Nat) : Int)).take 1 = (l.findIdx? P).toList.map fun i => V.int ((i + k : Nat) : Int) := fun l => by
    induction l with
    | nil => intro k; rfl
    | cons c l ih =>
      intro k
      rw [List.zipIdx_cons, List.filter_cons, List.findIdx?_cons]
      by_cases h : P c = true
      · rw [if_pos h, if_pos h]
        simp
      · rw [if_neg h, if_neg h, ih (k + 1)]
        cases l.findIdx? P with
        | none => rfl
        | some j =>
          show [V.int ((j + (k + 1) : Nat) : Int)] = [V.int ((j + 1 + k : Nat) : Int)]
          rw [show j + (k + 1) = j + 1 + k by omega]
  have := key x.cps.toList 0
  simpa using this
end
end Jr
namespace Jr
open PySem PySem.Spec PyProof.Rows L2
abbrev GC (K : PySem.W.Frag) : Addr := He.ga K "Grammar"
abbrev CGram (K : PySem.W.Frag) : Addr := He.ga K "NoGrammar"
theorem inV_natG (n : Nat) (ns : List Nat) : inV (.int (n : Int)) (ns.map fun n : Nat => V.int (n : Int)) = decide (n ∈ ns) := by
  unfold inV
  rw [List.any_map]
  by_cases h : n ∈ ns
  · rw [decide_eq_true h, List.any_eq_true]
    exact ⟨n, h, by simp [eqV]⟩
  · rw [decide_eq_false h, List.any_eq_false]
    intro k hk hh
    have : eqV (V.int (k : Int)) (V.int (n : Int)) = true := hh
    have e2 : (k : Int) = (n : Int) := by simpa [eqV] using this
    rw [← Int.ofNat.inj e2] at h
    exact h hk
/-- a grammar that is being made -/
structure GMid (K : PySem.W.Frag) (H0 H : Hp) (x dx : Addr) (m : Nat) (lw dw le : Addr) (as : List Addr) (ws : Gws) (es : List Nat) : Prop where
  hx : H x = some (.ins (GC K) dx (gf m lw dw le))
  hlw : H lw = some (.lst (as.map V.ref))
  hts : Paired (WayAt H) as ws
  hdw : H dw = some (.dT (wayD ws))
  hle : H le = some (.lst (es.map fun e : Nat => V.int (e : Nat)))
  sm : Same H0 H
  fra : ∀ a ∈ as, H0 a = none
structure GFre (H0 : Hp) (x lw dw le : Addr) : Prop where
  fx : H0 x = none
  flw : H0 lw = none
  fdw : H0 dw = none
  fle : H0 le = none
  wl : lw ≠ le
theorem GMid.step {K : PySem.W.Frag} {H0 H H' : Hp} {x dx : Addr} {m : Nat} {lw dw le : Addr} {as : List Addr} {ws : Gws} {es : List Nat} (M : GMid K H0 H x dx m lw dw le as ws es) (s : Same H H') : GMid K H0 H' x dx m lw dw le as ws es :=
  ⟨s _ _ M.hx, s _ _ M.hlw, WayAt.same s M.hts, s _ _ M.hdw, s _ _ M.hle, M.sm.trans s, M.fra⟩
section
variable {P : Program} {w : World} {K : PySem.W.Frag} {mg : Str → Option Value} {base : Heap}
def spIsState (K : PySem.W.Frag) : Sp := fun vs H Q _ => ∃ (x dx : Addr) (m : Nat) (lw dw le : Addr) (v : V), vs = [.ref x, v] ∧ H x = some (.ins (GC K) dx (gf m lw dw le)) ∧ 1 ≤ m ∧ m ≤ 4 ∧ ((∃ n : Nat, v = .int (n : Nat) ∧ n < m ∧ Q (.bl true) H) ∨ (NoPl K H v ((m : Int) - 1) ∧ Q (.bl false) H))
theorem met_is_state (T : Tx K mg) : Met P w K mg base CX0 3 (GC K) "is_state" (spIsState K) := by
  have C_is_up_to := calU_is_up_to (P := P) (w := w) (base := base) T
  obtain ⟨fd, F⟩ := T.d_Grammar_is_state
  refine ⟨T.cl_Grammar, _, fd, P_Grammar_is_state, F.ok sc_Grammar_is_state (fun vs H Q E h => ?_) (fun cdv A outer s H vs Q E hr h => ?_), T.m_Grammar_is_state, F.bindsN (ps := P_Grammar_is_state) fun _ _ _ _ _ _ us hl => match us, hl with | [_, _], _ => rfl⟩
  · obtain ⟨x, dx, m, lw, dw, le, v, rfl, _⟩ := h
    rfl
  · obtain ⟨x, dx, m, lw, dw, le, v, rfl, hx, m1, m4, h⟩ := h
    refine ⟨_, (PSs.nox (pss_one (ps_ret (pe_cal C_is_up_to (by first | exact hr | exact hr.mono (by decide)) (by rfl) (pa_cons (pv 1) (pa_cons (pe_op op_sub (pe_fld (pv 0) rfl) pe_int) pa_nil)))))), ?_⟩
    refine ⟨_, rfl, _, rfl, x, _, dx, _, _, rfl, hx, T.cl_Grammar, T.no_Grammar_state_count, gf_c _ _ _ _, _, _, rfl, rfl, v, _, rfl, ?_⟩
    rcases h with ⟨n, rfl, hn, k⟩ | ⟨np, k⟩
    · exact .inl ⟨n, rfl, by omega, by omega, k⟩
    · exact .inr ⟨np, k⟩
def spMayWay (K : PySem.W.Frag) : Sp := fun vs H Q _ => ∃ (x dx : Addr) (m : Nat) (lw dw le : Addr) (ws : Gws) (v : V) (o : Option (Nat × Nat × Nat)), vs = [.ref x, v] ∧ H x = some (.ins (GC K) dx (gf m lw dw le)) ∧ H dw = some (.dT (wayD ws)) ∧ 1 ≤ m ∧ m ≤ 4 ∧ WyV K H m v o ∧ ∀ H', Same H H' → Q (.bl (okWay ws o)) H'
theorem met_may_take_way (T : Tx K mg) : Met P w K mg base CX0 4 (GC K) "may_take_way" (spMayWay K) := by
  have M_Grammar_is_state := met_is_state (P := P) (w := w) (base := base) T
  have C_may_be_sign := cal_may_be_sign (P := P) (w := w) (base := base) T
  obtain ⟨fd, F⟩ := T.d_Grammar_may_take_way
  refine ⟨T.cl_Grammar, _, fd, P_Grammar_may_take_way, F.ok sc_Grammar_may_take_way (fun vs H Q E h => ?_) (fun cdv A outer s H vs Q E hr h => ?_), T.m_Grammar_may_take_way, F.bindsN (ps := P_Grammar_may_take_way) fun _ _ _ _ _ _ us hl => match us, hl with | [_, _], _ => rfl⟩
  · obtain ⟨x, dx, m, lw, dw, le, ws, v, o, rfl, _⟩ := h
    rfl
  · obtain ⟨x, dx, m, lw, dw, le, ws, v, o, rfl, hx, hd, m1, m4, wy, k⟩ := h
    refine ⟨_, (PSs.nox (pss_cons (ps_if (PW.pt (pw_or (pt_not (pt_val (pe_callB (id := "isinstance") call_isi (by rfl) T.n_isinstance (by decide +kernel) (pa_cons (pv 1) (pa_cons (pe_bltn (v := .ty "tuple") (by rfl) T.n_tuple (by decide +kernel) rfl) pa_nil))))) (pw_or1 (pt_cmpR op_ne (pe_callB (id := "len") call_len_seq (by rfl) T.n_len (by decide +kernel) (pa_cons (pv 1) pa_nil)) pe_int (nomark _))))) (pss_one (ps_ret pe_bl)) pss_nil)
      (pss_cons (ps_asg (pv 1) (pg_tup rfl (pgs_cons (pg_name (i := 2) sc_Grammar_may_take_way.nd rfl (Or.inl rfl)) (pgs_cons (pg_name (i := 3) sc_Grammar_may_take_way.nd rfl (Or.inl rfl)) (pgs_cons (pg_name (i := 4) sc_Grammar_may_take_way.nd rfl (Or.inl rfl)) pgs_nil)))))
      (pss_cons (ps_if (PW.pt (pw_or (pt_not (pt_val (pe_met M_Grammar_is_state (pv 0) (by first | exact hr | exact hr.mono (by decide)) (pa_cons (pv 2) pa_nil)))) (pw_or1 (pt_not (pt_val (pe_met M_Grammar_is_state (pv 0) (by first | exact hr | exact hr.mono (by decide)) (pa_cons (pv 4) pa_nil))))))) (pss_one (ps_ret pe_bl)) pss_nil)
      (pss_cons (ps_if (PW.pt (pw_or (pt_not (pt_val (pe_callB (id := "isinstance") call_isi (by rfl) T.n_isinstance (by decide +kernel) (pa_cons (pv 3) (pa_cons (pe_bltn (v := .ty "str") (by rfl) T.n_str (by decide +kernel) rfl) pa_nil))))) (pw_or (pt_cmpR op_ne (pe_callB (id := "len") call_len_str (by rfl) T.n_len (by decide +kernel) (pa_cons (pv 3) pa_nil)) pe_int (nomark _)) (pw_or1 (pt_not (pt_val (pe_cal C_may_be_sign (by first | exact hr | exact hr.mono (by decide)) (by rfl) (pa_cons (pv 3) pa_nil)))))))) (pss_one (ps_ret pe_bl)) pss_nil)
      (pss_one (ps_ret (pe_cmp (pc_dnotin (hu_of hr) (pe_tupG (pa_cons (pv 2) (pa_cons (pv 3) pa_nil))) (pe_fld (pv 0) rfl)) rfl)))))))), ?_⟩
    have tri : (NoTup K H v ∧ okWay ws o = false) ∨ (∃ a us, v = .ref a ∧ H a = some (.tup us) ∧ us.length ≠ 3 ∧ us.length ≤ 1000 ∧ okWay ws o = false) ∨ ∃ a u1 u2 u3 o1 o2 o3, v = .ref a ∧ H a = some (.tup [u1, u2, u3]) ∧ StV K H m u1 o1 ∧ SgV K H u2 o2 ∧ StV K H m u3 o3 ∧
        ((o1 = none ∨ o2 = none ∨ o3 = none) → okWay ws o = false) ∧ ∀ n c t, o1 = some n → o2 = some c → o3 = some t → okWay ws o = (wayTo ws n c).isNone := by
      cases o with
      | some q =>
        obtain ⟨a, e, ha, h1, h2, h3⟩ := wy
        refine .inr (.inr ⟨a, _, _, _, some q.1, some q.2.1, some q.2.2, e, ha, ⟨rfl, h1⟩, ⟨rfl, h3⟩, ⟨rfl, h2⟩, fun z => ?_, fun n c t e1 e2 e3 => ?_⟩)
        · rcases z with z | z | z <;> cases z
        · cases e1; cases e2; rfl
      | none =>
        rcases wy with h | ⟨a, us, e, hA, ul, h | ⟨u1, u2, u3, o1, o2, o3, rfl, h1, h2, h3, h4⟩⟩
        · exact .inl ⟨h, rfl⟩
        · exact .inr (.inl ⟨a, us, e, hA, h, ul, rfl⟩)
        · refine .inr (.inr ⟨a, u1, u2, u3, o1, o2, o3, e, hA, h1, h2, h3, fun _ => rfl, fun n c t e1 e2 e3 => ?_⟩)
          rcases h4 with z | z | z
          · rw [z] at e1; cases e1
          · rw [z] at e2; cases e2
          · rw [z] at e3; cases e3
    rcases tri with ⟨⟨ty, hty, hk⟩, eo⟩ | ⟨a, us, rfl, hA, n3, ul, eo⟩ | ⟨a, u1, u2, u3, o1, o2, o3, rfl, hA, h1, h2, h3, hbad, hgood⟩
    · refine ⟨_, rfl, _, _, _, _, _, rfl, .ty "tuple", hty, hk, _, rfl, iteT ?_⟩
      have := k _ (Same.refl _)
      rw [eo] at this
      exact this
    · refine ⟨_, rfl, _, _, _, _, _, rfl, .ty "tuple", .base (.tup hA), isTup, _, rfl, iteF ⟨_, rfl, a, _, rfl, .inr (SqT.of hA), rfl, _, rfl, ?_⟩⟩
      have e : decide (V.int ((us.length : Nat) : Int) = V.int 3) = false := decide_eq_false fun e => n3 (by have := V.int.inj e; omega)
      rw [e]
      have := k _ (Same.refl _)
      rw [eo] at this
      exact iteT this
    · refine ⟨_, rfl, _, _, _, _, _, rfl, .ty "tuple", .base (.tup hA), isTup, _, rfl, iteF ⟨_, rfl, a, _, rfl, .inr (SqT.of hA), rfl, _, rfl, ?_⟩⟩
      have e : decide (V.int ((([u1, u2, u3] : List V).length : Nat) : Int) = V.int 3) = true := decide_eq_true rfl
      rw [e]
      refine iteF ⟨_, rfl, a, _, rfl, SqT.of hA, rfl, _, _, rfl, _, _, rfl, _, _, rfl, rfl, ?_⟩
      have kf : (o1 = none ∨ o2 = none ∨ o3 = none) → Q (.bl false) H := fun z => by
        have := k _ (Same.refl _)
        rw [hbad z] at this
        exact this
      refine ⟨_, rfl, x, dx, _, rfl, hx, gf_ms _ _ _ _, _, rfl, x, dx, m, lw, dw, le, _, rfl, hx, m1, m4, ?_⟩
      cases o1 with
      | none => exact .inr ⟨h1, _, rfl, iteT (kf (.inl rfl))⟩
      | some n =>
        refine .inl ⟨n, h1.1, h1.2, _, rfl, iteF ⟨_, rfl, x, dx, _, rfl, hx, gf_ms _ _ _ _, _, rfl, x, dx, m, lw, dw, le, _, rfl, hx, m1, m4, ?_⟩⟩
        cases o3 with
        | none => exact .inr ⟨h3, _, rfl, iteT (kf (.inr (.inr rfl)))⟩
        | some t =>
          refine .inl ⟨t, h3.1, h3.2, _, rfl, iteF ?_⟩
          cases o2 with
          | none =>
            have kb := kf (.inr (.inl rfl))
            rcases h2 with ⟨ty, hty, hk⟩ | ⟨tx, rfl, txl, nt⟩
            · exact ⟨_, rfl, _, _, _, _, _, rfl, .ty "str", hty, hk, _, rfl, iteT kb⟩
            · refine ⟨_, rfl, _, _, _, _, _, rfl, .ty "str", .base (.str tx), isStr, _, rfl, iteF ?_⟩
              refine ⟨_, rfl, tx, rfl, sz txl, rfl, _, rfl, ?_⟩
              by_cases l1 : tx.length = 1
              · have e1 : decide (V.int ((tx.length : Nat) : Int) = V.int 1) = true := decide_eq_true (by rw [l1]; rfl)
                rw [e1]
                obtain ⟨c, hc⟩ : ∃ c, tx = sgn c := by
                  have hl : tx.cps.toList.length = 1 := by rw [len_cps, l1]
                  obtain ⟨c, hc⟩ := List.length_eq_one_iff.mp hl
                  exact ⟨c, str_ext hc⟩
                subst hc
                refine iteF ⟨_, rfl, c, rfl, _, rfl, ?_⟩
                rw [decide_eq_false (nt c rfl)]
                exact iteT kb
              · have e1 : decide (V.int ((tx.length : Nat) : Int) = V.int 1) = false := decide_eq_false fun e => l1 (by have := V.int.inj e; omega)
                rw [e1]
                exact iteT (iteT kb)
          | some c =>
            obtain ⟨rfl, oc⟩ := h2
            obtain ⟨rfl, _⟩ := h1
            refine ⟨_, rfl, _, _, _, _, _, rfl, .ty "str", .base (.str _), isStr, _, rfl, iteF ?_⟩
            refine ⟨_, rfl, _, rfl, (by show 1 ≤ sizeLine; decide), rfl, _, rfl, ?_⟩
            have e1 : decide (V.int (((sgn c).length : Nat) : Int) = V.int 1) = true := decide_eq_true rfl
            rw [e1]
            refine iteF ⟨_, rfl, c, rfl, _, rfl, ?_⟩
            rw [decide_eq_true oc]
            refine iteF ⟨_, rfl, _, rfl, (by show 2 ≤ sizeLine; decide), fun tq H1 ntq s1 htq => ?_⟩
            refine ⟨_, rfl, x, _, dx, _, _, rfl, s1 _ _ hx, T.cl_Grammar, T.no_Grammar_state_by_way, gf_d _ _ _ _, dw, _, rfl, DGet.t (k := gky n c) (s1 _ _ hd) htq, ?_⟩
            have e2 := hgood n c t rfl rfl rfl
            have e3 : (!(valV (wayD ws) (gky n c)).isSome) = okWay ws o := by
              rw [e2, wayD_val, Option.isSome_map]
              cases wayTo ws n c <;> rfl
            have := k _ s1
            rw [← e3] at this
            exact this
theorem fmt_gpart {p : Str} (h : p = Str.ofString "many" ∨ p = Str.ofString "ways" ∨ p = Str.ofString "ends") : Fmt (.str p) := .inr (.inr ⟨p, rfl, by rcases h with h | h | h <;> rw [h] <;> decide +kernel⟩)
def spTakeWays (K : PySem.W.Frag) : Sp := fun vs H Q E => ∃ (H0 : Hp) (x dx : Addr) (m : Nat) (lw dw le : Addr) (wv : V), vs = [.ref x, wv] ∧ GMid K H0 H x dx m lw dw le [] [] [] ∧ GFre H0 x lw dw le ∧ 1 ≤ m ∧ m ≤ 4 ∧
  ((∃ u, WWays K H0 m wv u ∧ Rz2 (CGram K) "part" "number" (.str (Str.ofString "ways")) u H0 E) ∨ ∃ p us ws, wv = .ref p ∧ H0 p = some (.lst us) ∧ WaysTo K H0 m us ws ∧ ws.length = us.length ∧ ∀ H' as, GMid K H0 H' x dx m lw dw le as ws [] → Q .non H')
theorem metx_take_ways (T : Tx K mg) : Met P w K mg base (L2.CX P w) 5 (GC K) "take_ways" (spTakeWays K) := by
  have M_Grammar_may_take_way := met_may_take_way (P := P) (w := w) (base := base) T
  have E_NoGrammar := exk_NoGrammar (P := P) (w := w) (base := base) T
  obtain ⟨fd, F⟩ := T.d_Grammar_take_ways
  refine ⟨T.cl_Grammar, _, fd, P_Grammar_take_ways, F.ok sc_Grammar_take_ways (fun vs H Q E h => ?_) (fun cdv A outer s H vs Q E hr h => ?_), T.m_Grammar_take_ways, F.bindsN (ps := P_Grammar_take_ways) fun _ _ _ _ _ _ us hl => match us, hl with | [_, _], _ => rfl⟩
  · obtain ⟨H0, x, dx, m, lw, dw, le, wv, rfl, _⟩ := h
    rfl
  · obtain ⟨H0, x, dx, m, lw, dw, le, wv, rfl, M, fr, m1, m4, h⟩ := h
    refine ⟨_, (pss_cons (ps_if (PW.pt (pw_or (pt_not (pt_val (pe_callB (id := "isinstance") call_isi (by rfl) T.n_isinstance (by decide +kernel) (pa_cons (pv 1) (pa_cons (pe_bltn (v := .ty "list") (by rfl) T.n_list (by decide +kernel) rfl) pa_nil))))) (pw_or1 (pt_cmpR op_gt (pe_callB (id := "len") call_len_seq (by rfl) T.n_len (by decide +kernel) (pa_cons (pv 1) pa_nil)) (pe_glob (v := .int 48) (by rfl) T.c_MOST_WAYS.choose_spec ⟨_, rfl⟩) (nomark _))))) (pss_one (ps_raise rfl (takes_of rfl rfl rfl rfl) (E_NoGrammar.mk2 (by first | exact hr | exact hr.mono (by decide)) (pa_cons pe_str (pa_cons pe_non pa_nil))))) pss_nil)
      (pss_one (ps_for (passes_of rfl) rfl (pi_enum (by rfl) T.n_enumerate (pa_cons (pv 1) pa_nil)) (pg_tup rfl (pgs_cons (pg_name (i := 2) sc_Grammar_take_ways.nd rfl (Or.inl rfl)) (pgs_cons (pg_name (i := 3) sc_Grammar_take_ways.nd rfl (Or.inl rfl)) pgs_nil))) (pss_cons (ps_if (pt_not (pt_val (pe_met M_Grammar_may_take_way (pv 0) (by first | exact hr | exact hr.mono (by decide)) (pa_cons (pv 3) pa_nil)))) (pss_one (ps_raise rfl (takes_of rfl rfl rfl rfl) (E_NoGrammar.mk2 (by first | exact hr | exact hr.mono (by decide)) (pa_cons pe_str (pa_cons (pv 2) pa_nil))))) pss_nil)
      (pss_cons (ps_asg (pv 3) (pg_tup rfl (pgs_cons (pg_name (i := 4) sc_Grammar_take_ways.nd rfl (Or.inl rfl)) (pgs_cons (pg_name (i := 5) sc_Grammar_take_ways.nd rfl (Or.inl rfl)) (pgs_cons (pg_name (i := 6) sc_Grammar_take_ways.nd rfl (Or.inl rfl)) pgs_nil)))))
      (pss_cons (ps_expr (pe_bm PySem.F.plainAttrs_list PySem.F.slot_list_append PySem.F.type_list_append mt_append (pe_fld (pv 0) rfl) (pa_cons (pe_tupG (pa_cons (pv 4) (pa_cons (pv 5) (pa_cons (pv 6) pa_nil)))) pa_nil)))
      (pss_one (ps_dput (hu_of hr) (pe_fld (pv 0) rfl) (pe_tupG (pa_cons (pv 4) (pa_cons (pv 5) pa_nil))) (pv 6) rfl)))))))), ?_⟩
    have fm := fmt_gpart (p := Str.ofString "ways") (.inr (.inl rfl))
    have h' : (NoLst K H0 wv ∧ Rz2 (CGram K) "part" "number" (.str (Str.ofString "ways")) .non H0 E) ∨ ∃ p us, wv = .ref p ∧ H0 p = some (.lst us) ∧ us.length ≤ 1000 ∧ ((48 < us.length ∧ Rz2 (CGram K) "part" "number" (.str (Str.ofString "ways")) .non H0 E) ∨
        (us.length ≤ 48 ∧ ∃ ws, WaysTo K H0 m us ws ∧ ((ws.length < us.length ∧ Rz2 (CGram K) "part" "number" (.str (Str.ofString "ways")) (.int (ws.length : Nat)) H0 E) ∨ (ws.length = us.length ∧ ∀ H' as, GMid K H0 H' x dx m lw dw le as ws [] → Q .non H')))) := by
      rcases h with ⟨u, ⟨nl, rfl⟩ | ⟨a, us, e, hA, ul, u48, rfl⟩ | ⟨a, us, ws, e, hA, ul, wt, wl, rfl⟩, k⟩ | ⟨p, us, ws, e, hp, wt, wl, k⟩
      · exact .inl ⟨nl, k⟩
      · exact .inr ⟨a, us, e, hA, ul, .inl ⟨u48, k⟩⟩
      · exact .inr ⟨a, us, e, hA, by omega, .inr ⟨ul, ws, wt, .inl ⟨wl, k⟩⟩⟩
      · have := wt.ok.len
        exact .inr ⟨p, us, e, hp, by omega, .inr ⟨by omega, ws, wt, .inr ⟨wl, k⟩⟩⟩
    rcases h' with ⟨⟨ty, hty, hk⟩, k⟩ | ⟨p, us, rfl, hp, ul, h⟩
    · exact ⟨_, rfl, _, _, _, _, _, rfl, .ty "list", tyx_same hty M.sm, hk, _, rfl, iteT ⟨_, _, rfl, fm, .inl rfl, (k.same M.sm).now⟩⟩
    have hp1 := M.sm _ _ hp
    refine ⟨_, rfl, _, _, _, _, _, rfl, .ty "list", .base (.lst hp1), isLst, _, rfl, iteF ⟨_, rfl, _, _, rfl, .inl (SqL.of hp1), _, _, rfl, rfl, _, rfl, ?_⟩⟩
    rcases h with ⟨u48, k⟩ | ⟨u48, ws, wt, hrt⟩
    · rw [decide_eq_true (show (48 : Int) < (us.length : Nat) by omega)]
      exact iteT ⟨_, _, rfl, fm, .inl rfl, (k.same M.sm).now⟩
    rw [decide_eq_false (show ¬ (48 : Int) < (us.length : Nat) by omega)]
    refine iteF ?_
    have okw := wt.ok
    refine ⟨_, rfl, p, _, rfl, SqL.of hp1, for_enum (K := K) (a := p) (xs := us) (fun i σ H' => ∃ (u1 u2 u3 u4 u5 : Option V) (as : List Addr), σ = [some (.ref x), some (.ref p), u1, u2, u3, u4, u5] ∧ i ≤ ws.length ∧ GMid K H0 H' x dx m lw dw le as (ws.take i) [])
      ⟨_, _, _, _, _, [], rfl, Nat.zero_le _, M⟩ (fun i σ H' _ ⟨_, _, _, _, _, _, _, _, M⟩ => SqL.of (M.sm _ _ hp)) ?_ ?_⟩
    · rintro i y t σ H1 hi ht ⟨u1, u2, u3, u4, u5, as, rfl, il, M0⟩
      have st := Same.new (o := .tup [.int (i : Nat), y]) ht
      refine ⟨t, _, rfl, SqT.of upd_same, rfl, _, _, rfl, _, _, rfl, rfl, ?_⟩
      have M := M0.step st
      revert M
      generalize (upd H1 t (.tup [.int (i : Nat), y])) = H2
      intro M
      by_cases c : i = ws.length
      · subst c
        obtain ⟨o, wy, nk⟩ := wt.nx y hi
        have ul2 := (List.getElem?_eq_some_iff.mp hi).1
        rw [List.take_length] at M
        rcases hrt with ⟨rl, k⟩ | ⟨rl, _⟩
        · refine ⟨_, rfl, x, dx, _, rfl, M.hx, gf_mm _ _ _ _, _, rfl, x, dx, m, lw, dw, le, ws, y, o, rfl, M.hx, M.hdw, m1, m4, wy.same M.sm, fun H3 s3 => ?_⟩
          rw [nk]
          exact ⟨_, rfl, iteT ⟨_, rfl, _, _, rfl, fm, fmt_nat ws.length (by omega), (k.same (M.sm.trans s3)).now⟩⟩
        · omega
      have il2 : i < ws.length := by omega
      obtain ⟨w, hw⟩ : ∃ w, ws[i]? = some w := ⟨_, List.getElem?_eq_getElem il2⟩
      obtain ⟨v, hv, wy⟩ := wt.pre i w hw
      rw [hi] at hv
      cases hv
      have new := okw.new i w hw
      refine ⟨_, rfl, x, dx, _, rfl, M.hx, gf_mm _ _ _ _, _, rfl, x, dx, m, lw, dw, le, ws.take i, y, some w, rfl, M.hx, M.hdw, m1, m4, wy.same M.sm, fun H3 s3 => ?_⟩
      have eo : okWay (ws.take i) (some w) = true := by
        show (wayTo (ws.take i) w.1 w.2.1).isNone = true
        rw [new]; rfl
      rw [eo]
      refine ⟨_, rfl, iteF ?_⟩
      have M3 := M.step s3
      obtain ⟨a, rfl, hta, w1, w2, w3⟩ := wy.same M3.sm
      have hta : H3 a = some (.tup [.int (w.1 : Nat), .str (sgn w.2.1), .int (w.2.2 : Nat)]) := hta
      refine ⟨_, rfl, a, _, rfl, SqT.of hta, rfl, _, _, rfl, _, _, rfl, _, _, rfl, rfl, ?_⟩
      have al := Paired.len M3.hts
      rw [List.length_take] at al
      have wl48 := okw.len
      refine ⟨_, rfl, x, _, dx, _, _, rfl, M3.hx, T.cl_Grammar, T.no_Grammar_way_list, gf_w _ _ _ _, .inl ⟨rfl, _, SqL.of M3.hlw⟩, ?_⟩
      refine ⟨_, rfl, _, rfl, _, rfl, (by show 3 ≤ sizeLine; decide), fun t2 H4 nt2 s4 ht2 => ?_⟩
      have M4 := M3.step s4
      refine ⟨lw, _, _, rfl, rfl, M4.hlw, (by rw [List.length_map]; exact szl (by omega)), ?_⟩
      have et := GOkW.snoc (m := m) hw
      have x1 : x ≠ lw := ne_of M4.hx M4.hlw (by intro q; cases q)
      have d1 : dw ≠ lw := ne_of M4.hdw M4.hlw (by intro q; cases q)
      have x2 : x ≠ dw := ne_of M4.hx M4.hdw (by intro q; cases q)
      have e1 : le ≠ dw := ne_of M4.hle M4.hdw (by intro q; cases q)
      have keep : ∀ {b : Addr} {q : Nat × Nat × Nat}, WayAt H4 b q → WayAt (upd H4 lw (.lst (as.map V.ref ++ [V.ref t2]))) b q := fun {b q} hb => by
        have hb2 : H4 b = _ := hb
        show upd H4 lw _ b = _
        rw [upd_ne (ne_of hb2 M4.hlw (by intro q; cases q))]
        exact hb
      have hx5 : upd H4 lw (.lst (as.map V.ref ++ [V.ref t2])) x = some (.ins (GC K) dx (gf m lw dw le)) := by rw [upd_ne x1]; exact M4.hx
      have hw5 : upd H4 lw (.lst (as.map V.ref ++ [V.ref t2])) lw = some (.lst ((as ++ [t2]).map V.ref)) := by rw [upd_same, List.map_append]; rfl
      have hd5 : upd H4 lw (.lst (as.map V.ref ++ [V.ref t2])) dw = some (.dT (wayD (ws.take i))) := by rw [upd_ne d1]; exact M4.hdw
      have he5 : upd H4 lw (.lst (as.map V.ref ++ [V.ref t2])) le = some (.lst (([] : List Nat).map fun e : Nat => V.int (e : Nat))) := by rw [upd_ne (Ne.symm fr.wl)]; exact M4.hle
      have ts5 := Paired.snoc (L2.Paired.mapP M4.hts fun b q hb => keep hb) (keep ht2)
      have sm5 := Same.mut (o := .lst (as.map V.ref ++ [V.ref t2])) M4.sm fr.flw
      have nt0 : H0 t2 = none := M3.sm.free nt2
      have fra5 : ∀ b ∈ as ++ [t2], H0 b = none := fun b hb => by
        rcases List.mem_append.mp hb with hb | hb
        · exact M4.fra b hb
        · rw [List.mem_singleton.mp hb]; exact nt0
      revert hx5 hw5 hd5 he5 ts5 sm5
      clear keep
      generalize (upd H4 lw (.lst (as.map V.ref ++ [V.ref t2]))) = H5
      intro hx5 hw5 hd5 he5 ts5 sm5
      refine ⟨_, rfl, _, rfl, x, _, dx, _, _, rfl, hx5, T.cl_Grammar, T.no_Grammar_state_by_way, gf_d _ _ _ _, _, rfl, _, rfl, (by show 2 ≤ sizeLine; decide), fun t3 H6 nt3 s6 ht3 => ?_⟩
      refine ⟨dw, _, rfl, DPut.t (k := gky w.1 w.2.1) (s6 _ _ hd5) ht3 (by rw [wayD_len, List.length_take]; exact szl (by omega)), ?_⟩
      have ev : valV (wayD (ws.take i)) (gky w.1 w.2.1) = none := by rw [wayD_val, new]; rfl
      rw [putK_new _ ev]
      have ed : wayD (ws.take i) ++ [(gky w.1 w.2.1, V.int ((w.2.2 : Nat) : Int))] = wayD (ws.take (i + 1)) := by rw [et, wayD_snoc]
      rw [ed]
      have hx6 := s6 _ _ hx5
      have hw6 := s6 _ _ hw5
      have hd6 := s6 _ _ hd5
      have he6 := s6 _ _ he5
      refine ⟨_, _, _, _, _, as ++ [t2], rfl, il2, ?_⟩
      rw [et] at ed ⊢
      refine ⟨by rw [upd_ne x2]; exact hx6, by rw [upd_ne (Ne.symm d1)]; exact hw6, L2.Paired.mapP (WayAt.same s6 ts5) fun b q hb => ?_, ?_, by rw [upd_ne e1]; exact he6, Same.mut (sm5.trans s6) fr.fdw, fra5⟩
      · have hb2 : H6 b = _ := hb
        show upd H6 dw _ b = _
        rw [upd_ne (ne_of hb2 hd6 (by intro q; cases q))]
        exact hb
      · rw [upd_same]
    · rintro σ H1 ⟨u1, u2, u3, u4, u5, as, rfl, il, M1⟩
      have wl := wt.le
      have el : ws.length = us.length := by omega
      rcases hrt with ⟨rl, _⟩ | ⟨_, k⟩
      · omega
      rw [← el, List.take_length] at M1
      exact k _ as M1
def spTakeEnds (K : PySem.W.Frag) : Sp := fun vs H Q E => ∃ (H0 : Hp) (x dx : Addr) (m : Nat) (lw dw le : Addr) (as : List Addr) (ws : Gws) (ev : V), vs = [.ref x, ev] ∧ GMid K H0 H x dx m lw dw le as ws [] ∧ GFre H0 x lw dw le ∧ 1 ≤ m ∧ m ≤ 4 ∧
  ((∃ u, WEnds K H0 m ev u ∧ Rz2 (CGram K) "part" "number" (.str (Str.ofString "ends")) u H0 E) ∨ ∃ p us es, ev = .ref p ∧ H0 p = some (.lst us) ∧ EndsTo K H0 m us es ∧ es.length = us.length ∧ ∀ H', GMid K H0 H' x dx m lw dw le as ws es → Q .non H')
theorem nodup_lt {m : Nat} {es : List Nat} (h : ∀ e ∈ es, e < m) (nd : es.Nodup) : es.length ≤ m := by
  have := nd.length_le_of_subset (l₂ := List.range m) fun e he => List.mem_range.mpr (h e he)
  rwa [List.length_range] at this
theorem metx_take_ends (T : Tx K mg) : Met P w K mg base (L2.CX P w) 4 (GC K) "take_ends" (spTakeEnds K) := by
  have M_Grammar_is_state := met_is_state (P := P) (w := w) (base := base) T
  have E_NoGrammar := exk_NoGrammar (P := P) (w := w) (base := base) T
  obtain ⟨fd, F⟩ := T.d_Grammar_take_ends
  refine ⟨T.cl_Grammar, _, fd, P_Grammar_take_ends, F.ok sc_Grammar_take_ends (fun vs H Q E h => ?_) (fun cdv A outer s H vs Q E hr h => ?_), T.m_Grammar_take_ends, F.bindsN (ps := P_Grammar_take_ends) fun _ _ _ _ _ _ us hl => match us, hl with | [_, _], _ => rfl⟩
  · obtain ⟨H0, x, dx, m, lw, dw, le, as, ws, ev, rfl, _⟩ := h
    rfl
  · obtain ⟨H0, x, dx, m, lw, dw, le, as, ws, ev, rfl, M, fr, m1, m4, h⟩ := h
    refine ⟨_, (pss_cons (ps_if (pt_not (pt_val (pe_callB (id := "isinstance") call_isi (by rfl) T.n_isinstance (by decide +kernel) (pa_cons (pv 1) (pa_cons (pe_bltn (v := .ty "list") (by rfl) T.n_list (by decide +kernel) rfl) pa_nil))))) (pss_one (ps_raise rfl (takes_of rfl rfl rfl rfl) (E_NoGrammar.mk2 (by first | exact hr | exact hr.mono (by decide)) (pa_cons pe_str (pa_cons pe_non pa_nil))))) pss_nil)
      (pss_one (ps_for (passes_of rfl) rfl (pi_enum (by rfl) T.n_enumerate (pa_cons (pv 1) pa_nil)) (pg_tup rfl (pgs_cons (pg_name (i := 2) sc_Grammar_take_ends.nd rfl (Or.inl rfl)) (pgs_cons (pg_name (i := 3) sc_Grammar_take_ends.nd rfl (Or.inl rfl)) pgs_nil))) (pss_cons (ps_if (PW.pt (pw_or (pt_not (pt_val (pe_met M_Grammar_is_state (pv 0) (by first | exact hr | exact hr.mono (by decide)) (pa_cons (pv 3) pa_nil)))) (pw_or1 (pt_cmpR op_in_seq (pv 3) (pe_fld (pv 0) rfl) rfl)))) (pss_one (ps_raise rfl (takes_of rfl rfl rfl rfl) (E_NoGrammar.mk2 (by first | exact hr | exact hr.mono (by decide)) (pa_cons pe_str (pa_cons (pv 2) pa_nil))))) pss_nil)
      (pss_one (ps_expr (pe_bm PySem.F.plainAttrs_list PySem.F.slot_list_append PySem.F.type_list_append mt_append (pe_fld (pv 0) rfl) (pa_cons (pv 3) pa_nil)))))))), ?_⟩
    have fm := fmt_gpart (p := Str.ofString "ends") (.inr (.inr rfl))
    have h' : (NoLst K H0 ev ∧ Rz2 (CGram K) "part" "number" (.str (Str.ofString "ends")) .non H0 E) ∨ ∃ p us es, ev = .ref p ∧ H0 p = some (.lst us) ∧ EndsTo K H0 m us es ∧ ((es.length < us.length ∧ Rz2 (CGram K) "part" "number" (.str (Str.ofString "ends")) (.int (es.length : Nat)) H0 E) ∨ (es.length = us.length ∧ ∀ H', GMid K H0 H' x dx m lw dw le as ws es → Q .non H')) := by
      rcases h with ⟨u, ⟨nl, rfl⟩ | ⟨a, us, es, e, hA, ul, wt, wl, rfl⟩, k⟩ | ⟨p, us, es, e, hp, wt, wl, k⟩
      · exact .inl ⟨nl, k⟩
      · exact .inr ⟨a, us, es, e, hA, wt, .inl ⟨wl, k⟩⟩
      · exact .inr ⟨p, us, es, e, hp, wt, .inr ⟨wl, k⟩⟩
    rcases h' with ⟨⟨ty, hty, hk⟩, k⟩ | ⟨p, us, es, rfl, hp, wt, hrt⟩
    · exact ⟨_, rfl, _, _, _, _, _, rfl, .ty "list", tyx_same hty M.sm, hk, _, rfl, iteT ⟨_, _, rfl, fm, .inl rfl, (k.same M.sm).now⟩⟩
    have hp1 := M.sm _ _ hp
    have el4 := nodup_lt wt.lt wt.nd
    refine ⟨_, rfl, _, _, _, _, _, rfl, .ty "list", .base (.lst hp1), isLst, _, rfl, iteF ?_⟩
    refine ⟨_, rfl, p, _, rfl, SqL.of hp1, for_enum (K := K) (a := p) (xs := us) (fun i σ H' => ∃ (u1 u2 : Option V), σ = [some (.ref x), some (.ref p), u1, u2] ∧ i ≤ es.length ∧ GMid K H0 H' x dx m lw dw le as ws (es.take i))
      ⟨_, _, rfl, Nat.zero_le _, M⟩ (fun i σ H' _ ⟨_, _, _, _, M⟩ => SqL.of (M.sm _ _ hp)) ?_ ?_⟩
    · rintro i y t σ H1 hi ht ⟨u1, u2, rfl, il, M0⟩
      have st := Same.new (o := .tup [.int (i : Nat), y]) ht
      refine ⟨t, _, rfl, SqT.of upd_same, rfl, _, _, rfl, _, _, rfl, rfl, ?_⟩
      have M := M0.step st
      revert M
      generalize (upd H1 t (.tup [.int (i : Nat), y])) = H2
      intro M
      by_cases c : i = es.length
      · subst c
        have ul2 := (List.getElem?_eq_some_iff.mp hi).1
        rw [List.take_length] at M
        rcases hrt with ⟨rl, k⟩ | ⟨rl, _⟩
        · have raise := ((k.same M.sm).now)
          rcases wt.nx y hi with np | ⟨e, rfl, em, ein⟩
          · exact ⟨_, rfl, x, dx, _, rfl, M.hx, gf_ms _ _ _ _, _, rfl, x, dx, m, lw, dw, le, y, rfl, M.hx, m1, m4, .inr ⟨np.same M.sm, _, rfl, iteT ⟨_, rfl, _, _, rfl, fm, fmt_nat es.length (by omega), raise⟩⟩⟩
          · refine ⟨_, rfl, x, dx, _, rfl, M.hx, gf_ms _ _ _ _, _, rfl, x, dx, m, lw, dw, le, _, rfl, M.hx, m1, m4, .inl ⟨e, rfl, em, _, rfl, iteF ?_⟩⟩
            refine ⟨_, rfl, _, rfl, x, _, dx, _, _, rfl, M.hx, T.cl_Grammar, T.no_Grammar_end_list, gf_e _ _ _ _, le, _, rfl, .inl (SqL.of M.hle), rfl, ?_, _, rfl, ?_⟩
            · rw [List.all_map]; simp [flatV]
            · rw [inV_natG, decide_eq_true ein]
              exact iteT ⟨_, rfl, _, _, rfl, fm, fmt_nat es.length (by omega), raise⟩
        · omega
      have il2 : i < es.length := by omega
      obtain ⟨e, he⟩ : ∃ e, es[i]? = some e := ⟨_, List.getElem?_eq_getElem il2⟩
      have hv := wt.pre i e he
      rw [hi] at hv
      cases hv
      have em := wt.lt e (List.mem_of_getElem? he)
      have ne : ¬ e ∈ es.take i := fun hm => by
        have nd := wt.nd
        rw [← List.take_append_drop i es, List.nodup_append] at nd
        refine nd.2.2 e hm e (List.mem_of_getElem? (i := 0) ?_) rfl
        rw [List.getElem?_drop]
        exact he
      refine ⟨_, rfl, x, dx, _, rfl, M.hx, gf_ms _ _ _ _, _, rfl, x, dx, m, lw, dw, le, _, rfl, M.hx, m1, m4, .inl ⟨e, rfl, em, _, rfl, iteF ?_⟩⟩
      refine ⟨_, rfl, _, rfl, x, _, dx, _, _, rfl, M.hx, T.cl_Grammar, T.no_Grammar_end_list, gf_e _ _ _ _, le, _, rfl, .inl (SqL.of M.hle), rfl, ?_, _, rfl, ?_⟩
      · rw [List.all_map]; simp [flatV]
      rw [inV_natG, decide_eq_false ne]
      refine iteF ⟨_, rfl, x, _, dx, _, _, rfl, M.hx, T.cl_Grammar, T.no_Grammar_end_list, gf_e _ _ _ _, .inl ⟨rfl, _, SqL.of M.hle⟩, _, rfl, le, _, _, rfl, rfl, M.hle, (by rw [List.length_map, List.length_take]; exact szl (by omega)), ?_⟩
      have x1 : x ≠ le := ne_of M.hx M.hle (by intro q; cases q)
      have d1 : dw ≠ le := ne_of M.hdw M.hle (by intro q; cases q)
      refine ⟨_, _, rfl, il2, by rw [upd_ne x1]; exact M.hx, by rw [upd_ne fr.wl]; exact M.hlw, L2.Paired.mapP M.hts fun b q hb => ?_, by rw [upd_ne d1]; exact M.hdw, ?_, Same.mut M.sm fr.fle, M.fra⟩
      · have hb2 : H2 b = _ := hb
        show upd H2 le _ b = _
        rw [upd_ne (ne_of hb2 M.hle (by intro q; cases q))]
        exact hb
      · rw [upd_same, List.take_add_one, he, List.map_append]; rfl
    · rintro σ H1 ⟨u1, u2, rfl, il, M1⟩
      have wl := wt.le
      have el : es.length = us.length := by omega
      rcases hrt with ⟨rl, _⟩ | ⟨_, k⟩
      · omega
      rw [← el, List.take_length] at M1
      exact k _ M1
end
end Jr
namespace Jr
open PySem PySem.Spec PyProof.Rows L2
/-! ### a region of objects that change, beside what stays -/
structure Reg (S H : Hp) (L : List (Addr × HO)) : Prop where
  same : Same S H
  off : ∀ q ∈ L, S q.1 = none
  nd : (L.map (·.1)).Nodup
  at_ : ∀ q ∈ L, H q.1 = some q.2
def out (H : Hp) (L : List (Addr × HO)) : Hp := fun b => if b ∈ L.map (·.1) then none else H b
section
variable {S H H' : Hp} {L : List (Addr × HO)} {a p : Addr} {o o' : HO} {i : Nat}
theorem out_of (h : H a = some o) (n : ¬ a ∈ L.map (·.1)) : out H L a = some o := by
  unfold out
  rw [if_neg n]
  exact h
theorem Reg.nil (H : Hp) : Reg H H [] := ⟨Same.refl _, fun q h => (by cases h), List.nodup_nil, fun q h => (by cases h)⟩
theorem Reg.get (r : Reg S H L) (h : L[i]? = some (a, o)) : H a = some o := r.at_ (a, o) (List.mem_of_getElem? h)
theorem Reg.step (r : Reg S H L) (s : Same H H') : Reg S H' L := ⟨r.same.trans s, r.off, r.nd, fun q hq => s _ _ (r.at_ q hq)⟩
theorem Reg.free (r : Reg S H L) (h : H p = none) : ¬ p ∈ L.map (·.1) := fun hm => by
  obtain ⟨q, hq, e⟩ := List.mem_map.mp hm
  have := r.at_ q hq
  rw [e, h] at this
  cases this
theorem Reg.kind (r : Reg S H L) (h : H p = some o) (n : ∀ q ∈ L, q.2 ≠ o) : ¬ p ∈ L.map (·.1) := fun hm => by
  obtain ⟨q, hq, e⟩ := List.mem_map.mp hm
  have := r.at_ q hq
  rw [e, h] at this
  exact n q hq (Option.some.inj this).symm
theorem Reg.new (r : Reg S H L) (n : H p = none) (s : Same H H') (h : H' p = some o) : Reg S H' (L ++ [(p, o)]) := by
  have r' := r.step s
  refine ⟨r'.same, fun q hq => ?_, ?_, fun q hq => ?_⟩
  · rcases List.mem_append.mp hq with hq | hq
    · exact r.off q hq
    · rw [List.mem_singleton.mp hq]
      exact r.same.free n
  · rw [List.map_append, List.nodup_append]
    refine ⟨r.nd, by simp, fun x hx y hy => ?_⟩
    have e : y = p := by simpa using hy
    rw [e]
    exact fun e2 => r.free n (e2 ▸ hx)
  · rcases List.mem_append.mp hq with hq | hq
    · exact r'.at_ q hq
    · rw [List.mem_singleton.mp hq]
      exact h
theorem map_set_fst : ∀ (L : List (Addr × HO)) (i : Nat), L[i]? = some (a, o) → (L.set i (a, o')).map (·.1) = L.map (·.1)
  | [], _, h => by simp at h
  | q :: L, 0, h => by
    have e : q = (a, o) := Option.some.inj h
    subst e
    rfl
  | q :: L, i + 1, h => by
    show q.1 :: (L.set i (a, o')).map (·.1) = _
    rw [map_set_fst L i h]
    rfl
theorem Reg.set (r : Reg S H L) (h : L[i]? = some (a, o)) : Reg S (upd H a o') (L.set i (a, o')) := by
  have hm := List.mem_of_getElem? h
  have hi : i < L.length := (List.getElem?_eq_some_iff.mp h).1
  have ea := map_set_fst (o' := o') L i h
  have key : ∀ (j : Nat) (q : Addr × HO), (L.set i (a, o'))[j]? = some q → q = (a, o') ∨ (q ∈ L ∧ q.1 ≠ a) := fun j q hj => by
    by_cases c : j = i
    · subst c
      rw [List.getElem?_set_self hi] at hj
      exact .inl (Option.some.inj hj).symm
    · rw [List.getElem?_set_ne (fun e => c e.symm)] at hj
      refine .inr ⟨List.mem_of_getElem? hj, fun e => c ?_⟩
      have h1 : (L.map (·.1))[j]? = some q.1 := by rw [List.getElem?_map, hj]; rfl
      have h2 : (L.map (·.1))[i]? = some a := by rw [List.getElem?_map, h]; rfl
      obtain ⟨a1, b1⟩ := List.getElem?_eq_some_iff.mp h1
      obtain ⟨a2, b2⟩ := List.getElem?_eq_some_iff.mp h2
      rcases Nat.lt_trichotomy j i with c | c | c
      · exact absurd (b1.trans (e.trans b2.symm)) (List.pairwise_iff_getElem.mp r.nd j i a1 a2 c)
      · exact c
      · exact absurd (b2.trans (e.symm.trans b1.symm)) (List.pairwise_iff_getElem.mp r.nd i j a2 a1 c)
  refine ⟨Same.mut r.same (r.off _ hm), fun q hq => ?_, by rw [ea]; exact r.nd, fun q hq => ?_⟩
  · obtain ⟨j, hj, e⟩ := List.mem_iff_getElem.mp hq
    rcases key j q (by rw [List.getElem?_eq_getElem hj, e]) with e2 | ⟨h2, _⟩
    · rw [e2]; exact r.off (a, o) hm
    · exact r.off q h2
  · obtain ⟨j, hj, e⟩ := List.mem_iff_getElem.mp hq
    rcases key j q (by rw [List.getElem?_eq_getElem hj, e]) with e2 | ⟨h2, n2⟩
    · rw [e2, upd_same]
    · rw [upd_ne n2]; exact r.at_ q h2
theorem Reg.grow (r : Reg S H L) (s : Same H H') : Reg (out H' L) H' L ∧ Same S (out H' L) := by
  have r' := r.step s
  refine ⟨⟨fun b o hb => ?_, fun q hq => ?_, r.nd, r'.at_⟩, fun b o hb => ?_⟩
  · unfold out at hb
    split at hb
    · cases hb
    · exact hb
  · unfold out
    rw [if_pos (List.mem_map.mpr ⟨q, hq, rfl⟩)]
  · refine out_of (r'.same _ _ hb) fun hm => ?_
    obtain ⟨q, hq, e⟩ := List.mem_map.mp hm
    have := r.off q hq
    rw [e, hb] at this
    cases this
theorem Reg.perm {L' : List (Addr × HO)} (r : Reg S H L) (h : L.Perm L') : Reg S H L' := ⟨r.same, fun q hq => r.off q (h.mem_iff.mpr hq), (h.map (·.1)).nodup_iff.mp r.nd, fun q hq => r.at_ q (h.mem_iff.mpr hq)⟩
/-- some of the objects change no more -/
theorem Reg.freeze {L1 L2 : List (Addr × HO)} (r : Reg S H (L1 ++ L2)) : Reg (out H L2) H L2 ∧ Same S (out H L2) ∧ ∀ q ∈ L1, out H L2 q.1 = some q.2 := by
  have nd := r.nd
  rw [List.map_append, List.nodup_append] at nd
  have r2 : Reg S H L2 := ⟨r.same, fun q hq => r.off q (List.mem_append_right _ hq), nd.2.1, fun q hq => r.at_ q (List.mem_append_right _ hq)⟩
  obtain ⟨a, b⟩ := r2.grow (Same.refl H)
  exact ⟨a, b, fun q hq => out_of (r.at_ q (List.mem_append_left _ hq)) fun hm => nd.2.2 _ (List.mem_map.mpr ⟨q, hq, rfl⟩) _ hm rfl⟩
/-- a list of tuples that a call has laid stays outside -/
theorem Reg.outs (r : Reg S H L) (s : Same H H') (n : H p = none) {as : List Addr} {fs : List (Str × Nat)} (hp : H' p = some (.lst (as.map V.ref))) (ha : Paired (fun a x => H' a = some (.tup [.str x.1, .int ((x.2 : Nat) : Int)])) as fs) (nt : ∀ q ∈ L, ∀ xs, q.2 ≠ .tup xs) :
    out H' L p = some (.lst (as.map V.ref)) ∧ Paired (fun a x => out H' L a = some (.tup [.str x.1, .int ((x.2 : Nat) : Int)])) as fs :=
  ⟨out_of hp (r.free n), L2.Paired.mapP ha fun a x h => out_of h ((r.step s).kind h fun q hq => nt q hq _)⟩
end
end Jr
namespace Jr
open PySem PySem.Spec PyProof.Rows L2
/-! ### a promise that may raise, told where nothing is raised -/
theorem okCalm {P : Program} {w : World} {K : PySem.W.Frag} {mg : Str → Option Value} {base : Heap} {k : Nat} {f : Addr} {fd : FuncData} {ps : List Str} {sp : Sp} (F : FnOk P w K mg base (L2.CX P w) k f fd ps sp) :
    FnOk P w K mg base CX0 k f fd ps (fun vs H Q _ => sp vs H Q fun _ _ _ => False) := by
  refine ⟨fun vs H Q _ h => F.len vs H Q _ h, fun A outer s H args us vs Q E hr e0 hb rv h => ?_⟩
  refine codeAny_mono (F.run A outer s H args us vs Q _ hr e0 hb rv h) fun r s' hq => ?_
  cases r with
  | error e =>
    obtain ⟨_, _, _, _, _, _, _, _, _, _, _, _, z⟩ := hq
    exact z.elim
  | ok fl =>
    cases fl with
    | ret u => exact hq
    | next => exact hq
    | brk => exact hq
    | cont => exact hq
theorem Cal.calm {P : Program} {w : World} {K : PySem.W.Frag} {mg : Str → Option Value} {base : Heap} {k : Nat} {x : Str} {sp : Sp} (F : Cal P w K mg base (L2.CX P w) k x sp) : Cal P w K mg base CX0 k x (fun vs H Q _ => sp vs H Q fun _ _ _ => False) := by
  obtain ⟨f, fd, ps, G, r⟩ := F.ex
  exact ⟨f, fd, ps, okCalm G, r⟩
theorem Met.calm {P : Program} {w : World} {K : PySem.W.Frag} {mg : Str → Option Value} {base : Heap} {k : Nat} {C : Addr} {m : Str} {sp : Sp} (F : Met P w K mg base (L2.CX P w) k C m sp) : Met P w K mg base CX0 k C m (fun vs H Q _ => sp vs H Q fun _ _ _ => False) := by
  obtain ⟨cl, f, fd, ps, G, r⟩ := F
  exact ⟨cl, f, fd, ps, okCalm G, r⟩
theorem Mkc.calm {P : Program} {w : World} {K : PySem.W.Frag} {mg : Str → Option Value} {base : Heap} {k : Nat} {x : Str} {C : Addr} {sp : Sp} (F : Mkc P w K mg base (L2.CX P w) k x C sp) : Mkc P w K mg base CX0 k x C (fun vs H Q _ => sp vs H Q fun _ _ _ => False) := by
  obtain ⟨⟨f, fd, ps, G, r⟩, g⟩ := F
  exact ⟨⟨f, fd, ps, okCalm G, r⟩, g⟩
end Jr
namespace Jr
open PySem PySem.Spec PyProof.Rows L2
theorem gok_of {K : PySem.W.Frag} {H : Hp} {m : Nat} {us us2 : List V} {ws : Gws} {es : List Nat} (m1 : 1 ≤ m) (m4 : m ≤ 4) (wt : WaysTo K H m us ws) (et : EndsTo K H m us2 es) : GOk m ws es := ⟨m1, m4, wt.ok.len, wt.ok.way, wt.ok.new, et.lt, et.nd⟩
def oI : Option Nat → V
  | some n => .int (n : Nat)
  | none => .non
section
variable {P : Program} {w : World} {K : PySem.W.Frag} {mg : Str → Option Value} {base : Heap}
def spGInit (K : PySem.W.Frag) : Sp := fun vs H Q E => ∃ (H0 : Hp) (x dx : Addr) (mv wv ev : V), vs = [.ref x, mv, wv, ev] ∧ H = upd (upd H0 dx (.own x)) x (.ins (GC K) dx []) ∧ H0 x = none ∧ H0 dx = none ∧ dx ≠ x ∧
  ((∃ part u, WGram K H0 mv wv ev part u ∧ Rz2 (CGram K) "part" "number" (.str part) u H0 E) ∨ ∃ (m : Nat) (p q : Addr) (us us2 : List V) (ws : Gws) (es : List Nat), mv = .int (m : Nat) ∧ 1 ≤ m ∧ m ≤ 4 ∧ wv = .ref p ∧ H0 p = some (.lst us) ∧ WaysTo K H0 m us ws ∧ ws.length = us.length ∧
    ev = .ref q ∧ H0 q = some (.lst us2) ∧ EndsTo K H0 m us2 es ∧ es.length = us2.length ∧ ∀ H', Same H0 H' → GrFr (GC K) H0 H' x m ws es → Q .non H')
theorem mkx_Grammar (T : Tx K mg) : Mkc P w K mg base (L2.CX P w) 6 "Grammar" (GC K) (spGInit K) := by
  have C_is_up_to := calU_is_up_to (P := P) (w := w) (base := base) T
  have E_NoGrammar := exk_NoGrammar (P := P) (w := w) (base := base) T
  have MX_Grammar_take_ways := metx_take_ways (P := P) (w := w) (base := base) T
  have MX_Grammar_take_ends := metx_take_ends (P := P) (w := w) (base := base) T
  obtain ⟨fd, F⟩ := T.d_Grammar___init__
  refine ⟨⟨_, fd, P_Grammar___init__, F.ok sc_Grammar___init__ (fun vs H Q E h => ?_) (fun cdv A outer s H vs Q E hr h => ?_), T.mk_Grammar, F.bindsN (ps := P_Grammar___init__) fun _ _ _ _ _ _ us hl => match us, hl with | [_, _, _, _], _ => rfl⟩, T.g_Grammar⟩
  · obtain ⟨H0, x, dx, mv, wv, ev, rfl, _⟩ := h
    rfl
  · obtain ⟨H0, x, dx, mv, wv, ev, rfl, rfl, x0, dx0, ndx, h⟩ := h
    refine ⟨_, (pss_cons (ps_if (PW.pt (pw_or (pt_not (pt_val (pe_cal C_is_up_to (by first | exact hr | exact hr.mono (by decide)) (by rfl) (pa_cons (pv 1) (pa_cons (pe_glob (v := .int 4) (by rfl) T.c_MOST_STATES.choose_spec ⟨_, rfl⟩) pa_nil))))) (pw_or1 (pt_cmpR op_eq (pv 1) pe_int (nomark _))))) (pss_one (ps_raise rfl (takes_of rfl rfl rfl rfl) (E_NoGrammar.mk2 (by first | exact hr | exact hr.mono (by decide)) (pa_cons pe_str (pa_cons pe_non pa_nil))))) pss_nil)
      (pss_cons (ps_fld (pv 0) (pv 1) rfl)
      (pss_cons (ps_fld (pv 0) (pe_lstG pa_nil) rfl)
      (pss_cons (ps_fld (pv 0) pe_dnewT rfl)
      (pss_cons (ps_fld (pv 0) (pe_lstG pa_nil) rfl)
      (pss_cons (ps_expr (pe_metX MX_Grammar_take_ways (pv 0) (by first | exact hr | exact hr.mono (by decide)) (takes_of rfl rfl rfl rfl) (pa_cons (pv 2) pa_nil)))
      (pss_one (ps_expr (pe_metX MX_Grammar_take_ends (pv 0) (by first | exact hr | exact hr.mono (by decide)) (takes_of rfl rfl rfl rfl) (pa_cons (pv 3) pa_nil)))))))))), ?_⟩
    have sd : Same H0 (upd H0 dx (.own x)) := Same.new dx0
    have nx' : (upd H0 dx (.own x)) x = none := by rw [upd_ne (Ne.symm ndx)]; exact x0
    revert sd nx'
    generalize (upd H0 dx (.own x)) = S0
    intro sd nx'
    have r0 := (Reg.nil S0).new nx' (Same.new nx') (upd_same (o := HO.ins (GC K) dx []))
    have s00 := sd.trans r0.same
    have h0 := r0.get (i := 0) rfl
    have h' : ((NoPl K H0 mv 4 ∨ mv = .int 0) ∧ Rz2 (CGram K) "part" "number" (.str (Str.ofString "many")) .non H0 E) ∨ ∃ m : Nat, mv = .int (m : Nat) ∧ 1 ≤ m ∧ m ≤ 4 ∧ ((∃ u, WWays K H0 m wv u ∧ Rz2 (CGram K) "part" "number" (.str (Str.ofString "ways")) u H0 E) ∨ ∃ p us ws, wv = .ref p ∧ H0 p = some (.lst us) ∧ WaysTo K H0 m us ws ∧ ws.length = us.length ∧
        ((∃ u, WEnds K H0 m ev u ∧ Rz2 (CGram K) "part" "number" (.str (Str.ofString "ends")) u H0 E) ∨ ∃ q us2 es, ev = .ref q ∧ H0 q = some (.lst us2) ∧ EndsTo K H0 m us2 es ∧ es.length = us2.length ∧ ∀ H', Same H0 H' → GrFr (GC K) H0 H' x m ws es → Q .non H')) := by
      rcases h with ⟨part, u, ⟨rfl, hm, rfl⟩ | ⟨m, e, m1, m4, ⟨rfl, ww⟩ | ⟨p, us, ws, ew, hp, wt, wl, rfl, we⟩⟩, k⟩ | ⟨m, p, q, us, us2, ws, es, e, m1, m4, ew, hp, wt, wl, ee, hq, et, el, k⟩
      · exact .inl ⟨hm, k⟩
      · exact .inr ⟨m, e, m1, m4, .inl ⟨u, ww, k⟩⟩
      · exact .inr ⟨m, e, m1, m4, .inr ⟨p, us, ws, ew, hp, wt, wl, .inl ⟨u, we, k⟩⟩⟩
      · exact .inr ⟨m, e, m1, m4, .inr ⟨p, us, ws, ew, hp, wt, wl, .inr ⟨q, us2, es, ee, hq, et, el, k⟩⟩⟩
    have fm := fmt_gpart (p := Str.ofString "many") (.inl rfl)
    rcases h' with ⟨np | rfl, k⟩ | ⟨m, rfl, m1, m4, h⟩
    · exact ⟨_, rfl, _, _, rfl, .inr ⟨np.same s00, _, rfl, iteT ⟨_, _, rfl, fm, .inl rfl, (k.same s00).now⟩⟩⟩
    · refine ⟨_, rfl, _, _, rfl, .inl ⟨0, rfl, by decide, by decide, _, rfl, iteF ⟨_, rfl, rfl, _, rfl, ?_⟩⟩⟩
      rw [decide_eq_true (rfl : V.int 0 = V.int 0)]
      exact iteT ⟨_, _, rfl, fm, .inl rfl, (k.same s00).now⟩
    refine ⟨_, rfl, _, _, rfl, .inl ⟨_, rfl, by omega, by omega, _, rfl, iteF ⟨_, rfl, rfl, _, rfl, ?_⟩⟩⟩
    rw [decide_eq_false (show ¬ V.int ((m : Nat) : Int) = V.int 0 from fun e => by have := V.int.inj e; omega)]
    refine iteF ?_
    refine ⟨_, rfl, _, rfl, x, _, dx, _, rfl, h0, T.cl_Grammar, T.no_Grammar_state_count, (by show 0 < 1000; decide), ?_⟩
    have r1 := r0.set (i := 0) (a := x) (o' := .ins (GC K) dx (putF "state_count" (.int ((m : Nat) : Int)) [])) rfl
    revert r1
    generalize (upd (upd S0 x (HO.ins (GC K) dx [])) x (.ins (GC K) dx (putF "state_count" (.int ((m : Nat) : Int)) []))) = H1
    intro r1
    refine ⟨(by show 0 ≤ sizeLine; decide), fun lw H2 nlw s2 hlw => ?_⟩
    have r2 := r1.new nlw s2 hlw
    refine ⟨_, rfl, x, _, dx, _, rfl, r2.get (i := 0) rfl, T.cl_Grammar, T.no_Grammar_way_list, (by show 1 < 1000; decide), ?_⟩
    have r3 := r2.set (i := 0) (a := x) (o' := .ins (GC K) dx (putF "way_list" (.ref lw) (putF "state_count" (.int ((m : Nat) : Int)) []))) rfl
    revert r3
    generalize (upd H2 x (.ins (GC K) dx (putF "way_list" (.ref lw) (putF "state_count" (.int ((m : Nat) : Int)) [])))) = H3
    intro r3
    intro dw hdw
    have r4 := r3.new hdw (Same.new (o := .dT []) hdw) upd_same
    refine ⟨_, rfl, x, _, dx, _, rfl, r4.get (i := 0) rfl, T.cl_Grammar, T.no_Grammar_state_by_way, (by show 2 < 1000; decide), ?_⟩
    have r5 := r4.set (i := 0) (a := x) (o' := .ins (GC K) dx (putF "state_by_way" (.ref dw) (putF "way_list" (.ref lw) (putF "state_count" (.int ((m : Nat) : Int)) [])))) rfl
    revert r5
    generalize (upd (upd H3 dw (.dT [])) x (.ins (GC K) dx (putF "state_by_way" (.ref dw) (putF "way_list" (.ref lw) (putF "state_count" (.int ((m : Nat) : Int)) []))))) = H5
    intro r5
    refine ⟨(by show 0 ≤ sizeLine; decide), fun le H6 nle s6 hle => ?_⟩
    have r6 := r5.new nle s6 hle
    refine ⟨_, rfl, x, _, dx, _, rfl, r6.get (i := 0) rfl, T.cl_Grammar, T.no_Grammar_end_list, (by show 3 < 1000; decide), ?_⟩
    have r7 := r6.set (i := 0) (a := x) (o' := .ins (GC K) dx (putF "end_list" (.ref le) (putF "state_by_way" (.ref dw) (putF "way_list" (.ref lw) (putF "state_count" (.int ((m : Nat) : Int)) []))))) rfl
    rw [gf_put] at r7 ⊢
    revert r7
    generalize (upd H6 x (.ins (GC K) dx (gf m lw dw le))) = H7
    intro r7
    have f0 := fun q hq => sd.free (r7.off q hq)
    have fr : GFre H0 x lw dw le := ⟨f0 (x, _) (List.mem_of_getElem? (i := 0) rfl), f0 (lw, _) (List.mem_of_getElem? (i := 1) rfl), f0 (dw, _) (List.mem_of_getElem? (i := 2) rfl), f0 (le, _) (List.mem_of_getElem? (i := 3) rfl), fun e => by
      have nd := r7.nd
      have nd2 : [x, lw, dw, le].Nodup := nd
      rw [e] at nd2
      simp at nd2⟩
    have M : GMid K H0 H7 x dx m lw dw le [] [] [] := ⟨r7.get (i := 0) rfl, r7.get (i := 1) rfl, .nil, r7.get (i := 2) rfl, r7.get (i := 3) rfl, sd.trans r7.same, fun a ha => by cases ha⟩
    rcases h with ⟨u, ww, k⟩ | ⟨p, us, ws, rfl, hp, wt, wl, h⟩
    · exact ⟨_, rfl, x, dx, _, rfl, M.hx, gf_mtw _ _ _ _, _, rfl, H0, x, dx, m, lw, dw, le, wv, rfl, M, fr, m1, m4, .inl ⟨u, ww, k⟩⟩
    refine ⟨_, rfl, x, dx, _, rfl, M.hx, gf_mtw _ _ _ _, _, rfl, H0, x, dx, m, lw, dw, le, _, rfl, M, fr, m1, m4, .inr ⟨p, us, ws, rfl, hp, wt, wl, fun H8 as M8 => ?_⟩⟩
    rcases h with ⟨u, we, k⟩ | ⟨q, us2, es, rfl, hq, et, el, k⟩
    · exact ⟨_, rfl, x, dx, _, rfl, M8.hx, gf_mte _ _ _ _, _, rfl, H0, x, dx, m, lw, dw, le, as, ws, ev, rfl, M8, fr, m1, m4, .inl ⟨u, we, k⟩⟩
    exact ⟨_, rfl, x, dx, _, rfl, M8.hx, gf_mte _ _ _ _, _, rfl, H0, x, dx, m, lw, dw, le, as, ws, _, rfl, M8, fr, m1, m4, .inr ⟨q, us2, es, rfl, hq, et, el, fun H9 M9 =>
      k _ M9.sm ⟨dx, lw, dw, le, as, M9.hx, M9.hlw, M9.hts, M9.hdw, M9.hle, gok_of m1 m4 wt et, fr.fx, fr.flw, fr.fdw, fr.fle, M9.fra⟩⟩⟩
def spGMany (K : PySem.W.Frag) : Sp := fun vs H Q _ => ∃ (g : Addr) (m : Nat) (ws : Gws) (es : List Nat), vs = [.ref g] ∧ GrAt (GC K) H g m ws es ∧ Q (.int (m : Nat)) H
theorem met_gmany (T : Tx K mg) : Met P w K mg base CX0 1 (GC K) "many" (spGMany K) := by
  obtain ⟨fd, F⟩ := T.d_Grammar_many
  refine ⟨T.cl_Grammar, _, fd, P_Grammar_many, F.ok sc_Grammar_many (fun vs H Q E h => ?_) (fun cdv A outer s H vs Q E hr h => ?_), T.m_Grammar_many, F.bindsN (ps := P_Grammar_many) fun _ _ _ _ _ _ us hl => match us, hl with | [_], _ => rfl⟩
  · obtain ⟨g, m, ws, es, rfl, _⟩ := h
    rfl
  · obtain ⟨g, m, ws, es, rfl, ⟨dx, lw, dw, le, h1, h2, h4, h5, ok⟩, k⟩ := h
    refine ⟨_, (PSs.nox (pss_one (ps_ret (pe_fld (pv 0) rfl)))), ?_⟩
    exact ⟨_, rfl, g, _, dx, _, _, rfl, h1, T.cl_Grammar, T.no_Grammar_state_count, gf_c _ _ _ _, k⟩
def spGWays (K : PySem.W.Frag) : Sp := fun vs H Q _ => ∃ (g : Addr) (m : Nat) (ws : Gws) (es : List Nat), vs = [.ref g] ∧ GrAt (GC K) H g m ws es ∧ ∀ H' p, Same H H' → H p = none → WaysAt H' p ws → Q (.ref p) H'
theorem met_gways (T : Tx K mg) : Met P w K mg base CX0 1 (GC K) "ways" (spGWays K) := by
  obtain ⟨fd, F⟩ := T.d_Grammar_ways
  refine ⟨T.cl_Grammar, _, fd, P_Grammar_ways, F.ok sc_Grammar_ways (fun vs H Q E h => ?_) (fun cdv A outer s H vs Q E hr h => ?_), T.m_Grammar_ways, F.bindsN (ps := P_Grammar_ways) fun _ _ _ _ _ _ us hl => match us, hl with | [_], _ => rfl⟩
  · obtain ⟨g, m, ws, es, rfl, _⟩ := h
    rfl
  · obtain ⟨g, m, ws, es, rfl, ⟨dx, lw, dw, le, h1, ⟨as, hlw, hts⟩, h4, h5, ok⟩, k⟩ := h
    refine ⟨_, (PSs.nox (pss_one (ps_ret (pe_callTy (T := "list") call_listG (by rfl) T.n_list (by decide +kernel) (pa_cons (pe_fld (pv 0) rfl) pa_nil))))), ?_⟩
    exact ⟨_, rfl, g, _, dx, _, _, rfl, h1, T.cl_Grammar, T.no_Grammar_way_list, gf_w _ _ _ _, lw, _, rfl, .inl (SqL.of hlw), fun p H1 np s1 hp => k _ p s1 np ⟨as, hp, WayAt.same s1 hts⟩⟩
def spGEnds (K : PySem.W.Frag) : Sp := fun vs H Q _ => ∃ (g : Addr) (m : Nat) (ws : Gws) (es : List Nat), vs = [.ref g] ∧ GrAt (GC K) H g m ws es ∧ ∀ H' p, Same H H' → H p = none → H' p = some (.lst (es.map fun e : Nat => V.int (e : Nat))) → Q (.ref p) H'
theorem met_gends (T : Tx K mg) : Met P w K mg base CX0 1 (GC K) "ends" (spGEnds K) := by
  obtain ⟨fd, F⟩ := T.d_Grammar_ends
  refine ⟨T.cl_Grammar, _, fd, P_Grammar_ends, F.ok sc_Grammar_ends (fun vs H Q E h => ?_) (fun cdv A outer s H vs Q E hr h => ?_), T.m_Grammar_ends, F.bindsN (ps := P_Grammar_ends) fun _ _ _ _ _ _ us hl => match us, hl with | [_], _ => rfl⟩
  · obtain ⟨g, m, ws, es, rfl, _⟩ := h
    rfl
  · obtain ⟨g, m, ws, es, rfl, ⟨dx, lw, dw, le, h1, h2, h4, h5, ok⟩, k⟩ := h
    refine ⟨_, (PSs.nox (pss_one (ps_ret (pe_callTy (T := "list") call_listG (by rfl) T.n_list (by decide +kernel) (pa_cons (pe_fld (pv 0) rfl) pa_nil))))), ?_⟩
    exact ⟨_, rfl, g, _, dx, _, _, rfl, h1, T.cl_Grammar, T.no_Grammar_end_list, gf_e _ _ _ _, le, _, rfl, .inl (SqL.of h5), fun p H1 np s1 hp => k _ p s1 np hp⟩
end
end Jr
namespace Jr
open PySem PySem.Spec PyProof.Rows L2
section
variable {P : Program} {w : World} {K : PySem.W.Frag} {mg : Str → Option Value} {base : Heap}
theorem cal__law_whole (T : Tx K mg) : Cal P w K mg base CX0 1 "_law_whole" (spWhole K) := by
  obtain ⟨fd, F⟩ := T.d__law_whole
  refine ⟨_, fd, P__law_whole, F.ok sc__law_whole (fun vs H Q E h => ?_) (fun cdv A outer s H vs Q E hr h => ?_), T.g__law_whole, F.kp, F.bindsN (ps := P__law_whole) fun _ _ _ _ _ _ us hl => match us, hl with | [_], _ => rfl⟩
  · obtain ⟨v, rfl, _⟩ := h
    rfl
  · obtain ⟨v, rfl, k⟩ := h
    refine ⟨_, (PSs.nox (pss_one (ps_ret (pe_and (pe_callB (id := "isinstance") call_isi (by rfl) T.n_isinstance (by decide +kernel) (pa_cons (pv 0) (pa_cons (pe_bltn (v := .ty "int") (by rfl) T.n_int (by decide +kernel) rfl) pa_nil))) (pe_one (pe_not (pe_callB (id := "isinstance") call_isi (by rfl) T.n_isinstance (by decide +kernel) (pa_cons (pv 0) (pa_cons (pe_bltn (v := .ty "bool") (by rfl) T.n_bool (by decide +kernel) rfl) pa_nil))))))))), ?_⟩
    rcases k with ⟨n, rfl, k⟩ | ⟨⟨b, rfl⟩ | ⟨t, ht, hk⟩, k⟩
    · exact ⟨_, rfl, _, _, _, _, _, rfl, .ty "int", .base (.int n), isInt, _, rfl, iteT ⟨_, rfl, _, _, _, _, _, rfl, .ty "bool", .base (.int n), intBool, _, rfl, k⟩⟩
    · exact ⟨_, rfl, _, _, _, _, _, rfl, .ty "int", .base (.bl b), boolInt, _, rfl, iteT ⟨_, rfl, _, _, _, _, _, rfl, .ty "bool", .base (.bl b), boolBool, _, rfl, k⟩⟩
    · exact ⟨_, rfl, _, _, _, _, _, rfl, .ty "int", ht, hk, _, rfl, iteF k⟩
end
end Jr
namespace Jr
open PySem PySem.Spec PyProof.Rows L2
/-! ### a tuple in a list of tuples -/
theorem u65 {A : Around} {k : Nat} (hr : Room k A) : A.units + 65 < cLine := by have := hr.un; omega
def dP (r : Str × Str) : PyData := .tuple [.str r.1, .str r.2]
theorem dpP {K : PySem.W.Frag} {H : Hp} {a : Addr} {r : Str × Str} (h : TupAt H a r) : Dp K H (.ref a) (dP r) := .tup (SqT.of h) (.cons (.str _) (.cons (.str _) .nil))
theorem shP {r : Str × Str} (h : Asc r.1 ∧ Asc r.2) : SeqAt.shaped (dP r) = true := by
  unfold SeqAt.shaped dP
  have h1 := asc_ok h.1
  have h2 := asc_ok h.2
  have e1 : PyData.canLay0 (.tuple [.str r.1, .str r.2]) = true := by simp [PyData.canLay0, PyData.canLayAll0, h1, h2]
  have e2 : PyData.depth (.tuple [.str r.1, .str r.2]) = 1 := by simp [PyData.depth, PyData.depthAll]
  rw [e1, e2]; rfl
theorem anyP (rs : Rws) (r : Str × Str) : (rs.map fun r => PyData.tuple [.str r.1, .str r.2]).any (fun z => PyData.eqv z (dP r)) = decide (r ∈ rs) := by
  rw [List.any_map]
  have e : ∀ q : Str × Str, PyData.eqv (.tuple [.str q.1, .str q.2]) (dP r) = decide (q = r) := fun q => by
    obtain ⟨a, b⟩ := q
    obtain ⟨c, d⟩ := r
    simp only [dP, PyData.eqv, PyData.eqvAll]
    by_cases h : a = c
    · subst h
      by_cases h2 : b = d
      · subst h2; simp
      · simp [h2]
    · simp [h]
  by_cases h : r ∈ rs
  · rw [decide_eq_true h, List.any_eq_true]
    exact ⟨r, h, by show PyData.eqv _ _ = true; rw [e r]; simp⟩
  · rw [decide_eq_false h, List.any_eq_false]
    intro q hq hh
    have : PyData.eqv (.tuple [.str q.1, .str q.2]) (dP r) = true := hh
    rw [e q, decide_eq_true_eq] at this
    exact h (this ▸ hq)
end Jr
namespace Jr
open PySem PySem.Spec PyProof.Rows L2
section
variable {P : Program} {w : World} {K : PySem.W.Frag} {mg : Str → Option Value} {base : Heap}
def spCellAt (K : PySem.W.Frag) : Sp := fun vs H Q _ => ∃ (a : Addr) (ns : List Int) (k : Nat), vs = [.ref a, .int (k : Nat)] ∧ SqL K H a (ns.map V.int) ∧ ∀ c : Int, Q (.int c) H
theorem cal__law_cell_at (T : Tx K mg) : Cal P w K mg base CX0 1 "_law_cell_at" (spCellAt K) := by
  obtain ⟨fd, F⟩ := T.d__law_cell_at
  refine ⟨_, fd, P__law_cell_at, F.ok sc__law_cell_at (fun vs H Q E h => ?_) (fun cdv A outer s H vs Q E hr h => ?_), T.g__law_cell_at, F.kp, F.bindsN (ps := P__law_cell_at) fun _ _ _ _ _ _ us hl => match us, hl with | [_, _], _ => rfl⟩
  · obtain ⟨a, ns, i, rfl, _⟩ := h
    rfl
  · obtain ⟨a, ns, i, rfl, hS, k⟩ := h
    refine ⟨_, (PSs.nox (pss_cons (ps_if (pt_cmpR op_lt (pv 1) (pe_callB (id := "len") call_len_seq (by rfl) T.n_len (by decide +kernel) (pa_cons (pv 0) pa_nil)) (nomark _)) (pss_one (ps_ret (pe_ix ix_list (pv 0) (pv 1) (fun _ _ => rfl)))) pss_nil)
      (pss_one (ps_ret pe_int)))), ?_⟩
    refine ⟨_, rfl, _, rfl, _, _, rfl, .inl hS, _, _, rfl, rfl, _, rfl, ite2 (fun c => ?_) (fun c => k 0)⟩
    have c' : i < ns.length := by
      have := of_decide_eq_true c
      rw [List.length_map] at this
      omega
    exact ⟨_, rfl, _, rfl, _, _, _, _, rfl, rfl, hS, atm (f := V.int) (List.getElem?_eq_getElem c'), k _⟩
end
end Jr
namespace Jr
open PySem PySem.Spec PyProof.Rows L2
def seenD (ws : Gws) : List (List Key × V) := ws.map fun w => (gky w.1 w.2.1, .bl true)
theorem seenD_val : ∀ (ws : Gws) (s c : Nat), (valV (seenD ws) (gky s c)).isSome = (wayTo ws s c).isSome
  | [], _, _ => rfl
  | w :: ws, s, c => by
    rw [wayTo_cons]
    by_cases h : w.1 = s ∧ w.2.1 = c
    · rw [if_pos h]
      show (valV ((gky w.1 w.2.1, V.bl true) :: seenD ws) _).isSome = _
      rw [h.1, h.2, valV_pos rfl]
      rfl
    · rw [if_neg h]
      show (valV ((gky w.1 w.2.1, V.bl true) :: seenD ws) _).isSome = _
      rw [valV_neg (fun e => h (gky_inj e)), seenD_val ws s c]
theorem seenD_len (ws : Gws) : (seenD ws).length = ws.length := by unfold seenD; rw [List.length_map]
theorem seenD_snoc (ws : Gws) (w : Nat × Nat × Nat) : seenD (ws ++ [w]) = seenD ws ++ [(gky w.1 w.2.1, .bl true)] := by unfold seenD; rw [List.map_append]; rfl
def sgnsG : Str := Str.ofString " !\"#$&'()*+,-./0123456789:;<=>?@ABCDEFGHIJKLMNOPQRSTUVWXYZ[\\]^_`" ++ Str.ofString "abcdefghijklmnopqrstuvwxyz{|}~"
theorem sgnsG_a : ∀ c ∈ sgnsG.cps.toList, 32 ≤ c ∧ c ≤ 126 ∧ c ≠ 37 := by decide +kernel
theorem sgnsG_b : ∀ c : Fin 127, 32 ≤ c.1 → c.1 ≠ 37 → c.1 ∈ sgnsG.cps.toList := by decide +kernel
theorem sgnsG_mem (c : Nat) : decide (c ∈ sgnsG.cps.toList) = decide (32 ≤ c ∧ c ≤ 126 ∧ c ≠ 37) := by
  by_cases h : 32 ≤ c ∧ c ≤ 126 ∧ c ≠ 37
  · rw [decide_eq_true h, decide_eq_true (sgnsG_b ⟨c, by omega⟩ h.1 h.2.2)]
  · rw [decide_eq_false h, decide_eq_false (fun e => h (sgnsG_a c e))]
section
variable {P : Program} {w : World} {K : PySem.W.Frag} {mg : Str → Option Value} {base : Heap}
def spLSign (K : PySem.W.Frag) : Sp := fun vs H Q _ => ∃ (u : V) (o : Option Nat), vs = [u] ∧ SgV K H u o ∧ Q (.bl o.isSome) H
theorem cal__law_is_sign (T : Tx K mg) : Cal P w K mg base CX0 1 "_law_is_sign" (spLSign K) := by
  obtain ⟨fd, F⟩ := T.d__law_is_sign
  refine ⟨_, fd, P__law_is_sign, F.ok sc__law_is_sign (fun vs H Q E h => ?_) (fun cdv A outer s H vs Q E hr h => ?_), T.g__law_is_sign, F.kp, F.bindsN (ps := P__law_is_sign) fun _ _ _ _ _ _ us hl => match us, hl with | [_], _ => rfl⟩
  · obtain ⟨u, o, rfl, _⟩ := h
    rfl
  · obtain ⟨u, o, rfl, sg, k⟩ := h
    refine ⟨_, (PSs.nox (pss_cons (ps_set (i := 1) sc__law_is_sign.nd rfl (Or.inl rfl) pe_str)
      (pss_cons (ps_set (i := 1) sc__law_is_sign.nd rfl (Or.inl rfl) (pe_op op_add_str (pv 1) pe_str))
      (pss_one (ps_ret (pe_and (pe_callB (id := "isinstance") call_isi (by rfl) T.n_isinstance (by decide +kernel) (pa_cons (pv 0) (pa_cons (pe_bltn (v := .ty "str") (by rfl) T.n_str (by decide +kernel) rfl) pa_nil))) (pe_and (pe_cmpR op_eq (pe_callB (id := "len") call_len_str (by rfl) T.n_len (by decide +kernel) (pa_cons (pv 0) pa_nil)) pe_int (nomark _)) (pe_one (pe_cmpR op_in_sign (pv 0) (pv 1) rfl))))))))), ?_⟩
    refine ⟨_, rfl, _, _, rfl, rfl, (by decide +kernel), ?_⟩
    show gName 1 (V.str sgnsG) _ _ _
    cases o with
    | some c =>
      obtain ⟨rfl, oc⟩ := sg
      refine ⟨_, rfl, _, _, _, _, _, rfl, .ty "str", .base (.str _), isStr, _, rfl, iteT ?_⟩
      refine ⟨_, rfl, _, rfl, (by show 1 ≤ sizeLine; decide), rfl, _, rfl, ?_⟩
      have e1 : decide (V.int (((sgn c).length : Nat) : Int) = V.int 1) = true := decide_eq_true rfl
      rw [e1]
      refine iteT ⟨_, rfl, _, rfl, c, _, rfl, rfl, ?_⟩
      rw [sgnsG_mem, decide_eq_true oc]
      exact k
    | none =>
      rcases sg with ⟨ty, hty, hk⟩ | ⟨t, rfl, tl, nt⟩
      · exact ⟨_, rfl, _, _, _, _, _, rfl, .ty "str", hty, hk, _, rfl, iteF k⟩
      refine ⟨_, rfl, _, _, _, _, _, rfl, .ty "str", .base (.str _), isStr, _, rfl, iteT ?_⟩
      refine ⟨_, rfl, _, rfl, sz tl, rfl, _, rfl, ?_⟩
      by_cases l1 : t.length = 1
      · rw [decide_eq_true (show V.int ((t.length : Nat) : Int) = V.int 1 by rw [l1]; rfl)]
        obtain ⟨c, hc⟩ : ∃ c, t = sgn c := by
          have hl : t.cps.toList.length = 1 := by rw [len_cps, l1]
          obtain ⟨c, hc⟩ := List.length_eq_one_iff.mp hl
          exact ⟨c, str_ext hc⟩
        subst hc
        refine iteT ⟨_, rfl, _, rfl, c, _, rfl, rfl, ?_⟩
        rw [sgnsG_mem, decide_eq_false (nt c rfl)]
        exact k
      · rw [decide_eq_false (show ¬ V.int ((t.length : Nat) : Int) = V.int 1 from fun e => l1 (by have := V.int.inj e; omega))]
        exact iteF k
def spLState (K : PySem.W.Frag) : Sp := fun vs H Q _ => ∃ (u : V) (m : Nat) (o : Option Nat), vs = [u, .int (m : Nat)] ∧ StV K H m u o ∧ Q (.bl o.isSome) H
theorem cal__law_is_state (T : Tx K mg) : Cal P w K mg base CX0 2 "_law_is_state" (spLState K) := by
  have C__law_whole := cal__law_whole (P := P) (w := w) (base := base) T
  obtain ⟨fd, F⟩ := T.d__law_is_state
  refine ⟨_, fd, P__law_is_state, F.ok sc__law_is_state (fun vs H Q E h => ?_) (fun cdv A outer s H vs Q E hr h => ?_), T.g__law_is_state, F.kp, F.bindsN (ps := P__law_is_state) fun _ _ _ _ _ _ us hl => match us, hl with | [_, _], _ => rfl⟩
  · obtain ⟨u, m, o, rfl, _⟩ := h
    rfl
  · obtain ⟨u, m, o, rfl, st, k⟩ := h
    refine ⟨_, (PSs.nox (pss_one (ps_ret (pe_and (pe_cal C__law_whole (by first | exact hr | exact hr.mono (by decide)) (by rfl) (pa_cons (pv 0) pa_nil)) (pe_one (pe_chain op_le op_lt pe_int (pv 0) (pv 1))))))), ?_⟩
    cases o with
    | some n =>
      obtain ⟨rfl, hn⟩ := st
      refine ⟨_, rfl, .int (n : Nat), rfl, .inl ⟨_, rfl, _, rfl, iteT ?_⟩⟩
      refine ⟨_, rfl, _, _, rfl, rfl, _, rfl, ite2 (fun c => ⟨_, rfl, _, _, rfl, rfl, ?_⟩) (fun c => ?_)⟩
      · have e : decide (((n : Nat) : Int) < ((m : Nat) : Int)) = true := decide_eq_true (by omega)
        show Q (V.bl (decide (((n : Nat) : Int) < ((m : Nat) : Int)))) H
        rw [e]; exact k
      · have c' : ¬ (0 : Int) ≤ ((n : Nat) : Int) := of_decide_eq_false (by simpa using c)
        omega
    | none =>
      rcases st with ⟨n, rfl, c⟩ | h
      · refine ⟨_, rfl, .int n, rfl, .inl ⟨_, rfl, _, rfl, iteT ?_⟩⟩
        refine ⟨_, rfl, _, _, rfl, rfl, _, rfl, ite2 (fun c1 => ⟨_, rfl, _, _, rfl, rfl, ?_⟩) (fun c1 => k)⟩
        have c' : (0 : Int) ≤ n := of_decide_eq_true c1
        have e : decide (n < ((m : Nat) : Int)) = false := decide_eq_false fun z => c ⟨c', by omega⟩
        show Q (V.bl (decide (n < ((m : Nat) : Int)))) H
        rw [e]; exact k
      · exact ⟨_, rfl, u, rfl, .inr ⟨h, _, rfl, iteF k⟩⟩
def GGram (K : PySem.W.Frag) (H : Hp) (mv wv ev : V) (m : Nat) (ws : Gws) (es : List Nat) : Prop := ∃ (p q : Addr) (us us2 : List V), mv = .int (m : Nat) ∧ 1 ≤ m ∧ m ≤ 4 ∧ wv = .ref p ∧ H p = some (.lst us) ∧ WaysTo K H m us ws ∧ ws.length = us.length ∧
    ev = .ref q ∧ H q = some (.lst us2) ∧ EndsTo K H m us2 es ∧ es.length = us2.length
def spDue70 (K : PySem.W.Frag) : Sp := fun vs H Q _ => ∃ (mv wv ev : V), vs = [mv, wv, ev] ∧
  ((∃ part u, WGram K H mv wv ev part u ∧ ∀ H' q, Same H H' → H' q = some (.lst [.int 1, .str part, u]) → Q (.ref q) H') ∨ (∃ m ws es, GGram K H mv wv ev m ws es ∧ ∀ H' q, Same H H' → H' q = some (.lst []) → Q (.ref q) H'))
theorem cal__law_due70 (T : Tx K mg) : Cal P w K mg base CX0 3 "_law_due" (spDue70 K) := by
  have C__law_whole := cal__law_whole (P := P) (w := w) (base := base) T
  have C__law_is_state := cal__law_is_state (P := P) (w := w) (base := base) T
  have C__law_is_sign := cal__law_is_sign (P := P) (w := w) (base := base) T
  obtain ⟨fd, F⟩ := T.d__law_due
  refine ⟨_, fd, P__law_due, F.ok sc__law_due (fun vs H Q E h => ?_) (fun cdv A outer s H vs Q E hr h => ?_), T.g__law_due, F.kp, F.bindsN (ps := P__law_due) fun _ _ _ _ _ _ us hl => match us, hl with | [_, _, _], _ => rfl⟩
  · obtain ⟨mv, wv, ev, rfl, _⟩ := h
    rfl
  · obtain ⟨mv, wv, ev, rfl, h⟩ := h
    refine ⟨_, (PSs.nox (pss_cons (ps_if (PW.pt (pw_or (pt_not (pt_val (pe_cal C__law_whole (by first | exact hr | exact hr.mono (by decide)) (by rfl) (pa_cons (pv 0) pa_nil)))) (pw_or1 (pt_not (pt_chain op_le op_le pe_int (pv 0) pe_int))))) (pss_one (ps_ret (pe_lstG (pa_cons pe_int (pa_cons pe_str (pa_cons pe_non pa_nil)))))) pss_nil)
      (pss_cons (ps_if (PW.pt (pw_or (pt_not (pt_val (pe_callB (id := "isinstance") call_isi (by rfl) T.n_isinstance (by decide +kernel) (pa_cons (pv 1) (pa_cons (pe_bltn (v := .ty "list") (by rfl) T.n_list (by decide +kernel) rfl) pa_nil))))) (pw_or1 (pt_cmpR op_gt (pe_callB (id := "len") call_len_seq (by rfl) T.n_len (by decide +kernel) (pa_cons (pv 1) pa_nil)) pe_int (nomark _))))) (pss_one (ps_ret (pe_lstG (pa_cons pe_int (pa_cons pe_str (pa_cons pe_non pa_nil)))))) pss_nil)
      (pss_cons (ps_set (i := 3) sc__law_due.nd rfl (Or.inl rfl) pe_dnewT)
      (pss_cons (ps_for PassesOwn.never rfl (pi_enum (by rfl) T.n_enumerate (pa_cons (pv 1) pa_nil)) (pg_tup rfl (pgs_cons (pg_name (i := 4) sc__law_due.nd rfl (Or.inl rfl)) (pgs_cons (pg_name (i := 5) sc__law_due.nd rfl (Or.inl rfl)) pgs_nil))) (pss_cons (ps_if (PW.pt (pw_or (pt_not (pt_val (pe_callB (id := "isinstance") call_isi (by rfl) T.n_isinstance (by decide +kernel) (pa_cons (pv 5) (pa_cons (pe_bltn (v := .ty "tuple") (by rfl) T.n_tuple (by decide +kernel) rfl) pa_nil))))) (pw_or (pt_cmpR op_ne (pe_callB (id := "len") call_len_seq (by rfl) T.n_len (by decide +kernel) (pa_cons (pv 5) pa_nil)) pe_int (nomark _)) (pw_or1 (pt_not (pt_val (pe_cal C__law_is_state (by first | exact hr | exact hr.mono (by decide)) (by rfl) (pa_cons (pe_ix ix_tup (pv 5) pe_int (fun _ _ => rfl)) (pa_cons (pv 0) pa_nil))))))))) (pss_one (ps_ret (pe_lstG (pa_cons pe_int (pa_cons pe_str (pa_cons (pv 4) pa_nil)))))) pss_nil)
      (pss_cons (ps_if (PW.pt (pw_or (pt_not (pt_val (pe_cal C__law_is_sign (by first | exact hr | exact hr.mono (by decide)) (by rfl) (pa_cons (pe_ix ix_tup (pv 5) pe_int (fun _ _ => rfl)) pa_nil)))) (pw_or (pt_not (pt_val (pe_cal C__law_is_state (by first | exact hr | exact hr.mono (by decide)) (by rfl) (pa_cons (pe_ix ix_tup (pv 5) pe_int (fun _ _ => rfl)) (pa_cons (pv 0) pa_nil))))) (pw_or1 (pt_cmp (pc_din (hu_of hr) (pe_tupG (pa_cons (pe_ix ix_tup (pv 5) pe_int (fun _ _ => rfl)) (pa_cons (pe_ix ix_tup (pv 5) pe_int (fun _ _ => rfl)) pa_nil))) (pv 3))))))) (pss_one (ps_ret (pe_lstG (pa_cons pe_int (pa_cons pe_str (pa_cons (pv 4) pa_nil)))))) pss_nil)
      (pss_one (ps_dput (hu_of hr) (pv 3) (pe_tupG (pa_cons (pe_ix ix_tup (pv 5) pe_int (fun _ _ => rfl)) (pa_cons (pe_ix ix_tup (pv 5) pe_int (fun _ _ => rfl)) pa_nil))) pe_bl rfl)))))
      (pss_cons (ps_if (pt_not (pt_val (pe_callB (id := "isinstance") call_isi (by rfl) T.n_isinstance (by decide +kernel) (pa_cons (pv 2) (pa_cons (pe_bltn (v := .ty "list") (by rfl) T.n_list (by decide +kernel) rfl) pa_nil))))) (pss_one (ps_ret (pe_lstG (pa_cons pe_int (pa_cons pe_str (pa_cons pe_non pa_nil)))))) pss_nil)
      (pss_cons (ps_for PassesOwn.never rfl (pi_enum (by rfl) T.n_enumerate (pa_cons (pv 2) pa_nil)) (pg_tup rfl (pgs_cons (pg_name (i := 4) sc__law_due.nd rfl (Or.inl rfl)) (pgs_cons (pg_name (i := 6) sc__law_due.nd rfl (Or.inl rfl)) pgs_nil))) (pss_one (ps_if (PW.pt (pw_or (pt_not (pt_val (pe_cal C__law_is_state (by first | exact hr | exact hr.mono (by decide)) (by rfl) (pa_cons (pv 6) (pa_cons (pv 0) pa_nil))))) (pw_or1 (pt_cmpR op_in_seq (pv 6) (pe_slice sl_listG (pv 2) po_none (po_some (pv 4))) rfl)))) (pss_one (ps_ret (pe_lstG (pa_cons pe_int (pa_cons pe_str (pa_cons (pv 4) pa_nil)))))) pss_nil)))
      (pss_one (ps_ret (pe_lstG pa_nil)))))))))), ?_⟩
    have h' : ((NoPl K H mv 4 ∨ mv = .int 0) ∧ ∀ H' q, Same H H' → H' q = some (.lst [.int 1, .str (Str.ofString "many"), .non]) → Q (.ref q) H') ∨ ∃ m : Nat, mv = .int (m : Nat) ∧ 1 ≤ m ∧ m ≤ 4 ∧ ((∃ u, WWays K H m wv u ∧ ∀ H' q, Same H H' → H' q = some (.lst [.int 1, .str (Str.ofString "ways"), u]) → Q (.ref q) H') ∨ ∃ p us ws, wv = .ref p ∧ H p = some (.lst us) ∧ WaysTo K H m us ws ∧ ws.length = us.length ∧
        ((∃ u, WEnds K H m ev u ∧ ∀ H' q, Same H H' → H' q = some (.lst [.int 1, .str (Str.ofString "ends"), u]) → Q (.ref q) H') ∨ ∃ q us2 es, ev = .ref q ∧ H q = some (.lst us2) ∧ EndsTo K H m us2 es ∧ es.length = us2.length ∧ ∀ H' q, Same H H' → H' q = some (.lst []) → Q (.ref q) H')) := by
      rcases h with ⟨part, u, ⟨rfl, hm, rfl⟩ | ⟨m, e, m1, m4, ⟨rfl, ww⟩ | ⟨p, us, ws, ew, hp, wt, wl, rfl, we⟩⟩, k⟩ | ⟨m, ws, es, ⟨p, q, us, us2, e, m1, m4, ew, hp, wt, wl, ee, hq, et, el⟩, k⟩
      · exact .inl ⟨hm, k⟩
      · exact .inr ⟨m, e, m1, m4, .inl ⟨u, ww, k⟩⟩
      · exact .inr ⟨m, e, m1, m4, .inr ⟨p, us, ws, ew, hp, wt, wl, .inl ⟨u, we, k⟩⟩⟩
      · exact .inr ⟨m, e, m1, m4, .inr ⟨p, us, ws, ew, hp, wt, wl, .inr ⟨q, us2, es, ee, hq, et, el, k⟩⟩⟩
    rcases h' with ⟨hm, k⟩ | ⟨m, rfl, m1, m4, h⟩
    · rcases hm with (⟨n, rfl, c⟩ | hn) | rfl
      · refine ⟨_, rfl, .int n, rfl, .inl ⟨n, rfl, _, rfl, iteF ?_⟩⟩
        refine ⟨_, rfl, _, _, rfl, rfl, _, rfl, ite2 (fun c1 => ⟨_, _, rfl, rfl, ?_⟩) (fun c1 => ?_)⟩
        · have c' : (1 : Int) ≤ n := of_decide_eq_true c1
          refine ⟨_, rfl, ?_⟩
          rw [decide_eq_false (show ¬ n ≤ 4 from fun z => c ⟨by omega, z⟩)]
          exact iteT ⟨(by show 3 ≤ sizeLine; decide), fun q H1 nq s1 hq => k _ q s1 hq⟩
        · exact ⟨_, rfl, iteT ⟨(by show 3 ≤ sizeLine; decide), fun q H1 nq s1 hq => k _ q s1 hq⟩⟩
      · refine ⟨_, rfl, mv, rfl, .inr ⟨hn, _, rfl, iteT ⟨(by show 3 ≤ sizeLine; decide), fun q H1 nq s1 hq => k _ q s1 hq⟩⟩⟩
      · refine ⟨_, rfl, .int 0, rfl, .inl ⟨0, rfl, _, rfl, iteF ?_⟩⟩
        refine ⟨_, rfl, _, _, rfl, rfl, _, rfl, ite2 (fun c1 => ?_) (fun c1 => ?_)⟩
        · have c' : (1 : Int) ≤ 0 := of_decide_eq_true c1
          omega
        · exact ⟨_, rfl, iteT ⟨(by show 3 ≤ sizeLine; decide), fun q H1 nq s1 hq => k _ q s1 hq⟩⟩
    refine ⟨_, rfl, .int (m : Nat), rfl, .inl ⟨_, rfl, _, rfl, iteF ?_⟩⟩
    refine ⟨_, rfl, _, _, rfl, rfl, _, rfl, ite2 (fun c1 => ⟨_, _, rfl, rfl, ?_⟩) (fun c1 => ?_)⟩
    rotate_left
    · have c' : ¬ (1 : Int) ≤ ((m : Nat) : Int) := of_decide_eq_false (by simpa using c1)
      omega
    refine ⟨_, rfl, ?_⟩
    rw [decide_eq_true (show ((m : Nat) : Int) ≤ 4 by omega)]
    refine iteF ?_
    have hw : (NoLst K H wv ∧ ∀ H' q, Same H H' → H' q = some (.lst [.int 1, .str (Str.ofString "ways"), .non]) → Q (.ref q) H') ∨ ∃ p us, wv = .ref p ∧ H p = some (.lst us) ∧ us.length ≤ 1000 ∧ ((48 < us.length ∧ ∀ H' q, Same H H' → H' q = some (.lst [.int 1, .str (Str.ofString "ways"), .non]) → Q (.ref q) H') ∨ (us.length ≤ 48 ∧ ∃ ws, WaysTo K H m us ws ∧
        ((ws.length < us.length ∧ ∀ H' q, Same H H' → H' q = some (.lst [.int 1, .str (Str.ofString "ways"), .int (ws.length : Nat)]) → Q (.ref q) H') ∨ (ws.length = us.length ∧
        ((∃ u, WEnds K H m ev u ∧ ∀ H' q, Same H H' → H' q = some (.lst [.int 1, .str (Str.ofString "ends"), u]) → Q (.ref q) H') ∨ ∃ q us2 es, ev = .ref q ∧ H q = some (.lst us2) ∧ EndsTo K H m us2 es ∧ es.length = us2.length ∧ ∀ H' q, Same H H' → H' q = some (.lst []) → Q (.ref q) H'))))) := by
      rcases h with ⟨u, ⟨h, rfl⟩ | ⟨a, us, e, hA, ul, l48, rfl⟩ | ⟨a, us, ws, e, hA, ul, wt, wl, rfl⟩, k⟩ | ⟨p, us, ws, e, hp, wt, wl, h⟩
      · exact .inl ⟨h, k⟩
      · exact .inr ⟨a, us, e, hA, ul, .inl ⟨l48, k⟩⟩
      · exact .inr ⟨a, us, e, hA, by omega, .inr ⟨ul, ws, wt, .inl ⟨wl, k⟩⟩⟩
      · have := wt.ok.len
        exact .inr ⟨p, us, e, hp, by omega, .inr ⟨by omega, ws, wt, .inr ⟨wl, h⟩⟩⟩
    rcases hw with ⟨⟨ty, hty, hk⟩, k⟩ | ⟨p, us, rfl, hp, ul, hw⟩
    · exact ⟨_, rfl, _, _, _, _, _, rfl, .ty "list", hty, hk, _, rfl, iteT ⟨(by show 3 ≤ sizeLine; decide), fun q H1 nq s1 hq => k _ q s1 hq⟩⟩
    refine ⟨_, rfl, _, _, _, _, _, rfl, .ty "list", .base (.lst hp), isLst, _, rfl, iteF ?_⟩
    refine ⟨_, rfl, p, _, rfl, .inl (SqL.of hp), _, _, rfl, rfl, _, rfl, ?_⟩
    rcases hw with ⟨l48, k⟩ | ⟨l48, ws, wt, hrt⟩
    · rw [decide_eq_true (show (48 : Int) < ((us.length : Nat) : Int) by omega)]
      exact iteT ⟨(by show 3 ≤ sizeLine; decide), fun q H1 nq s1 hq => k _ q s1 hq⟩
    rw [decide_eq_false (show ¬ (48 : Int) < ((us.length : Nat) : Int) by omega)]
    refine iteF ?_
    intro dw hdw
    have sd := Same.new (o := .dT (seenD (ws.take 0))) hdw
    have hd0 : upd H dw (.dT (seenD (ws.take 0))) dw = some (.dT (seenD (ws.take 0))) := upd_same
    show gName 3 (.ref dw) _ (upd H dw (.dT (seenD (ws.take 0)))) _
    revert sd hd0
    generalize (upd H dw (.dT (seenD (ws.take 0)))) = H0
    intro sd hd0
    have wl := wt.le
    have at0 : ∀ (u v x : V), atI [u, v, x] 0 = some u := fun u v x => (show atI _ ((0 : Nat) : Int) = _ from ats rfl)
    have at1 : ∀ (u v x : V), atI [u, v, x] 1 = some v := fun u v x => (show atI _ ((1 : Nat) : Int) = _ from ats rfl)
    have at2 : ∀ (u v x : V), atI [u, v, x] 2 = some x := fun u v x => (show atI _ ((2 : Nat) : Int) = _ from ats rfl)
    refine ⟨_, rfl, p, _, rfl, SqL.of (sd _ _ hp), for_enum (K := K) (a := p) (xs := us) (fun i σ H' => ∃ (u4 u5 u6 : Option V), σ = [some (.int (m : Nat)), some (.ref p), some ev, some (.ref dw), u4, u5, u6] ∧ i ≤ ws.length ∧ Same H H' ∧ H' dw = some (.dT (seenD (ws.take i))))
      ⟨_, _, _, rfl, Nat.zero_le _, sd, hd0⟩ (fun i σ H' _ ⟨_, _, _, _, _, s, _⟩ => SqL.of (s _ _ hp)) ?_ ?_⟩
    · rintro i y t σ H1 hi ht ⟨u4, u5, u6, rfl, il, s1, hd1⟩
      have st := Same.new (o := .tup [.int (i : Nat), y]) ht
      refine ⟨t, _, rfl, SqT.of upd_same, rfl, _, _, rfl, _, _, rfl, rfl, ?_⟩
      have s2 := s1.trans st
      have hd2 := st _ _ hd1
      revert s2 hd2
      generalize (upd H1 t (.tup [.int (i : Nat), y])) = H2
      intro s2 hd2
      have iu := (List.getElem?_eq_some_iff.mp hi).1
      obtain ⟨o, wy, hbad, hgood⟩ : ∃ o, WyV K H m y o ∧ (okWay (ws.take i) o = false → ∀ H' q, Same H H' → H' q = some (.lst [.int 1, .str (Str.ofString "ways"), .int (i : Nat)]) → Q (.ref q) H') ∧ (okWay (ws.take i) o = true → ∃ w, o = some w ∧ ws[i]? = some w) := by
        by_cases c : i = ws.length
        · subst c
          rcases hrt with ⟨rl, k⟩ | ⟨rl, _⟩
          · obtain ⟨o, wy, ko⟩ := wt.nx y hi
            refine ⟨o, wy, fun _ => k, fun e => ?_⟩
            rw [List.take_length, ko] at e
            cases e
          · omega
        · have il2 : i < ws.length := by omega
          obtain ⟨w, hw⟩ : ∃ w, ws[i]? = some w := ⟨_, List.getElem?_eq_getElem il2⟩
          obtain ⟨v, hv, wy⟩ := wt.pre i w hw
          rw [hi] at hv
          cases hv
          refine ⟨some w, wy, fun e => ?_, fun _ => ⟨w, rfl, hw⟩⟩
          have nw := wt.ok.new i w hw
          have : okWay (ws.take i) (some w) = true := by
            show (wayTo (ws.take i) w.1 w.2.1).isNone = true
            rw [nw]; rfl
          rw [this] at e
          cases e
      have tri : (NoTup K H y ∧ okWay (ws.take i) o = false) ∨ (∃ a us, y = .ref a ∧ H a = some (.tup us) ∧ us.length ≠ 3 ∧ us.length ≤ 1000 ∧ okWay (ws.take i) o = false) ∨ ∃ a u1 u2 u3 o1 o2 o3, y = .ref a ∧ H a = some (.tup [u1, u2, u3]) ∧ StV K H m u1 o1 ∧ SgV K H u2 o2 ∧ StV K H m u3 o3 ∧
          ((o1 = none ∨ o2 = none ∨ o3 = none) → okWay (ws.take i) o = false) ∧ ∀ n c t, o1 = some n → o2 = some c → o3 = some t → okWay (ws.take i) o = (wayTo (ws.take i) n c).isNone ∧ o = some (n, c, t) := by
        cases o with
        | some q =>
          obtain ⟨a, e, ha, h1, h2, h3⟩ := wy
          refine .inr (.inr ⟨a, _, _, _, some q.1, some q.2.1, some q.2.2, e, ha, ⟨rfl, h1⟩, ⟨rfl, h3⟩, ⟨rfl, h2⟩, fun z => ?_, fun n c t e1 e2 e3 => ?_⟩)
          · rcases z with z | z | z <;> cases z
          · cases e1; cases e2; cases e3; exact ⟨rfl, rfl⟩
        | none =>
          rcases wy with h | ⟨a, us, e, hA, ul, h | ⟨u1, u2, u3, o1, o2, o3, rfl, h1, h2, h3, h4⟩⟩
          · exact .inl ⟨h, rfl⟩
          · exact .inr (.inl ⟨a, us, e, hA, h, ul, rfl⟩)
          · refine .inr (.inr ⟨a, u1, u2, u3, o1, o2, o3, e, hA, h1, h2, h3, fun _ => rfl, fun n c t e1 e2 e3 => ?_⟩)
            rcases h4 with z | z | z
            · rw [z] at e1; cases e1
            · rw [z] at e2; cases e2
            · rw [z] at e3; cases e3
      rcases tri with ⟨⟨ty, hty, hk⟩, eo⟩ | ⟨a, us', rfl, hA, n3, ul', eo⟩ | ⟨a, u1, u2, u3, o1, o2, o3, rfl, hA, h1, h2, h3, hb3, hg3⟩
      · exact ⟨_, rfl, _, _, _, _, _, rfl, .ty "tuple", tyx_same hty s2, hk, _, rfl, iteT ⟨_, rfl, (by show 3 ≤ sizeLine; decide), fun q H3 nq s3 hq => hbad eo _ q (s2.trans s3) hq⟩⟩
      · have hA2 := s2 _ _ hA
        refine ⟨_, rfl, _, _, _, _, _, rfl, .ty "tuple", .base (.tup hA2), isTup, _, rfl, iteF ⟨_, rfl, a, _, rfl, .inr (SqT.of hA2), rfl, _, rfl, ?_⟩⟩
        have e : decide (V.int ((us'.length : Nat) : Int) = V.int 3) = false := decide_eq_false fun e => n3 (by have := V.int.inj e; omega)
        rw [e]
        exact iteT ⟨_, rfl, (by show 3 ≤ sizeLine; decide), fun q H3 nq s3 hq => hbad eo _ q (s2.trans s3) hq⟩
      have hA2 := s2 _ _ hA
      refine ⟨_, rfl, _, _, _, _, _, rfl, .ty "tuple", .base (.tup hA2), isTup, _, rfl, iteF ⟨_, rfl, a, _, rfl, .inr (SqT.of hA2), rfl, _, rfl, ?_⟩⟩
      have e : decide (V.int ((([u1, u2, u3] : List V).length : Nat) : Int) = V.int 3) = true := decide_eq_true rfl
      rw [e]
      refine iteF ?_
      refine ⟨_, rfl, a, _, _, _, rfl, rfl, SqT.of hA2, at0 _ _ _, _, rfl, u1, m, o1, rfl, h1.same s2, _, rfl, ?_⟩
      cases o1 with
      | none => exact iteT ⟨_, rfl, (by show 3 ≤ sizeLine; decide), fun q H3 nq s3 hq => hbad (hb3 (.inl rfl)) _ q (s2.trans s3) hq⟩
      | some n1 =>
      refine iteF ?_
      refine ⟨_, rfl, a, _, _, _, rfl, rfl, SqT.of hA2, at1 _ _ _, u2, o2, rfl, h2.same s2, _, rfl, ?_⟩
      cases o2 with
      | none => exact iteT ⟨_, rfl, (by show 3 ≤ sizeLine; decide), fun q H3 nq s3 hq => hbad (hb3 (.inr (.inl rfl))) _ q (s2.trans s3) hq⟩
      | some c2 =>
      refine iteF ?_
      refine ⟨_, rfl, a, _, _, _, rfl, rfl, SqT.of hA2, at2 _ _ _, _, rfl, u3, m, o3, rfl, h3.same s2, _, rfl, ?_⟩
      cases o3 with
      | none => exact iteT ⟨_, rfl, (by show 3 ≤ sizeLine; decide), fun q H3 nq s3 hq => hbad (hb3 (.inr (.inr rfl))) _ q (s2.trans s3) hq⟩
      | some t3 =>
      refine iteF ?_
      obtain ⟨eok, eo⟩ := hg3 n1 c2 t3 rfl rfl rfl
      obtain ⟨rfl, _⟩ := h1
      obtain ⟨rfl, _⟩ := h2
      refine ⟨_, rfl, a, _, _, _, rfl, rfl, SqT.of hA2, at0 _ _ _, _, rfl, a, _, _, _, rfl, rfl, SqT.of hA2, at1 _ _ _, (by show 2 ≤ sizeLine; decide), fun tq H3 ntq s3 htq => ?_⟩
      have s03 := s2.trans s3
      refine ⟨_, rfl, dw, _, rfl, DGet.t (k := gky n1 c2) (s3 _ _ hd2) htq, ?_⟩
      rw [seenD_val]
      cases ew : wayTo (ws.take i) n1 c2 with
      | some q2 =>
        rw [ew] at eok
        exact ⟨_, rfl, iteT ⟨_, rfl, (by show 3 ≤ sizeLine; decide), fun q H4 nq s4 hq => hbad eok _ q (s03.trans s4) hq⟩⟩
      | none =>
        rw [ew] at eok
        obtain ⟨w, ew2, hwi⟩ := hgood eok
        rw [eo] at ew2
        cases ew2
        have il2 := (List.getElem?_eq_some_iff.mp hwi).1
        have hA3 := s3 _ _ hA2
        refine ⟨_, rfl, iteF ?_⟩
        refine ⟨_, rfl, _, rfl, a, _, _, _, rfl, rfl, SqT.of hA3, at0 _ _ _, _, rfl, a, _, _, _, rfl, rfl, SqT.of hA3, at1 _ _ _, (by show 2 ≤ sizeLine; decide), fun tq4 H4 ntq4 s4 htq4 => ?_⟩
        refine ⟨dw, _, rfl, DPut.t (k := gky n1 c2) (s4 _ _ (s3 _ _ hd2)) htq4 (by rw [seenD_len, List.length_take]; exact szl (by omega)), ?_⟩
        have ev : valV (seenD (ws.take i)) (gky n1 c2) = none := by
          have := seenD_val (ws.take i) n1 c2
          rw [ew] at this
          cases h : valV (seenD (ws.take i)) (gky n1 c2) with
          | none => rfl
          | some x => rw [h] at this; cases this
        rw [putK_new _ ev]
        have ed : seenD (ws.take i) ++ [(gky n1 c2, V.bl true)] = seenD (ws.take (i + 1)) := by
          rw [List.take_add_one, hwi]
          exact (seenD_snoc (ws.take i) (n1, c2, t3)).symm
        rw [ed]
        exact ⟨_, _, _, rfl, il2, Same.mut (s03.trans s4) hdw, upd_same⟩
    · rintro σ H1 ⟨u4, u5, u6, rfl, il, s1, hd1⟩
      rcases hrt with ⟨rl, _⟩ | ⟨_, hrt⟩
      · omega
      have he' : (NoLst K H ev ∧ ∀ H' q, Same H H' → H' q = some (.lst [.int 1, .str (Str.ofString "ends"), .non]) → Q (.ref q) H') ∨ ∃ q us2 es, ev = .ref q ∧ H q = some (.lst us2) ∧ us2.length ≤ 1000 ∧ EndsTo K H m us2 es ∧ ((es.length < us2.length ∧ ∀ H' q, Same H H' → H' q = some (.lst [.int 1, .str (Str.ofString "ends"), .int (es.length : Nat)]) → Q (.ref q) H') ∨ (es.length = us2.length ∧ ∀ H' q, Same H H' → H' q = some (.lst []) → Q (.ref q) H')) := by
        rcases hrt with ⟨u, ⟨nl, rfl⟩ | ⟨a, us2, es, e, hA, ul, et, el, rfl⟩, k⟩ | ⟨q, us2, es, e, hq, et, el, k⟩
        · exact .inl ⟨nl, k⟩
        · exact .inr ⟨a, us2, es, e, hA, ul, et, .inl ⟨el, k⟩⟩
        · have := nodup_lt et.lt et.nd
          exact .inr ⟨q, us2, es, e, hq, by omega, et, .inr ⟨el, k⟩⟩
      rcases he' with ⟨⟨ty, hty, hk⟩, k⟩ | ⟨qe, us2, es, rfl, hqe, ul2, et, hre⟩
      · exact ⟨_, rfl, _, _, _, _, _, rfl, .ty "list", tyx_same hty s1, hk, _, rfl, iteT ⟨(by show 3 ≤ sizeLine; decide), fun q H3 nq s3 hq => k _ q (s1.trans s3) hq⟩⟩
      have hqe1 := s1 _ _ hqe
      refine ⟨_, rfl, _, _, _, _, _, rfl, .ty "list", .base (.lst hqe1), isLst, _, rfl, iteF ?_⟩
      have ele := et.le
      refine ⟨_, rfl, qe, _, rfl, SqL.of hqe1, for_enum (K := K) (a := qe) (xs := us2) (fun i σ H' => ∃ (u4 u5 u6 : Option V), σ = [some (.int (m : Nat)), some (.ref p), some (.ref qe), some (.ref dw), u4, u5, u6] ∧ i ≤ es.length ∧ Same H H')
        ⟨_, _, _, rfl, Nat.zero_le _, s1⟩ (fun i σ H' _ ⟨_, _, _, _, _, s⟩ => SqL.of (s _ _ hqe)) ?_ ?_⟩
      · rintro i y t σ H2 hi ht ⟨u4, u5, u6, rfl, il, s2⟩
        have s2' := s2.trans (Same.new (o := .tup [.int (i : Nat), y]) ht)
        refine ⟨t, _, rfl, SqT.of upd_same, rfl, _, _, rfl, _, _, rfl, rfl, ?_⟩
        revert s2'
        generalize (upd H2 t (.tup [.int (i : Nat), y])) = H3
        intro s3
        have iu := (List.getElem?_eq_some_iff.mp hi).1
        obtain ⟨o, sv, hrest⟩ : ∃ o, StV K H m y o ∧ ((∃ e, o = some e ∧ es[i]? = some e ∧ ¬ e ∈ es.take i) ∨ ((o = none ∨ ∃ e, o = some e ∧ e ∈ es.take i) ∧ ∀ H' q, Same H H' → H' q = some (.lst [.int 1, .str (Str.ofString "ends"), .int (i : Nat)]) → Q (.ref q) H')) := by
          by_cases c : i = es.length
          · subst c
            rcases hre with ⟨rl, k⟩ | ⟨rl, _⟩
            · rcases et.nx y hi with np | ⟨e, rfl, em, ein⟩
              · exact ⟨none, np, .inr ⟨.inl rfl, k⟩⟩
              · exact ⟨some e, ⟨rfl, em⟩, .inr ⟨.inr ⟨e, rfl, by rw [List.take_length]; exact ein⟩, k⟩⟩
            · omega
          · have il2 : i < es.length := by omega
            obtain ⟨e, he⟩ : ∃ e, es[i]? = some e := ⟨_, List.getElem?_eq_getElem il2⟩
            have hv := et.pre i e he
            rw [hi] at hv
            cases hv
            refine ⟨some e, ⟨rfl, et.lt e (List.mem_of_getElem? he)⟩, .inl ⟨e, rfl, he, fun hm => ?_⟩⟩
            have nd := et.nd
            rw [← List.take_append_drop i es, List.nodup_append] at nd
            refine nd.2.2 e hm e (List.mem_of_getElem? (i := 0) ?_) rfl
            rw [List.getElem?_drop]
            exact he
        refine ⟨_, rfl, _, rfl, y, m, o, rfl, sv.same s3, _, rfl, ?_⟩
        cases o with
        | none =>
          rcases hrest with ⟨e, eo, _⟩ | ⟨_, k⟩
          · cases eo
          · exact iteT ⟨_, rfl, (by show 3 ≤ sizeLine; decide), fun q H4 nq s4 hq => k _ q (s3.trans s4) hq⟩
        | some e =>
          obtain ⟨rfl, em⟩ := sv
          have hqe3 := s3 _ _ hqe
          have ecut : cutV us2 none (some ((i : Nat) : Int)) = (es.take i).map fun e : Nat => V.int (e : Nat) := by
            rw [cutV_to]
            refine List.ext_getElem? fun j => ?_
            rw [List.getElem?_map, List.getElem?_take, List.getElem?_take]
            by_cases hj : j < i
            · rw [if_pos hj, if_pos hj]
              obtain ⟨e', he'⟩ : ∃ e', es[j]? = some e' := ⟨_, List.getElem?_eq_getElem (by omega)⟩
              rw [et.pre j e' he', he']
              rfl
            · rw [if_neg hj, if_neg hj]
              rfl
          refine iteF ⟨_, rfl, _, rfl, _, rfl, _, rfl, qe, _, rfl, SqL.of hqe3, fun q10 H4 nq10 s4 hq10 => ?_⟩
          rw [ecut] at hq10
          refine ⟨q10, _, rfl, .inl (SqL.of hq10), rfl, (by rw [List.all_map]; simp [flatV]), _, rfl, ?_⟩
          rw [inV_natG]
          rcases hrest with ⟨e', eo, hei, ne⟩ | ⟨h, k⟩
          · cases eo
            rw [decide_eq_false ne]
            exact iteF ⟨_, _, _, rfl, (List.getElem?_eq_some_iff.mp hei).1, s3.trans s4⟩
          · rcases h with h | ⟨e', eo, hm⟩
            · cases h
            cases eo
            rw [decide_eq_true hm]
            exact iteT ⟨_, rfl, (by show 3 ≤ sizeLine; decide), fun q H5 nq s5 hq => k _ q ((s3.trans s4).trans s5) hq⟩
      · rintro σ H2 ⟨u4, u5, u6, rfl, il, s2⟩
        rcases hre with ⟨rl, _⟩ | ⟨_, k⟩
        · omega
        exact ⟨(by show 0 ≤ sizeLine; decide), fun q H3 nq s3 hq => k _ q (s2.trans s3) hq⟩
end
end Jr
namespace Jr
open PySem PySem.Spec PyProof.Rows L2
/-! ### deep data: what == reads, and its depth -/
section
variable {K : PySem.W.Frag} {H H' : Hp}
theorem sqT_same' {a : Addr} {xs : List V} (s : Same H H') (h : SqT K H a xs) : SqT K H' a xs := by
  rcases h with (h | ⟨o, h⟩) | h
  · exact .inl (.inl (s _ _ h))
  · exact .inl (.inr ⟨o, s _ _ h⟩)
  · exact .inr h
mutual
theorem dp_same (s : Same H H') : ∀ (d : PyData) (v : V), Dp K H v d → Dp K H' v d
  | .none, _, h => by cases h; exact .non
  | .bool b, _, h => by cases h; exact .bl b
  | .int i, _, h => by cases h; exact .int i
  | .str x, _, h => by cases h; exact .str x
  | .list ds, _, h => by cases h with | lst g t => exact .lst (s.seq g) (dpA_same s ds _ t)
  | .tuple ds, _, h => by cases h with | tup g t => exact .tup (sqT_same' s g) (dpA_same s ds _ t)
  | .dict _, _, h => by cases h
theorem dpA_same (s : Same H H') : ∀ (ds : List PyData) (vs : List V), DpAll K H vs ds → DpAll K H' vs ds
  | [], _, h => by cases h; exact .nil
  | d :: ds, _, h => by cases h with | cons g t => exact .cons (dp_same s d _ g) (dpA_same s ds _ t)
end
/-- v is d to ==, at most n deep -/
structure Ly (K : PySem.W.Frag) (H : Hp) (n : Nat) (v : V) (d : PyData) : Prop where
  dp : Dp K H v d
  lay : PyData.canLay0 d = true
  dep : PyData.depth d ≤ n
structure LyA (K : PySem.W.Frag) (H : Hp) (n : Nat) (vs : List V) (ds : List PyData) : Prop where
  dp : DpAll K H vs ds
  lay : PyData.canLayAll0 ds = true
  dep : PyData.depthAll ds ≤ n
theorem Ly.same {n : Nat} {v : V} {d : PyData} (h : Ly K H n v d) (s : Same H H') : Ly K H' n v d := ⟨dp_same s _ _ h.dp, h.lay, h.dep⟩
theorem LyA.same {n : Nat} {v : List V} {d : List PyData} (h : LyA K H n v d) (s : Same H H') : LyA K H' n v d := ⟨dpA_same s _ _ h.dp, h.lay, h.dep⟩
theorem Ly.mono {n m : Nat} {v : V} {d : PyData} (h : Ly K H n v d) (l : n ≤ m) : Ly K H m v d := ⟨h.dp, h.lay, Nat.le_trans h.dep l⟩
theorem LyA.mono {n m : Nat} {v : List V} {d : List PyData} (h : LyA K H n v d) (l : n ≤ m) : LyA K H m v d := ⟨h.dp, h.lay, Nat.le_trans h.dep l⟩
theorem Ly.fl {v : V} (h : Fl v) : Ly K H 0 v (fdV v) := ⟨dpFl h, lay_fl h, by rw [dep_fl]; exact Nat.le_refl _⟩
theorem LyA.nil {n : Nat} : LyA K H n [] [] := ⟨.nil, by simp [PyData.canLayAll0], by simp [PyData.depthAll]⟩
theorem LyA.cons {n : Nat} {v : V} {vs : List V} {d : PyData} {ds : List PyData} (h : Ly K H n v d) (t : LyA K H n vs ds) : LyA K H n (v :: vs) (d :: ds) :=
  ⟨.cons h.dp t.dp, by simp [PyData.canLayAll0, h.lay, t.lay], by simp only [PyData.depthAll]; exact Nat.max_le.mpr ⟨h.dep, t.dep⟩⟩
theorem LyA.fl {n : Nat} : ∀ {xs : List V}, (∀ x ∈ xs, Fl x) → LyA K H n xs (xs.map fdV)
  | [], _ => .nil
  | x :: xs, h => .cons ((Ly.fl (h x List.mem_cons_self)).mono (Nat.zero_le _)) (LyA.fl fun y hy => h y (List.mem_cons_of_mem _ hy))
theorem LyA.app {n : Nat} : ∀ {vs ws : List V} {ds es : List PyData}, LyA K H n vs ds → LyA K H n ws es → LyA K H n (vs ++ ws) (ds ++ es)
  | [], ws, ds, es, h, g => by
    have hd := h.dp
    cases ds with
    | nil => exact g
    | cons => cases hd
  | v :: vs, ws, ds, es, h, g => by
    have hd := h.dp
    cases hd with
    | @cons _ _ d ds' a b =>
      have hl := h.lay
      simp only [PyData.canLayAll0, Bool.and_eq_true] at hl
      have hp := h.dep
      simp only [PyData.depthAll] at hp
      exact .cons ⟨a, hl.1, Nat.le_trans (Nat.le_max_left _ _) hp⟩ (LyA.app ⟨b, hl.2, Nat.le_trans (Nat.le_max_right _ _) hp⟩ g)
theorem Ly.lst {n : Nat} {a : Addr} {us : List V} {ds : List PyData} (h : SqL K H a us) (t : LyA K H n us ds) : Ly K H (n + 1) (.ref a) (.list ds) :=
  ⟨.lst h t.dp, by simp [PyData.canLay0, t.lay], by simp only [PyData.depth]; have := t.dep; omega⟩
theorem Ly.tup {n : Nat} {a : Addr} {us : List V} {ds : List PyData} (h : SqT K H a us) (t : LyA K H n us ds) : Ly K H (n + 1) (.ref a) (.tuple ds) :=
  ⟨.tup h t.dp, by simp [PyData.canLay0, t.lay], by simp only [PyData.depth]; have := t.dep; omega⟩
theorem Ly.sh {n : Nat} {v : V} {d : PyData} (h : Ly K H n v d) (l : n ≤ 64 := by decide) : SeqAt.shaped d = true := by
  unfold SeqAt.shaped
  rw [h.lay, decide_eq_true (Nat.le_trans h.dep l)]
  rfl
theorem Ly.eqv {n : Nat} {v : V} {d : PyData} (h : Ly K H n v d) : PyData.eqv d d = true := SeqAt.eqv_refl _ h.lay
theorem Ly.strs {a : Addr} {xs : List Str} (h : SqL K H a (xs.map V.str)) (f : ∀ x ∈ xs, Asc x) : Ly K H 1 (.ref a) (.list ((xs.map V.str).map fdV)) :=
  .lst h (.fl fun x hx => by
    obtain ⟨y, hy, rfl⟩ := List.mem_map.mp hx
    exact f y hy)
end
end Jr
namespace Jr
open PySem PySem.Spec PyProof.Rows L2
def dW (w : Nat × Nat × Nat) : PyData := .tuple [.int (w.1 : Nat), .str (sgn w.2.1), .int (w.2.2 : Nat)]
theorem lyW {K : PySem.W.Frag} {H : Hp} {a : Addr} {w : Nat × Nat × Nat} (h : WayAt H a w) (hc : w.2.1 ≤ 126) : Ly K H 1 (.ref a) (dW w) :=
  .tup (SqT.of h) (.cons ((Ly.fl (v := .int (w.1 : Nat)) trivial).mono (by decide)) (.cons ((Ly.fl (v := .str (sgn w.2.1)) (asc_sgn hc)).mono (by decide)) (.cons ((Ly.fl (v := .int (w.2.2 : Nat)) trivial).mono (by decide)) .nil)))
theorem lyAW {K : PySem.W.Frag} {H : Hp} : ∀ {as : List Addr} {ws : Gws}, Paired (WayAt H) as ws → (∀ w ∈ ws, w.2.1 ≤ 126) → LyA K H 1 (as.map V.ref) (ws.map dW)
  | _, _, .nil, _ => .nil
  | _, _, .cons h p, hc => .cons (lyW h (hc _ List.mem_cons_self)) (lyAW p fun w hw => hc w (List.mem_cons_of_mem _ hw))
theorem lyWs {K : PySem.W.Frag} {H : Hp} {p : Addr} {ws : Gws} (h : WaysAt H p ws) (hc : ∀ w ∈ ws, w.2.1 ≤ 126) : Ly K H 2 (.ref p) (.list (ws.map dW)) := by
  obtain ⟨as, hp, hts⟩ := h
  exact .lst (SqL.of hp) (lyAW hts hc)
theorem lyNs {K : PySem.W.Frag} {H : Hp} {p : Addr} {ns : List Nat} (h : H p = some (.lst (ns.map fun n : Nat => V.int (n : Nat)))) : Ly K H 1 (.ref p) (.list ((ns.map fun n : Nat => V.int (n : Nat)).map fdV)) :=
  .lst (SqL.of h) (.fl fun x hx => by
    obtain ⟨n, _, rfl⟩ := List.mem_map.mp hx
    exact trivial)
end Jr
namespace Jr
open PySem PySem.Spec PyProof.Rows L2
theorem ways_scan {K : PySem.W.Frag} {H : Hp} {m : Nat} {us : List V} {os : List (Option (Nat × Nat × Nat))} (h : Paired (WyV K H m) us os) (ul : us.length ≤ 48) : ∃ ws, WaysTo K H m us ws := by
  have key : ∀ n, n ≤ us.length → ∃ ws : Gws, WaysTo K H m us ws ∨ (ws.length = n ∧ (∀ (i : Nat) (w : Nat × Nat × Nat), ws[i]? = some w → ∃ v, us[i]? = some v ∧ WyV K H m v (some w)) ∧ GOkW m ws) := by
    intro n
    induction n with
    | zero => exact fun _ => ⟨[], .inr ⟨rfl, fun i w e => by simp at e, ⟨by simp, fun w hw => by simp at hw, fun i w e => by simp at e⟩⟩⟩
    | succ n ih =>
      intro hn
      obtain ⟨ws, h1 | ⟨wl, pre, ok⟩⟩ := ih (by omega)
      · exact ⟨ws, .inl h1⟩
      obtain ⟨v, hv⟩ : ∃ v, us[n]? = some v := ⟨_, List.getElem?_eq_getElem (by omega)⟩
      obtain ⟨o, ho, wy⟩ := Paired.get h hv
      by_cases c : okWay ws o = true
      · cases o with
        | none => cases c
        | some w =>
          have nw : wayTo ws w.1 w.2.1 = none := Option.isNone_iff_eq_none.mp c
          refine ⟨ws ++ [w], .inr ⟨by rw [List.length_append, wl]; rfl, fun i w' e => ?_, ?_, fun w' hw' => ?_, fun i w' e => ?_⟩⟩
          · by_cases hi : i < ws.length
            · rw [List.getElem?_append_left hi] at e
              exact pre i w' e
            · have il := (List.getElem?_eq_some_iff.mp e).1
              rw [List.length_append, List.length_singleton] at il
              have hi' : i = ws.length := by omega
              subst hi'
              rw [List.getElem?_append_right (Nat.le_refl _), Nat.sub_self] at e
              cases e
              rw [wl]
              exact ⟨v, hv, wy⟩
          · rw [List.length_append, wl, List.length_singleton]; omega
          · rcases List.mem_append.mp hw' with hw' | hw'
            · exact ok.way w' hw'
            · rw [List.mem_singleton.mp hw']
              obtain ⟨a, _, _, r⟩ := wy
              exact r
          · by_cases hi : i < ws.length
            · rw [List.getElem?_append_left hi] at e
              rw [List.take_append_of_le_length (by omega)]
              exact ok.new i w' e
            · have il := (List.getElem?_eq_some_iff.mp e).1
              rw [List.length_append, List.length_singleton] at il
              have hi' : i = ws.length := by omega
              subst hi'
              rw [List.getElem?_append_right (Nat.le_refl _), Nat.sub_self] at e
              cases e
              rw [List.take_append_of_le_length (Nat.le_refl _), List.take_length]
              exact nw
      · refine ⟨ws, .inl ⟨pre, by omega, ok, fun v' e => ?_⟩⟩
        rw [wl, hv] at e
        cases e
        exact ⟨o, wy, by simpa using c⟩
  obtain ⟨ws, h1 | ⟨wl, pre, ok⟩⟩ := key us.length (Nat.le_refl _)
  · exact ⟨ws, h1⟩
  · refine ⟨ws, pre, by omega, ok, fun v e => ?_⟩
    have := (List.getElem?_eq_some_iff.mp e).1
    omega
theorem ends_scan {K : PySem.W.Frag} {H : Hp} {m : Nat} {us : List V} {os : List (Option Nat)} (h : Paired (StV K H m) us os) : ∃ es, EndsTo K H m us es := by
  have key : ∀ n, n ≤ us.length → ∃ es : List Nat, EndsTo K H m us es ∨ (es.length = n ∧ (∀ (i e : Nat), es[i]? = some e → us[i]? = some (V.int (e : Nat))) ∧ (∀ e ∈ es, e < m) ∧ es.Nodup) := by
    intro n
    induction n with
    | zero => exact fun _ => ⟨[], .inr ⟨rfl, fun i w e => by simp at e, fun w hw => by simp at hw, by simp⟩⟩
    | succ n ih =>
      intro hn
      obtain ⟨es, h1 | ⟨wl, pre, lt, nd⟩⟩ := ih (by omega)
      · exact ⟨es, .inl h1⟩
      obtain ⟨v, hv⟩ : ∃ v, us[n]? = some v := ⟨_, List.getElem?_eq_getElem (by omega)⟩
      obtain ⟨o, ho, wy⟩ := Paired.get h hv
      by_cases c : ∃ e, o = some e ∧ ¬ e ∈ es
      · obtain ⟨e0, rfl, ne⟩ := c
        obtain ⟨rfl, em⟩ := wy
        refine ⟨es ++ [e0], .inr ⟨by rw [List.length_append, wl]; rfl, fun i w' e => ?_, fun w' hw' => ?_, ?_⟩⟩
        · by_cases hi : i < es.length
          · rw [List.getElem?_append_left hi] at e
            exact pre i w' e
          · have il := (List.getElem?_eq_some_iff.mp e).1
            rw [List.length_append, List.length_singleton] at il
            have hi' : i = es.length := by omega
            subst hi'
            rw [List.getElem?_append_right (Nat.le_refl _), Nat.sub_self] at e
            cases e
            rw [wl]
            exact hv
        · rcases List.mem_append.mp hw' with hw' | hw'
          · exact lt w' hw'
          · rw [List.mem_singleton.mp hw']; exact em
        · exact List.nodup_append.mpr ⟨nd, by simp, fun a ha b hb e => ne (by rw [List.mem_singleton.mp hb] at e; rw [← e]; exact ha)⟩
      · refine ⟨es, .inl ⟨pre, by omega, lt, nd, fun v' e => ?_⟩⟩
        rw [wl, hv] at e
        cases e
        cases o with
        | none => exact .inl wy
        | some e0 =>
          obtain ⟨rfl, em⟩ := wy
          exact .inr ⟨e0, rfl, em, Classical.byContradiction fun ne => c ⟨e0, rfl, ne⟩⟩
  obtain ⟨es, h1 | ⟨wl, pre, lt, nd⟩⟩ := key us.length (Nat.le_refl _)
  · exact ⟨es, h1⟩
  · refine ⟨es, pre, by omega, lt, nd, fun v e => ?_⟩
    have := (List.getElem?_eq_some_iff.mp e).1
    omega
/-- ways that stand all of them -/
theorem ways_full {K : PySem.W.Frag} {H : Hp} {m : Nat} {p : Addr} {us : List V} {ws : Gws} (hp : H p = some (.lst us)) (wt : WaysTo K H m us ws) (e : ws.length = us.length) : WaysAt H p ws := by
  have key : ∀ (us : List V) (ws : Gws), ws.length = us.length → (∀ (i : Nat) (w : Nat × Nat × Nat), ws[i]? = some w → ∃ v, us[i]? = some v ∧ WyV K H m v (some w)) → ∃ as : List Addr, us = as.map V.ref ∧ Paired (WayAt H) as ws := by
    intro us
    induction us with
    | nil =>
      intro ws e _
      cases ws with
      | nil => exact ⟨[], rfl, .nil⟩
      | cons w ws => simp at e
    | cons u us ih =>
      intro ws e pre
      cases ws with
      | nil => simp at e
      | cons w ws =>
        obtain ⟨v, ev, a, rfl, hw, _⟩ := pre 0 w rfl
        cases ev
        obtain ⟨as, rfl, hp⟩ := ih ws (by simpa using e) fun i w e => pre (i + 1) w e
        exact ⟨a :: as, rfl, .cons hw hp⟩
  obtain ⟨as, rfl, h⟩ := key us ws e wt.pre
  exact ⟨as, hp, h⟩
theorem ends_full {K : PySem.W.Frag} {H : Hp} {m : Nat} {us : List V} {es : List Nat} (et : EndsTo K H m us es) (e : es.length = us.length) : us = es.map fun e : Nat => V.int (e : Nat) := by
  refine List.ext_getElem? fun i => ?_
  rw [List.getElem?_map]
  cases h : es[i]? with
  | some x => exact et.pre i x h
  | none =>
    have := List.getElem?_eq_none_iff.mp h
    exact List.getElem?_eq_none (by omega)
end Jr
namespace Jr
open PySem PySem.Spec PyProof.Rows L2
section
variable {P : Program} {w : World} {K : PySem.W.Frag} {mg : Str → Option Value} {base : Heap}
/-- what may come of bent ways -/
def WayC (K : PySem.W.Frag) (H : Hp) (m : Nat) (v : V) : Prop := NoLst K H v ∨ ∃ a us, v = .ref a ∧ H a = some (.lst us) ∧ us.length ≤ 1000 ∧ (48 < us.length ∨ ∃ os, Paired (WyV K H m) us os)
theorem base70 {H : Hp} {as : List Addr} {ws : Gws} {m : Nat} (h : Paired (WayAt H) as ws) (hw : ∀ w ∈ ws, w.1 < m ∧ w.2.2 < m ∧ 32 ≤ w.2.1 ∧ w.2.1 ≤ 126 ∧ w.2.1 ≠ 37) : Paired (WyV K H m) (as.map V.ref) (ws.map some) := by
  induction h with
  | nil => exact .nil
  | cons q _ ih => exact .cons ⟨_, rfl, q, hw _ List.mem_cons_self⟩ (ih fun w h => hw w (List.mem_cons_of_mem _ h))
theorem pwy_same {H H' : Hp} {m : Nat} {us : List V} {os : List (Option (Nat × Nat × Nat))} (h : Paired (WyV K H m) us os) (s : Same H H') : Paired (WyV K H' m) us os := L2.Paired.mapP h fun _ _ q => WyV.same q s
theorem nl_no (c : Nat) (e : Str.ofString "\n" = sgn c) : ¬ (32 ≤ c ∧ c ≤ 126 ∧ c ≠ 37) := by
  have e1 := congrArg (fun s : Str => s.cps.toList) e
  have e2 : (Str.ofString "\n").cps.toList = [10] := by decide +kernel
  have e3 : (sgn c).cps.toList = [c] := rfl
  have e4 : [10] = [c] := e2.symm.trans (e1.trans e3)
  cases e4
  decide
theorem eqWsNil (ws : Gws) : PyData.eqv (.list (ws.map dW)) (.list []) = decide (ws = []) := by
  cases ws with
  | nil => simp [PyData.eqv, PyData.eqvAll]
  | cons w ws => simp [PyData.eqv, PyData.eqvAll]
def spBentW (K : PySem.W.Frag) : Sp := fun vs H Q _ => ∃ (lw pd : Addr) (ws : Gws) (m d0 d1 d2 d3 : Nat), vs = [.ref lw, .int (m : Nat), .ref pd] ∧ WaysAt H lw ws ∧ 1 ≤ m ∧ m ≤ 4 ∧ ws.length ≤ 48 ∧ (∀ w ∈ ws, w.1 < m ∧ w.2.2 < m ∧ 32 ≤ w.2.1 ∧ w.2.1 ≤ 126 ∧ w.2.1 ≠ 37) ∧
  H pd = some (.lst [.int (d0 : Nat), .int (d1 : Nat), .int (d2 : Nat), .int (d3 : Nat)]) ∧ d2 < 15 ∧ ∀ H' v, Same H H' → WayC K H' m v → Q v H'
theorem cal__law_bent_ways (T : Tx K mg) : Cal P w K mg base CX0 1 "_law_bent_ways" (spBentW K) := by
  obtain ⟨fd, F⟩ := T.d__law_bent_ways
  refine ⟨_, fd, P__law_bent_ways, F.ok sc__law_bent_ways (fun vs H Q E h => ?_) (fun cdv A outer s H vs Q E hr h => ?_), T.g__law_bent_ways, F.kp, F.bindsN (ps := P__law_bent_ways) fun _ _ _ _ _ _ us hl => match us, hl with | [_, _, _], _ => rfl⟩
  · obtain ⟨lw, pd, ws, m, d0, d1, d2, d3, rfl, _⟩ := h
    rfl
  · obtain ⟨lw, pd, ws, m, d0, d1, d2, d3, rfl, hws, m1, m4, wl, hw, hpd, hd2, k⟩ := h
    refine ⟨_, (PSs.nox (pss_cons (ps_asg (pv 2) (pg_lst rfl (pgs_cons (pg_name (i := 3) sc__law_bent_ways.nd rfl (Or.inl rfl)) (pgs_cons (pg_name (i := 4) sc__law_bent_ways.nd rfl (Or.inl rfl)) (pgs_cons (pg_name (i := 5) sc__law_bent_ways.nd rfl (Or.inl rfl)) (pgs_cons (pg_name (i := 6) sc__law_bent_ways.nd rfl (Or.inl rfl)) pgs_nil))))))
      (pss_cons (ps_set (i := 4) sc__law_bent_ways.nd rfl (Or.inl rfl) (pe_op op_mod (pv 4) (pe_op op_add (pe_callB (id := "len") call_len_seq (by rfl) T.n_len (by decide +kernel) (pa_cons (pv 0) pa_nil)) pe_int)))
      (pss_cons (ps_if (pt_cmpR op_eq (pv 3) pe_int (nomark _)) (pss_one (ps_ret (pe_ix ix_list (pe_lstG (pa_cons pe_non (pa_cons (pe_callTy (T := "tuple") call_tuple_of (by rfl) T.n_tuple (by decide +kernel) (pa_cons (pv 0) pa_nil)) (pa_cons pe_bl (pa_cons pe_str (pa_cons (pe_slice sl_listG (pe_op op_catG (pe_op op_catG (pv 0) (pv 0)) (pe_op op_repG (pe_lstG (pa_cons (pe_tupG (pa_cons pe_int (pa_cons pe_str (pa_cons pe_int pa_nil)))) pa_nil)) pe_int)) po_none (po_some pe_int)) pa_nil)))))) (pe_op op_mod (pv 5) pe_int) (fun _ _ => rfl)))) pss_nil)
      (C8.pss_cut (ps_if (PW.pt (pw_and (pt_cmpR op_eq (pv 3) pe_int (nomark _)) (pw_and1 (pt_cmpR (op_neD hr.units) (pv 0) (pe_lstG pa_nil) (nomark _))))) (pss_cons (ps_set (i := 7) sc__law_bent_ways.nd rfl (Or.inl rfl) (pe_ix ix_list (pv 0) (pe_op op_mod (pv 6) (pe_callB (id := "len") call_len_seq (by rfl) T.n_len (by decide +kernel) (pa_cons (pv 0) pa_nil))) (fun _ _ => rfl)))
      (pss_one (ps_ret (pe_op op_catG (pe_op op_catG (pe_slice sl_listG (pv 0) po_none (po_some (pv 4))) (pe_lstG (pa_cons (pe_tupG (pa_cons (pe_ix ix_tup (pv 7) pe_int (fun _ _ => rfl)) (pa_cons (pe_ix ix_tup (pv 7) pe_int (fun _ _ => rfl)) (pa_cons (pe_op op_mod (pv 5) (pv 1)) pa_nil)))) pa_nil))) (pe_slice sl_listG (pv 0) (po_some (pv 4)) po_none))))) pss_nil)
      (pss_cons (ps_if (pt_cmpR op_eq (pv 3) pe_int (nomark _)) (pss_cons (ps_set (i := 8) sc__law_bent_ways.nd rfl (Or.inl rfl) (pe_lstG (pa_cons pe_non (pa_cons (pe_tupG (pa_cons pe_int (pa_cons pe_str pa_nil))) (pa_cons (pe_tupG (pa_cons pe_int (pa_cons pe_str (pa_cons pe_int (pa_cons pe_int pa_nil))))) (pa_cons (pe_lstG (pa_cons pe_int (pa_cons pe_str (pa_cons pe_int pa_nil)))) (pa_cons (pe_tupG (pa_cons (pv 1) (pa_cons pe_str (pa_cons pe_int pa_nil)))) (pa_cons (pe_tupG (pa_cons pe_int (pa_cons pe_str (pa_cons (pv 1) pa_nil)))) (pa_cons (pe_tupG (pa_cons (pe_un un_neg pe_int) (pa_cons pe_str (pa_cons pe_int pa_nil)))) pa_nil)))))))))
      (pss_cons (ps_set (i := 8) sc__law_bent_ways.nd rfl (Or.inl rfl) (pe_op op_catG (pv 8) (pe_lstG (pa_cons (pe_tupG (pa_cons pe_bl (pa_cons pe_str (pa_cons pe_int pa_nil)))) (pa_cons (pe_tupG (pa_cons pe_int (pa_cons pe_str (pa_cons pe_bl pa_nil)))) (pa_cons (pe_tupG (pa_cons pe_int (pa_cons pe_str (pa_cons pe_int pa_nil)))) (pa_cons (pe_tupG (pa_cons pe_int (pa_cons pe_str (pa_cons pe_int pa_nil)))) (pa_cons (pe_tupG (pa_cons pe_int (pa_cons pe_str (pa_cons pe_int pa_nil)))) (pa_cons (pe_tupG (pa_cons pe_int (pa_cons pe_int (pa_cons pe_int pa_nil)))) pa_nil)))))))))
      (pss_cons (ps_set (i := 8) sc__law_bent_ways.nd rfl (Or.inl rfl) (pe_op op_catG (pv 8) (pe_lstG (pa_cons (pe_tupG (pa_cons pe_str (pa_cons pe_str (pa_cons pe_int pa_nil)))) (pa_cons pe_str pa_nil)))))
      (pss_one (ps_ret (pe_op op_catG (pe_op op_catG (pe_slice sl_listG (pv 0) po_none (po_some (pv 4))) (pe_lstG (pa_cons (pe_ix ix_list (pv 8) (pv 5) (fun _ _ => rfl)) pa_nil))) (pe_slice sl_listG (pv 0) (po_some (pv 4)) po_none))))))) pss_nil)
      (pss_one (ps_ret (pe_callTy (T := "list") call_listG (by rfl) T.n_list (by decide +kernel) (pa_cons (pv 0) pa_nil)))))))))), ?_⟩
    obtain ⟨as, hlw, hts⟩ := id hws
    have al := Paired.len hts
    have hb := base70 (K := K) hts hw
    have ml : ws.length ≤ 90000 := by omega
    have c126 : ∀ w ∈ ws, w.2.1 ≤ 126 := fun w h => (hw w h).2.2.2.1
    have ea : V.str (Str.ofString "a") = V.str (sgn 97) := by decide +kernel
    refine ⟨_, rfl, pd, _, rfl, SqL.of hpd, rfl, _, _, rfl, _, _, rfl, _, _, rfl, _, _, rfl, rfl, ?_⟩
    refine ⟨_, rfl, _, rfl, lw, _, rfl, .inl (SqL.of hlw), _, _, rfl, rfl, _, _, rfl, rfl, (by show (0 : Int) < _; omega), ?_⟩
    obtain ⟨at', eat⟩ : ∃ at' : Nat, ((d1 : Nat) : Int) % ((((as.map V.ref).length : Nat) : Int) + 1) = (at' : Int) := Int.eq_ofNat_of_zero_le (Int.emod_nonneg _ (by omega))
    have m6 : ∀ (d m : Nat), 0 < m → ∃ j : Nat, (d : Int) % (m : Int) = (j : Int) ∧ j < m := fun d m hm => by
      have h0 := Int.emod_nonneg (d : Int) (show (m : Int) ≠ 0 by omega)
      have h1 := Int.emod_lt_of_pos (d : Int) (show (0 : Int) < (m : Int) by omega)
      obtain ⟨j, hj⟩ := Int.eq_ofNat_of_zero_le h0
      exact ⟨j, hj, by omega⟩
    have al2 : (as.map V.ref).length = ws.length := by rw [List.length_map]; exact al
    have ale : at' ≤ ws.length := by
      have h1 := Int.emod_lt_of_pos (d1 : Int) (show (0 : Int) < (((as.map V.ref).length : Nat) : Int) + 1 by omega)
      omega
    show gName 4 (V.int ((d1 : Int) % ((((as.map V.ref).length : Nat) : Int) + 1))) _ _ _
    rw [eat]
    refine ⟨_, rfl, rfl, _, rfl, ite2 (fun _ => ?_) (fun _ => ?_)⟩
    · -- way 1
      refine ⟨_, rfl, lw, _, rfl, .inl ⟨SqL.of hlw, fun l1 nl1 => ?_⟩⟩
      have s1 := Same.new (o := .tup (as.map V.ref)) nl1
      have hl1 : (upd H l1 (.tup (as.map V.ref))) l1 = some (.tup (as.map V.ref)) := upd_same
      revert s1 hl1
      generalize (upd H l1 (.tup (as.map V.ref))) = H1
      intro s1 hl1
      have hlw1 := s1 _ _ hlw
      refine ⟨_, rfl, _, rfl, lw, lw, _, _, rfl, rfl, SqL.of hlw1, SqL.of hlw1, sz (by omega), fun c2 H2 n2 s2 h2 => ?_⟩
      refine ⟨(by show 3 ≤ sizeLine; decide), fun c3 H3 n3 s3 h3 => ⟨(by show 1 ≤ sizeLine; decide), fun c4 H4 n4 s4 h4 => ?_⟩⟩
      refine ⟨c4, 49, _, rfl, rfl, h4, by decide, by decide, by show 1 * 49 ≤ sizeLine; decide, fun c5 H5 n5 s5 h5 => ?_⟩
      have h25 := (s3.trans s4).trans s5
      refine ⟨c2, c5, _, _, rfl, rfl, SqL.of (h25 _ _ h2), SqL.of h5, ?_, fun c6 H6 n6 s6 h6 => ?_⟩
      · rw [List.length_append]
        have : (List.replicate (49 : Int).toNat [V.ref c3]).flatten.length = 49 := rfl
        rw [this]
        exact sz (by omega)
      refine ⟨_, rfl, c6, _, rfl, SqL.of h6, fun c7 H7 n7 s7 h7 => ?_⟩
      refine ⟨(by show 5 ≤ sizeLine; decide), fun c8 H8 n8 s8 h8 => ?_⟩
      have s28 := (h25.trans s6).trans (s7.trans s8)
      have s18 := s2.trans s28
      have b1 := s18 _ _ hl1
      have b7 := s8 _ _ h7
      obtain ⟨j, ej, hj⟩ := m6 d2 5 (by decide)
      obtain ⟨v, A, hv⟩ : ∃ v, atI [V.non, V.ref l1, V.bl true, V.str (Str.ofString "ways"), V.ref c7] ((d2 : Int) % 5) = some v ∧ WayC K H8 m v := by
        clear k
        rw [show (5 : Int) = ((5 : Nat) : Int) from rfl, ej]
        rcases (show j = 0 ∨ j = 1 ∨ j = 2 ∨ j = 3 ∨ j = 4 by omega) with rfl | rfl | rfl | rfl | rfl
        · exact ⟨_, ats (i := 0) rfl, .inl noLst_non⟩
        · exact ⟨_, ats (i := 1) rfl, .inl (noLst_tup b1)⟩
        · exact ⟨_, ats (i := 2) rfl, .inl (noLst_bl _)⟩
        · exact ⟨_, ats (i := 3) rfl, .inl (noLst_str _)⟩
        · have e49 : (cutV (as.map V.ref ++ as.map V.ref ++ (List.replicate (49 : Int).toNat [V.ref c3]).flatten) none (some 49)).length = 49 := by
            rw [show (49 : Int) = ((49 : Nat) : Int) from rfl, cutV_to, List.length_take, List.length_append]
            have : (List.replicate ((49 : Nat) : Int).toNat [V.ref c3]).flatten.length = 49 := rfl
            rw [this]
            omega
          exact ⟨_, ats (i := 4) rfl, .inr ⟨c7, _, rfl, b7, by rw [e49]; decide, .inl (by rw [e49]; decide)⟩⟩
      exact ⟨_, rfl, _, _, rfl, rfl, (by show (0 : Int) < 5; decide), c8, _, _, _, rfl, rfl, SqL.of h8, A, k _ v (s1.trans s18) hv⟩
    have fin : ∀ {n : Nat} {H1 H3 : Hp} {c : Addr} {v : V} {o : Option (Nat × Nat × Nat)}, Same H H1 → H1 c = some (.lst ((as.map V.ref).take n ++ [v] ++ (as.map V.ref).drop n)) → WyV K H1 m v o → n ≤ ws.length → WayC K H1 m (.ref c) := fun {n H1 H3 c v o} s h wy hn => by
      refine .inr ⟨c, _, rfl, h, ?_, .inr ⟨(ws.map some).take n ++ [o] ++ (ws.map some).drop n, ?_⟩⟩
      · rw [List.length_append, List.length_append, List.length_take, List.length_drop, al2, List.length_singleton]; omega
      · have hb1 := pwy_same hb s
        exact Paired.app (Paired.app (Paired.tk n hb1) (.cons wy .nil)) (Paired.dr n hb1)
    refine ⟨fun σ H' => σ = [some (.ref lw), some (.int (m : Nat)), some (.ref pd), some (.int (d0 : Nat)), some (.int (at' : Nat)), some (.int (d2 : Nat)), some (.int (d3 : Nat)), none, none] ∧ Same H H', ?_, ?_⟩
    · refine ⟨_, rfl, rfl, _, rfl, ite2 (fun _ => ?_) (fun _ => iteF ⟨rfl, Same.refl _⟩)⟩
      refine ⟨_, rfl, (by show 0 ≤ sizeLine; decide), fun q1 H1 nq1 s1 hq1 => ?_⟩
      have l1 := lyWs (K := K) (hws.same s1) c126
      refine ⟨_, _, l1.dp, dpL (xs := []) (SqL.of hq1) (fun _ h => by cases h), l1.sh, shL (fun _ h => by cases h), _, rfl, ?_⟩
      rw [show ([] : List V).map fdV = [] from rfl, eqWsNil]
      by_cases c : ws = []
      · rw [decide_eq_true c]
        exact iteF ⟨rfl, s1⟩
      rw [decide_eq_false c]
      refine iteT ?_
      have wp : 0 < ws.length := List.length_pos_iff.mpr c
      have hlw1 := s1 _ _ hlw
      obtain ⟨j, ej, hj⟩ := m6 d3 ws.length wp
      obtain ⟨w, hw1⟩ : ∃ w, ws[j]? = some w := ⟨_, List.getElem?_eq_getElem hj⟩
      obtain ⟨a, ha, hwa⟩ := Paired.get2 hts hw1
      have wok := hw w (List.mem_of_getElem? hw1)
      obtain ⟨j2, ej2, hj2⟩ := m6 d2 m m1
      refine ⟨_, rfl, _, rfl, _, rfl, lw, _, rfl, .inl (SqL.of hlw1), _, _, rfl, rfl, (by show (0 : Int) < _; omega), lw, _, _, _, rfl, rfl, SqL.of hlw1, (by rw [al2, ej]; exact atm ha), ?_⟩
      have hwa1 : H1 a = some (.tup [.int (w.1 : Nat), .str (sgn w.2.1), .int (w.2.2 : Nat)]) := s1 _ _ hwa
      refine ⟨_, rfl, _, rfl, _, rfl, lw, _, rfl, SqL.of hlw1, fun c2 H2 n2 s2 h2 => ?_⟩
      rw [cutV_to] at h2
      have hwa2 := s2 _ _ hwa1
      refine ⟨_, rfl, a, _, _, _, rfl, rfl, SqT.of hwa2, (show atI _ ((0 : Nat) : Int) = _ from ats rfl), _, rfl, a, _, _, _, rfl, rfl, SqT.of hwa2, (show atI _ ((1 : Nat) : Int) = _ from ats rfl), _, rfl, _, rfl, _, _, rfl, rfl, (by show (0 : Int) < _; omega), (by show 3 ≤ sizeLine; decide), fun c3 H3 n3 s3 h3 => ?_⟩
      have h3 : H3 c3 = some (.tup [.int (w.1 : Nat), .str (sgn w.2.1), .int ((d2 : Int) % ((m : Nat) : Int))]) := h3
      rw [ej2] at h3
      refine ⟨(by show 1 ≤ sizeLine; decide), fun c4 H4 n4 s4 h4 => ?_⟩
      refine ⟨c2, c4, _, _, rfl, rfl, SqL.of ((s3.trans s4) _ _ h2), SqL.of h4, (by rw [List.length_take]; exact sz (by show _ + 1 ≤ _; omega)), fun c5 H5 n5 s5 h5 => ?_⟩
      have s15 := ((s2.trans s3).trans s4).trans s5
      refine ⟨_, rfl, _, rfl, _, rfl, lw, _, rfl, SqL.of (s15 _ _ hlw1), fun c6 H6 n6 s6 h6 => ?_⟩
      rw [cutV_from] at h6
      refine ⟨c5, c6, _, _, rfl, rfl, SqL.of (s6 _ _ h5), SqL.of h6, (by rw [List.length_append, List.length_take, List.length_drop]; exact sz (by show _ + 1 + _ ≤ _; omega)), fun c7 H7 n7 s7 h7 => ?_⟩
      have s17 := (s15.trans s6).trans s7
      exact k _ _ (s1.trans s17) (fin (H3 := H) (o := some (w.1, w.2.1, j2)) (s1.trans s17) h7 ⟨c3, rfl, (((s4.trans s5).trans s6).trans s7) _ _ h3, wok.1, hj2, wok.2.2⟩ ale)
    rintro σ H1 ⟨rfl, s1⟩
    have hlw1 := s1 _ _ hlw
    refine ⟨_, rfl, rfl, _, rfl, ite2 (fun _ => ?_) (fun _ => ?_)⟩
    · refine ⟨(by show 2 ≤ sizeLine; decide), fun t1 G1 nn1 r1 g1 => ?_⟩
      refine ⟨(by show 4 ≤ sizeLine; decide), fun t2 G2 nn2 r2 g2 => ?_⟩
      refine ⟨(by show 3 ≤ sizeLine; decide), fun t3 G3 nn3 r3 g3 => ?_⟩
      refine ⟨_, rfl, (by show 3 ≤ sizeLine; decide), fun t4 G4 nn4 r4 g4 => ?_⟩
      refine ⟨_, rfl, (by show 3 ≤ sizeLine; decide), fun t5 G5 nn5 r5 g5 => ?_⟩
      refine ⟨_, rfl, (by show 3 ≤ sizeLine; decide), fun t6 G6 nn6 r6 g6 => ?_⟩
      refine ⟨(by show 7 ≤ sizeLine; decide), fun t7 G7 nn7 r7 g7 => ?_⟩
      refine ⟨_, rfl, (by show 3 ≤ sizeLine; decide), fun t8 G8 nn8 r8 g8 => ?_⟩
      refine ⟨(by show 3 ≤ sizeLine; decide), fun t9 G9 nn9 r9 g9 => ?_⟩
      refine ⟨(by show 3 ≤ sizeLine; decide), fun t10 G10 nn10 r10 g10 => ?_⟩
      refine ⟨(by show 3 ≤ sizeLine; decide), fun t11 G11 nn11 r11 g11 => ?_⟩
      refine ⟨(by show 3 ≤ sizeLine; decide), fun t12 G12 nn12 r12 g12 => ?_⟩
      refine ⟨(by show 3 ≤ sizeLine; decide), fun t13 G13 nn13 r13 g13 => ?_⟩
      refine ⟨(by show 6 ≤ sizeLine; decide), fun t14 G14 nn14 r14 g14 => ?_⟩
      refine ⟨t7, t14, _, _, rfl, rfl, SqL.of ((((((((r8).trans r9).trans r10).trans r11).trans r12).trans r13).trans r14) _ _ g7), SqL.of g14, (by show 7 + 6 ≤ sizeLine; decide), fun t15 G15 nn15 r15 g15 => ?_⟩
      refine ⟨_, rfl, (by show 3 ≤ sizeLine; decide), fun t16 G16 nn16 r16 g16 => ?_⟩
      refine ⟨(by show 2 ≤ sizeLine; decide), fun t17 G17 nn17 r17 g17 => ?_⟩
      refine ⟨t15, t17, _, _, rfl, rfl, SqL.of (((r16).trans r17) _ _ g15), SqL.of g17, (by show 13 + 2 ≤ sizeLine; decide), fun t18 G18 nn18 r18 g18 => ?_⟩
      have e18 : Same G18 G18 := Same.refl _
      have e17 := r18.trans e18
      have e16 := r17.trans e17
      have e15 := r16.trans e16
      have e14 := r15.trans e15
      have e13 := r14.trans e14
      have e12 := r13.trans e13
      have e11 := r12.trans e12
      have e10 := r11.trans e11
      have e9 := r10.trans e10
      have e8 := r9.trans e9
      have e7 := r8.trans e8
      have e6 := r7.trans e7
      have e5 := r6.trans e6
      have e4 := r5.trans e5
      have e3 := r4.trans e4
      have e2 := r3.trans e3
      have e1 := r2.trans e2
      have e0 := r1.trans e1
      have za := e1 _ _ g1
      have zb := e2 _ _ g2
      have zc := e3 _ _ g3
      have zd := e4 _ _ g4
      have ze := e5 _ _ g5
      have zf := e6 _ _ g6
      have zg := e8 _ _ g8
      have zh := e9 _ _ g9
      have zi := e10 _ _ g10
      have zj := e11 _ _ g11
      have zk := e12 _ _ g12
      have zl := e13 _ _ g13
      have zm := e16 _ _ g16
      have wa : WyV K G18 m (.ref t1) none := .inr ⟨t1, _, rfl, za, (by show 2 ≤ 1000; decide), .inl (by show 2 ≠ 3; decide)⟩
      have wb : WyV K G18 m (.ref t2) none := .inr ⟨t2, _, rfl, zb, (by show 4 ≤ 1000; decide), .inl (by show 4 ≠ 3; decide)⟩
      have wc : WyV K G18 m (.ref t3) none := .inl (noTup_lst zc)
      have wd : WyV K G18 m (.ref t4) none := .inr ⟨t4, _, rfl, zd, (by show 3 ≤ 1000; decide), .inr ⟨_, _, _, none, some 97, some 0, rfl, .inl ⟨_, rfl, by omega⟩, ⟨ea, by decide, by decide, by decide⟩, ⟨rfl, m1⟩, .inl rfl⟩⟩
      have we : WyV K G18 m (.ref t5) none := .inr ⟨t5, _, rfl, ze, (by show 3 ≤ 1000; decide), .inr ⟨_, _, _, some 0, some 97, none, rfl, ⟨rfl, m1⟩, ⟨ea, by decide, by decide, by decide⟩, .inl ⟨_, rfl, by omega⟩, .inr (.inr rfl)⟩⟩
      have wf : WyV K G18 m (.ref t6) none := .inr ⟨t6, _, rfl, zf, (by show 3 ≤ 1000; decide), .inr ⟨_, _, _, none, some 97, some 0, rfl, .inl ⟨_, rfl, by omega⟩, ⟨ea, by decide, by decide, by decide⟩, ⟨rfl, m1⟩, .inl rfl⟩⟩
      have wg : WyV K G18 m (.ref t8) none := .inr ⟨t8, _, rfl, zg, (by show 3 ≤ 1000; decide), .inr ⟨_, _, _, none, some 97, some 0, rfl, .inr (.inl ⟨_, rfl⟩), ⟨ea, by decide, by decide, by decide⟩, ⟨rfl, m1⟩, .inl rfl⟩⟩
      have wh : WyV K G18 m (.ref t9) none := .inr ⟨t9, _, rfl, zh, (by show 3 ≤ 1000; decide), .inr ⟨_, _, _, some 0, some 97, none, rfl, ⟨rfl, m1⟩, ⟨ea, by decide, by decide, by decide⟩, .inr (.inl ⟨_, rfl⟩), .inr (.inr rfl)⟩⟩
      have wi : WyV K G18 m (.ref t10) none := .inr ⟨t10, _, rfl, zi, (by show 3 ≤ 1000; decide), .inr ⟨_, _, _, some 0, none, some 0, rfl, ⟨rfl, m1⟩, .inr ⟨_, rfl, (by decide +kernel), fun c e => absurd (congrArg Str.length e) (by show ¬ 2 = 1; decide)⟩, ⟨rfl, m1⟩, .inr (.inl rfl)⟩⟩
      have wj : WyV K G18 m (.ref t11) none := .inr ⟨t11, _, rfl, zj, (by show 3 ≤ 1000; decide), .inr ⟨_, _, _, some 0, none, some 0, rfl, ⟨rfl, m1⟩, .inr ⟨_, rfl, (by decide +kernel), fun c e => absurd (congrArg Str.length e) (by show ¬ 0 = 1; decide)⟩, ⟨rfl, m1⟩, .inr (.inl rfl)⟩⟩
      have wk : WyV K G18 m (.ref t12) none := .inr ⟨t12, _, rfl, zk, (by show 3 ≤ 1000; decide), .inr ⟨_, _, _, some 0, none, some 0, rfl, ⟨rfl, m1⟩, .inr ⟨_, rfl, (by decide +kernel), nl_no⟩, ⟨rfl, m1⟩, .inr (.inl rfl)⟩⟩
      have wl : WyV K G18 m (.ref t13) none := .inr ⟨t13, _, rfl, zl, (by show 3 ≤ 1000; decide), .inr ⟨_, _, _, some 0, none, some 0, rfl, ⟨rfl, m1⟩, .inl (noStr_int _), ⟨rfl, m1⟩, .inr (.inl rfl)⟩⟩
      have wm : WyV K G18 m (.ref t16) none := .inr ⟨t16, _, rfl, zm, (by show 3 ≤ 1000; decide), .inr ⟨_, _, _, none, some 97, some 0, rfl, .inr (.inr (noInt_str _)), ⟨ea, by decide, by decide, by decide⟩, ⟨rfl, m1⟩, .inl rfl⟩⟩
      obtain ⟨v, A, hv⟩ : ∃ v, atI [V.non, V.ref t1, V.ref t2, V.ref t3, V.ref t4, V.ref t5, V.ref t6, V.ref t8, V.ref t9, V.ref t10, V.ref t11, V.ref t12, V.ref t13, V.ref t16, V.str (Str.ofString "0a0")] (d2 : Int) = some v ∧ WyV K G18 m v none := by
        clear k
        rcases (show d2 = 0 ∨ d2 = 1 ∨ d2 = 2 ∨ d2 = 3 ∨ d2 = 4 ∨ d2 = 5 ∨ d2 = 6 ∨ d2 = 7 ∨ d2 = 8 ∨ d2 = 9 ∨ d2 = 10 ∨ d2 = 11 ∨ d2 = 12 ∨ d2 = 13 ∨ d2 = 14 by omega) with rfl | rfl | rfl | rfl | rfl | rfl | rfl | rfl | rfl | rfl | rfl | rfl | rfl | rfl | rfl
        · exact ⟨_, ats (i := 0) rfl, .inl noTup_non⟩
        · exact ⟨_, ats (i := 1) rfl, wa⟩
        · exact ⟨_, ats (i := 2) rfl, wb⟩
        · exact ⟨_, ats (i := 3) rfl, wc⟩
        · exact ⟨_, ats (i := 4) rfl, wd⟩
        · exact ⟨_, ats (i := 5) rfl, we⟩
        · exact ⟨_, ats (i := 6) rfl, wf⟩
        · exact ⟨_, ats (i := 7) rfl, wg⟩
        · exact ⟨_, ats (i := 8) rfl, wh⟩
        · exact ⟨_, ats (i := 9) rfl, wi⟩
        · exact ⟨_, ats (i := 10) rfl, wj⟩
        · exact ⟨_, ats (i := 11) rfl, wk⟩
        · exact ⟨_, ats (i := 12) rfl, wl⟩
        · exact ⟨_, ats (i := 13) rfl, wm⟩
        · exact ⟨_, ats (i := 14) rfl, .inl (noTup_str _)⟩
      have sG := s1.trans e0
      have hlwG := sG _ _ hlw
      refine ⟨_, rfl, _, rfl, _, rfl, lw, _, rfl, SqL.of hlwG, fun c2 H2 n2 s2 h2 => ?_⟩
      rw [cutV_to] at h2
      refine ⟨_, rfl, _, rfl, t18, _, _, _, rfl, rfl, SqL.of (s2 _ _ g18), A, (by show 1 ≤ sizeLine; decide), fun c4 H4 n4 s4 h4 => ?_⟩
      refine ⟨c2, c4, _, _, rfl, rfl, SqL.of (s4 _ _ h2), SqL.of h4, (by rw [List.length_take]; exact sz (by show _ + 1 ≤ _; omega)), fun c5 H5 n5 s5 h5 => ?_⟩
      have s15 := (s2.trans s4).trans s5
      refine ⟨_, rfl, _, rfl, _, rfl, lw, _, rfl, SqL.of (s15 _ _ hlwG), fun c6 H6 n6 s6 h6 => ?_⟩
      rw [cutV_from] at h6
      refine ⟨c5, c6, _, _, rfl, rfl, SqL.of (s6 _ _ h5), SqL.of h6, (by rw [List.length_append, List.length_take, List.length_drop]; exact sz (by show _ + 1 + _ ≤ _; omega)), fun c7 H7 n7 s7 h7 => ?_⟩
      have s17 := (s15.trans s6).trans s7
      exact k _ _ (sG.trans s17) (fin (H3 := H) (o := none) (sG.trans s17) h7 (hv.same s17) ale)
    refine ⟨_, rfl, lw, _, rfl, .inl (SqL.of hlw1), fun c2 H2 n2 s2 h2 => k _ _ (s1.trans s2) (.inr ⟨c2, _, rfl, h2, by omega, .inr ⟨_, pwy_same hb (s1.trans s2)⟩⟩)⟩
/-- what may come of bent ends -/
def EndC (K : PySem.W.Frag) (H : Hp) (m : Nat) (v : V) : Prop := NoLst K H v ∨ ∃ a us os, v = .ref a ∧ H a = some (.lst us) ∧ us.length ≤ 1000 ∧ Paired (StV K H m) us os
theorem base70e {K : PySem.W.Frag} {H : Hp} {m : Nat} {es : List Nat} (h : ∀ e ∈ es, e < m) : Paired (StV K H m) (es.map fun e : Nat => V.int (e : Nat)) (es.map some) := by
  induction es with
  | nil => exact .nil
  | cons e es ih => exact .cons ⟨rfl, h e List.mem_cons_self⟩ (ih fun w hw => h w (List.mem_cons_of_mem _ hw))
theorem pst_same {K : PySem.W.Frag} {H H' : Hp} {m : Nat} {us : List V} {os : List (Option Nat)} (h : Paired (StV K H m) us os) (s : Same H H') : Paired (StV K H' m) us os := L2.Paired.mapP h fun _ _ q => StV.same q s
theorem eqNsNil (ns : List Nat) : PyData.eqv (.list ((ns.map fun n : Nat => V.int (n : Nat)).map fdV)) (.list []) = decide (ns = []) := by
  cases ns with
  | nil => simp [PyData.eqv, PyData.eqvAll]
  | cons w ws => simp [PyData.eqv, PyData.eqvAll]
def spBentE (K : PySem.W.Frag) : Sp := fun vs H Q _ => ∃ (le pd : Addr) (es : List Nat) (m d0 d1 d2 : Nat), vs = [.ref le, .int (m : Nat), .ref pd] ∧ H le = some (.lst (es.map fun e : Nat => V.int (e : Nat))) ∧ 1 ≤ m ∧ m ≤ 4 ∧ es.length ≤ 4 ∧ (∀ e ∈ es, e < m) ∧
  H pd = some (.lst [.int (d0 : Nat), .int (d1 : Nat), .int (d2 : Nat)]) ∧ d2 < 6 ∧ ∀ H' v, Same H H' → EndC K H' m v → Q v H'
theorem cal__law_bent_ends (T : Tx K mg) : Cal P w K mg base CX0 1 "_law_bent_ends" (spBentE K) := by
  obtain ⟨fd, F⟩ := T.d__law_bent_ends
  refine ⟨_, fd, P__law_bent_ends, F.ok sc__law_bent_ends (fun vs H Q E h => ?_) (fun cdv A outer s H vs Q E hr h => ?_), T.g__law_bent_ends, F.kp, F.bindsN (ps := P__law_bent_ends) fun _ _ _ _ _ _ us hl => match us, hl with | [_, _, _], _ => rfl⟩
  · obtain ⟨le, pd, es, m, d0, d1, d2, rfl, _⟩ := h
    rfl
  · obtain ⟨le, pd, es, m, d0, d1, d2, rfl, hle, m1, m4, el, hm, hpd, hd2, k⟩ := h
    refine ⟨_, (PSs.nox (pss_cons (ps_asg (pv 2) (pg_lst rfl (pgs_cons (pg_name (i := 3) sc__law_bent_ends.nd rfl (Or.inl rfl)) (pgs_cons (pg_name (i := 4) sc__law_bent_ends.nd rfl (Or.inl rfl)) (pgs_cons (pg_name (i := 5) sc__law_bent_ends.nd rfl (Or.inl rfl)) pgs_nil)))))
      (pss_cons (ps_set (i := 4) sc__law_bent_ends.nd rfl (Or.inl rfl) (pe_op op_mod (pv 4) (pe_op op_add (pe_callB (id := "len") call_len_seq (by rfl) T.n_len (by decide +kernel) (pa_cons (pv 0) pa_nil)) pe_int)))
      (pss_cons (ps_if (pt_cmpR op_eq (pv 3) pe_int (nomark _)) (pss_one (ps_ret (pe_ix ix_list (pe_lstG (pa_cons pe_non (pa_cons (pe_callTy (T := "tuple") call_tuple_of (by rfl) T.n_tuple (by decide +kernel) (pa_cons (pv 0) pa_nil)) (pa_cons pe_bl (pa_cons pe_str (pa_cons (pv 1) (pa_cons pe_dnewK pa_nil))))))) (pv 5) (fun _ _ => rfl)))) pss_nil)
      (pss_cons (ps_if (pt_cmpR op_eq (pv 3) pe_int (nomark _)) (pss_one (ps_ret (pe_op op_catG (pe_op op_catG (pe_slice sl_listG (pv 0) po_none (po_some (pv 4))) (pe_lstG (pa_cons (pe_ix ix_list (pe_lstG (pa_cons (pv 1) (pa_cons (pe_un un_neg pe_int) (pa_cons pe_bl (pa_cons pe_str (pa_cons pe_non (pa_cons (pe_tupG (pa_cons pe_int pa_nil)) pa_nil))))))) (pv 5) (fun _ _ => rfl)) pa_nil))) (pe_slice sl_listG (pv 0) (po_some (pv 4)) po_none)))) pss_nil)
      (C8.pss_cut (ps_if (PW.pt (pw_and (pt_cmpR op_eq (pv 3) pe_int (nomark _)) (pw_and1 (pt_cmpR (op_neD hr.units) (pv 0) (pe_lstG pa_nil) (nomark _))))) (pss_one (ps_ret (pe_op op_catG (pe_op op_catG (pe_slice sl_listG (pv 0) po_none (po_some (pv 4))) (pe_lstG (pa_cons (pe_ix ix_list (pv 0) (pe_op op_mod (pv 5) (pe_callB (id := "len") call_len_seq (by rfl) T.n_len (by decide +kernel) (pa_cons (pv 0) pa_nil))) (fun _ _ => rfl)) pa_nil))) (pe_slice sl_listG (pv 0) (po_some (pv 4)) po_none)))) pss_nil)
      (pss_one (ps_ret (pe_callTy (T := "list") call_listG (by rfl) T.n_list (by decide +kernel) (pa_cons (pv 0) pa_nil)))))))))), ?_⟩
    have m6 : ∀ (d m : Nat), 0 < m → ∃ j : Nat, (d : Int) % (m : Int) = (j : Int) ∧ j < m := fun d m hm => by
      have h0 := Int.emod_nonneg (d : Int) (show (m : Int) ≠ 0 by omega)
      have h1 := Int.emod_lt_of_pos (d : Int) (show (0 : Int) < (m : Int) by omega)
      obtain ⟨j, hj⟩ := Int.eq_ofNat_of_zero_le h0
      exact ⟨j, hj, by omega⟩
    have hb := base70e (K := K) (H := H) hm
    obtain ⟨us, eus⟩ : ∃ us, us = es.map fun e : Nat => V.int (e : Nat) := ⟨_, rfl⟩
    have ul : us.length = es.length := by rw [eus, List.length_map]
    have ly0 : ∀ {H1 : Hp}, Same H H1 → Ly K H1 1 (.ref le) (.list (us.map fdV)) := fun s => by rw [eus]; exact lyNs (s _ _ hle)
    have eqn : PyData.eqv (.list (us.map fdV)) (.list []) = decide (es = []) := by rw [eus]; exact eqNsNil es
    rw [← eus] at hle hb
    refine ⟨_, rfl, pd, _, rfl, SqL.of hpd, rfl, _, _, rfl, _, _, rfl, _, _, rfl, rfl, ?_⟩
    refine ⟨_, rfl, _, rfl, le, _, rfl, .inl (SqL.of hle), _, _, rfl, rfl, _, _, rfl, rfl, (by show (0 : Int) < _; omega), ?_⟩
    obtain ⟨at', eat⟩ : ∃ at' : Nat, ((d1 : Nat) : Int) % (((us.length : Nat) : Int) + 1) = (at' : Int) := Int.eq_ofNat_of_zero_le (Int.emod_nonneg _ (by omega))
    have ale : at' ≤ us.length := by
      have h1 := Int.emod_lt_of_pos (d1 : Int) (show (0 : Int) < ((us.length : Nat) : Int) + 1 by omega)
      omega
    show gName 4 (V.int ((d1 : Int) % (((us.length : Nat) : Int) + 1))) _ _ _
    rw [eat]
    have fin : ∀ {H1 : Hp} {c : Addr} {v : V} {o : Option Nat}, Same H H1 → H1 c = some (.lst (us.take at' ++ [v] ++ us.drop at')) → StV K H1 m v o → EndC K H1 m (.ref c) := fun {H1 c v o} s h wy => by
      refine .inr ⟨c, _, (es.map some).take at' ++ [o] ++ (es.map some).drop at', rfl, h, ?_, ?_⟩
      · rw [List.length_append, List.length_append, List.length_take, List.length_drop, List.length_singleton]; omega
      · have hb1 := pst_same hb s
        exact Paired.app (Paired.app (Paired.tk at' hb1) (.cons wy .nil)) (Paired.dr at' hb1)
    refine ⟨_, rfl, rfl, _, rfl, ite2 (fun _ => ?_) (fun _ => ?_)⟩
    · refine ⟨_, rfl, le, _, rfl, .inl ⟨SqL.of hle, fun l1 nl1 => ?_⟩⟩
      have s1 := Same.new (o := .tup us) nl1
      have hl1 : (upd H l1 (.tup us)) l1 = some (.tup us) := upd_same
      revert s1 hl1
      generalize (upd H l1 (.tup us)) = H1
      intro s1 hl1
      refine ⟨_, rfl, ?_⟩
      intro l3 n3
      have s3 := Same.new (o := .dK []) n3
      have h3 : (upd H1 l3 (.dK [])) l3 = some (.dK []) := upd_same
      revert s3 h3
      generalize (upd H1 l3 (.dK [])) = H3
      intro s3 h3
      refine ⟨(by show 6 ≤ sizeLine; decide), fun l6 H6 n6 s6 h6 => ?_⟩
      have b1 := (s3.trans s6) _ _ hl1
      have b3 := s6 _ _ h3
      obtain ⟨v, A, hv⟩ : ∃ v, atI [V.non, V.ref l1, V.bl true, V.str (Str.ofString "0"), V.int (m : Nat), V.ref l3] (d2 : Int) = some v ∧ NoLst K H6 v := by
        clear k
        rcases (show d2 = 0 ∨ d2 = 1 ∨ d2 = 2 ∨ d2 = 3 ∨ d2 = 4 ∨ d2 = 5 by omega) with rfl | rfl | rfl | rfl | rfl | rfl
        · exact ⟨_, ats (i := 0) rfl, noLst_non⟩
        · exact ⟨_, ats (i := 1) rfl, noLst_tup b1⟩
        · exact ⟨_, ats (i := 2) rfl, noLst_bl _⟩
        · exact ⟨_, ats (i := 3) rfl, noLst_str _⟩
        · exact ⟨_, ats (i := 4) rfl, noLst_int _⟩
        · exact ⟨_, ats (i := 5) rfl, noLst_dK b3⟩
      exact ⟨_, rfl, l6, _, _, _, rfl, rfl, SqL.of h6, A, k _ v ((s1.trans s3).trans s6) (.inl hv)⟩
    refine ⟨_, rfl, rfl, _, rfl, ite2 (fun _ => ?_) (fun _ => ?_)⟩
    · refine ⟨_, rfl, _, rfl, _, rfl, le, _, rfl, SqL.of hle, fun c2 H2 n2 s2 h2 => ?_⟩
      rw [cutV_to] at h2
      refine ⟨_, rfl, _, rfl, (by show 1 ≤ sizeLine; decide), fun c3 H3 n3 s3 h3 => ⟨(by show 6 ≤ sizeLine; decide), fun c4 H4 n4 s4 h4 => ?_⟩⟩
      have b3 := s4 _ _ h3
      obtain ⟨v, A, hv⟩ : ∃ v, atI [V.int (m : Nat), V.int (-1), V.bl true, V.str (Str.ofString "0"), V.non, V.ref c3] (d2 : Int) = some v ∧ StV K H4 m v none := by
        clear k
        rcases (show d2 = 0 ∨ d2 = 1 ∨ d2 = 2 ∨ d2 = 3 ∨ d2 = 4 ∨ d2 = 5 by omega) with rfl | rfl | rfl | rfl | rfl | rfl
        · exact ⟨_, ats (i := 0) rfl, .inl ⟨_, rfl, by omega⟩⟩
        · exact ⟨_, ats (i := 1) rfl, .inl ⟨_, rfl, by omega⟩⟩
        · exact ⟨_, ats (i := 2) rfl, .inr (.inl ⟨_, rfl⟩)⟩
        · exact ⟨_, ats (i := 3) rfl, .inr (.inr (noInt_str _))⟩
        · exact ⟨_, ats (i := 4) rfl, .inr (.inr noInt_non)⟩
        · exact ⟨_, ats (i := 5) rfl, .inr (.inr (noInt_tup b3))⟩
      refine ⟨_, rfl, c4, _, _, _, rfl, rfl, SqL.of h4, A, (by show 1 ≤ sizeLine; decide), fun c5 H5 n5 s5 h5 => ?_⟩
      have s25 := (s3.trans s4).trans s5
      refine ⟨c2, c5, _, _, rfl, rfl, SqL.of (s25 _ _ h2), SqL.of h5, (by rw [List.length_take]; exact sz (by show _ + 1 ≤ _; omega)), fun c6 H6 n6 s6 h6 => ?_⟩
      have s16 := (s2.trans s25).trans s6
      refine ⟨_, rfl, _, rfl, _, rfl, le, _, rfl, SqL.of (s16 _ _ hle), fun c7 H7 n7 s7 h7 => ?_⟩
      rw [cutV_from] at h7
      refine ⟨c6, c7, _, _, rfl, rfl, SqL.of (s7 _ _ h6), SqL.of h7, (by rw [List.length_append, List.length_take, List.length_drop]; exact sz (by show _ + 1 + _ ≤ _; omega)), fun c8 H8 n8 s8 h8 => ?_⟩
      have s18 := (s16.trans s7).trans s8
      exact k _ _ s18 (fin (o := none) s18 h8 (hv.same (((s5.trans s6).trans s7).trans s8)))
    have lst : ∀ {H1 : Hp}, Same H H1 → EndC K H1 m (.ref le) := fun s => .inr ⟨le, _, _, rfl, s _ _ hle, by omega, pst_same hb s⟩
    refine ⟨fun σ H' => σ = [some (.ref le), some (.int (m : Nat)), some (.ref pd), some (.int (d0 : Nat)), some (.int (at' : Nat)), some (.int (d2 : Nat))] ∧ Same H H', ?_, ?_⟩
    · refine ⟨_, rfl, rfl, _, rfl, ite2 (fun _ => ?_) (fun _ => iteF ⟨rfl, Same.refl _⟩)⟩
      refine ⟨_, rfl, (by show 0 ≤ sizeLine; decide), fun q1 H1 nq1 s1 hq1 => ?_⟩
      have l1 := ly0 s1
      refine ⟨_, _, l1.dp, dpL (xs := []) (SqL.of hq1) (fun _ h => by cases h), l1.sh, shL (fun _ h => by cases h), _, rfl, ?_⟩
      rw [show ([] : List V).map fdV = [] from rfl, eqn]
      by_cases c : es = []
      · rw [decide_eq_true c]
        exact iteF ⟨rfl, s1⟩
      rw [decide_eq_false c]
      refine iteT ?_
      have wp : 0 < us.length := by rw [ul]; exact List.length_pos_iff.mpr c
      have hle1 := s1 _ _ hle
      obtain ⟨j, ej, hj⟩ := m6 d2 us.length wp
      obtain ⟨e, he⟩ : ∃ e, es[j]? = some e := ⟨_, List.getElem?_eq_getElem (by omega)⟩
      have hu : us[j]? = some (.int (e : Nat)) := by rw [eus, List.getElem?_map, he]; rfl
      have em := hm e (List.mem_of_getElem? he)
      refine ⟨_, rfl, _, rfl, _, rfl, le, _, rfl, SqL.of hle1, fun c2 H2 n2 s2 h2 => ?_⟩
      rw [cutV_to] at h2
      have hle2 := s2 _ _ hle1
      refine ⟨_, rfl, _, rfl, _, rfl, le, _, rfl, .inl (SqL.of hle2), _, _, rfl, rfl, (by show (0 : Int) < _; omega), le, _, _, _, rfl, rfl, SqL.of hle2, (by rw [ej]; exact ats hu), ?_⟩
      refine ⟨(by show 1 ≤ sizeLine; decide), fun c4 H4 n4 s4 h4 => ?_⟩
      refine ⟨c2, c4, _, _, rfl, rfl, SqL.of (s4 _ _ h2), SqL.of h4, (by rw [List.length_take]; exact sz (by show _ + 1 ≤ _; omega)), fun c5 H5 n5 s5 h5 => ?_⟩
      have s15 := (s2.trans s4).trans s5
      refine ⟨_, rfl, _, rfl, _, rfl, le, _, rfl, SqL.of (s15 _ _ hle1), fun c6 H6 n6 s6 h6 => ?_⟩
      rw [cutV_from] at h6
      refine ⟨c5, c6, _, _, rfl, rfl, SqL.of (s6 _ _ h5), SqL.of h6, (by rw [List.length_append, List.length_take, List.length_drop]; exact sz (by show _ + 1 + _ ≤ _; omega)), fun c7 H7 n7 s7 h7 => ?_⟩
      have s17 := s1.trans ((s15.trans s6).trans s7)
      exact k _ _ s17 (fin (o := some e) s17 h7 ⟨rfl, em⟩)
    rintro σ H1 ⟨rfl, s1⟩
    have hle1 := s1 _ _ hle
    exact ⟨_, rfl, le, _, rfl, .inl (SqL.of hle1), fun c2 H2 n2 s2 h2 => k _ _ (s1.trans s2) (.inr ⟨c2, _, _, rfl, h2, by omega, pst_same hb (s1.trans s2)⟩)⟩
end
end Jr
namespace Jr
open PySem PySem.Spec PyProof.Rows L2
/-! ### a caught error kept behind its suite -/
/-- an exception object of the class cls with the dict d, kept at a -/
def ExV (cls : Value) (d : Option Addr) (a : Addr) : HO := .ext fun h => ∃ (oe : Obj) (vs : Array Value), h.get? a = some oe ∧ Zc cls d oe ∧ oe.data = .fields vs
theorem exV_ok {P : Program} {w : World} {H : Hp} {h : Heap} {a : Addr} {cls : Value} {d : Option Addr} {oe : Obj} {vs : Array Value} (e : h.get? a = some oe) (z : Zc cls d oe) (hd : oe.data = .fields vs) : ObjOk P w H h a (ExV cls d a) :=
  ⟨⟨oe, vs, e, z, hd⟩, ⟨oe, e⟩, fun _ _ ⟨o, v, q, r⟩ k => ⟨o, v, k o q, r⟩⟩
section
variable {X : Cx} {pins : List (Addr × Obj)} {σ : L2.St} {H : Hp} {s : Shared}
theorem Inv.keepX {a : Addr} {oe : Obj} {vs : Array Value} {cls : Value} {d : Option Addr} (ok : X.Ok) (I : Inv (X.suite a ((a, oe) :: (X.pn ++ pins))) [] σ H s) (n0 : X.s_0.heap.get? a = none) (np : ∀ p ∈ X.pn ++ pins, p.1 ≠ a) (hz : Zc cls d oe) (hd : oe.data = .fields vs) :
    Inv X pins σ (upd H a (ExV cls d a)) s := by
  obtain ⟨ha, na, nL, nF, nc⟩ := I.pin (a, oe) (List.mem_append_left _ List.mem_cons_self)
  simp only at ha na nL nF nc
  have ne0 : ∀ b o, X.s_0.heap.get? b = some o → b ≠ a := fun b o e z => by
    rw [z, n0] at e
    cases e
  have neT : ∀ b o, H b = some o → b ≠ a := fun b o e z => by
    rw [z, na] at e
    cases e
  have base : Un X.fs X.ex X.H_0 (upd H a (ExV cls d a)) X.s_0.heap s.heap := by
    refine ⟨I.base.keep, I.base.slot, fun b o e n hq => ?_, I.base.there, fun b xs e => ?_, fun b o u e => ?_, fun b ps e => ?_⟩
    · rw [upd_ne (ne0 b o e)]
      exact I.base.free b o e n hq
    · have q := I.base.tups b xs e
      rw [upd_ne (neT b _ q)]
      exact q
    · have q := I.base.frzs b o u e
      rw [upd_ne (neT b _ q)]
      exact q
    · obtain ⟨m, q⟩ := I.base.tbls b ps e
      exact ⟨m, by rw [upd_ne (neT b _ q)]; exact q⟩
  refine ⟨ok, I.os, I.bare, base, I.loc, I.cell, ?_, fun x c e => ?_, fun p hp => ?_, fun b u e => ?_, I.len⟩
  · rw [upd_ne (Ne.symm nL)]
    exact I.free
  · have hc : c ≠ a := fun z => by
      obtain ⟨v, o, ho, hv⟩ := I.cell x c e
      rw [z, ha] at ho
      cases ho
      exact nc v hv
    rw [upd_ne hc]
    exact I.freeC x c e
  · obtain ⟨e, n, ne, nf, dd⟩ := I.pin p (List.mem_append_left _ (List.mem_cons_of_mem _ hp))
    exact ⟨e, by rw [upd_ne (np p hp)]; exact n, ne, nf, dd⟩
  · by_cases hb : b = a
    · subst hb
      rw [upd_same] at e
      cases e
      exact exV_ok ha hz hd
    · rw [upd_ne hb] at e
      exact (I.hok b u e).stay (fun c v _ q => q) (fun c q => by rw [upd_ne (neT c _ q)]; exact q) fun c xs q => by rw [upd_ne (neT c _ q)]; exact q
end
/-- what the clause 'except x as n' wishes of an exception of the body, where the error stays behind the suite -/
def wKeep (K : PySem.W.Frag) (c : Value) (i : Nat) (ts : Addr → Value → Option Addr → TS) (Wout : WX) (D : Ends) : WX := fun cls d σ H =>
  ∃ b, PySem.W.exmOne K cls c = some b ∧ (b = true → ∀ a, H a = none → ts a cls d { nx := fun σ' H' => D.nx (σ'.set i none) (upd H' a (ExV cls d a)), rt := fun v H' => D.rt v (upd H' a (ExV cls d a)), bk := fun σ' H' => D.bk (σ'.set i none) (upd H' a (ExV cls d a)), ct := fun σ' H' => D.ct (σ'.set i none) (upd H' a (ExV cls d a)) } (σ.set i (some (.ref a))) H) ∧
    (b = false → Wout cls d σ H)
section
variable {X : Cx} {x n : Str} {c : Value} {i : Nat} {body suite : List Stmt} {b₀ : Stmt} {np pos pos' : Pos} {tb : WX → TS} {ts : Addr → Value → Option Addr → TS} {Wout : WX}
theorem ps_try_keep (hs : X.stack = X.env :: X.outer) (hf : X.env.frame = some X.env.locals) (hN : X.N.Nodup) (hi : X.N[i]? = some n) (hln : X.env.kindOf n = some .local) (hex : X.ex = []) (hc : Names X x c) (tk : Takes X Wout)
    (hb : ∀ (W : WX) (pn : List (Addr × Obj)) (xe : Value → Shared → Prop), Takes (X.tr pn xe) W → PassesOwn (model X.prog X.w) X.A X.env xe → PSs (X.tr pn xe) body (tb W))
    (hsu : ∀ (a : Addr) (oe : Obj) (cls : Value) (d : Option Addr) (pn : List (Addr × Obj)), Zc cls d oe → (∃ vs, oe.data = .fields vs) → PSs (X.suite a ((a, oe) :: pn)) (b₀ :: suite) (ts a cls d)) :
    PS X (.Try body [.ExceptHandler (some (.Name x np)) (some n) (b₀ :: suite) pos'] [] [] pos) (fun D σ H => tb (wKeep X.K c i ts Wout D) D σ H) := by
  refine ⟨fun pins s σ H D I h => ?_⟩
  have ok := I.ok
  have hfr : X.A.frames = some (X.env :: X.outer) := by rw [ok.frames, hs]
  have hloc : Loc X.env.scope n := .inl hln
  refine wpAny_Try_except ?_
  refine wpAny_mono ((hb (wKeep X.K c i ts Wout D) (X.pn ++ pins) (fun e s₁ => wpAny (model X.prog X.w) X.A (noteFrame e X.env) (fun _ s₂ => wpAny (model X.prog X.w) X.A (setFlight e none) (fun _ s₃ =>
    wpAny (model X.prog X.w) X.A (handleBy e X.env [.ExceptHandler (some (.Name x np)) (some n) (b₀ :: suite) pos']) (SP X pins D) X.xe s₃) X.xe s₂) X.xe s₁) (fun u s' xx => ?_) PassesOwn.looking).run [] s σ H D (I.toTry _) h) (fun f s1 hsp => ?_) (fun e s1 he => he)
  · -- the catch
    obtain ⟨a, B, sI, pins', σ', H', cls, d, rfl, J', nb, up, sky, na, os, ag, b, hb1, hyes, hno⟩ := xx
    have J : Inv X pins σ' H' sI := J'.ofTry ok
    have sky' : Sky B (X.env :: X.outer) a (Zc cls d) X.env.locals s'.heap := by rw [← hs]; exact sky
    show wpAny (model X.prog X.w) X.A (noteFrame (.ref a) X.env) _ _ _
    refine Sky.land Zc.steady hfr hf sky' fun h3 fl3 up3 => ?_
    have J3 : Inv X pins σ' H' { s' with heap := h3 } := J.landed nb fl3.1 (up.trans up3) os ag
    obtain ⟨oe3, vs3, he3, hz3, hd3⟩ := fl3.there
    have notFr : ∀ {h : Heap} {o : Obj} {vs : Array Value}, h.FunFrames B (X.env :: X.outer) → h.get? a = some o → o.data = .fields vs → a ∉ frs (X.env :: X.outer) := fun {h o vs} ff e dd hm => by
      obtain ⟨_, o', e', hnf⟩ := ff.mem hm
      rw [e] at e'; cases e'
      exact hnf _ dd
    have nfr := notFr fl3.2.2.1 he3 hd3
    have nL : a ≠ X.env.locals := fun z => nfr (List.mem_filterMap.mpr ⟨X.env, List.mem_cons_self, by rw [hf, z]⟩)
    have nF : a ∉ X.fs := fun hm => by
      obtain ⟨e, he, q⟩ := List.mem_filterMap.mp hm
      exact nfr (List.mem_filterMap.mpr ⟨e, List.mem_cons_of_mem _ he, q⟩)
    have nst : a ∉ frs X.stack := by rw [hs]; exact nfr
    have nI : sI.heap.get? a = none := by
      cases e : sI.heap.get? a with
      | none => rfl
      | some o =>
        have q := nb a o e nst
        rw [fl3.2.1] at q
        cases q
    have n0 : X.s_0.heap.get? a = none := by
      cases e : X.s_0.heap.get? a with
      | none => rfl
      | some o =>
        obtain ⟨o', q⟩ := J.base.there a o e (by rw [hex]; exact fun z => nomatch z)
        rw [nI] at q
        cases q
    have npp : ∀ p ∈ X.pn ++ pins, p.1 ≠ a := fun p hp z => by
      have q := (J.pin p hp).1
      rw [z, nI] at q
      cases q
    have S3 := J3.suite he3 hd3 na nL nF
    refine wpAny_handleBy_cons (codeAny_handlers_test ?_) (by intro q; cases q)
    have LT : PySem.W.Looks (model X.prog X.w) h3 (typeOf (.ref a)) cls := fun A Q E s k q => wpAny_typeOf_ref (k _ _ he3) (by rw [hz3.1]; exact q)
    have LM := PySem.W.exm_one (M := model X.prog X.w) (J3.kIn) LT hb1
    have test : ∀ {Q : Value → Shared → Prop} {E : Value → Shared → Prop}, Q c { s' with heap := h3 } → wpAny (model X.prog X.w) (X.A.mark (some (.ref a))) (eval (.Name x np) X.env) Q E { s' with heap := h3 } := fun {Q E} q => by
      obtain ⟨hg, hdbg, hm | ⟨hm, hv, hnn⟩⟩ := hc
      · exact ld_glob (X := X.suite a ((a, oe3) :: (X.pn ++ pins))) S3 hg hm q hdbg
      · exact ld_blt (X := X.suite a ((a, oe3) :: (X.pn ++ pins))) S3 hg hm hv q hnn hdbg
    refine test (LM.here ?_)
    cases b with
    | true =>
      refine codeAny_handlers_suite_as ?_
      refine HandSPX.lands_againZ fl3 fun h4 fl4 up4 => ?_
      have J4 : Inv X pins σ' H' { s' with heap := h4 } := J.landed nb fl4.1 ((up.trans up3).trans up4) os ag
      obtain ⟨oe4, vs4, he4, hz4, hd4⟩ := fl4.there
      have S4 := J4.suite he4 hd4 na nL nF
      refine store_ok (X := X.suite a ((a, oe4) :: (X.pn ++ pins))) (v := .ref a) S4 hN hi hloc rfl (fun s5 S5 => ?_) (.inr hln)
      refine wpAny_mono ((hsu a oe4 cls d (X.pn ++ pins) hz4 ⟨_, hd4⟩).run [] s5 _ H' _ S5 (hyes rfl a na)) (fun f s6 hsp => ?_) (fun _ _ z => False.elim z)
      have end_ : ∀ {σ6 : L2.St} {H6 : Hp} {Q : Shared → Prop}, Inv (X.suite a ((a, oe4) :: (X.pn ++ pins))) [] σ6 H6 s6 → (∀ s7, Inv X pins (σ6.set i none) (upd H6 a (ExV cls d a)) s7 → Q s7) →
          wpAny (model X.prog X.w) X.A (do bindName X.env n .none; unbindBehindTheSuite X.env n pos') (fun _ s7 => Q s7) X.xe s6 := fun {σ6 H6 Q} S6 hq =>
        gone_ok (X := X.suite a ((a, oe4) :: (X.pn ++ pins))) S6 hN hi hln fun s7 S7 => hq s7 (Inv.keepX ok S7 n0 npp hz4 hd4)
      cases f with
      | next =>
        obtain ⟨σ6, H6, S6, q6⟩ := hsp
        exact end_ S6 fun s7 J7 => ⟨_, _, J7, q6⟩
      | brk =>
        obtain ⟨σ6, H6, S6, q6⟩ := hsp
        exact end_ S6 fun s7 J7 => ⟨_, _, J7, q6⟩
      | cont =>
        obtain ⟨σ6, H6, S6, q6⟩ := hsp
        exact end_ S6 fun s7 J7 => ⟨_, _, J7, q6⟩
      | ret u =>
        obtain ⟨v6, σ6, H6, S6, r6, q6⟩ := hsp
        exact end_ S6 fun s7 J7 => ⟨_, _, _, J7, r6, q6⟩
    | false =>
      show wpAny _ X.A (handleBy (.ref a) X.env []) _ _ _
      refine wpAny_handleBy_nil ?_
      obtain ⟨k1, k2, k3, oe, vs, T, oT, ts', he, hz, hd, h1, hr⟩ := id fl3
      unfold PySem.passOn
      refine wpAny_bind (wpAny_field he hd h1 ?_)
      rw [if_neg (show ¬ ((Value.ref T == Value.none) = true) from by simp)]
      have fin : wpAny (model X.prog X.w) X.A (setFlight (.ref a) X.env.frame) (fun _ s4 => wpAny (model X.prog X.w) X.A (throw (.ref a) : Sem Flow) (SP X pins D) X.xe s4) X.xe { s' with heap := h3 } := by
        rw [hf]
        refine HandSPX.setFlight_upZ fl3 fun h4 hh4 up4 => wpAny_throw (tk _ _ ?_)
        exact ⟨a, B, sI, pins, σ', H', cls, d, rfl, J, nb, (up.trans up3).trans up4, .inr (.inr (by rw [hs]; exact hh4)), na, os, ag, hno rfl⟩
      first
        | exact wpAny_bind (wpAny_pure (wpAny_bind fin))
        | exact wpAny_bind fin
  · cases f with
    | next =>
      obtain ⟨σ', H', J', q⟩ := hsp
      exact wpAny_execs_nil ⟨σ', H', J'.ofTry ok, q⟩
    | brk =>
      obtain ⟨σ', H', J', q⟩ := hsp
      exact ⟨σ', H', J'.ofTry ok, q⟩
    | cont =>
      obtain ⟨σ', H', J', q⟩ := hsp
      exact ⟨σ', H', J'.ofTry ok, q⟩
    | ret u =>
      obtain ⟨v, σ', H', J', r, q⟩ := hsp
      exact ⟨v, σ', H', J'.ofTry ok, r, q⟩
end
/-! ### isinstance and fields of a kept error -/
/-- a kept error of the class at D, its fields fs -/
structure ExcAt (H : Hp) (a D : Addr) (d : Option Addr) (fs : List (Str × V)) : Prop where
  at_ : H a = some (ExV (.ref D) d a)
  dic : (d = none ∧ fs = []) ∨ ∃ dd, d = some dd ∧ H dd = some (.xd fs)
theorem ExcAt.same {H H' : Hp} {a D : Addr} {d : Option Addr} {fs : List (Str × V)} (h : ExcAt H a D d fs) (s : Same H H') : ExcAt H' a D d fs :=
  ⟨s _ _ h.at_, h.dic.imp id fun ⟨dd, e, q⟩ => ⟨dd, e, s _ _ q⟩⟩
theorem ExcAt.inst {X : Cx} {pins : List (Addr × Obj)} {σ : L2.St} {H : Hp} {s : Shared} {a D : Addr} {d : Option Addr} {fs : List (Str × V)} (I : Inv X pins σ H s) (h : ExcAt H a D d fs) : ∃ oe od, PySem.W.InstAt s.heap a oe D od := by
  have ho : ObjOk X.prog X.w H s.heap a (ExV (.ref D) d a) := I.hok a _ h.at_
  obtain ⟨⟨oe, vs, hget, hz, hv⟩, _⟩ := ho
  rcases h.dic with ⟨rfl, _⟩ | ⟨dd, rfl, hdd⟩
  · refine ⟨oe, none, ?_⟩
    obtain ⟨oc, od, oda, osl⟩ := oe
    obtain ⟨h1, h2⟩ := hz
    dsimp only at h1 h2 hv
    subst h1 h2 hv
    exact ⟨hget, rfl, rfl, trivial⟩
  · have hx : ObjOk X.prog X.w H s.heap dd (.xd fs) := I.hok dd _ hdd
    obtain ⟨mA, hns, _⟩ := hx
    obtain ⟨od, ho, _⟩ := lookIn_ns hns
    exact ⟨oe, some od, ⟨hget, hz.1, by unfold PySem.W.notCls; rw [hv] <;> rfl, by rw [hz.2]; exact ho⟩⟩
def rIsV (K : PySem.W.Frag) : List V → Hp → VK → Prop := fun xs H Q => ∃ (a D : Addr) (d : Option Addr) (fs : List (Str × V)) (c : V) (cv : Value) (b : Bool), xs = [.ref a, c] ∧ ExcAt H a D d fs ∧ XcC K D ∧
  (∀ u, RelV c u → u = cv) ∧ PySem.W.kitOne K (.ref D) cv = some b ∧ Q (.bl b) H
theorem call_isV {X : Cx} : CallR X (.builtin "isinstance") (rIsV X.K) := by
  intro pins s σ H xs us Q I r h
  obtain ⟨a, D, d, fs, c, cv, b, rfl, hx, C, hcv, e, q⟩ := h
  cases r with
  | cons rx rr =>
    cases rr with
    | cons rt rr =>
      cases rr
      cases rx
      have e1 := hcv _ rt
      subst e1
      obtain ⟨oe, od, J⟩ := hx.inst I
      exact PySem.W.kia_one (PySem.W.kitx_exc C.ic C.xf.ga C.xf.gg C.xf.exC C.ca C.cg C.ct C.cm) I.kIn J e (fun z => nomatch z) fun tk => ⟨.bl b, H, I.kept (t' := tk) fun _ _ z => z, rfl, q⟩
def tXv (K : PySem.W.Frag) (f : Str) (te : TE) : TE := fun σ H Q => te σ H fun x H1 => ∃ (a D dd : Addr) (fs : List (Str × V)) (v : V), x = .ref a ∧ ExcAt H1 a D (some dd) fs ∧ XfC K D ∧ PySem.W.findIn K (.ref D) f = some none ∧ fs.lookup f = some v ∧ Q v H1
theorem pe_xv {X : Cx} {e : Expr} {te : TE} {pos : Pos} {n : Str} (he : PE X e te) (hb : attributeBase e n X.env (eval e X.env) = eval e X.env := by rfl) :
    PE X (.Attribute e n pos) (tXv X.K n te) := by
  refine ⟨fun pins s σ H Q I h => ?_⟩
  refine attr_of hb (thn (he.run pins s σ H _ I h) fun u s1 hh => ?_)
  obtain ⟨x, H1, I1, rx, a, D, dd, fs, v, ex, hx, T, hno, l, q⟩ := hh
  subst ex
  obtain rfl : u = Value.ref a := rx
  have ho : ObjOk X.prog X.w H1 s1.heap a (ExV (.ref D) (some dd) a) := I1.hok a _ hx.at_
  obtain ⟨⟨oe, vs, hget, hz, hv⟩, _⟩ := ho
  obtain ⟨dd', ed, hdd⟩ : ∃ dd', some dd = some dd' ∧ H1 dd' = some (.xd fs) := by
    rcases hx.dic with ⟨z, _⟩ | z
    · cases z
    · exact z
  cases ed
  have hx2 : ObjOk X.prog X.w H1 s1.heap dd (.xd fs) := I1.hok dd _ hdd
  obtain ⟨mA, hns, hr⟩ := hx2
  obtain ⟨od, ho, hl⟩ := lookIn_ns hns
  obtain ⟨u, hu, ru⟩ := RelO.some_of (v := v) (o := mA n) (by rw [← l]; exact hr n)
  have J : PySem.W.InstAt s1.heap a oe D (some od) := ⟨hget, hz.1, by unfold PySem.W.notCls; rw [hv] <;> rfl, by rw [hz.2]; exact ho⟩
  exact HandSPX.exc_get I1.kIn J T.ga T.gg T.exC (PySem.W.findObj_own T.hdC hno rfl (by rw [hl, hu])) (handed_of ru) ⟨v, H1, I1.tok _, ru, q⟩
/-! ### methods without arguments that may raise -/
section
variable {X : Cx} {k : Nat} {sp : Sp} {pos apos : Pos} {C : Addr} {m : Str} {o : Expr} {ta : TE} {W : WX}
theorem pe_metX0 {pl : Sem Bool} (F : Met X.prog X.w X.K X.mg X.base (L2.CX X.prog X.w) k C m sp) (ho : PE X o ta) (hr : Room k X.A) (tk : Takes X W)
    (hc : eval (.Call (.Attribute o m apos) [] [] pos) X.env = (do
      let ov ← eval o X.env
      standAt apos.atName
      let (f, first) ← holding [ov] (getMethod ov m pl)
      callWith pos f first (backTo pos (starEach [] X.env)) (backToKw pos (keywordEach [] X.env))) := by rfl) :
    PE X (.Call (.Attribute o m apos) [] [] pos) (fun σ H Q => ta σ H fun x H1 => ∃ a dx fs, x = .ref a ∧ H1 a = some (.ins C dx fs) ∧ fs.lookup m = none ∧ sp [x] H1 Q (WE W σ)) := by
  obtain ⟨f, fd, ps, G, mt, b⟩ := F.ex
  constructor
  intro pins s σ H Q I h
  refine PySem.W.methodCall_KW (pl := pl) (thn (ho.run pins s σ H _ I h) ?_) hc
  rintro u s1 ⟨v, H1, I1, rv, a, dx, fs, ev, ea, hl, q⟩
  subst ev
  obtain rfl : u = Value.ref a := rv
  refine getmeth_ok I1 ea F.cl mt hl ?_
  exact PySem.W.callWith_K0 (first := [.ref a]) I1.kIn mt.kp (run_fnS (us := [.ref a]) (vs := [.ref a]) G hr b (passAt tk σ) I1 (.cons rfl .nil) q)
theorem pe_metL0 {pl : Sem Bool} (F : Met X.prog X.w X.K X.mg X.base (L2.CX X.prog X.w) k C m sp) (ho : PE X o ta) (hr : Room k X.A)
    (hc : eval (.Call (.Attribute o m apos) [] [] pos) X.env = (do
      let ov ← eval o X.env
      standAt apos.atName
      let (f, first) ← holding [ov] (getMethod ov m pl)
      callWith pos f first (backTo pos (starEach [] X.env)) (backToKw pos (keywordEach [] X.env))) := by rfl) :
    PE X (.Call (.Attribute o m apos) [] [] pos) (fun σ H Q => ta σ H fun x H1 => ∃ a dx fs, x = .ref a ∧ H1 a = some (.ins C dx fs) ∧ fs.lookup m = none ∧ sp [x] H1 Q E0) := by
  obtain ⟨f, fd, ps, G, mt, b⟩ := F.ex
  have z := pe_meth0 (apos := apos) (pos := pos) ho F.cl mt G hr b .nil passL hc
  exact ⟨fun pins s σ H Q I h => z.run pins s σ H Q I h⟩
end
end Jr
namespace Jr
open PySem PySem.Spec PyProof.Rows L2
/-- an error of the k-th of the thirteen kinds -/
structure KindC (K : PySem.W.Frag) (D : Addr) (k : Nat) : Prop where
  xc : XcC K D
  je : PySem.W.kitOne K (.ref D) (.ref (He.ga K "JoinError")) = some true
  ve : PySem.W.kitOne K (.ref D) (.type "ValueError") = some true
  k0 : PySem.W.kitOne K (.ref D) (.ref (He.ga K "NoTable")) = some (decide (0 = k))
  k1 : PySem.W.kitOne K (.ref D) (.ref (He.ga K "NoGrammar")) = some (decide (1 = k))
  k2 : PySem.W.kitOne K (.ref D) (.ref (He.ga K "NoCutting")) = some (decide (2 = k))
  k3 : PySem.W.kitOne K (.ref D) (.ref (He.ga K "NoSign")) = some (decide (3 = k))
  k4 : PySem.W.kitOne K (.ref D) (.ref (He.ga K "NoPiece")) = some (decide (4 = k))
  k5 : PySem.W.kitOne K (.ref D) (.ref (He.ga K "NoNumber")) = some (decide (5 = k))
  k6 : PySem.W.kitOne K (.ref D) (.ref (He.ga K "NoCount")) = some (decide (6 = k))
  k7 : PySem.W.kitOne K (.ref D) (.ref (He.ga K "NoText")) = some (decide (7 = k))
  k8 : PySem.W.kitOne K (.ref D) (.ref (He.ga K "NoPlace")) = some (decide (8 = k))
  k9 : PySem.W.kitOne K (.ref D) (.ref (He.ga K "NoLead")) = some (decide (9 = k))
  k10 : PySem.W.kitOne K (.ref D) (.ref (He.ga K "NoDeed")) = some (decide (10 = k))
  k11 : PySem.W.kitOne K (.ref D) (.ref (He.ga K "NoRow")) = some (decide (11 = k))
  k12 : PySem.W.kitOne K (.ref D) (.ref (He.ga K "NoName")) = some (decide (12 = k))
section
variable {P : Program} {w : World} {K : PySem.W.Frag} {mg : Str → Option Value} {base : Heap}
def spRefusal (K : PySem.W.Frag) : Sp := fun vs H Q _ => ∃ (a D : Addr) (d : Option Addr) (fs : List (Str × V)) (k : Nat), vs = [.ref a] ∧ ExcAt H a D d fs ∧ KindC K D k ∧ k < 13 ∧ ∀ H' q, Same H H' → H q = none → H' q = some (.lst [.int (k : Nat)]) → Q (.ref q) H'
theorem cal__law_refusal (T : Tx K mg) : Cal P w K mg base CX0 1 "_law_refusal" (spRefusal K) := by
  obtain ⟨fd, F⟩ := T.d__law_refusal
  refine ⟨_, fd, P__law_refusal, F.ok sc__law_refusal (fun vs H Q E h => ?_) (fun cdv A outer s H vs Q E hr h => ?_), T.g__law_refusal, F.kp, F.bindsN (ps := P__law_refusal) fun _ _ _ _ _ _ us hl => match us, hl with | [_], _ => rfl⟩
  · obtain ⟨a, D, d, fs, k, rfl, _⟩ := h
    rfl
  · obtain ⟨a, D, d, fs, kk, rfl, hx, kc, kl, k⟩ := h
    refine ⟨_, (PSs.nox (pss_cons (ps_if (PW.pt (pw_or (pt_not (pt_val (pe_callB (id := "isinstance") call_isV (by rfl) T.n_isinstance (by decide +kernel) (pa_cons (pv 0) (pa_cons (pe_glob (v := .ref (He.ga K "JoinError")) (by rfl) T.g_JoinError rfl) pa_nil))))) (pw_or1 (pt_not (pt_val (pe_callB (id := "isinstance") call_isV (by rfl) T.n_isinstance (by decide +kernel) (pa_cons (pv 0) (pa_cons (pe_bltn (v := .ty "ValueError") (by rfl) T.n_ValueError (by decide +kernel) rfl) pa_nil)))))))) (pss_one (ps_ret (pe_lstG pa_nil))) pss_nil)
      (pss_cons (ps_set (i := 1) sc__law_refusal.nd rfl (Or.inr rfl) (pe_lstG (pa_cons (pe_callB (id := "isinstance") call_isV (by rfl) T.n_isinstance (by decide +kernel) (pa_cons (pv 0) (pa_cons (pe_glob (v := .ref (He.ga K "NoTable")) (by rfl) T.g_NoTable rfl) pa_nil))) (pa_cons (pe_callB (id := "isinstance") call_isV (by rfl) T.n_isinstance (by decide +kernel) (pa_cons (pv 0) (pa_cons (pe_glob (v := .ref (He.ga K "NoGrammar")) (by rfl) T.g_NoGrammar rfl) pa_nil))) (pa_cons (pe_callB (id := "isinstance") call_isV (by rfl) T.n_isinstance (by decide +kernel) (pa_cons (pv 0) (pa_cons (pe_glob (v := .ref (He.ga K "NoCutting")) (by rfl) T.g_NoCutting rfl) pa_nil))) pa_nil)))))
      (pss_cons (ps_set (i := 1) sc__law_refusal.nd rfl (Or.inr rfl) (pe_op op_catG (pv 1) (pe_lstG (pa_cons (pe_callB (id := "isinstance") call_isV (by rfl) T.n_isinstance (by decide +kernel) (pa_cons (pv 0) (pa_cons (pe_glob (v := .ref (He.ga K "NoSign")) (by rfl) T.g_NoSign rfl) pa_nil))) (pa_cons (pe_callB (id := "isinstance") call_isV (by rfl) T.n_isinstance (by decide +kernel) (pa_cons (pv 0) (pa_cons (pe_glob (v := .ref (He.ga K "NoPiece")) (by rfl) T.g_NoPiece rfl) pa_nil))) (pa_cons (pe_callB (id := "isinstance") call_isV (by rfl) T.n_isinstance (by decide +kernel) (pa_cons (pv 0) (pa_cons (pe_glob (v := .ref (He.ga K "NoNumber")) (by rfl) T.g_NoNumber rfl) pa_nil))) pa_nil))))))
      (pss_cons (ps_set (i := 1) sc__law_refusal.nd rfl (Or.inr rfl) (pe_op op_catG (pv 1) (pe_lstG (pa_cons (pe_callB (id := "isinstance") call_isV (by rfl) T.n_isinstance (by decide +kernel) (pa_cons (pv 0) (pa_cons (pe_glob (v := .ref (He.ga K "NoCount")) (by rfl) T.g_NoCount rfl) pa_nil))) (pa_cons (pe_callB (id := "isinstance") call_isV (by rfl) T.n_isinstance (by decide +kernel) (pa_cons (pv 0) (pa_cons (pe_glob (v := .ref (He.ga K "NoText")) (by rfl) T.g_NoText rfl) pa_nil))) (pa_cons (pe_callB (id := "isinstance") call_isV (by rfl) T.n_isinstance (by decide +kernel) (pa_cons (pv 0) (pa_cons (pe_glob (v := .ref (He.ga K "NoPlace")) (by rfl) T.g_NoPlace rfl) pa_nil))) pa_nil))))))
      (pss_cons (ps_set (i := 1) sc__law_refusal.nd rfl (Or.inr rfl) (pe_op op_catG (pv 1) (pe_lstG (pa_cons (pe_callB (id := "isinstance") call_isV (by rfl) T.n_isinstance (by decide +kernel) (pa_cons (pv 0) (pa_cons (pe_glob (v := .ref (He.ga K "NoLead")) (by rfl) T.g_NoLead rfl) pa_nil))) (pa_cons (pe_callB (id := "isinstance") call_isV (by rfl) T.n_isinstance (by decide +kernel) (pa_cons (pv 0) (pa_cons (pe_glob (v := .ref (He.ga K "NoDeed")) (by rfl) T.g_NoDeed rfl) pa_nil))) (pa_cons (pe_callB (id := "isinstance") call_isV (by rfl) T.n_isinstance (by decide +kernel) (pa_cons (pv 0) (pa_cons (pe_glob (v := .ref (He.ga K "NoRow")) (by rfl) T.g_NoRow rfl) pa_nil))) pa_nil))))))
      (pss_cons (ps_set (i := 1) sc__law_refusal.nd rfl (Or.inr rfl) (pe_op op_catG (pv 1) (pe_lstG (pa_cons (pe_callB (id := "isinstance") call_isV (by rfl) T.n_isinstance (by decide +kernel) (pa_cons (pv 0) (pa_cons (pe_glob (v := .ref (He.ga K "NoName")) (by rfl) T.g_NoName rfl) pa_nil))) pa_nil))))
      (pss_one (ps_ret (pe_lc (own := [("_law_k", 2)]) (g := gName 2) (by rfl) sc__law_refusal.nd (pi_range1 (by rfl) T.n_range (pa_cons pe_int pa_nil)) (blkOk_by (own := [("_law_k", 2)]) (N := N__law_refusal) (sc := defScope s__law_refusal) (by decide +kernel)) (fun _ _ _ _ _ => (pg_name (i := 2) sc__law_refusal.nd rfl (Or.inl rfl))) (fun _ _ _ _ _ => (pts_one (pt_val (pe_ix (ix_listK (K := K)) (pv 1) (pv 2) (fun _ _ => rfl))))) (fun _ _ _ _ _ => (pv 2)))))))))))), ?_⟩
    refine ⟨_, rfl, a, D, d, fs, _, _, _, rfl, hx, kc.xc, fun _ r => r, kc.je, _, rfl, iteF ?_⟩
    refine ⟨_, rfl, a, D, d, fs, _, _, _, rfl, hx, kc.xc, fun _ r => r, kc.ve, _, rfl, iteF ?_⟩
    have kind : ∀ {H' : Hp}, Same H H' → ExcAt H' a D d fs := fun s => hx.same s
    refine ⟨_, rfl, a, D, d, fs, _, _, _, rfl, kind (Same.refl _), kc.xc, fun _ r => r, kc.k0, _, rfl, a, D, d, fs, _, _, _, rfl, kind (Same.refl _), kc.xc, fun _ r => r, kc.k1, _, rfl, a, D, d, fs, _, _, _, rfl, kind (Same.refl _), kc.xc, fun _ r => r, kc.k2, (by show 3 ≤ sizeLine; decide), fun q0 H0 n0 s0 h0 => ?_⟩
    refine ⟨_, rfl, _, rfl, a, D, d, fs, _, _, _, rfl, kind s0, kc.xc, fun _ r => r, kc.k3, _, rfl, a, D, d, fs, _, _, _, rfl, kind s0, kc.xc, fun _ r => r, kc.k4, _, rfl, a, D, d, fs, _, _, _, rfl, kind s0, kc.xc, fun _ r => r, kc.k5, (by show 3 ≤ sizeLine; decide), fun p1 G1 m1 r1 g1 => ?_⟩
    refine ⟨q0, p1, _, _, rfl, rfl, SqL.of (r1 _ _ h0), SqL.of g1, (by show 3 + 3 ≤ sizeLine; decide), fun q1 H1 n1 t1 h1 => ?_⟩
    have s1 := (s0.trans r1).trans t1
    refine ⟨_, rfl, _, rfl, a, D, d, fs, _, _, _, rfl, kind s1, kc.xc, fun _ r => r, kc.k6, _, rfl, a, D, d, fs, _, _, _, rfl, kind s1, kc.xc, fun _ r => r, kc.k7, _, rfl, a, D, d, fs, _, _, _, rfl, kind s1, kc.xc, fun _ r => r, kc.k8, (by show 3 ≤ sizeLine; decide), fun p2 G2 m2 r2 g2 => ?_⟩
    refine ⟨q1, p2, _, _, rfl, rfl, SqL.of (r2 _ _ h1), SqL.of g2, (by show 6 + 3 ≤ sizeLine; decide), fun q2 H2 n2 t2 h2 => ?_⟩
    have s2 := (s1.trans r2).trans t2
    refine ⟨_, rfl, _, rfl, a, D, d, fs, _, _, _, rfl, kind s2, kc.xc, fun _ r => r, kc.k9, _, rfl, a, D, d, fs, _, _, _, rfl, kind s2, kc.xc, fun _ r => r, kc.k10, _, rfl, a, D, d, fs, _, _, _, rfl, kind s2, kc.xc, fun _ r => r, kc.k11, (by show 3 ≤ sizeLine; decide), fun p3 G3 m3 r3 g3 => ?_⟩
    refine ⟨q2, p3, _, _, rfl, rfl, SqL.of (r3 _ _ h2), SqL.of g3, (by show 9 + 3 ≤ sizeLine; decide), fun q3 H3 n3 t3 h3 => ?_⟩
    have s3 := (s2.trans r3).trans t3
    refine ⟨_, rfl, _, rfl, a, D, d, fs, _, _, _, rfl, kind s3, kc.xc, fun _ r => r, kc.k12, (by show 1 ≤ sizeLine; decide), fun p4 G4 m4 r4 g4 => ?_⟩
    refine ⟨q3, p4, _, _, rfl, rfl, SqL.of (r4 _ _ h3), SqL.of g4, (by show 12 + 1 ≤ sizeLine; decide), fun q4 H4 n4 t4 h4 => ?_⟩
    have s4 := (s3.trans r4).trans t4
    have h4 : H4 q4 = some (.lst ((List.range 13).map fun i => V.bl (decide (i = kk)))) := h4
    refine ⟨_, rfl, by decide, by decide, fun Dd hDd => lc_rangeM (n := 13) (lo := 0) (p := fun i => decide (i = kk)) (f := fun i : Nat => V.int (0 + (i : Int))) hDd (by decide) (fun i hi H' s' N M hM hN => ?_) (fun H5 s5 hL => ?_)⟩
    · have at_ : atI ((List.range 13).map fun i => V.bl (decide (i = kk))) (0 + (i : Int)) = some (V.bl (decide (i = kk))) := by
        rw [Int.zero_add]
        exact atm (f := fun i => V.bl (decide (i = kk))) (List.getElem?_range hi)
      refine ⟨rfl, _, rfl, _, rfl, q4, _, _, _, rfl, rfl, SqL.of (s' _ _ h4), at_, _, rfl, ?_⟩
      cases c : decide (i = kk) with
      | true => exact iteT ⟨_, rfl, hM c⟩
      | false => exact iteF (hN c)
    · have ef : (List.range 13).filter (fun i => decide (i = kk)) = [kk] := by
        have key : ∀ k : Nat, k < 13 → (List.range 13).filter (fun i => decide (i = k)) = [k] := by decide
        exact key kk kl
      rw [ef] at hL
      have hL' : H5 Dd = some (.lst [.int (kk : Nat)]) := by
        rw [hL]
        show some (HO.lst [V.int (0 + (kk : Int))]) = _
        rw [Int.zero_add]
      exact k _ Dd (s4.trans s5) (s4.free hDd) hL'
end
end Jr
namespace Jr
open PySem PySem.Spec PyProof.Rows L2
theorem eqFirst {k j : Int} {us : List V} : PyData.eqv (.list ((V.int k :: us).map fdV)) (.list (([j] : List Int).map PyData.int)) = decide (us = [] ∧ k = j) := by
  cases us with
  | nil =>
    by_cases h : k = j
    · subst h; simp [PyData.eqv, PyData.eqvAll, fdV]
    · simp [PyData.eqv, PyData.eqvAll, fdV, h]
  | cons u us => simp [PyData.eqv, PyData.eqvAll, fdV]
/-- what is seen of an error besides its kind -/
def SeenF (K : PySem.W.Frag) (D : Addr) (k : Nat) (fs : List (Str × V)) (us : List V) : Prop :=
  (8 ≤ k ∧ us = []) ∨ ((k = 3 ∨ k = 4 ∨ k = 5) ∧ XfC K D ∧ ∃ u, us = [u] ∧ PySem.W.findIn K (.ref D) "place" = some none ∧ fs.lookup ("place" : Str) = some u) ∨
  ((k = 0 ∨ k = 1) ∧ XfC K D ∧ ∃ p n, us = [p, n] ∧ PySem.W.findIn K (.ref D) "part" = some none ∧ fs.lookup ("part" : Str) = some p ∧ PySem.W.findIn K (.ref D) "number" = some none ∧ fs.lookup ("number" : Str) = some n) ∨
  (k = 2 ∧ XfC K D ∧ ∃ p n, us = [p, n] ∧ PySem.W.findIn K (.ref D) "kind" = some none ∧ fs.lookup ("kind" : Str) = some p ∧ PySem.W.findIn K (.ref D) "place" = some none ∧ fs.lookup ("place" : Str) = some n) ∨
  (k = 6 ∧ XfC K D ∧ ∃ u, us = [u] ∧ PySem.W.findIn K (.ref D) "number" = some none ∧ fs.lookup ("number" : Str) = some u) ∨
  (k = 7 ∧ XfC K D ∧ ∃ u, us = [u] ∧ PySem.W.findIn K (.ref D) "row" = some none ∧ fs.lookup ("row" : Str) = some u)
def NoBl : V → Prop
  | .non => True
  | .int _ => True
  | .str _ => True
  | _ => False
theorem NoBl.ty {K : PySem.W.Frag} {H : Hp} {v : V} (h : NoBl v) : ∃ t, TyX K H v t ∧ PySem.W.kitOne K t (.type "bool") = some false := by
  cases v with
  | non => exact ⟨_, .base .non, kit_ty (by decide +kernel)⟩
  | int i => exact ⟨_, .base (.int i), kit_ty (by decide +kernel)⟩
  | str z => exact ⟨_, .base (.str z), kit_ty (by decide +kernel)⟩
  | _ => cases h
section
variable {P : Program} {w : World} {K : PySem.W.Frag} {mg : Str → Option Value} {base : Heap}
def spSeen (K : PySem.W.Frag) : Sp := fun vs H Q _ => ∃ (a D : Addr) (d : Option Addr) (fs : List (Str × V)) (k : Nat) (us : List V), vs = [.ref a] ∧ ExcAt H a D d fs ∧ KindC K D k ∧ k < 13 ∧ SeenF K D k fs us ∧ (∀ u ∈ us, Fl u ∧ NoBl u) ∧
  ∀ H' q, Same H H' → H' q = some (.lst (.int (k : Nat) :: us)) → Q (.ref q) H'
/-- a test of what stays, whatever is made meanwhile -/
def BS (t : TT) (σ : L2.St) (H : Hp) (b : Bool) : Prop := ∀ H1, Same H H1 → ∀ R : Bool → Hp → Prop, (∀ H', Same H1 H' → R b H') → t σ H1 R
theorem BS.or {t u : TT} {σ : L2.St} {H : Hp} {b c : Bool} (h : BS t σ H b) (k : BS u σ H c) : BS (tOr t u) σ H (b || c) := fun H1 s1 R r => by
  refine h H1 s1 _ fun H2 s2 => ?_
  cases b with
  | true => exact iteT (r H2 s2)
  | false => exact iteF (k H2 (s1.trans s2) _ fun H3 s3 => r H3 (s2.trans s3))
theorem BS.eq1 {f : Addr} {kk : Nat} {vs : List V} {σ : L2.St} {H : Hp} (j : Int) (hs : σ[1]? = some (some (.ref f))) (hf : H f = some (.lst (.int (kk : Nat) :: vs))) (hv : ∀ u ∈ vs, Fl u) : BS (tTest (tOp (rEqD K) (tVar 1) (tInts [j]))) σ H (decide (vs = [] ∧ ((kk : Nat) : Int) = j)) := fun H1 s1 R r => by
  have flk : ∀ x ∈ V.int (kk : Nat) :: vs, Fl x := fun x hx => by
    rcases List.mem_cons.mp hx with rfl | hx
    · exact trivial
    · exact hv x hx
  refine ⟨_, hs, fun q H2 n2 s2 h2 => ⟨_, _, dpL (SqL.of (s2 _ _ (s1 _ _ hf))) flk, dpI (xs := [j]) (SqL.of h2), shL flk, shI _, _, rfl, ?_⟩⟩
  have e : PyData.eqv (.list ((V.int (kk : Nat) :: vs).map fdV)) (dI [j]) = decide (vs = [] ∧ ((kk : Nat) : Int) = j) := eqFirst
  show R (PyData.eqv (.list ((V.int (kk : Nat) :: vs).map fdV)) (dI [j])) H2
  rw [e]
  exact r H2 s2
theorem cal__law_seen (T : Tx K mg) : Cal P w K mg base CX0 2 "_law_seen" (spSeen K) := by
  have C__law_refusal := cal__law_refusal (P := P) (w := w) (base := base) T
  obtain ⟨fd, F⟩ := T.d__law_seen
  refine ⟨_, fd, P__law_seen, F.ok sc__law_seen (fun vs H Q E h => ?_) (fun cdv A outer s H vs Q E hr h => ?_), T.g__law_seen, F.kp, F.bindsN (ps := P__law_seen) fun _ _ _ _ _ _ us hl => match us, hl with | [_], _ => rfl⟩
  · obtain ⟨a, D, d, fs, k, us, rfl, _⟩ := h
    rfl
  · obtain ⟨a, D, d, fs, kk, us, rfl, hx, kc, kl, sf, fl, k⟩ := h
    refine ⟨_, (PSs.nox (pss_cons (ps_set (i := 1) sc__law_seen.nd rfl (Or.inl rfl) (pe_cal C__law_refusal (by first | exact hr | exact hr.mono (by decide)) (by rfl) (pa_cons (pv 0) pa_nil)))
      (C8.pss_cut (ps_if (PW.pt (pw_or (pt_cmpR (op_eqD hr.units) (pv 1) (pe_intsAs (ns := [0]) (pe_litI (ns := [0]) (pe_lst (pa_cons pe_int pa_nil)) (fun _ _ _ => rfl) (by decide)) (by decide)) (nomark _)) (pw_or1 (pt_cmpR (op_eqD hr.units) (pv 1) (pe_intsAs (ns := [1]) (pe_litI (ns := [1]) (pe_lst (pa_cons pe_int pa_nil)) (fun _ _ _ => rfl) (by decide)) (by decide)) (nomark _))))) (pss_one (ps_set (i := 1) sc__law_seen.nd rfl (Or.inl rfl) (pe_op op_catG (pv 1) (pe_lstG (pa_cons (pe_xv (pv 0)) (pa_cons (pe_xv (pv 0)) pa_nil)))))) pss_nil)
      (C8.pss_cut (ps_if (pt_cmpR (op_eqD hr.units) (pv 1) (pe_intsAs (ns := [2]) (pe_litI (ns := [2]) (pe_lst (pa_cons pe_int pa_nil)) (fun _ _ _ => rfl) (by decide)) (by decide)) (nomark _)) (pss_one (ps_set (i := 1) sc__law_seen.nd rfl (Or.inl rfl) (pe_op op_catG (pv 1) (pe_lstG (pa_cons (pe_xv (pv 0)) (pa_cons (pe_xv (pv 0)) pa_nil)))))) pss_nil)
      (C8.pss_cut (ps_if (PW.pt (pw_or (pt_cmpR (op_eqD hr.units) (pv 1) (pe_intsAs (ns := [3]) (pe_litI (ns := [3]) (pe_lst (pa_cons pe_int pa_nil)) (fun _ _ _ => rfl) (by decide)) (by decide)) (nomark _)) (pw_or (pt_cmpR (op_eqD hr.units) (pv 1) (pe_intsAs (ns := [4]) (pe_litI (ns := [4]) (pe_lst (pa_cons pe_int pa_nil)) (fun _ _ _ => rfl) (by decide)) (by decide)) (nomark _)) (pw_or1 (pt_cmpR (op_eqD hr.units) (pv 1) (pe_intsAs (ns := [5]) (pe_litI (ns := [5]) (pe_lst (pa_cons pe_int pa_nil)) (fun _ _ _ => rfl) (by decide)) (by decide)) (nomark _)))))) (pss_one (ps_set (i := 1) sc__law_seen.nd rfl (Or.inl rfl) (pe_op op_catG (pv 1) (pe_lstG (pa_cons (pe_xv (pv 0)) pa_nil))))) pss_nil)
      (C8.pss_cut (ps_if (pt_cmpR (op_eqD hr.units) (pv 1) (pe_intsAs (ns := [6]) (pe_litI (ns := [6]) (pe_lst (pa_cons pe_int pa_nil)) (fun _ _ _ => rfl) (by decide)) (by decide)) (nomark _)) (pss_one (ps_set (i := 1) sc__law_seen.nd rfl (Or.inl rfl) (pe_op op_catG (pv 1) (pe_lstG (pa_cons (pe_xv (pv 0)) pa_nil))))) pss_nil)
      (C8.pss_cut (ps_if (pt_cmpR (op_eqD hr.units) (pv 1) (pe_intsAs (ns := [7]) (pe_litI (ns := [7]) (pe_lst (pa_cons pe_int pa_nil)) (fun _ _ _ => rfl) (by decide)) (by decide)) (nomark _)) (pss_one (ps_set (i := 1) sc__law_seen.nd rfl (Or.inl rfl) (pe_op op_catG (pv 1) (pe_lstG (pa_cons (pe_xv (pv 0)) pa_nil))))) pss_nil)
      (pss_cons (ps_if (PW.pt (pw_and (pt_cmpR (op_neD hr.units) (pv 1) (pe_lstG pa_nil) (nomark _)) (pw_and1 (pt_val (pe_callB (id := "isinstance") call_isi (by rfl) T.n_isinstance (by decide +kernel) (pa_cons (pe_ix ix_list (pv 1) (pe_un un_neg pe_int) (fun _ _ => rfl)) (pa_cons (pe_bltn (v := .ty "bool") (by rfl) T.n_bool (by decide +kernel) rfl) pa_nil))))))) (pss_one (ps_ret (pe_lstG pa_nil))) pss_nil)
      (pss_one (ps_ret (pv 1))))))))))), ?_⟩
    have ul : us.length ≤ 2 := by
      rcases sf with ⟨_, rfl⟩ | ⟨_, _, u, rfl, _⟩ | ⟨_, _, p, n, rfl, _⟩ | ⟨_, _, p, n, rfl, _⟩ | ⟨_, _, u, rfl, _⟩ | ⟨_, _, u, rfl, _⟩ <;> simp
    have fl1 : ∀ u ∈ us, Fl u := fun u hu => (fl u hu).1
    have fl0 : ∀ u ∈ ([] : List V), Fl u := fun u hu => by cases hu
    have hasd : ∀ {n : Str} {v : V}, fs.lookup n = some v → ∃ dd, d = some dd := fun {n v} h => by
      rcases hx.dic with ⟨_, rfl⟩ | ⟨dd, e, _⟩
      · cases h
      · exact ⟨dd, e⟩
    have fw : ∀ {m : Nat}, ∀ u ∈ (if kk ≤ m then us else []), Fl u := fun {m} u hu => by
      by_cases h : kk ≤ m
      · rw [if_pos h] at hu; exact fl1 u hu
      · rw [if_neg h] at hu; cases hu
    refine ⟨_, rfl, a, D, d, fs, kk, rfl, hx, kc, kl, fun H1 f s1 nf hf => ?_⟩
    refine ⟨fun σ H' => ∃ f : Addr, σ = [some (.ref a), some (.ref f)] ∧ Same H H' ∧ H' f = some (.lst (.int (kk : Nat) :: (if kk ≤ 1 then us else []))), ?_, ?_⟩
    · refine (BS.or (BS.eq1 0 rfl hf fl0) (BS.eq1 1 rfl hf fl0)) H1 (Same.refl _) _ fun H2 s2 => ?_
      refine ite2 (fun c0 => ?_) (fun c0 => ?_)
      · have k0 : kk ≤ 1 := by
          simp at c0; omega
        have sg : XfC K D ∧ ∃ p n, us = [p, n] ∧ PySem.W.findIn K (.ref D) "part" = some none ∧ fs.lookup ("part" : Str) = some p ∧ PySem.W.findIn K (.ref D) "number" = some none ∧ fs.lookup ("number" : Str) = some n := by
          rcases sf with h | h | h | h | h | h
          · omega
          · omega
          · exact h.2
          · omega
          · omega
          · omega
        obtain ⟨xf, p, n, rfl, e1, l1, e2, l2⟩ := sg
        obtain ⟨dd, rfl⟩ := hasd l1
        refine ⟨_, rfl, _, rfl, a, D, dd, fs, p, rfl, hx.same (s1.trans s2), xf, e1, l1, _, rfl, a, D, dd, fs, n, rfl, hx.same (s1.trans s2), xf, e2, l2, (by show 2 ≤ sizeLine; decide), fun q4 H4 n4 s4 h4 => ⟨f, q4, _, _, rfl, rfl, SqL.of ((s2.trans s4) _ _ hf), SqL.of h4, (by show 1 + 2 ≤ sizeLine; decide), fun q5 H5 n5 s5 h5 => ⟨q5, rfl, ((s1.trans s2).trans s4).trans s5, ?_⟩⟩⟩
        rw [if_pos k0]
        exact h5
      · have k0 : ¬ kk ≤ 1 := by
          simp at c0; omega
        refine ⟨f, rfl, s1.trans s2, ?_⟩
        rw [if_neg k0]
        exact s2 _ _ hf
    rintro σ H2 ⟨f2, rfl, s2, hf2⟩
    refine ⟨fun σ H' => ∃ f : Addr, σ = [some (.ref a), some (.ref f)] ∧ Same H H' ∧ H' f = some (.lst (.int (kk : Nat) :: (if kk ≤ 2 then us else []))), ?_, ?_⟩
    · refine (BS.eq1 2 rfl hf2 fw) H2 (Same.refl _) _ fun H3 s3 => ?_
      refine ite2 (fun c0 => ?_) (fun c0 => ⟨f2, rfl, s2.trans s3, ?_⟩)
      · have k0 : kk = 2 := by
          simp at c0; omega
        have sg : XfC K D ∧ ∃ p n, us = [p, n] ∧ PySem.W.findIn K (.ref D) "kind" = some none ∧ fs.lookup ("kind" : Str) = some p ∧ PySem.W.findIn K (.ref D) "place" = some none ∧ fs.lookup ("place" : Str) = some n := by
          rcases sf with h | h | h | h | h | h
          · omega
          · omega
          · omega
          · exact h.2
          · omega
          · omega
        obtain ⟨xf, p, n, rfl, e1, l1, e2, l2⟩ := sg
        obtain ⟨dd, rfl⟩ := hasd l1
        refine ⟨_, rfl, _, rfl, a, D, dd, fs, p, rfl, hx.same (s2.trans s3), xf, e1, l1, _, rfl, a, D, dd, fs, n, rfl, hx.same (s2.trans s3), xf, e2, l2, (by show 2 ≤ sizeLine; decide), fun q9 G5 n9 r5 h9 => ⟨f2, q9, _, _, rfl, rfl, SqL.of ((s3.trans r5) _ _ hf2), SqL.of h9, ?_, fun q8 G6 n8 r6 h6 => ⟨q8, rfl, ((s2.trans s3).trans r5).trans r6, ?_⟩⟩⟩
        · rw [if_neg (by omega)]
          show 1 + 2 ≤ sizeLine
          decide
        · rw [if_neg (by omega)] at h6
          rw [if_pos (by omega)]
          exact h6
      · rw [s3 _ _ hf2]
        have k0 : ¬ (kk = 2) := fun h => c0 (by
          first
            | (rcases h with h | h | h <;> · subst h; simp)
            | (subst h; simp))
        refine congrArg (fun l => some (HO.lst (V.int (kk : Nat) :: l))) ?_
        by_cases hk : kk ≤ 1
        · rw [if_pos hk, if_pos (by omega)]
        · by_cases hk2 : kk ≤ 2
          · omega
          · rw [if_neg hk, if_neg hk2]
    rintro σ H3 ⟨f3, rfl, s3, hf3⟩
    refine ⟨fun σ H' => ∃ f : Addr, σ = [some (.ref a), some (.ref f)] ∧ Same H H' ∧ H' f = some (.lst (.int (kk : Nat) :: (if kk ≤ 5 then us else []))), ?_, ?_⟩
    · refine (BS.or (BS.eq1 3 rfl hf3 fw) (BS.or (BS.eq1 4 rfl hf3 fw) (BS.eq1 5 rfl hf3 fw))) H3 (Same.refl _) _ fun H4 s4 => ?_
      refine ite2 (fun c0 => ?_) (fun c0 => ⟨f3, rfl, s3.trans s4, ?_⟩)
      · have k0 : kk = 3 ∨ kk = 4 ∨ kk = 5 := by
          simp at c0; omega
        have sg : XfC K D ∧ ∃ u, us = [u] ∧ PySem.W.findIn K (.ref D) "place" = some none ∧ fs.lookup ("place" : Str) = some u := by
          rcases sf with h | h | h | h | h | h
          · omega
          · exact h.2
          · omega
          · omega
          · omega
          · omega
        obtain ⟨xf, u, rfl, e1, l1⟩ := sg
        obtain ⟨dd, rfl⟩ := hasd l1
        refine ⟨_, rfl, _, rfl, a, D, dd, fs, u, rfl, hx.same (s3.trans s4), xf, e1, l1, (by show 1 ≤ sizeLine; decide), fun q9 G5 n9 r5 h9 => ⟨f3, q9, _, _, rfl, rfl, SqL.of ((s4.trans r5) _ _ hf3), SqL.of h9, ?_, fun q8 G6 n8 r6 h6 => ⟨q8, rfl, ((s3.trans s4).trans r5).trans r6, ?_⟩⟩⟩
        · rw [if_neg (by omega)]
          show 1 + 1 ≤ sizeLine
          decide
        · rw [if_neg (by omega)] at h6
          rw [if_pos (by omega)]
          exact h6
      · rw [s4 _ _ hf3]
        have k0 : ¬ (kk = 3 ∨ kk = 4 ∨ kk = 5) := fun h => c0 (by
          first
            | (rcases h with h | h | h <;> · subst h; simp)
            | (subst h; simp))
        refine congrArg (fun l => some (HO.lst (V.int (kk : Nat) :: l))) ?_
        by_cases hk : kk ≤ 2
        · rw [if_pos hk, if_pos (by omega)]
        · by_cases hk2 : kk ≤ 5
          · omega
          · rw [if_neg hk, if_neg hk2]
    rintro σ H4 ⟨f4, rfl, s4, hf4⟩
    refine ⟨fun σ H' => ∃ f : Addr, σ = [some (.ref a), some (.ref f)] ∧ Same H H' ∧ H' f = some (.lst (.int (kk : Nat) :: (if kk ≤ 6 then us else []))), ?_, ?_⟩
    · refine (BS.eq1 6 rfl hf4 fw) H4 (Same.refl _) _ fun H5 s5 => ?_
      refine ite2 (fun c0 => ?_) (fun c0 => ⟨f4, rfl, s4.trans s5, ?_⟩)
      · have k0 : kk = 6 := by
          simp at c0; omega
        have sg : XfC K D ∧ ∃ u, us = [u] ∧ PySem.W.findIn K (.ref D) "number" = some none ∧ fs.lookup ("number" : Str) = some u := by
          rcases sf with h | h | h | h | h | h
          · omega
          · omega
          · omega
          · omega
          · exact h.2
          · omega
        obtain ⟨xf, u, rfl, e1, l1⟩ := sg
        obtain ⟨dd, rfl⟩ := hasd l1
        refine ⟨_, rfl, _, rfl, a, D, dd, fs, u, rfl, hx.same (s4.trans s5), xf, e1, l1, (by show 1 ≤ sizeLine; decide), fun q9 G5 n9 r5 h9 => ⟨f4, q9, _, _, rfl, rfl, SqL.of ((s5.trans r5) _ _ hf4), SqL.of h9, ?_, fun q8 G6 n8 r6 h6 => ⟨q8, rfl, ((s4.trans s5).trans r5).trans r6, ?_⟩⟩⟩
        · rw [if_neg (by omega)]
          show 1 + 1 ≤ sizeLine
          decide
        · rw [if_neg (by omega)] at h6
          rw [if_pos (by omega)]
          exact h6
      · rw [s5 _ _ hf4]
        have k0 : ¬ (kk = 6) := fun h => c0 (by
          first
            | (rcases h with h | h | h <;> · subst h; simp)
            | (subst h; simp))
        refine congrArg (fun l => some (HO.lst (V.int (kk : Nat) :: l))) ?_
        by_cases hk : kk ≤ 5
        · rw [if_pos hk, if_pos (by omega)]
        · by_cases hk2 : kk ≤ 6
          · omega
          · rw [if_neg hk, if_neg hk2]
    rintro σ H5 ⟨f5, rfl, s5, hf5⟩
    refine ⟨fun σ H' => ∃ f : Addr, σ = [some (.ref a), some (.ref f)] ∧ Same H H' ∧ H' f = some (.lst (.int (kk : Nat) :: (if kk ≤ 7 then us else []))), ?_, ?_⟩
    · refine (BS.eq1 7 rfl hf5 fw) H5 (Same.refl _) _ fun H6 s6 => ?_
      refine ite2 (fun c0 => ?_) (fun c0 => ⟨f5, rfl, s5.trans s6, ?_⟩)
      · have k0 : kk = 7 := by
          simp at c0; omega
        have sg : XfC K D ∧ ∃ u, us = [u] ∧ PySem.W.findIn K (.ref D) "row" = some none ∧ fs.lookup ("row" : Str) = some u := by
          rcases sf with h | h | h | h | h | h
          · omega
          · omega
          · omega
          · omega
          · omega
          · exact h.2
        obtain ⟨xf, u, rfl, e1, l1⟩ := sg
        obtain ⟨dd, rfl⟩ := hasd l1
        refine ⟨_, rfl, _, rfl, a, D, dd, fs, u, rfl, hx.same (s5.trans s6), xf, e1, l1, (by show 1 ≤ sizeLine; decide), fun q9 G5 n9 r5 h9 => ⟨f5, q9, _, _, rfl, rfl, SqL.of ((s6.trans r5) _ _ hf5), SqL.of h9, ?_, fun q8 G6 n8 r6 h6 => ⟨q8, rfl, ((s5.trans s6).trans r5).trans r6, ?_⟩⟩⟩
        · rw [if_neg (by omega)]
          show 1 + 1 ≤ sizeLine
          decide
        · rw [if_neg (by omega)] at h6
          rw [if_pos (by omega)]
          exact h6
      · rw [s6 _ _ hf5]
        have k0 : ¬ (kk = 7) := fun h => c0 (by
          first
            | (rcases h with h | h | h <;> · subst h; simp)
            | (subst h; simp))
        refine congrArg (fun l => some (HO.lst (V.int (kk : Nat) :: l))) ?_
        by_cases hk : kk ≤ 6
        · rw [if_pos hk, if_pos (by omega)]
        · by_cases hk2 : kk ≤ 7
          · omega
          · rw [if_neg hk, if_neg hk2]
    rintro σ H6 ⟨f6, rfl, s6, hf6⟩
    have eu : (if kk ≤ 7 then us else []) = us := by
      by_cases hk : kk ≤ 7
      · rw [if_pos hk]
      · rw [if_neg hk]
        rcases sf with h | h | h | h | h | h
        · exact h.2.symm
        all_goals omega
    rw [eu] at hf6
    have flk : ∀ x ∈ V.int (kk : Nat) :: us, Fl x := fun x hx => by
      rcases List.mem_cons.mp hx with rfl | hx
      · exact trivial
      · exact fl1 x hx
    refine ⟨_, rfl, (by decide), fun q7 H7 n7 s7 h7 => ⟨_, _, dpL (SqL.of (s7 _ _ hf6)) flk, dpL (xs := []) (SqL.of h7) (fun _ h => by cases h), shL flk, shL (fun _ h => by cases h), _, rfl, ?_⟩⟩
    refine iteT ?_
    have ilast : ∃ v, atI (V.int (kk : Nat) :: us) (-1) = some v ∧ NoBl v := by
      rcases us with _ | ⟨u, _ | ⟨u2, _ | ⟨u3, r⟩⟩⟩
      · exact ⟨_, rfl, trivial⟩
      · exact ⟨_, rfl, (fl u (by simp)).2⟩
      · exact ⟨_, rfl, (fl u2 (by simp)).2⟩
      · simp at ul
    obtain ⟨v, ev, nv⟩ := ilast
    obtain ⟨t, ty, kt⟩ := nv.ty (K := K) (H := H7)
    exact ⟨_, rfl, _, rfl, f6, _, _, v, rfl, rfl, SqL.of (s7 _ _ hf6), ev, v, _, t, _, false, rfl, .ty _, ty, kt, _, rfl, iteF ⟨_, rfl, k H7 f6 (s6.trans s7) (s7 _ _ hf6)⟩⟩
end
end Jr
namespace Jr
open PySem PySem.Spec PyProof.Rows L2
/-- digits by sizes: a new list, each digit from 0 to below its size -/
def spNumbers (K : PySem.W.Frag) : Sp := fun vs H Q _ => ∃ (c salt : Int) (a : Addr) (ns : List Int), vs = [.int c, .int salt, .ref a] ∧ 0 ≤ salt ∧ salt ≤ 100000 ∧ SqL K H a (ns.map V.int) ∧ ns.length ≤ 1000 ∧
  (∀ z ∈ ns, 0 < z ∧ z.natAbs.log2 < 9000) ∧ ∀ H' p ds, Same H H' → H p = none → H' p = some (.lst (ds.map V.int)) → Digs ns ds → Q (.ref p) H'
theorem Digs.snoc {ns ds : List Int} {i : Nat} {z d : Int} (h : Digs (ns.take i) ds) (hz : ns[i]? = some z) (h0 : 0 ≤ d) (h1 : d < z) : Digs (ns.take (i + 1)) (ds ++ [d]) := by
  have e : ns.take (i + 1) = ns.take i ++ [z] := by
    rw [List.take_add_one, hz]
    rfl
  rw [e]
  exact Paired.snoc h ⟨h0, h1⟩
theorem digs_end {H' : Hp} {p : Addr} {ns ds : List Int} {i : Nat} {z x : Int} (h : Digs (ns.take i) ds) (hz : ns[i]? = some z) (zp : 0 < z) :
    ∃ es : List Int, (upd H' p (.lst (ds.map V.int ++ [V.int (x % z)]))) p = some (.lst (es.map V.int)) ∧ Digs (ns.take (i + 1)) es :=
  ⟨ds ++ [x % z], by rw [upd_same, List.map_append]; rfl, h.snoc hz (Int.emod_nonneg _ (by omega)) (Int.emod_lt_of_pos _ zp)⟩
theorem nab {x m : Int} (h : 0 < m) (hm : m ≤ 2 ^ 62) : (x % m).natAbs < 2 ^ 64 := by
  have := Int.emod_nonneg x (show m ≠ 0 by omega)
  have := Int.emod_lt_of_pos x h
  omega
theorem mulb {x m : Int} (h : 0 < m) (hm : m ≤ 2 ^ 62) : -(2 ^ 64) < x % m ∧ x % m < 2 ^ 64 := by
  have := Int.emod_nonneg x (show m ≠ 0 by omega)
  have := Int.emod_lt_of_pos x h
  omega
theorem mulb2 {x : Int} {i : Nat} (hi : i ≤ 1000) : -(2 ^ 64) < x % 2147483647 + 104729 * (0 + (i : Int) + 1) ∧ x % 2147483647 + 104729 * (0 + (i : Int) + 1) < 2 ^ 64 := by
  have := Int.emod_nonneg x (show (2147483647 : Int) ≠ 0 by omega)
  have := Int.emod_lt_of_pos x (show (0 : Int) < 2147483647 by omega)
  omega
section
variable {P : Program} {w : World} {K : PySem.W.Frag} {mg : Str → Option Value} {base : Heap}
theorem cal__law_numbers (T : Tx K mg) : Cal P w K mg base CX0 1 "_law_numbers" (spNumbers K) := by
  obtain ⟨fd, F⟩ := T.d__law_numbers
  refine ⟨_, fd, P__law_numbers, F.ok sc__law_numbers (fun vs H Q E h => ?_) (fun cdv A outer s H vs Q E hr h => ?_), T.g__law_numbers, F.kp, F.bindsN (ps := P__law_numbers) fun _ _ _ _ _ _ us hl => match us, hl with | [_, _, _], _ => rfl⟩
  · obtain ⟨c, salt, a, ns, rfl, _⟩ := h
    rfl
  · obtain ⟨c, salt, a, ns, rfl, s0, s1, hS, hlen, hns, k⟩ := h
    refine ⟨_, (PSs.nox (pss_cons (ps_set (i := 3) sc__law_numbers.nd rfl (Or.inl rfl) (pe_callB (id := "max") (call_max2 rfl) (by rfl) T.n_max (by decide +kernel) (pa_cons (pv 0) (pa_cons (pe_op op_sub (pe_un un_neg pe_int) (pv 0)) pa_nil))))
      (pss_cons (ps_set (i := 4) sc__law_numbers.nd rfl (Or.inl rfl) (pv 3))
      (pss_cons (ps_set (i := 5) sc__law_numbers.nd rfl (Or.inl rfl) (pe_lst pa_nil))
      (pss_cons (ps_for PassesOwn.never rfl (pi_range1 (by rfl) T.n_range (pa_cons (pe_callB (id := "len") call_len_seq (by rfl) T.n_len (by decide +kernel) (pa_cons (pv 2) pa_nil)) pa_nil)) (pg_name (i := 6) sc__law_numbers.nd rfl (Or.inl rfl)) (pss_one (ps_if (PW.pt (pw_and (pt_cmpR op_ge (pv 3) (pe_op op_pow pe_int pe_int) (nomark _)) (pw_and1 (pt_cmpR op_gt (pv 4) pe_int (nomark _))))) (pss_cons (ps_expr (pe_bm PySem.F.plainAttrs_list PySem.F.slot_list_append PySem.F.type_list_append mt_append (pv 5) (pa_cons (pe_op op_mod (pv 4) (pe_ix ix_list (pv 2) (pv 6) (fun _ _ => rfl))) pa_nil)))
      (pss_one (ps_set (i := 4) sc__law_numbers.nd rfl (Or.inl rfl) (pe_op op_fdivW (pv 4) (pe_ix ix_list (pv 2) (pv 6) (fun _ _ => rfl)))))) (pss_cons (ps_set (i := 7) sc__law_numbers.nd rfl (Or.inl rfl) (pe_op op_mod (pe_op op_pow (pe_op op_add (pe_op op_add (pe_op op_mod (pv 3) pe_int) (pe_op op_mul pe_int (pv 1))) pe_int) pe_int) pe_int))
      (pss_cons (ps_set (i := 7) sc__law_numbers.nd rfl (Or.inl rfl) (pe_op op_mod (pe_op op_mul (pe_op op_add (pv 7) (pe_op op_mul pe_int (pe_op op_add (pv 6) pe_int))) (pe_op op_add (pv 6) pe_int)) pe_int))
      (pss_cons (ps_set (i := 7) sc__law_numbers.nd rfl (Or.inl rfl) (pe_op op_mod (pe_op op_mul (pe_op op_mod (pe_op op_pow (pv 7) pe_int) pe_int) pe_int) pe_int))
      (pss_one (ps_expr (pe_bm PySem.F.plainAttrs_list PySem.F.slot_list_append PySem.F.type_list_append mt_append (pv 5) (pa_cons (pe_op op_mod (pe_op op_fdiv (pv 7) pe_int) (pe_ix ix_list (pv 2) (pv 6) (fun _ _ => rfl))) pa_nil))))))))))
      (pss_one (ps_ret (pv 5)))))))), ?_⟩
    refine ⟨_, rfl, _, rfl, _, rfl, _, _, rfl, rfl, _, _, rfl, ?_⟩
    obtain ⟨nu, hnu⟩ : ∃ nu : Int, nu = (if -1 - c > c then -1 - c else c) := ⟨_, rfl⟩
    refine ⟨_, rfl, Nat.zero_le _, fun p hp => ?_⟩
    refine ⟨_, rfl, _, _, rfl, .inl ((Same.new hp).seq hS), _, rfl, ?_, ?_, ?_⟩
    · show -(2 ^ 62) ≤ (((ns.map V.int).length : Nat) : Int)
      omega
    · show (((ns.map V.int).length : Nat) : Int) < 2 ^ 62
      rw [List.length_map]
      omega
    have en : ((((ns.map V.int).length : Nat) : Int)).toNat = ns.length := by rw [List.length_map]; rfl
    rw [en]
    rw [← hnu]
    refine for_range (lo := 0) (n := ns.length) (fun i σ H' => ∃ (l : Int) (kk one : Option V), σ = [some (.int c), some (.int salt), some (.ref a), some (.int nu), some (.int l), some (.ref p), kk, one] ∧
      Same H H' ∧ ∃ ds : List Int, H' p = some (.lst (ds.map V.int)) ∧ Digs (ns.take i) ds) ⟨nu, none, none, rfl, Same.new hp, [], upd_same, .nil⟩ ?_ ?_
    · rintro i σ H' hi ⟨l, kk, one, rfl, sm, ds, hL, hD⟩
      have hz : ns[i]? = some ns[i] := List.getElem?_eq_getElem hi
      obtain ⟨z, ez⟩ : ∃ z, z = ns[i] := ⟨_, rfl⟩
      rw [← ez] at hz
      have zp : 0 < z ∧ z.natAbs.log2 < 9000 := hns z (by rw [ez]; exact List.getElem_mem hi)
      have hS' : SqL K H' a (ns.map V.int) := sm.seq hS
      have hat : atI (ns.map V.int) (0 + (i : Int)) = some (V.int z) := by
        rw [Int.zero_add]
        exact ats (by rw [List.getElem?_map, hz]; rfl)
      have hlen2 : (ds.map V.int).length < sizeLine := by
        rw [List.length_map, ← hD.length, List.length_take]
        exact szl (by omega)
      have keep : ∀ d : Int, Same H (upd H' p (.lst ((ds.map V.int) ++ [V.int d]))) := fun d => Same.mut sm hp
      have hnn : 0 ≤ nu := by
        rw [hnu]
        split <;> omega
      refine ⟨_, rfl, _, _, rfl, rfl, ⟨by decide, by decide, by decide⟩, _, _, rfl, rfl, _, rfl, ite2 (fun c1 => ⟨_, rfl, _, _, rfl, rfl, _, rfl, ite2 (fun c2 => ?A) (fun c2 => ?B1)⟩) (fun c1 => iteF ?B2)⟩
      case A =>
        refine ⟨_, rfl, .inl ⟨rfl, _, SqL.of hL⟩, _, rfl, _, rfl, _, rfl, _, _, _, _, rfl, rfl, hS', hat, _, _, rfl, rfl, zp.1, _, _, _, rfl, rfl, hL, hlen2, ?_⟩
        refine ⟨_, rfl, _, rfl, _, rfl, _, _, _, _, rfl, rfl, (keep _).seq hS, hat, _, _, rfl, rfl, zp, ?_⟩
        exact ⟨_, _, one, rfl, keep _, digs_end hD hz zp.1⟩
      all_goals
        have m1 : 0 ≤ nu % 2147483629 ∧ nu % 2147483629 < 2147483629 := ⟨Int.emod_nonneg _ (by decide), Int.emod_lt_of_pos _ (by decide)⟩
        refine ⟨_, rfl, _, _, rfl, rfl, (by show (0 : Int) < 2147483629; decide), _, rfl, _, _, rfl, rfl, .inl ⟨by decide, by decide⟩, _, _, rfl, rfl, _, _, rfl, rfl, _, _, rfl, rfl, ⟨by decide, by decide, ?_⟩, _, _, rfl, rfl, (by show (0 : Int) < 2147483647; decide), ?_⟩
        · show (nu % 2147483629 + 7919 * salt + 1).natAbs < 2 ^ 64
          omega
        refine ⟨_, rfl, _, rfl, _, _, rfl, rfl, _, _, rfl, rfl, .inl ⟨by decide, by decide⟩, _, _, rfl, rfl, _, rfl, _, _, rfl, rfl, _, _, rfl, rfl, .inl (mulb2 (by omega)), _, _, rfl, rfl, (by show (0 : Int) < 2147483629; decide), ?_⟩
        refine ⟨_, rfl, _, _, rfl, rfl, ⟨by decide, by decide, nab (by decide) (by decide)⟩, _, _, rfl, rfl, (by show (0 : Int) < 2147483647; decide), _, _, rfl, rfl, .inl (mulb (by decide) (by decide)), _, _, rfl, rfl, (by show (0 : Int) < 2147483629; decide), ?_⟩
        refine ⟨_, rfl, .inl ⟨rfl, _, SqL.of hL⟩, _, rfl, _, _, rfl, rfl, ⟨by decide, by decide⟩, _, rfl, _, rfl, _, _, _, _, rfl, rfl, hS', hat, _, _, rfl, rfl, zp.1, _, _, _, rfl, rfl, hL, hlen2, ?_⟩
        exact ⟨_, _, _, rfl, keep _, digs_end hD hz zp.1⟩
    · rintro σ H' ⟨l, kk, one, rfl, sm, ds, hL, hD⟩
      rw [List.take_length] at hD
      exact ⟨_, rfl, k _ p ds sm hp hL hD⟩
end
end Jr
namespace Jr
open PySem PySem.Spec PyProof.Rows L2
/-! ### what the laws' heads share -/
theorem cells_eq (ns ms : List Int) : cutV (ns.map V.int ++ ms.map V.int) none (some 63) = ((ns ++ ms).take 63).map V.int := by
  rw [show (some (63 : Int)) = some ((63 : Nat) : Int) from rfl, cutV_to, List.map_take, List.map_append]
theorem rest_eq (cs : List Int) : cutV (cs.map V.int) (some 1) none = (cs.drop 1).map V.int := by
  rw [show (some (1 : Int)) = some ((1 : Nat) : Int) from rfl, cutV_from, List.map_drop]
theorem sizes_ok {ns : List Int} (h : ns.all (fun z => decide (0 < z) && decide (z ≤ 1000000)) = true) : ∀ z ∈ ns, 0 < z ∧ z.natAbs.log2 < 9000 := fun z hz => by
  have := List.all_eq_true.mp h z hz
  simp only [Bool.and_eq_true, decide_eq_true_eq] at this
  refine ⟨this.1, ?_⟩
  have : z.natAbs.log2 < 20 := (Nat.log2_lt (by omega)).mpr (by omega)
  omega
/-- a digit, by its place -/
theorem dig {ns ds : List Int} (h : Paired (fun z d => 0 ≤ d ∧ d < z) ns ds) {j : Nat} {z : Int} (hz : ns[j]? = some z) : ∃ n : Nat, ds[j]? = some (n : Int) ∧ (n : Int) < z ∧ atI (ds.map V.int) (j : Int) = some (V.int (n : Int)) := by
  obtain ⟨d, e, b⟩ := Paired.get h hz
  obtain ⟨n, rfl⟩ := Int.eq_ofNat_of_zero_le b.1
  exact ⟨n, e, b.2, atm (f := V.int) e⟩
theorem cut_mid (xs : List Int) (a b : Nat) : cutV (xs.map V.int) (some (a : Int)) (some (b : Int)) = ((xs.drop a).take (b - a)).map V.int := by
  rw [cutV_mid, List.map_take, List.map_drop]
end Jr
namespace Jr
open PySem PySem.Spec PyProof.Rows L2
/-! ### texts of texts -/
theorem join_text {z : Str} {ps : List Str} (h : ∀ p ∈ ps, TextOf z p) : TextOf z (Txt.join (Str.ofString "") ps) := fun c hc => by
  rw [join_cps] at hc
  obtain ⟨y, hy, hxy⟩ := List.mem_flatMap.mp hc
  exact h y hy c hxy
theorem sum_le : ∀ (ps : List Str) (n : Nat), (∀ p ∈ ps, p.length ≤ n) → (ps.map (·.length)).sum ≤ ps.length * n
  | [], n, _ => by simp
  | p :: ps, n, h => by
    have h1 := h p List.mem_cons_self
    have h2 := sum_le ps n fun q hq => h q (List.mem_cons_of_mem _ hq)
    rw [List.map_cons, List.sum_cons, List.length_cons, Nat.succ_mul]
    omega
theorem join_len {ps : List Str} : (Txt.join (Str.ofString "") ps).length = (ps.map (·.length)).sum := by
  rw [← len_cps, join_cps, flat_len]
end Jr
namespace Jr
open PySem PySem.Spec PyProof.Rows L2
theorem join_app {S : List Nat} : ∀ (ps : List (List Nat)), (∀ c ∈ TL.joinL S ps, c ∈ S ∨ ∃ p ∈ ps, c ∈ p) ∧ (TL.joinL S ps).length ≤ (ps.map (·.length)).sum + ps.length * S.length
  | [] => ⟨fun c h => by simp [TL.joinL] at h, by simp [TL.joinL]⟩
  | [p] => ⟨fun c h => .inr ⟨p, List.mem_cons_self, h⟩, by simp [TL.joinL]⟩
  | p :: q :: r => by
    obtain ⟨h1, h2⟩ := join_app (S := S) (q :: r)
    have e : TL.joinL S (p :: q :: r) = p ++ (S ++ TL.joinL S (q :: r)) := rfl
    rw [e]
    refine ⟨fun c h => ?_, ?_⟩
    · rcases List.mem_append.mp h with h | h
      · exact .inr ⟨p, List.mem_cons_self, h⟩
      · rcases List.mem_append.mp h with h | h
        · exact .inl h
        · rcases h1 c h with h | ⟨y, hy, hc⟩
          · exact .inl h
          · exact .inr ⟨y, List.mem_cons_of_mem _ hy, hc⟩
    · simp only [List.length_append, List.map_cons, List.sum_cons, List.length_cons, Nat.succ_mul] at h2 ⊢
      omega
theorem join_asc {y : Str} {ps : List Str} {n : Nat} (hy : Asc y) (h : ∀ p ∈ ps, Asc p ∧ p.length ≤ n) : Asc (Txt.join y ps) ∧ (Txt.join y ps).length ≤ ps.length * (n + y.length) := by
  rw [TL.join_eq]
  obtain ⟨h1, h2⟩ := join_app (S := TL.tl y) (ps.map TL.tl)
  have e : (Str.join y ps).cps.toList = TL.joinL (TL.tl y) (ps.map TL.tl) := TL.tl_join y ps
  refine ⟨fun c hc => ?_, ?_⟩
  · rw [e] at hc
    rcases h1 c hc with hc | ⟨p, hp, hc⟩
    · exact hy c hc
    · obtain ⟨x, hx, rfl⟩ := List.mem_map.mp hp
      exact (h x hx).1 c hc
  · rw [← len_cps, e]
    have e2 : ((ps.map TL.tl).map (·.length)).sum = (ps.map (·.length)).sum := by
      rw [List.map_map]
      congr 1
    have e3 : (TL.tl y).length = y.length := len_cps y
    rw [e2, e3, List.length_map] at h2
    have := sum_le ps n fun p hp => (h p hp).2
    rw [Nat.mul_add]
    omega
theorem asc_int (i : Int) : Asc (Str.ofString (toString i)) := fun c hc => by
  by_cases h : c ≤ 126
  · exact h
  · exact absurd hc (int_text_free' c ⟨by omega, by omega⟩ i)
theorem lt51 {d : Nat} (h : (d : Int) < 10 ^ 50) : d + 200 < 10 ^ 51 := by
  have e : ((10 : Int) ^ 50) = (((10 : Nat) ^ 50 : Nat) : Int) := by rw [Int.natCast_pow]; rfl
  rw [e] at h
  have h2 : d < 10 ^ 50 := Int.ofNat_lt.mp h
  have p50 : (10 : Nat) ^ 50 + 200 ≤ 10 ^ 51 := by decide
  exact Nat.lt_of_lt_of_le (Nat.add_lt_add_right h2 200) p50
theorem take2 {α : Type} {xs : List α} {i : Nat} {a b : α} (h1 : xs[i]? = some a) (h2 : xs[i + 1]? = some b) : (xs.drop i).take 2 = [a, b] := by
  obtain ⟨l1, e1⟩ := List.getElem?_eq_some_iff.mp h1
  obtain ⟨l2, e2⟩ := List.getElem?_eq_some_iff.mp h2
  rw [List.drop_eq_getElem_cons l1, List.drop_eq_getElem_cons l2, e1, e2]; rfl
theorem sizes_okB {ns : List Int} (h : ns.all (fun z => decide (0 < z) && decide (z ≤ 10 ^ 60)) = true) : ∀ z ∈ ns, 0 < z ∧ z.natAbs.log2 < 9000 := fun z hz => by
  have := List.all_eq_true.mp h z hz
  simp only [Bool.and_eq_true, decide_eq_true_eq] at this
  refine ⟨this.1, ?_⟩
  have : z.natAbs.log2 < 300 := (Nat.log2_lt (by omega)).mpr (by
    have e : ((10 : Int) ^ 60) = (((10 : Nat) ^ 60 : Nat) : Int) := by rw [Int.natCast_pow]; rfl
    rw [e] at this
    have h2 : z.natAbs ≤ 10 ^ 60 := by omega
    exact Nat.lt_of_le_of_lt h2 (by decide))
  omega
end Jr
namespace Jr
open PySem PySem.Spec PyProof.Rows L2
theorem wayTo_app (a b : Gws) (s c : Nat) : wayTo (a ++ b) s c = (wayTo a s c).or (wayTo b s c) := by
  unfold wayTo
  rw [List.find?_append]
  cases (a.find? fun w => w.1 == s && w.2.1 == c) <;> rfl
theorem paired_rev {α β : Type} {F : α → β → Prop} : ∀ {a : List α} {b : List β}, Paired F a b → Paired F a.reverse b.reverse
  | _, _, .nil => .nil
  | _, _, .cons h p => by
    rw [List.reverse_cons, List.reverse_cons]
    exact Paired.snoc (paired_rev p) h
theorem nodup_rev {α : Type} {l : List α} (h : l.Nodup) : l.reverse.Nodup := List.pairwise_reverse.mpr (h.imp fun a e => a e.symm)
/-- unlike ways -/
def keysG (ws : Gws) : List (Nat × Nat) := ws.map fun w => (w.1, w.2.1)
theorem new_of_nodup {ws : Gws} (h : (keysG ws).Nodup) : ∀ (i : Nat) (w : Nat × Nat × Nat), ws[i]? = some w → wayTo (ws.take i) w.1 w.2.1 = none := fun i w hw => by
  rw [wayTo_none]
  intro q hq z
  obtain ⟨j, hj, e⟩ := List.mem_iff_getElem.mp hq
  rw [List.length_take] at hj
  rw [List.getElem_take] at e
  have hi := (List.getElem?_eq_some_iff.mp hw).1
  have ei := (List.getElem?_eq_some_iff.mp hw).2
  unfold keysG at h
  rw [List.Nodup, List.pairwise_iff_getElem] at h
  refine h j i (by rw [List.length_map]; omega) (by rw [List.length_map]; omega) (by omega) ?_
  rw [List.getElem_map, List.getElem_map, e, ei]
  exact Prod.ext z.1 z.2
def szsG : List Int := [4, 2] ++ List.replicate 48 60 ++ List.replicate 4 2
section
variable {P : Program} {w : World} {K : PySem.W.Frag} {mg : Str → Option Value} {base : Heap}
def spGrammar (K : PySem.W.Frag) : Sp := fun vs H Q _ => ∃ (c salt : Int) (z : Str), vs = [.int c, .int salt, .str z] ∧ 0 ≤ salt ∧ salt ≤ 100000 ∧ SignsOk z ∧ 1 ≤ z.length ∧ z.length ≤ 12 ∧
  ∀ H' t lw le m ws es, Same H H' → H' t = some (.tup [.int (m : Nat), .ref lw, .ref le]) → WaysAt H' lw ws → H' le = some (.lst (es.map fun e : Nat => V.int (e : Nat))) → GOk m ws es → (∀ w ∈ ws, w.2.1 ∈ z.cps.toList) → Q (.ref t) H'
theorem cal__law_grammar (T : Tx K mg) : Cal P w K mg base CX0 2 "_law_grammar" (spGrammar K) := by
  have C__law_numbers := cal__law_numbers (P := P) (w := w) (base := base) T
  obtain ⟨fd, F⟩ := T.d__law_grammar
  refine ⟨_, fd, P__law_grammar, F.ok sc__law_grammar (fun vs H Q E h => ?_) (fun cdv A outer s H vs Q E hr h => ?_), T.g__law_grammar, F.kp, F.bindsN (ps := P__law_grammar) fun _ _ _ _ _ _ us hl => match us, hl with | [_, _, _], _ => rfl⟩
  · obtain ⟨c, salt, z, rfl, _⟩ := h
    rfl
  · obtain ⟨c, salt, z, rfl, s0, s1, sok, z1, z12, k⟩ := h
    refine ⟨_, (PSs.nox (pss_cons (ps_set (i := 3) sc__law_grammar.nd rfl (Or.inr rfl) (pe_cal C__law_numbers (by first | exact hr | exact hr.mono (by decide)) (by rfl) (pa_cons (pv 0) (pa_cons (pv 1) (pa_cons (pe_intsAs (ns := [4, 2, 60, 60, 60, 60, 60, 60, 60, 60, 60, 60, 60, 60, 60, 60, 60, 60, 60, 60, 60, 60, 60, 60, 60, 60, 60, 60, 60, 60, 60, 60, 60, 60, 60, 60, 60, 60, 60, 60, 60, 60, 60, 60, 60, 60, 60, 60, 60, 60, 2, 2, 2, 2]) (pe_catI (pe_catI (pe_litI (ns := [4, 2]) (pe_lst (pa_cons pe_int (pa_cons pe_int pa_nil))) (fun _ _ _ => rfl) (by decide)) (pe_repI (k := 48) (pe_litI (ns := [60]) (pe_lst (pa_cons pe_int pa_nil)) (fun _ _ _ => rfl) (by decide)) pe_int (by decide) (by decide)) (by decide)) (pe_repI (k := 4) (pe_litI (ns := [2]) (pe_lst (pa_cons pe_int pa_nil)) (fun _ _ _ => rfl) (by decide)) pe_int (by decide) (by decide)) (by decide)) (by decide)) pa_nil)))))
      (pss_cons (ps_set (i := 4) sc__law_grammar.nd rfl (Or.inl rfl) (pe_op op_add pe_int (pe_ix ix_list (pv 3) pe_int (fun _ _ => rfl))))
      (pss_cons (ps_set (i := 5) sc__law_grammar.nd rfl (Or.inl rfl) (pe_lstG pa_nil))
      (pss_cons (ps_for PassesOwn.never rfl (pi_range1 (by rfl) T.n_range (pa_cons (pv 4) pa_nil)) (pg_name (i := 6) sc__law_grammar.nd rfl (Or.inl rfl)) (pss_one (ps_for PassesOwn.never rfl (pi_enumS (by rfl) T.n_enumerate (pa_cons (pv 2) pa_nil)) (pg_tup rfl (pgs_cons (pg_name (i := 7) sc__law_grammar.nd rfl (Or.inl rfl)) (pgs_cons (pg_name (i := 8) sc__law_grammar.nd rfl (Or.inl rfl)) pgs_nil))) (pss_cons (ps_set (i := 9) sc__law_grammar.nd rfl (Or.inl rfl) (pe_op op_mod (pe_ix ix_list (pv 3) (pe_op op_add (pe_op op_add pe_int (pe_op op_mul pe_int (pv 6))) (pv 7)) (fun _ _ => rfl)) (pe_op op_add (pv 4) pe_int)))
      (pss_one (ps_if (pt_cmpR op_lt (pv 9) (pv 4) (nomark _)) (pss_one (ps_expr (pe_bm PySem.F.plainAttrs_list PySem.F.slot_list_append PySem.F.type_list_append mt_append (pv 5) (pa_cons (pe_tupG (pa_cons (pv 6) (pa_cons (pv 8) (pa_cons (pv 9) pa_nil)))) pa_nil)))) pss_nil))))))
      (pss_cons (ps_setLc (i := 10) (own := [("_law_state", 6)]) (g := gName 6) (by rfl) sc__law_grammar.nd rfl rfl (sw_true rfl rfl rfl (by decide +kernel)) (pi_range1 (by rfl) T.n_range (pa_cons (pv 4) pa_nil)) (blkOk_by (own := [("_law_state", 6)]) (N := N__law_grammar) (sc := defScope s__law_grammar) (by decide +kernel)) (fun _ _ _ _ _ => (pg_name (i := 6) sc__law_grammar.nd rfl (Or.inl rfl))) (fun _ _ _ _ _ => (pts_one (pt_cmpR op_eq (pe_ix (ix_listK (K := K)) (pv 3) (pe_op op_add pe_int (pv 6)) (fun _ _ => rfl)) pe_int (nomark _)))) (fun _ _ _ _ _ => (pv 6)))
      (pss_cons (ps_if (pt_cmpR op_eq (pe_ix ix_list (pv 3) pe_int (fun _ _ => rfl)) pe_int (nomark _)) (pss_one (ps_ret (pe_tupG (pa_cons (pv 4) (pa_cons (pe_revL (pv 5)) (pa_cons (pe_revL (pv 10)) pa_nil)))))) pss_nil)
      (pss_one (ps_ret (pe_tupG (pa_cons (pv 4) (pa_cons (pv 5) (pa_cons (pv 10) pa_nil))))))))))))), ?_⟩
    refine ⟨_, rfl, _, rfl, fun q2 Hb nq2 sb hq2 => ?_⟩
    have hq2' : Hb q2 = some (.lst (szsG.map V.int)) := by rw [hq2]; rfl
    refine ⟨c, salt, q2, _, rfl, s0, s1, SqL.of hq2', by decide, sizes_ok (by decide), fun H1 pd ds s1' npd hPd hds => ?_⟩
    clear hq2
    have dl : ds.length = 54 := (Paired.len hds).symm
    have dig' : ∀ j : Nat, j < 54 → ∃ n : Nat, atI (ds.map V.int) (j : Int) = some (V.int (n : Int)) := fun j hj => by
      obtain ⟨n, _, _, A⟩ := dig hds (j := j) (z := szsG[j]'(by show j < 54; exact hj)) (List.getElem?_eq_getElem _)
      exact ⟨n, A⟩
    obtain ⟨d0, e0, b0, A0⟩ := dig hds (j := 0) (z := 4) rfl
    obtain ⟨d1, e1, b1, A1⟩ := dig hds (j := 1) (z := 2) rfl
    have hD := SqL.of (K := K) hPd
    refine ⟨_, rfl, pd, _, _, _, rfl, rfl, hD, A0, _, _, rfl, rfl, ?_⟩
    show gName 4 (V.int (1 + ((d0 : Nat) : Int))) _ _ _
    rw [show (1 : Int) + ((d0 : Nat) : Int) = ((1 + d0 : Nat) : Int) by omega]
    obtain ⟨m, em⟩ : ∃ m, m = 1 + d0 := ⟨_, rfl⟩
    rw [← em]
    have m1 : 1 ≤ m := by omega
    have m4 : m ≤ 4 := by omega
    refine ⟨(by show 0 ≤ sizeLine; decide), fun lw H2 nlw s2 hlw => ?_⟩
    have s02 := (sb.trans s1').trans s2
    have zc : z.cps.toList.length = z.length := len_cps z
    have mw : ∀ {as : List Addr} {ws : Gws} {H' : Hp}, Paired (WayAt H') as ws → as.length = ws.length := fun h => Paired.len h
    refine ⟨_, rfl, _, rfl, by omega, by omega, for_range (lo := 0) (n := m) (fun i σ H' => ∃ (u6 u7 u8 u9 u10 : Option V) (as : List Addr) (ws : Gws), σ = [some (.int c), some (.int salt), some (.str z), some (.ref pd), some (.int (m : Nat)), some (.ref lw), u6, u7, u8, u9, u10] ∧ Same H H' ∧ H' pd = some (.lst (ds.map V.int)) ∧ H' lw = some (.lst (as.map V.ref)) ∧ Paired (WayAt H') as ws ∧ (keysG ws).Nodup ∧ ws.length ≤ 12 * i ∧ (∀ w ∈ ws, w.1 < i ∧ w.2.2 < m ∧ w.2.1 ∈ z.cps.toList))
      ⟨_, _, _, _, _, [], [], rfl, s02, s2 _ _ hPd, hlw, .nil, List.Pairwise.nil, by simp, fun w hw => by cases hw⟩ ?_ ?_⟩
    · rintro i σ H3 hi ⟨u6, u7, u8, u9, u10, as, ws, rfl, s3, hP3, hw3, hts, nd, wl, win⟩
      show gName 6 (V.int (0 + ((i : Nat) : Int))) _ _ _
      rw [Int.zero_add]
      refine ⟨_, rfl, z, rfl, for_enumS (x := z) (fun n σ H' => ∃ (u7 u8 u9 : Option V) (as : List Addr) (ws : Gws), σ = [some (.int c), some (.int salt), some (.str z), some (.ref pd), some (.int (m : Nat)), some (.ref lw), some (.int (i : Nat)), u7, u8, u9, u10] ∧ Same H H' ∧ H' pd = some (.lst (ds.map V.int)) ∧ H' lw = some (.lst (as.map V.ref)) ∧ Paired (WayAt H') as ws ∧ (keysG ws).Nodup ∧ ws.length ≤ 12 * i + n ∧ (∀ w ∈ ws, (w.1 < i ∨ (w.1 = i ∧ w.2.1 ∈ z.cps.toList.take n)) ∧ w.2.2 < m ∧ w.2.1 ∈ z.cps.toList))
        ⟨_, _, _, as, ws, rfl, s3, hP3, hw3, hts, nd, wl, fun w hw => ⟨.inl (win w hw).1, (win w hw).2⟩⟩ ?_ ?_⟩
      · rintro n ch t σ H4 hn ht ⟨u7', u8', u9', as, ws, rfl, s4, hP4, hw4, hts4, nd4, wl4, win4⟩
        have nz := (List.getElem?_eq_some_iff.mp hn).1
        have hcz := List.mem_of_getElem? hn
        have se := Same.new (o := .tup [.int (n : Nat), .str (sgn ch)]) ht
        refine ⟨t, _, rfl, SqT.of upd_same, rfl, _, _, rfl, _, _, rfl, rfl, ?_⟩
        have s5 := s4.trans se
        have hP5 := se _ _ hP4
        have hw5 := se _ _ hw4
        have hts5 := WayAt.same se hts4
        revert s5 hP5 hw5 hts5
        generalize (upd H4 t (.tup [.int (n : Nat), .str (sgn ch)])) = H5
        intro s5 hP5 hw5 hts5
        obtain ⟨dv, Ad⟩ := dig' (2 + 12 * i + n) (by omega)
        have ei : (2 : Int) + 12 * ((i : Nat) : Int) + ((n : Nat) : Int) = ((2 + 12 * i + n : Nat) : Int) := by omega
        obtain ⟨q, eq, qm⟩ : ∃ q : Nat, (dv : Int) % (((m : Nat) : Int) + 1) = (q : Int) ∧ q ≤ m := by
          have h0 := Int.emod_nonneg (dv : Int) (show ((m : Nat) : Int) + 1 ≠ 0 by omega)
          have h1 := Int.emod_lt_of_pos (dv : Int) (show (0 : Int) < ((m : Nat) : Int) + 1 by omega)
          obtain ⟨q, hq⟩ := Int.eq_ofNat_of_zero_le h0
          exact ⟨q, hq, by omega⟩
        refine ⟨_, rfl, _, rfl, _, _, rfl, rfl, .inl ⟨by decide, by decide⟩, _, _, rfl, rfl, _, rfl, _, _, rfl, rfl, pd, _, _, _, rfl, rfl, SqL.of hP5, (by rw [ei]; exact Ad), _, rfl, _, _, rfl, rfl, _, _, rfl, rfl, (by show (0 : Int) < _; omega), ?_⟩
        show gName 9 (V.int ((dv : Int) % (((m : Nat) : Int) + 1))) _ _ _
        rw [eq]
        have et : z.cps.toList.take (n + 1) = z.cps.toList.take n ++ [ch] := by rw [List.take_add_one, hn]; rfl
        have up : ∀ w ∈ ws, (w.1 < i ∨ (w.1 = i ∧ w.2.1 ∈ z.cps.toList.take (n + 1))) ∧ w.2.2 < m ∧ w.2.1 ∈ z.cps.toList := fun w hw => by
          obtain ⟨a, b⟩ := win4 w hw
          refine ⟨a.imp id fun h => ⟨h.1, ?_⟩, b⟩
          rw [et]
          exact List.mem_append_left _ h.2
        have al := Paired.len hts5
        refine ⟨_, rfl, _, rfl, _, _, rfl, rfl, _, rfl, ite2 (fun cc => ?_) (fun _ => ⟨_, _, _, as, ws, rfl, s5, hP5, hw5, hts5, nd4, by omega, up⟩)⟩
        have qm' : q < m := by
          have := of_decide_eq_true cc
          omega
        refine ⟨_, rfl, .inl ⟨rfl, _, SqL.of hw5⟩, _, rfl, _, rfl, _, rfl, (by show 3 ≤ sizeLine; decide), fun t2 H6 nt2 s6 ht2 => ?_⟩
        have hw6 := s6 _ _ hw5
        refine ⟨lw, _, _, rfl, rfl, hw6, (by rw [List.length_map, al]; exact szl (by omega)), ?_⟩
        have nlwH : H lw = none := (sb.trans s1').free nlw
        have plw : pd ≠ lw := ne_of hP5 hw5 (by intro e; have := congrArg List.length (HO.lst.inj e); rw [List.length_map, List.length_map, dl, al] at this; omega)
        have keep : ∀ {b : Addr} {r : Nat × Nat × Nat}, WayAt H6 b r → WayAt (upd H6 lw (.lst (as.map V.ref ++ [V.ref t2]))) b r := fun {b r} hb => by
          have hb2 : H6 b = _ := hb
          show upd H6 lw _ b = _
          rw [upd_ne (ne_of hb2 hw6 (by intro q; cases q))]
          exact hb
        refine ⟨_, _, _, as ++ [t2], ws ++ [(i, ch, q)], rfl, Same.mut (s5.trans s6) nlwH, by rw [upd_ne plw]; exact s6 _ _ hP5, by rw [upd_same, List.map_append]; rfl, Paired.snoc (L2.Paired.mapP (WayAt.same s6 hts5) fun b r hb => keep hb) (keep (r := (i, ch, q)) ht2), ?_, by rw [List.length_append]; show ws.length + 1 ≤ _; omega, fun w hw => ?_⟩
        · unfold keysG
          rw [List.map_append, List.nodup_append]
          refine ⟨nd4, by simp, fun a ha b hb e => ?_⟩
          rw [List.map_singleton, List.mem_singleton] at hb
          obtain ⟨w, hw, ew⟩ := List.mem_map.mp ha
          rw [e, hb] at ew
          have e1 : w.1 = i := congrArg Prod.fst ew
          have e2 : w.2.1 = ch := congrArg Prod.snd ew
          rcases (win4 w hw).1 with h | ⟨_, h⟩
          · omega
          · rw [e2] at h
            have nz2 := sok.nd
            rw [← List.take_append_drop n z.cps.toList, List.nodup_append] at nz2
            refine nz2.2.2 ch h ch (List.mem_of_getElem? (i := 0) ?_) rfl
            rw [List.getElem?_drop]
            exact hn
        · rcases List.mem_append.mp hw with h | h
          · exact up w h
          · rw [List.mem_singleton.mp h]
            exact ⟨.inr ⟨rfl, by rw [et]; exact List.mem_append_right _ (List.mem_singleton.mpr rfl)⟩, qm', hcz⟩
      · rintro σ H4 ⟨u7', u8', u9', as, ws, rfl, s4, hP4, hw4, hts4, nd4, wl4, win4⟩
        exact ⟨_, _, _, _, _, as, ws, rfl, s4, hP4, hw4, hts4, nd4, by omega, fun w hw => ⟨by rcases (win4 w hw).1 with h | h <;> omega, (win4 w hw).2⟩⟩
    · rintro σ H3 ⟨u6, u7, u8, u9, u10, as, ws, rfl, s3, hP3, hw3, hts, nd, wl, win⟩
      obtain ⟨p, hp⟩ : ∃ p : Nat → Bool, ∀ j, j < m → ∃ n : Nat, atI (ds.map V.int) ((50 + j : Nat) : Int) = some (V.int (n : Int)) ∧ p j = decide (V.int (n : Int) = V.int 1) := by
        refine ⟨fun j => if h : 50 + j < 54 then decide (V.int ((dig' (50 + j) h).choose : Int) = V.int 1) else false, fun j hj => ⟨(dig' (50 + j) (by omega)).choose, (dig' (50 + j) (by omega)).choose_spec, ?_⟩⟩
        exact dif_pos (by omega)
      refine ⟨_, rfl, _, rfl, by omega, by omega, fun D hD => lc_rangeM (lo := 0) (n := m) (p := p) (f := fun j => V.int (0 + ((j : Nat) : Int))) hD (by omega) (fun j hj H4 s4 N M hM hN => ?_) (fun H4 s4 hL => ?_)⟩
      · obtain ⟨n, A, ep⟩ := hp j hj
        refine ⟨rfl, _, rfl, _, rfl, _, _, rfl, rfl, pd, _, _, _, rfl, rfl, SqL.of (s4 _ _ hP3), (by rw [show (50 : Int) + (0 + ((j : Nat) : Int)) = ((50 + j : Nat) : Int) by omega]; exact A), rfl, _, rfl, ?_⟩
        rw [← ep]
        cases ej : p j with
        | true => exact iteT ⟨_, rfl, hM ej⟩
        | false => exact iteF (hN ej)
      obtain ⟨es, ees⟩ : ∃ es, es = (List.range m).filter p := ⟨_, rfl⟩
      have ef : ((List.range m).filter p).map (fun j : Nat => V.int (0 + ((j : Nat) : Int))) = es.map fun e : Nat => V.int (e : Nat) := by
        rw [ees]
        exact List.map_congr_left fun j _ => by rw [Int.zero_add]
      rw [ef] at hL
      have es1 : ∀ e ∈ es, e < m := fun e he => by
        rw [ees] at he
        exact List.mem_range.mp (List.mem_filter.mp he).1
      have es2 : es.Nodup := by rw [ees]; exact List.nodup_range.filter _
      have hP4 := s4 _ _ hP3
      have hw4 := s4 _ _ hw3
      have hts4 := WayAt.same s4 hts
      have s04 := s3.trans s4
      have okw : ∀ w ∈ ws, w.1 < m ∧ w.2.2 < m ∧ 32 ≤ w.2.1 ∧ w.2.1 ≤ 126 ∧ w.2.1 ≠ 37 := fun w hw => ⟨(win w hw).1, (win w hw).2.1, sok.ok _ (win w hw).2.2⟩
      refine ⟨_, rfl, pd, _, _, _, rfl, rfl, SqL.of hP4, A1, rfl, _, rfl, ite2 (fun _ => ?_) (fun _ => ?_)⟩
      · refine ⟨_, rfl, _, rfl, lw, _, rfl, SqL.of hw4, fun p1 np1 => ?_⟩
        have sA := Same.new (o := .lst (as.map V.ref).reverse) np1
        have h1' : (upd H4 p1 (.lst (as.map V.ref).reverse)) p1 = some (.lst (as.map V.ref).reverse) := upd_same
        revert sA h1'
        generalize (upd H4 p1 (.lst (as.map V.ref).reverse)) = H5
        intro sA h1'
        refine ⟨_, rfl, D, _, rfl, SqL.of (sA _ _ hL), fun p2 np2 => ?_⟩
        have sB := Same.new (o := .lst (es.map fun e : Nat => V.int (e : Nat)).reverse) np2
        have h2' : (upd H5 p2 (.lst (es.map fun e : Nat => V.int (e : Nat)).reverse)) p2 = some (.lst (es.map fun e : Nat => V.int (e : Nat)).reverse) := upd_same
        revert sB h2'
        generalize (upd H5 p2 (.lst (es.map fun e : Nat => V.int (e : Nat)).reverse)) = H6
        intro sB h2'
        refine ⟨(by show 3 ≤ sizeLine; decide), fun t H7 nt s7 ht => ?_⟩
        have hrev : Paired (WayAt H7) as.reverse ws.reverse := paired_rev (WayAt.same ((sA.trans sB).trans s7) hts4)
        refine k _ t p1 p2 m ws.reverse es.reverse (((s04.trans sA).trans sB).trans s7) ht ⟨as.reverse, by rw [List.map_reverse]; exact (sB.trans s7) _ _ h1', hrev⟩ (by rw [List.map_reverse]; exact s7 _ _ h2') ⟨m1, m4, by rw [List.length_reverse]; omega, fun w hw => okw w (List.mem_reverse.mp hw), new_of_nodup ?_, fun e he => es1 e (List.mem_reverse.mp he), nodup_rev es2⟩ (fun w hw => (win w (List.mem_reverse.mp hw)).2.2)
        unfold keysG
        rw [List.map_reverse]
        exact nodup_rev nd
      · refine ⟨_, rfl, _, rfl, _, rfl, (by show 3 ≤ sizeLine; decide), fun t H5 nt s5 ht => ?_⟩
        exact k _ t lw D m ws es (s04.trans s5) ht ⟨as, s5 _ _ hw4, WayAt.same s5 hts4⟩ (s5 _ _ hL) ⟨m1, m4, by omega, okw, new_of_nodup nd, es1, es2⟩ (fun w hw => (win w hw).2.2)
end
end Jr
namespace Jr
open PySem PySem.Spec PyProof.Rows L2
/-! ### ranges by a step, up to 63 -/
def rgQ (c : Nat) : Bool := (List.range 64).all fun h => Builtin.Range.small 0 (h : Int) (c : Int) && decide (Builtin.Range.rangeSize 0 (h : Int) (c : Int) = (((h + (c - 1)) / c : Nat) : Int))
theorem rgQ2 : rgQ 2 = true := by decide +kernel
theorem rgQ_by {c h : Nat} (hb : rgQ (c + 1) = true) (hh : h ≤ 63) (hc : c < 1000 := by decide) : RgC 0 (h : Int) ((c + 1 : Nat) : Int) ((h + c) / (c + 1)) := by
  have := List.all_eq_true.mp hb h (List.mem_range.mpr (by omega))
  rw [Bool.and_eq_true, decide_eq_true_eq] at this
  refine ⟨by omega, by omega, this.1, ?_⟩
  have e := this.2
  rw [Nat.add_sub_cancel] at e
  exact e
/-- max(lo, min(hi, n)) -/
theorem clamp (n lo hi : Nat) (h : lo ≤ hi) : ∃ m : Nat, lo ≤ m ∧ m ≤ hi ∧ (if (if ((n : Nat) : Int) < ((hi : Nat) : Int) then ((n : Nat) : Int) else ((hi : Nat) : Int)) > ((lo : Nat) : Int) then (if ((n : Nat) : Int) < ((hi : Nat) : Int) then ((n : Nat) : Int) else ((hi : Nat) : Int)) else ((lo : Nat) : Int)) = ((m : Nat) : Int) := by
  refine ⟨max lo (min hi n), by omega, by omega, ?_⟩
  split <;> split <;> omega
end Jr
namespace Jr
open PySem PySem.Spec PyProof.Rows L2
def some94 : Str := Str.ofString " !\"#$&'()*+,-./0123456789:;<=>?@ABCDEFGHIJKLMNOPQRSTUVWXYZ[\\]^_`" ++ Str.ofString "abcdefghijklmnopqrstuvwxyz{|}~"
theorem some94_len : some94.cps.toList.length = 94 := by decide +kernel
theorem some94_nd : some94.cps.toList.Nodup := by decide +kernel
theorem some94_ok : ∀ c ∈ some94.cps.toList, 32 ≤ c ∧ c ≤ 126 ∧ c ≠ 37 := by decide +kernel
def spSigns (K : PySem.W.Frag) : Sp := fun vs H Q _ => ∃ (a : Addr) (ds : List Int), vs = [.ref a] ∧ SqL K H a (ds.map V.int) ∧ ds.length ≤ 40 ∧ (∀ d ∈ ds, 0 ≤ d ∧ d < 94) ∧
  ∀ H' z, Same H H' → SignsOk z → z.length = ds.length → Q (.str z) H'
section
variable {P : Program} {w : World} {K : PySem.W.Frag} {mg : Str → Option Value} {base : Heap}
theorem cal__law_signs (T : Tx K mg) : Cal P w K mg base CX0 1 "_law_signs" (spSigns K) := by
  obtain ⟨fd, F⟩ := T.d__law_signs
  refine ⟨_, fd, P__law_signs, F.ok sc__law_signs (fun vs H Q E h => ?_) (fun cdv A outer s H vs Q E hr h => ?_), T.g__law_signs, F.kp, F.bindsN (ps := P__law_signs) fun _ _ _ _ _ _ us hl => match us, hl with | [_], _ => rfl⟩
  · obtain ⟨a, ds, rfl, _⟩ := h
    rfl
  · obtain ⟨a, ds, rfl, hS, hlen, hds, k⟩ := h
    refine ⟨_, (PSs.nox (pss_cons (ps_set (i := 1) sc__law_signs.nd rfl (Or.inl rfl) pe_str)
      (pss_cons (ps_set (i := 1) sc__law_signs.nd rfl (Or.inl rfl) (pe_op op_add_str (pv 1) pe_str))
      (pss_cons (ps_set (i := 2) sc__law_signs.nd rfl (Or.inr rfl) pe_str)
      (pss_cons (ps_for PassesOwn.never rfl (pi_list (pv 0)) (pg_name (i := 3) sc__law_signs.nd rfl (Or.inl rfl)) (pss_cons (ps_set (i := 4) sc__law_signs.nd rfl (Or.inl rfl) (pe_op op_add_str (pe_slice sl_str (pv 1) (po_some (pv 3)) po_none) (pe_slice sl_str (pv 1) po_none (po_some (pv 3)))))
      (pss_one (ps_set (i := 2) sc__law_signs.nd rfl (Or.inr rfl) (pe_op op_add_str (pv 2) (pe_ix ix_list (pe_lc (own := [("_law_sign", 5)]) (g := gName 5) (by rfl) sc__law_signs.nd (pi_str (pv 4)) (blkOk_by (own := [("_law_sign", 5)]) (N := N__law_signs) (sc := defScope s__law_signs) (by decide +kernel)) (fun _ _ _ _ _ => (pg_name (i := 5) sc__law_signs.nd rfl (Or.inl rfl))) (fun _ _ _ _ _ => (pts_one (pt_cmpR op_notIn_sign (pv 5) (pv 2) rfl))) (fun _ _ _ _ _ => (pv 5))) pe_int (fun _ _ => rfl)))))))
      (pss_one (ps_ret (pv 2)))))))), ?_⟩
    refine ⟨_, rfl, _, _, rfl, rfl, (by decide +kernel), ?_⟩
    refine ⟨_, rfl, a, rfl, ⟨_, hS⟩, for_list (K := K) (a := a) (xs := ds.map V.int) (fun i σ H' => ∃ (z : Str) (u v x : Option V), σ = [some (.ref a), some (.str some94), some (.str z), u, v, x] ∧ Same H H' ∧ SignsOk z ∧ z.length = i)
      ⟨Str.ofString "", none, none, none, rfl, Same.refl H, ⟨by decide +kernel, by decide +kernel⟩, by decide +kernel⟩ (fun i σ H' _ ⟨_, _, _, _, _, s, _⟩ => s.seq hS) ?_ ?_⟩
    · rintro i y σ H' hi ⟨z, u, v, x, rfl, sm, ok, ez⟩
      have hi2 : i < ds.length := by
        have q := (List.getElem?_eq_some_iff.mp hi).1
        rw [List.length_map] at q
        exact q
      obtain ⟨d, hd, rfl⟩ : ∃ d, d ∈ ds ∧ y = V.int d := by
        rw [List.getElem?_map, List.getElem?_eq_getElem hi2] at hi
        exact ⟨_, List.getElem_mem hi2, (Option.some.inj hi).symm⟩
      obtain ⟨d0, d1⟩ := hds d hd
      obtain ⟨n, rfl⟩ := Int.eq_ofNat_of_zero_le d0
      have hz94 : some94.length ≤ sizeLine := by decide +kernel
      have l94 : some94.length = 94 := by decide +kernel
      have lt : (cutS some94 (some (n : Int)) none).length + (cutS some94 none (some (n : Int))).length = 94 := by
        have e1 := cut_from some94 n
        have e2 := cut_to some94 n
        have l1 := congrArg List.length e1
        have l2 := congrArg List.length e2
        rw [len_cps, List.length_drop, some94_len] at l1
        rw [len_cps, List.length_take, some94_len] at l2
        omega
      refine ⟨_, rfl, _, rfl, _, rfl, _, rfl, hz94, _, rfl, _, rfl, _, rfl, _, rfl, hz94, _, _, rfl, rfl, (by rw [lt]; decide), ?_⟩
      obtain ⟨t, et⟩ : ∃ t : Str, t = cutS some94 (some (n : Int)) none ++ cutS some94 none (some (n : Int)) := ⟨_, rfl⟩
      have tp : t.cps.toList.Perm some94.cps.toList := by
        rw [et, app_cps, cut_from, cut_to]
        exact List.perm_append_comm.trans (List.Perm.of_eq (List.take_append_drop _ _))
      have tl : t.cps.toList.length = 94 := by rw [tp.length_eq, some94_len]
      refine ⟨_, rfl, _, rfl, t, by rw [et], fun D hD => lc_strM (p := fun c => !decide (c ∈ z.cps.toList)) (f := fun c => V.str (sgn c)) hD (by rw [tl]; decide) (fun c _ H2 _ N M hM hN => ?_) (fun H2 sm2 hL => ?_)⟩
      · refine ⟨rfl, _, rfl, _, rfl, _, _, rfl, rfl, _, rfl, ?_⟩
        by_cases hc : c ∈ z.cps.toList
        · rw [decide_eq_true hc]
          exact iteF (hN (by simp [hc]))
        · rw [decide_eq_false hc]
          exact iteT ⟨_, rfl, hM (by simp [hc])⟩
      · have hne : ∃ c r, t.cps.toList.filter (fun c => !decide (c ∈ z.cps.toList)) = c :: r := by
          cases e : t.cps.toList.filter (fun c => !decide (c ∈ z.cps.toList)) with
          | cons c r => exact ⟨c, r, rfl⟩
          | nil =>
            exfalso
            have all : ∀ c ∈ t.cps.toList, c ∈ z.cps.toList := fun c hc => by
              have q := List.filter_eq_nil_iff.mp e c hc
              simpa using q
            have q := pigeon t.cps.toList z.cps.toList (tp.symm.nodup some94_nd) all
            rw [tl, len_cps, ez] at q
            omega
        obtain ⟨c, r, er⟩ := hne
        have hc : c ∈ t.cps.toList ∧ ¬ c ∈ z.cps.toList := by
          have q : c ∈ t.cps.toList.filter (fun c => !decide (c ∈ z.cps.toList)) := by rw [er]; exact List.mem_cons_self
          have q2 := List.mem_filter.mp q
          exact ⟨q2.1, by simpa using q2.2⟩
        rw [er] at hL
        refine ⟨D, _, _, _, rfl, rfl, SqL.of hL, (show atI _ ((0 : Nat) : Int) = _ from ats rfl), _, _, rfl, rfl, ?_, ?_⟩
        · show z.length + 1 ≤ sizeLine
          exact sz (by omega)
        · refine ⟨_, _, _, _, rfl, sm.trans sm2, ⟨?_, ?_⟩, ?_⟩
          · rw [app_cps]
            show (z.cps.toList ++ [c]).Nodup
            rw [List.nodup_append]
            refine ⟨ok.nd, by simp, fun x hx y hy => ?_⟩
            rw [List.mem_singleton] at hy
            rw [hy]
            exact fun e => hc.2 (e ▸ hx)
          · intro x hx
            rw [app_cps] at hx
            rcases List.mem_append.mp hx with hx | hx
            · exact ok.ok x hx
            · have e : x = c := by simpa [sgn] using hx
              rw [e]
              exact some94_ok c (tp.mem_iff.mp hc.1)
          · rw [app_len, ez]; rfl
    · rintro σ H' ⟨z, u, v, x, rfl, sm, ok, ez⟩
      rw [List.length_map] at ez
      exact ⟨_, rfl, k _ z sm ok ez⟩
end
end Jr
namespace Jr
open PySem PySem.Spec PyProof.Rows L2
theorem rgQ3 : rgQ 3 = true := by decide +kernel
section
variable {P : Program} {w : World} {K : PySem.W.Frag} {mg : Str → Option Value}
theorem wgram_same {K : PySem.W.Frag} {H H' : Hp} {mv wv ev : V} {part : Str} {u : V} (h : WGram K H mv wv ev part u) (s : Same H H') : WGram K H' mv wv ev part u := by
  rcases h with ⟨e, h, r⟩ | ⟨m, e, m1, m4, ⟨e2, h⟩ | ⟨a, us, ws, e2, hA, wt, l, e3, h⟩⟩
  · exact .inl ⟨e, h.imp (fun h => h.same s) id, r⟩
  · exact .inr ⟨m, e, m1, m4, .inl ⟨e2, h.same s⟩⟩
  · exact .inr ⟨m, e, m1, m4, .inr ⟨a, us, ws, e2, s _ _ hA, wt.same s, l, e3, h.same s⟩⟩
theorem ne_nil {v : V} {us : List V} : PyData.eqv (.list ((v :: us).map fdV)) (.list []) = false := by simp [PyData.eqv, PyData.eqvAll]
theorem big70 : ¬ ((0 : Int) ≤ 10 ^ 59 ∧ (10 : Int) ^ 59 ≤ 4) := by decide +kernel
theorem wgram_flat {K : PySem.W.Frag} {H : Hp} {mv wv ev : V} {part : Str} {u : V} (h : WGram K H mv wv ev part u) : (part = Str.ofString "many" ∨ part = Str.ofString "ways" ∨ part = Str.ofString "ends") ∧ (u = .non ∨ ∃ n : Nat, u = .int (n : Nat)) := by
  rcases h with ⟨rfl, _, rfl⟩ | ⟨m, _, _, _, ⟨rfl, ⟨_, rfl⟩ | ⟨_, _, _, _, _, _, rfl⟩ | ⟨_, _, _, _, _, _, _, _, rfl⟩⟩ | ⟨_, _, _, _, _, _, _, rfl, ⟨_, rfl⟩ | ⟨_, _, _, _, _, _, _, _, rfl⟩⟩⟩
  · exact ⟨.inl rfl, .inl rfl⟩
  · exact ⟨.inr (.inl rfl), .inl rfl⟩
  · exact ⟨.inr (.inl rfl), .inl rfl⟩
  · exact ⟨.inr (.inl rfl), .inr ⟨_, rfl⟩⟩
  · exact ⟨.inr (.inr rfl), .inl rfl⟩
  · exact ⟨.inr (.inr rfl), .inr ⟨_, rfl⟩⟩
theorem gram_cases {K : PySem.W.Frag} {H : Hp} {m : Nat} {mv wv ev : V} (m1 : 1 ≤ m) (m4 : m ≤ 4) (hm : (NoPl K H mv 4 ∨ mv = .int 0) ∨ mv = .int (m : Nat)) (hw : WayC K H m wv) (he : EndC K H m ev) : (∃ part u, WGram K H mv wv ev part u) ∨ ∃ m ws es, GGram K H mv wv ev m ws es := by
  rcases hm with hm | rfl
  · exact .inl ⟨_, _, .inl ⟨rfl, hm, rfl⟩⟩
  rcases hw with hw | ⟨a, us, rfl, hA, ul, l48 | ⟨os, hp⟩⟩
  · exact .inl ⟨_, _, .inr ⟨m, rfl, m1, m4, .inl ⟨rfl, .inl ⟨hw, rfl⟩⟩⟩⟩
  · exact .inl ⟨_, _, .inr ⟨m, rfl, m1, m4, .inl ⟨rfl, .inr (.inl ⟨a, us, rfl, hA, ul, l48, rfl⟩)⟩⟩⟩
  by_cases l48 : 48 < us.length
  · exact .inl ⟨_, _, .inr ⟨m, rfl, m1, m4, .inl ⟨rfl, .inr (.inl ⟨a, us, rfl, hA, ul, l48, rfl⟩)⟩⟩⟩
  obtain ⟨ws, wt⟩ := ways_scan hp (by omega)
  by_cases wl : ws.length < us.length
  · exact .inl ⟨_, _, .inr ⟨m, rfl, m1, m4, .inl ⟨rfl, .inr (.inr ⟨a, us, ws, rfl, hA, by omega, wt, wl, rfl⟩)⟩⟩⟩
  have wl2 : ws.length = us.length := by have := wt.le; omega
  rcases he with he | ⟨b, us2, os2, rfl, hB, ul2, hp2⟩
  · exact .inl ⟨_, _, .inr ⟨m, rfl, m1, m4, .inr ⟨a, us, ws, rfl, hA, wt, wl2, rfl, .inl ⟨he, rfl⟩⟩⟩⟩
  obtain ⟨es, et⟩ := ends_scan hp2
  by_cases el : es.length < us2.length
  · exact .inl ⟨_, _, .inr ⟨m, rfl, m1, m4, .inr ⟨a, us, ws, rfl, hA, wt, wl2, rfl, .inr ⟨b, us2, es, rfl, hB, ul2, et, el, rfl⟩⟩⟩⟩
  exact .inr ⟨m, ws, es, a, b, us, us2, rfl, m1, m4, rfl, hA, wt, wl2, rfl, hB, et, by have := et.le; omega⟩
def spBlock70 (K : PySem.W.Frag) : Sp := fun vs H Q _ => ∃ (a : Addr) (ns : List Int) (i : Nat), vs = [.ref a, .int (i : Nat)] ∧ SqL K H a (ns.map V.int) ∧ i ≤ 63 ∧ ∀ H', Same H H' → Q (.bl true) H'
theorem kind_gram70 (T : Tx K mg) : KindC K (He.ga K "NoGrammar") 1 := ⟨T.xc_NoGrammar, T.kit_NoGrammar_JoinError, T.kit_NoGrammar_ValueError, T.kit_NoGrammar_NoTable, T.kit_NoGrammar_NoGrammar, T.kit_NoGrammar_NoCutting, T.kit_NoGrammar_NoSign, T.kit_NoGrammar_NoPiece, T.kit_NoGrammar_NoNumber, T.kit_NoGrammar_NoCount, T.kit_NoGrammar_NoText, T.kit_NoGrammar_NoPlace, T.kit_NoGrammar_NoLead, T.kit_NoGrammar_NoDeed, T.kit_NoGrammar_NoRow, T.kit_NoGrammar_NoName⟩
theorem cal__law_block70 {base : Heap} (T : Tx K mg) : Cal P w K mg base CX0 8 "_law_block" (spBlock70 K) := by
  have C__law_cell_at := cal__law_cell_at (P := P) (w := w) (base := base) T
  have C__law_numbers := cal__law_numbers (P := P) (w := w) (base := base) T
  have C__law_signs := cal__law_signs (P := P) (w := w) (base := base) T
  have C__law_grammar := cal__law_grammar (P := P) (w := w) (base := base) T
  have C__law_bent_ways := cal__law_bent_ways (P := P) (w := w) (base := base) T
  have C__law_bent_ends := cal__law_bent_ends (P := P) (w := w) (base := base) T
  have C__law_due := cal__law_due70 (P := P) (w := w) (base := base) T
  have C__law_seen := cal__law_seen (P := P) (w := w) (base := base) T
  have CX_Grammar := mkx_Grammar (P := P) (w := w) (base := base) T
  have M_Grammar_many := met_gmany (P := P) (w := w) (base := base) T
  have M_Grammar_ways := met_gways (P := P) (w := w) (base := base) T
  have M_Grammar_ends := met_gends (P := P) (w := w) (base := base) T
  obtain ⟨fd, F⟩ := T.d__law_block
  refine ⟨_, fd, P__law_block, F.ok sc__law_block (fun vs H Q E h => ?_) (fun cdv A outer s H vs Q E hr h => ?_), T.g__law_block, F.kp, F.bindsN (ps := P__law_block) fun _ _ _ _ _ _ us hl => match us, hl with | [_, _], _ => rfl⟩
  · obtain ⟨a, ns, i, rfl, _⟩ := h
    rfl
  · obtain ⟨a, ns, i, rfl, hS, hi, k⟩ := h
    refine ⟨_, (PSs.nox (pss_cons (ps_set (i := 2) sc__law_block.nd rfl (Or.inl rfl) (pe_cal C__law_numbers (by first | exact hr | exact hr.mono (by decide)) (by rfl) (pa_cons (pe_cal C__law_cell_at (by first | exact hr | exact hr.mono (by decide)) (by rfl) (pa_cons (pv 0) (pa_cons (pv 1) pa_nil))) (pa_cons (pe_op op_add pe_int (pv 1)) (pa_cons (pe_intsAs (ns := [12, 94, 94, 94, 94, 94, 94, 94, 94, 94, 94, 94, 94]) (pe_catI (pe_litI (ns := [12]) (pe_lst (pa_cons pe_int pa_nil)) (fun _ _ _ => rfl) (by decide)) (pe_repI (k := 12) (pe_litI (ns := [94]) (pe_lst (pa_cons pe_int pa_nil)) (fun _ _ _ => rfl) (by decide)) pe_int (by decide) (by decide)) (by decide)) (by decide)) pa_nil)))))
      (pss_cons (ps_set (i := 3) sc__law_block.nd rfl (Or.inl rfl) (pe_cal C__law_grammar (by first | exact hr | exact hr.mono (by decide)) (by rfl) (pa_cons (pe_cal C__law_cell_at (by first | exact hr | exact hr.mono (by decide)) (by rfl) (pa_cons (pv 0) (pa_cons (pe_op op_add (pv 1) pe_int) pa_nil))) (pa_cons (pe_op op_add pe_int (pv 1)) (pa_cons (pe_cal C__law_signs (by first | exact hr | exact hr.mono (by decide)) (by rfl) (pa_cons (pe_slice sl_listG (pv 2) (po_some pe_int) (po_some (pe_op op_add pe_int (pe_ix ix_list (pv 2) pe_int (fun _ _ => rfl))))) pa_nil)) pa_nil)))))
      (pss_cons (ps_set (i := 4) sc__law_block.nd rfl (Or.inl rfl) (pe_cal C__law_numbers (by first | exact hr | exact hr.mono (by decide)) (by rfl) (pa_cons (pe_cal C__law_cell_at (by first | exact hr | exact hr.mono (by decide)) (by rfl) (pa_cons (pv 0) (pa_cons (pe_op op_add (pv 1) pe_int) pa_nil))) (pa_cons (pe_op op_add pe_int (pv 1)) (pa_cons (pe_intsAs (ns := [4, 8, 5, 49, 15, 48, 6, 5, 6]) (pe_litI (ns := [4, 8, 5, 49, 15, 48, 6, 5, 6]) (pe_lst (pa_cons pe_int (pa_cons pe_int (pa_cons pe_int (pa_cons pe_int (pa_cons pe_int (pa_cons pe_int (pa_cons pe_int (pa_cons pe_int (pa_cons pe_int pa_nil)))))))))) (fun _ _ _ => rfl) (by decide)) (by decide)) pa_nil)))))
      (pss_cons (ps_asg (pv 3) (pg_tup rfl (pgs_cons (pg_name (i := 5) sc__law_block.nd rfl (Or.inl rfl)) (pgs_cons (pg_name (i := 6) sc__law_block.nd rfl (Or.inl rfl)) (pgs_cons (pg_name (i := 7) sc__law_block.nd rfl (Or.inl rfl)) pgs_nil)))))
      (C8.pss_cut (ps_if (pt_cmpR op_eq (pe_ix ix_list (pv 4) pe_int (fun _ _ => rfl)) pe_int (nomark _)) (pss_one (ps_set (i := 5) sc__law_block.nd rfl (Or.inl rfl) (pe_ix ix_list (pe_lstG (pa_cons pe_int (pa_cons (pe_un un_neg pe_int) (pa_cons pe_int (pa_cons (pe_op op_pow pe_int pe_int) (pa_cons pe_bl (pa_cons pe_bl (pa_cons pe_non (pa_cons pe_str pa_nil))))))))) (pe_ix ix_list (pv 4) pe_int (fun _ _ => rfl)) (fun _ _ => rfl)))) pss_nil)
      (pss_cons (ps_set (i := 6) sc__law_block.nd rfl (Or.inl rfl) (pe_cal C__law_bent_ways (by first | exact hr | exact hr.mono (by decide)) (by rfl) (pa_cons (pv 6) (pa_cons (pe_ix ix_tup (pv 3) pe_int (fun _ _ => rfl)) (pa_cons (pe_slice sl_listG (pv 4) (po_some pe_int) (po_some pe_int)) pa_nil)))))
      (pss_cons (ps_set (i := 7) sc__law_block.nd rfl (Or.inl rfl) (pe_cal C__law_bent_ends (by first | exact hr | exact hr.mono (by decide)) (by rfl) (pa_cons (pv 7) (pa_cons (pe_ix ix_tup (pv 3) pe_int (fun _ _ => rfl)) (pa_cons (pe_slice sl_listG (pv 4) (po_some pe_int) po_none) pa_nil)))))
      (pss_cons (ps_set (i := 8) sc__law_block.nd rfl (Or.inl rfl) (pe_cal C__law_due (by first | exact hr | exact hr.mono (by decide)) (by rfl) (pa_cons (pv 5) (pa_cons (pv 6) (pa_cons (pv 7) pa_nil)))))
      (pss_cons (ps_set (i := 9) sc__law_block.nd rfl (Or.inl rfl) pe_non)
      (pss_cons (ps_set (i := 10) sc__law_block.nd rfl (Or.inl rfl) pe_non)
      (pss_cons (ps_try_keep (i := 11) rfl rfl sc__law_block.nd rfl rfl rfl ⟨rfl, by decide, .inl T.g_JoinError⟩ takes0 (fun W pn xe tk _ => (pss_one (ps_set (i := 10) sc__law_block.nd rfl (Or.inl rfl) (pe_mkX CX_Grammar (by first | exact hr | exact hr.mono (by decide)) rfl tk (pa_cons (pv 5) (pa_cons (pv 6) (pa_cons (pv 7) pa_nil))))))) (fun a oe cls d pn hz hf => (pss_one (ps_set (i := 9) sc__law_block.nd rfl (Or.inl rfl) (pv 11)))))
      (pss_cons (ps_if (pt_cmpR (op_neD hr.units) (pv 8) (pe_lstG pa_nil) (nomark _)) (pss_one (ps_ret (pe_and (pe_cmpR op_notN (pv 9) pe_non (nomark _)) (pe_one (pe_cmpR (op_eqD hr.units) (pe_cal C__law_seen (by first | exact hr | exact hr.mono (by decide)) (by rfl) (pa_cons (pv 9) pa_nil)) (pv 8) (nomark _)))))) pss_nil)
      (pss_one (ps_ret (pe_and (pe_cmpR op_isN (pv 9) pe_non (nomark _)) (pe_and (pe_cmpR (op_eqD hr.units) (pe_met0 M_Grammar_many (pv 10) (by first | exact hr | exact hr.mono (by decide))) (pv 5) (nomark _)) (pe_and (pe_cmpR (op_eqD hr.units) (pe_met0 M_Grammar_ways (pv 10) (by first | exact hr | exact hr.mono (by decide))) (pv 6) (nomark _)) (pe_one (pe_cmpR (op_eqD hr.units) (pe_met0 M_Grammar_ends (pv 10) (by first | exact hr | exact hr.mono (by decide))) (pv 7) (nomark _))))))))))))))))))))), ?_⟩
    refine ⟨_, rfl, _, rfl, a, ns, i, rfl, hS, fun c0 => ⟨_, rfl, _, _, rfl, rfl, fun q1 Ha na sa hq1 => ⟨c0, _, q1, _, rfl, ?_, ?_, SqL.of hq1, by decide, sizes_ok (by decide), fun Hb ph hd sb nph hH hDg => ?_⟩⟩⟩
    · show (0 : Int) ≤ 7000 + ((i : Nat) : Int)
      omega
    · show 7000 + ((i : Nat) : Int) ≤ 100000
      omega
    have hdl : hd.length = 13 := (Paired.len hDg).symm
    obtain ⟨e0, f0, b0, A0⟩ := dig hDg (j := 0) (z := 12) rfl
    refine ⟨_, rfl, _, rfl, _, _, rfl, rfl, a, ns, i + 1, rfl, (sa.trans sb).seq hS, fun c1 => ⟨_, rfl, _, _, rfl, rfl, _, rfl, _, rfl, _, rfl, ph, _, _, _, rfl, rfl, SqL.of hH, A0, _, _, rfl, rfl, _, rfl, ph, _, rfl, SqL.of hH, fun q4 H10 nq4 s10 hq4 => ?_⟩⟩
    have hq4' : H10 q4 = some (.lst (((hd.drop 1).take (1 + e0)).map V.int)) := by
      rw [hq4, show (2 : Int) + (e0 : Int) = ((2 + e0 : Nat) : Int) by omega]
      refine congrArg (fun l => some (HO.lst l)) ((cut_mid hd 1 (2 + e0)).trans ?_)
      rw [show 2 + e0 - 1 = 1 + e0 by omega]
    refine ⟨q4, (hd.drop 1).take (1 + e0), rfl, SqL.of hq4', by rw [List.length_take]; omega, fun d hd' => ?_, fun H11 z s11 sok zl0 => ?_⟩
    · have hP := Paired.tk (1 + e0) (Paired.dr 1 hDg)
      have e94 : (([12, 94, 94, 94, 94, 94, 94, 94, 94, 94, 94, 94, 94] : List Int).drop 1).take (1 + e0) = List.replicate (1 + e0) 94 := by
        rcases (show e0 = 0 ∨ e0 = 1 ∨ e0 = 2 ∨ e0 = 3 ∨ e0 = 4 ∨ e0 = 5 ∨ e0 = 6 ∨ e0 = 7 ∨ e0 = 8 ∨ e0 = 9 ∨ e0 = 10 ∨ e0 = 11 by omega) with rfl | rfl | rfl | rfl | rfl | rfl | rfl | rfl | rfl | rfl | rfl | rfl <;> rfl
      rw [e94] at hP
      obtain ⟨x, hx, b⟩ := Paired.mem2 hP hd'
      rw [(List.mem_replicate.mp hx).2] at b
      exact b
    rw [List.length_take, List.length_drop, hdl] at zl0
    have zl : z.length = 1 + e0 := by omega
    have sA := ((sa.trans sb).trans s10).trans s11
    refine ⟨c1, _, z, rfl, ?_, ?_, sok, by omega, by omega, fun H12 tg lwg leg m ws es s12 htg hwg heg ok win => ?_⟩
    · show (0 : Int) ≤ 7001 + ((i : Nat) : Int)
      omega
    · show 7001 + ((i : Nat) : Int) ≤ 100000
      omega
    have sB := sA.trans s12
    refine ⟨_, rfl, _, rfl, _, _, rfl, rfl, a, ns, i + 2, rfl, sB.seq hS, fun c2 => ⟨_, rfl, _, _, rfl, rfl, fun q5 H13 n13 s13 hq5 => ⟨c2, _, q5, _, rfl, ?_, ?_, SqL.of hq5, by decide, sizes_ok (by decide), fun H14 pd ds s14 npd hP hds => ?_⟩⟩⟩
    · show (0 : Int) ≤ 7002 + ((i : Nat) : Int)
      omega
    · show 7002 + ((i : Nat) : Int) ≤ 100000
      omega
    have sC := (sB.trans s13).trans s14
    have s1214 := s13.trans s14
    have htg14 := s1214 _ _ htg
    have hwg14 := hwg.same s1214
    have heg14 := s1214 _ _ heg
    have dl : ds.length = 9 := (Paired.len hds).symm
    obtain ⟨d0, g0, b0, B0⟩ := dig hds (j := 0) (z := 4) rfl
    obtain ⟨d1, g1, b1, B1⟩ := dig hds (j := 1) (z := 8) rfl
    obtain ⟨d2, g2, b2, _⟩ := dig hds (j := 2) (z := 5) rfl
    obtain ⟨d3, g3, b3, _⟩ := dig hds (j := 3) (z := 49) rfl
    obtain ⟨d4, g4, b4, _⟩ := dig hds (j := 4) (z := 15) rfl
    obtain ⟨d5, g5, b5, _⟩ := dig hds (j := 5) (z := 48) rfl
    obtain ⟨d6, g6, b6, _⟩ := dig hds (j := 6) (z := 6) rfl
    obtain ⟨d7, g7, b7, _⟩ := dig hds (j := 7) (z := 5) rfl
    obtain ⟨d8, g8, b8, _⟩ := dig hds (j := 8) (z := 6) rfl
    have eds : ds = [(d0 : Int), d1, d2, d3, d4, d5, d6, d7, d8] := List.ext_getElem? fun j => by
      match j with
      | 0 => exact g0
      | 1 => exact g1
      | 2 => exact g2
      | 3 => exact g3
      | 4 => exact g4
      | 5 => exact g5
      | 6 => exact g6
      | 7 => exact g7
      | 8 => exact g8
      | j + 9 => rw [List.getElem?_eq_none (by omega)]; rfl
    have at0 : ∀ (u v x : V), atI [u, v, x] 0 = some u := fun u v x => (show atI _ ((0 : Nat) : Int) = _ from ats rfl)
    refine ⟨_, rfl, tg, _, rfl, SqT.of htg14, rfl, _, _, rfl, _, _, rfl, _, _, rfl, rfl, ?_⟩
    refine ⟨fun σ H' => ∃ mv : V, ((NoPl K H' mv 4 ∨ mv = .int 0) ∨ mv = .int (m : Nat)) ∧ σ = [some (.ref a), some (.int (i : Nat)), some (.ref ph), some (.ref tg), some (.ref pd), some mv, some (.ref lwg), some (.ref leg), none, none, none, none] ∧ Same H14 H', ?_, ?_⟩
    · refine ⟨_, rfl, pd, _, _, _, rfl, rfl, SqL.of hP, B0, rfl, _, rfl, ite2 (fun _ => ?_) (fun _ => ⟨_, .inr rfl, rfl, Same.refl _⟩)⟩
      refine ⟨_, rfl, _, _, rfl, rfl, ⟨by decide, by decide, by decide⟩, (by show 8 ≤ sizeLine; decide), fun q6 H15 n15 s15 hq6 => ?_⟩
      have hv : ∃ v, atI [V.int 0, V.int (-1), V.int 5, V.int (10 ^ 59), V.bl true, V.bl false, V.non, V.str (Str.ofString "1")] (d1 : Int) = some v ∧ (NoPl K H15 v 4 ∨ v = .int 0) := by
        clear k
        rcases (show d1 = 0 ∨ d1 = 1 ∨ d1 = 2 ∨ d1 = 3 ∨ d1 = 4 ∨ d1 = 5 ∨ d1 = 6 ∨ d1 = 7 by omega) with rfl | rfl | rfl | rfl | rfl | rfl | rfl | rfl
        · exact ⟨_, ats (i := 0) rfl, .inr rfl⟩
        · exact ⟨_, ats (i := 1) rfl, .inl (.inl ⟨_, rfl, by decide⟩)⟩
        · exact ⟨_, ats (i := 2) rfl, .inl (.inl ⟨_, rfl, by decide⟩)⟩
        · exact ⟨_, ats (i := 3) rfl, .inl (.inl ⟨_, rfl, big70⟩)⟩
        · exact ⟨_, ats (i := 4) rfl, .inl (.inr (.inl ⟨_, rfl⟩))⟩
        · exact ⟨_, ats (i := 5) rfl, .inl (.inr (.inl ⟨_, rfl⟩))⟩
        · exact ⟨_, ats (i := 6) rfl, .inl (.inr (.inr noInt_non))⟩
        · exact ⟨_, ats (i := 7) rfl, .inl (.inr (.inr (noInt_str _)))⟩
      obtain ⟨v, A, hv⟩ := hv
      exact ⟨_, rfl, pd, _, _, _, rfl, rfl, SqL.of (s15 _ _ hP), B1, q6, _, _, _, rfl, rfl, SqL.of hq6, A, v, .inl hv, rfl, s15⟩
    rintro σ H15 ⟨mv, hmv, rfl, s15⟩
    have htg15 := s15 _ _ htg14
    refine ⟨_, rfl, _, rfl, tg, _, _, _, rfl, rfl, SqT.of htg15, at0 _ _ _, _, rfl, _, rfl, _, rfl, pd, _, rfl, SqL.of (s15 _ _ hP), fun q6 H16 n16 s16 hq6 => ?_⟩
    have hq6' : H16 q6 = some (.lst [.int (d2 : Nat), .int (d3 : Nat), .int (d4 : Nat), .int (d5 : Nat)]) := by
      rw [hq6, show (some (2 : Int)) = some ((2 : Nat) : Int) from rfl, show (some (6 : Int)) = some ((6 : Nat) : Int) from rfl, cut_mid, eds]
      rfl
    have s1416 := s15.trans s16
    have okw : ∀ w ∈ ws, w.1 < m ∧ w.2.2 < m ∧ 32 ≤ w.2.1 ∧ w.2.1 ≤ 126 ∧ w.2.1 ≠ 37 := ok.way
    refine ⟨lwg, q6, ws, m, d2, d3, d4, d5, rfl, hwg14.same s1416, ok.m1, ok.m4, ok.len, okw, hq6', by omega, fun H17 wv s17 hwv => ?_⟩
    have s1417 := s1416.trans s17
    refine ⟨_, rfl, _, rfl, tg, _, _, _, rfl, rfl, SqT.of (s1417 _ _ htg14), at0 _ _ _, _, rfl, _, rfl, pd, _, rfl, SqL.of (s1417 _ _ hP), fun q7 H18 n18 s18 hq7 => ?_⟩
    have hq7' : H18 q7 = some (.lst [.int (d6 : Nat), .int (d7 : Nat), .int (d8 : Nat)]) := by
      rw [hq7, show (some (6 : Int)) = some ((6 : Nat) : Int) from rfl, cutV_from, eds]
      rfl
    have s1418 := s1417.trans s18
    have nes := nodup_lt ok.ends ok.nd
    have m4 := ok.m4
    refine ⟨leg, q7, es, m, d6, d7, d8, rfl, s1418 _ _ heg14, ok.m1, ok.m4, by omega, ok.ends, hq7', by omega, fun H19 ev s19 hev => ?_⟩
    have s1519 := ((s16.trans s17).trans s18).trans s19
    have hmv19 : (NoPl K H19 mv 4 ∨ mv = .int 0) ∨ mv = .int (m : Nat) := hmv.imp (fun h => h.imp (fun h => h.same s1519) id) id
    have hwv19 : WayC K H19 m wv := by
      rcases hwv with h | ⟨a, us, e, hA, ul, h⟩
      · exact .inl (h.same (s18.trans s19))
      · exact .inr ⟨a, us, e, (s18.trans s19) _ _ hA, ul, h.imp id fun ⟨os, p⟩ => ⟨os, pwy_same p (s18.trans s19)⟩⟩
    have gc := gram_cases ok.m1 ok.m4 hmv19 hwv19 hev
    have sD := (sC.trans s15).trans s1519
    clear hmv hmv19 hwv hwv19 hev eds hq6 hq7 hq6' hq7'
    refine ⟨_, rfl, _, rfl, _, rfl, mv, wv, ev, rfl, ?_⟩
    rcases gc with ⟨part, u, wg⟩ | ⟨m', ws', es', gg⟩
    · obtain ⟨hpart, hu⟩ := wgram_flat wg
      refine .inl ⟨part, u, wg, fun H20 q s20 hq => ?_⟩
      refine ⟨_, rfl, _, rfl, _, rfl, ?_⟩
      intro x dx hx hdx ndx
      refine ⟨H20, x, dx, mv, wv, ev, rfl, rfl, hx, hdx, ndx, .inl ⟨part, u, wgram_same wg s20, fun H21 d s21 nd hd => ?_⟩⟩
      refine ⟨true, T.exm_NoGrammar_JoinError, fun _ ea na => ?_, fun q => nomatch q⟩
      have nda : d ≠ ea := fun e => by rw [e, na] at hd; cases hd
      have hx2 : ExcAt (upd H21 ea (ExV (.ref (CGram K)) (some d) ea)) ea (CGram K) (some d) [("number", u), ("part", .str part)] := ⟨upd_same, .inr ⟨d, rfl, by rw [upd_ne nda]; exact hd⟩⟩
      have s22 := Same.new (o := ExV (.ref (CGram K)) (some d) ea) na
      have kd := kind_gram70 T
      have fl : ∀ x ∈ [V.str part, u], Fl x ∧ NoBl x := fun x hxx => by
        rcases List.mem_cons.mp hxx with rfl | hxx
        · exact ⟨fun c hc => by
            have key : ∀ s : Str, s.cps.toList.all (fun c => decide (c ≤ 126)) = true → ∀ c ∈ s.cps.toList, c ≤ 126 := fun s h c hc => of_decide_eq_true (List.all_eq_true.mp h c hc)
            rcases hpart with rfl | rfl | rfl <;> exact key _ (by decide +kernel) c hc, trivial⟩
        · rw [List.mem_singleton.mp hxx]
          rcases hu with rfl | ⟨n, rfl⟩ <;> exact ⟨trivial, trivial⟩
      have flk : ∀ x ∈ V.int (1 : Nat) :: [V.str part, u], Fl x := fun x hx => by
        rcases List.mem_cons.mp hx with rfl | hx
        · exact trivial
        · exact (fl x hx).1
      have hq : H20 q = some (.lst (V.int (1 : Nat) :: [V.str part, u])) := hq
      have hq22 := (s21.trans s22) _ _ hq
      refine ⟨_, rfl, _, rfl, (by show 0 ≤ sizeLine; decide), fun q8 H23 n23 s23 hq8 => ?_⟩
      refine ⟨_, _, dpL (SqL.of (s23 _ _ hq22)) flk, dpL (xs := []) (SqL.of hq8) (fun _ h => by cases h), shL flk, shL (fun _ h => by cases h), _, rfl, ?_⟩
      rw [show ([] : List V).map fdV = [] from rfl, ne_nil]
      refine iteT ?_
      refine ⟨_, rfl, rfl, _, rfl, iteT ?_⟩
      refine ⟨_, rfl, ea, _, _, _, 1, [.str part, u], rfl, hx2.same s23, kd, by decide, .inr (.inr (.inl ⟨.inr rfl, kd.xc.xf, _, _, rfl, T.no_NoGrammar_part, rfl, T.no_NoGrammar_number, rfl⟩)), fl, fun H24 q9 s24 hq9 => ?_⟩
      have s2224 := s23.trans s24
      refine ⟨_, rfl, _, _, dpL (SqL.of hq9) flk, dpL (SqL.of (s2224 _ _ hq22)) flk, shL flk, shL flk, ?_⟩
      rw [eqL flk]
      exact k _ ((((sD.trans s20).trans s21).trans s22).trans s2224)
    · refine .inr ⟨m', ws', es', gg, fun H20 q s20 hq => ?_⟩
      obtain ⟨p1, p2, us, us2, rfl, m1', m4', rfl, hp1, wt, wl, rfl, hp2, et, el⟩ := id gg
      refine ⟨_, rfl, _, rfl, _, rfl, ?_⟩
      intro x dx hx hdx ndx
      refine ⟨H20, x, dx, _, _, _, rfl, rfl, hx, hdx, ndx, .inr ⟨m', p1, p2, us, us2, ws', es', rfl, m1', m4', rfl, s20 _ _ hp1, wt.same s20, wl, rfl, s20 _ _ hp2, et.same s20, el, fun H21 s21 gfr => ?_⟩⟩
      have ga := gfr.at_
      have s2021 := s20.trans s21
      have hp1' := s2021 _ _ hp1
      have hp2' := s2021 _ _ hp2
      rw [ends_full et el] at hp2'
      have hways := ways_full hp1' (wt.same s2021) wl
      refine ⟨rfl, ?_⟩
      have hq21 := s21 _ _ hq
      refine ⟨_, rfl, (by show 0 ≤ sizeLine; decide), fun q8 H23 n23 s23 hq8 => ?_⟩
      refine ⟨_, _, dpL (xs := []) (SqL.of (s23 _ _ hq21)) (fun _ h => by cases h), dpL (xs := []) (SqL.of hq8) (fun _ h => by cases h), shL (fun _ h => by cases h), shL (fun _ h => by cases h), _, rfl, ?_⟩
      rw [eqL (fun _ h => by cases h)]
      refine iteF ?_
      refine ⟨_, rfl, rfl, _, rfl, iteT ?_⟩
      have ga23 := ga.same s23
      obtain ⟨dx3, _, _, _, g1, _⟩ := id ga23
      have lm := Ly.fl (K := K) (H := H23) (v := .int (m' : Nat)) trivial
      have c126 : ∀ w ∈ ws', w.2.1 ≤ 126 := fun w hw => (ga.ok.way w hw).2.2.2.1
      refine ⟨_, rfl, x, dx3, _, rfl, g1, gf_mc _ _ _ _, x, m', ws', es', rfl, ga23, _, rfl, _, _, lm.dp, lm.dp, lm.sh, lm.sh, _, rfl, ?_⟩
      rw [lm.eqv]
      refine iteT ⟨_, rfl, x, dx3, _, rfl, g1, gf_mw _ _ _ _, x, m', ws', es', rfl, ga23, fun H24 p4 s24 np4 hp4 => ?_⟩
      have s2124 := s23.trans s24
      have l1 := lyWs (K := K) hp4 c126
      have l2 := lyWs (K := K) (hways.same s2124) c126
      refine ⟨_, rfl, _, _, l1.dp, l2.dp, l1.sh, l2.sh, _, rfl, ?_⟩
      rw [l1.eqv]
      refine iteT ⟨_, rfl, x, dx3, _, rfl, s24 _ _ g1, gf_me _ _ _ _, x, m', ws', es', rfl, ga23.same s24, fun H25 p5 s25 np5 hp5 => ?_⟩
      have l3 := lyNs (K := K) hp5
      have l4 := lyNs (K := K) ((s2124.trans s25) _ _ hp2')
      refine ⟨_, rfl, _, _, l3.dp, l4.dp, l3.sh, l4.sh, ?_⟩
      rw [l3.eqv]
      exact k _ ((sD.trans s2021).trans (s2124.trans s25))
theorem fn_law (T : Tx K mg) : ∃ fd, FunD K "law" "law" (defArgs s_law) (defBody s_law) (defScope s_law) [] [] (He.fAd K ("law", none)) fd ∧ ∀ base : Heap, FnOk P w K mg base CX0 9 (He.fAd K ("law", none)) fd P_law (spLaw K) := by
  obtain ⟨fd, F⟩ := T.d_law
  refine ⟨fd, F, fun base => ?_⟩
  have C__law_block := cal__law_block70 (P := P) (w := w) (base := base) T
  refine F.ok sc_law (fun vs H Q E h => ?_) (fun cdv A outer s H vs Q E hr h => ?_)
  · obtain ⟨a, ns, rfl, _⟩ := h
    rfl
  · obtain ⟨a, ns, rfl, hS, hlen, k⟩ := h
    refine ⟨_, (PSs.nox (pss_cons (ps_for PassesOwn.never rfl (pi_range3 (by rfl) T.n_range (pa_cons pe_int (pa_cons (pe_callB (id := "max") (call_max2 rfl) (by rfl) T.n_max (by decide +kernel) (pa_cons pe_int (pa_cons (pe_callB (id := "min") (call_min2 rfl) (by rfl) T.n_min (by decide +kernel) (pa_cons pe_int (pa_cons (pe_callB (id := "len") call_len_seq (by rfl) T.n_len (by decide +kernel) (pa_cons (pv 0) pa_nil)) pa_nil))) pa_nil))) (pa_cons pe_int pa_nil)))) (pg_name (i := 1) sc_law.nd rfl (Or.inl rfl)) (pss_one (ps_if (pt_not (pt_val (pe_cal C__law_block (by first | exact hr | exact hr.mono (by decide)) (by rfl) (pa_cons (pv 0) (pa_cons (pv 1) pa_nil))))) (pss_one (ps_ret pe_bl)) pss_nil)))
      (pss_one (ps_ret pe_bl)))), ?_⟩
    obtain ⟨hi, hlo, hhi, ehi⟩ := clamp (ns.map V.int).length 1 63 (by decide)
    refine ⟨_, rfl, a, _, rfl, .inl hS, _, _, rfl, _, _, rfl, ?_⟩
    rw [show ((63 : Nat) : Int) = 63 from rfl, show ((1 : Nat) : Int) = 1 from rfl] at ehi
    rw [ehi]
    refine ⟨0, _, 3, (hi + 2) / 3, rfl, rgQ_by rgQ3 (by omega), ?_⟩
    refine for_rangeC (lo := 0) (c := 3) (n := (hi + 2) / 3) (fun j σ H' => ∃ u1 : Option V, σ = [some (.ref a), u1] ∧ Same H H')
      ⟨_, rfl, Same.refl _⟩ ?_ (fun σ H' _ => k H')
    rintro j σ H9 hj ⟨u1, rfl, sm⟩
    show gName 1 (V.int (0 + ((j : Nat) : Int) * 3)) _ _ _
    rw [show (0 : Int) + ((j : Nat) : Int) * 3 = ((3 * j : Nat) : Int) by omega]
    have hj24 : 3 * j ≤ 63 := by omega
    exact ⟨_, rfl, _, rfl, a, ns, 3 * j, rfl, sm.seq hS, hj24, fun H' s' => ⟨_, rfl, iteF ⟨_, rfl, sm.trans s'⟩⟩⟩
end
end Jr
namespace Jr
open PySem PySem.Spec PyProof.Rows L2
theorem tx_of {K : PySem.W.Frag} {h : Heap} {mg : Str → Option Value} {w : World} (X : K.In h) (G : h.Ns mainGlobals mg) (c : SaysC fa fn (fun K => (exs K).all id) w K) : Tx K mg := {
    n_len := He.free_ok X G (c.t.d.fact 0 (f := .free "len") rfl)
    n_range := He.free_ok X G (c.t.d.fact 1 (f := .free "range") rfl)
    n_max := He.free_ok X G (c.t.d.fact 2 (f := .free "max") rfl)
    n_min := He.free_ok X G (c.t.d.fact 3 (f := .free "min") rfl)
    n_isinstance := He.free_ok X G (c.t.d.fact 4 (f := .free "isinstance") rfl)
    n_str := He.free_ok X G (c.t.d.fact 5 (f := .free "str") rfl)
    n_int := He.free_ok X G (c.t.d.fact 6 (f := .free "int") rfl)
    n_bool := He.free_ok X G (c.t.d.fact 7 (f := .free "bool") rfl)
    n_list := He.free_ok X G (c.t.d.fact 8 (f := .free "list") rfl)
    n_tuple := He.free_ok X G (c.t.d.fact 9 (f := .free "tuple") rfl)
    n_ord := He.free_ok X G (c.t.d.fact 10 (f := .free "ord") rfl)
    n_enumerate := He.free_ok X G (c.t.d.fact 11 (f := .free "enumerate") rfl)
    n_ValueError := He.free_ok X G (c.t.d.fact 12 (f := .free "ValueError") rfl)
    c_BLANK_CODE := He.int_ok X G (c.t.d.fact 13 (f := .int "BLANK_CODE" 32) rfl)
    c_PERCENT_CODE := He.int_ok X G (c.t.d.fact 14 (f := .int "PERCENT_CODE" 37) rfl)
    c_TILDE_CODE := He.int_ok X G (c.t.d.fact 15 (f := .int "TILDE_CODE" 126) rfl)
    c_MOST_STATES := He.int_ok X G (c.t.d.fact 16 (f := .int "MOST_STATES" 4) rfl)
    c_MOST_WAYS := He.int_ok X G (c.t.d.fact 17 (f := .int "MOST_WAYS" 48) rfl)
    g_JoinError := He.glo_ok X G (c.t.d.fact 18 (f := .glo "JoinError") rfl)
    rd_JoinError := (exAt (i := 0) c.more rfl)
    ga_JoinError := of_decide_eq_true (exAt (i := 1) c.more rfl)
    fc_JoinError := fcB_ok (exAt (i := 2) c.more rfl)
    g_NoTable := He.glo_ok X G (c.t.d.fact 19 (f := .glo "NoTable") rfl)
    g_NoGrammar := He.glo_ok X G (c.t.d.fact 20 (f := .glo "NoGrammar") rfl)
    xc_NoGrammar := xcB_ok (exAt (i := 3) c.more rfl)
    in_NoGrammar := of_decide_eq_true (exAt (i := 4) c.more rfl)
    it_NoGrammar := of_decide_eq_true (exAt (i := 5) c.more rfl)
    no_NoGrammar_part := of_decide_eq_true (exAt (i := 6) c.more rfl)
    no_NoGrammar_number := of_decide_eq_true (exAt (i := 7) c.more rfl)
    exm_NoGrammar_JoinError := of_decide_eq_true (exAt (i := 8) c.more rfl)
    kit_NoGrammar_JoinError := of_decide_eq_true (exAt (i := 9) c.more rfl)
    kit_NoGrammar_NoTable := of_decide_eq_true (exAt (i := 10) c.more rfl)
    kit_NoGrammar_NoGrammar := of_decide_eq_true (exAt (i := 11) c.more rfl)
    kit_NoGrammar_NoCutting := of_decide_eq_true (exAt (i := 12) c.more rfl)
    kit_NoGrammar_NoSign := of_decide_eq_true (exAt (i := 13) c.more rfl)
    kit_NoGrammar_NoPiece := of_decide_eq_true (exAt (i := 14) c.more rfl)
    kit_NoGrammar_NoNumber := of_decide_eq_true (exAt (i := 15) c.more rfl)
    kit_NoGrammar_NoCount := of_decide_eq_true (exAt (i := 16) c.more rfl)
    kit_NoGrammar_NoText := of_decide_eq_true (exAt (i := 17) c.more rfl)
    kit_NoGrammar_NoPlace := of_decide_eq_true (exAt (i := 18) c.more rfl)
    kit_NoGrammar_NoLead := of_decide_eq_true (exAt (i := 19) c.more rfl)
    kit_NoGrammar_NoDeed := of_decide_eq_true (exAt (i := 20) c.more rfl)
    kit_NoGrammar_NoRow := of_decide_eq_true (exAt (i := 21) c.more rfl)
    kit_NoGrammar_NoName := of_decide_eq_true (exAt (i := 22) c.more rfl)
    kit_NoGrammar_ValueError := of_decide_eq_true (exAt (i := 23) c.more rfl)
    g_NoCutting := He.glo_ok X G (c.t.d.fact 21 (f := .glo "NoCutting") rfl)
    g_NoSign := He.glo_ok X G (c.t.d.fact 22 (f := .glo "NoSign") rfl)
    g_NoPiece := He.glo_ok X G (c.t.d.fact 23 (f := .glo "NoPiece") rfl)
    g_NoNumber := He.glo_ok X G (c.t.d.fact 24 (f := .glo "NoNumber") rfl)
    g_NoCount := He.glo_ok X G (c.t.d.fact 25 (f := .glo "NoCount") rfl)
    g_NoText := He.glo_ok X G (c.t.d.fact 26 (f := .glo "NoText") rfl)
    g_NoPlace := He.glo_ok X G (c.t.d.fact 27 (f := .glo "NoPlace") rfl)
    g_NoLead := He.glo_ok X G (c.t.d.fact 28 (f := .glo "NoLead") rfl)
    g_NoDeed := He.glo_ok X G (c.t.d.fact 29 (f := .glo "NoDeed") rfl)
    g_NoRow := He.glo_ok X G (c.t.d.fact 30 (f := .glo "NoRow") rfl)
    g_NoName := He.glo_ok X G (c.t.d.fact 31 (f := .glo "NoName") rfl)
    g_Grammar := He.glo_ok X G (c.t.d.fact 32 (f := .glo "Grammar") rfl)
    cl_Grammar := He.cls_ok (c.t.d.fact 33 (f := .cls "Grammar") rfl)
    no_Grammar_state_count := He.noat_ok (c.t.d.fact 34 (f := .noat "Grammar" "state_count") rfl)
    no_Grammar_way_list := He.noat_ok (c.t.d.fact 35 (f := .noat "Grammar" "way_list") rfl)
    no_Grammar_state_by_way := He.noat_ok (c.t.d.fact 36 (f := .noat "Grammar" "state_by_way") rfl)
    no_Grammar_end_list := He.noat_ok (c.t.d.fact 37 (f := .noat "Grammar" "end_list") rfl)
    mk_Grammar := He.mkr_ok (c.t.d.fact 38 (f := .mkr "Grammar") rfl)
    m_Grammar_is_state := He.meth_ok (c.t.d.fact 39 (f := .meth "Grammar" "is_state") rfl)
    m_Grammar_may_take_way := He.meth_ok (c.t.d.fact 40 (f := .meth "Grammar" "may_take_way") rfl)
    m_Grammar_take_ways := He.meth_ok (c.t.d.fact 41 (f := .meth "Grammar" "take_ways") rfl)
    m_Grammar_take_ends := He.meth_ok (c.t.d.fact 42 (f := .meth "Grammar" "take_ends") rfl)
    m_Grammar_many := He.meth_ok (c.t.d.fact 43 (f := .meth "Grammar" "many") rfl)
    m_Grammar_ways := He.meth_ok (c.t.d.fact 44 (f := .meth "Grammar" "ways") rfl)
    m_Grammar_ends := He.meth_ok (c.t.d.fact 45 (f := .meth "Grammar" "ends") rfl)
    d_JoinError___init__ := c.t.d.def_ 0 (d := ⟨("JoinError", some "__init__"), "__init__", "JoinError.__init__", defArgs s_JoinError___init__, defBody s_JoinError___init__, defScope s_JoinError___init__, [], []⟩) rfl
    d_NoGrammar___init__ := c.t.d.def_ 1 (d := ⟨("NoGrammar", some "__init__"), "__init__", "NoGrammar.__init__", defArgs s_NoGrammar___init__, defBody s_NoGrammar___init__, defScope s_NoGrammar___init__, [], []⟩) rfl
    g_is_whole := He.glo_ok X G (c.t.d.fact 46 (f := .glo "is_whole") rfl)
    d_is_whole := c.t.d.def_ 2 (d := ⟨("is_whole", none), "is_whole", "is_whole", defArgs s_is_whole, defBody s_is_whole, defScope s_is_whole, [], []⟩) rfl
    g_is_up_to := He.glo_ok X G (c.t.d.fact 47 (f := .glo "is_up_to") rfl)
    d_is_up_to := c.t.d.def_ 3 (d := ⟨("is_up_to", none), "is_up_to", "is_up_to", defArgs s_is_up_to, defBody s_is_up_to, defScope s_is_up_to, [], []⟩) rfl
    g_may_be_sign := He.glo_ok X G (c.t.d.fact 48 (f := .glo "may_be_sign") rfl)
    d_may_be_sign := c.t.d.def_ 4 (d := ⟨("may_be_sign", none), "may_be_sign", "may_be_sign", defArgs s_may_be_sign, defBody s_may_be_sign, defScope s_may_be_sign, [], []⟩) rfl
    d_Grammar___init__ := c.t.d.def_ 5 (d := ⟨("Grammar", some "__init__"), "__init__", "Grammar.__init__", defArgs s_Grammar___init__, defBody s_Grammar___init__, defScope s_Grammar___init__, [], []⟩) rfl
    d_Grammar_is_state := c.t.d.def_ 6 (d := ⟨("Grammar", some "is_state"), "is_state", "Grammar.is_state", defArgs s_Grammar_is_state, defBody s_Grammar_is_state, defScope s_Grammar_is_state, [], []⟩) rfl
    d_Grammar_may_take_way := c.t.d.def_ 7 (d := ⟨("Grammar", some "may_take_way"), "may_take_way", "Grammar.may_take_way", defArgs s_Grammar_may_take_way, defBody s_Grammar_may_take_way, defScope s_Grammar_may_take_way, [], []⟩) rfl
    d_Grammar_take_ways := c.t.d.def_ 8 (d := ⟨("Grammar", some "take_ways"), "take_ways", "Grammar.take_ways", defArgs s_Grammar_take_ways, defBody s_Grammar_take_ways, defScope s_Grammar_take_ways, [], []⟩) rfl
    d_Grammar_take_ends := c.t.d.def_ 9 (d := ⟨("Grammar", some "take_ends"), "take_ends", "Grammar.take_ends", defArgs s_Grammar_take_ends, defBody s_Grammar_take_ends, defScope s_Grammar_take_ends, [], []⟩) rfl
    d_Grammar_many := c.t.d.def_ 10 (d := ⟨("Grammar", some "many"), "many", "Grammar.many", defArgs s_Grammar_many, defBody s_Grammar_many, defScope s_Grammar_many, [], []⟩) rfl
    d_Grammar_ways := c.t.d.def_ 11 (d := ⟨("Grammar", some "ways"), "ways", "Grammar.ways", defArgs s_Grammar_ways, defBody s_Grammar_ways, defScope s_Grammar_ways, [], []⟩) rfl
    d_Grammar_ends := c.t.d.def_ 12 (d := ⟨("Grammar", some "ends"), "ends", "Grammar.ends", defArgs s_Grammar_ends, defBody s_Grammar_ends, defScope s_Grammar_ends, [], []⟩) rfl
    g__law_cell_at := He.glo_ok X G (c.t.d.fact 49 (f := .glo "_law_cell_at") rfl)
    d__law_cell_at := c.t.d.def_ 13 (d := ⟨("_law_cell_at", none), "_law_cell_at", "_law_cell_at", defArgs s__law_cell_at, defBody s__law_cell_at, defScope s__law_cell_at, [], []⟩) rfl
    g__law_numbers := He.glo_ok X G (c.t.d.fact 50 (f := .glo "_law_numbers") rfl)
    d__law_numbers := c.t.d.def_ 14 (d := ⟨("_law_numbers", none), "_law_numbers", "_law_numbers", defArgs s__law_numbers, defBody s__law_numbers, defScope s__law_numbers, [], []⟩) rfl
    g__law_signs := He.glo_ok X G (c.t.d.fact 51 (f := .glo "_law_signs") rfl)
    d__law_signs := c.t.d.def_ 15 (d := ⟨("_law_signs", none), "_law_signs", "_law_signs", defArgs s__law_signs, defBody s__law_signs, defScope s__law_signs, [], []⟩) rfl
    g__law_whole := He.glo_ok X G (c.t.d.fact 52 (f := .glo "_law_whole") rfl)
    d__law_whole := c.t.d.def_ 16 (d := ⟨("_law_whole", none), "_law_whole", "_law_whole", defArgs s__law_whole, defBody s__law_whole, defScope s__law_whole, [], []⟩) rfl
    g__law_grammar := He.glo_ok X G (c.t.d.fact 53 (f := .glo "_law_grammar") rfl)
    d__law_grammar := c.t.d.def_ 17 (d := ⟨("_law_grammar", none), "_law_grammar", "_law_grammar", defArgs s__law_grammar, defBody s__law_grammar, defScope s__law_grammar, [], []⟩) rfl
    g__law_refusal := He.glo_ok X G (c.t.d.fact 54 (f := .glo "_law_refusal") rfl)
    d__law_refusal := c.t.d.def_ 18 (d := ⟨("_law_refusal", none), "_law_refusal", "_law_refusal", defArgs s__law_refusal, defBody s__law_refusal, defScope s__law_refusal, [], []⟩) rfl
    g__law_seen := He.glo_ok X G (c.t.d.fact 55 (f := .glo "_law_seen") rfl)
    d__law_seen := c.t.d.def_ 19 (d := ⟨("_law_seen", none), "_law_seen", "_law_seen", defArgs s__law_seen, defBody s__law_seen, defScope s__law_seen, [], []⟩) rfl
    g__law_is_sign := He.glo_ok X G (c.t.d.fact 56 (f := .glo "_law_is_sign") rfl)
    d__law_is_sign := c.t.d.def_ 20 (d := ⟨("_law_is_sign", none), "_law_is_sign", "_law_is_sign", defArgs s__law_is_sign, defBody s__law_is_sign, defScope s__law_is_sign, [], []⟩) rfl
    g__law_is_state := He.glo_ok X G (c.t.d.fact 57 (f := .glo "_law_is_state") rfl)
    d__law_is_state := c.t.d.def_ 21 (d := ⟨("_law_is_state", none), "_law_is_state", "_law_is_state", defArgs s__law_is_state, defBody s__law_is_state, defScope s__law_is_state, [], []⟩) rfl
    g__law_due := He.glo_ok X G (c.t.d.fact 58 (f := .glo "_law_due") rfl)
    d__law_due := c.t.d.def_ 22 (d := ⟨("_law_due", none), "_law_due", "_law_due", defArgs s__law_due, defBody s__law_due, defScope s__law_due, [], []⟩) rfl
    g__law_bent_ways := He.glo_ok X G (c.t.d.fact 59 (f := .glo "_law_bent_ways") rfl)
    d__law_bent_ways := c.t.d.def_ 23 (d := ⟨("_law_bent_ways", none), "_law_bent_ways", "_law_bent_ways", defArgs s__law_bent_ways, defBody s__law_bent_ways, defScope s__law_bent_ways, [], []⟩) rfl
    g__law_bent_ends := He.glo_ok X G (c.t.d.fact 60 (f := .glo "_law_bent_ends") rfl)
    d__law_bent_ends := c.t.d.def_ 24 (d := ⟨("_law_bent_ends", none), "_law_bent_ends", "_law_bent_ends", defArgs s__law_bent_ends, defBody s__law_bent_ends, defScope s__law_bent_ends, [], []⟩) rfl
    g__law_block := He.glo_ok X G (c.t.d.fact 61 (f := .glo "_law_block") rfl)
    d__law_block := c.t.d.def_ 25 (d := ⟨("_law_block", none), "_law_block", "_law_block", defArgs s__law_block, defBody s__law_block, defScope s__law_block, [], []⟩) rfl
    g_law := He.glo_ok X G (c.t.d.fact 62 (f := .glo "law") rfl)
    d_law := c.t.d.def_ 26 (d := ⟨("law", none), "law", "law", defArgs s_law, defBody s_law, defScope s_law, [], []⟩) rfl }
theorem law_fact {P : Program} {w : World} {K : PySem.W.Frag} {h : Heap} {mg : Str → Option Value} {f : Addr} (X : K.In h) (G : h.Ns mainGlobals mg) (hfa : mg ("law" : Str) = some (.ref f)) (c : SaysC fa fn (fun K => (exs K).all id) w K) :
    ∃ fd : FuncData, (∀ (s : Shared) (v : Value), BindsTo s fd ⟨[v], []⟩ [("_law_script", v)]) ∧ ∀ base : Heap, K.In base → base.Ns mainGlobals mg → FnOk P w K mg base CX0 9 f fd ["_law_script"] (spLaw K) := by
  have T := tx_of X G c
  have e := hfa.symm.trans (He.glo_ok X G (c.t.d.fact 62 (f := .glo "law") rfl))
  cases e
  obtain ⟨fd, F, ok⟩ := fn_law (P := P) (w := w) T
  have b := FunD.bindsA (ps := ["_law_script"]) F fun _ _ _ _ _ _ us hl => match us, hl with | [_], _ => rfl
  exact ⟨fd, fun s v => b s [v] rfl, fun base _ _ => ok base⟩
end Jr
open PySem PySem.W PySem.Calls PyProof.Rows
set_option maxRecDepth 100000 in
set_option maxHeartbeats 0 in
theorem PySem.Challenge.cw_joinranks_k70_no_grammar_holds : PySem.Challenge.rw_joinranks_k70_no_grammar.Holds := by
  w_on; o_law
  refine HandSHeadRun.head_any (r := OpenLaw.row PySem.Challenge.rw_joinranks_k70_no_grammar) (q := view (OpenLaw.row PySem.Challenge.rw_joinranks_k70_no_grammar).prog [42]) (H := Jr.hk) (ob := Jr.ob) (M := 8000) (loose := Jr.loose) (d := HandSHeadRun.topDef (OpenLaw.row PySem.Challenge.rw_joinranks_k70_no_grammar).prog 42) (kwd := []) Jr.ob_eq
    (by kernel_rfl) (fun s => by kernel_rfl) Jr.run (by kernel_rfl) (by kernel_rfl) (by kernel_rfl) (by rfl) (by first | assumption | decide +kernel) (by decide +kernel) ⟨rfl, rfl, rfl, rfl, rfl, by decide +kernel⟩ ?hw ?hc
  case hw => w_witness2
  case hc =>
    refine L2.walk_ofE (l := PySem.Challenge.rw_joinranks_k70_no_grammar) (n := 63) (k := 9) (x := "_law_script") (CX := L2.CX0) rfl (by decide) (by kernel_rfl) ⟨rfl, by decide, by decide⟩ ?F (fun _ _ _ _ z => z)
    intro w mg fa h Y G hmg0
    obtain ⟨K, KX, c⟩ := Y
    have hmg : mg ("law" : PySem.Str) = some (.ref fa) := by
      have e : (HandSHeadRun.topDef (OpenLaw.row PySem.Challenge.rw_joinranks_k70_no_grammar).prog 42).name = ("law" : PySem.Str) := by kernel_rfl
      rw [← e]
      exact hmg0
    obtain ⟨fd, hb, hF⟩ := Jr.law_fact (P := (PySem.Challenge.rw_joinranks_k70_no_grammar).prog) (w := w) KX G hmg c
    exact ⟨K, fd, Jr.spLaw K, KX, hb, fun H a ns hl _ hS => ⟨a, ns, rfl, hS, hl, fun _ => rfl⟩, hF⟩
#print axioms PySem.Challenge.cw_joinranks_k70_no_grammar_holds

