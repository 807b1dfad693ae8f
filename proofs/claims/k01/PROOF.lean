import PyProof.Rows.All
import Wide.All
import OpenK.AllK
import Wide.FinOn
import KE.KStateDown
import Lean
import HandS.ForMost
import HandS.Exc
import HandS.TryOnly
import HandS.ExcOwn
import HandS.WordsExc
import HandS.ExcInit
import HandS.ExcField
import HandS.CallSlots
import KE.KExcIs
import HandS.ExcIs
import HandS.Conv
import HandS.SortKw
import KE.DataMinMax
import HandS.AnyAll
import HandS.IsInst
import HandS.Style
import HandS.Wide
import HandS.FStr
import HandS.Flow
import HandS.Codes
import HandS.Defaults
import HandS.More
import HandS.Head0
import HandS.Head1
import HandS.Head2
import HandS.HeadEnd
import HandS.HeadHook1
import HandS.HeadHook2
import HandS.HeadHook3
import HandS.HeadHook4
import HandS.EndBits
import HandS.EndTab
import HandS.HeadWalk
import HandS.RevRange
import KE.KDictZip
import HandS.TryMany
import HandS.ExcValue
import HandS.NoneIn
import HandS.Deep
import HandS.AnyAll
import HandS.Nested
import HandS.GenList
import HandS.GenOver
import PyProof.GenQ
import HandS.EndTab
import HandS.HeadWalk
import HandS.HeadHook4
import HandS.Text
import KE.IntTextLaws
import HandS.Replace
import HandS.Wide
import PySem.Challenge.RW_joinranks_k01_numbers_written_and_read
set_option Elab.async false
set_option linter.all false
set_option maxRecDepth 100000
set_option maxHeartbeats 2000000
namespace Jr
open PySem PySem.Spec PyProof.Rows L2
/-! ### list(text) -/
/-- the signs of a text, each a text -/
def sgn (c : Nat) : Str := ⟨#[c]⟩
def sgs (z : Str) : List Str := z.cps.toList.map sgn
theorem sgs_len (z : Str) : (sgs z).length = z.length := by simp [sgs, Str.length]
section
variable {X : Cx}
def rListStr : List V → Hp → VK → Prop := fun xs H Q => ∃ z : Str, xs = [.str z] ∧ z.length ≤ sizeLine ∧ ∀ l, H l = none → Q (.ref l) (upd H l (.lst ((sgs z).map V.str)))
theorem call_list_str (hc : X.calm = true) : CallR X (.type "list") rListStr := by
  intro pins s σ H xs us Q I r h
  obtain ⟨z, rfl, hz, q⟩ := h
  cases r with
  | cons r rr =>
    cases rr
    obtain ⟨t, rfl⟩ := r
    refine PySem.call_list_str (I.ok.hd hc) z t (fun h' tk acc c' hk e hi => ?_) hz
    refine ⟨.ref s.heap.objs.size, upd H s.heap.objs.size (.lst ((sgs z).map V.str)), I.laid hk (Nat.le_refl _) ⟨by rw [List.length_map, sgs_len]; exact hz, acc.toList, c', ?_, by rw [Array.toArray_toList]; exact e⟩, rfl, q _ (I.hok.fresh (Nat.le_refl _))⟩
    refine vals_of_idx _ _ (by rw [List.length_map, sgs_len, Array.length_toList]; exact hi.1) fun j u hj => ?_
    obtain ⟨c, t', hcx, rfl⟩ := hi.2 j u (by rw [← Array.getElem?_toList]; exact hj)
    refine ⟨.str (sgn c), ?_, ⟨_, rfl⟩⟩
    have e1 : z.cps.toList[j]? = some c := by rw [Array.getElem?_toList]; exact hcx
    simp [sgs, e1]
end
/-! ### enumerate(text) -/
def Ites (x : Str) : It :=
  ⟨fun i _ => i < x.cps.size, fun i H v H' => ∃ T c, v = .ref T ∧ H T = none ∧ x.cps[i]? = some c ∧ H' = upd H T (.tup [.int (i : Nat), .str (sgn c)]), fun i _ => x.cps.size ≤ i⟩
theorem turn_enumS {P : Program} {w : World} {K : PySem.W.Frag} {elts : List Expr} {kk : Nat} {tpos : Pos} (x : Str) (t : Tok) (ty : String) (hty : ty = "str_ascii_iterator" ∨ ty = "str_iterator") (e it : Addr) :
    Turn P w K (.Tuple elts kk tpos) (Ites x) [e, it] e (fun i h => i ≤ x.cps.size ∧ (∃ old, IsEnum h e it ((i : Nat) : Int) old) ∧ h.IsStrIter it ty x t i ∧ e ≠ it) where
  mem := by simp
  obj := fun i h st b hb => by
    obtain ⟨_, ⟨old, he⟩, ⟨o, ho, hc, hd⟩, _⟩ := st
    have e' : b = e ∨ b = it := by simpa using hb
    rcases e' with z | z
    · rw [z]; exact ⟨_, he, fun v q => nomatch q⟩
    · rw [z]; exact ⟨o, ho, fun v q => by rw [hd] at q; cases q⟩
  keep := fun i h h' st k => let ⟨hl, ⟨old, he⟩, ⟨o, ho, r⟩, hne⟩ := st; ⟨hl, ⟨old, k e (by simp) _ he⟩, ⟨o, k it (by simp) o ho, r⟩, hne⟩
  item := by
    intro X hP hw hK hc i pins s σ H E I hf st hg
    subst hP hw hK
    obtain ⟨hl0, ⟨old, he⟩, hit, hne⟩ := st
    have D : Draws X.prog X.w X.A.in1 it [it] x.cps.size (fun i v => ∃ c u, x.cps[i]? = some c ∧ v = .str ⟨#[c]⟩ u) (fun i h => h.IsStrIter it ty x t i) := by
      rcases hty with z | z
      · rw [z]; exact Draws.strAscii (A := X.A.in1) (I.ok.hd hc) it x t
      · rw [z]; exact Draws.strWide (A := X.A.in1) (I.ok.hd hc) it x t
    have hel : e < s.heap.objs.size := Heap.lt_size he
    have hil : it < s.heap.objs.size := by obtain ⟨_, q, _⟩ := hit; exact Heap.lt_size q
    refine wpAny_pyNext_enum_itemD D he hit hg hne (by simpa using hne) fun u h' tk hu ho hit' hT hsz hk => ?_
    obtain ⟨c, tu, hcx, rfl⟩ := hu
    refine ⟨_, rfl, wpAny_letOwnedTupleGo_enum (s := { s with heap := h', toks := tk + 1 }) ho fun h'' he' sb => ?_⟩
    have hT2 : h''.get? s.heap.objs.size = some { cls := .type "tuple", data := .seq #[.int i tk, .str ⟨#[c]⟩ tu] } := (sb.2 _ (Nat.ne_of_gt hel)).trans hT
    have new : ObjOk X.prog X.w (upd H s.heap.objs.size (.tup [.int (i : Nat), .str (sgn c)])) h'' s.heap.objs.size (.tup [.int (i : Nat), .str (sgn c)]) :=
      ⟨by show 2 ≤ sizeLine; decide, [.int i tk, .str ⟨#[c]⟩ tu], .cons ⟨_, rfl⟩ (.cons ⟨_, rfl⟩ .nil), ⟨_, hT2, rfl, _, rfl⟩⟩
    have I1 : Inv X pins σ (upd H s.heap.objs.size (.tup [.int (i : Nat), .str (sgn c)])) { s with heap := h'', toks := tk + 1 } :=
      I.turnedNew (ch := [e, it]) (fun b ob hb q => (sb.2 b (fun z => hb (by simp [z]))).trans (hk b ob (fun z => hb (by simp [z])) (fun z => hb (by simp [z])) q)) hf (Nat.le_refl _) new
    refine ⟨.ref s.heap.objs.size, _, I1, rfl, ⟨_, c, rfl, I.hok.fresh (Nat.le_refl _), hcx, rfl⟩, ⟨hg, ⟨.str ⟨#[c]⟩ tu, ?_⟩, ?_, hne⟩, fun b hb => ?_⟩
    · have e1 : ((i + 1 : Nat) : Int) = (i : Int) + 1 := by omega
      rw [e1]; exact he'
    · obtain ⟨o, q, r⟩ := hit'
      exact ⟨o, (sb.2 it (Ne.symm hne)).trans q, r⟩
    · have hb' : b < s.heap.objs.size := by
        have e' : b = e ∨ b = it := by simpa using hb
        rcases e' with z | z
        · rw [z]; exact hel
        · rw [z]; exact hil
      rw [upd_ne (Nat.ne_of_lt hb')]
      exact (hf b hb).1
  done := by
    intro X hP hw hK hc i pins s σ H E I hf st hg
    subst hP hw hK
    obtain ⟨hl0, ⟨old, he⟩, hit, hne⟩ := st
    have ei : i = x.cps.size := Nat.le_antisymm hl0 hg
    subst ei
    have D : Draws X.prog X.w X.A.in1 it [it] x.cps.size (fun i v => ∃ c u, x.cps[i]? = some c ∧ v = .str ⟨#[c]⟩ u) (fun i h => h.IsStrIter it ty x t i) := by
      rcases hty with z | z
      · rw [z]; exact Draws.strAscii (A := X.A.in1) (I.ok.hd hc) it x t
      · rw [z]; exact Draws.strWide (A := X.A.in1) (I.ok.hd hc) it x t
    obtain ⟨f0, f1, f2, f3, f4, f5⟩ := hf it (by simp)
    exact wpAny_pyNext_enum_endD D he hit fun h' eb => ⟨rfl, I.turned (t' := s.toks) (fun b o hb q => eb b o hb q) f0 f1 f3 f4 f5⟩
  self := fun A i s Q E st h => let ⟨_, ⟨_, he⟩, _⟩ := st; wpAny_pyIter_enum he h
def iEnumS (ta : TA) : TI := fun σ H R => ta σ H fun vs H1 => ∃ x : Str, vs = [.str x] ∧ R (Ites x) H1
theorem pi_enumS {X : Cx} {e : Expr} {ta : TA} {p pos tpos : Pos} {elts : List Expr} {kk : Nat} (hg : Gl X "enumerate") (hm : X.mg "enumerate" = none) (ha : PA X [e] ta) (hs : starEach [e] X.env = [(false, eval e X.env)] := by rfl) :
    PI X (.Tuple elts kk tpos) (.Call (.Name "enumerate" p) [e] [] pos) (iEnumS ta) := by
  refine ⟨fun pins s σ H R I h => ?_⟩
  refine Call_ (ld_blt I hg hm boot_enumerate (PyProof.Rows.callWith_type1 (thn (ha.run pos pins s σ H _ I h) fun us s1 ⟨vs, H1, I1, r1, q1⟩ => ?_) hs rfl))
  obtain ⟨x, ex, q⟩ := q1
  subst ex
  cases r1 with
  | cons r rr =>
    cases rr
    obtain ⟨t, rfl⟩ := r
    refine call_enumerate_str fun h' he hit hsz hk => wpAny_pyIter_enum he ?_
    have I2 : Inv X pins σ H1 { s1 with heap := h' } := I1.kept (t' := s1.toks) hk
    have hty : strIterType x = "str_ascii_iterator" ∨ strIterType x = "str_iterator" := by
      unfold strIterType
      split
      · exact .inl rfl
      · exact .inr rfl
    refine ⟨s1.heap.objs.size + 1, [s1.heap.objs.size + 1, s1.heap.objs.size], _, _, H1, rfl, I2, turn_enumS x t (strIterType x) hty (s1.heap.objs.size + 1) s1.heap.objs.size, ⟨Nat.zero_le _, ⟨.none, he⟩, hit, Nat.succ_ne_self _⟩, fun b hb => ?_, q⟩
    have e' : b = s1.heap.objs.size + 1 ∨ b = s1.heap.objs.size := by simpa using hb
    have hle : s1.heap.objs.size ≤ b := by
      rcases e' with z | z
      · rw [z]; exact Nat.le_add_right _ _
      · rw [z]; exact Nat.le_refl _
    exact I1.fpOk hle (I1.hok.fresh hle)
/-! ### loops in short -/
section
variable {g : TG} {tb : TS} {D : Ends} {σ : L2.St} {H : Hp}
theorem for_enumS {x : Str} (Pv : Nat → L2.St → Hp → Prop) (h0 : Pv 0 σ H)
    (hs : ∀ i c T σ H, x.cps.toList[i]? = some c → H T = none → Pv i σ H → g (.ref T) σ (upd H T (.tup [.int (i : Nat), .str (sgn c)])) fun σ2 H2 => tb { D with nx := Pv (i + 1), ct := Pv (i + 1), bk := D.nx } σ2 H2) (hd : ∀ σ H, Pv x.cps.toList.length σ H → D.nx σ H) :
    ∃ W : Nat → Nat → L2.St → Hp → Prop, (∃ m, W 0 m σ H) ∧ ∀ i m σ H, W i m σ H →
      ((Ites x).stop i H ∧ D.nx σ H) ∨ ((Ites x).go i H ∧ ∃ N : L2.St → Hp → Prop, (∀ σ' H', N σ' H' → ∃ m', m' < m ∧ W (i + 1) m' σ' H') ∧ ∀ y H', (Ites x).yld i H y H' → g y σ H' fun σ2 H2 => tb { D with nx := N, ct := N, bk := D.nx } σ2 H2) := by
  have es : x.cps.toList.length = x.cps.size := by simp
  rw [es] at hd
  refine ⟨fun i m σ H => m = x.cps.size - i ∧ i ≤ x.cps.size ∧ Pv i σ H, ⟨x.cps.size, by simp, Nat.zero_le _, h0⟩, ?_⟩
  rintro i m σ H ⟨rfl, hi, p⟩
  by_cases hlt : i < x.cps.size
  · refine .inr ⟨hlt, Pv (i + 1), fun σ' H' p' => ⟨x.cps.size - (i + 1), by omega, rfl, hlt, p'⟩, fun y H' z => ?_⟩
    obtain ⟨T, c, rfl, hT, hc, rfl⟩ := z
    exact hs i c T σ H (by rw [Array.getElem?_toList]; exact hc) hT p
  · have e : i = x.cps.size := by omega
    subst e
    exact .inl ⟨Nat.le_refl _, hd σ H p⟩
theorem for_str {x : Str} (Pv : Nat → L2.St → Hp → Prop) (h0 : Pv 0 σ H)
    (hs : ∀ i c σ H, x.cps.toList[i]? = some c → Pv i σ H → g (.str (sgn c)) σ H fun σ2 H2 => tb { D with nx := Pv (i + 1), ct := Pv (i + 1), bk := D.nx } σ2 H2) (hd : ∀ σ H, Pv x.cps.toList.length σ H → D.nx σ H) :
    ∃ W : Nat → Nat → L2.St → Hp → Prop, (∃ m, W 0 m σ H) ∧ ∀ i m σ H, W i m σ H →
      ((Its x).stop i H ∧ D.nx σ H) ∨ ((Its x).go i H ∧ ∃ N : L2.St → Hp → Prop, (∀ σ' H', N σ' H' → ∃ m', m' < m ∧ W (i + 1) m' σ' H') ∧ ∀ y H', (Its x).yld i H y H' → g y σ H' fun σ2 H2 => tb { D with nx := N, ct := N, bk := D.nx } σ2 H2) := by
  have es : x.cps.toList.length = x.cps.size := by simp
  rw [es] at hd
  refine ⟨fun i m σ H => m = x.cps.size - i ∧ i ≤ x.cps.size ∧ Pv i σ H, ⟨x.cps.size, by simp, Nat.zero_le _, h0⟩, ?_⟩
  rintro i m σ H ⟨rfl, hi, p⟩
  by_cases hlt : i < x.cps.size
  · refine .inr ⟨hlt, Pv (i + 1), fun σ' H' p' => ⟨x.cps.size - (i + 1), by omega, rfl, hlt, p'⟩, fun y H' z => ?_⟩
    obtain ⟨e, c, hc, rfl⟩ := z
    subst e
    exact hs i c σ _ (by rw [Array.getElem?_toList]; exact hc) p
  · have e : i = x.cps.size := by omega
    subst e
    exact .inl ⟨Nat.le_refl _, hd σ H p⟩
theorem for_enum {K : PySem.W.Frag} {a : Addr} {xs : List V} (Pv : Nat → L2.St → Hp → Prop) (h0 : Pv 0 σ H) (hl : ∀ i σ H, i ≤ xs.length → Pv i σ H → SqL K H a xs)
    (hs : ∀ i x T σ H, xs[i]? = some x → H T = none → Pv i σ H → g (.ref T) σ (upd H T (.tup [.int (i : Nat), x])) fun σ2 H2 => tb { D with nx := Pv (i + 1), ct := Pv (i + 1), bk := D.nx } σ2 H2) (hd : ∀ σ H, Pv xs.length σ H → D.nx σ H) :
    ∃ W : Nat → Nat → L2.St → Hp → Prop, (∃ m, W 0 m σ H) ∧ ∀ i m σ H, W i m σ H →
      ((Ite K a).stop i H ∧ D.nx σ H) ∨ ((Ite K a).go i H ∧ ∃ N : L2.St → Hp → Prop, (∀ σ' H', N σ' H' → ∃ m', m' < m ∧ W (i + 1) m' σ' H') ∧ ∀ y H', (Ite K a).yld i H y H' → g y σ H' fun σ2 H2 => tb { D with nx := N, ct := N, bk := D.nx } σ2 H2) := by
  refine ⟨fun i m σ H => m = xs.length - i ∧ i ≤ xs.length ∧ Pv i σ H, ⟨xs.length, by simp, Nat.zero_le _, h0⟩, ?_⟩
  rintro i m σ H ⟨rfl, hi, p⟩
  have q := hl i σ H hi p
  by_cases hlt : i < xs.length
  · refine .inr ⟨⟨xs, xs[i], q, by simp [hlt]⟩, Pv (i + 1), fun σ' H' p' => ⟨xs.length - (i + 1), by omega, rfl, hlt, p'⟩, fun y H' z => ?_⟩
    obtain ⟨T, x, rfl, hT, rfl, hx⟩ := z
    exact hs i x T σ H (hx xs q) hT p
  · have e : i = xs.length := by omega
    subst e
    exact .inl ⟨⟨xs, q, Nat.le_refl _⟩, hd σ H p⟩
end
/-! ### defs and methods that keep a promise, by name -/
structure Cal (P : Program) (w : World) (K : PySem.W.Frag) (mg : Str → Option Value) (base : Heap) (CX : CXT) (k : Nat) (x : Str) (sp : Sp) : Prop where
  ex : ∃ (f : Addr) (fd : FuncData) (ps : List Str), FnOk P w K mg base CX k f fd ps sp ∧ mg x = some (.ref f) ∧ PySem.W.keepIn K (.ref f) = true ∧ Binds K fd ps []
structure Met (P : Program) (w : World) (K : PySem.W.Frag) (mg : Str → Option Value) (base : Heap) (CX : CXT) (k : Nat) (C : Addr) (m : Str) (sp : Sp) : Prop where
  cl : Cls K C
  ex : ∃ (f : Addr) (fd : FuncData) (ps : List Str), FnOk P w K mg base CX k f fd ps sp ∧ Meth K C m f ∧ Binds K fd ps []
structure Mkc (P : Program) (w : World) (K : PySem.W.Frag) (mg : Str → Option Value) (base : Heap) (CX : CXT) (k : Nat) (x : Str) (C : Addr) (sp : Sp) : Prop where
  ex : ∃ (f : Addr) (fd : FuncData) (ps : List Str), FnOk P w K mg base CX k f fd ps sp ∧ Mk K C f ∧ Binds K fd ps []
  g : mg x = some (.ref C)
section
variable {X : Cx} {k : Nat} {x : Str} {sp : Sp} {e : Expr} {es : List Expr} {t : TA} {p pos apos : Pos} {C : Addr} {m : Str} {o : Expr} {ta : TE}
theorem pe_cal (F : Cal X.prog X.w X.K X.mg X.base CX0 k x sp) (hr : Room k X.A) (hg : Gl X x) (ha : PA X (e :: es) t) (hdb : (x == ("__debug__" : Str)) = false := by decide)
    (he : starEach (e :: es) X.env = (false, eval e X.env) :: starEach es X.env := by rfl) (hpl : (backTo pos (starEach es X.env)).any (·.1) = false := by rfl) :
    PE X (.Call (.Name x p) (e :: es) [] pos) (fun σ H Q => t σ H fun vs H1 => sp vs H1 Q E0) := by
  obtain ⟨f, fd, ps, G, gm, kp, b⟩ := F.ex
  have z := pe_call (p := p) (pos := pos) (es := es) G hr hg gm kp b .nil pass0 ha hdb he hpl
  refine ⟨fun pins s σ H Q I h => z.run pins s σ H Q I ?_⟩
  show t σ H fun vs H1 => sp (vs ++ []) H1 Q E0
  simpa only [List.append_nil] using h
theorem pe_cal0 (F : Cal X.prog X.w X.K X.mg X.base CX0 k x sp) (hr : Room k X.A) (hg : Gl X x) (hdb : (x == ("__debug__" : Str)) = false := by decide) :
    PE X (.Call (.Name x p) [] [] pos) (fun _ H Q => sp [] H Q E0) := by
  obtain ⟨f, fd, ps, G, gm, kp, b⟩ := F.ex
  have z := pe_call0 (p := p) (pos := pos) G hr hg gm kp b .nil pass0 hdb
  exact ⟨fun pins s σ H Q I h => z.run pins s σ H Q I h⟩
theorem pe_met {pl : Sem Bool} (F : Met X.prog X.w X.K X.mg X.base CX0 k C m sp) (ho : PE X o ta) (hr : Room k X.A) (ha : PA X (e :: es) t)
    (hc : eval (.Call (.Attribute o m apos) (e :: es) [] pos) X.env = (do
      let ov ← eval o X.env
      standAt apos.atName
      let (f, first) ← holding [ov] (getMethod ov m pl)
      callWith pos f first (backTo pos (starEach (e :: es) X.env)) (backToKw pos (keywordEach [] X.env))) := by rfl)
    (he : starEach (e :: es) X.env = (false, eval e X.env) :: starEach es X.env := by rfl) (hpl : (backTo pos (starEach es X.env)).any (·.1) = false := by rfl) :
    PE X (.Call (.Attribute o m apos) (e :: es) [] pos) (fun σ H Q => ta σ H fun x H1 => ∃ a dx fs, x = .ref a ∧ H1 a = some (.ins C dx fs) ∧ fs.lookup m = none ∧ t σ H1 fun vs H2 => sp (x :: vs) H2 Q E0) := by
  obtain ⟨f, fd, ps, G, mt, b⟩ := F.ex
  have z := pe_meth (apos := apos) (pos := pos) ho F.cl mt G hr b .nil pass0 ha he hpl hc
  refine ⟨fun pins s σ H Q I h => z.run pins s σ H Q I ?_⟩
  show ta σ H fun x H1 => ∃ a dx fs, x = .ref a ∧ H1 a = some (.ins C dx fs) ∧ fs.lookup m = none ∧ t σ H1 fun vs H2 => sp (x :: (vs ++ [])) H2 Q E0
  simpa only [List.append_nil] using h
theorem pe_met0 {pl : Sem Bool} (F : Met X.prog X.w X.K X.mg X.base CX0 k C m sp) (ho : PE X o ta) (hr : Room k X.A)
    (hc : eval (.Call (.Attribute o m apos) [] [] pos) X.env = (do
      let ov ← eval o X.env
      standAt apos.atName
      let (f, first) ← holding [ov] (getMethod ov m pl)
      callWith pos f first (backTo pos (starEach [] X.env)) (backToKw pos (keywordEach [] X.env))) := by rfl) :
    PE X (.Call (.Attribute o m apos) [] [] pos) (fun σ H Q => ta σ H fun x H1 => ∃ a dx fs, x = .ref a ∧ H1 a = some (.ins C dx fs) ∧ fs.lookup m = none ∧ sp [x] H1 Q E0) := by
  obtain ⟨f, fd, ps, G, mt, b⟩ := F.ex
  have z := pe_meth0 (apos := apos) (pos := pos) ho F.cl mt G hr b .nil pass0 hc
  exact ⟨fun pins s σ H Q I h => z.run pins s σ H Q I h⟩
theorem pe_mk (F : Mkc X.prog X.w X.K X.mg X.base CX0 k x C sp) (hr : Room (k + 1) X.A) (hg : Gl X x) (ha : PA X (e :: es) t) (hdb : (x == ("__debug__" : Str)) = false := by decide)
    (he : starEach (e :: es) X.env = (false, eval e X.env) :: starEach es X.env := by rfl) (hpl : (backTo pos (starEach es X.env)).any (·.1) = false := by rfl) :
    PE X (.Call (.Name x p) (e :: es) [] pos) (fun σ H Q => t σ H fun vs H1 => ∀ x dx, H1 x = none → H1 dx = none → dx ≠ x →
      sp (.ref x :: vs) (upd (upd H1 dx (.own x)) x (.ins C dx [])) (fun v H2 => v = .non ∧ Q (.ref x) H2) E0) := by
  obtain ⟨f, fd, ps, G, mk, b⟩ := F.ex
  have z := pe_make (p := p) (pos := pos) (es := es) mk G hr hg F.g b .nil pass0 ha hdb he hpl
  refine ⟨fun pins s σ H Q I h => z.run pins s σ H Q I ?_⟩
  show t σ H fun vs H1 => ∀ x dx, H1 x = none → H1 dx = none → dx ≠ x → sp (.ref x :: (vs ++ [])) (upd (upd H1 dx (.own x)) x (.ins C dx [])) (fun v H2 => v = .non ∧ Q (.ref x) H2) E0
  simpa only [List.append_nil] using h
end
/-! ### heaps -/
theorem Same.new {H : Hp} {p : Addr} {o : HO} (h : H p = none) : Same H (upd H p o) := fun b x e => by
  rw [upd_ne (ne_of_none e h)]
  exact e
/-- an object that H does not know may change -/
theorem Same.mut {H H' : Hp} {p : Addr} {o : HO} (s : Same H H') (h : H p = none) : Same H (upd H' p o) := fun b x e => by
  rw [upd_ne (ne_of_none e h)]
  exact s b x e
theorem Same.put {H H' : Hp} {p : Addr} {o : HO} (s : Same H H') (h : H' p = none) : Same H (upd H' p o) := s.trans (Same.new h)
theorem sz {n : Nat} (h : n ≤ 100000) : n ≤ sizeLine := Nat.le_trans h (by decide)
theorem szl {n : Nat} (h : n < 100000) : n < sizeLine := Nat.lt_of_lt_of_le h (by decide)
theorem ats {α : Type} {xs : List α} {i : Nat} {x : α} (h : xs[i]? = some x) : atI xs (i : Int) = some x := by
  have hl : i < xs.length := (List.getElem?_eq_some_iff.mp h).1
  unfold atI ixN
  rw [if_pos (by omega), if_pos (by omega)]
  simpa using h
/-- digits below their sizes -/
abbrev Digs : List Int → List Int → Prop := Paired fun z d => 0 ≤ d ∧ d < z
end Jr
namespace Jr
open PySem PySem.Spec PyProof.Rows L2
/-! ### xs + ys, lists that may be locked -/
def rCatL (K : PySem.W.Frag) : R2 := fun x y H Q => ∃ l b xs zs, x = .ref l ∧ y = .ref b ∧ SqL K H l xs ∧ SqL K H b zs ∧ xs.length + zs.length ≤ sizeLine ∧ ∀ p, H p = none → Q (.ref p) (upd H p (.lst (xs ++ zs)))
theorem op_catL {X : Cx} : OpR X (binaryOp .Add) (rCatL X.K) := by
  intro pins s σ H x y v u Q I rx ry h
  obtain ⟨l, b, xs, zs, rfl, rfl, hH, hB, hz, q⟩ := h
  cases rx
  cases ry
  obtain ⟨its, r, ⟨o1, n1, g1, c1, d1, t1⟩, z1⟩ := I.list hH
  obtain ⟨its2, r2, ⟨o2, n2, g2, c2, d2, t2⟩, z2⟩ := I.list hB
  obtain ⟨k1, e1, dt1, sl1⟩ := o1
  obtain ⟨k2, e2, dt2, sl2⟩ := o2
  simp only at c1 d1 t1 c2 d2 t2
  subst c1 d1 t1 c2 d2 t2
  have l1 := r.length
  have l2 := r2.length
  have ea : its.toArray ++ its2.toArray = (its ++ its2).toArray := by simp
  have fin := I.lnew (t' := s.toks) (r.append r2) (by rw [List.length_append]; omega)
  rw [← ea] at fin
  exact concat_meets ⟨_, g1, rfl⟩ ⟨_, g2, rfl⟩ noFill_list_add seq_list_add F.slot_list_add F.entry_list_add (F.args_list_add_2 _ _)
    (list_addW l b its.toArray its2.toArray n1 n2 none none sl1 sl2 (by rw [List.size_toArray, List.size_toArray]; omega)) ⟨g1, g2, ⟨.ref _, _, fin, rfl, q _ I.fresh⟩⟩
end Jr
namespace Jr
open PySem PySem.Spec PyProof.Rows L2
/-! ### rules whose reading names the written part, for comprehensions -/
section
variable {X : Cx} {K : PySem.W.Frag}
theorem call_len_seqK (h : X.K = K := by rfl) : CallR X (.builtin "len") (fun xs H Q => ∃ p ys, xs = [.ref p] ∧ (SqL K H p ys ∨ SqT K H p ys) ∧ Q (.int ys.length) H) := by subst h; exact call_len_seq
theorem ix_listK (h : X.K = K := by rfl) : IxR X (rIxL K) := by subst h; exact ix_list
theorem ix_tupK (h : X.K = K := by rfl) : IxR X (rIxT K) := by subst h; exact ix_tup
theorem sl_listK (h : X.K = K := by rfl) : SlR X (rSlL K) := by subst h; exact sl_list
theorem op_in_seqK (h : X.K = K := by rfl) : OpR X (compareOp .In) (rIn K false) := by subst h; exact op_in_seq
theorem op_notIn_seqK (h : X.K = K := by rfl) : OpR X (compareOp .NotIn) (rIn K true) := by subst h; exact op_notIn_seq
theorem op_eqDK (hu : X.A.units + 64 < cLine) (h : X.K = K := by rfl) : OpR X (compareOp .Eq) (rEqD K) := by subst h; exact op_eqD hu
theorem op_neDK (hu : X.A.units + 64 < cLine) (h : X.K = K := by rfl) : OpR X (compareOp .NotEq) (rNeD K) := by subst h; exact op_neD hu
theorem call_isiK' (h : X.K = K := by rfl) : CallR X (.builtin "isinstance") (rIsi K) := by subst h; exact call_isi
theorem call_list_ofK (h : X.K = K := by rfl) : CallR X (.type "list") (fun xs H Q => ∃ p ys, xs = [.ref p] ∧ (SqL K H p ys ∨ SqT K H p ys) ∧ ∀ l, H l = none → Q (.ref l) (upd H l (.lst ys))) := by subst h; exact call_list_of
end
end Jr
namespace Jr
open PySem PySem.Spec PyProof.Rows L2
/-! ### comprehensions whose element and test change nothing: a filter and a map -/
section
variable {α : Type} {item : α → V} {p : α → Bool} {f : α → V} {g : TG} {tt : TT} {te : TE} {vs : List Nat} {σ : L2.St} {H1 : Hp} {D : Addr} {Qd : Hp → Prop}
/-- one turn of such a comprehension -/
def LcTurn (item : α → V) (p : α → Bool) (f : α → V) (g : TG) (tt : TT) (te : TE) (vs : List Nat) (σ : L2.St) (H1 : Hp) (x : α) : Prop :=
  ∀ (H' : Hp), Same H1 H' → ∀ (N : Hp → Prop) (M : V → Hp → Prop), (p x = true → M (f x) H') → (p x = false → N H') →
    g (item x) (wipe σ vs) H' fun σ2 H2 => wipe σ2 vs = wipe σ vs ∧ tt σ2 H2 fun b H3 => if b = true then te σ2 H3 M else N H3
theorem lc_step {l : List α} {i : Nat} {x : α} {H : Hp} (hD : H1 D = none) (hx : l[i]? = some x) (hlen : l.length ≤ 100000) (turn : LcTurn item p f g tt te vs σ H1 x)
    (sm : Same H1 H) (hL : H D = some (.lst (((l.take i).filter p).map f))) :
    g (item x) (wipe σ vs) H fun σ2 H2 => wipe σ2 vs = wipe σ vs ∧ tt σ2 H2 fun b H3 =>
      if b = true then te σ2 H3 fun y H4 => ∃ acc, H4 D = some (.lst acc) ∧ acc.length < sizeLine ∧ (fun H' => Same H1 H' ∧ H' D = some (.lst (((l.take (i + 1)).filter p).map f))) (upd H4 D (.lst (acc ++ [y])))
      else (fun H' => Same H1 H' ∧ H' D = some (.lst (((l.take (i + 1)).filter p).map f))) H3 := by
  have e : l.take (i + 1) = l.take i ++ [x] := by rw [List.take_add_one, hx]; rfl
  refine turn H sm _ _ (fun hp => ?_) (fun hp => ?_)
  · refine ⟨_, hL, ?_, Same.mut sm hD, ?_⟩
    · have h1 : ((l.take i).filter p).length ≤ (l.take i).length := List.length_filter_le ..
      have h2 : (l.take i).length ≤ i := by rw [List.length_take]; omega
      have h3 : i < l.length := (List.getElem?_eq_some_iff.mp hx).1
      rw [List.length_map]
      exact szl (by omega)
    · rw [upd_same, e, List.filter_append, List.map_append]
      simp [hp]
  · refine ⟨sm, ?_⟩
    rw [hL, e, List.filter_append, List.map_append]
    simp [hp]
theorem lc_listM {K : PySem.W.Frag} {a : Addr} {l : List α} (hS : SqL K H1 a (l.map item)) (hD : H1 D = none) (hlen : l.length ≤ 100000) (turn : ∀ x ∈ l, LcTurn item p f g tt te vs σ H1 x)
    (hd : ∀ H, Same H1 H → H D = some (.lst ((l.filter p).map f)) → Qd H) :
    ∃ W : Nat → Nat → Hp → Prop, (∃ m, W 0 m (upd H1 D (.lst []))) ∧ ∀ i m H, W i m H →
      ((Itl K a).stop i H ∧ Qd H) ∨ ((Itl K a).go i H ∧ ∃ Nx : Hp → Prop, (∀ H', Nx H' → ∃ m', m' < m ∧ W (i + 1) m' H') ∧ ∀ x H', (Itl K a).yld i H x H' → g x (wipe σ vs) H' fun σ2 H2 => wipe σ2 vs = wipe σ vs ∧ tt σ2 H2 fun b H3 =>
        if b = true then te σ2 H3 fun y H4 => ∃ acc, H4 D = some (.lst acc) ∧ acc.length < sizeLine ∧ Nx (upd H4 D (.lst (acc ++ [y]))) else Nx H3) := by
  refine lc_list (K := K) (a := a) (xs := l.map item) (fun i H => Same H1 H ∧ H D = some (.lst (((l.take i).filter p).map f))) ⟨Same.new hD, upd_same⟩ (fun i H _ ⟨s, _⟩ => s.seq hS) ?_ ?_
  · rintro i x H hx ⟨sm, hL⟩
    rw [List.getElem?_map] at hx
    cases e : l[i]? with
    | none => rw [e] at hx; cases hx
    | some y =>
      rw [e] at hx
      cases hx
      exact lc_step hD e hlen (turn y (List.mem_of_getElem? e)) sm hL
  · rintro H ⟨sm, hL⟩
    rw [List.length_map, List.take_length] at hL
    exact hd H sm hL
theorem lc_strM {x : Str} {p : Nat → Bool} {f : Nat → V} (hD : H1 D = none) (hlen : x.cps.toList.length ≤ 100000) (turn : ∀ c ∈ x.cps.toList, LcTurn (fun c => V.str (sgn c)) p f g tt te vs σ H1 c)
    (hd : ∀ H, Same H1 H → H D = some (.lst ((x.cps.toList.filter p).map f)) → Qd H) :
    ∃ W : Nat → Nat → Hp → Prop, (∃ m, W 0 m (upd H1 D (.lst []))) ∧ ∀ i m H, W i m H →
      ((Its x).stop i H ∧ Qd H) ∨ ((Its x).go i H ∧ ∃ Nx : Hp → Prop, (∀ H', Nx H' → ∃ m', m' < m ∧ W (i + 1) m' H') ∧ ∀ y H', (Its x).yld i H y H' → g y (wipe σ vs) H' fun σ2 H2 => wipe σ2 vs = wipe σ vs ∧ tt σ2 H2 fun b H3 =>
        if b = true then te σ2 H3 fun y H4 => ∃ acc, H4 D = some (.lst acc) ∧ acc.length < sizeLine ∧ Nx (upd H4 D (.lst (acc ++ [y]))) else Nx H3) := by
  have es : x.cps.toList.length = x.cps.size := by simp
  refine ⟨fun i m H => m = x.cps.size - i ∧ i ≤ x.cps.size ∧ Same H1 H ∧ H D = some (.lst (((x.cps.toList.take i).filter p).map f)), ⟨x.cps.size, by simp, Nat.zero_le _, Same.new hD, upd_same⟩, ?_⟩
  rintro i m H ⟨rfl, hi, sm, hL⟩
  by_cases hlt : i < x.cps.size
  · refine .inr ⟨hlt, (fun H' => Same H1 H' ∧ H' D = some (.lst (((x.cps.toList.take (i + 1)).filter p).map f))), fun H' p' => ⟨x.cps.size - (i + 1), by omega, rfl, hlt, p'⟩, fun y H' z => ?_⟩
    obtain ⟨e, c, hc, rfl⟩ := z
    subst e
    have hc' : x.cps.toList[i]? = some c := by rw [Array.getElem?_toList]; exact hc
    exact lc_step (item := fun c => V.str (sgn c)) hD hc' hlen (turn c (List.mem_of_getElem? hc')) sm hL
  · have e : i = x.cps.size := by omega
    subst e
    rw [← es, List.take_length] at hL
    exact .inl ⟨Nat.le_refl _, hd H sm hL⟩
theorem lc_rangeM {lo : Int} {n : Nat} {p : Nat → Bool} {f : Nat → V} (hD : H1 D = none) (hlen : n ≤ 100000) (turn : ∀ i, i < n → LcTurn (fun i : Nat => V.int (lo + i)) p f g tt te vs σ H1 i)
    (hd : ∀ H, Same H1 H → H D = some (.lst (((List.range n).filter p).map f)) → Qd H) :
    ∃ W : Nat → Nat → Hp → Prop, (∃ m, W 0 m (upd H1 D (.lst []))) ∧ ∀ i m H, W i m H →
      ((Itr lo n).stop i H ∧ Qd H) ∨ ((Itr lo n).go i H ∧ ∃ Nx : Hp → Prop, (∀ H', Nx H' → ∃ m', m' < m ∧ W (i + 1) m' H') ∧ ∀ y H', (Itr lo n).yld i H y H' → g y (wipe σ vs) H' fun σ2 H2 => wipe σ2 vs = wipe σ vs ∧ tt σ2 H2 fun b H3 =>
        if b = true then te σ2 H3 fun y H4 => ∃ acc, H4 D = some (.lst acc) ∧ acc.length < sizeLine ∧ Nx (upd H4 D (.lst (acc ++ [y]))) else Nx H3) := by
  refine lc_range (lo := lo) (n := n) (fun i H => Same H1 H ∧ H D = some (.lst ((((List.range n).take i).filter p).map f))) ⟨Same.new hD, upd_same⟩ ?_ ?_
  · rintro i H hi ⟨sm, hL⟩
    exact lc_step (l := List.range n) (item := fun i : Nat => V.int (lo + i)) hD (by rw [List.getElem?_range hi]) (by rw [List.length_range]; exact hlen) (turn i hi) sm hL
  · rintro H ⟨sm, hL⟩
    have e : (List.range n).take n = List.range n := by
      have := List.take_length (l := List.range n)
      rw [List.length_range] at this
      exact this
    rw [e] at hL
    exact hd H sm hL
end
/-! ### lists -/
theorem pigeon {α : Type} [DecidableEq α] : ∀ (l m : List α), l.Nodup → (∀ x ∈ l, x ∈ m) → l.length ≤ m.length
  | [], _, _, _ => Nat.zero_le _
  | x :: l, m, nd, h => by
    have hx : x ∈ m := h x List.mem_cons_self
    have nd' := List.nodup_cons.mp nd
    have ih := pigeon l (m.erase x) nd'.2 fun y hy => by
      have hne : y ≠ x := fun e => nd'.1 (e ▸ hy)
      exact (List.mem_erase_of_ne hne).mpr (h y (List.mem_cons_of_mem _ hy))
    have hl := List.length_erase_of_mem hx
    have hp : 0 < m.length := List.length_pos_of_mem hx
    rw [List.length_cons]
    omega
theorem Paired.get {α β : Type} {F : α → β → Prop} : ∀ {l : List α} {m : List β} {i : Nat} {x : α}, Paired F l m → l[i]? = some x → ∃ y, m[i]? = some y ∧ F x y
  | _, _, _, _, .nil, h => by simp at h
  | _, _, 0, _, .cons r _, h => ⟨_, rfl, by have e := Option.some.inj h; subst e; exact r⟩
  | _, _, i + 1, _, .cons _ q, h => Paired.get (i := i) q h
theorem Paired.get2 {α β : Type} {F : α → β → Prop} : ∀ {l : List α} {m : List β} {i : Nat} {y : β}, Paired F l m → m[i]? = some y → ∃ x, l[i]? = some x ∧ F x y
  | _, _, _, _, .nil, h => by simp at h
  | _, _, 0, _, .cons r _, h => ⟨_, rfl, by have e := Option.some.inj h; subst e; exact r⟩
  | _, _, i + 1, _, .cons _ q, h => Paired.get2 (i := i) q h
theorem Paired.mem2 {α β : Type} {F : α → β → Prop} {l : List α} {m : List β} {y : β} (h : Paired F l m) (hy : y ∈ m) : ∃ x ∈ l, F x y := by
  obtain ⟨i, hi, e⟩ := List.mem_iff_getElem.mp hy
  obtain ⟨x, hx, r⟩ := Paired.get2 h (i := i) (by rw [List.getElem?_eq_getElem hi, e])
  exact ⟨x, List.mem_of_getElem? hx, r⟩
theorem Paired.app {α β : Type} {F : α → β → Prop} : ∀ {l : List α} {m : List β} {l' : List α} {m' : List β}, Paired F l m → Paired F l' m' → Paired F (l ++ l') (m ++ m')
  | _, _, _, _, .nil, h => h
  | _, _, _, _, .cons r q, h => .cons r (Paired.app q h)
theorem Paired.tk {α β : Type} {F : α → β → Prop} : ∀ {l : List α} {m : List β} (n : Nat), Paired F l m → Paired F (l.take n) (m.take n)
  | _, _, _, .nil => by simp only [List.take_nil]; exact .nil
  | _, _, 0, .cons _ _ => .nil
  | _, _, n + 1, .cons r q => .cons r (Paired.tk n q)
theorem Paired.dr {α β : Type} {F : α → β → Prop} : ∀ {l : List α} {m : List β} (n : Nat), Paired F l m → Paired F (l.drop n) (m.drop n)
  | _, _, _, .nil => by simp only [List.drop_nil]; exact .nil
  | _, _, 0, .cons r q => .cons r q
  | _, _, n + 1, .cons _ q => Paired.dr n q
theorem Paired.len {α β : Type} {F : α → β → Prop} {l : List α} {m : List β} (h : Paired F l m) : l.length = m.length := Paired.length h
/-! ### texts -/
theorem app_cps (a b : Str) : (a ++ b).cps.toList = a.cps.toList ++ b.cps.toList := by
  show (a.cps ++ b.cps).toList = _
  simp
theorem app_len (a b : Str) : (a ++ b).length = a.length + b.length := by
  show (a.cps ++ b.cps).size = a.cps.size + b.cps.size
  simp
theorem str_ext {a b : Str} (h : a.cps.toList = b.cps.toList) : a = b := by
  cases a; cases b
  simp only at h
  congr
  exact Array.toList_inj.mp h
theorem len_cps (a : Str) : a.cps.toList.length = a.length := by simp [Str.length]
theorem app_assoc (a b c : Str) : a ++ b ++ c = a ++ (b ++ c) := str_ext (by simp only [app_cps, List.append_assoc])
theorem sgn_inj {c d : Nat} (h : sgn c = sgn d) : c = d := by
  have e : (sgn c).cps.toList = (sgn d).cps.toList := by rw [h]
  simpa [sgn] using e
theorem sgn_len (c : Nat) : (sgn c).length = 1 := rfl
theorem cut_from (z : Str) (d : Nat) : (cutS z (some (d : Int)) none).cps.toList = z.cps.toList.drop d := by
  show ((z.cps.toList.drop (HT.sIx z.length 0 (some (d : Int)))).take (HT.sIx z.length z.length none - HT.sIx z.length 0 (some (d : Int)))).toArray.toList = _
  rw [HT.sIx_nat, HT.sIx_none, List.toList_toArray]
  have e : z.cps.toList.length = z.length := len_cps z
  by_cases h : d ≤ z.length
  · rw [Nat.min_eq_left h, List.take_of_length_le (by rw [List.length_drop, e]; exact Nat.le_refl _)]
  · rw [Nat.min_eq_right (by omega), List.drop_of_length_le (by omega), List.drop_of_length_le (by omega)]
    simp
theorem cut_to (z : Str) (d : Nat) : (cutS z none (some (d : Int))).cps.toList = z.cps.toList.take d := by
  show ((z.cps.toList.drop (HT.sIx z.length 0 none)).take (HT.sIx z.length z.length (some (d : Int)) - HT.sIx z.length 0 none)).toArray.toList = _
  rw [HT.sIx_nat, HT.sIx_none, List.toList_toArray, List.drop_zero, Nat.sub_zero]
  have e : z.cps.toList.length = z.length := len_cps z
  by_cases h : d ≤ z.length
  · rw [Nat.min_eq_left h]
  · rw [Nat.min_eq_right (by omega), List.take_of_length_le (by omega), List.take_of_length_le (by omega)]
theorem cutV_from (xs : List V) (d : Nat) : cutV xs (some (d : Int)) none = xs.drop d := by
  show (xs.drop (HT.sIx xs.length 0 (some (d : Int)))).take (HT.sIx xs.length xs.length none - HT.sIx xs.length 0 (some (d : Int))) = _
  rw [HT.sIx_nat, HT.sIx_none]
  by_cases h : d ≤ xs.length
  · rw [Nat.min_eq_left h, List.take_of_length_le (by rw [List.length_drop]; exact Nat.le_refl _)]
  · rw [Nat.min_eq_right (by omega), List.drop_of_length_le (Nat.le_refl _), List.drop_of_length_le (by omega)]
    simp
theorem cutV_to (xs : List V) (d : Nat) : cutV xs none (some (d : Int)) = xs.take d := by
  show (xs.drop (HT.sIx xs.length 0 none)).take (HT.sIx xs.length xs.length (some (d : Int)) - HT.sIx xs.length 0 none) = _
  rw [HT.sIx_nat, HT.sIx_none, List.drop_zero, Nat.sub_zero]
  by_cases h : d ≤ xs.length
  · rw [Nat.min_eq_left h]
  · rw [Nat.min_eq_right (by omega), List.take_of_length_le (Nat.le_refl _), List.take_of_length_le (by omega)]
theorem cutV_mid (xs : List V) (a b : Nat) : cutV xs (some (a : Int)) (some (b : Int)) = (xs.drop a).take (b - a) := by
  show (xs.drop (HT.sIx xs.length 0 (some (a : Int)))).take (HT.sIx xs.length xs.length (some (b : Int)) - HT.sIx xs.length 0 (some (a : Int))) = _
  rw [HT.sIx_nat, HT.sIx_nat]
  by_cases h : a ≤ xs.length
  · rw [Nat.min_eq_left h]
    by_cases h2 : b ≤ xs.length
    · rw [Nat.min_eq_left h2]
    · rw [Nat.min_eq_right (by omega), List.take_of_length_le (by rw [List.length_drop]; exact Nat.le_refl _), List.take_of_length_le (by rw [List.length_drop]; omega)]
  · rw [Nat.min_eq_right (show xs.length ≤ a by omega), List.drop_of_length_le (Nat.le_refl _), List.drop_of_length_le (by omega)]
    simp
/-- an item of a list of a kind, by its place -/
theorem atm {α : Type} {f : α → V} {xs : List α} {i : Nat} {x : α} (h : xs[i]? = some x) : atI (xs.map f) (i : Int) = some (f x) := ats (by rw [List.getElem?_map, h]; rfl)
end Jr
namespace Jr
open PySem PySem.Spec PyProof.Rows L2
/-! ### tables as data -/
/-- what the signs of a table are: unlike, from the blank to ~ but the percent sign -/
structure SignsOk (z : Str) : Prop where
  nd : z.cps.toList.Nodup
  ok : ∀ c ∈ z.cps.toList, 32 ≤ c ∧ c ≤ 126 ∧ c ≠ 37
abbrev Rws := List (Str × Str)
def jn (r : Str × Str) : Str := r.1 ++ r.2
/-- the pieces, by their numbers -/
def pcs (z : Str) (rs : Rws) : List Str := sgs z ++ rs.map jn
/-- each row's parts are pieces ahead of it, its joined text is none of these and has at most 16 signs -/
structure RowOk (z : Str) (rs : Rws) (r : Str × Str) : Prop where
  lm : r.1 ∈ pcs z rs
  rm : r.2 ∈ pcs z rs
  len : (jn r).length ≤ 16
  new : ¬ jn r ∈ pcs z rs
structure TabOk (z : Str) (rs : Rws) : Prop where
  sg : SignsOk z
  n1 : 1 ≤ z.length
  n12 : z.length ≤ 12
  many : rs.length ≤ 24
  rows : ∀ i r, rs[i]? = some r → RowOk z (rs.take i) r
theorem TabOk.nil {z : Str} (s : SignsOk z) (h1 : 1 ≤ z.length) (h2 : z.length ≤ 12) : TabOk z [] := ⟨s, h1, h2, Nat.zero_le _, fun i r h => by simp at h⟩
theorem TabOk.take {z : Str} {rs : Rws} (T : TabOk z rs) (n : Nat) : TabOk z (rs.take n) := by
  refine ⟨T.sg, T.n1, T.n12, Nat.le_trans (by rw [List.length_take]; omega) T.many, fun i r h => ?_⟩
  rw [List.getElem?_take] at h
  split at h
  · rename_i hi
    have := T.rows i r h
    rw [List.take_take, Nat.min_eq_left (by omega)]
    exact this
  · cases h
theorem TabOk.snoc {z : Str} {rs : Rws} {r : Str × Str} (T : TabOk z rs) (h : RowOk z rs r) (hl : rs.length < 24) : TabOk z (rs ++ [r]) := by
  refine ⟨T.sg, T.n1, T.n12, by rw [List.length_append]; simp; omega, fun i q hq => ?_⟩
  by_cases hi : i < rs.length
  · rw [List.getElem?_append_left hi] at hq
    rw [List.take_append_of_le_length (by omega)]
    exact T.rows i q hq
  · rw [List.getElem?_append_right (by omega)] at hq
    have e : i = rs.length := by
      by_cases e : i - rs.length = 0
      · omega
      · rw [List.getElem?_eq_none (by simp; omega)] at hq
        cases hq
    subst e
    rw [Nat.sub_self] at hq
    have e2 : r = q := Option.some.inj hq
    subst e2
    rw [List.take_left']
    · exact h
    · rfl
theorem pcs_len (z : Str) (rs : Rws) : (pcs z rs).length = z.length + rs.length := by
  unfold pcs
  rw [List.length_append, sgs_len, List.length_map]
theorem pcs_snoc (z : Str) (rs : Rws) (r : Str × Str) : pcs z (rs ++ [r]) = pcs z rs ++ [jn r] := by
  unfold pcs
  rw [List.map_append, ← List.append_assoc]
  rfl
theorem sgs_nodup {z : Str} (h : z.cps.toList.Nodup) : (sgs z).Nodup := by
  unfold sgs
  exact List.Pairwise.map _ (fun a b hab e => hab (sgn_inj e)) h
theorem TabOk.nodup {z : Str} {rs : Rws} (T : TabOk z rs) : (pcs z rs).Nodup := by
  have key : ∀ n, n ≤ rs.length → (pcs z (rs.take n)).Nodup := fun n => by
    induction n with
    | zero =>
      intro _
      show (sgs z ++ []).Nodup
      rw [List.append_nil]
      exact sgs_nodup T.sg.nd
    | succ n ih =>
      intro hn
      have hx : rs[n]? = some rs[n] := List.getElem?_eq_getElem (by omega)
      rw [List.take_add_one, hx]
      show (pcs z (rs.take n ++ [rs[n]])).Nodup
      rw [pcs_snoc, List.nodup_append]
      refine ⟨ih (by omega), by simp, fun x hx2 y hy => ?_⟩
      rw [List.mem_singleton] at hy
      rw [hy]
      exact fun e => (T.rows n _ hx).new (e ▸ hx2)
  have := key rs.length (Nat.le_refl _)
  rw [List.take_length] at this
  exact this
theorem TabOk.plen {z : Str} {rs : Rws} (T : TabOk z rs) {p : Str} (h : p ∈ pcs z rs) : 1 ≤ p.length ∧ p.length ≤ 16 := by
  have key : ∀ n, n ≤ rs.length → ∀ p ∈ pcs z (rs.take n), 1 ≤ p.length ∧ p.length ≤ 16 := fun n => by
    induction n with
    | zero =>
      intro _ p hp
      have hp2 : p ∈ sgs z ++ [] := hp
      rw [List.append_nil] at hp2
      obtain ⟨c, _, rfl⟩ := List.mem_map.mp hp2
      exact ⟨Nat.le_refl _, by rw [sgn_len]; omega⟩
    | succ n ih =>
      intro hn p hp
      have hx : rs[n]? = some rs[n] := List.getElem?_eq_getElem (by omega)
      rw [List.take_add_one, hx] at hp
      have hp2 : p ∈ pcs z (rs.take n ++ [rs[n]]) := hp
      rw [pcs_snoc] at hp2
      rcases List.mem_append.mp hp2 with hp3 | hp3
      · exact ih (by omega) p hp3
      · rw [List.mem_singleton] at hp3
        rw [hp3]
        have o := T.rows n _ hx
        have := (ih (by omega) _ o.lm).1
        refine ⟨?_, o.len⟩
        show 1 ≤ (rs[n].1 ++ rs[n].2).length
        rw [app_len]
        omega
  have := key rs.length (Nat.le_refl _) p
  rw [List.take_length] at this
  exact this h
/-! ### a list of rows in the heap -/
def TupAt (H : Hp) (a : Addr) (r : Str × Str) : Prop := H a = some (.tup [.str r.1, .str r.2])
def RowsAt (H : Hp) (l : Addr) (rs : Rws) : Prop := ∃ as : List Addr, H l = some (.lst (as.map V.ref)) ∧ Paired (TupAt H) as rs
theorem TupAt.same {H H' : Hp} (s : Same H H') {as : List Addr} {rs : Rws} (h : Paired (TupAt H) as rs) : Paired (TupAt H') as rs := L2.Paired.mapP h fun _ _ q => s _ _ q
theorem RowsAt.same {H H' : Hp} {l : Addr} {rs : Rws} (h : RowsAt H l rs) (s : Same H H') : RowsAt H' l rs := by
  obtain ⟨as, e, p⟩ := h
  exact ⟨as, s _ _ e, TupAt.same s p⟩
theorem inV_str (x : Str) (ps : List Str) : inV (.str x) (ps.map V.str) = decide (x ∈ ps) := by
  unfold inV
  rw [List.any_map]
  have e : ((fun y => eqV y (V.str x)) ∘ V.str) = fun y : Str => y == x := by
    funext y
    show eqV (V.str y) (V.str x) = (y == x)
    rfl
  rw [e]
  by_cases h : x ∈ ps
  · rw [decide_eq_true h]
    exact List.any_eq_true.mpr ⟨x, h, by simp⟩
  · rw [decide_eq_false h]
    rw [List.any_eq_false]
    intro y hy
    simp only [beq_iff_eq]
    exact fun e => h (e ▸ hy)
theorem flat_str (ps : List Str) : (ps.map V.str).all flatV = true := by
  rw [List.all_map]
  exact List.all_eq_true.mpr fun _ _ => rfl
end Jr
namespace Jr
open PySem PySem.Spec PyProof.Rows L2
/-! ### what a table holds -/
def numD : Nat → List Str → List (Key × V)
  | _, [] => []
  | i, p :: ps => (Sum.inr p, V.int (i : Nat)) :: numD (i + 1) ps
def rankD : Nat → Rws → List (List Key × V)
  | _, [] => []
  | i, r :: rs => ([Sum.inr r.1, Sum.inr r.2], V.int (i : Nat)) :: rankD (i + 1) rs
theorem numD_len : ∀ (i : Nat) (ps : List Str), (numD i ps).length = ps.length
  | _, [] => rfl
  | i, p :: ps => by show (numD (i + 1) ps).length + 1 = _; rw [numD_len (i + 1) ps]; rfl
theorem rankD_len : ∀ (i : Nat) (rs : Rws), (rankD i rs).length = rs.length
  | _, [] => rfl
  | i, r :: rs => by show (rankD (i + 1) rs).length + 1 = _; rw [rankD_len (i + 1) rs]; rfl
theorem numD_snoc : ∀ (i : Nat) (ps : List Str) (p : Str), numD i (ps ++ [p]) = numD i ps ++ [(Sum.inr p, V.int ((i + ps.length : Nat)))]
  | i, [], p => rfl
  | i, q :: ps, p => by
    show _ :: numD (i + 1) (ps ++ [p]) = _ :: (numD (i + 1) ps ++ _)
    rw [numD_snoc (i + 1) ps p, List.length_cons, show i + 1 + ps.length = i + (ps.length + 1) by omega]
theorem rankD_snoc : ∀ (i : Nat) (rs : Rws) (r : Str × Str), rankD i (rs ++ [r]) = rankD i rs ++ [([Sum.inr r.1, Sum.inr r.2], V.int ((i + rs.length : Nat)))]
  | i, [], r => rfl
  | i, q :: rs, r => by
    show _ :: rankD (i + 1) (rs ++ [r]) = _ :: (rankD (i + 1) rs ++ _)
    rw [rankD_snoc (i + 1) rs r, List.length_cons, show i + 1 + rs.length = i + (rs.length + 1) by omega]
theorem numD_none : ∀ (i : Nat) (ps : List Str) (p : Str), ¬ p ∈ ps → valV (numD i ps) (Sum.inr p) = none
  | _, [], _, _ => rfl
  | i, q :: ps, p, h => by
    have hq : ¬ (Sum.inr q : Key) = Sum.inr p := fun e => h (by rw [Sum.inr.inj e]; exact List.mem_cons_self)
    exact (valV_neg (p := (Sum.inr q, V.int (i : Nat))) hq).trans (numD_none (i + 1) ps p fun z => h (List.mem_cons_of_mem _ z))
theorem numD_at : ∀ (i : Nat) (ps : List Str) (p : Str) (j : Nat), ps.Nodup → ps[j]? = some p → valV (numD i ps) (Sum.inr p) = some (V.int ((i + j : Nat)))
  | _, [], _, _, _, h => by simp at h
  | i, q :: ps, p, 0, _, h => by
    have e : q = p := Option.some.inj h
    rw [e]
    exact valV_pos (p := ((Sum.inr p : Key), V.int (i : Nat))) rfl
  | i, q :: ps, p, j + 1, nd, h => by
    have nd' := List.nodup_cons.mp nd
    have hm : p ∈ ps := List.mem_of_getElem? (show ps[j]? = some p from h)
    have hq : ¬ (Sum.inr q : Key) = Sum.inr p := fun e => nd'.1 (by rw [Sum.inr.inj e]; exact hm)
    refine (valV_neg (p := (Sum.inr q, V.int (i : Nat))) hq).trans ?_
    rw [numD_at (i + 1) ps p j nd'.2 h, show i + 1 + j = i + (j + 1) by omega]
theorem rankD_none : ∀ (i : Nat) (rs : Rws) (l r : Str), ¬ (l, r) ∈ rs → valV (rankD i rs) [Sum.inr l, Sum.inr r] = none
  | _, [], _, _, _ => rfl
  | i, q :: rs, l, r, h => by
    have hq : ¬ ([Sum.inr q.1, Sum.inr q.2] : List Key) = [Sum.inr l, Sum.inr r] := fun e => h (by
      have e1 := (List.cons.inj e).1
      have e2 := (List.cons.inj (List.cons.inj e).2).1
      have e3 : q = (l, r) := Prod.ext (Sum.inr.inj e1) (Sum.inr.inj e2)
      rw [e3]; exact List.mem_cons_self)
    exact (valV_neg (p := (([Sum.inr q.1, Sum.inr q.2] : List Key), V.int (i : Nat))) hq).trans (rankD_none (i + 1) rs l r fun z => h (List.mem_cons_of_mem _ z))
theorem rankD_at : ∀ (i : Nat) (rs : Rws) (r : Str × Str) (j : Nat), rs.Nodup → rs[j]? = some r → valV (rankD i rs) [Sum.inr r.1, Sum.inr r.2] = some (V.int ((i + j : Nat)))
  | _, [], _, _, _, h => by simp at h
  | i, q :: rs, r, 0, _, h => by
    have e : q = r := Option.some.inj h
    rw [e]
    exact valV_pos (p := (([Sum.inr r.1, Sum.inr r.2] : List Key), V.int (i : Nat))) rfl
  | i, q :: rs, r, j + 1, nd, h => by
    have nd' := List.nodup_cons.mp nd
    have hm : r ∈ rs := List.mem_of_getElem? (show rs[j]? = some r from h)
    have hq : ¬ ([Sum.inr q.1, Sum.inr q.2] : List Key) = [Sum.inr r.1, Sum.inr r.2] := fun e => nd'.1 (by
      have e1 := (List.cons.inj e).1
      have e2 := (List.cons.inj (List.cons.inj e).2).1
      have e3 : q = r := Prod.ext (Sum.inr.inj e1) (Sum.inr.inj e2)
      rw [e3]; exact hm)
    refine (valV_neg (p := (([Sum.inr q.1, Sum.inr q.2] : List Key), V.int (i : Nat))) hq).trans ?_
    rw [rankD_at (i + 1) rs r j nd'.2 h, show i + 1 + j = i + (j + 1) by omega]
theorem TabOk.rnodup {z : Str} {rs : Rws} (T : TabOk z rs) : rs.Nodup := by
  have h := (List.nodup_append.mp T.nodup).2.1
  have key : ∀ l : Rws, (l.map jn).Nodup → l.Nodup := fun l => by
    induction l with
    | nil => intro _; exact List.nodup_nil
    | cons x l ih =>
      intro hn
      have h2 := List.nodup_cons.mp hn
      exact List.nodup_cons.mpr ⟨fun hx => h2.1 (List.mem_map.mpr ⟨x, hx, rfl⟩), ih h2.2⟩
  exact key rs h
def tf5 (z : Str) (lr lp dn dr : Addr) : List (Str × V) := [("sign_text", .str z), ("row_list", .ref lr), ("piece_list", .ref lp), ("number_by_piece", .ref dn), ("rank_by_row", .ref dr)]
def tf6 (z : Str) (lr lp dn dr : Addr) (m : Int) : List (Str × V) := [("sign_text", .str z), ("row_list", .ref lr), ("piece_list", .ref lp), ("number_by_piece", .ref dn), ("rank_by_row", .ref dr), ("most_signs", .int m)]
/-- a made table -/
structure TabAt (C : Addr) (H : Hp) (x : Addr) (z : Str) (rs : Rws) : Prop where
  ex : ∃ (dx lr lp dn dr : Addr) (m : Nat), H x = some (.ins C dx (tf6 z lr lp dn dr (m : Int))) ∧ RowsAt H lr rs ∧ H lp = some (.lst ((pcs z rs).map V.str)) ∧ H dn = some (.dK (numD 0 (pcs z rs))) ∧ H dr = some (.dT (rankD 0 rs)) ∧
    (∃ p ∈ pcs z rs, p.length = m) ∧ ∀ p ∈ pcs z rs, p.length ≤ m
  ok : TabOk z rs
theorem TabAt.same {C : Addr} {H H' : Hp} {x : Addr} {z : Str} {rs : Rws} (T : TabAt C H x z rs) (s : Same H H') : TabAt C H' x z rs := by
  obtain ⟨dx, lr, lp, dn, dr, m, h1, h2, h3, h4, h5, h6⟩ := T.ex
  exact ⟨⟨dx, lr, lp, dn, dr, m, s _ _ h1, h2.same s, s _ _ h3, s _ _ h4, s _ _ h5, h6⟩, T.ok⟩
section
variable (z : Str) (lr lp dn dr : Addr) (m : Int)
theorem l5_num : (tf5 z lr lp dn dr).lookup ("number_by_piece" : Str) = some (V.ref dn) := by kernel_rfl
theorem l5_pl : (tf5 z lr lp dn dr).lookup ("piece_list" : Str) = some (V.ref lp) := by kernel_rfl
theorem l5_rl : (tf5 z lr lp dn dr).lookup ("row_list" : Str) = some (V.ref lr) := by kernel_rfl
theorem l5_rk : (tf5 z lr lp dn dr).lookup ("rank_by_row" : Str) = some (V.ref dr) := by kernel_rfl
theorem l5_which : (tf5 z lr lp dn dr).lookup ("which" : Str) = none := by kernel_rfl
theorem l5_tp : (tf5 z lr lp dn dr).lookup ("take_piece" : Str) = none := by kernel_rfl
theorem l5_tr : (tf5 z lr lp dn dr).lookup ("take_row" : Str) = none := by kernel_rfl
theorem l5_mt : (tf5 z lr lp dn dr).lookup ("may_take_row" : Str) = none := by kernel_rfl
theorem l5_most : putF "most_signs" (.int m) (tf5 z lr lp dn dr) = tf6 z lr lp dn dr m := by kernel_rfl
theorem l5_put : putF "rank_by_row" (.ref dr) (putF "number_by_piece" (.ref dn) (putF "piece_list" (.ref lp) (putF "row_list" (.ref lr) (putF "sign_text" (.str z) [])))) = tf5 z lr lp dn dr := by kernel_rfl
theorem l6_st : (tf6 z lr lp dn dr m).lookup ("sign_text" : Str) = some (V.str z) := by kernel_rfl
theorem l6_num : (tf6 z lr lp dn dr m).lookup ("number_by_piece" : Str) = some (V.ref dn) := by kernel_rfl
theorem l6_pl : (tf6 z lr lp dn dr m).lookup ("piece_list" : Str) = some (V.ref lp) := by kernel_rfl
theorem l6_rl : (tf6 z lr lp dn dr m).lookup ("row_list" : Str) = some (V.ref lr) := by kernel_rfl
theorem l6_rk : (tf6 z lr lp dn dr m).lookup ("rank_by_row" : Str) = some (V.ref dr) := by kernel_rfl
theorem l6_ms : (tf6 z lr lp dn dr m).lookup ("most_signs" : Str) = some (V.int m) := by kernel_rfl
theorem l6_mw : (tf6 z lr lp dn dr m).lookup ("which" : Str) = none := by kernel_rfl
theorem l6_ms_ : (tf6 z lr lp dn dr m).lookup ("signs" : Str) = none := by kernel_rfl
theorem l6_mr : (tf6 z lr lp dn dr m).lookup ("rows" : Str) = none := by kernel_rfl
theorem l6_mp : (tf6 z lr lp dn dr m).lookup ("pieces" : Str) = none := by kernel_rfl
theorem l6_mp1 : (tf6 z lr lp dn dr m).lookup ("piece" : Str) = none := by kernel_rfl
theorem l6_mpa : (tf6 z lr lp dn dr m).lookup ("parts" : Str) = none := by kernel_rfl
theorem l6_mrk : (tf6 z lr lp dn dr m).lookup ("rank" : Str) = none := by kernel_rfl
theorem l6_ml : (tf6 z lr lp dn dr m).lookup ("longest" : Str) = none := by kernel_rfl
end
/-- no text -/
def NoStr (K : PySem.W.Frag) (H : Hp) (v : V) : Prop := ∃ t, TyX K H v t ∧ PySem.W.kitOne K t (.type "str") = some false
theorem isStr {K : PySem.W.Frag} : PySem.W.kitOne K (.type "str") (.type "str") = some true := kit_ty (by decide +kernel)
theorem isLst {K : PySem.W.Frag} : PySem.W.kitOne K (.type "list") (.type "list") = some true := kit_ty (by decide +kernel)
theorem isTup {K : PySem.W.Frag} : PySem.W.kitOne K (.type "tuple") (.type "tuple") = some true := kit_ty (by decide +kernel)
end Jr
namespace Jr
open PySem PySem.Spec PyProof.Rows L2
/-! ### == of lists of texts, of ints, of rows -/
def dS (xs : List Str) : PyData := .list (xs.map PyData.str)
def dI (xs : List Int) : PyData := .list (xs.map PyData.int)
def dR (rs : Rws) : PyData := .list (rs.map fun r => PyData.tuple [.str r.1, .str r.2])
/-- a text of plain signs -/
def Asc (x : Str) : Prop := ∀ c ∈ x.cps.toList, c ≤ 126
theorem asc_ok {x : Str} (h : Asc x) : PyData.strOk x = true := by
  unfold PyData.strOk
  rw [← Array.all_toList, List.all_eq_true]
  intro c hc
  have := h c hc
  simp
  omega
theorem asc_app {a b : Str} (ha : Asc a) (hb : Asc b) : Asc (a ++ b) := fun c hc => by
  rw [app_cps] at hc
  rcases List.mem_append.mp hc with h | h
  · exact ha c h
  · exact hb c h
theorem asc_sgn {c : Nat} (h : c ≤ 126) : Asc (sgn c) := fun d hd => by
  have e : d = c := by simpa [sgn] using hd
  omega
theorem TabOk.asc {z : Str} {rs : Rws} (T : TabOk z rs) {p : Str} (h : p ∈ pcs z rs) : Asc p := by
  have key : ∀ n, n ≤ rs.length → ∀ p ∈ pcs z (rs.take n), Asc p := fun n => by
    induction n with
    | zero =>
      intro _ p hp
      have hp2 : p ∈ sgs z ++ [] := hp
      rw [List.append_nil] at hp2
      obtain ⟨c, hc, rfl⟩ := List.mem_map.mp hp2
      exact asc_sgn (T.sg.ok c hc).2.1
    | succ n ih =>
      intro hn p hp
      have hx : rs[n]? = some rs[n] := List.getElem?_eq_getElem (by omega)
      rw [List.take_add_one, hx] at hp
      have hp2 : p ∈ pcs z (rs.take n ++ [rs[n]]) := hp
      rw [pcs_snoc] at hp2
      rcases List.mem_append.mp hp2 with hp3 | hp3
      · exact ih (by omega) p hp3
      · rw [List.mem_singleton] at hp3
        rw [hp3]
        have o := T.rows n _ hx
        exact asc_app (ih (by omega) _ o.lm) (ih (by omega) _ o.rm)
  have := key rs.length (Nat.le_refl _) p
  rw [List.take_length] at this
  exact this h
theorem lay_strs : ∀ xs : List Str, (∀ x ∈ xs, Asc x) → PyData.canLayAll0 (xs.map PyData.str) = true
  | [], _ => by simp [PyData.canLayAll0]
  | x :: xs, h => by
    have h1 := asc_ok (h x List.mem_cons_self)
    have h2 := lay_strs xs fun y hy => h y (List.mem_cons_of_mem _ hy)
    simp [PyData.canLayAll0, PyData.canLay0, h1, h2]
theorem dep_strs : ∀ xs : List Str, PyData.depthAll (xs.map PyData.str) = 0
  | [] => by simp [PyData.depthAll]
  | x :: xs => by simp [PyData.depthAll, PyData.depth, dep_strs xs]
theorem shS {xs : List Str} (h : ∀ x ∈ xs, Asc x) : SeqAt.shaped (dS xs) = true := by
  unfold SeqAt.shaped dS
  have h1 : PyData.canLay0 (.list (xs.map PyData.str)) = true := by simp [PyData.canLay0, lay_strs xs h]
  have h2 : PyData.depth (.list (xs.map PyData.str)) = 1 := by simp [PyData.depth, dep_strs]
  rw [h1, h2]; rfl
theorem eqvA_strs : ∀ xs ys : List Str, PyData.eqvAll (xs.map PyData.str) (ys.map PyData.str) = decide (xs = ys)
  | [], [] => by simp [PyData.eqvAll]
  | [], y :: ys => by simp [PyData.eqvAll]
  | x :: xs, [] => by simp [PyData.eqvAll]
  | x :: xs, y :: ys => by
    have ih := eqvA_strs xs ys
    simp only [List.map_cons, PyData.eqvAll, PyData.eqv, ih]
    by_cases h : x = y
    · subst h; simp
    · simp [h]
theorem eqS (xs ys : List Str) : PyData.eqv (dS xs) (dS ys) = decide (xs = ys) := by
  unfold dS
  rw [PyData.eqv]
  exact eqvA_strs xs ys
theorem dpA_strs {K : PySem.W.Frag} {H : Hp} : ∀ xs : List Str, DpAll K H (xs.map V.str) (xs.map PyData.str)
  | [] => .nil
  | x :: xs => .cons (.str x) (dpA_strs xs)
theorem dpS {K : PySem.W.Frag} {H : Hp} {a : Addr} {xs : List Str} (h : SqL K H a (xs.map V.str)) : Dp K H (.ref a) (dS xs) := .lst h (dpA_strs xs)
theorem lay_ints : ∀ xs : List Int, PyData.canLayAll0 (xs.map PyData.int) = true
  | [] => by simp [PyData.canLayAll0]
  | x :: xs => by simp [PyData.canLayAll0, PyData.canLay0, lay_ints xs]
theorem dep_ints : ∀ xs : List Int, PyData.depthAll (xs.map PyData.int) = 0
  | [] => by simp [PyData.depthAll]
  | x :: xs => by simp [PyData.depthAll, PyData.depth, dep_ints xs]
theorem shI (xs : List Int) : SeqAt.shaped (dI xs) = true := by
  unfold SeqAt.shaped dI
  have h1 : PyData.canLay0 (.list (xs.map PyData.int)) = true := by simp [PyData.canLay0, lay_ints xs]
  have h2 : PyData.depth (.list (xs.map PyData.int)) = 1 := by simp [PyData.depth, dep_ints]
  rw [h1, h2]; rfl
theorem eqvA_ints : ∀ xs ys : List Int, PyData.eqvAll (xs.map PyData.int) (ys.map PyData.int) = decide (xs = ys)
  | [], [] => by simp [PyData.eqvAll]
  | [], y :: ys => by simp [PyData.eqvAll]
  | x :: xs, [] => by simp [PyData.eqvAll]
  | x :: xs, y :: ys => by
    have ih := eqvA_ints xs ys
    simp only [List.map_cons, PyData.eqvAll, PyData.eqv, ih]
    by_cases h : x = y
    · subst h; simp
    · simp [h]
theorem eqI (xs ys : List Int) : PyData.eqv (dI xs) (dI ys) = decide (xs = ys) := by
  unfold dI
  rw [PyData.eqv]
  exact eqvA_ints xs ys
theorem dpA_ints {K : PySem.W.Frag} {H : Hp} : ∀ xs : List Int, DpAll K H (xs.map V.int) (xs.map PyData.int)
  | [] => .nil
  | x :: xs => .cons (.int x) (dpA_ints xs)
theorem dpI {K : PySem.W.Frag} {H : Hp} {a : Addr} {xs : List Int} (h : SqL K H a (xs.map V.int)) : Dp K H (.ref a) (dI xs) := .lst h (dpA_ints xs)
theorem lay_rows : ∀ rs : Rws, (∀ r ∈ rs, Asc r.1 ∧ Asc r.2) → PyData.canLayAll0 (rs.map fun r => PyData.tuple [.str r.1, .str r.2]) = true
  | [], _ => by simp [PyData.canLayAll0]
  | r :: rs, h => by
    obtain ⟨h1, h2⟩ := h r List.mem_cons_self
    have h3 := lay_rows rs fun y hy => h y (List.mem_cons_of_mem _ hy)
    simp [PyData.canLayAll0, PyData.canLay0, asc_ok h1, asc_ok h2, h3]
theorem dep_rows : ∀ rs : Rws, PyData.depthAll (rs.map fun r => PyData.tuple [.str r.1, .str r.2]) ≤ 1
  | [] => by simp [PyData.depthAll]
  | r :: rs => by
    have := dep_rows rs
    simp only [List.map_cons, PyData.depthAll, PyData.depth]
    omega
theorem shR {rs : Rws} (h : ∀ r ∈ rs, Asc r.1 ∧ Asc r.2) : SeqAt.shaped (dR rs) = true := by
  unfold SeqAt.shaped dR
  have h1 : PyData.canLay0 (.list (rs.map fun r => PyData.tuple [.str r.1, .str r.2])) = true := by simp [PyData.canLay0, lay_rows rs h]
  have h2 : PyData.depth (.list (rs.map fun r => PyData.tuple [.str r.1, .str r.2])) ≤ 2 := by
    have := dep_rows rs
    simp only [PyData.depth]
    omega
  rw [h1, decide_eq_true (Nat.le_trans h2 (by decide))]; rfl
theorem eqvA_rows : ∀ xs ys : Rws, PyData.eqvAll (xs.map fun r => PyData.tuple [.str r.1, .str r.2]) (ys.map fun r => PyData.tuple [.str r.1, .str r.2]) = decide (xs = ys)
  | [], [] => by simp [PyData.eqvAll]
  | [], y :: ys => by simp [PyData.eqvAll]
  | x :: xs, [] => by simp [PyData.eqvAll]
  | x :: xs, y :: ys => by
    have ih := eqvA_rows xs ys
    simp only [List.map_cons, PyData.eqvAll, PyData.eqv, ih]
    obtain ⟨a, b⟩ := x
    obtain ⟨c, d⟩ := y
    by_cases h : a = c
    · subst h
      by_cases h2 : b = d
      · subst h2; simp
      · simp [h2]
    · simp [h]
theorem eqR (xs ys : Rws) : PyData.eqv (dR xs) (dR ys) = decide (xs = ys) := by
  unfold dR
  rw [PyData.eqv]
  exact eqvA_rows xs ys
theorem dpA_rows {K : PySem.W.Frag} {H : Hp} : ∀ {as : List Addr} {rs : Rws}, Paired (TupAt H) as rs → DpAll K H (as.map V.ref) (rs.map fun r => PyData.tuple [.str r.1, .str r.2])
  | _, _, .nil => .nil
  | _, _, .cons h q => .cons (.tup (SqT.of h) (.cons (.str _) (.cons (.str _) .nil))) (dpA_rows q)
theorem dpR {K : PySem.W.Frag} {H : Hp} {a : Addr} {rs : Rws} (h : RowsAt H a rs) : Dp K H (.ref a) (dR rs) := by
  obtain ⟨as, e, p⟩ := h
  exact .lst (SqL.of e) (dpA_rows p)
/-! ### the pass of a rank -/
def pass1 (l r : Str) : List Str → List Str
  | a :: b :: t => if a = l ∧ b = r then (l ++ r) :: pass1 l r t else a :: pass1 l r (b :: t)
  | t => t
/-- the places of the borders that fall; n signs stand ahead -/
def plc (l r : Str) : Nat → List Str → List Nat
  | n, a :: b :: t => if a = l ∧ b = r then (n + a.length) :: plc l r (n + a.length + b.length) t else plc l r (n + a.length) (b :: t)
  | _, _ => []
def passAll (rs : Rws) (xs : List Str) : List Str := rs.foldl (fun ys r => pass1 r.1 r.2 ys) xs
def sweep (rs : Rws) (t : Str) : List Str := passAll rs (sgs t)
theorem pass1_one (l r a : Str) : pass1 l r [a] = [a] := by unfold pass1; rfl
theorem pass1_nil (l r : Str) : pass1 l r [] = [] := by unfold pass1; rfl
theorem pass1_yes (l r : Str) (t : List Str) : pass1 l r (l :: r :: t) = (l ++ r) :: pass1 l r t := by
  rw [pass1]; exact if_pos ⟨rfl, rfl⟩
theorem pass1_no {l r a b : Str} (t : List Str) (h : ¬ (a = l ∧ b = r)) : pass1 l r (a :: b :: t) = a :: pass1 l r (b :: t) := by
  rw [pass1]; exact if_neg h
theorem pass1_mem (l r : Str) : ∀ (xs : List Str) (p : Str), p ∈ pass1 l r xs → p ∈ xs ∨ p = l ++ r
  | [], p, h => by rw [pass1_nil] at h; cases h
  | [a], p, h => by rw [pass1_one] at h; exact .inl h
  | a :: b :: t, p, h => by
    by_cases c : a = l ∧ b = r
    · obtain ⟨rfl, rfl⟩ := c
      rw [pass1_yes] at h
      rcases List.mem_cons.mp h with e | e
      · exact .inr e
      · rcases pass1_mem a b t p e with q | q
        · exact .inl (List.mem_cons_of_mem _ (List.mem_cons_of_mem _ q))
        · exact .inr q
    · rw [pass1_no t c] at h
      rcases List.mem_cons.mp h with e | e
      · exact .inl (e ▸ List.mem_cons_self)
      · rcases pass1_mem l r (b :: t) p e with q | q
        · exact .inl (List.mem_cons_of_mem _ q)
        · exact .inr q
termination_by xs => xs.length
theorem pass1_len (l r : Str) : ∀ xs : List Str, (pass1 l r xs).length ≤ xs.length
  | [] => by rw [pass1_nil]; exact Nat.le_refl _
  | [a] => by rw [pass1_one]; exact Nat.le_refl _
  | a :: b :: t => by
    by_cases c : a = l ∧ b = r
    · obtain ⟨rfl, rfl⟩ := c
      rw [pass1_yes]
      have := pass1_len a b t
      simp only [List.length_cons]
      omega
    · rw [pass1_no t c]
      have := pass1_len l r (b :: t)
      simp only [List.length_cons] at this ⊢
      omega
termination_by xs => xs.length
theorem plc_len (l r : Str) : ∀ (n : Nat) (xs : List Str), (plc l r n xs).length ≤ xs.length
  | n, [] => by unfold plc; exact Nat.zero_le _
  | n, [a] => by unfold plc; exact Nat.zero_le _
  | n, a :: b :: t => by
    rw [plc]
    by_cases c : a = l ∧ b = r
    · rw [if_pos c]
      have := plc_len l r (n + a.length + b.length) t
      simp only [List.length_cons]
      omega
    · rw [if_neg c]
      have := plc_len l r (n + a.length) (b :: t)
      simp only [List.length_cons] at this ⊢
      omega
termination_by _ xs => xs.length
end Jr
namespace Jr
open PySem PySem.Spec PyProof.Rows L2
/-! ### texts joined; passes keep the text -/
def flat (xs : List Str) : List Nat := xs.flatMap fun x => x.cps.toList
theorem joinL_nil : ∀ xs : List (List Nat), TL.joinL [] xs = xs.flatten
  | [] => rfl
  | [a] => by show a = _; simp
  | a :: b :: r => by
    show a ++ ([] ++ TL.joinL [] (b :: r)) = _
    rw [joinL_nil (b :: r)]
    simp
theorem join_cps (xs : List Str) : (Txt.join (Str.ofString "") xs).cps.toList = flat xs := by
  have e := TL.tl_join (Str.ofString "") xs
  rw [TL.join_eq]
  have e2 : TL.tl (Str.ofString "") = [] := by decide +kernel
  rw [e2, joinL_nil] at e
  refine Eq.trans e ?_
  unfold flat
  rw [List.flatMap_def]
theorem flat_sgs (t : Str) : flat (sgs t) = t.cps.toList := by
  unfold flat sgs
  rw [List.flatMap_map]
  have : ∀ l : List Nat, l.flatMap (fun c => (sgn c).cps.toList) = l := fun l => by
    induction l with
    | nil => rfl
    | cons c l ih => rw [List.flatMap_cons, ih]; rfl
  exact this _
theorem flat_cons (x : Str) (xs : List Str) : flat (x :: xs) = x.cps.toList ++ flat xs := List.flatMap_cons
theorem flat_app (xs ys : List Str) : flat (xs ++ ys) = flat xs ++ flat ys := List.flatMap_append
theorem pass1_flat (l r : Str) : ∀ xs : List Str, flat (pass1 l r xs) = flat xs
  | [] => by rw [pass1_nil]
  | [a] => by rw [pass1_one]
  | a :: b :: t => by
    by_cases c : a = l ∧ b = r
    · obtain ⟨rfl, rfl⟩ := c
      rw [pass1_yes, flat_cons, flat_cons, flat_cons, pass1_flat a b t, app_cps, List.append_assoc]
    · rw [pass1_no t c, flat_cons, flat_cons, pass1_flat l r (b :: t)]
termination_by xs => xs.length
theorem passAll_flat : ∀ (rs : Rws) (xs : List Str), flat (passAll rs xs) = flat xs
  | [], _ => rfl
  | r :: rs, xs => by
    show flat (passAll rs (pass1 r.1 r.2 xs)) = _
    rw [passAll_flat rs, pass1_flat]
theorem sweep_flat (rs : Rws) (t : Str) : flat (sweep rs t) = t.cps.toList := by
  unfold sweep
  rw [passAll_flat, flat_sgs]
theorem passAll_take {rs : Rws} {i : Nat} {r : Str × Str} (xs : List Str) (h : rs[i]? = some r) : passAll (rs.take (i + 1)) xs = pass1 r.1 r.2 (passAll (rs.take i) xs) := by
  unfold passAll
  rw [List.take_add_one, h]
  simp [List.foldl_append]
theorem passAll_len : ∀ (rs : Rws) (xs : List Str), (passAll rs xs).length ≤ xs.length
  | [], _ => Nat.le_refl _
  | r :: rs, xs => Nat.le_trans (passAll_len rs (pass1 r.1 r.2 xs)) (pass1_len ..)
theorem passAll_mem : ∀ (rs : Rws) (xs : List Str) (p : Str), p ∈ passAll rs xs → p ∈ xs ∨ ∃ r ∈ rs, p = jn r
  | [], _, _, h => .inl h
  | r :: rs, xs, p, h => by
    rcases passAll_mem rs (pass1 r.1 r.2 xs) p h with q | ⟨s, hs, e⟩
    · rcases pass1_mem r.1 r.2 xs p q with z | z
      · exact .inl z
      · exact .inr ⟨r, List.mem_cons_self, z⟩
    · exact .inr ⟨s, List.mem_cons_of_mem _ hs, e⟩
/-! ### the law's own pass: from the left, the last piece looked at -/
def stp (l r : Str) (f : List Str) (p : Str) : List Str := if p = r ∧ f.getLast? = some l then f.dropLast ++ [l ++ r] else f ++ [p]
theorem stp_cons {l r a : Str} {f : List Str} (p : Str) (h : f ≠ []) : stp l r (a :: f) p = a :: stp l r f p := by
  unfold stp
  have e : (a :: f).getLast? = f.getLast? := by
    cases f with
    | nil => exact absurd rfl h
    | cons b t => exact List.getLast?_cons_cons
  have e2 : (a :: f).dropLast = a :: f.dropLast := List.dropLast_cons_of_ne_nil h
  rw [e, e2]
  by_cases c : p = r ∧ f.getLast? = some l
  · rw [if_pos c, if_pos c]; rfl
  · rw [if_neg c, if_neg c]; rfl
theorem pass1_ne (l r : Str) : ∀ xs : List Str, xs ≠ [] → pass1 l r xs ≠ []
  | [], h => absurd rfl h
  | [a], _ => by rw [pass1_one]; simp
  | a :: b :: t, _ => by
    by_cases c : a = l ∧ b = r
    · obtain ⟨rfl, rfl⟩ := c
      rw [pass1_yes]; simp
    · rw [pass1_no t c]; simp
theorem app_ne {l r : Str} (h : 1 ≤ r.length) : ¬ l ++ r = l := fun e => by
  have := congrArg Str.length e
  rw [app_len] at this
  omega
theorem pass1_snoc {l r : Str} (hr : 1 ≤ r.length) : ∀ (xs : List Str) (p : Str), pass1 l r (xs ++ [p]) = stp l r (pass1 l r xs) p
  | [], p => by
    rw [pass1_nil, List.nil_append, pass1_one]
    unfold stp
    rw [if_neg (by simp)]
    rfl
  | [a], p => by
    rw [pass1_one]
    show pass1 l r [a, p] = _
    unfold stp
    by_cases c : a = l ∧ p = r
    · obtain ⟨rfl, rfl⟩ := c
      rw [pass1_yes, pass1_nil, if_pos ⟨rfl, rfl⟩]; rfl
    · rw [pass1_no [] c, pass1_one, if_neg (fun z => c ⟨Option.some.inj z.2, z.1⟩)]; rfl
  | a :: b :: t, p => by
    by_cases c : a = l ∧ b = r
    · obtain ⟨rfl, rfl⟩ := c
      show pass1 a b (a :: b :: (t ++ [p])) = _
      rw [pass1_yes, pass1_yes, pass1_snoc hr t p]
      by_cases e : t = []
      · subst e
        rw [pass1_nil]
        unfold stp
        rw [if_neg (by simp), if_neg (fun z => app_ne hr (Option.some.inj z.2))]; rfl
      · rw [stp_cons p (pass1_ne a b t e)]
    · show pass1 l r (a :: b :: (t ++ [p])) = _
      rw [pass1_no _ c, pass1_no _ c]
      have ih := pass1_snoc (l := l) hr (b :: t) p
      have ih2 : pass1 l r (b :: (t ++ [p])) = stp l r (pass1 l r (b :: t)) p := ih
      rw [ih2, stp_cons p (pass1_ne l r (b :: t) (by simp))]
termination_by xs => xs.length
theorem pass1_take {l r : Str} (hr : 1 ≤ r.length) {xs : List Str} {i : Nat} {p : Str} (h : xs[i]? = some p) : pass1 l r (xs.take (i + 1)) = stp l r (pass1 l r (xs.take i)) p := by
  rw [List.take_add_one, h]
  exact pass1_snoc hr _ _
end Jr
namespace Jr
open PySem PySem.Spec PyProof.Rows L2
/-- a text of the table's signs -/
def TextOf (z t : Str) : Prop := ∀ c ∈ t.cps.toList, c ∈ z.cps.toList
theorem sweep_in {z : Str} {rs : Rws} {t : Str} (tx : TextOf z t) {n : Nat} {p : Str} (h : p ∈ passAll (rs.take n) (sgs t)) : p ∈ pcs z rs := by
  rcases passAll_mem _ _ p h with q | ⟨r, hr, rfl⟩
  · obtain ⟨c, hc, rfl⟩ := List.mem_map.mp q
    exact List.mem_append_left _ (List.mem_map.mpr ⟨c, tx c hc, rfl⟩)
  · exact List.mem_append_right _ (List.mem_map.mpr ⟨r, List.mem_of_mem_take hr, rfl⟩)
theorem sweep_pc {z : Str} {rs : Rws} {t : Str} (tx : TextOf z t) {p : Str} (h : p ∈ sweep rs t) : p ∈ pcs z rs := by
  have h2 : p ∈ passAll (rs.take rs.length) (sgs t) := by rw [List.take_length]; exact h
  exact sweep_in tx h2
theorem at_last {α : Type} {xs : List α} {x : α} (h : xs.getLast? = some x) : atI xs (-1) = some x := by
  have hl : 0 < xs.length := by
    cases xs with
    | nil => cases h
    | cons a t => simp
  unfold atI ixN
  rw [if_neg (by omega), if_pos (by omega)]
  have e : ((-1 : Int) + (xs.length : Int)).toNat = xs.length - 1 := by omega
  rw [e]
  rw [List.getLast?_eq_getElem?] at h
  exact h
theorem ix_last {n : Nat} (h : 0 < n) : ixN n (-1) = some (n - 1) := by
  unfold ixN
  rw [if_neg (by omega), if_pos (by omega)]
  have e : ((-1 : Int) + (n : Int)).toNat = n - 1 := by omega
  rw [e]
theorem set_last {α : Type} (y : α) : ∀ xs : List α, xs ≠ [] → xs.set (xs.length - 1) y = xs.dropLast ++ [y]
  | [], h => absurd rfl h
  | [a], _ => rfl
  | a :: b :: t, _ => by
    have ih := set_last y (b :: t) (by simp)
    show a :: (b :: t).set ((b :: t).length - 1) y = a :: ((b :: t).dropLast ++ [y])
    rw [ih]
theorem rep_one {α : Type} (n : Nat) (x : α) : (List.replicate n [x]).flatten = List.replicate n x := by simp
theorem map_rep {α β : Type} (f : α → β) (n : Nat) (x : α) : (List.replicate n x).map f = List.replicate n (f x) := by simp
theorem text_app {z a b : Str} (ha : TextOf z a) (hb : TextOf z b) : TextOf z (a ++ b) := fun c hc => by
  rw [app_cps] at hc
  rcases List.mem_append.mp hc with h | h
  · exact ha c h
  · exact hb c h
theorem text_nil (z : Str) : TextOf z (Str.ofString "") := fun c hc => by
  have e : (Str.ofString "").cps.toList = [] := by decide +kernel
  rw [e] at hc; cases hc
theorem text_to {z t : Str} (h : TextOf z t) (n : Nat) : TextOf z (cutS t none (some (n : Int))) := fun c hc => by
  rw [cut_to] at hc; exact h c (List.mem_of_mem_take hc)
theorem text_from {z t : Str} (h : TextOf z t) (n : Nat) : TextOf z (cutS t (some (n : Int)) none) := fun c hc => by
  rw [cut_from] at hc; exact h c (List.mem_of_mem_drop hc)
theorem RowsAt.copy {H : Hp} {p q : Addr} {rs : Rws} {as : List Addr} (h : Paired (TupAt H) as rs) (hq : H q = none) : RowsAt (upd H q (.lst (as.map V.ref))) q rs := ⟨as, upd_same, TupAt.same (Same.new hq) h⟩
/-- texts that a sweeping tells are the text -/
theorem join_sweep (rs : Rws) (t : Str) : Txt.join (Str.ofString "") (sweep rs t) = t := str_ext (by rw [join_cps, sweep_flat])
theorem flat_len : ∀ xs : List Str, (xs.map (·.length)).sum = (flat xs).length
  | [] => rfl
  | x :: xs => by rw [List.map_cons, List.sum_cons, flat_cons, List.length_append, flat_len xs, len_cps]
theorem zip_fst {α β γ : Type} {F : α → β → Prop} (f : α → γ) : ∀ {l : List α} {m : List β}, Paired F l m → (l.zip m).map (fun x => f x.1) = l.map f
  | _, _, .nil => rfl
  | _, _, .cons _ q => by rw [List.zip_cons_cons, List.map_cons, List.map_cons, zip_fst f q]
theorem zip_snd {α β γ : Type} {F : α → β → Prop} (f : β → γ) : ∀ {l : List α} {m : List β}, Paired F l m → (l.zip m).map (fun x => f x.2) = m.map f
  | _, _, .nil => rfl
  | _, _, .cons _ q => by rw [List.zip_cons_cons, List.map_cons, List.map_cons, zip_snd f q]
theorem zip_mem {α β : Type} {F : α → β → Prop} : ∀ {l : List α} {m : List β}, Paired F l m → ∀ x ∈ l.zip m, F x.1 x.2 ∧ x.2 ∈ m
  | _, _, .nil, x, h => by cases h
  | _, _, .cons r q, x, h => by
    rw [List.zip_cons_cons] at h
    rcases List.mem_cons.mp h with e | e
    · rw [e]; exact ⟨r, List.mem_cons_self⟩
    · obtain ⟨a, b⟩ := zip_mem q x e
      exact ⟨a, List.mem_cons_of_mem _ b⟩
theorem TabOk.rlen {z : Str} {rs : Rws} (T : TabOk z rs) : ∀ r ∈ rs, r.1.length + r.2.length ≤ 1000 := fun r hr => by
  obtain ⟨i, hi, e⟩ := List.mem_iff_getElem.mp hr
  have o := T.rows i r (by rw [List.getElem?_eq_getElem hi, e])
  have := o.len
  have q : (jn r).length = r.1.length + r.2.length := app_len _ _
  omega
def spLaw (K : PySem.W.Frag) : Sp := fun vs H Q _ => ∃ (a : Addr) (ns : List Int), vs = [.ref a] ∧ SqL K H a (ns.map V.int) ∧ ns.length ≤ 63 ∧ ∀ H', Q (.bl true) H'
theorem mod_at {α : Type} (f : α → V) (xs : List α) (h : 0 < xs.length) (d : Int) : ∃ x ∈ xs, atI (xs.map f) (d % ((xs.map f).length : Nat)) = some (f x) := by
  have h0 := Int.emod_nonneg d (show (((xs.map f).length : Nat) : Int) ≠ 0 by rw [List.length_map]; omega)
  have h1 := Int.emod_lt_of_pos d (show (0 : Int) < ((xs.map f).length : Nat) by rw [List.length_map]; omega)
  obtain ⟨m, hm⟩ := Int.eq_ofNat_of_zero_le h0
  rw [hm]
  rw [hm, List.length_map] at h1
  have hm2 : m < xs.length := by omega
  exact ⟨xs[m], List.getElem_mem hm2, atm (List.getElem?_eq_getElem hm2)⟩
end Jr
namespace Jr
open PySem PySem.Spec PyProof.Rows L2
/-! ### new objects, told by Same: nothing of the heap but what is known stays in a question -/
section
variable {X : Cx}
theorem pe_mono {e : Expr} {t t' : TE} (h : PE X e t) (m : ∀ σ H Q, t' σ H Q → t σ H Q) : PE X e t' := ⟨fun pins s σ H Q I q => h.run pins s σ H Q I (m σ H Q q)⟩
theorem ps_mono {e : Stmt} {t t' : TS} (h : PS X e t) (m : ∀ D σ H, t' D σ H → t D σ H) : PS X e t' := ⟨fun pins s σ H D I q => h.run pins s σ H D I (m D σ H q)⟩
theorem op_mono {f : Value → Value → Sem Value} {r r' : R2} (h : OpR X f r) (m : ∀ x y H Q, r' x y H Q → r x y H Q) : OpR X f r' := fun pins s σ H x y v u Q I rx ry q => h pins s σ H x y v u Q I rx ry (m x y H Q q)
theorem call_mono {f : Value} {r r' : List V → Hp → VK → Prop} (h : CallR X f r) (m : ∀ x H Q, r' x H Q → r x H Q) : CallR X f r' := fun pins s σ H x v Q I rx q => h pins s σ H x v Q I rx (m x H Q q)
theorem sl_mono {r r' : V → Option Int → Option Int → Hp → VK → Prop} (h : SlR X r) (m : ∀ x lo hi H Q, r' x lo hi H Q → r x lo hi H Q) : SlR X r' :=
  fun pins s σ H x v vl vu lo hi sl Q I rx hs pl pu q => h pins s σ H x v vl vu lo hi sl Q I rx hs pl pu (m x lo hi H Q q)
/-- a new object -/
def New (H : Hp) (o : HO) (Q : VK) : Prop := ∀ p H', H p = none → Same H H' → H' p = some o → Q (.ref p) H'
theorem New.of {H : Hp} {o : HO} {Q : VK} (h : New H o Q) : ∀ p, H p = none → Q (.ref p) (upd H p o) := fun p hp => h p _ hp (Same.new hp) upd_same
/-- arguments, what follows weakened -/
def clA (t : TA) : TA := fun σ H Q => ∃ Q', (∀ vs H, Q' vs H → Q vs H) ∧ t σ H Q'
def clE (t : TE) : TE := fun σ H Q => ∃ Q', (∀ v H, Q' v H → Q v H) ∧ t σ H Q'
theorem pa_cl {es : List Expr} {t : TA} (h : PA X es t) : PA X es (clA t) := ⟨fun pos pins s σ H Q I ⟨Q', m, q⟩ => thn (h.run pos pins s σ H Q' I q) fun _ _ ⟨vs, H', I', r, z⟩ => ⟨vs, H', I', r, m _ _ z⟩⟩
theorem pe_cl {e : Expr} {t : TE} (h : PE X e t) : PE X e (clE t) := ⟨fun pins s σ H Q I ⟨Q', m, q⟩ => thn (h.run pins s σ H Q' I q) fun _ _ ⟨v, H', I', r, z⟩ => ⟨v, H', I', r, m _ _ z⟩⟩
/-- a test, its answer told ahead -/
def clT (t : TT) : TT := fun σ H Q => ∃ Q' : Bool → Hp → Prop, t σ H Q' ∧ ∀ b H, Q' b H → Q b H
theorem pt_cl {e : Expr} {t : TT} (h : PT X e t) : PT X e (clT t) := ⟨fun pins s σ H Q I ⟨Q', q, m⟩ => thn (h.run pins s σ H Q' I q) fun _ _ ⟨H', I', z⟩ => ⟨H', I', m _ _ z⟩⟩
def tLstG (t : TA) : TE := fun σ H Q => t σ H fun xs H1 => xs.length ≤ sizeLine ∧ New H1 (.lst xs) Q
def tTupG (t : TA) : TE := fun σ H Q => t σ H fun xs H1 => xs.length ≤ sizeLine ∧ New H1 (.tup xs) Q
theorem pe_lstG {es : List Expr} {t : TA} {pos : Pos} (h : PA X es t) : PE X (.List es pos) (tLstG t) := pe_mono (pe_lst (pa_cl h)) fun _ _ _ q => ⟨_, fun _ _ ⟨z, n⟩ => ⟨z, n.of⟩, q⟩
theorem pe_tupG {es : List Expr} {t : TA} {pos : Pos} {x1} (h : PA X es t) : PE X (.Tuple es x1 pos) (tTupG t) := pe_mono (pe_tup (pa_cl h)) fun _ _ _ q => ⟨_, fun _ _ ⟨z, n⟩ => ⟨z, n.of⟩, q⟩
def rCatG (K : PySem.W.Frag) : R2 := fun x y H Q => ∃ l b xs zs, x = .ref l ∧ y = .ref b ∧ SqL K H l xs ∧ SqL K H b zs ∧ xs.length + zs.length ≤ sizeLine ∧ New H (.lst (xs ++ zs)) Q
theorem op_catG : OpR X (binaryOp .Add) (rCatG X.K) := op_mono op_catL fun _ _ _ _ ⟨l, b, xs, zs, e1, e2, h1, h2, z, n⟩ => ⟨l, b, xs, zs, e1, e2, h1, h2, z, n.of⟩
theorem sl_listG : SlR X (fun x lo hi H Q => ∃ a xs, x = .ref a ∧ SqL X.K H a xs ∧ New H (.lst (cutV xs lo hi)) Q) := sl_mono sl_list fun _ _ _ _ _ ⟨a, xs, e, h, n⟩ => ⟨a, xs, e, h, n.of⟩
theorem call_listG : CallR X (.type "list") (fun xs H Q => ∃ p ys, xs = [.ref p] ∧ (SqL X.K H p ys ∨ SqT X.K H p ys) ∧ New H (.lst ys) Q) := call_mono call_list_of fun _ _ _ ⟨p, ys, e, h, n⟩ => ⟨p, ys, e, h, n.of⟩
theorem call_listSG (hc : X.calm = true) : CallR X (.type "list") (fun xs H Q => ∃ z : Str, xs = [.str z] ∧ z.length ≤ sizeLine ∧ New H (.lst ((sgs z).map V.str)) Q) := call_mono (call_list_str hc) fun _ _ _ ⟨z, e, h, n⟩ => ⟨z, e, h, n.of⟩
theorem op_catGK {K : PySem.W.Frag} (h : X.K = K := by rfl) : OpR X (binaryOp .Add) (rCatG K) := by subst h; exact op_catG
theorem sl_listGK {K : PySem.W.Frag} (h : X.K = K := by rfl) : SlR X (fun x lo hi H Q => ∃ a xs, x = .ref a ∧ SqL K H a xs ∧ New H (.lst (cutV xs lo hi)) Q) := by subst h; exact sl_listG
theorem call_listGK {K : PySem.W.Frag} (h : X.K = K := by rfl) : CallR X (.type "list") (fun xs H Q => ∃ p ys, xs = [.ref p] ∧ (SqL K H p ys ∨ SqT K H p ys) ∧ New H (.lst ys) Q) := by subst h; exact call_listG
theorem op_repG : OpR X (binaryOp .Mult) (fun x y H Q => ∃ l k xs, x = .ref l ∧ y = .int k ∧ H l = some (.lst xs) ∧ -(2 ^ 63) ≤ k ∧ k < 2 ^ 63 ∧ xs.length * k.toNat ≤ sizeLine ∧ New H (.lst (List.replicate k.toNat xs).flatten) Q) :=
  op_mono op_rep fun _ _ _ _ ⟨l, k, xs, e1, e2, h, a, b, c, n⟩ => ⟨l, k, xs, e1, e2, h, a, b, c, n.of⟩
/-! ### a written list of ints -/
def tInts (ns : List Int) : TE := fun _ H Q => New H (.lst (ns.map V.int)) Q
theorem pe_litI {e : Expr} {t : TA} {ns : List Int} (h : PE X e (tLst t)) (ht : ∀ σ H Q, t σ H Q = Q (ns.map V.int) H) (hl : ns.length ≤ 1000) : PE X e (tInts ns) := pe_mono h fun σ H Q n => by
  show t σ H _
  rw [ht]
  exact ⟨by rw [List.length_map]; exact sz (by omega), n.of⟩
theorem pe_catI {a b : Expr} {ms ns : List Int} {pos : Pos} (ha : PE X a (tInts ms)) (hb : PE X b (tInts ns)) (hl : ms.length + ns.length ≤ 1000) : PE X (.BinOp a .Add b pos) (tInts (ms ++ ns)) :=
  pe_mono (pe_op op_catG ha hb) fun _ _ _ n p H1 np s1 h1 q H2 nq s2 h2 =>
    ⟨p, q, _, _, rfl, rfl, SqL.of (s2 _ _ h1), SqL.of h2, by rw [List.length_map, List.length_map]; exact sz (by omega), fun r H3 nr s3 h3 =>
      n r H3 (s1.free (s2.free nr)) ((s1.trans s2).trans s3) (by rw [h3, List.map_append])⟩
theorem pe_repI {a b : Expr} {ms : List Int} {k : Nat} {pos : Pos} (ha : PE X a (tInts ms)) (hb : PE X b (tC (.int (k : Int)))) (hl : ms.length * k ≤ 1000) (hk : k ≤ 1000) : PE X (.BinOp a .Mult b pos) (tInts (List.replicate k ms).flatten) :=
  pe_mono (pe_op op_rep ha hb) fun _ _ _ n p H1 np s1 h1 => by
    refine ⟨p, _, _, rfl, rfl, h1, ?_, ?_, ?_, fun q nq => n q _ (s1.free nq) (s1.trans (Same.new nq)) ?_⟩
    · omega
    · omega
    · rw [List.length_map, Int.toNat_natCast]; exact sz (by omega)
    · rw [upd_same, Int.toNat_natCast]
      congr 2
      rw [List.map_flatten, List.map_replicate]
theorem pe_intsAs {e : Expr} {ms ns : List Int} (h : PE X e (tInts ms)) (q : ms = ns) : PE X e (tInts ns) := q ▸ h
end
end Jr
namespace Jr
open PySem PySem.Spec PyProof.Rows L2
/-! ### calls of defs, methods, classes that may raise -/
section
variable {X : Cx} {k : Nat} {x : Str} {sp : Sp} {e : Expr} {es : List Expr} {t : TA} {p pos apos : Pos} {C : Addr} {m : Str} {o : Expr} {ta : TE} {W : WX}
theorem pe_calX (F : Cal X.prog X.w X.K X.mg X.base (L2.CX X.prog X.w) k x sp) (hr : Room k X.A) (hg : Gl X x) (tk : Takes X W) (ha : PA X (e :: es) t) (hdb : (x == ("__debug__" : Str)) = false := by decide)
    (he : starEach (e :: es) X.env = (false, eval e X.env) :: starEach es X.env := by rfl) (hpl : (backTo pos (starEach es X.env)).any (·.1) = false := by rfl) :
    PE X (.Call (.Name x p) (e :: es) [] pos) (fun σ H Q => t σ H fun vs H1 => sp vs H1 Q (WE W σ)) := by
  obtain ⟨f, fd, ps, G, gm, kp, b⟩ := F.ex
  exact pe_callS G hr hg gm kp b (fun σ => passAt tk σ) ha hdb he hpl
theorem pe_calL (F : Cal X.prog X.w X.K X.mg X.base (L2.CX X.prog X.w) k x sp) (hr : Room k X.A) (hg : Gl X x) (ha : PA X (e :: es) t) (hdb : (x == ("__debug__" : Str)) = false := by decide)
    (he : starEach (e :: es) X.env = (false, eval e X.env) :: starEach es X.env := by rfl) (hpl : (backTo pos (starEach es X.env)).any (·.1) = false := by rfl) :
    PE X (.Call (.Name x p) (e :: es) [] pos) (fun σ H Q => t σ H fun vs H1 => sp vs H1 Q E0) := by
  obtain ⟨f, fd, ps, G, gm, kp, b⟩ := F.ex
  have z := pe_call (p := p) (pos := pos) (es := es) G hr hg gm kp b .nil passL ha hdb he hpl
  refine ⟨fun pins s σ H Q I h => z.run pins s σ H Q I ?_⟩
  show t σ H fun vs H1 => sp (vs ++ []) H1 Q E0
  simpa only [List.append_nil] using h
theorem pe_metL {pl : Sem Bool} (F : Met X.prog X.w X.K X.mg X.base (L2.CX X.prog X.w) k C m sp) (ho : PE X o ta) (hr : Room k X.A) (ha : PA X (e :: es) t)
    (hc : eval (.Call (.Attribute o m apos) (e :: es) [] pos) X.env = (do
      let ov ← eval o X.env
      standAt apos.atName
      let (f, first) ← holding [ov] (getMethod ov m pl)
      callWith pos f first (backTo pos (starEach (e :: es) X.env)) (backToKw pos (keywordEach [] X.env))) := by rfl)
    (he : starEach (e :: es) X.env = (false, eval e X.env) :: starEach es X.env := by rfl) (hpl : (backTo pos (starEach es X.env)).any (·.1) = false := by rfl) :
    PE X (.Call (.Attribute o m apos) (e :: es) [] pos) (fun σ H Q => ta σ H fun x H1 => ∃ a dx fs, x = .ref a ∧ H1 a = some (.ins C dx fs) ∧ fs.lookup m = none ∧ t σ H1 fun vs H2 => sp (x :: vs) H2 Q E0) := by
  obtain ⟨f, fd, ps, G, mt, b⟩ := F.ex
  have z := pe_meth (apos := apos) (pos := pos) ho F.cl mt G hr b .nil passL ha he hpl hc
  refine ⟨fun pins s σ H Q I h => z.run pins s σ H Q I ?_⟩
  show ta σ H fun x H1 => ∃ a dx fs, x = .ref a ∧ H1 a = some (.ins C dx fs) ∧ fs.lookup m = none ∧ t σ H1 fun vs H2 => sp (x :: (vs ++ [])) H2 Q E0
  simpa only [List.append_nil] using h
theorem pe_metX {pl : Sem Bool} (F : Met X.prog X.w X.K X.mg X.base (L2.CX X.prog X.w) k C m sp) (ho : PE X o ta) (hr : Room k X.A) (tk : Takes X W) (ha : PA X (e :: es) t)
    (hc : eval (.Call (.Attribute o m apos) (e :: es) [] pos) X.env = (do
      let ov ← eval o X.env
      standAt apos.atName
      let (f, first) ← holding [ov] (getMethod ov m pl)
      callWith pos f first (backTo pos (starEach (e :: es) X.env)) (backToKw pos (keywordEach [] X.env))) := by rfl)
    (he : starEach (e :: es) X.env = (false, eval e X.env) :: starEach es X.env := by rfl) (hpl : (backTo pos (starEach es X.env)).any (·.1) = false := by rfl) :
    PE X (.Call (.Attribute o m apos) (e :: es) [] pos) (fun σ H Q => ta σ H fun x H1 => ∃ a dx fs, x = .ref a ∧ H1 a = some (.ins C dx fs) ∧ fs.lookup m = none ∧ t σ H1 fun vs H2 => sp (x :: vs) H2 Q (WE W σ)) := by
  obtain ⟨f, fd, ps, G, mt, b⟩ := F.ex
  constructor
  intro pins s σ H Q I h
  refine PySem.W.methodCall_KW (pl := pl) (thn (ho.run pins s σ H _ I h) ?_) hc
  rintro u s1 ⟨v, H1, I1, rv, a, dx, fs, ev, ea, hl, q⟩
  subst ev
  obtain rfl : u = Value.ref a := rv
  refine getmeth_ok I1 ea F.cl mt hl (PySem.W.callWith_K (first := [.ref a]) (h₀ := X.base) I1.ok.mod.kin mt.kp (thn (ha.run pos pins s1 σ H1 _ I1 q) ?_) he hpl)
  rintro us s2 ⟨vs, H2, I2, r, q2⟩
  exact ⟨I2.kIn, run_fnS (us := .ref a :: us) (vs := .ref a :: vs) (E := WE W) G hr b (passAt tk σ) I2 (.cons rfl r) q2⟩
/-- C(..) of an own class whose __init__ may raise -/
theorem pe_mkX (F : Mkc X.prog X.w X.K X.mg X.base (L2.CX X.prog X.w) k x C sp) (hr : Room (k + 1) X.A) (hg : Gl X x) (tk : Takes X W) (ha : PA X (e :: es) t) (hdb : (x == ("__debug__" : Str)) = false := by decide)
    (he : starEach (e :: es) X.env = (false, eval e X.env) :: starEach es X.env := by rfl) (hpl : (backTo pos (starEach es X.env)).any (·.1) = false := by rfl) :
    PE X (.Call (.Name x p) (e :: es) [] pos) (fun σ H Q => t σ H fun vs H1 => ∀ x dx, H1 x = none → H1 dx = none → dx ≠ x →
      sp (.ref x :: vs) (upd (upd H1 dx (.own x)) x (.ins C dx [])) (fun v H2 => v = .non ∧ Q (.ref x) H2) (WE W σ)) := by
  obtain ⟨f, fd, ps, G, mk, b⟩ := F.ex
  constructor
  intro pins s σ H Q I h
  refine wpAny_Call_Name_kw (ld_glob I hg F.g (PySem.W.callWith_K (h₀ := X.base) I.ok.mod.kin mk.kp (thn (ha.run pos pins s σ H _ I h) ?_) he hpl) hdb)
  rintro us s1 ⟨vs, H1, I1, r, q⟩
  refine ⟨I1.kIn, ?_⟩
  have hq := q (s1.heap.objs.size + 1) s1.heap.objs.size (I1.hok.fresh (Nat.le_succ _)) (I1.hok.fresh (Nat.le_refl _)) (Nat.ne_of_lt (Nat.lt_succ_self _))
  have I2 := Inv.made (C := C) I1
  have r2 : Vals (V.ref (s1.heap.objs.size + 1) :: vs) (Value.ref (s1.heap.objs.size + 1) :: us) := .cons rfl r
  have hl : (Value.ref (s1.heap.objs.size + 1) :: us).length = ps.length := by
    rw [← r2.length]
    exact G.len _ _ _ _ hq
  have bb := b { s1 with heap := _ } (Value.ref (s1.heap.objs.size + 1) :: us) I2.kIn (by rw [List.append_nil]; exact hl)
  rw [List.append_nil] at bb
  have G2 := G.run _ X.stack _ _ ⟨Value.ref (s1.heap.objs.size + 1) :: us, []⟩ (Value.ref (s1.heap.objs.size + 1) :: us) _ _ (WE W σ) (hr.make C us []) (I2.env0.make C us []) bb r2 hq
  refine wpAny_call (make_map (f := f) I1.kIn mk.makes mk.init (beq_iff_eq.mp mk.fn) (codeAny_mono G2 ?_))
  intro r' s' hq'
  cases r' with
  | error er => exact passAt tk σ pins _ _ er s' I2 hq'
  | ok fl =>
    cases fl with
    | ret u =>
      obtain ⟨v, H', I3, rv, ev, q3⟩ := I2.after hq'
      subst ev
      exact ⟨rv, ⟨V.ref (s1.heap.objs.size + 1), H', I3, rfl, q3⟩⟩
    | next => exact hq'.elim
    | brk => exact hq'.elim
    | cont => exact hq'.elim
theorem pe_mkL (F : Mkc X.prog X.w X.K X.mg X.base (L2.CX X.prog X.w) k x C sp) (hr : Room (k + 1) X.A) (hg : Gl X x) (ha : PA X (e :: es) t) (hdb : (x == ("__debug__" : Str)) = false := by decide)
    (he : starEach (e :: es) X.env = (false, eval e X.env) :: starEach es X.env := by rfl) (hpl : (backTo pos (starEach es X.env)).any (·.1) = false := by rfl) :
    PE X (.Call (.Name x p) (e :: es) [] pos) (fun σ H Q => t σ H fun vs H1 => ∀ x dx, H1 x = none → H1 dx = none → dx ≠ x →
      sp (.ref x :: vs) (upd (upd H1 dx (.own x)) x (.ins C dx [])) (fun v H2 => v = .non ∧ Q (.ref x) H2) E0) := by
  obtain ⟨f, fd, ps, G, mk, b⟩ := F.ex
  have z := pe_make (p := p) (pos := pos) (es := es) mk G hr hg F.g b .nil passL ha hdb he hpl
  refine ⟨fun pins s σ H Q I h => z.run pins s σ H Q I ?_⟩
  show t σ H fun vs H1 => ∀ x dx, H1 x = none → H1 dx = none → dx ≠ x → sp (.ref x :: (vs ++ [])) (upd (upd H1 dx (.own x)) x (.ins C dx [])) (fun v H2 => v = .non ∧ Q (.ref x) H2) E0
  simpa only [List.append_nil] using h
end
/-! ### a def read off its class: C.m(self, ..) -/
theorem vV (K : PySem.W.Frag) : PySem.W.findCls K (.type "ValueError") (.type "type") "__init__" = some (.val (.builtin "ValueError.__init__")) := by kernel_rfl
structure Cdf (P : Program) (w : World) (K : PySem.W.Frag) (mg : Str → Option Value) (base : Heap) (k : Nat) (x : Str) (C : Addr) (m : Str) (sp : Sp) : Prop where
  ex : ∃ (f : Addr) (fd : FuncData) (ps : List Str), FnOk P w K mg base CX0 k f fd ps sp ∧ PySem.W.readsIn K C (.type "type") = true ∧ PySem.W.specialIn K (.ref C) "__getattribute__" = some (some (.builtin "type.__getattribute__")) ∧
    PySem.W.findCls K (.ref C) (.type "type") m = some (.val (.ref f)) ∧ PySem.W.keepIn K (.ref f) = true ∧ Binds K fd ps []
  g : mg x = some (.ref C)
theorem pe_cdef {X : Cx} {k : Nat} {x m : Str} {C : Addr} {sp : Sp} {e : Expr} {es : List Expr} {t : TA} {p1 p2 pos : Pos} {pl : Sem Bool} (F : Cdf X.prog X.w X.K X.mg X.base k x C m sp) (hr : Room k X.A) (hg : Gl X x) (ha : PA X (e :: es) t)
    (hc : eval (.Call (.Attribute (.Name x p1) m p2) (e :: es) [] pos) X.env = (do
      let ov ← eval (.Name x p1) X.env
      standAt p2.atName
      let (f, first) ← holding [ov] (getMethod ov m pl)
      callWith pos f first (backTo pos (starEach (e :: es) X.env)) (backToKw pos (keywordEach [] X.env))) := by rfl)
    (hdb : (x == ("__debug__" : Str)) = false := by decide) (he : starEach (e :: es) X.env = (false, eval e X.env) :: starEach es X.env := by rfl) (hpl : (backTo pos (starEach es X.env)).any (·.1) = false := by rfl) :
    PE X (.Call (.Attribute (.Name x p1) m p2) (e :: es) [] pos) (fun σ H Q => t σ H fun vs H1 => sp vs H1 Q E0) := by
  obtain ⟨f, fd, ps, G, rd, ga, fc, kp, b⟩ := F.ex
  constructor
  intro pins s σ H Q I h
  refine PySem.W.methodCall_KW (pl := pl) (ld_glob I hg F.g (PySem.W.method_cls I.kIn ga (PySem.W.cls_value I.kIn rd fc rfl ?_)) hdb) hc
  refine PySem.W.callWith_K (first := []) (h₀ := X.base) I.ok.mod.kin kp (thn (ha.run pos pins _ σ H _ (I.tok _) h) ?_) he hpl
  rintro us s1 ⟨vs, H1, I1, r, q⟩
  exact ⟨I1.kIn, run_fn (us := us) G hr b .nil pass0 I1 r (by rw [List.append_nil]; exact q)⟩
/-! ### {x} of None, an int, a text -/
def Fmt (v : V) : Prop := v = .non ∨ (∃ i : Int, v = .int i ∧ i.natAbs.log2 < 1920) ∨ ∃ y : Str, v = .str y ∧ y.length ≤ 1000
def tFmtN (te : TE) : TE := fun σ H Q => te σ H fun x H1 => Fmt x ∧ ∀ y : Str, y.length ≤ 2000 → Q (.str y) H1
theorem pe_fmtN {X : Cx} {e : Expr} {te : TE} {pos : Pos} (he : PE X e te) : PE X (.FormattedValue e (-1) none pos) (tFmtN te) := by
  constructor
  intro pins s σ H Q I h
  refine wpAny_FormattedValue_plain (thn (he.run pins s σ H _ I h) ?_)
  rintro v s1 ⟨x, H1, I1, r1, fm, q⟩
  rcases fm with rfl | ⟨i, rfl, hz⟩ | ⟨y, rfl, hz⟩
  · cases r1
    exact wpAny_formatField_none ⟨.str "None", H1, I1.tok _, ⟨_, rfl⟩, q _ (by decide +kernel)⟩
  · obtain ⟨t, rfl⟩ := r1
    have l := int_text_length_le (k := 1920) (by decide) hz
    refine wpAny_formatField_int hz ⟨.str (Str.ofString (toString i)), H1, I1.tok _, ⟨_, rfl⟩, q _ ?_⟩
    rw [PySem.ofString_length]
    omega
  · obtain ⟨t, rfl⟩ := r1
    exact wpAny_formatField_str ⟨.str y, H1, I1, ⟨t, rfl⟩, q y (by omega)⟩ ⟨.str y, H1, I1.tok _, ⟨_, rfl⟩, q y (by omega)⟩ (sz (by omega))
/-! ### what the text says of an own exception class, as a Bool -/
def clsB (K : PySem.W.Frag) (C : Addr) : Bool := match K.lookup C with
  | some ⟨.type "type", _, .cls cd, sl⟩ => (match cd.mro, sl.toList with
    | .ref D :: bm, [_, _, _, _, some (.builtin n), _] => (D == C && n == "ValueError.__new__") && (!cd.hasDel && (cd.hasDict && PySem.HandSPX.refsVE bm))
    | _, _ => false)
  | _ => false
theorem clsB_ok {K : PySem.W.Frag} {C : Addr} (h : clsB K C = true) : ∃ nm q N bs bm sn sub ab col dd k0 k1 k2 k3 k5, K.lookup C = some (excClassObj nm q C N bs bm true sn sub ab col dd k0 k1 k2 k3 k5 "ValueError.__new__") ∧ PySem.HandSPX.refsVE bm = true := by
  unfold clsB at h
  split at h
  · rename_i dd cd sl ho
    split at h
    · rename_i D bm k0 k1 k2 k3 n k5 e1 e2
      rw [Bool.and_eq_true, Bool.and_eq_true, Bool.and_eq_true, Bool.and_eq_true, beq_iff_eq, beq_iff_eq, Bool.not_eq_true'] at h
      obtain ⟨⟨h1, h2⟩, h3, h4, h5⟩ := h
      subst h1 h2
      obtain ⟨nm, bs, mro, ns, qn, hd, sn, sub, ab, col, de⟩ := cd
      simp only at e1 h3 h4
      subst e1 h3 h4
      have e3 : sl = #[k0, k1, k2, k3, some (.builtin "ValueError.__new__"), k5] := by
        obtain ⟨l⟩ := sl
        simp only at e2
        rw [e2]
      subst e3
      exact ⟨nm, qn, ns, bs, bm, sn, sub, ab, col, dd, k0, k1, k2, k3, k5, ho, h5⟩
    · cases h
  · cases h
def fcB (K : PySem.W.Frag) (C f : Addr) : Bool := match PySem.W.findCls K (.ref C) (.type "type") "__init__" with
  | some (.val (.ref g)) => decide (g = f)
  | _ => false
theorem fcB_ok {K : PySem.W.Frag} {C f : Addr} (h : fcB K C f = true) : PySem.W.findCls K (.ref C) (.type "type") "__init__" = some (.val (.ref f)) := by
  unfold fcB at h
  split at h
  · rename_i g e
    rw [e, of_decide_eq_true h]
  · cases h
/-- all that is asked of a class -/
structure XcC (K : PySem.W.Frag) (C : Addr) : Prop where
  oex : OexC K C
  xf : XfC K C
  ic : (PySem.W.clsIn K C).isSome = true
  ca : PySem.W.findIn K (.ref C) "__class__" = some (some (.builtin "object.__class__"))
  cg : PySem.W.specialIn K (.builtin "object.__class__") "__get__" = some (some (.builtin "getset_descriptor.__get__"))
  ct : PySem.W.takesIn K (.builtin "object.__class__") = some true
  cm : PySem.W.mroIn K C (.type "object") = some true
def xcB (K : PySem.W.Frag) (C : Addr) : Bool := clsB K C && (decide (PySem.W.findIn K (.ref C) "__setattr__" = some (some (.builtin "object.__setattr__"))) && (decide (PySem.W.typeIn K (.ref C) = some (.type "type")) && (PySem.W.keepIn K (.ref C) && (xfB K C && ((PySem.W.clsIn K C).isSome &&
  (decide (PySem.W.findIn K (.ref C) "__class__" = some (some (.builtin "object.__class__"))) && (decide (PySem.W.specialIn K (.builtin "object.__class__") "__get__" = some (some (.builtin "getset_descriptor.__get__"))) &&
    (decide (PySem.W.takesIn K (.builtin "object.__class__") = some true) && decide (PySem.W.mroIn K C (.type "object") = some true)))))))))
theorem xcB_ok {K : PySem.W.Frag} {C : Addr} (h : xcB K C = true) : XcC K C := by
  unfold xcB at h
  simp only [Bool.and_eq_true, decide_eq_true_eq] at h
  obtain ⟨h1, h2, h3, h4, h5, h6, h7, h8, h9, h10⟩ := h
  have xf := xfB_ok h5
  exact ⟨⟨clsB_ok h1, h2, xf.exC, h3, h4⟩, xf, h6, h7, h8, h9, h10⟩
/-! ### promises of __init__, and what is raised -/
/-- __init__(self, v): one field -/
def spX1 (C : Addr) (f : Str) : Sp := fun vs H Q _ => ∃ (a : Addr) (v : V), vs = [.ref a, v] ∧ Fmt v ∧ H a = some (exo a C none) ∧ ∀ d, H d = none → d ≠ a → Q .non (upd (upd H d (exd d [(f, v)])) a (exo a C (some d)))
/-- __init__(self, v, u): two fields -/
def spX2 (C : Addr) (f g : Str) : Sp := fun vs H Q _ => ∃ (a : Addr) (v u : V), vs = [.ref a, v, u] ∧ Fmt v ∧ Fmt u ∧ H a = some (exo a C none) ∧ ∀ d, H d = none → d ≠ a → Q .non (upd (upd (upd H d (exd d [(f, v)])) a (exo a C (some d))) d (exd d [(g, u), (f, v)]))
structure Exk (P : Program) (w : World) (K : PySem.W.Frag) (mg : Str → Option Value) (base : Heap) (k : Nat) (x : Str) (C : Addr) (sp : Sp) : Prop where
  ex : ∃ (f : Addr) (fd : FuncData) (ps : List Str), FnOk P w K mg base CX0 k f fd ps sp ∧ PySem.W.findIn K (.ref C) "__init__" = some (some (.ref f)) ∧ PySem.W.typeIn K (.ref f) = some (.type "function") ∧ Binds K fd ps []
  xc : XcC K C
  g : mg x = some (.ref C)
section
variable {X : Cx} {k : Nat} {x f g : Str} {C : Addr} {e e2 : Expr} {ta : TA} {p pos : Pos}
def tMk1 (C : Addr) (f : Str) (ta : TA) : L2.St → Hp → XK → Prop := fun σ H Q => ta σ H fun vs H1 => ∃ v, vs = [v] ∧ Fmt v ∧ ∀ d, H1 d = none → Q (.ref C) (some d) (upd H1 d (.xd [(f, v)]))
def tMk2 (C : Addr) (f g : Str) (ta : TA) : L2.St → Hp → XK → Prop := fun σ H Q => ta σ H fun vs H1 => ∃ v u, vs = [v, u] ∧ Fmt v ∧ Fmt u ∧ ∀ d, H1 d = none → Q (.ref C) (some d) (upd H1 d (.xd [(g, u), (f, v)]))
theorem pmk_mono {e : Expr} {t t' : L2.St → Hp → XK → Prop} (h : PMk X e t) (m : ∀ σ H Q, t' σ H Q → t σ H Q) : PMk X e t' := fun pins s σ H Q I q => h pins s σ H Q I (m σ H Q q)
theorem pass0F {X : Cx} : Passes CX0 X (fun _ _ _ => False) := pass0
theorem upd_del {H1 H2 : Hp} {a d : Addr} {o : HO} (ha : H1 a = none) (h : ∀ b, b ≠ a → b ≠ d → H2 b = H1 b) : upd (del H2 a) d o = upd H1 d o := by
  funext b
  by_cases hd : b = d
  · rw [hd, upd_same, upd_same]
  · rw [upd_ne hd, upd_ne hd]
    by_cases hb : b = a
    · rw [hb, del_same, ha]
    · rw [del_ne hb, h b hb hd]
theorem Exk.mk1 (F : Exk X.prog X.w X.K X.mg X.base k x C (spX1 C f)) (hr : Room (k + 1) X.A) (ha : PA X [e] ta) (hg : Gl X x := by rfl) (hdb : (x == ("__debug__" : Str)) = false := by decide)
    (he : starEach [e] X.env = (false, eval e X.env) :: starEach [] X.env := by rfl) (hpl : (backTo pos (starEach [] X.env)).any (·.1) = false := by rfl) : PMk X (.Call (.Name x p) [e] [] pos) (tMk1 C f ta) := by
  obtain ⟨fI, fd, ps, G, iC, tI, b⟩ := F.ex
  refine pmk_mono (pmk_oex F.xc.oex iC tI G hr b .nil pass0F hg F.g (pa_cl ha) hdb he hpl) fun σ H Q q => ⟨_, ?_, q⟩
  rintro vs H1 ⟨v, rfl, fm, q⟩
  refine ⟨by show 1 ≤ 1000; decide, fun a na => ⟨a, v, rfl, fm, upd_same, fun d nd ne => ⟨rfl, d, [(f, v)], upd_same, ?_, ?_, ?_⟩⟩⟩
  · rw [upd_ne ne, upd_same]
  · rw [upd_ne ne] at nd
    exact nd
  · rw [upd_ne ne] at nd
    rw [upd_del na fun b hb hd => by rw [upd_ne hb, upd_ne hd, upd_ne hb]]
    exact q d nd
theorem Exk.mk2 (F : Exk X.prog X.w X.K X.mg X.base k x C (spX2 C f g)) (hr : Room (k + 1) X.A) (ha : PA X [e, e2] ta) (hg : Gl X x := by rfl) (hdb : (x == ("__debug__" : Str)) = false := by decide)
    (he : starEach [e, e2] X.env = (false, eval e X.env) :: starEach [e2] X.env := by rfl) (hpl : (backTo pos (starEach [e2] X.env)).any (·.1) = false := by rfl) : PMk X (.Call (.Name x p) [e, e2] [] pos) (tMk2 C f g ta) := by
  obtain ⟨fI, fd, ps, G, iC, tI, b⟩ := F.ex
  refine pmk_mono (pmk_oex F.xc.oex iC tI G hr b .nil pass0F hg F.g (pa_cl ha) hdb he hpl) fun σ H Q q => ⟨_, ?_, q⟩
  rintro vs H1 ⟨v, u, rfl, fv, fu, q⟩
  refine ⟨by show 2 ≤ 1000; decide, fun a na => ⟨a, v, u, rfl, fv, fu, upd_same, fun d nd ne => ⟨rfl, d, [(g, u), (f, v)], ?_, upd_same, ?_, ?_⟩⟩⟩
  · rw [upd_ne (Ne.symm ne), upd_same]
  · rw [upd_ne ne] at nd
    exact nd
  · rw [upd_ne ne] at nd
    rw [upd_del na fun b hb hd => by rw [upd_ne hd, upd_ne hb, upd_ne hd, upd_ne hb]]
    exact q d nd
end
/-! ### isinstance of a caught error with fields -/
def rIsD (K : PySem.W.Frag) (a : Addr) (cls : Value) (d : Option Addr) (D : Addr) : List V → Hp → VK → Prop := fun xs H Q => ∃ (c : V) (cv : Value) (b : Bool) (dd : Addr) (fs : List (Str × V)), xs = [.ref a, c] ∧ cls = .ref D ∧ d = some dd ∧ H dd = some (.xd fs) ∧
  (∀ u, RelV c u → u = cv) ∧ PySem.W.kitOne K (.ref D) cv = some b ∧ Q (.bl b) H
theorem call_isD {X : Cx} {a D : Addr} {oe : Obj} {cls : Value} {d : Option Addr} {pn : List (Addr × Obj)} (C : XcC X.K D) (hz : Zc cls d oe) (hf : ∃ vs, oe.data = .fields vs) : CallR (X.suite a ((a, oe) :: pn)) (.builtin "isinstance") (rIsD X.K a cls d D) := by
  intro pins s σ H xs us Q I r h
  obtain ⟨c, cv, b, dd, fs, rfl, ec, ed, hdd, hcv, e, q⟩ := h
  cases r with
  | cons rx rr =>
    cases rr with
    | cons rt rr =>
      cases rr
      cases rx
      have e1 := hcv _ rt
      subst e1
      obtain ⟨hget, _⟩ := I.pin (a, oe) (List.mem_append.mpr (.inl List.mem_cons_self))
      obtain ⟨vs, hv⟩ := hf
      have hx : ObjOk X.prog X.w H s.heap dd (.xd fs) := I.hok dd _ hdd
      obtain ⟨mA, hns, _⟩ := hx
      obtain ⟨od, ho, _⟩ := lookIn_ns hns
      have J : PySem.W.InstAt s.heap a oe D (some od) := ⟨hget, by rw [hz.1, ec], by unfold PySem.W.notCls; rw [hv] <;> rfl, by rw [hz.2, ed]; exact ho⟩
      exact PySem.W.kia_one (PySem.W.kitx_exc C.ic C.xf.ga C.xf.gg C.xf.exC C.ca C.cg C.ct C.cm) I.kIn J e (fun z => nomatch z) fun tk => ⟨.bl b, H, I.kept (t' := tk) fun _ _ z => z, rfl, q⟩
end Jr

namespace Jr
open PySem PySem.Spec PyProof.Rows L2
/-! ### the head's facts, the interpreter's own statics among them -/
def asC (g : Addr → Option Obj) (n : Nat) : List Addr := He.asD g n ++ [cStatics]
def obsC (n : Nat) (fa : List He.Fa) (fn : List He.DefD) (ex : PySem.W.Frag → Bool) (g : Addr → Option Obj) : He.AlX := (He.obsT fa fn [] (He.frT g (asC g n)), ex (He.frT g (asC g n)))
structure SaysC (fa : List He.Fa) (fn : List He.DefD) (ex : PySem.W.Frag → Bool) (w : World) (K : PySem.W.Frag) : Prop where
  t : He.SaysT fa fn [] w K
  more : ex K = true
theorem saysC_of {n : Nat} {fa : List He.Fa} {fn : List He.DefD} {ex : PySem.W.Frag → Bool} {w : World} {h : Heap} (e : obsC n fa fn ex h.get? = He.valX fn [] w) : SaysC fa fn ex w (He.frT h.get? (asC h.get? n)) :=
  ⟨congrArg (fun z : He.AlX => z.1) e, congrArg (fun z : He.AlX => z.2) e⟩
def hookC (n : Nat) (fa : List He.Fa) (fn : List He.DefD) (ex : PySem.W.Frag → Bool) : PySem.W.Hook where
  α := He.AlX
  obs := fun s => obsC n fa fn ex s.heap.get?
  val := fun w => He.valX fn [] w
  says := fun w h => ∃ K : PySem.W.Frag, K.In h ∧ SaysC fa fn ex w K
  of := fun _ _ e => ⟨_, He.frT_in, saysC_of e⟩
  keeps := fun _ _ _ ⟨K, hK, c⟩ k => ⟨K, PySem.W.Frag.In.keeps hK k, c⟩
theorem obsC_eq {n : Nat} {fa : List He.Fa} {fn : List He.DefD} {ex : PySem.W.Frag → Bool} {g : Addr → Option Obj} {s : Shared} (h : ∀ a, g a = s.heap.get? a) : obsC n fa fn ex g = (hookC n fa fn ex).obs s := by
  have e : g = s.heap.get? := funext h
  rw [e]; rfl
end Jr
namespace Jr
open PySem PySem.Spec PyProof.Rows L2
/-! ### the head's facts with the tables of code objects -/
def obsCT (n : Nat) (fa : List He.Fa) (fn : List He.DefD) (tf : List He.Defn) (ex : PySem.W.Frag → Bool) (g : Addr → Option Obj) : He.AlX := (He.obsT fa fn [] (He.frT g (asC g n)), ex (He.frT g (asC g n)) && He.tabsB g tf (He.frT g (asC g n)))
structure SaysCT (fa : List He.Fa) (fn : List He.DefD) (tf : List He.Defn) (ex : PySem.W.Frag → Bool) (w : World) (h : Heap) (K : PySem.W.Frag) : Prop where
  t : He.SaysT fa fn [] w K
  more : ex K = true
  hd : ∀ p ∈ tf, PySem.W.codeHdIn K (He.cT K p).1 (He.cT K p).2 = true
  out : ∀ p ∈ tf, K.lookup (He.cT K p).2 = none
  empty : ∀ p ∈ tf, h.get? (He.cT K p).2 = some { cls := .none, data := .fields #[] }
theorem saysCT_of {n : Nat} {fa : List He.Fa} {fn : List He.DefD} {tf : List He.Defn} {ex : PySem.W.Frag → Bool} {w : World} {h : Heap} (e : obsCT n fa fn tf ex h.get? = He.valX fn [] w) : SaysCT fa fn tf ex w h (He.frT h.get? (asC h.get? n)) := by
  have e1 : He.obsT fa fn [] (He.frT h.get? (asC h.get? n)) = He.valT fn [] w := congrArg (fun z : He.AlX => z.1) e
  have e2 : (ex (He.frT h.get? (asC h.get? n)) && He.tabsB h.get? tf (He.frT h.get? (asC h.get? n))) = true := congrArg (fun z : He.AlX => z.2) e
  obtain ⟨h1, h2⟩ := Bool.and_eq_true_iff.mp e2
  have key : ∀ p ∈ tf, PySem.W.codeHdIn (He.frT h.get? (asC h.get? n)) (He.cT (He.frT h.get? (asC h.get? n)) p).1 (He.cT (He.frT h.get? (asC h.get? n)) p).2 = true ∧ ∃ o, h.get? (He.cT (He.frT h.get? (asC h.get? n)) p).2 = some o ∧ He.emptyTab o = true := fun p hp => by
    obtain ⟨h3, h4⟩ := Bool.and_eq_true_iff.mp (List.all_eq_true.mp h2 p hp)
    refine ⟨h3, ?_⟩
    cases q : h.get? (He.cT (He.frT h.get? (asC h.get? n)) p).2 with
    | none => rw [q] at h4; cases h4
    | some o => rw [q] at h4; exact ⟨o, rfl, h4⟩
  exact ⟨e1, h1, fun p hp => (key p hp).1, fun p hp => by
    obtain ⟨_, o, q, z⟩ := key p hp
    exact He.frT_none q z, fun p hp => by
    obtain ⟨_, o, q, z⟩ := key p hp
    rw [q, He.emptyTab_eq z]⟩
def hookCT (n : Nat) (fa : List He.Fa) (fn : List He.DefD) (tf : List He.Defn) (ex : PySem.W.Frag → Bool) : PySem.W.Hook where
  α := He.AlX
  obs := fun s => obsCT n fa fn tf ex s.heap.get?
  val := fun w => He.valX fn [] w
  says := fun w h => ∃ K : PySem.W.Frag, K.In h ∧ SaysCT fa fn tf ex w h K
  of := fun _ _ e => ⟨_, He.frT_in, saysCT_of e⟩
  keeps := fun _ _ _ ⟨K, hK, c⟩ k => ⟨K, PySem.W.Frag.In.keeps hK k, ⟨c.t, c.more, c.hd, c.out, fun p hp => k _ _ (c.empty p hp)⟩⟩
theorem obsCT_eq {n : Nat} {fa : List He.Fa} {fn : List He.DefD} {tf : List He.Defn} {ex : PySem.W.Frag → Bool} {g : Addr → Option Obj} {s : Shared} (h : ∀ a, g a = s.heap.get? a) : obsCT n fa fn tf ex g = (hookCT n fa fn tf ex).obs s := by
  have e : g = s.heap.get? := funext h
  rw [e]; rfl
end Jr
namespace Jr
open PySem PySem.Spec PyProof.Rows L2
/-! ### the text -/
def top (i : Nat) : Stmt := PySem.Challenge.pw_joinranks_k01_numbers_written_and_read.main.body.getD i (.Pass ⟨0, 0, 0, 0⟩)
abbrev s_JoinError___init__ : Stmt := (inClass (top 1) 0)
abbrev N_JoinError___init__ : List Str := ["self", "words"]
abbrev P_JoinError___init__ : List Str := ["self", "words"]
theorem sc_JoinError___init__ : FnScope N_JoinError___init__ P_JoinError___init__ (defScope s_JoinError___init__) := ⟨rfl, rfl, rfl, by decide +kernel, rfl, by decide +kernel, by decide +kernel⟩
abbrev s_NoText___init__ : Stmt := (inClass (top 2) 0)
abbrev N_NoText___init__ : List Str := ["self", "row"]
abbrev P_NoText___init__ : List Str := ["self", "row"]
theorem sc_NoText___init__ : FnScope N_NoText___init__ P_NoText___init__ (defScope s_NoText___init__) := ⟨rfl, rfl, rfl, by decide +kernel, rfl, by decide +kernel, by decide +kernel⟩
abbrev s_is_whole : Stmt := (top 6)
abbrev N_is_whole : List Str := ["thing"]
abbrev P_is_whole : List Str := ["thing"]
theorem sc_is_whole : FnScope N_is_whole P_is_whole (defScope s_is_whole) := ⟨rfl, rfl, rfl, by decide +kernel, rfl, by decide +kernel, by decide +kernel⟩
abbrev s_show_number : Stmt := (top 7)
abbrev N_show_number : List Str := ["number"]
abbrev P_show_number : List Str := ["number"]
theorem sc_show_number : FnScope N_show_number P_show_number (defScope s_show_number) := ⟨rfl, rfl, rfl, by decide +kernel, rfl, by decide +kernel, by decide +kernel⟩
abbrev s_is_written_number : Stmt := (top 8)
abbrev N_is_written_number : List Str := ["thing"]
abbrev P_is_written_number : List Str := ["thing"]
theorem sc_is_written_number : FnScope N_is_written_number P_is_written_number (defScope s_is_written_number) := ⟨rfl, rfl, rfl, by decide +kernel, rfl, by decide +kernel, by decide +kernel⟩
abbrev s_read_number : Stmt := (top 9)
abbrev N_read_number : List Str := ["text"]
abbrev P_read_number : List Str := ["text"]
theorem sc_read_number : FnScope N_read_number P_read_number (defScope s_read_number) := ⟨rfl, rfl, rfl, by decide +kernel, rfl, by decide +kernel, by decide +kernel⟩
abbrev s__law_numbers : Stmt := (top 11)
abbrev N__law_numbers : List Str := ["_law_cell", "_law_salt", "_law_sizes", "_law_number", "_law_left", "_law_found", "_law_k", "_law_one"]
abbrev P__law_numbers : List Str := ["_law_cell", "_law_salt", "_law_sizes"]
theorem sc__law_numbers : FnScope N__law_numbers P__law_numbers (defScope s__law_numbers) := ⟨rfl, rfl, rfl, by decide +kernel, rfl, by decide +kernel, by decide +kernel⟩
abbrev s__law_drawn : Stmt := (top 12)
abbrev N__law_drawn : List Str := ["_law_digit", "_law_turns", "_law_size", "_law_most", "_law_number", "_law_k"]
abbrev P__law_drawn : List Str := ["_law_digit", "_law_turns", "_law_size"]
theorem sc__law_drawn : FnScope N__law_drawn P__law_drawn (defScope s__law_drawn) := ⟨rfl, rfl, rfl, by decide +kernel, rfl, by decide +kernel, by decide +kernel⟩
abbrev s__law_figures : Stmt := (top 13)
abbrev N__law_figures : List Str := ["_law_number", "_law_figures_here"]
abbrev P__law_figures : List Str := ["_law_number"]
theorem sc__law_figures : FnScope N__law_figures P__law_figures (defScope s__law_figures) := ⟨rfl, rfl, rfl, by decide +kernel, rfl, by decide +kernel, by decide +kernel⟩
abbrev s__law_bent : Stmt := (top 14)
abbrev N__law_bent : List Str := ["_law_figures_here", "_law_way", "_law_place", "_law_sign", "_law_at"]
abbrev P__law_bent : List Str := ["_law_figures_here", "_law_way", "_law_place", "_law_sign"]
theorem sc__law_bent : FnScope N__law_bent P__law_bent (defScope s__law_bent) := ⟨rfl, rfl, rfl, by decide +kernel, rfl, by decide +kernel, by decide +kernel⟩
abbrev s__law_due : Stmt := (top 15)
abbrev N__law_due : List Str := ["_law_text", "_law_number", "_law_sign"]
abbrev P__law_due : List Str := ["_law_text"]
theorem sc__law_due : FnScope N__law_due P__law_due (defScope s__law_due) := ⟨rfl, rfl, rfl, by decide +kernel, rfl, by decide +kernel, by decide +kernel⟩
abbrev s__law_read : Stmt := (top 16)
abbrev N__law_read : List Str := ["_law_thing", "_law_found", "e"]
abbrev P__law_read : List Str := ["_law_thing"]
theorem sc__law_read : FnScope N__law_read P__law_read (defScope s__law_read) := ⟨rfl, rfl, rfl, by decide +kernel, rfl, by decide +kernel, by decide +kernel⟩
abbrev s__law_right : Stmt := (top 17)
abbrev N__law_right : List Str := ["_law_text", "_law_due_here", "_law_word", "_law_number"]
abbrev P__law_right : List Str := ["_law_text"]
theorem sc__law_right : FnScope N__law_right P__law_right (defScope s__law_right) := ⟨rfl, rfl, rfl, by decide +kernel, rfl, by decide +kernel, by decide +kernel⟩
abbrev s_law : Stmt := (top 18)
abbrev N_law : List Str := ["_law_script", "_law_some", "_law_at", "_law_cell", "_law_digits", "_law_number", "_law_figures_here", "_law_sign", "_law_text", "_law_odd", "_law_thing", "_law_whole"]
abbrev P_law : List Str := ["_law_script"]
theorem sc_law : FnScope N_law P_law (defScope s_law) := ⟨rfl, rfl, rfl, by decide +kernel, rfl, by decide +kernel, by decide +kernel⟩
def tfs : List He.Defn := [("is_written_number", none)]
/-- what the top has written -/
structure Tx (K : PySem.W.Frag) (mg : Str → Option Value) : Prop where
  n_len : mg "len" = none
  n_range : mg "range" = none
  n_max : mg "max" = none
  n_isinstance : mg "isinstance" = none
  n_str : mg "str" = none
  n_int : mg "int" = none
  n_bool : mg "bool" = none
  n_all : mg "all" = none
  n_enumerate : mg "enumerate" = none
  n_ValueError : mg "ValueError" = none
  c_FIGURES : ∃ t, mg "FIGURES" = some (.str "0123456789" t)
  c_MOST_FIGURES : ∃ t, mg "MOST_FIGURES" = some (.int 60 t)
  g_JoinError : mg "JoinError" = some (.ref (He.ga K "JoinError"))
  rd_JoinError : PySem.W.readsIn K (He.ga K "JoinError") (.type "type") = true
  ga_JoinError : PySem.W.specialIn K (.ref (He.ga K "JoinError")) "__getattribute__" = some (some (.builtin "type.__getattribute__"))
  fc_JoinError : PySem.W.findCls K (.ref (He.ga K "JoinError")) (.type "type") "__init__" = some (.val (.ref (He.fAd K ("JoinError", some "__init__"))))
  g_NoText : mg "NoText" = some (.ref (He.ga K "NoText"))
  xc_NoText : XcC K (He.ga K "NoText")
  in_NoText : PySem.W.findIn K (.ref (He.ga K "NoText")) "__init__" = some (some (.ref (He.fAd K ("NoText", some "__init__"))))
  it_NoText : PySem.W.typeIn K (.ref (He.fAd K ("NoText", some "__init__"))) = some (.type "function")
  no_NoText_row : PySem.W.findIn K (.ref (He.ga K "NoText")) "row" = some none
  exm_NoText_NoText : PySem.W.exmOne K (.ref (He.ga K "NoText")) (.ref (He.ga K "NoText")) = some true
  d_JoinError___init__ : ∃ fd, FunD K "__init__" "JoinError.__init__" (defArgs s_JoinError___init__) (defBody s_JoinError___init__) (defScope s_JoinError___init__) [] [] (He.fAd K ("JoinError", some "__init__")) fd
  d_NoText___init__ : ∃ fd, FunD K "__init__" "NoText.__init__" (defArgs s_NoText___init__) (defBody s_NoText___init__) (defScope s_NoText___init__) [] [] (He.fAd K ("NoText", some "__init__")) fd
  g_is_whole : mg "is_whole" = some (.ref (He.fAd K ("is_whole", none)))
  d_is_whole : ∃ fd, FunD K "is_whole" "is_whole" (defArgs s_is_whole) (defBody s_is_whole) (defScope s_is_whole) [] [] (He.fAd K ("is_whole", none)) fd
  g_show_number : mg "show_number" = some (.ref (He.fAd K ("show_number", none)))
  d_show_number : ∃ fd, FunD K "show_number" "show_number" (defArgs s_show_number) (defBody s_show_number) (defScope s_show_number) [] [] (He.fAd K ("show_number", none)) fd
  g_is_written_number : mg "is_written_number" = some (.ref (He.fAd K ("is_written_number", none)))
  d_is_written_number : ∃ fd, FunD K "is_written_number" "is_written_number" (defArgs s_is_written_number) (defBody s_is_written_number) (defScope s_is_written_number) [] [] (He.fAd K ("is_written_number", none)) fd
  g_read_number : mg "read_number" = some (.ref (He.fAd K ("read_number", none)))
  d_read_number : ∃ fd, FunD K "read_number" "read_number" (defArgs s_read_number) (defBody s_read_number) (defScope s_read_number) [] [] (He.fAd K ("read_number", none)) fd
  g__law_numbers : mg "_law_numbers" = some (.ref (He.fAd K ("_law_numbers", none)))
  d__law_numbers : ∃ fd, FunD K "_law_numbers" "_law_numbers" (defArgs s__law_numbers) (defBody s__law_numbers) (defScope s__law_numbers) [] [] (He.fAd K ("_law_numbers", none)) fd
  g__law_drawn : mg "_law_drawn" = some (.ref (He.fAd K ("_law_drawn", none)))
  d__law_drawn : ∃ fd, FunD K "_law_drawn" "_law_drawn" (defArgs s__law_drawn) (defBody s__law_drawn) (defScope s__law_drawn) [] [] (He.fAd K ("_law_drawn", none)) fd
  g__law_figures : mg "_law_figures" = some (.ref (He.fAd K ("_law_figures", none)))
  d__law_figures : ∃ fd, FunD K "_law_figures" "_law_figures" (defArgs s__law_figures) (defBody s__law_figures) (defScope s__law_figures) [] [] (He.fAd K ("_law_figures", none)) fd
  g__law_bent : mg "_law_bent" = some (.ref (He.fAd K ("_law_bent", none)))
  d__law_bent : ∃ fd, FunD K "_law_bent" "_law_bent" (defArgs s__law_bent) (defBody s__law_bent) (defScope s__law_bent) [] [] (He.fAd K ("_law_bent", none)) fd
  g__law_due : mg "_law_due" = some (.ref (He.fAd K ("_law_due", none)))
  d__law_due : ∃ fd, FunD K "_law_due" "_law_due" (defArgs s__law_due) (defBody s__law_due) (defScope s__law_due) [] [] (He.fAd K ("_law_due", none)) fd
  g__law_read : mg "_law_read" = some (.ref (He.fAd K ("_law_read", none)))
  d__law_read : ∃ fd, FunD K "_law_read" "_law_read" (defArgs s__law_read) (defBody s__law_read) (defScope s__law_read) [] [] (He.fAd K ("_law_read", none)) fd
  g__law_right : mg "_law_right" = some (.ref (He.fAd K ("_law_right", none)))
  d__law_right : ∃ fd, FunD K "_law_right" "_law_right" (defArgs s__law_right) (defBody s__law_right) (defScope s__law_right) [] [] (He.fAd K ("_law_right", none)) fd
  g_law : mg "law" = some (.ref (He.fAd K ("law", none)))
  d_law : ∃ fd, FunD K "law" "law" (defArgs s_law) (defBody s_law) (defScope s_law) [] [] (He.fAd K ("law", none)) fd
end Jr
namespace Jr
open PySem PySem.Spec PyProof.Rows L2
def exs (K : PySem.W.Frag) : List Bool := [PySem.W.readsIn K (He.ga K "JoinError") (.type "type"),
  decide (PySem.W.specialIn K (.ref (He.ga K "JoinError")) "__getattribute__" = some (some (.builtin "type.__getattribute__"))),
  fcB K (He.ga K "JoinError") (He.fAd K ("JoinError", some "__init__")),
  xcB K (He.ga K "NoText"),
  decide (PySem.W.findIn K (.ref (He.ga K "NoText")) "__init__" = some (some (.ref (He.fAd K ("NoText", some "__init__"))))),
  decide (PySem.W.typeIn K (.ref (He.fAd K ("NoText", some "__init__"))) = some (.type "function")),
  decide (PySem.W.findIn K (.ref (He.ga K "NoText")) "row" = some none),
  decide (PySem.W.exmOne K (.ref (He.ga K "NoText")) (.ref (He.ga K "NoText")) = some true)]
theorem exAt {l : List Bool} {i : Nat} {b : Bool} (h : l.all id = true) (e : l[i]? = some b) : b = true := List.all_eq_true.mp h b (List.mem_of_getElem? e)
def fa : List He.Fa := [.free "len",
  .free "range",
  .free "max",
  .free "isinstance",
  .free "str",
  .free "int",
  .free "bool",
  .free "all",
  .free "enumerate",
  .free "ValueError",
  .str "FIGURES" "0123456789",
  .int "MOST_FIGURES" 60,
  .glo "JoinError",
  .glo "NoText",
  .glo "is_whole",
  .glo "show_number",
  .glo "is_written_number",
  .glo "read_number",
  .glo "_law_numbers",
  .glo "_law_drawn",
  .glo "_law_figures",
  .glo "_law_bent",
  .glo "_law_due",
  .glo "_law_read",
  .glo "_law_right",
  .glo "law"]
def fn : List He.DefD := [⟨("JoinError", some "__init__"), "__init__", "JoinError.__init__", defArgs s_JoinError___init__, defBody s_JoinError___init__, defScope s_JoinError___init__, [], []⟩,
  ⟨("NoText", some "__init__"), "__init__", "NoText.__init__", defArgs s_NoText___init__, defBody s_NoText___init__, defScope s_NoText___init__, [], []⟩,
  ⟨("is_whole", none), "is_whole", "is_whole", defArgs s_is_whole, defBody s_is_whole, defScope s_is_whole, [], []⟩,
  ⟨("show_number", none), "show_number", "show_number", defArgs s_show_number, defBody s_show_number, defScope s_show_number, [], []⟩,
  ⟨("is_written_number", none), "is_written_number", "is_written_number", defArgs s_is_written_number, defBody s_is_written_number, defScope s_is_written_number, [], []⟩,
  ⟨("read_number", none), "read_number", "read_number", defArgs s_read_number, defBody s_read_number, defScope s_read_number, [], []⟩,
  ⟨("_law_numbers", none), "_law_numbers", "_law_numbers", defArgs s__law_numbers, defBody s__law_numbers, defScope s__law_numbers, [], []⟩,
  ⟨("_law_drawn", none), "_law_drawn", "_law_drawn", defArgs s__law_drawn, defBody s__law_drawn, defScope s__law_drawn, [], []⟩,
  ⟨("_law_figures", none), "_law_figures", "_law_figures", defArgs s__law_figures, defBody s__law_figures, defScope s__law_figures, [], []⟩,
  ⟨("_law_bent", none), "_law_bent", "_law_bent", defArgs s__law_bent, defBody s__law_bent, defScope s__law_bent, [], []⟩,
  ⟨("_law_due", none), "_law_due", "_law_due", defArgs s__law_due, defBody s__law_due, defScope s__law_due, [], []⟩,
  ⟨("_law_read", none), "_law_read", "_law_read", defArgs s__law_read, defBody s__law_read, defScope s__law_read, [], []⟩,
  ⟨("_law_right", none), "_law_right", "_law_right", defArgs s__law_right, defBody s__law_right, defScope s__law_right, [], []⟩,
  ⟨("law", none), "law", "law", defArgs s_law, defBody s_law, defScope s_law, [], []⟩]

abbrev RR : PySem.W.OpenRow := PySem.W.OpenLaw.row PySem.Challenge.rw_joinranks_k01_numbers_written_and_read
def loose : List PySem.Str := (["JoinError", "NoText", "FIGURES", "MOST_FIGURES", "is_whole", "show_number", "is_written_number", "read_number", "_law_numbers", "_law_drawn", "_law_figures", "_law_bent", "_law_due", "_law_read", "_law_right"] : List PySem.Str)
abbrev hk : PySem.W.Hook := hookCT 4 fa fn tfs (fun K => (exs K).all id)
def ob (s : PySem.W.SharedT) : He.AlX := obsCT 4 fa fn tfs (fun K => (exs K).all id) (HandSHeadRun.getT s)
theorem ob_eq (s : PySem.W.SharedT) : ob s = hk.obs s.abs := obsCT_eq (HandSHeadRun.getT_eq s)
theorem run (w : World) : HandSHeadRun.RunEq RR (PySem.W.view RR.prog [18]) hk ob 4000 loose w := by
  intro os
  kernel_rfl
end Jr
/-! ### all and any of a generator expression over anything that is walked, its element anything (own calls, too): the element's own context -/
namespace GX
open PySem PySem.Spec PyProof.Rows L2 GxR NdefX GenW
theorem inv_like {X : Cx} {pins : List (Addr × Obj)} {σ : L2.St} {H : Hp} {s s' : Shared} (I : Inv X pins σ H s) (h : s'.heap = s.heap) (o : s'.os = s.os) (b : AllBare s'.gens) : Inv X pins σ H s' :=
  ⟨I.ok, o.trans I.os, b, by rw [h]; exact I.base, by rw [h]; exact I.loc, by rw [h]; exact I.cell, I.free, I.freeC, by rw [h]; exact I.pin, by rw [h]; exact I.hok, I.len⟩
/-- the context of a generator expression's own frame -/
def gx (X : Cx) (ex : List Addr) (N : List Str) (env : Env) (A : Around) (pn : List (Addr × Obj)) (s : Shared) (H : Hp) : Cx where
  prog := X.prog
  w := X.w
  K := X.K
  mg := X.mg
  base := X.base
  A := A
  N := N
  s_0 := s
  H_0 := H
  env := env
  outer := X.stack
  stack := env :: X.stack
  ex := ex
  fn := fun _ => false
  calm := true
  pn := pn
  xe := fun _ _ => False
section
variable {X : Cx} {pins : List (Addr × Obj)} {σ : L2.St} {H : Hp} {s : Shared}
theorem gx_ok {ex : List Addr} {N : List Str} {env : Env} {A : Around} {pn : List (Addr × Obj)} {fr : List Str} {ws : List (Option V)} (I : Inv X pins σ H s) (hk : env.scope.kind = .function) (hg : env.globals = mainGlobals) (hb : env.builtins = builtinsNs)
    (hl : s.heap.objs.size ≤ env.locals) (hf : env.frame = some env.locals) (C : CellsAt env.cells fr ws s.heap H) (has : ∀ x, (env.kindOf x = some .cell ∨ env.kindOf x = some .free) → ∃ c, env.cells.lookup x = some c)
    (hA : A.frames = some (env :: X.stack)) (hh : A.handled = none) (hex : ∀ b ∈ ex, FpOk X pins H b ∧ b ≠ env.locals ∧ ∀ x c, env.cells.lookup x = some c → c ≠ b) : (gx X ex N env A pn s H).Ok where
  mod := I.mod
  kind := hk
  glob := hg
  blt := hb
  above := hl
  inj := C.inj
  has := has
  cab := fun x c e => by cases e
  hd := fun _ => hh
  frames := hA
  stk := .inr ⟨rfl, hf⟩
  exf := fun b hb => (hex b hb).2
  bs := I.bs
  bsz := Nat.le_trans I.ok.bsz I.sz
  noex := fun b o e hb => by
    rcases (hex b hb).1.2.2.2.1 with z | z
    · exact I.ok.noex b o e z
    · exact absurd (Nat.lt_of_lt_of_le (Heap.lt_size e) (Nat.le_trans I.ok.bsz z)) (Nat.lt_irrefl _)
  exfs := fun b hb z => by
    rcases List.mem_cons.mp (I.stkSub b z) with e | e
    · exact (hex b hb).1.2.1 e
    · exact (hex b hb).1.2.2.1 e
  funs := I.stack
  frf := I.stkFree
theorem gx_start {ex : List Addr} {x : Str} {env : Env} {A : Around} {pn : List (Addr × Obj)} {fr : List Str} {ws : List (Option V)} {h' : Heap} {g' : Array GenState} {t' : Nat} {m : Str → Option Value} (I : Inv X pins σ H s) (ok : (gx X ex (x :: fr) env A pn s H).Ok)
    (k : ∀ b u, s.heap.get? b = some u → h'.get? b = some u) (hn : h'.Ns env.locals m) (C : CellsAt env.cells fr ws s.heap H) (hfk : ∀ y ∈ fr, env.kindOf y = some .free)
    (hpn : ∀ p ∈ pn, h'.get? p.1 = some p.2 ∧ s.heap.objs.size ≤ p.1 ∧ p.1 ≠ env.locals ∧ ∀ v, p.2.data ≠ .cell v) (hb : AllBare g') :
    Inv (gx X ex (x :: fr) env A pn s H) [] (none :: ws) H { s with heap := h', gens := g', toks := t' } where
  ok := ok
  os := rfl
  bare := hb
  base := Un.kept k
  loc := ⟨m, hn, fun i y v hN hσ hv => by
    cases i with
    | zero => cases hσ
    | succ j =>
      obtain ⟨c, hc, z⟩ := C.has j y hN
      obtain ⟨u, r, hu⟩ := z v hσ
      obtain ⟨o, ho, hd⟩ := hu
      exact ⟨u, r, .inr ⟨.inr (hfk y (List.mem_of_getElem? hN)), c, hc, o, k _ _ ho, hd⟩⟩⟩
  cell := fun y c e => by
    obtain ⟨_, v, o, ho, hd⟩ := C.all y c e
    exact ⟨v, o, k _ _ ho, hd⟩
  free := I.hok.fresh ok.above
  freeC := fun y c e => (C.all y c e).1
  pin := fun p hp => by
    have hp : p ∈ pn := by
      have := hp
      rw [List.append_nil] at this
      exact this
    obtain ⟨h1, h2, h3, h4⟩ := hpn p hp
    refine ⟨h1, I.hok.fresh h2, h3, fun hb => ?_, h4⟩
    obtain ⟨_, o, ho, _⟩ := I.stack.mem hb
    exact absurd (Nat.lt_of_lt_of_le (Heap.lt_size ho) h2) (Nat.lt_irrefl _)
  hok := I.hok.kept k
  len := by rw [List.length_cons]; show _ = (x :: fr).length; rw [List.length_cons, C.len]
end
/-- a generator expression at work -/
structure GG where
  X : Cx
  ex : List Addr
  fr : List Str
  cenv : Env
  B : Around
  pn : List (Addr × Obj)
  s4 : Shared
  H4 : Hp
  elt : Expr
  iter : Expr
  x : Str
  px : Pos
  pos : Pos
  scope : Scope
  it : Addr
abbrev GG.ge (G : GG) : Expr := .GeneratorExp G.elt [⟨.Name G.x G.px, G.iter, [], 0⟩] G.scope G.pos
abbrev GG.code (G : GG) : Code := .compLoop G.ge 0 (.ref G.it) .none G.cenv
abbrev GG.code0 (G : GG) : Code := .compStart G.ge 0 (.ref G.it) .none G.cenv
abbrev GG.cx (G : GG) : Cx := gx G.X G.ex (G.x :: G.fr) G.cenv (G.B.over G.code []) G.pn G.s4 G.H4
abbrev GG.M (G : GG) : Model := model G.X.prog G.X.w
/-- its end -/
def GR (G : GG) (Q : VK) (all : Bool) : GenEnd := fun n _ r s1 => r = .ok .next ∧ (n = 0 ∧ ∃ σ H, Inv G.cx [] σ H s1 ∧ Q (.bl all) H)
/-- an item -/
def GY (G : GG) (Q : VK) (all : Bool) : Protocol := fun _ _ v s' kap => ∃ b σ H, v = .bool b ∧ Inv G.cx [] σ H s' ∧ (b ≠ all → Q (.bl (!all)) H) ∧
  (b = all → ∀ s'' : Shared, s''.heap = s'.heap → s''.os = s'.os → AllBare s''.gens → kap (.send .none) s'')
/-- the walk's word -/
structure Word (all : Bool) (te : TE) (ws : List (Option V)) (J : It) (L : Nat) (V0 : Nat → Hp → Prop) (Q : VK) : Prop where
  turn : ∀ i H2, V0 i H2 → i < L → J.go i H2 ∧ ∀ y H3, J.yld i H2 y H3 → te (some y :: ws) H3 fun u H4 => ∃ b, u = .bl b ∧ (b ≠ all → Q (.bl (!all)) H4) ∧ (b = all → V0 (i + 1) H4)
  stop : ∀ H2, V0 L H2 → J.stop L H2 ∧ Q (.bl all) H2
section
variable {G : GG} {all : Bool} {te : TE} {ws : List (Option V)} {J : It} {L : Nat} {V0 : Nat → Hp → Prop} {Q : VK} {fp : List Addr} {tn : Nat → Heap → Prop}
theorem seg_loop (W : Word all te ws J L V0 Q) (T : Turn G.X.prog G.X.w G.X.K (.Name G.x G.px) J fp G.it tn) (hel : PE G.cx G.elt te) (hnd : (G.x :: G.fr).Nodup) (hx : G.cenv.scope.names.lookup G.x = some .local)
    (hco : G.cenv.scope.isCoroutine = false) : ∀ (k i : Nat) (s₀ s : Shared) (o : Option V) (H : Hp), L - i = k → i ≤ L → Inv G.cx [] (o :: ws) H s → tn i s.heap → (∀ b ∈ fp, FpOk G.cx [] H b) → V0 i H →
      Seg G.M G.B (GR G Q all) (GY G Q all) (L - i) s₀ G.code (G.M.den G.code) [] s := by
  intro k
  induction k with
  | zero =>
    intro i s₀ s o H hk hi I st hf hV
    have hin : i = L := by omega
    subst hin
    obtain ⟨hstop, hq⟩ := W.stop H hV
    show Seg _ _ _ _ _ s₀ _ ((compTurn G.ge 0 (.ref G.it) .none G.cenv).onRaise (leaving G.cenv)) [] s
    rw [compTurn_gen, Sem.onRaise_eq_wrap]
    refine seg_bind_wrap (wpAny_standAt ?_)
    refine seg_bind_wrap (wpAny_mono (T.done G.cx rfl rfl rfl rfl i [] s _ H _ I hf st hstop) (fun r s1 hr => ?_) fun _ _ e => e)
    obtain ⟨rfl, I1⟩ := hr
    exact seg_end (.ok .next) ⟨rfl, Nat.sub_self _, _, H, I1, hq⟩
  | succ k ih =>
    intro i s₀ s o H hk hi I st hf hV
    have hlt : i < L := by omega
    obtain ⟨hgo, hturn⟩ := W.turn i H hV hlt
    show Seg _ _ _ _ _ s₀ _ ((compTurn G.ge 0 (.ref G.it) .none G.cenv).onRaise (leaving G.cenv)) [] s
    rw [compTurn_gen, Sem.onRaise_eq_wrap]
    refine seg_bind_wrap (wpAny_standAt ?_)
    refine seg_bind_wrap (wpAny_mono (T.item G.cx rfl rfl rfl rfl i [] s _ H _ I hf st hgo) (fun r s1 hr => ?_) fun _ _ e => e)
    obtain ⟨u, rfl, hw⟩ := hr
    refine seg_bind_wrap (wpAny_mono hw (fun _ s2 h2 => ?_) fun _ _ e => e)
    obtain ⟨y, H', I2, ry, hyl, st2, fn2⟩ := h2
    have stat : ∀ {H' : Hp}, (∀ b ∈ fp, H' b = none) → ∀ b ∈ fp, FpOk G.cx [] H' b := fun hn b hb => ⟨hn b hb, (hf b hb).2⟩
    have I2' := I2.pinned (stat fn2) (T.obj _ _ st2)
    have pgn := (pg_name (X := G.cx) (i := 0) (x := G.x) (pos := G.px) hnd rfl (.inl hx) (.inr hx)).run _ s2 _ H' y u (fun σ' H'' => σ' = some y :: ws ∧ H'' = H') I2' ry (show gName 0 y (o :: ws) H' _ from ⟨rfl, rfl⟩)
    refine seg_bind_wrap (wpAny_mono pgn (fun _ s3 h3 => ?_) fun _ _ e => e.elim)
    obtain ⟨_, _, I3, rfl, rfl⟩ := h3
    simp only [List.forIn_nil]
    refine seg_bind_wrap (wpAny_pure ?_)
    have hy : ∀ v, yieldOut G.cenv v = yieldValue v := fun v => by simp only [yieldOut, hco, Bool.false_eq_true, if_false]
    simp only [if_true, hy]
    rw [Sem.bind_eq_wrap', Sem.bind_eq_wrap', Sem.wrap_wrap, Sem.wrap_wrap]
    refine seg_wrap (wpAny_mono (hel.run _ s3 _ _ _ I3 (hturn y _ hyl)) (fun v s4 h4 => ?_) fun _ _ e => e.elim)
    obtain ⟨w, H5, I5, rv, b, rfl, hstop, hon⟩ := h4
    obtain rfl : v = Value.bool b := rv
    rw [show L - i = (L - (i + 1)) + 1 by omega]
    have I5u := I5.unpinned
    have fn5 : ∀ b ∈ fp, H5 b = none := fun b hb => by
      obtain ⟨o, e, _⟩ := T.obj _ _ st2 b hb
      exact (I5.pin (b, o) (List.mem_append_right _ (List.mem_append_right _ (mem_pinsAt hb e)))).2.1
    have st5 : tn (i + 1) s4.heap := T.keep _ _ _ st2 fun b hb o e => (I5.pin (b, o) (List.mem_append_right _ (List.mem_append_right _ (mem_pinsAt hb e)))).1
    refine seg_at (seg_yield rfl rfl rfl ⟨b, _, H5, rfl, I5u, hstop, fun hb s'' e1 e2 e3 => ?_⟩)
    exact seg_again rfl (ih (i + 1) s'' s'' _ H5 (by omega) hlt (inv_like I5u e1 e2 e3) (by rw [e1]; exact st5) (stat fn5) (hon hb))
/-- its code at the start -/
theorem seg_start (W : Word all te ws J L V0 Q) (T : Turn G.X.prog G.X.w G.X.K (.Name G.x G.px) J fp G.it tn) (hel : PE G.cx G.elt te) (hnd : (G.x :: G.fr).Nodup) (hx : G.cenv.scope.names.lookup G.x = some .local)
    (hco : G.cenv.scope.isCoroutine = false) (s₀ s : Shared) (o : Option V) (H : Hp) (I : Inv G.cx [] (o :: ws) H s) (st : tn 0 s.heap) (hf : ∀ b ∈ fp, FpOk G.cx [] H b) (hV : V0 0 H) :
    Seg G.M G.B (GR G Q all) (GY G Q all) L s₀ G.code0 (G.M.den G.code0) [] s := by
  have loop := seg_loop W T hel hnd hx hco L 0 s₀ s o H (Nat.sub_zero _) (Nat.zero_le _) I st hf hV
  rw [Nat.sub_zero] at loop
  show Seg _ _ _ _ _ s₀ _ ((compStart G.ge 0 (.ref G.it) .none G.cenv).onRaise (leaving G.cenv)) [] s
  unfold compStart
  rw [Sem.onRaise_eq_wrap]
  show Seg _ _ _ _ _ s₀ _ ((ask >>= _).wrap _ _ _ _) [] s
  refine seg_bind_wrap (wpAny_askSetting ?_)
  split
  · exact seg_again rfl loop
  · first
      | exact seg_bind_wrap (wpAny_rule (seg_bind_wrap (wpAny_standAt (seg_bind_wrap (T.self _ 0 s _ _ st (seg_again rfl loop))))))
      | (refine seg_bind_wrap (wpAny_rule ?_); show Seg _ _ _ _ _ s₀ _ ((standAt G.iter.pos >>= _).wrap _ _ _ _) [] s; exact seg_bind_wrap (wpAny_standAt (seg_bind_wrap (T.self _ 0 s _ _ st (seg_again rfl loop)))))
/-- where the generator object stands -/
def genO (g : Nat) (nm qn : Value) : Obj := { cls := .type "generator", data := .fields #[.int g 0, nm, qn] }
/-- what an all or an any gives -/
def RB (G : GG) (Q : VK) (r : Result) (s' : Shared) : Prop := ∃ b σ H, r = .ok (.ret (.bool b)) ∧ Inv G.cx [] σ H s' ∧ Q (.bl b) H
/-- asleep, ready to be woken -/
structure Asleep (G : GG) (Q : VK) (all : Bool) (a : Addr) (g n : Nat) (s : Shared) : Prop where
  gen : s.heap.IsGen a g
  lim : s.heap.NoLimit
  bare : AllBare s.gens
  st : ∃ gs, s.gens[g]? = some gs ∧ ∀ s'' : Shared, s''.heap = s.heap → s''.os = s.os → AllBare s''.gens → gs.Goes G.M G.B (GR G Q all) (GY G Q all) n (.send .none) s''
theorem asleep_next {A : Around} {a : Addr} {g n : Nat} {s : Shared} {nm qn : Value} {E : Value → Shared → Prop} (hB : G.B = A.in1) (hh : A.handled = none) (hd : A.depth < recursionLimit) (hp : G.pn = [(a, genO g nm qn)]) (S : Asleep G Q all a g n s) :
    wpAny G.M A (pyNext (.ref a)) (fun r s' => (r = none ∧ ∃ σ H, Inv G.cx [] σ H s' ∧ Q (.bl all) H) ∨
      ∃ b σ H, r = some (.bool b) ∧ Inv G.cx [] σ H s' ∧ (b ≠ all → Q (.bl (!all)) H) ∧ (b = all → ∃ m, n = m + 1 ∧ Asleep G Q all a g m s')) E s := by
  obtain ⟨hg, hl, hb, gs, hgs, hgo⟩ := S
  have hlt : g < s.gens.size := by
    rcases Nat.lt_or_ge g s.gens.size with h' | h'
    · exact h'
    · rw [Array.getElem?_eq_none h'] at hgs; cases hgs
  refine wpAny_gsz (n := g + 1) (by omega) (wpAny_mono (wpAny_pyNext_genexpQ (E := E) (P := fun n _ s1 => n = 0 ∧ ∃ σ H, Inv G.cx [] σ H s1 ∧ Q (.bl all) H) (Y := GY G Q all)
    (Q := fun r s' => (r = none ∧ ∃ σ H, Inv G.cx [] σ H s' ∧ Q (.bl all) H) ∨
      ∃ b σ H s1 gs', s' = s1.setGen g gs' ∧ gs'.bare = true ∧ r = some (.bool b) ∧ Inv G.cx [] σ H s1 ∧ (b ≠ all → Q (.bl (!all)) H) ∧ (b = all → ∃ m, n = m + 1 ∧ ∀ s'' : Shared, s''.heap = s1.heap → s''.os = s1.os → AllBare s''.gens → gs'.Goes G.M G.B (GR G Q all) (GY G Q all) m (.send .none) s''))
    hh hl hd hg hgs (by
      rw [← hB]
      exact hgo (s.setGen g .running) rfl rfl (allBare_setGen hb rfl)) (fun v s1 gs' hbr hY => ?_) (fun s1 hP h' hk => ?_)) (fun r s' h hsz => ?_) fun _ _ e _ => e)
  · obtain ⟨b, σ, H, rfl, I, h1, h2⟩ := hY
    refine .inr ⟨b, σ, H, s1, gs', rfl, hbr, rfl, I, h1, fun e => ?_⟩
    have h2 := h2 e
    cases n with
    | zero => exact (h2 s1 rfl rfl I.bare).elim
    | succ m =>
      refine ⟨m, rfl, fun s'' e1 e2 e3 => ?_⟩
      rw [hB]
      exact h2 s'' e1 e2 e3
  · obtain ⟨_, σ, H, I, hq⟩ := hP
    refine .inl ⟨rfl, σ, H, ?_, hq⟩
    have I2 := I.kept (t' := s1.toks) hk
    exact inv_like I2 rfl rfl (allBare_setGen I.bare rfl)
  · rcases h with ⟨rfl, q⟩ | ⟨b, σ, H, s1, gs', rfl, hbr, rfl, I, h1, h2⟩
    · exact .inl ⟨rfl, q⟩
    · have I' : Inv G.cx [] σ H (s1.setGen g gs') := inv_like I rfl rfl (allBare_setGen I.bare hbr)
      refine .inr ⟨b, σ, H, rfl, I', h1, fun e => ?_⟩
      obtain ⟨m, em, h3⟩ := h2 e
      refine ⟨m, em, ?_, I'.nolimit, I'.bare, gs', setGen_at ?_, fun s'' e1 e2 e3 => h3 s'' e1 e2 e3⟩
      · have := I'.pin (a, genO g nm qn) (List.mem_append_left _ (by show _ ∈ G.pn; rw [hp]; exact List.mem_cons_self))
        exact ⟨_, nm, qn, this.1, rfl, rfl, rfl⟩
      · rw [setGen_size] at hsz
        omega
theorem all_loop {A : Around} {a : Addr} {g : Nat} {nm qn : Value} (hB : G.B = A.in1.in1) (hh : A.handled = none) (hd : A.depth < recursionLimit) (hp : G.pn = [(a, genO g nm qn)]) : ∀ (n : Nat) (s : Shared), Asleep G Q true a g n s →
    codeAny G.M A (.builtin "all.loop" ⟨[.ref a], []⟩) (RB G Q) s := by
  intro n
  induction n with
  | zero =>
    intro s S
    refine codeAny_builtin F.entry_all_loop ?_
    rw [Around.under_plainId F.plain_all_loop _]
    show wpAny _ A.in1 (pyNext (.ref a) >>= _) _ _ s
    refine wpAny_bind (wpAny_mono (asleep_next (A := A.in1) hB hh hd hp S) (fun r s' h => ?_) fun _ _ e => e)
    rcases h with ⟨rfl, σ, H, I, q⟩ | ⟨b, σ, H, rfl, I, h1, h2⟩
    · exact wpAny_bind (wpAny_rule (wpAny_pure ⟨true, σ, H, rfl, I, q⟩))
    · refine wpAny_bind (wpAny_holding (wpAny_truthy_bool ?_))
      refine wpAny_bind (wpAny_letGo ?_)
      cases b with
      | true => obtain ⟨m, e, _⟩ := h2 rfl; cases e
      | false =>
        simp only [Bool.false_eq_true, if_false]
        exact wpAny_bind (wpAny_rule (wpAny_pure ⟨false, σ, H, rfl, I, h1 (by decide)⟩))
  | succ n ih =>
    intro s S
    refine codeAny_builtin F.entry_all_loop ?_
    rw [Around.under_plainId F.plain_all_loop _]
    show wpAny _ A.in1 (pyNext (.ref a) >>= _) _ _ s
    refine wpAny_bind (wpAny_mono (asleep_next (A := A.in1) hB hh hd hp S) (fun r s' h => ?_) fun _ _ e => e)
    rcases h with ⟨rfl, σ, H, I, q⟩ | ⟨b, σ, H, rfl, I, h1, h2⟩
    · exact wpAny_bind (wpAny_rule (wpAny_pure ⟨true, σ, H, rfl, I, q⟩))
    · refine wpAny_bind (wpAny_holding (wpAny_truthy_bool ?_))
      refine wpAny_bind (wpAny_letGo ?_)
      cases b with
      | true =>
        obtain ⟨m, e, S'⟩ := h2 rfl
        cases e
        simp only [if_true]
        exact wpAny_pure ⟨plainId_quiet F.plain_all_loop _, ih s' S'⟩
      | false =>
        simp only [Bool.false_eq_true, if_false]
        exact wpAny_bind (wpAny_rule (wpAny_pure ⟨false, σ, H, rfl, I, h1 (by decide)⟩))
theorem any_loop {A : Around} {a : Addr} {g : Nat} {nm qn : Value} (hB : G.B = A.in1.in1) (hh : A.handled = none) (hd : A.depth < recursionLimit) (hp : G.pn = [(a, genO g nm qn)]) : ∀ (n : Nat) (s : Shared), Asleep G Q false a g n s →
    codeAny G.M A (.builtin "any.loop" ⟨[.ref a], []⟩) (RB G Q) s := by
  intro n
  induction n with
  | zero =>
    intro s S
    refine codeAny_builtin F.entry_any_loop ?_
    rw [Around.under_plainId F.plain_any_loop _]
    show wpAny _ A.in1 (pyNext (.ref a) >>= _) _ _ s
    refine wpAny_bind (wpAny_mono (asleep_next (A := A.in1) hB hh hd hp S) (fun r s' h => ?_) fun _ _ e => e)
    rcases h with ⟨rfl, σ, H, I, q⟩ | ⟨b, σ, H, rfl, I, h1, h2⟩
    · exact wpAny_bind (wpAny_rule (wpAny_pure ⟨false, σ, H, rfl, I, q⟩))
    · refine wpAny_bind (wpAny_holding (wpAny_truthy_bool ?_))
      refine wpAny_bind (wpAny_letGo ?_)
      cases b with
      | false => obtain ⟨m, e, _⟩ := h2 rfl; cases e
      | true =>
        simp only [if_true]
        exact wpAny_bind (wpAny_rule (wpAny_pure ⟨true, σ, H, rfl, I, h1 (by decide)⟩))
  | succ n ih =>
    intro s S
    refine codeAny_builtin F.entry_any_loop ?_
    rw [Around.under_plainId F.plain_any_loop _]
    show wpAny _ A.in1 (pyNext (.ref a) >>= _) _ _ s
    refine wpAny_bind (wpAny_mono (asleep_next (A := A.in1) hB hh hd hp S) (fun r s' h => ?_) fun _ _ e => e)
    rcases h with ⟨rfl, σ, H, I, q⟩ | ⟨b, σ, H, rfl, I, h1, h2⟩
    · exact wpAny_bind (wpAny_rule (wpAny_pure ⟨false, σ, H, rfl, I, q⟩))
    · refine wpAny_bind (wpAny_holding (wpAny_truthy_bool ?_))
      refine wpAny_bind (wpAny_letGo ?_)
      cases b with
      | false =>
        obtain ⟨m, e, S'⟩ := h2 rfl
        cases e
        simp only [Bool.false_eq_true, if_false]
        exact wpAny_pure ⟨plainId_quiet F.plain_any_loop _, ih s' S'⟩
      | true =>
        simp only [if_true]
        exact wpAny_bind (wpAny_rule (wpAny_pure ⟨true, σ, H, rfl, I, h1 (by decide)⟩))
end
/-- the generator expression's own scope: its one name x, the walked thing at «.0», captured names that the def has -/
structure GenT (scope : Scope) (x : Str) : Prop where
  kind : scope.kind = .function
  co : scope.isCoroutine = false
  cell : ∀ y ∈ scope.names, y.2 ≠ .cell
  dot : scope.names.lookup (".0" : Str) = some NameKind.local
  loc : scope.names.lookup x = some .local
/-- all, any: wi what is walked, te the element, js where the captured names stand among the def's, P the table of the def's code -/
def tGen (all : Bool) (P : Addr) (js : List Nat) (wi : TI) (te : TE) : TE := fun σ H Q => wi σ H fun J H1 => TabG H1 P ∧ ∃ (L : Nat) (V0 : Nat → Hp → Prop), (∀ H2, Tabbed P H1 H2 → V0 0 H2) ∧ Word all te (js.map (slotAt σ)) J L V0 Q
section
variable {X : Cx}
theorem gen_make {c P : Addr} {elt iter : Expr} {x : Str} {px gpos : Pos} {scope : Scope} {fr : List Str} {js : List Nat} {wi : TI} {te : TE} {k : Nat} {all : Bool} {Q : VK} {Q' : Value → Shared → Prop} {pins : List (Addr × Obj)} {σ : L2.St} {H : Hp} {s : Shared}
    (hr : Room (k + 1) X.A) (TB : TabB X.base X.mg c P) (hcode : X.env.code = .ref c) (S : GenT scope x)
    (hfree : ∀ y ∈ scope.names, y.2 = .free → X.env.scope.names.lookup y.1 = some .cell ∨ X.env.scope.names.lookup y.1 = some .free)
    (hfr : ∀ y ∈ fr, (y, NameKind.free) ∈ scope.names) (hlf : ∀ y ∈ fr, scope.names.lookup y = some .free) (hjs : js.map (fun j => X.N[j]?) = fr.map some) (hnd : (x :: fr).Nodup)
    (hi : PI X (.Name x px) iter wi)
    (hel : ∀ (cl : List (Str × Addr)) (C : Addr) (code : Value) (bi : Addr) (ex : List Addr) (A' : Around) (pn : List (Addr × Obj)) (s4 : Shared) (H4 : Hp), Room k A' → PE (gx X ex (x :: fr) (genEnv scope cl C code bi X.env) A' pn s4 H4) elt te)
    (hs : ∀ v, genFold iter X.env v = pure v) (I : Inv X pins σ H s) (h : tGen all P js wi te σ H Q)
    (hQ : ∀ (G : GG) (a : Addr) (g n : Nat) (nm qn : Value) (s5 : Shared), G.X = X → G.B = X.A.in1.in1 → G.pn = [(a, genO g nm qn)] → Inv X pins σ G.H4 G.s4 → (∀ b ∈ G.ex, FpOk X pins G.H4 b) → Asleep G Q all a g n s5 → Q' (.ref a) s5) :
    wpAny (model X.prog X.w) X.A (eval (.GeneratorExp elt [⟨.Name x px, iter, [], 0⟩] scope gpos) X.env) Q' X.xe s := by
  have hf0 : ∀ y ∈ scope.names, y.2 = .free → ∃ c, X.env.cells.lookup y.1 = some c := fun y hy e => (hfree y hy e).elim (fun z => I.ok.has _ (.inl z)) fun z => I.ok.has _ (.inr z)
  refine wpAny_GeneratorExp_make S.co (closure_ok hf0) S.cell S.dot S.kind (by have := hr.dp; omega) ?_ hs
  refine thn (hi.run pins s σ H _ I h) fun xv s1 h1 => thn h1 fun itv s2 h2 => ?_
  obtain ⟨it, fp, tn, J, H', rfl, I2, T, st2, hf2, ⟨ps, hP, ht⟩, L, V0, hV, W⟩ := h2
  refine ⟨I2.nolimit, ?_⟩
  have hPs : s2.heap.get? P = some { cls := .none, data := .fields ps } := I2.hok P _ hP
  have cd : PySem.W.CodeHd s2.heap c P := TB.code.keeps fun b u e => I2.bk b u e
  have fpP : ∀ b ∈ fp, b ≠ P := fun b hb e => by
    have := (hf2 b hb).1
    rw [e, hP] at this
    cases this
  have cont : ∀ (code : Value) (h3 : Heap) (tk : Nat) (ps' : Array Value), Heap.ExtBut P s2.heap h3 → s2.heap.objs.size ≤ h3.objs.size → h3.get? P = some { cls := .none, data := .fields ps' } → (∃ more, ps' = ps ++ more) → TriplesOk ps'.toList →
      wpAny (model X.prog X.w) X.A (builtinsFor X.env.globals X.env.builtins) (fun bi s₄ => ∀ h', h'.Ns s₄.heap.objs.size (fun y => if y = ".0" then some (.ref it) else none) → Heap.SameBut s₄.heap.objs.size (s₄.heap.push { cls := .type "frame", data := .dict #[] }) h' →
          Q' (.ref h'.objs.size) { s₄ with
            gens := s₄.gens.push (.fresh (.compStart (.GeneratorExp elt [⟨.Name x px, iter, [], 0⟩] scope gpos) 0 (.ref it) .none (genEnv scope (cloFrom X.env.cells scope.names []) s₄.heap.objs.size code bi X.env))),
            toks := s₄.toks + 1 + 1 + 1,
            heap := h'.push { cls := .type "generator", data := .fields #[.int s₄.gens.size 0, .str "<genexpr>" (s₄.toks + 1), .str (X.env.qual ++ "<genexpr>") (s₄.toks + 1 + 1)] } }) X.xe { s2 with heap := h3, toks := tk } := by
    intro code h3 tk ps' hx hsz hP3 hmore ht3
    obtain ⟨bm, ob, e1, e2, e3, e4, e5, e6, e7, e8⟩ := TB.bm
    have keep3 : ∀ b u, b ≠ P → s2.heap.get? b = some u → h3.get? b = some u := fun b u hb e => hx b u hb e
    refine wpAny_builtinsFor (m := X.mg) (by rw [I2.ok.glob]; exact (I2.mod.glob.keeps I2.bk).extBut hx TB.gP) e1 e2 (keep3 _ _ e4 (I2.bk _ _ e5)) e6 e7 e8 ?_
    obtain ⟨more, em⟩ := hmore
    have I4 := inv_tab (more := more) (h' := h3) (g' := s2.gens) (d' := s2.drawn) (t' := tk) I2 hP keep3 (by rw [← em]; exact hP3) I2.bare
    rw [← em] at I4
    intro h' hn' hs'
    have hsz' : h'.objs.size = h3.objs.size + 1 := by rw [hs'.1, Heap.size_push]
    have keep4 : ∀ b o, h3.get? b = some o → h'.get? b = some o := fun b o e => hs'.extBut b o (Nat.ne_of_lt (Heap.lt_size e)) (Heap.get?_push_of_some _ e)
    have keep5 : ∀ (o : Obj) b u, h3.get? b = some u → (h'.push o).get? b = some u := fun o b u e => Heap.get?_push_of_some _ (keep4 b u e)
    have C := cells_of I4 (Caps.made I4.ok hfree hfr hjs)
    have hN4 : ∀ b ∈ fp, (upd H' P (.tbl ps')) b = none := fun b hb => by rw [upd_ne (fpP b hb)]; exact (hf2 b hb).1
    have hf4 : ∀ b ∈ fp, FpOk X pins (upd H' P (.tbl ps')) b := fun b hb => ⟨hN4 b hb, (hf2 b hb).2⟩
    have fpl : ∀ b ∈ fp, b < h3.objs.size := fun b hb => by
      obtain ⟨o, e, _⟩ := T.obj 0 _ st2 b hb
      exact Nat.lt_of_lt_of_le (Heap.lt_size e) hsz
    have hcells : ∀ b ∈ fp, ∀ y c', (cloFrom X.env.cells scope.names []).lookup y = some c' → c' ≠ b := fun b hb y c' e => (hf2 b hb).2.2.2.2.1 y c' (clo_cm hf0 e)
    have hA : (X.A.in1.in1.over (.compLoop (.GeneratorExp elt [⟨.Name x px, iter, [], 0⟩] scope gpos) 0 (.ref it) .none (genEnv scope (cloFrom X.env.cells scope.names []) h3.objs.size code builtinsNs X.env)) []).frames = some (genEnv scope (cloFrom X.env.cells scope.names []) h3.objs.size code builtinsNs X.env :: X.stack) := by
      show pushEnvs [_] (pushEnvs [] X.A.frames) = _
      rw [I4.ok.frames]
      rfl
    have ok := gx_ok (ex := fp) (N := x :: fr) (env := genEnv scope (cloFrom X.env.cells scope.names []) h3.objs.size code builtinsNs X.env) (A := X.A.in1.in1.over (.compLoop (.GeneratorExp elt [⟨.Name x px, iter, [], 0⟩] scope gpos) 0 (.ref it) .none (genEnv scope (cloFrom X.env.cells scope.names []) h3.objs.size code builtinsNs X.env)) [])
      (pn := [(h'.objs.size, genO s2.gens.size (.str "<genexpr>" (tk + 1)) (.str (X.env.qual ++ "<genexpr>") (tk + 1 + 1)))]) I4 S.kind I4.ok.glob rfl (Nat.le_refl _) rfl C
      (fun y hy => by
        have hk : ∀ q, (genEnv scope (cloFrom X.env.cells scope.names []) h3.objs.size code builtinsNs X.env).kindOf y = some q → (y, q) ∈ scope.names := fun q e => PySem.mem_of_lookup e
        rcases hy with e | e
        · exact absurd rfl (S.cell _ (hk _ e))
        · obtain ⟨c1, h1⟩ := hf0 _ (hk _ e) rfl
          exact ⟨c1, clo_has hf0 (hk _ e) h1⟩)
      hA hr.hd (fun b hb => ⟨hf4 b hb, Nat.ne_of_lt (fpl b hb), hcells b hb⟩)
    have I5 := gx_start (ws := js.map (slotAt σ)) (g' := s2.gens.push (.fresh (.compStart (.GeneratorExp elt [⟨.Name x px, iter, [], 0⟩] scope gpos) 0 (.ref it) .none (genEnv scope (cloFrom X.env.cells scope.names []) h3.objs.size code builtinsNs X.env)))) (t' := tk + 1 + 1 + 1) I4 ok
      (keep5 (genO s2.gens.size (.str "<genexpr>" (tk + 1)) (.str (X.env.qual ++ "<genexpr>") (tk + 1 + 1)))) (hn'.push _) C (fun y hy => hlf y hy) (fun p hp => by
        rw [List.mem_singleton] at hp
        subst hp
        refine ⟨Heap.get?_push_size _ rfl, ?_, ?_, fun v z => by cases z⟩
        · show h3.objs.size ≤ h'.objs.size
          omega
        · show h'.objs.size ≠ h3.objs.size
          omega) (I2.bare.push rfl)
    refine hQ ⟨X, fp, fr, genEnv scope (cloFrom X.env.cells scope.names []) h3.objs.size code builtinsNs X.env, X.A.in1.in1, [(h'.objs.size, genO s2.gens.size (.str "<genexpr>" (tk + 1)) (.str (X.env.qual ++ "<genexpr>") (tk + 1 + 1)))], _, _, elt, iter, x, px, gpos, scope, it⟩ h'.objs.size s2.gens.size L _ _ _ rfl rfl rfl I4 hf4 ?_
    refine ⟨⟨_, _, _, Heap.get?_push_size _ rfl, rfl, rfl, rfl⟩, I5.nolimit, I5.bare, _, Array.getElem?_push_size .., fun s'' z1 z2 z3 => ⟨rfl, ?_⟩⟩
    refine seg_start W T (hel _ _ _ _ _ _ _ _ _ ?_) hnd S.loc S.co s'' s'' none _ (inv_like I5 z1 z2 z3) ?_ (fun b hb => ?_) (hV _ ⟨⟨ps', upd_same, ht3⟩, fun b hb => upd_ne hb⟩)
    · refine ⟨hr.hd, ?_, ?_⟩
      · have := hr.dp
        show X.A.depth + 0 + 1 + 3 * k + 5 < _
        omega
      · have := hr.un
        show X.A.units + 1 + 1 + 0 + 3 + 16 * k + 200 < _
        omega
    · rw [z1]
      exact T.keep 0 _ _ st2 fun b hb o e => keep5 _ b o (keep3 b o (fpP b hb) e)
    · refine ⟨hN4 b hb, Nat.ne_of_lt (fpl b hb), fun z => ?_, .inl hb, hcells b hb, fun p hp => ?_⟩
      · rcases List.mem_cons.mp (I4.stkSub b z) with e | e
        · exact (hf4 b hb).2.1 e
        · exact (hf4 b hb).2.2.1 e
      · have hp : p ∈ [(h'.objs.size, genO s2.gens.size (.str "<genexpr>" (tk + 1)) (.str (X.env.qual ++ "<genexpr>") (tk + 1 + 1)))] := by
          have := hp
          rw [List.append_nil] at this
          exact this
        rw [List.mem_singleton.mp hp]
        show h'.objs.size ≠ b
        intro e
        have h1 : b < h3.objs.size := fpl b hb
        rw [← e, hsz'] at h1
        exact Nat.lt_irrefl _ (Nat.lt_trans (Nat.lt_succ_self _) h1)
  cases hf : codeAmong gpos ps.toList with
  | none =>
    refine wpAny_genexprCodeX hcode (cd.code hPs ht) (cd.tab hPs) hf fun c' h' tk hx hge hlt hco' _ htab' _ => ?_
    obtain ⟨o1, vs, f1, tf, fl, tg, inF, tx, tt, op, _, _, _, _, _, _, _, _, _, htr, _⟩ := hco'
    exact cont _ h' tk _ hx (Nat.le_trans hge (Nat.le_of_lt hlt)) htab'.2 ⟨_, rfl⟩ htr
  | some cv =>
    refine wpAny_genexprCode_hit hcode (cd.code hPs ht) hf ?_
    exact cont cv s2.heap s2.toks ps (Heap.ExtBut.refl _ _) (Nat.le_refl _) hPs ⟨#[], by simp⟩ ht
theorem hfree_of {scope : Scope} (sc : Scope) (h : ∀ y ∈ scope.names, y.2 = .free → sc.names.lookup y.1 = some .cell ∨ sc.names.lookup y.1 = some .free) : ∀ y ∈ scope.names, y.2 = .free → sc.names.lookup y.1 = some .cell ∨ sc.names.lookup y.1 = some .free := h
/-- all(e for x in ..) -/
theorem pe_allG {c P : Addr} {elt iter : Expr} {x : Str} {px p pos gpos : Pos} {scope : Scope} {fr : List Str} {js : List Nat} {wi : TI} {te : TE} {k : Nat}
    (hr : Room (k + 1) X.A) (hg : Gl X "all") (hm : X.mg "all" = none) (hb : bootBuiltins "all" = some (.builtin "all")) (TB : TabB X.base X.mg c P) (hcode : X.env.code = .ref c) (S : GenT scope x)
    (hfree : ∀ y ∈ scope.names, y.2 = .free → X.env.scope.names.lookup y.1 = some .cell ∨ X.env.scope.names.lookup y.1 = some .free)
    (hfr : ∀ y ∈ fr, (y, NameKind.free) ∈ scope.names) (hlf : ∀ y ∈ fr, scope.names.lookup y = some .free) (hjs : js.map (fun j => X.N[j]?) = fr.map some) (hnd : (x :: fr).Nodup)
    (hi : PI X (.Name x px) iter wi)
    (hel : ∀ (cl : List (Str × Addr)) (C : Addr) (code : Value) (bi : Addr) (ex : List Addr) (A' : Around) (pn : List (Addr × Obj)) (s4 : Shared) (H4 : Hp), Room k A' → PE (gx X ex (x :: fr) (genEnv scope cl C code bi X.env) A' pn s4 H4) elt te)
    (hs : ∀ v, genFold iter X.env v = pure v)
    (he : starEach [.GeneratorExp elt [⟨.Name x px, iter, [], 0⟩] scope gpos] X.env = (false, eval (.GeneratorExp elt [⟨.Name x px, iter, [], 0⟩] scope gpos) X.env) :: starEach [] X.env := by rfl) :
    PE X (.Call (.Name "all" p) [.GeneratorExp elt [⟨.Name x px, iter, [], 0⟩] scope gpos] [] pos) (tGen true P js wi te) := by
  refine ⟨fun pins s σ H Q I h => ?_⟩
  refine wpAny_Call_Name_kw (ld_blt I hg hm hb ?_)
  refine PyProof.Rows.callWith_builtin1 ?_ he (by rfl)
  rw [he]
  show wpAny _ _ (spliced ((false, eval (.GeneratorExp elt [⟨.Name x px, iter, [], 0⟩] scope gpos) X.env) :: backTo pos (starEach [] X.env))) _ _ s
  refine Calls.spliced_cons (gen_make hr TB hcode S hfree hfr hlf hjs hnd hi hel hs I h fun G a g n nm qn s5 e1 e2 e3 I4 hf4 Sl => ?_)
  refine Calls.spliced_nil ?_
  refine call_function_tree F.kind_all F.plain_all F.entry_all (F.args_all1 _) ?_
  unfold Builtin.«all»
  refine wpAny_bind (m := oneArg "all" _) (wpAny_pure ?_)
  refine wpAny_bind (wpAny_pyIter_gen Sl.gen ?_)
  subst e1
  refine wpAny_pure ⟨plainId_quiet F.plain_all_loop _, codeAny_mono (all_loop e2 hr.hd (by have := hr.dp; omega) e3 n s5 Sl) fun r s' hR => ?_⟩
  obtain ⟨b, σ', H', rfl, Ig, q⟩ := hR
  exact ⟨.bl b, H', I4.call' Ig.os Ig.base Ig.hok Ig.bare (fun b hb => ⟨(hf4 b hb).2.2.2.1, (hf4 b hb).2.1, (hf4 b hb).2.2.2.2⟩), rfl, q⟩
/-- any(e for x in ..) -/
theorem pe_anyG {c P : Addr} {elt iter : Expr} {x : Str} {px p pos gpos : Pos} {scope : Scope} {fr : List Str} {js : List Nat} {wi : TI} {te : TE} {k : Nat}
    (hr : Room (k + 1) X.A) (hg : Gl X "any") (hm : X.mg "any" = none) (TB : TabB X.base X.mg c P) (hcode : X.env.code = .ref c) (S : GenT scope x)
    (hfree : ∀ y ∈ scope.names, y.2 = .free → X.env.scope.names.lookup y.1 = some .cell ∨ X.env.scope.names.lookup y.1 = some .free)
    (hfr : ∀ y ∈ fr, (y, NameKind.free) ∈ scope.names) (hlf : ∀ y ∈ fr, scope.names.lookup y = some .free) (hjs : js.map (fun j => X.N[j]?) = fr.map some) (hnd : (x :: fr).Nodup)
    (hi : PI X (.Name x px) iter wi)
    (hel : ∀ (cl : List (Str × Addr)) (C : Addr) (code : Value) (bi : Addr) (ex : List Addr) (A' : Around) (pn : List (Addr × Obj)) (s4 : Shared) (H4 : Hp), Room k A' → PE (gx X ex (x :: fr) (genEnv scope cl C code bi X.env) A' pn s4 H4) elt te)
    (hs : ∀ v, genFold iter X.env v = pure v)
    (he : starEach [.GeneratorExp elt [⟨.Name x px, iter, [], 0⟩] scope gpos] X.env = (false, eval (.GeneratorExp elt [⟨.Name x px, iter, [], 0⟩] scope gpos) X.env) :: starEach [] X.env := by rfl) :
    PE X (.Call (.Name "any" p) [.GeneratorExp elt [⟨.Name x px, iter, [], 0⟩] scope gpos] [] pos) (tGen false P js wi te) := by
  refine ⟨fun pins s σ H Q I h => ?_⟩
  refine wpAny_Call_Name_kw (ld_blt I hg hm boot_any ?_)
  refine PyProof.Rows.callWith_builtin1 ?_ he (by rfl)
  rw [he]
  show wpAny _ _ (spliced ((false, eval (.GeneratorExp elt [⟨.Name x px, iter, [], 0⟩] scope gpos) X.env) :: backTo pos (starEach [] X.env))) _ _ s
  refine Calls.spliced_cons (gen_make hr TB hcode S hfree hfr hlf hjs hnd hi hel hs I h fun G a g n nm qn s5 e1 e2 e3 I4 hf4 Sl => ?_)
  refine Calls.spliced_nil ?_
  refine call_function_tree F.kind_any F.plain_any F.entry_any (F.args_any1 _) ?_
  unfold Builtin.«any»
  refine wpAny_bind (m := oneArg "any" _) (wpAny_pure ?_)
  refine wpAny_bind (wpAny_pyIter_gen Sl.gen ?_)
  subst e1
  refine wpAny_pure ⟨plainId_quiet F.plain_any_loop _, codeAny_mono (any_loop e2 hr.hd (by have := hr.dp; omega) e3 n s5 Sl) fun r s' hR => ?_⟩
  obtain ⟨b, σ', H', rfl, Ig, q⟩ := hR
  exact ⟨.bl b, H', I4.call' Ig.os Ig.base Ig.hok Ig.bare (fun b hb => ⟨(hf4 b hb).2.2.2.1, (hf4 b hb).2.1, (hf4 b hb).2.2.2.2⟩), rfl, q⟩
end
end GX
/-! ### tables of code objects that grow while a law runs -/
namespace Jr
open PySem PySem.Spec PyProof.Rows L2 GxR
abbrev TBs (tfs : List He.Defn) (K : PySem.W.Frag) (mg : Str → Option Value) (base : Heap) : Prop := ∀ p ∈ tfs, TabB base mg (He.cT K p).1 (He.cT K p).2
abbrev tps (tfs : List He.Defn) (K : PySem.W.Frag) : List Addr := tfs.map fun p => (He.cT K p).2
def TbS (ps : List Addr) (H : Hp) : Prop := ∀ P ∈ ps, TabG H P
/-- all stays but the tables, which stay tables -/
structure Tbd (ps : List Addr) (H H' : Hp) : Prop where
  same : ∀ b o, b ∉ ps → H b = some o → H' b = some o
  tab : TbS ps H'
/-- without the tables -/
def er (ps : List Addr) (H : Hp) : Hp := fun b => if b ∈ ps then none else H b
section
variable {ps : List Addr} {H H' H1 H2 : Hp}
theorem TbS.same (t : TbS ps H) (s : Same H H') : TbS ps H' := fun P hP => by
  obtain ⟨q, e, r⟩ := t P hP
  exact ⟨q, s _ _ e, r⟩
theorem Tbd.of (t : TbS ps H) (s : Same H H') : Tbd ps H H' := ⟨fun b o _ e => s b o e, t.same s⟩
theorem Tbd.refl (t : TbS ps H) : Tbd ps H H := .of t (Same.refl _)
theorem Tbd.trans (a : Tbd ps H H1) (b : Tbd ps H1 H2) : Tbd ps H H2 := ⟨fun c o n e => b.same c o n (a.same c o n e), b.tab⟩
theorem Tbd.step (a : Tbd ps H H1) (s : Same H1 H2) : Tbd ps H H2 := a.trans (.of a.tab s)
theorem Tbd.one {P : Addr} (t : TbS ps H) (h : Tabbed P H H') (m : P ∈ ps) : Tbd ps H H' := by
  refine ⟨fun b o n e => ?_, fun Q hQ => ?_⟩
  · rw [h.2 b (fun z => n (z ▸ m))]
    exact e
  · by_cases z : Q = P
    · rw [z]; exact h.1
    · obtain ⟨q, e, r⟩ := t Q hQ
      exact ⟨q, by rw [h.2 Q z]; exact e, r⟩
theorem TbS.out (t : TbS ps H) {a : Addr} {o : HO} (h : H a = some o) (no : ∀ q, o ≠ .tbl q) : a ∉ ps := fun m => by
  obtain ⟨q, e, _⟩ := t a m
  rw [h] at e
  exact no q (Option.some.inj e)
theorem TbS.outN (t : TbS ps H) {a : Addr} (h : H a = none) : a ∉ ps := fun m => by
  obtain ⟨q, e, _⟩ := t a m
  rw [h] at e
  cases e
theorem Tbd.keep (t : Tbd ps H H') (g : TbS ps H) {a : Addr} {o : HO} (h : H a = some o) (no : ∀ q, o ≠ .tbl q := by intro q z; cases z) : H' a = some o := t.same a o (g.out h no) h
theorem Tbd.free (t : Tbd ps H H') {a : Addr} (h : H' a = none) : H a = none := by
  cases e : H a with
  | none => rfl
  | some o => rw [t.same a o (t.tab.outN h) e] at h; cases h
theorem Tbd.mut (t : Tbd ps H H') {a : Addr} {o : HO} (g : TbS ps H) (n : H a = none) : Tbd ps H (upd H' a o) := by
  have na := g.outN n
  refine ⟨fun b u hb e => ?_, fun P hP => ?_⟩
  · rw [upd_ne (fun z => by rw [z, n] at e; cases e)]
    exact t.same b u hb e
  · obtain ⟨q, e, r⟩ := t.tab P hP
    exact ⟨q, by rw [upd_ne (show P ≠ a from fun z => na (by rw [← z]; exact hP))]; exact e, r⟩
theorem er_same : Same (er ps H) H := fun a o e => by
  unfold er at e
  split at e
  · cases e
  · exact e
theorem er_at {a : Addr} {o : HO} (h : H a = some o) (n : a ∉ ps) : er ps H a = some o := by
  unfold er
  rw [if_neg n]
  exact h
theorem TbS.er (t : TbS ps H) {a : Addr} {o : HO} (h : H a = some o) (no : ∀ q, o ≠ .tbl q := by intro q z; cases z) : er ps H a = some o := er_at h (t.out h no)
theorem Tbd.er (t : Tbd ps H H') : Same (er ps H) H' := fun a o e => by
  unfold Jr.er at e
  split at e
  · cases e
  · rename_i n; exact t.same a o n e
theorem Tbd.er2 (t : Tbd ps H H') : Same (Jr.er ps H) (Jr.er ps H') := fun a o e => by
  have h := t.er a o e
  unfold Jr.er at e
  split at e
  · cases e
  · rename_i n; exact er_at h n
theorem er_seq {K : PySem.W.Frag} (t : TbS ps H) {a : Addr} {xs : List V} (h : SqL K H a xs) : SqL K (er ps H) a xs := by
  rcases h with (h | ⟨o, h⟩) | h
  · exact .inl (.inl (t.er h))
  · exact .inl (.inr ⟨o, t.er h⟩)
  · exact .inr h
theorem er_pair {α : Type} {F : Hp → Addr → α → Prop} (hF : ∀ a x, F H a x → F (er ps H) a x) : ∀ {as : List Addr} {xs : List α}, Paired (F H) as xs → Paired (F (er ps H)) as xs
  | _, _, .nil => .nil
  | _, _, .cons h t => .cons (hF _ _ h) (er_pair hF t)
theorem RowsAt.er (t : TbS ps H) {p : Addr} {rs : Rws} (h : RowsAt H p rs) : RowsAt (er ps H) p rs := by
  obtain ⟨as, hp, hr⟩ := h
  exact ⟨as, t.er hp, er_pair (F := TupAt) (fun a x q => t.er (show H a = _ from q)) hr⟩
theorem TabAt.er (t : TbS ps H) {C : Addr} {x : Addr} {z : Str} {rs : Rws} (h : TabAt C H x z rs) : TabAt C (Jr.er ps H) x z rs := by
  obtain ⟨dx, lr, lp, dn, dr, m, h1, h2, h3, h4, h5, h6⟩ := h.ex
  exact ⟨⟨dx, lr, lp, dn, dr, m, t.er h1, RowsAt.er t h2, t.er h3, t.er h4, t.er h5, h6⟩, h.ok⟩
theorem TabAt.tbd {C : Addr} {x : Addr} {z : Str} {rs : Rws} (h : TabAt C H x z rs) (t : TbS ps H) (d : Tbd ps H H') : TabAt C H' x z rs := (TabAt.er t h).same d.er
theorem RowsAt.tbd {p : Addr} {rs : Rws} (h : RowsAt H p rs) (t : TbS ps H) (d : Tbd ps H H') : RowsAt H' p rs := (RowsAt.er t h).same d.er
theorem Tbd.seq {K : PySem.W.Frag} (d : Tbd ps H H') (t : TbS ps H) {a : Addr} {xs : List V} (h : SqL K H a xs) : SqL K H' a xs := d.er.seq (er_seq t h)
end
/-- the law's promise where tables grow -/
def spLawT (K : PySem.W.Frag) (ps : List Addr) : Sp := fun vs H Q _ => ∃ (a : Addr) (ns : List Int), vs = [.ref a] ∧ SqL K H a (ns.map V.int) ∧ ns.length ≤ 63 ∧ TbS ps H ∧ ∀ H', Q (.bl true) H'
section
variable {P : Program} {w : World} {K : PySem.W.Frag} {mg : Str → Option Value} {base : Heap}
/-- a def whose code object is told -/
theorem fnT_of {CX : CXT} {x qual : Str} {params : Arguments} {body : List Stmt} {scope : Scope} {p : He.Defn} {fd : FuncData} {N ps : List Str} {k : Nat} {sp : Sp} (F : FunD K x qual params body scope [] [] (He.fAd K p) fd) (S : FnScope N ps scope)
    (many : ∀ vs H Q E, sp vs H Q E → vs.length = ps.length)
    (runs : ∀ (cdv : Value), cdv = .ref (He.cT K p).1 → ∀ (A : Around) (outer : List Env) (s : Shared) (H : Hp) (vs : List V) (Q : VK) (E : XK), Room k (A.deeper (envOfC qual scope s.heap.objs.size (He.fAd K p) cdv)) → sp vs H Q E →
      ∃ t, PSs (cxOf CX P w K mg base N qual scope (He.fAd K p) cdv A outer s H E) body t ∧ t { nx := fun _ H' => Q .non H', rt := Q } (start N vs) H) : FnOk P w K mg base CX (k + 1) (He.fAd K p) fd ps sp := by
  obtain ⟨oc, od, dV, kV, doc, pm, an, cdv, ct, osl, rfl, lk, hcd, _, _⟩ := F.ex
  obtain ⟨c, rfl⟩ := He.codeIn_ref hcd
  have e := He.codeOf_eq (c := c) lk rfl
  exact fn_of lk hcd S many fun A outer s H vs Q E hr hsp => runs _ (congrArg Value.ref e.symm) A outer s H vs Q E hr hsp
end
/-- the end -/
theorem walkT {l : PySem.W.OpenLaw} {tfs : List He.Defn} {n k : Nat} {q : Program} {loose : List Str} {XP : (Str → Option Value) → Heap → Prop} {d : DefRec} {x : Str} {YP : World → Heap → Prop}
    (hn : l.most = some n) (hn63 : n = 63) (hdf : d.params.defaults = []) (hr : Room k callerA)
    (F : ∀ (w : World) (mg : Str → Option Value) (fa : Addr) (h : Heap), YP w h → h.Ns mainGlobals mg → mg d.name = some (.ref fa) →
      ∃ (K : PySem.W.Frag) (fd : FuncData), K.In h ∧ (∀ p ∈ tfs, PySem.W.codeHdIn K (He.cT K p).1 (He.cT K p).2 = true) ∧ (∀ p ∈ tfs, K.lookup (He.cT K p).2 = none) ∧ (∀ p ∈ tfs, h.get? (He.cT K p).2 = some { cls := .none, data := .fields #[] }) ∧
        (∀ (s : Shared) (v : Value), BindsTo s fd ⟨[v], []⟩ [(x, v)]) ∧ ∀ base : Heap, K.In base → base.Ns mainGlobals mg → TBs tfs K mg base → FnOk l.prog w K mg base CX0 k fa fd [x] (spLawT K (tps tfs K))) :
    PySem.W.WalkO q loose XP YP l.row.toRowW d [] (fun f vs => PySem.call f vs) := by
  refine LamX.walk_ofTsE (CX := fun _ => CX0) (x := x) hn (by rw [hn63]; decide) hdf hr (fun w mg fa h Y G hmg => ?_) (fun _ _ _ _ _ z => z)
  obtain ⟨K, fd, KX, h1, h2, h3, hb, hF⟩ := F w mg fa h Y G hmg
  refine ⟨K, KX, fd, tfs.map (He.cT K), spLawT K (tps tfs K), fun p hp => ?_, fun p hp => ?_, fun p hp => ?_, hb, fun H a ns hl _ hT hS => ⟨a, ns, rfl, hS, by omega, fun P hP => ?_, fun _ => rfl⟩, fun base hK hN hT => hF base hK hN fun p hp => by
    have q := hT _ (List.mem_map.mpr ⟨p, hp, rfl⟩)
    exact ⟨q.1, q.2, q.3⟩⟩
  · obtain ⟨d, hd, rfl⟩ := List.mem_map.mp hp
    exact h3 d hd
  · obtain ⟨d, hd, rfl⟩ := List.mem_map.mp hp
    exact h2 d hd
  · obtain ⟨d, hd, rfl⟩ := List.mem_map.mp hp
    exact PySem.W.codeHd_of_K KX (h1 d hd)
  · obtain ⟨d, hd, rfl⟩ := List.mem_map.mp hP
    refine ⟨#[], hT _ (List.mem_map.mpr ⟨d, hd, rfl⟩), ?_⟩
    first | trivial | (simp [TriplesOk])
end Jr
namespace Jr
open PySem PySem.Spec PyProof.Rows L2
/-! ### what is refused, and with what -/
theorem tyx_same {K : PySem.W.Frag} {H H' : Hp} {v : V} {t : Value} (h : TyX K H v t) (s : Same H H') : TyX K H' v t := by
  cases h with
  | base b =>
    cases b with
    | non => exact .base .non
    | bl x => exact .base (.bl x)
    | int i => exact .base (.int i)
    | str x => exact .base (.str x)
    | flt x => exact .base (.flt x)
    | lst e => exact .base (.lst (s _ _ e))
    | frz e => exact .base (.frz (s _ _ e))
    | tup e => exact .base (.tup (s _ _ e))
    | dK e => exact .base (.dK (s _ _ e))
    | dT e => exact .base (.dT (s _ _ e))
    | ins e cl ha hn htk hm => exact .base (.ins (s _ _ e) cl ha hn htk hm)
  | byt b => exact .byt b
  | set e => exact .set (s _ _ e)
  | kList e c => exact .kList e c
  | kTuple e c => exact .kTuple e c
  | kDict e c => exact .kDict e c
  | fTuple e => exact .fTuple (s _ _ e)
  | fDict e => exact .fDict (s _ _ e)
theorem NoStr.same {K : PySem.W.Frag} {H H' : Hp} {v : V} (h : NoStr K H v) (s : Same H H') : NoStr K H' v := by
  obtain ⟨t, a, b⟩ := h
  exact ⟨t, tyx_same a s, b⟩
section
variable {K : PySem.W.Frag} {H : Hp}
theorem noStr_non : NoStr K H .non := ⟨_, .base .non, kit_ty (by decide +kernel)⟩
theorem noStr_bl (b : Bool) : NoStr K H (.bl b) := ⟨_, .base (.bl b), kit_ty (by decide +kernel)⟩
theorem noStr_int (i : Int) : NoStr K H (.int i) := ⟨_, .base (.int i), kit_ty (by decide +kernel)⟩
theorem noStr_lst {a : Addr} {xs : List V} (h : H a = some (.lst xs)) : NoStr K H (.ref a) := ⟨_, .base (.lst h), kit_ty (by decide +kernel)⟩
theorem noStr_tup {a : Addr} {xs : List V} (h : H a = some (.tup xs)) : NoStr K H (.ref a) := ⟨_, .base (.tup h), kit_ty (by decide +kernel)⟩
theorem noStr_dK {a : Addr} {xs : List (Key × V)} (h : H a = some (.dK xs)) : NoStr K H (.ref a) := ⟨_, .base (.dK h), kit_ty (by decide +kernel)⟩
end
/-- the place of the first sign that is not z's -/
def wrong1 (z t : Str) : Option Nat := t.cps.toList.findIdx? fun c => !decide (c ∈ z.cps.toList)
theorem wrong1_none {z t : Str} : wrong1 z t = none ↔ TextOf z t := by
  unfold wrong1
  rw [List.findIdx?_eq_none_iff]
  exact ⟨fun h c hc => by simpa using h c hc, fun h c hc => by simpa using h c hc⟩
theorem wrong1_at {z t : Str} {i c : Nat} (h : ∀ j d, j < i → t.cps.toList[j]? = some d → d ∈ z.cps.toList) (hc : t.cps.toList[i]? = some c) (n : ¬ c ∈ z.cps.toList) : wrong1 z t = some i := by
  unfold wrong1
  obtain ⟨hi, e⟩ := List.getElem?_eq_some_iff.mp hc
  rw [List.findIdx?_eq_some_iff_getElem]
  refine ⟨hi, ?_, fun j hj => ?_⟩
  · rw [e]; simpa using n
  · have := h j _ hj (List.getElem?_eq_getElem (by omega))
    simpa using this
theorem wrong1_lt {z t : Str} {i : Nat} (h : wrong1 z t = some i) : i < t.length := by
  unfold wrong1 at h
  obtain ⟨hi, _⟩ := List.findIdx?_eq_some_iff_getElem.mp h
  rw [← len_cps]; exact hi
/-- v is refused as a text of z's signs, w the place -/
def Bad (K : PySem.W.Frag) (H : Hp) (z : Str) (v w : V) : Prop := (∃ t i, v = .str t ∧ wrong1 z t = some i ∧ w = .int (i : Nat)) ∨ (NoStr K H v ∧ w = .non)
theorem Bad.same {K : PySem.W.Frag} {H H' : Hp} {z : Str} {v w : V} (h : Bad K H z v w) (s : Same H H') : Bad K H' z v w := by
  rcases h with h | ⟨h, e⟩
  · exact .inl h
  · exact .inr ⟨h.same s, e⟩
/-- an error of the class at C with one field is wanted -/
def Rz (C : Addr) (f : Str) (v : V) (H : Hp) (E : XK) : Prop := ∀ H' d, Same H H' → H d = none → H' d = some (.xd [(f, v)]) → E (.ref C) (some d) H'
theorem Rz.same {C : Addr} {f : Str} {v : V} {H H1 : Hp} {E : XK} (h : Rz C f v H E) (s : Same H H1) : Rz C f v H1 E := fun H' d s1 n e => h H' d (s.trans s1) (s.free n) e
theorem Rz.now {C : Addr} {f : Str} {v : V} {H : Hp} {E : XK} (h : Rz C f v H E) : ∀ d, H d = none → E (.ref C) (some d) (upd H d (.xd [(f, v)])) := fun d n => h _ d (Same.new n) n upd_same
theorem fmt_nat (i : Nat) (h : i ≤ 100000) : Fmt (.int (i : Nat)) := .inr (.inl ⟨_, rfl, by
  have e : ((i : Nat) : Int).natAbs = i := by omega
  rw [e]
  rcases Nat.eq_zero_or_pos i with h0 | h0
  · rw [h0]; decide
  · have : i.log2 < 20 := (Nat.log2_lt (by omega)).mpr (by omega)
    omega⟩)
end Jr
namespace Jr
open PySem PySem.Spec PyProof.Rows L2
/-- figures -/
def figS : Str := Str.ofString "0123456789"
theorem fig_cps : figS.cps.toList = [48, 49, 50, 51, 52, 53, 54, 55, 56, 57] := by decide +kernel
theorem fig_mem {c : Nat} : c ∈ figS.cps.toList ↔ 48 ≤ c ∧ c ≤ 57 := by
  rw [fig_cps]
  simp only [List.mem_cons, List.not_mem_nil, or_false]
  omega
/-- a written number -/
def wrT (t : Str) : Bool := decide (1 ≤ t.length ∧ t.length ≤ 60) && (!(decide (t.cps.toList[0]? = some 48) && decide (1 < t.length)) && t.cps.toList.all fun c => decide (c ∈ figS.cps.toList))
/-- a thing that is a written number or none -/
def Wr (K : PySem.W.Frag) (H : Hp) (v : V) (rb : Bool) : Prop := (NoStr K H v ∧ (∀ t, v ≠ .str t) ∧ rb = false) ∨ ∃ t, v = .str t ∧ t.length ≤ 100000 ∧ rb = wrT t
theorem Wr.same {K : PySem.W.Frag} {H H' : Hp} {v : V} {rb : Bool} (h : Wr K H v rb) (s : Same H H') : Wr K H' v rb := h.imp (fun ⟨a, e⟩ => ⟨a.same s, e⟩) id
section
variable {P : Program} {w : World} {K : PySem.W.Frag} {mg : Str → Option Value} {base : Heap}
/-- a number told -/
def spShow (K : PySem.W.Frag) : Sp := fun vs H Q _ => ∃ n : Nat, vs = [.int (n : Nat)] ∧ n < 10 ^ 70 ∧ Q (.str (Str.ofString (toString ((n : Nat) : Int)))) H
theorem cal_show_number (T : Tx K mg) : Cal P w K mg base CX0 1 "show_number" (spShow K) := by
  obtain ⟨fd, F⟩ := T.d_show_number
  refine ⟨_, fd, P_show_number, F.ok sc_show_number (fun vs H Q E h => ?_) (fun cdv A outer s H vs Q E hr h => ?_), T.g_show_number, F.kp, F.bindsN (ps := P_show_number) fun _ _ _ _ _ _ us hl => match us, hl with | [_], _ => rfl⟩
  · obtain ⟨n, rfl, _⟩ := h
    rfl
  · obtain ⟨n, rfl, hn, k⟩ := h
    refine ⟨_, (PSs.nox (pss_one (ps_ret (pe_callTy (T := "str") call_str_int (by rfl) T.n_str (by decide +kernel) (pa_cons (pv 0) pa_nil))))), ?_⟩
    have hb : n.log2 < 1920 := by
      have h1 : n < 2 ^ 1920 := Nat.lt_of_lt_of_le hn (by decide)
      by_cases h0 : n = 0
      · rw [h0]; decide
      · exact (Nat.log2_lt h0).mpr h1
    exact ⟨_, rfl, _, rfl, (by show ((n : Nat) : Int).natAbs.log2 < 1920; rw [Int.natAbs_natCast]; exact hb), k⟩
/-- whatever is asked for a written number -/
def spWr (K : PySem.W.Frag) (ps : List Addr) : Sp := fun vs H Q _ => ∃ (v : V) (rb : Bool), vs = [v] ∧ TbS ps H ∧ Wr K H v rb ∧ ∀ H', Tbd ps H H' → Q (.bl rb) H'
theorem cal_is_written_number (T : Tx K mg) (TB : TBs tfs K mg base) : Cal P w K mg base CX0 2 "is_written_number" (spWr K (tps tfs K)) := by
  obtain ⟨fd, F⟩ := T.d_is_written_number
  have TB_is_written_number := TB ("is_written_number", none) (by decide +kernel)
  refine ⟨_, fd, P_is_written_number, fnT_of F sc_is_written_number (fun vs H Q E h => ?_) (fun cdv hcd A outer s H vs Q E hr h => ?_), T.g_is_written_number, F.kp, F.bindsN (ps := P_is_written_number) fun _ _ _ _ _ _ us hl => match us, hl with | [_], _ => rfl⟩
  · obtain ⟨v, rb, rfl, _⟩ := h
    rfl
  · obtain ⟨v, rb, rfl, ht, h, k⟩ := h
    refine ⟨_, (PSs.nox (pss_cons (ps_if (PW.pt (pw_or (pt_not (pt_val (pe_callB (id := "isinstance") call_isi (by rfl) T.n_isinstance (by decide +kernel) (pa_cons (pv 0) (pa_cons (pe_bltn (v := .ty "str") (by rfl) T.n_str (by decide +kernel) rfl) pa_nil))))) (pw_or1 (pt_not (pt_chain op_le op_le pe_int (pe_callB (id := "len") call_len_str (by rfl) T.n_len (by decide +kernel) (pa_cons (pv 0) pa_nil)) (pe_glob (v := .int 60) (by rfl) T.c_MOST_FIGURES.choose_spec ⟨_, rfl⟩)))))) (pss_one (ps_ret pe_bl)) pss_nil)
      (pss_cons (ps_if (PW.pt (pw_and (pt_cmpR op_eq (pe_ix ix_str (pv 0) pe_int (fun _ _ => rfl)) pe_str (nomark _)) (pw_and1 (pt_cmpR op_gt (pe_callB (id := "len") call_len_str (by rfl) T.n_len (by decide +kernel) (pa_cons (pv 0) pa_nil)) pe_int (nomark _))))) (pss_one (ps_ret pe_bl)) pss_nil)
      (pss_one (ps_ret (GX.pe_allG (k := 0) (js := []) (fr := []) (hr.mono (by decide)) (by rfl) T.n_all (by decide +kernel) (TB_is_written_number) (by first | rfl | exact hcd) ⟨rfl, rfl, by decide +kernel, rfl, rfl⟩ (GX.hfree_of (defScope s_is_written_number) (by decide +kernel)) (by decide +kernel) (by decide +kernel) rfl (by decide +kernel) (pi_str (pv 0)) (fun cl C code bi ex A' pn s4 H4 hr => (pe_cmpR op_in_sign (pv 0) (pe_glob (v := .str "0123456789") (by rfl) T.c_FIGURES.choose_spec ⟨_, rfl⟩) rfl)) (fun _ => rfl))))))), ?_⟩
    have mP : (He.cT K ("is_written_number", none)).2 ∈ tps tfs K := List.mem_map.mpr ⟨("is_written_number", none), by decide +kernel, rfl⟩
    rcases h with ⟨⟨ty, hty, hk⟩, _, rfl⟩ | ⟨t, rfl, tl, rfl⟩
    · exact ⟨_, rfl, _, _, _, _, _, rfl, .ty "str", hty, hk, _, rfl, iteT (k _ (Tbd.refl ht))⟩
    refine ⟨_, rfl, _, _, _, _, _, rfl, .ty "str", .base (.str _), isStr, _, rfl, iteF ?_⟩
    have tlen := len_cps t
    have fin : ∀ (b : Bool) (H' : Hp), Tbd (tps tfs K) H H' → wrT t = b → Q (.bl b) H' := fun b H' d e => by rw [← e]; exact k H' d
    refine ⟨_, rfl, t, rfl, sz (by omega), _, _, rfl, rfl, _, rfl, ?_⟩
    by_cases c1 : 1 ≤ t.length
    rotate_left
    · rw [show decide ((1 : Int) ≤ ((t.length : Nat) : Int)) = false from decide_eq_false (by omega)]
      refine iteF ⟨_, rfl, iteT (fin _ _ (Tbd.refl ht) ?_)⟩
      unfold wrT
      rw [decide_eq_false (fun h => c1 h.1)]; rfl
    rw [show decide ((1 : Int) ≤ ((t.length : Nat) : Int)) = true from decide_eq_true (by omega)]
    refine iteT ⟨_, _, rfl, rfl, _, rfl, ?_⟩
    by_cases c2 : t.length ≤ 60
    rotate_left
    · rw [show decide (((t.length : Nat) : Int) ≤ (60 : Int)) = false from decide_eq_false (by omega)]
      refine iteT (fin _ _ (Tbd.refl ht) ?_)
      unfold wrT
      rw [decide_eq_false (fun h => c2 h.2)]; rfl
    rw [show decide (((t.length : Nat) : Int) ≤ (60 : Int)) = true from decide_eq_true (by omega)]
    refine iteF ?_
    have ew : wrT t = (!(decide (t.cps.toList[0]? = some 48) && decide (1 < t.length)) && t.cps.toList.all fun c => decide (c ∈ figS.cps.toList)) := by
      unfold wrT
      rw [decide_eq_true (show 1 ≤ t.length ∧ t.length ≤ 60 from ⟨c1, c2⟩), Bool.true_and]
    obtain ⟨c0, hc0⟩ : ∃ c0, t.cps.toList[0]? = some c0 := ⟨_, List.getElem?_eq_getElem (by omega)⟩
    rw [hc0] at ew
    refine ⟨_, rfl, _, _, c0, rfl, rfl, sz (by omega), (show atI _ ((0 : Nat) : Int) = _ from ats hc0), rfl, _, rfl, ?_⟩
    have e0 : decide (V.str ⟨#[c0]⟩ = V.str (Str.ofString "0")) = decide (some c0 = some 48) := by
      by_cases c : c0 = 48
      · rw [c]; decide +kernel
      · rw [decide_eq_false (fun e => c (Option.some.inj e)), decide_eq_false]
        intro e
        have := congrArg (fun s : Str => s.cps.toList) (V.str.inj e)
        rw [show (Str.ofString "0").cps.toList = [48] by decide +kernel] at this
        exact c (List.cons.inj this).1
    rw [e0]
    have rest : wrT t = t.cps.toList.all (fun c => decide (c ∈ figS.cps.toList)) → tNext {
          nx := tRet (GX.tGen true (He.cT K (Str.ofString "is_written_number", none)).snd [] (iStr (tVar 0)) (tOp (fun x y H Q => ∃ c z, x = V.str { cps := #[c] } ∧ y = V.str z ∧ Q (V.bl (decide (c ∈ z.cps.toList))) H) (tVar 0) (tC (V.str (Str.ofString "0123456789"))))) { nx := fun x H' => Q V.non H', rt := Q },
          rt := Q } (L2.start N_is_written_number [V.str t]) H := fun ew => by
      refine ⟨_, rfl, t, rfl, ht _ mP, t.length, fun i H2 => Tbd (tps tfs K) H H2 ∧ (t.cps.toList.take i).all (fun c => decide (c ∈ figS.cps.toList)) = true, fun H2 q => ⟨Tbd.one ht q mP, by rw [List.take_zero]; rfl⟩, ⟨fun i H2 ⟨td, ha⟩ hi => ?_, fun H2 ⟨td, ha⟩ => ?_⟩⟩
      · obtain ⟨c, hc⟩ : ∃ c, t.cps.toList[i]? = some c := ⟨_, List.getElem?_eq_getElem (by omega)⟩
        refine ⟨by show i < t.cps.size; exact hi, fun y H3 hy => ?_⟩
        obtain ⟨rfl, c', hc', rfl⟩ := hy
        have : c' = c := by
          rw [← Array.getElem?_toList] at hc'
          rw [hc] at hc'
          exact (Option.some.inj hc').symm
        subst this
        refine ⟨_, rfl, c', figS, rfl, rfl, _, rfl, fun h => ?_, fun h => ?_⟩
        · refine fin _ _ td ?_
          rw [ew]
          have hf : decide (c' ∈ figS.cps.toList) = false := by
            cases e : decide (c' ∈ figS.cps.toList) with
            | false => rfl
            | true => exact absurd e h
          exact List.all_eq_false.mpr ⟨c', List.mem_of_getElem? hc, by rw [hf]; decide⟩
        · refine ⟨td, ?_⟩
          have et : t.cps.toList.take (i + 1) = t.cps.toList.take i ++ [c'] := by rw [List.take_add_one, hc]; rfl
          rw [et, List.all_append, ha, List.all_cons, h]
          rfl
      · refine ⟨by show t.cps.size ≤ t.length; exact Nat.le_refl _, fin _ _ td ?_⟩
        rw [ew]
        rwa [List.take_of_length_le (by omega)] at ha
    by_cases z0 : c0 = 48
    · subst z0
      rw [show decide (some 48 = some 48) = true from rfl] at ew ⊢
      refine iteT ⟨_, rfl, t, rfl, sz (by omega), _, _, rfl, rfl, _, rfl, ?_⟩
      by_cases c3 : 1 < t.length
      · rw [show decide ((1 : Int) < ((t.length : Nat) : Int)) = true from decide_eq_true (by omega)]
        refine iteT (fin _ _ (Tbd.refl ht) ?_)
        rw [ew, decide_eq_true c3]; rfl
      · rw [show decide ((1 : Int) < ((t.length : Nat) : Int)) = false from decide_eq_false (by omega)]
        refine iteF (rest ?_)
        rw [ew, decide_eq_false c3]; rfl
    · rw [show decide (some c0 = some 48) = false from decide_eq_false (fun e => z0 (Option.some.inj e))] at ew ⊢
      refine iteF (iteF (rest ?_))
      rw [ew]; rfl
end
end Jr
namespace Jr
open PySem PySem.Spec PyProof.Rows L2
theorem len2 {s y : Str} {n m : Nat} (h : s.length ≤ n) (hy : y.length ≤ m) : (s ++ y).length ≤ n + m := by rw [app_len]; omega
section
variable {P : Program} {w : World} {K : PySem.W.Frag} {mg : Str → Option Value} {base : Heap}
def spJE (K : PySem.W.Frag) : Sp := fun vs H Q _ => ∃ (a C : Addr) (v : V), vs = [.ref a, v] ∧ OexC K C ∧ H a = some (exo a C none) ∧ Q .non H
theorem cdf_JoinError (T : Tx K mg) : Cdf P w K mg base 1 "JoinError" (He.ga K "JoinError") "__init__" (spJE K) := by
  obtain ⟨fd, F⟩ := T.d_JoinError___init__
  refine ⟨⟨_, fd, P_JoinError___init__, F.ok sc_JoinError___init__ (fun vs H Q E h => ?_) (fun cdv A outer s H vs Q E hr h => ?_), T.rd_JoinError, T.ga_JoinError, T.fc_JoinError, F.kp,
    F.bindsN (ps := P_JoinError___init__) fun _ _ _ _ _ _ us hl => match us, hl with | [_, _], _ => rfl⟩, T.g_JoinError⟩
  · obtain ⟨a, C, v, rfl, _⟩ := h
    rfl
  · obtain ⟨a, C, v, rfl, ox, ha, k⟩ := h
    refine ⟨_, (PSs.nox (pss_one (ps_expr (pe_veinit (by rfl) T.n_ValueError (vV _) (pa_cons (pv 0) (pa_cons (pv 1) pa_nil)))))), ?_⟩
    exact ⟨_, rfl, _, rfl, a, C, [v], rfl, (by show 1 ≤ 1000; decide), ox, ha, k⟩
end
end Jr
namespace Jr
open PySem PySem.Spec PyProof.Rows L2
section
variable {P : Program} {w : World} {K : PySem.W.Frag} {mg : Str → Option Value} {base : Heap}
theorem exk_NoText (T : Tx K mg) : Exk P w K mg base 2 "NoText" (He.ga K "NoText") (spX1 (He.ga K "NoText") "row") := by
  have D_JoinError___init__ := cdf_JoinError (P := P) (w := w) (base := base) T
  obtain ⟨fd, F⟩ := T.d_NoText___init__
  refine ⟨⟨_, fd, P_NoText___init__, F.ok sc_NoText___init__ (fun vs H Q E h => ?_) (fun cdv A outer s H vs Q E hr h => ?_), T.in_NoText, T.it_NoText,
    F.bindsN (ps := P_NoText___init__) fun _ _ _ _ _ _ us hl => match us, hl with | [_, _], _ => rfl⟩, T.xc_NoText, T.g_NoText⟩
  · obtain ⟨a, v, rfl, _⟩ := h
    rfl
  · obtain ⟨a, v, rfl, fm, ha, k⟩ := h
    refine ⟨_, (PSs.nox (pss_cons (ps_expr (pe_cdef D_JoinError___init__ (by first | exact hr | exact hr.mono (by decide)) (by rfl) (pa_cons (pv 0) (pa_cons (pe_joined (.cons pe_str (.cons (pe_fmtN (pv 1)) .nil))) pa_nil))))
      (pss_one (ps_ost (pv 0) (pv 1))))), ?_⟩
    refine ⟨_, rfl, _, rfl, (by decide +kernel), _, rfl, fm, fun y hy => ⟨y, rfl, sz (Nat.le_trans (len2 (n := 100) (by decide +kernel) hy) (by decide)), a, _, _, rfl, T.xc_NoText.oex, ha, ?_⟩⟩
    exact ⟨_, rfl, _, rfl, a, _, rfl, T.xc_NoText.oex, T.no_NoText_row, .inl ⟨ha, fun d nd ne => k d nd ne⟩⟩
end
end Jr
namespace Jr
open PySem PySem.Spec PyProof.Rows L2
def valT (t : Str) : Nat := NumText.digitsVal t.cps.toList
theorem int_wr {t : Str} (h : wrT t = true) : intText? t = some ((valT t : Nat) : Int) := by
  unfold wrT at h
  rw [Bool.and_eq_true, Bool.and_eq_true, decide_eq_true_iff] at h
  obtain ⟨⟨h1, h2⟩, _, h3⟩ := h
  refine PySem.intText_digits (fun c hc => fig_mem.mp (of_decide_eq_true (List.all_eq_true.mp h3 c hc))) (fun e => ?_) (by omega)
  have := len_cps t
  rw [e] at this
  rw [← this] at h1
  exact absurd h1 (by decide)
section
variable {P : Program} {w : World} {K : PySem.W.Frag} {mg : Str → Option Value} {base : Heap}
abbrev CText (K : PySem.W.Frag) : Addr := He.ga K "NoText"
def spReadX (K : PySem.W.Frag) (ps : List Addr) : Sp := fun vs H Q E => ∃ (v : V) (rb : Bool), vs = [v] ∧ TbS ps H ∧ Wr K H v rb ∧ (∀ t H', v = .str t → rb = true → Tbd ps H H' → Q (.int (valT t : Nat)) H') ∧ (rb = false → ∀ H', Tbd ps H H' → Rz (CText K) "row" (.int 0) H' E)
theorem calx_read_number (T : Tx K mg) (TB : TBs tfs K mg base) : Cal P w K mg base (L2.CX P w) 4 "read_number" (spReadX K (tps tfs K)) := by
  have C_is_written_number := cal_is_written_number (P := P) (w := w) (base := base) T TB
  have E_NoText := exk_NoText (P := P) (w := w) (base := base) T
  obtain ⟨fd, F⟩ := T.d_read_number
  refine ⟨_, fd, P_read_number, F.ok sc_read_number (fun vs H Q E h => ?_) (fun cdv A outer s H vs Q E hr h => ?_), T.g_read_number, F.kp, F.bindsN (ps := P_read_number) fun _ _ _ _ _ _ us hl => match us, hl with | [_], _ => rfl⟩
  · obtain ⟨v, rb, rfl, _⟩ := h
    rfl
  · obtain ⟨v, rb, rfl, ht, wr, k1, k2⟩ := h
    refine ⟨_, (pss_cons (ps_if (pt_not (pt_val (pe_cal C_is_written_number (by first | exact hr | exact hr.mono (by decide)) (by rfl) (pa_cons (pv 0) pa_nil)))) (pss_one (ps_raise rfl (takes_of rfl rfl rfl rfl) (E_NoText.mk1 (by first | exact hr | exact hr.mono (by decide)) (pa_cons pe_int pa_nil)))) pss_nil)
      (pss_one (ps_ret (pe_callTy (T := "int") call_int_str (by rfl) T.n_int (by decide +kernel) (pa_cons (pv 0) pa_nil))))), ?_⟩
    refine ⟨_, rfl, v, rb, rfl, ht, wr, fun H1 d1 => ?_⟩
    cases rb with
    | false =>
      exact ⟨_, rfl, iteT ⟨_, rfl, fmt_nat 0 (by decide), (k2 rfl H1 d1).now⟩⟩
    | true =>
      refine ⟨_, rfl, iteF ?_⟩
      rcases wr with ⟨_, _, e⟩ | ⟨t, rfl, tl, e⟩
      · cases e
      have hw := int_wr e.symm
      have : t.length ≤ 60 := by
        have e := e.symm
        unfold wrT at e
        rw [Bool.and_eq_true, decide_eq_true_iff] at e
        exact e.1.2
      exact ⟨_, rfl, t, _, rfl, hw, by omega, k1 t H1 rfl rfl d1⟩
/-- what the law reads -/
def rd01 (t : Str) : Bool → V × V
  | true => (.str (Str.ofString "read"), .int (valT t : Nat))
  | false => (.str (Str.ofString "no"), .int 0)
def spRead01 (K : PySem.W.Frag) (ps : List Addr) : Sp := fun vs H Q _ => ∃ (v : V) (rb : Bool), vs = [v] ∧ TbS ps H ∧ Wr K H v rb ∧
  (∀ t H' q, v = .str t → rb = true → Tbd ps H H' → H' q = some (.tup [.str (Str.ofString "read"), .int (valT t : Nat)]) → Q (.ref q) H') ∧ (rb = false → ∀ H' q, Tbd ps H H' → H' q = some (.tup [.str (Str.ofString "no"), .int 0]) → Q (.ref q) H')
theorem cal__law_read (T : Tx K mg) (TB : TBs tfs K mg base) : Cal P w K mg base CX0 5 "_law_read" (spRead01 K (tps tfs K)) := by
  have CX_read_number := calx_read_number (P := P) (w := w) (base := base) T TB
  obtain ⟨fd, F⟩ := T.d__law_read
  refine ⟨_, fd, P__law_read, F.ok sc__law_read (fun vs H Q E h => ?_) (fun cdv A outer s H vs Q E hr h => ?_), T.g__law_read, F.kp, F.bindsN (ps := P__law_read) fun _ _ _ _ _ _ us hl => match us, hl with | [_], _ => rfl⟩
  · obtain ⟨v, rb, rfl, _⟩ := h
    rfl
  · obtain ⟨v, rb, rfl, ht, wr, k1, k2⟩ := h
    refine ⟨_, (PSs.nox (pss_cons (ps_set (i := 1) sc__law_read.nd rfl (Or.inl rfl) (pe_tupG (pa_cons pe_str (pa_cons pe_int pa_nil))))
      (pss_cons (ps_try_as (i := 2) rfl rfl sc__law_read.nd rfl rfl ⟨rfl, by decide, .inl T.g_NoText⟩ takes0 (fun W pn xe tk _ => (pss_one (ps_set (i := 1) sc__law_read.nd rfl (Or.inl rfl) (pe_tupG (pa_cons pe_str (pa_cons (pe_calX CX_read_number (by first | exact hr | exact hr.mono (by decide)) (by rfl) tk (pa_cons (pv 0) pa_nil)) pa_nil)))))) (fun a oe cls d pn hz hf => (pss_one (ps_set (i := 1) sc__law_read.nd rfl (Or.inl rfl) (pe_tupG (pa_cons pe_str (pa_cons (pe_xf T.xc_NoText.xf T.no_NoText_row hz hf (pv 2)) pa_nil)))))))
      (pss_one (ps_ret (pv 1)))))), ?_⟩
    refine ⟨(by show 2 ≤ sizeLine; decide), fun q0 H0 n0 s0 h0 => ?_⟩
    have t0 := ht.same s0
    refine ⟨_, rfl, v, rb, rfl, t0, wr.same s0, fun t H1 e1 e2 d1 => ?_, fun e H1 d1 H2 d s2 nd hd => ?_⟩
    · exact ⟨(by show 2 ≤ sizeLine; decide), fun q H2 nq s2 hq => ⟨_, rfl, k1 t H2 q e1 e2 (((Tbd.of ht s0).trans d1).step s2) hq⟩⟩
    · refine ⟨true, T.exm_NoText_NoText, fun _ a na => ?_, fun q => nomatch q⟩
      exact ⟨_, rfl, rfl, rfl, d, _, _, rfl, hd, rfl, (by show 2 ≤ sizeLine; decide), fun q H3 nq s3 hq => ⟨_, rfl, k2 e H3 q ((((Tbd.of ht s0).trans d1).step s2).step s3) hq⟩⟩
end
end Jr
namespace Jr
open PySem PySem.Spec PyProof.Rows L2
theorem dv_app01 (xs : List Nat) (c : Nat) : NumText.digitsVal (xs ++ [c]) = NumText.digitsVal xs * 10 + (c - 48) := by
  unfold NumText.digitsVal
  rw [List.foldl_append]; rfl
theorem occ01 : ∀ k : Fin 10, Builtin.Str.occurrences figS ⟨#[48 + k.1]⟩ 0 figS.length 1 = [k.1] := by decide +kernel
theorem at01 : ∀ k : Fin 10, figS.cps.toList[k.1]? = some (48 + k.1) := by decide +kernel
theorem log01 {n : Nat} (h : n < 10 ^ 61) : n.log2 < 300 := by
  have h1 : n < 2 ^ 300 := Nat.lt_of_lt_of_le h (by decide)
  by_cases h0 : n = 0
  · rw [h0]; decide
  · exact (Nat.log2_lt h0).mpr h1
section
variable {P : Program} {w : World} {K : PySem.W.Frag} {mg : Str → Option Value} {base : Heap}
def spDue01 (K : PySem.W.Frag) : Sp := fun vs H Q _ => ∃ t : Str, vs = [.str t] ∧ t.length ≤ 100000 ∧ (wrT t = true → Q (.int (valT t : Nat)) H) ∧ (wrT t = false → Q .non H)
theorem cal__law_due01 (T : Tx K mg) : Cal P w K mg base CX0 1 "_law_due" (spDue01 K) := by
  obtain ⟨fd, F⟩ := T.d__law_due
  refine ⟨_, fd, P__law_due, F.ok sc__law_due (fun vs H Q E h => ?_) (fun cdv A outer s H vs Q E hr h => ?_), T.g__law_due, F.kp, F.bindsN (ps := P__law_due) fun _ _ _ _ _ _ us hl => match us, hl with | [_], _ => rfl⟩
  · obtain ⟨t, rfl, _⟩ := h
    rfl
  · obtain ⟨t, rfl, tl, k1, k2⟩ := h
    refine ⟨_, (PSs.nox (pss_cons (ps_if (PW.pt (pw_or (pt_cmpR op_eq (pv 0) pe_str (nomark _)) (pw_or (pt_cmpR op_gt (pe_callB (id := "len") call_len_str (by rfl) T.n_len (by decide +kernel) (pa_cons (pv 0) pa_nil)) pe_int (nomark _)) (pw_or1 (PW.pt (pw_and (pt_cmpR op_eq (pe_ix ix_str (pv 0) pe_int (fun _ _ => rfl)) pe_str (nomark _)) (pw_and1 (pt_cmpR op_gt (pe_callB (id := "len") call_len_str (by rfl) T.n_len (by decide +kernel) (pa_cons (pv 0) pa_nil)) pe_int (nomark _))))))))) (pss_one (ps_ret pe_non)) pss_nil)
      (pss_cons (ps_set (i := 1) sc__law_due.nd rfl (Or.inl rfl) pe_int)
      (pss_cons (ps_for PassesOwn.never rfl (pi_str (pv 0)) (pg_name (i := 2) sc__law_due.nd rfl (Or.inl rfl)) (pss_cons (ps_if (pt_cmpR op_notIn_sign (pv 2) pe_str rfl) (pss_one (ps_ret pe_non)) pss_nil)
      (pss_one (ps_set (i := 1) sc__law_due.nd rfl (Or.inl rfl) (pe_op op_add (pe_op op_mul (pv 1) pe_int) (pe_bm PySem.F.plainAttrs_str PySem.F.slot_str_index PySem.F.type_str_index mt_sindex pe_str (pa_cons (pv 2) pa_nil)))))))
      (pss_one (ps_ret (pv 1))))))), ?_⟩
    have tlen := len_cps t
    have ret : wrT t = false → Q .non H := k2
    refine ⟨_, rfl, rfl, _, rfl, ?_⟩
    have e0 : decide (V.str t = V.str (Str.ofString "")) = decide (t.length = 0) := by
      by_cases c : t.length = 0
      · rw [decide_eq_true c, decide_eq_true]
        congr 1
        refine str_ext ?_
        have := List.length_eq_zero_iff.mp (show t.cps.toList.length = 0 by rw [tlen]; exact c)
        rw [this]; rfl
      · rw [decide_eq_false c, decide_eq_false]
        intro e
        exact c (by rw [V.str.inj e]; rfl)
    rw [e0]
    by_cases c1 : t.length = 0
    · rw [decide_eq_true c1]
      refine iteT (iteT (k2 ?_))
      unfold wrT
      rw [decide_eq_false (fun h => by omega)]; rfl
    rw [decide_eq_false c1]
    refine iteF ⟨_, rfl, t, rfl, sz (by omega), _, _, rfl, rfl, _, rfl, ?_⟩
    by_cases c2 : t.length ≤ 60
    rotate_left
    · rw [show decide ((60 : Int) < ((t.length : Nat) : Int)) = true from decide_eq_true (by omega)]
      refine iteT (iteT (k2 ?_))
      unfold wrT
      rw [decide_eq_false (fun h => c2 h.2)]; rfl
    rw [show decide ((60 : Int) < ((t.length : Nat) : Int)) = false from decide_eq_false (by omega)]
    refine iteF ?_
    have ew : wrT t = (!(decide (t.cps.toList[0]? = some 48) && decide (1 < t.length)) && t.cps.toList.all fun c => decide (c ∈ figS.cps.toList)) := by
      unfold wrT
      rw [decide_eq_true (show 1 ≤ t.length ∧ t.length ≤ 60 from ⟨by omega, c2⟩), Bool.true_and]
    obtain ⟨c0, hc0⟩ : ∃ c0, t.cps.toList[0]? = some c0 := ⟨_, List.getElem?_eq_getElem (by omega)⟩
    rw [hc0] at ew
    refine ⟨_, rfl, _, _, c0, rfl, rfl, sz (by omega), (show atI _ ((0 : Nat) : Int) = _ from ats hc0), rfl, _, rfl, ?_⟩
    have e0 : decide (V.str ⟨#[c0]⟩ = V.str (Str.ofString "0")) = decide (some c0 = some 48) := by
      by_cases c : c0 = 48
      · rw [c]; decide +kernel
      · rw [decide_eq_false (fun e => c (Option.some.inj e)), decide_eq_false]
        intro e
        have := congrArg (fun s : Str => s.cps.toList) (V.str.inj e)
        rw [show (Str.ofString "0").cps.toList = [48] by decide +kernel] at this
        exact c (List.cons.inj this).1
    rw [e0]
    have spl : (c0 = 48 ∧ 1 < t.length) ∨ (c0 = 48 ∧ ¬ 1 < t.length) ∨ c0 ≠ 48 := by omega
    rcases spl with ⟨rfl, c3⟩ | ⟨rfl, c3⟩ | z0
    · rw [show decide (some 48 = some 48) = true from rfl] at ew ⊢
      refine iteT ⟨_, rfl, t, rfl, sz (by omega), _, _, rfl, rfl, _, rfl, ?_⟩
      rw [show decide ((1 : Int) < ((t.length : Nat) : Int)) = true from decide_eq_true (by omega)]
      refine iteT (k2 ?_)
      rw [ew, decide_eq_true c3]; rfl
    rotate_left
    · rw [show decide (some c0 = some 48) = false from decide_eq_false (fun e => z0 (Option.some.inj e))] at ew ⊢
      have ew : wrT t = t.cps.toList.all fun c => decide (c ∈ figS.cps.toList) := ew
      refine iteF (iteF ?_)
      refine ⟨_, rfl, t, rfl, for_str (x := t) (fun i σ H' => H' = H ∧ ∃ u : Option V, σ = [some (.str t), some (.int (NumText.digitsVal (t.cps.toList.take i) : Nat)), u] ∧ (t.cps.toList.take i).all (fun c => decide (c ∈ figS.cps.toList)) = true) ⟨rfl, _, rfl, rfl⟩ ?_ ?_⟩
      · rintro i c σ H' hc ⟨rfl, u, rfl, ha⟩
        have et : t.cps.toList.take (i + 1) = t.cps.toList.take i ++ [c] := by rw [List.take_add_one, hc]; rfl
        refine ⟨_, rfl, c, figS, rfl, rfl, _, rfl, ?_⟩
        by_cases hf : c ∈ figS.cps.toList
        · rw [decide_eq_true hf]
          obtain ⟨f1, f2⟩ := fig_mem.mp hf
          have oc := occ01 ⟨c - 48, by omega⟩
          rw [show 48 + (c - 48) = c by omega] at oc
          refine iteF ⟨_, rfl, _, _, rfl, rfl, .inr ⟨by decide, by decide⟩, rfl, _, rfl, figS, sgn c, c - 48, [], rfl, rfl, oc, _, _, rfl, rfl, rfl, some (V.str (sgn c)), ?_, ?_⟩
          · rw [et, dv_app01]
            show [some (V.str t), some (V.int (((NumText.digitsVal (t.cps.toList.take i) : Nat) : Int) * 10 + ((c - 48 : Nat) : Int))), some (V.str (sgn c))] = _
            rw [show ((NumText.digitsVal (t.cps.toList.take i) : Nat) : Int) * 10 + ((c - 48 : Nat) : Int) = ((NumText.digitsVal (t.cps.toList.take i) * 10 + (c - 48) : Nat) : Int) by omega]
          · rw [et, List.all_append, ha, List.all_cons, decide_eq_true hf]; rfl
        · rw [decide_eq_false hf]
          refine iteT (k2 ?_)
          rw [ew]
          exact List.all_eq_false.mpr ⟨c, List.mem_of_getElem? hc, by rw [decide_eq_false hf]; decide⟩
      · rintro σ H' ⟨rfl, u, rfl, ha⟩
        rw [List.take_length] at ha ⊢
        exact ⟨_, rfl, k1 (by rw [ew]; exact ha)⟩
    · rw [show decide (some 48 = some 48) = true from rfl] at ew ⊢
      rw [decide_eq_false c3] at ew
      have ew : wrT t = t.cps.toList.all fun c => decide (c ∈ figS.cps.toList) := ew
      refine iteT ⟨_, rfl, t, rfl, sz (by omega), _, _, rfl, rfl, _, rfl, ?_⟩
      rw [show decide ((1 : Int) < ((t.length : Nat) : Int)) = false from decide_eq_false (by omega)]
      refine iteF ?_
      refine ⟨_, rfl, t, rfl, for_str (x := t) (fun i σ H' => H' = H ∧ ∃ u : Option V, σ = [some (.str t), some (.int (NumText.digitsVal (t.cps.toList.take i) : Nat)), u] ∧ (t.cps.toList.take i).all (fun c => decide (c ∈ figS.cps.toList)) = true) ⟨rfl, _, rfl, rfl⟩ ?_ ?_⟩
      · rintro i c σ H' hc ⟨rfl, u, rfl, ha⟩
        have et : t.cps.toList.take (i + 1) = t.cps.toList.take i ++ [c] := by rw [List.take_add_one, hc]; rfl
        refine ⟨_, rfl, c, figS, rfl, rfl, _, rfl, ?_⟩
        by_cases hf : c ∈ figS.cps.toList
        · rw [decide_eq_true hf]
          obtain ⟨f1, f2⟩ := fig_mem.mp hf
          have oc := occ01 ⟨c - 48, by omega⟩
          rw [show 48 + (c - 48) = c by omega] at oc
          refine iteF ⟨_, rfl, _, _, rfl, rfl, .inr ⟨by decide, by decide⟩, rfl, _, rfl, figS, sgn c, c - 48, [], rfl, rfl, oc, _, _, rfl, rfl, rfl, some (V.str (sgn c)), ?_, ?_⟩
          · rw [et, dv_app01]
            show [some (V.str t), some (V.int (((NumText.digitsVal (t.cps.toList.take i) : Nat) : Int) * 10 + ((c - 48 : Nat) : Int))), some (V.str (sgn c))] = _
            rw [show ((NumText.digitsVal (t.cps.toList.take i) : Nat) : Int) * 10 + ((c - 48 : Nat) : Int) = ((NumText.digitsVal (t.cps.toList.take i) * 10 + (c - 48) : Nat) : Int) by omega]
          · rw [et, List.all_append, ha, List.all_cons, decide_eq_true hf]; rfl
        · rw [decide_eq_false hf]
          refine iteT (k2 ?_)
          rw [ew]
          exact List.all_eq_false.mpr ⟨c, List.mem_of_getElem? hc, by rw [decide_eq_false hf]; decide⟩
      · rintro σ H' ⟨rfl, u, rfl, ha⟩
        rw [List.take_length] at ha ⊢
        exact ⟨_, rfl, k1 (by rw [ew]; exact ha)⟩
def spFig01 (K : PySem.W.Frag) : Sp := fun vs H Q _ => ∃ n : Nat, vs = [.int (n : Nat)] ∧ n < 10 ^ 70 ∧ Q (.str (Str.ofString (toString ((n : Nat) : Int)))) H
theorem cal__law_figures01 (T : Tx K mg) : Cal P w K mg base CX0 1 "_law_figures" (spFig01 K) := by
  obtain ⟨fd, F⟩ := T.d__law_figures
  refine ⟨_, fd, P__law_figures, F.ok sc__law_figures (fun vs H Q E h => ?_) (fun cdv A outer s H vs Q E hr h => ?_), T.g__law_figures, F.kp, F.bindsN (ps := P__law_figures) fun _ _ _ _ _ _ us hl => match us, hl with | [_], _ => rfl⟩
  · obtain ⟨n, rfl, _⟩ := h
    rfl
  · obtain ⟨n, rfl, hn, k⟩ := h
    refine ⟨_, (PSs.nox (pss_cons (ps_set (i := 1) sc__law_figures.nd rfl (Or.inl rfl) pe_str)
      (pss_cons (ps_while PassesOwn.never (PW.pt (pw_or (pt_cmpR op_gt (pv 0) pe_int (nomark _)) (pw_or1 (pt_cmpR op_eq (pv 1) pe_str (nomark _))))) (pss_cons (ps_set (i := 1) sc__law_figures.nd rfl (Or.inl rfl) (pe_op op_add_str (pe_ix ix_str pe_str (pe_op op_mod (pv 0) pe_int) (fun _ _ => rfl)) (pv 1)))
      (pss_one (ps_set (i := 0) sc__law_figures.nd rfl (Or.inl rfl) (pe_op op_fdiv (pv 0) pe_int)))))
      (pss_one (ps_ret (pv 1)))))), ?_⟩
    have nl : (TL.numL n).length ≤ 70 := TL.numL_len (by decide) hn
    have fc : ∀ m : Nat, ∃ c, figS.cps.toList[m % 10]? = some c ∧ c = 48 + m % 10 := fun m => ⟨_, at01 ⟨m % 10, Nat.mod_lt _ (by decide)⟩, rfl⟩
    refine ⟨fun m σ H' => H' = H ∧ ∃ (k : Nat) (f : Str), σ = [some (.int (k : Nat)), some (.str f)] ∧ m = k + (if f.cps.toList = [] then 1 else 0) ∧ ((TL.numL n = TL.numL k ++ f.cps.toList ∧ (f.cps.toList = [] ∨ 0 < k)) ∨ (k = 0 ∧ f.cps.toList = TL.numL n)), ⟨_, rfl, n, Str.ofString "", rfl, rfl, .inl ⟨(List.append_nil _).symm, .inl rfl⟩⟩, ?_⟩
    rintro m σ H' ⟨rfl, kk, f, rfl, rfl, inv⟩
    have flen := len_cps f
    have ef : decide (V.str f = V.str (Str.ofString "")) = decide (f.cps.toList = []) := by
      by_cases c : f.cps.toList = []
      · rw [decide_eq_true c, decide_eq_true]
        congr 1
        refine str_ext ?_
        rw [c]; rfl
      · rw [decide_eq_false c, decide_eq_false]
        intro e
        exact c (by rw [V.str.inj e]; rfl)
    refine ⟨_, rfl, _, _, rfl, rfl, _, rfl, ?_⟩
    rcases Nat.eq_zero_or_pos kk with k0 | k0
    rotate_left
    · rw [show decide ((0 : Int) < ((kk : Nat) : Int)) = true from decide_eq_true (by omega)]
      refine iteT (iteT ?_)
      rcases inv with ⟨inv, _⟩ | ⟨e, _⟩
      rotate_left
      · omega
      refine ⟨_, fun _ _ h => h, ?_⟩
      obtain ⟨c, hc, ec⟩ := fc kk
      have fb : f.cps.toList.length ≤ 70 := by
        have := congrArg List.length inv
        rw [List.length_append] at this
        omega
      refine ⟨_, rfl, _, _, rfl, rfl, (by show (0 : Int) < 10; decide), _, _, c, rfl, rfl, (by decide), (by rw [show ((kk : Nat) : Int) % 10 = ((kk % 10 : Nat) : Int) by omega]; exact ats hc), _, rfl, _, _, rfl, rfl, (by rw [← flen]; exact sz (by show 1 + _ ≤ _; omega)), ?_⟩
      refine ⟨_, rfl, _, _, rfl, rfl, ⟨by decide, by decide⟩, ?_⟩
      have hf' : ((⟨#[c]⟩ : Str) ++ f).cps.toList = c :: f.cps.toList := by rw [app_cps]; rfl
      refine ⟨_, ?_, rfl, kk / 10, (⟨#[c]⟩ : Str) ++ f, ?_, rfl, ?_⟩
      · rw [hf', if_neg (by simp)]
        split <;> omega
      · show [some (V.int (((kk : Nat) : Int) / 10)), some (V.str ((⟨#[c]⟩ : Str) ++ f))] = _
        rw [show ((kk : Nat) : Int) / 10 = ((kk / 10 : Nat) : Int) by omega]
      · rw [hf']
        by_cases c9 : kk < 10
        · refine .inr ⟨by omega, ?_⟩
          rw [inv, TL.numL_lt c9, ec, Nat.mod_eq_of_lt c9]; rfl
        · refine .inl ⟨?_, .inr (by omega)⟩
          rw [inv, TL.numL_step (by omega), ec, List.append_assoc]; rfl
    subst k0
    rw [show decide ((0 : Int) < ((0 : Nat) : Int)) = false from rfl]
    refine iteF ⟨_, rfl, rfl, _, rfl, ?_⟩
    rw [ef]
    rcases inv with ⟨inv, e | e⟩ | ⟨_, inv⟩
    · rw [decide_eq_true e]
      refine iteT ?_
      refine ⟨_, fun _ _ h => h, ?_⟩
      obtain ⟨c, hc, ec⟩ := fc 0
      have fb : f.cps.toList.length ≤ 70 := by
        have := congrArg List.length inv
        rw [List.length_append] at this
        omega
      refine ⟨_, rfl, _, _, rfl, rfl, (by show (0 : Int) < 10; decide), _, _, c, rfl, rfl, (by decide), (by rw [show ((0 : Nat) : Int) % 10 = ((0 % 10 : Nat) : Int) by omega]; exact ats hc), _, rfl, _, _, rfl, rfl, (by rw [← flen]; exact sz (by show 1 + _ ≤ _; omega)), ?_⟩
      refine ⟨_, rfl, _, _, rfl, rfl, ⟨by decide, by decide⟩, ?_⟩
      have hf' : ((⟨#[c]⟩ : Str) ++ f).cps.toList = c :: f.cps.toList := by rw [app_cps]; rfl
      refine ⟨_, ?_, rfl, 0 / 10, (⟨#[c]⟩ : Str) ++ f, ?_, rfl, ?_⟩
      · rw [hf', if_neg (by simp)]
        rw [if_pos e]; decide
      · show [some (V.int (((0 : Nat) : Int) / 10)), some (V.str ((⟨#[c]⟩ : Str) ++ f))] = _
        rw [show ((0 : Nat) : Int) / 10 = ((0 / 10 : Nat) : Int) by omega]
      · rw [hf']
        refine .inr ⟨by omega, ?_⟩
        rw [inv, TL.numL_lt (show 0 < 10 by decide), ec]; rfl
    · omega
    · have ne : ¬ f.cps.toList = [] := by rw [inv]; exact TL.numL_ne n
      rw [decide_eq_false ne]
      refine iteF ⟨_, rfl, ?_⟩
      have e : f = Str.ofString (toString ((n : Nat) : Int)) := str_ext (by rw [inv]; exact (TL.tl_num n).symm)
      rw [e]
      exact k
def spDrawn01 (K : PySem.W.Frag) : Sp := fun vs H Q _ => ∃ d tn sz : Nat, vs = [.int (d : Nat), .int (tn : Nat), .int (sz : Nat)] ∧ d < 10 ^ 60 ∧ tn ≤ 10 ∧ sz < 60 ∧ ∀ r : Nat, r < 10 ^ 60 → Q (.int (r : Nat)) H
theorem cal__law_drawn01 (T : Tx K mg) : Cal P w K mg base CX0 1 "_law_drawn" (spDrawn01 K) := by
  obtain ⟨fd, F⟩ := T.d__law_drawn
  refine ⟨_, fd, P__law_drawn, F.ok sc__law_drawn (fun vs H Q E h => ?_) (fun cdv A outer s H vs Q E hr h => ?_), T.g__law_drawn, F.kp, F.bindsN (ps := P__law_drawn) fun _ _ _ _ _ _ us hl => match us, hl with | [_, _, _], _ => rfl⟩
  · obtain ⟨d, tn, sz, rfl, _⟩ := h
    rfl
  · obtain ⟨d, tn, sz, rfl, hd, ht, hs, k⟩ := h
    refine ⟨_, (PSs.nox (pss_cons (ps_set (i := 3) sc__law_drawn.nd rfl (Or.inl rfl) pe_int)
      (pss_cons (ps_set (i := 4) sc__law_drawn.nd rfl (Or.inl rfl) (pv 0))
      (pss_cons (ps_for PassesOwn.never rfl (pi_range1 (by rfl) T.n_range (pa_cons (pv 2) pa_nil)) (pg_name (i := 5) sc__law_drawn.nd rfl (Or.inl rfl)) (pss_one (ps_set (i := 3) sc__law_drawn.nd rfl (Or.inl rfl) (pe_op op_mul (pv 3) pe_int))))
      (pss_cons (ps_for PassesOwn.never rfl (pi_range1 (by rfl) T.n_range (pa_cons (pv 1) pa_nil)) (pg_name (i := 5) sc__law_drawn.nd rfl (Or.inl rfl)) (pss_one (ps_set (i := 4) sc__law_drawn.nd rfl (Or.inl rfl) (pe_op op_mod (pe_op op_mulW (pv 4) (pe_op op_add (pv 0) (pv 5))) (pe_op op_pow pe_int pe_int)))))
      (pss_one (ps_ret (pe_op op_mod (pv 4) (pv 3))))))))), ?_⟩
    have eM : (10 : Int) ^ Int.toNat 60 = ((10 ^ 60 : Nat) : Int) := by decide +kernel
    have lM : (10 : Nat) ^ 60 < 10 ^ 61 := by decide +kernel
    have pM : 0 < (10 : Nat) ^ 60 := by decide +kernel
    have hm : 10 ^ (sz + 1) ≤ 10 ^ 60 := Nat.pow_le_pow_right (by decide) (by omega)
    have pm : 0 < 10 ^ (sz + 1) := Nat.pow_pos (by decide)
    have big : d + 11 < 10 ^ 61 := Nat.lt_of_lt_of_le (Nat.add_lt_add_right hd 11) (by decide +kernel)
    refine ⟨_, rfl, _, rfl, _, rfl, by omega, by omega, for_range (lo := 0) (n := ((sz : Nat) : Int).toNat) (fun i σ H' => H' = H ∧ ∃ u : Option V, σ = [some (.int (d : Nat)), some (.int (tn : Nat)), some (.int (sz : Nat)), some (.int ((10 ^ (i + 1) : Nat) : Int)), some (.int (d : Nat)), u]) ⟨rfl, _, rfl⟩ ?_ ?_⟩
    · rintro i σ H' hi ⟨rfl, u, rfl⟩
      refine ⟨_, rfl, _, _, rfl, rfl, .inr ⟨by decide, by decide⟩, rfl, some (V.int (0 + ((i : Nat) : Int))), ?_⟩
      show [_, _, _, some (V.int (((10 ^ (i + 1) : Nat) : Int) * ((10 : Nat) : Int))), _, _] = _
      rw [← Int.natCast_mul, ← Nat.pow_succ]
    · rintro σ H' ⟨rfl, u, rfl⟩
      rw [Int.toNat_natCast]
      generalize 10 ^ (sz + 1) = m at hm pm
      refine ⟨_, rfl, _, rfl, by omega, by omega, for_range (lo := 0) (n := ((tn : Nat) : Int).toNat) (fun i σ H2 => H2 = H' ∧ ∃ (r : Nat) (u : Option V), r < 10 ^ 60 ∧ σ = [some (.int (d : Nat)), some (.int (tn : Nat)), some (.int (sz : Nat)), some (.int (m : Nat)), some (.int (r : Nat)), u]) ⟨rfl, d, _, hd, rfl⟩ ?_ ?_⟩
      · rintro i σ H2 hi ⟨rfl, r, u, hr, rfl⟩
        refine ⟨_, rfl, _, rfl, _, rfl, _, _, rfl, rfl, _, _, rfl, rfl, ?_, _, _, rfl, rfl, ⟨by decide, by decide, by decide⟩, _, _, rfl, rfl, ?_, rfl, (r * (d + i)) % 10 ^ 60, some (V.int (0 + ((i : Nat) : Int))), Nat.mod_lt _ pM, ?_⟩
        · show ((r : Nat) : Int).natAbs.log2 + (((d : Nat) : Int) + (0 + ((i : Nat) : Int))).natAbs.log2 < 1000000
          rw [show ((d : Nat) : Int) + (0 + ((i : Nat) : Int)) = ((d + i : Nat) : Int) by omega, Int.natAbs_natCast, Int.natAbs_natCast]
          have h1 := log01 (Nat.lt_trans hr lM)
          have h2 : (d + i).log2 < 300 := log01 (Nat.lt_of_le_of_lt (by omega) big)
          omega
        · show (0 : Int) < 10 ^ Int.toNat 60
          rw [eM]; exact Int.ofNat_lt.mpr pM
        · show [_, _, _, _, some (V.int ((((r : Nat) : Int) * (((d : Nat) : Int) + (0 + ((i : Nat) : Int)))) % (10 ^ Int.toNat 60))), _] = _
          rw [eM, show ((d : Nat) : Int) + (0 + ((i : Nat) : Int)) = ((d + i : Nat) : Int) by omega, ← Int.natCast_mul]
          rfl
      · rintro σ H2 ⟨rfl, r, u, hr, rfl⟩
        exact ⟨_, rfl, _, rfl, _, _, rfl, rfl, (by show (0 : Int) < ((m : Nat) : Int); omega), k (r % m) (Nat.lt_of_lt_of_le (Nat.mod_lt _ pm) hm)⟩
def spBent01 (K : PySem.W.Frag) : Sp := fun vs H Q _ => ∃ (f : Str) (wy pl : Nat) (s : Str), vs = [.str f, .int (wy : Nat), .int (pl : Nat), .str s] ∧ f.length ≤ 100 ∧ s.length ≤ 1 ∧ ∀ y : Str, y.length ≤ 220 → Q (.str y) H
theorem cal__law_bent01 (T : Tx K mg) : Cal P w K mg base CX0 1 "_law_bent" (spBent01 K) := by
  obtain ⟨fd, F⟩ := T.d__law_bent
  refine ⟨_, fd, P__law_bent, F.ok sc__law_bent (fun vs H Q E h => ?_) (fun cdv A outer s H vs Q E hr h => ?_), T.g__law_bent, F.kp, F.bindsN (ps := P__law_bent) fun _ _ _ _ _ _ us hl => match us, hl with | [_, _, _, _], _ => rfl⟩
  · obtain ⟨f, wy, pl, s, rfl, _⟩ := h
    rfl
  · obtain ⟨f, wy, pl, s, rfl, fl, sl, k⟩ := h
    refine ⟨_, (PSs.nox (pss_cons (ps_set (i := 4) sc__law_bent.nd rfl (Or.inl rfl) (pe_op op_mod (pv 2) (pe_op op_add (pe_callB (id := "len") call_len_str (by rfl) T.n_len (by decide +kernel) (pa_cons (pv 0) pa_nil)) pe_int)))
      (pss_cons (ps_if (pt_cmpR op_eq (pv 1) pe_int (nomark _)) (pss_one (ps_ret (pe_op op_add_str (pe_op op_add_str (pe_slice sl_str (pv 0) po_none (po_some (pv 4))) (pv 3)) (pe_slice sl_str (pv 0) (po_some (pv 4)) po_none)))) pss_nil)
      (pss_cons (ps_if (pt_cmpR op_eq (pv 1) pe_int (nomark _)) (pss_one (ps_ret (pe_op op_add_str (pe_slice sl_str (pv 0) po_none (po_some (pv 4))) (pe_slice sl_str (pv 0) (po_some (pe_op op_add (pv 4) pe_int)) po_none)))) pss_nil)
      (pss_cons (ps_if (pt_cmpR op_eq (pv 1) pe_int (nomark _)) (pss_one (ps_ret (pe_op op_add_str (pe_op op_add_str (pe_slice sl_str (pv 0) po_none (po_some (pv 4))) (pv 3)) (pe_slice sl_str (pv 0) (po_some (pe_op op_add (pv 4) pe_int)) po_none)))) pss_nil)
      (pss_one (ps_ret (pv 0)))))))), ?_⟩
    have h0 := Int.emod_nonneg (pl : Int) (show ((f.length + 1 : Nat) : Int) ≠ 0 by omega)
    obtain ⟨j, hj⟩ := Int.eq_ofNat_of_zero_le h0
    refine ⟨_, rfl, _, rfl, f, rfl, sz (by omega), _, _, rfl, rfl, _, _, rfl, rfl, (by show (0 : Int) < ((f.length : Nat) : Int) + 1; omega), ?_⟩
    show gName 4 (V.int ((pl : Int) % (((f.length : Nat) : Int) + 1))) _ _ _
    rw [show ((f.length : Nat) : Int) + 1 = ((f.length + 1 : Nat) : Int) by omega, hj]
    have c1 := cutS_length f none (some (j : Int))
    have c2 := cutS_length f (some (j : Int)) none
    have c3 := cutS_length f (some ((j : Int) + 1)) none
    have a1 := app_len (cutS f none (some (j : Int))) s
    have a2 := app_len (cutS f none (some (j : Int)) ++ s) (cutS f (some (j : Int)) none)
    have a3 := app_len (cutS f none (some (j : Int)) ++ s) (cutS f (some ((j : Int) + 1)) none)
    have a4 := app_len (cutS f none (some (j : Int))) (cutS f (some ((j : Int) + 1)) none)
    refine ⟨_, rfl, rfl, _, rfl, ite2 (fun _ => ?_) (fun _ => ?_)⟩
    · exact ⟨_, rfl, _, rfl, _, rfl, f, rfl, sz (by omega), _, rfl, _, _, rfl, rfl, sz (by omega), _, rfl, _, rfl, _, rfl, f, rfl, sz (by omega), _, _, rfl, rfl, sz (by omega), k _ (by omega)⟩
    refine ⟨_, rfl, rfl, _, rfl, ite2 (fun _ => ?_) (fun _ => ?_)⟩
    · exact ⟨_, rfl, _, rfl, _, rfl, f, rfl, sz (by omega), _, rfl, _, rfl, _, _, rfl, rfl, _, rfl, f, rfl, sz (by omega), _, _, rfl, rfl, sz (by omega), k _ (by omega)⟩
    refine ⟨_, rfl, rfl, _, rfl, ite2 (fun _ => ?_) (fun _ => ?_)⟩
    · exact ⟨_, rfl, _, rfl, _, rfl, f, rfl, sz (by omega), _, rfl, _, _, rfl, rfl, sz (by omega), _, rfl, _, rfl, _, _, rfl, rfl, _, rfl, f, rfl, sz (by omega), _, _, rfl, rfl, sz (by omega), k _ (by omega)⟩
    exact ⟨_, rfl, k f (by omega)⟩
end
end Jr
namespace Jr
open PySem PySem.Spec PyProof.Rows L2
/-! ### lists of flat things: == -/
def fdV : V → PyData
  | .bl b => .bool b
  | .int i => .int i
  | .str s => .str s
  | _ => .none
def Fl : V → Prop
  | .non => True
  | .bl _ => True
  | .int _ => True
  | .str s => Asc s
  | _ => False
section
variable {K : PySem.W.Frag} {H : Hp}
theorem dpFl {v : V} (h : Fl v) : Dp K H v (fdV v) := by
  cases v with
  | non => exact .non
  | bl b => exact .bl b
  | int i => exact .int i
  | str s => exact .str s
  | _ => exact h.elim
theorem dpAFl : ∀ {xs : List V}, (∀ x ∈ xs, Fl x) → DpAll K H xs (xs.map fdV)
  | [], _ => .nil
  | x :: xs, h => .cons (dpFl (h x List.mem_cons_self)) (dpAFl fun y hy => h y (List.mem_cons_of_mem _ hy))
theorem dpL {a : Addr} {xs : List V} (h : SqL K H a xs) (f : ∀ x ∈ xs, Fl x) : Dp K H (.ref a) (.list (xs.map fdV)) := .lst h (dpAFl f)
theorem dpT {a : Addr} {xs : List V} (h : SqT K H a xs) (f : ∀ x ∈ xs, Fl x) : Dp K H (.ref a) (.tuple (xs.map fdV)) := .tup h (dpAFl f)
end
theorem lay_fl {v : V} (h : Fl v) : PyData.canLay0 (fdV v) = true := by
  cases v with
  | str s => exact asc_ok h
  | non => rfl
  | bl b => rfl
  | int i => rfl
  | _ => exact h.elim
theorem layA_fl : ∀ {xs : List V}, (∀ x ∈ xs, Fl x) → PyData.canLayAll0 (xs.map fdV) = true
  | [], _ => by simp [PyData.canLayAll0]
  | x :: xs, h => by
    have h1 := lay_fl (h x List.mem_cons_self)
    have h2 := layA_fl fun y hy => h y (List.mem_cons_of_mem _ hy)
    simp [PyData.canLayAll0, h1, h2]
theorem dep_fl (v : V) : PyData.depth (fdV v) = 0 := by cases v <;> rfl
theorem depA_fl : ∀ xs : List V, PyData.depthAll (xs.map fdV) = 0
  | [] => by simp [PyData.depthAll]
  | x :: xs => by simp [PyData.depthAll, dep_fl, depA_fl xs]
theorem shL {xs : List V} (h : ∀ x ∈ xs, Fl x) : SeqAt.shaped (.list (xs.map fdV)) = true := by
  unfold SeqAt.shaped
  have h1 : PyData.canLay0 (.list (xs.map fdV)) = true := by simp [PyData.canLay0, layA_fl h]
  have h2 : PyData.depth (.list (xs.map fdV)) = 1 := by simp [PyData.depth, depA_fl]
  rw [h1, h2]; rfl
theorem shT {xs : List V} (h : ∀ x ∈ xs, Fl x) : SeqAt.shaped (.tuple (xs.map fdV)) = true := by
  unfold SeqAt.shaped
  have h1 : PyData.canLay0 (.tuple (xs.map fdV)) = true := by simp [PyData.canLay0, layA_fl h]
  have h2 : PyData.depth (.tuple (xs.map fdV)) = 1 := by simp [PyData.depth, depA_fl]
  rw [h1, h2]; rfl
theorem eqL {xs : List V} (h : ∀ x ∈ xs, Fl x) : PyData.eqv (.list (xs.map fdV)) (.list (xs.map fdV)) = true := SeqAt.eqv_refl _ (by simp [PyData.canLay0, layA_fl h])
theorem eqT {xs : List V} (h : ∀ x ∈ xs, Fl x) : PyData.eqv (.tuple (xs.map fdV)) (.tuple (xs.map fdV)) = true := SeqAt.eqv_refl _ (by simp [PyData.canLay0, layA_fl h])
/-! ### comprehensions over enumerate(text) -/
section
variable {g : TG} {tt : TT} {te : TE} {vs : List Nat} {σ : L2.St} {H1 : Hp} {D : Addr} {Qd : Hp → Prop}
def enL (x : Str) (p : Nat → Nat → Bool) (f : Nat → Nat → V) (n : Nat) : List V := ((x.cps.toList.zipIdx.take n).filter fun q => p q.2 q.1).map fun q => f q.2 q.1
theorem lc_enumSM {x : Str} {p : Nat → Nat → Bool} {f : Nat → Nat → V} (hD : H1 D = none) (hlen : x.cps.toList.length ≤ 100000)
    (turn : ∀ i c, x.cps.toList[i]? = some c → ∀ (H' : Hp) (T : Addr), Same H1 H' → H' T = some (.tup [.int (i : Nat), .str (sgn c)]) → ∀ (N : Hp → Prop) (M : V → Hp → Prop), (p i c = true → M (f i c) H') → (p i c = false → N H') →
      g (.ref T) (wipe σ vs) H' fun σ2 H2 => wipe σ2 vs = wipe σ vs ∧ tt σ2 H2 fun b H3 => if b = true then te σ2 H3 M else N H3)
    (hd : ∀ H, Same H1 H → H D = some (.lst (enL x p f x.cps.toList.length)) → Qd H) :
    ∃ W : Nat → Nat → Hp → Prop, (∃ m, W 0 m (upd H1 D (.lst []))) ∧ ∀ i m H, W i m H →
      ((Ites x).stop i H ∧ Qd H) ∨ ((Ites x).go i H ∧ ∃ Nx : Hp → Prop, (∀ H', Nx H' → ∃ m', m' < m ∧ W (i + 1) m' H') ∧ ∀ y H', (Ites x).yld i H y H' → g y (wipe σ vs) H' fun σ2 H2 => wipe σ2 vs = wipe σ vs ∧ tt σ2 H2 fun b H3 =>
        if b = true then te σ2 H3 fun y H4 => ∃ acc, H4 D = some (.lst acc) ∧ acc.length < sizeLine ∧ Nx (upd H4 D (.lst (acc ++ [y]))) else Nx H3) := by
  have es : x.cps.toList.length = x.cps.size := by simp
  refine ⟨fun i m H => m = x.cps.size - i ∧ i ≤ x.cps.size ∧ Same H1 H ∧ H D = some (.lst (enL x p f i)), ⟨x.cps.size, by simp, Nat.zero_le _, Same.new hD, upd_same⟩, ?_⟩
  rintro i m H ⟨rfl, hi, sm, hL⟩
  by_cases hlt : i < x.cps.size
  · refine .inr ⟨hlt, (fun H' => Same H1 H' ∧ H' D = some (.lst (enL x p f (i + 1)))), fun H' p' => ⟨x.cps.size - (i + 1), by omega, rfl, hlt, p'⟩, fun y H' z => ?_⟩
    obtain ⟨T, c, rfl, hT, hc, rfl⟩ := z
    have hc' : x.cps.toList[i]? = some c := by rw [Array.getElem?_toList]; exact hc
    have hz : x.cps.toList.zipIdx[i]? = some (c, i) := by rw [List.getElem?_zipIdx, hc']; simp
    have e : x.cps.toList.zipIdx.take (i + 1) = x.cps.toList.zipIdx.take i ++ [(c, i)] := by rw [List.take_add_one, hz]; rfl
    have tD : T ≠ D := fun z => by rw [z, hL] at hT; cases hT
    have hL2 := Same.new (o := .tup [.int (i : Nat), .str (sgn c)]) hT _ _ hL
    refine turn i c hc' _ T (Same.put sm hT) upd_same _ _ (fun hp => ⟨_, hL2, ?_, Same.mut (Same.put sm hT) hD, ?_⟩) (fun hp => ⟨Same.put sm hT, ?_⟩)
    · unfold enL
      have h1 : ((x.cps.toList.zipIdx.take i).filter fun q => p q.2 q.1).length ≤ (x.cps.toList.zipIdx.take i).length := List.length_filter_le ..
      have h2 : (x.cps.toList.zipIdx.take i).length ≤ i := by rw [List.length_take]; omega
      rw [List.length_map]
      exact szl (by omega)
    · rw [upd_same]
      unfold enL
      rw [e, List.filter_append, List.map_append]
      simp [hp]
    · rw [hL2]
      unfold enL
      rw [e, List.filter_append, List.map_append]
      simp [hp]
  · have e : i = x.cps.size := by omega
    subst e
    exact .inl ⟨Nat.le_refl _, hd H sm (by rw [es]; exact hL)⟩
theorem enL_first (x : Str) (P : Nat → Bool) : (enL x (fun _ c => P c) (fun i _ => V.int (i : Nat)) x.cps.toList.length).take 1 = (x.cps.toList.findIdx? P).toList.map fun i => V.int (i : Nat) := by
  unfold enL
  have e0 : x.cps.toList.zipIdx.take x.cps.toList.length = x.cps.toList.zipIdx := List.take_of_length_le (by rw [List.length_zipIdx]; exact Nat.le_refl _)
  rw [e0]
  have key : ∀ (l : List Nat) (k : Nat), (((l.zipIdx k).filter fun q => P q.1).map fun q => V.int ((q.2 : Nat) : Int)).take 1 = (l.findIdx? P).toList.map fun i => V.int ((i + k : Nat) : Int) := fun l => by
    induction l with
    | nil => intro k; rfl
    | cons c l ih =>
      intro k
      rw [List.zipIdx_cons, List.filter_cons, List.findIdx?_cons]
      by_cases h : P c = true
      · rw [if_pos h, if_pos h]
        simp
      · rw [if_neg h, if_neg h, ih (k + 1)]
        cases l.findIdx? P with
        | none => rfl
        | some j =>
          show [V.int ((j + (k + 1) : Nat) : Int)] = [V.int ((j + 1 + k : Nat) : Int)]
          rw [show j + (k + 1) = j + 1 + k by omega]
  have := key x.cps.toList 0
  simpa using this
end
end Jr
namespace Jr
open PySem PySem.Spec PyProof.Rows L2
/-! ### deep data: what == reads, and its depth -/
section
variable {K : PySem.W.Frag} {H H' : Hp}
theorem sqT_same' {a : Addr} {xs : List V} (s : Same H H') (h : SqT K H a xs) : SqT K H' a xs := by
  rcases h with (h | ⟨o, h⟩) | h
  · exact .inl (.inl (s _ _ h))
  · exact .inl (.inr ⟨o, s _ _ h⟩)
  · exact .inr h
mutual
theorem dp_same (s : Same H H') : ∀ (d : PyData) (v : V), Dp K H v d → Dp K H' v d
  | .none, _, h => by cases h; exact .non
  | .bool b, _, h => by cases h; exact .bl b
  | .int i, _, h => by cases h; exact .int i
  | .str x, _, h => by cases h; exact .str x
  | .list ds, _, h => by cases h with | lst g t => exact .lst (s.seq g) (dpA_same s ds _ t)
  | .tuple ds, _, h => by cases h with | tup g t => exact .tup (sqT_same' s g) (dpA_same s ds _ t)
  | .dict _, _, h => by cases h
theorem dpA_same (s : Same H H') : ∀ (ds : List PyData) (vs : List V), DpAll K H vs ds → DpAll K H' vs ds
  | [], _, h => by cases h; exact .nil
  | d :: ds, _, h => by cases h with | cons g t => exact .cons (dp_same s d _ g) (dpA_same s ds _ t)
end
/-- v is d to ==, at most n deep -/
structure Ly (K : PySem.W.Frag) (H : Hp) (n : Nat) (v : V) (d : PyData) : Prop where
  dp : Dp K H v d
  lay : PyData.canLay0 d = true
  dep : PyData.depth d ≤ n
structure LyA (K : PySem.W.Frag) (H : Hp) (n : Nat) (vs : List V) (ds : List PyData) : Prop where
  dp : DpAll K H vs ds
  lay : PyData.canLayAll0 ds = true
  dep : PyData.depthAll ds ≤ n
theorem Ly.same {n : Nat} {v : V} {d : PyData} (h : Ly K H n v d) (s : Same H H') : Ly K H' n v d := ⟨dp_same s _ _ h.dp, h.lay, h.dep⟩
theorem LyA.same {n : Nat} {v : List V} {d : List PyData} (h : LyA K H n v d) (s : Same H H') : LyA K H' n v d := ⟨dpA_same s _ _ h.dp, h.lay, h.dep⟩
theorem Ly.mono {n m : Nat} {v : V} {d : PyData} (h : Ly K H n v d) (l : n ≤ m) : Ly K H m v d := ⟨h.dp, h.lay, Nat.le_trans h.dep l⟩
theorem LyA.mono {n m : Nat} {v : List V} {d : List PyData} (h : LyA K H n v d) (l : n ≤ m) : LyA K H m v d := ⟨h.dp, h.lay, Nat.le_trans h.dep l⟩
theorem Ly.fl {v : V} (h : Fl v) : Ly K H 0 v (fdV v) := ⟨dpFl h, lay_fl h, by rw [dep_fl]; exact Nat.le_refl _⟩
theorem LyA.nil {n : Nat} : LyA K H n [] [] := ⟨.nil, by simp [PyData.canLayAll0], by simp [PyData.depthAll]⟩
theorem LyA.cons {n : Nat} {v : V} {vs : List V} {d : PyData} {ds : List PyData} (h : Ly K H n v d) (t : LyA K H n vs ds) : LyA K H n (v :: vs) (d :: ds) :=
  ⟨.cons h.dp t.dp, by simp [PyData.canLayAll0, h.lay, t.lay], by simp only [PyData.depthAll]; exact Nat.max_le.mpr ⟨h.dep, t.dep⟩⟩
theorem LyA.fl {n : Nat} : ∀ {xs : List V}, (∀ x ∈ xs, Fl x) → LyA K H n xs (xs.map fdV)
  | [], _ => .nil
  | x :: xs, h => .cons ((Ly.fl (h x List.mem_cons_self)).mono (Nat.zero_le _)) (LyA.fl fun y hy => h y (List.mem_cons_of_mem _ hy))
theorem LyA.app {n : Nat} : ∀ {vs ws : List V} {ds es : List PyData}, LyA K H n vs ds → LyA K H n ws es → LyA K H n (vs ++ ws) (ds ++ es)
  | [], ws, ds, es, h, g => by
    have hd := h.dp
    cases ds with
    | nil => exact g
    | cons => cases hd
  | v :: vs, ws, ds, es, h, g => by
    have hd := h.dp
    cases hd with
    | @cons _ _ d ds' a b =>
      have hl := h.lay
      simp only [PyData.canLayAll0, Bool.and_eq_true] at hl
      have hp := h.dep
      simp only [PyData.depthAll] at hp
      exact .cons ⟨a, hl.1, Nat.le_trans (Nat.le_max_left _ _) hp⟩ (LyA.app ⟨b, hl.2, Nat.le_trans (Nat.le_max_right _ _) hp⟩ g)
theorem Ly.lst {n : Nat} {a : Addr} {us : List V} {ds : List PyData} (h : SqL K H a us) (t : LyA K H n us ds) : Ly K H (n + 1) (.ref a) (.list ds) :=
  ⟨.lst h t.dp, by simp [PyData.canLay0, t.lay], by simp only [PyData.depth]; have := t.dep; omega⟩
theorem Ly.tup {n : Nat} {a : Addr} {us : List V} {ds : List PyData} (h : SqT K H a us) (t : LyA K H n us ds) : Ly K H (n + 1) (.ref a) (.tuple ds) :=
  ⟨.tup h t.dp, by simp [PyData.canLay0, t.lay], by simp only [PyData.depth]; have := t.dep; omega⟩
theorem Ly.sh {n : Nat} {v : V} {d : PyData} (h : Ly K H n v d) (l : n ≤ 64 := by decide) : SeqAt.shaped d = true := by
  unfold SeqAt.shaped
  rw [h.lay, decide_eq_true (Nat.le_trans h.dep l)]
  rfl
theorem Ly.eqv {n : Nat} {v : V} {d : PyData} (h : Ly K H n v d) : PyData.eqv d d = true := SeqAt.eqv_refl _ h.lay
theorem Ly.strs {a : Addr} {xs : List Str} (h : SqL K H a (xs.map V.str)) (f : ∀ x ∈ xs, Asc x) : Ly K H 1 (.ref a) (.list ((xs.map V.str).map fdV)) :=
  .lst h (.fl fun x hx => by
    obtain ⟨y, hy, rfl⟩ := List.mem_map.mp hx
    exact f y hy)
end
end Jr
namespace Jr
open PySem PySem.Spec PyProof.Rows L2
/-! ### texts of texts -/
theorem join_text {z : Str} {ps : List Str} (h : ∀ p ∈ ps, TextOf z p) : TextOf z (Txt.join (Str.ofString "") ps) := fun c hc => by
  rw [join_cps] at hc
  obtain ⟨y, hy, hxy⟩ := List.mem_flatMap.mp hc
  exact h y hy c hxy
theorem sum_le : ∀ (ps : List Str) (n : Nat), (∀ p ∈ ps, p.length ≤ n) → (ps.map (·.length)).sum ≤ ps.length * n
  | [], n, _ => by simp
  | p :: ps, n, h => by
    have h1 := h p List.mem_cons_self
    have h2 := sum_le ps n fun q hq => h q (List.mem_cons_of_mem _ hq)
    rw [List.map_cons, List.sum_cons, List.length_cons, Nat.succ_mul]
    omega
theorem join_len {ps : List Str} : (Txt.join (Str.ofString "") ps).length = (ps.map (·.length)).sum := by
  rw [← len_cps, join_cps, flat_len]
end Jr
namespace Jr
open PySem PySem.Spec PyProof.Rows L2
theorem isInt {K : PySem.W.Frag} : PySem.W.kitOne K (.type "int") (.type "int") = some true := kit_ty (by decide +kernel)
theorem intBool {K : PySem.W.Frag} : PySem.W.kitOne K (.type "int") (.type "bool") = some false := kit_ty (by decide +kernel)
theorem boolInt {K : PySem.W.Frag} : PySem.W.kitOne K (.type "bool") (.type "int") = some true := kit_ty (by decide +kernel)
theorem boolBool {K : PySem.W.Frag} : PySem.W.kitOne K (.type "bool") (.type "bool") = some true := kit_ty (by decide +kernel)
/-- no int, no bool -/
def NoInt (K : PySem.W.Frag) (H : Hp) (v : V) : Prop := ∃ t, TyX K H v t ∧ PySem.W.kitOne K t (.type "int") = some false
/-- is_whole: of an int True, of a bool and all else False -/
def spWhole (K : PySem.W.Frag) : Sp := fun vs H Q _ => ∃ v : V, vs = [v] ∧ ((∃ n : Int, v = .int n ∧ Q (.bl true) H) ∨ (((∃ b : Bool, v = .bl b) ∨ NoInt K H v) ∧ Q (.bl false) H))
end Jr
namespace Jr
open PySem PySem.Spec PyProof.Rows L2
section
variable {P : Program} {w : World} {K : PySem.W.Frag} {mg : Str → Option Value} {base : Heap}
def spRight01 (K : PySem.W.Frag) (ps : List Addr) : Sp := fun vs H Q _ => ∃ t : Str, vs = [.str t] ∧ t.length ≤ 100000 ∧ TbS ps H ∧ ∀ H', Tbd ps H H' → Q (.bl true) H'
theorem cal__law_right01 (T : Tx K mg) (TB : TBs tfs K mg base) : Cal P w K mg base CX0 6 "_law_right" (spRight01 K (tps tfs K)) := by
  have C__law_due := cal__law_due01 (P := P) (w := w) (base := base) T
  have C__law_read := cal__law_read (P := P) (w := w) (base := base) T TB
  obtain ⟨fd, F⟩ := T.d__law_right
  refine ⟨_, fd, P__law_right, F.ok sc__law_right (fun vs H Q E h => ?_) (fun cdv A outer s H vs Q E hr h => ?_), T.g__law_right, F.kp, F.bindsN (ps := P__law_right) fun _ _ _ _ _ _ us hl => match us, hl with | [_], _ => rfl⟩
  · obtain ⟨t, rfl, _⟩ := h
    rfl
  · obtain ⟨t, rfl, tl, ht, k⟩ := h
    refine ⟨_, (PSs.nox (pss_cons (ps_set (i := 1) sc__law_right.nd rfl (Or.inl rfl) (pe_cal C__law_due (by first | exact hr | exact hr.mono (by decide)) (by rfl) (pa_cons (pv 0) pa_nil)))
      (pss_cons (ps_asg (pe_cal C__law_read (by first | exact hr | exact hr.mono (by decide)) (by rfl) (pa_cons (pv 0) pa_nil)) (pg_tup rfl (pgs_cons (pg_name (i := 2) sc__law_right.nd rfl (Or.inl rfl)) (pgs_cons (pg_name (i := 3) sc__law_right.nd rfl (Or.inl rfl)) pgs_nil))))
      (pss_cons (ps_if (PW.pt (pw_or (pt_val (pe_callB (id := "isinstance") call_isi (by rfl) T.n_isinstance (by decide +kernel) (pa_cons (pv 3) (pa_cons (pe_bltn (v := .ty "bool") (by rfl) T.n_bool (by decide +kernel) rfl) pa_nil)))) (pw_or1 (pt_not (pt_val (pe_callB (id := "isinstance") call_isi (by rfl) T.n_isinstance (by decide +kernel) (pa_cons (pv 3) (pa_cons (pe_bltn (v := .ty "int") (by rfl) T.n_int (by decide +kernel) rfl) pa_nil)))))))) (pss_one (ps_ret pe_bl)) pss_nil)
      (pss_cons (ps_if (pt_cmpR op_isN (pv 1) pe_non (nomark _)) (pss_one (ps_ret (pe_and (pe_cmpR op_eq (pv 2) pe_str (nomark _)) (pe_one (pe_cmpR op_eq (pv 3) pe_int (nomark _)))))) pss_nil)
      (pss_one (ps_ret (pe_and (pe_cmpR op_eq (pv 2) pe_str (nomark _)) (pe_one (pe_cmpR (op_eqD hr.units) (pv 3) (pv 1) (nomark _))))))))))), ?_⟩
    refine ⟨_, rfl, t, rfl, tl, fun hw => ?_, fun hw => ?_⟩
    · refine ⟨_, rfl, .str t, true, rfl, ht, .inr ⟨t, rfl, tl, hw.symm⟩, fun t' H1 q e _ d1 hq => ?_, fun e => by cases e⟩
      cases e
      refine ⟨q, _, rfl, SqT.of hq, rfl, _, _, rfl, _, _, rfl, rfl, ?_⟩
      refine ⟨_, rfl, _, _, _, _, _, rfl, .ty "bool", .base (.int _), intBool, _, rfl, iteF ⟨_, rfl, _, _, _, _, _, rfl, .ty "int", .base (.int _), isInt, _, rfl, iteF ?_⟩⟩
      refine ⟨_, rfl, rfl, _, rfl, iteF ?_⟩
      have l := Ly.fl (K := K) (H := H1) (v := .int (valT t : Nat)) trivial
      refine ⟨_, rfl, rfl, _, rfl, iteT ⟨_, rfl, _, rfl, _, _, l.dp, l.dp, l.sh, l.sh, ?_⟩⟩
      rw [l.eqv]
      exact k H1 d1
    · refine ⟨_, rfl, .str t, false, rfl, ht, .inr ⟨t, rfl, tl, hw.symm⟩, fun t' H1 q e e2 d1 hq => (by cases e2), fun _ H1 q d1 hq => ?_⟩
      refine ⟨q, _, rfl, SqT.of hq, rfl, _, _, rfl, _, _, rfl, rfl, ?_⟩
      refine ⟨_, rfl, _, _, _, _, _, rfl, .ty "bool", .base (.int _), intBool, _, rfl, iteF ⟨_, rfl, _, _, _, _, _, rfl, .ty "int", .base (.int _), isInt, _, rfl, iteF ?_⟩⟩
      refine ⟨_, rfl, rfl, _, rfl, iteT ?_⟩
      exact ⟨_, rfl, rfl, _, rfl, iteT ⟨_, rfl, rfl, k H1 d1⟩⟩
end
end Jr
namespace Jr
open PySem PySem.Spec PyProof.Rows L2
/-- digits by sizes: a new list, each digit from 0 to below its size -/
def spNumbers (K : PySem.W.Frag) : Sp := fun vs H Q _ => ∃ (c salt : Int) (a : Addr) (ns : List Int), vs = [.int c, .int salt, .ref a] ∧ 0 ≤ salt ∧ salt ≤ 100000 ∧ SqL K H a (ns.map V.int) ∧ ns.length ≤ 1000 ∧
  (∀ z ∈ ns, 0 < z ∧ z.natAbs.log2 < 9000) ∧ ∀ H' p ds, Same H H' → H p = none → H' p = some (.lst (ds.map V.int)) → Digs ns ds → Q (.ref p) H'
theorem Digs.snoc {ns ds : List Int} {i : Nat} {z d : Int} (h : Digs (ns.take i) ds) (hz : ns[i]? = some z) (h0 : 0 ≤ d) (h1 : d < z) : Digs (ns.take (i + 1)) (ds ++ [d]) := by
  have e : ns.take (i + 1) = ns.take i ++ [z] := by
    rw [List.take_add_one, hz]
    rfl
  rw [e]
  exact Paired.snoc h ⟨h0, h1⟩
theorem digs_end {H' : Hp} {p : Addr} {ns ds : List Int} {i : Nat} {z x : Int} (h : Digs (ns.take i) ds) (hz : ns[i]? = some z) (zp : 0 < z) :
    ∃ es : List Int, (upd H' p (.lst (ds.map V.int ++ [V.int (x % z)]))) p = some (.lst (es.map V.int)) ∧ Digs (ns.take (i + 1)) es :=
  ⟨ds ++ [x % z], by rw [upd_same, List.map_append]; rfl, h.snoc hz (Int.emod_nonneg _ (by omega)) (Int.emod_lt_of_pos _ zp)⟩
theorem nab {x m : Int} (h : 0 < m) (hm : m ≤ 2 ^ 62) : (x % m).natAbs < 2 ^ 64 := by
  have := Int.emod_nonneg x (show m ≠ 0 by omega)
  have := Int.emod_lt_of_pos x h
  omega
theorem mulb {x m : Int} (h : 0 < m) (hm : m ≤ 2 ^ 62) : -(2 ^ 64) < x % m ∧ x % m < 2 ^ 64 := by
  have := Int.emod_nonneg x (show m ≠ 0 by omega)
  have := Int.emod_lt_of_pos x h
  omega
theorem mulb2 {x : Int} {i : Nat} (hi : i ≤ 1000) : -(2 ^ 64) < x % 2147483647 + 104729 * (0 + (i : Int) + 1) ∧ x % 2147483647 + 104729 * (0 + (i : Int) + 1) < 2 ^ 64 := by
  have := Int.emod_nonneg x (show (2147483647 : Int) ≠ 0 by omega)
  have := Int.emod_lt_of_pos x (show (0 : Int) < 2147483647 by omega)
  omega
section
variable {P : Program} {w : World} {K : PySem.W.Frag} {mg : Str → Option Value} {base : Heap}
theorem cal__law_numbers (T : Tx K mg) : Cal P w K mg base CX0 1 "_law_numbers" (spNumbers K) := by
  obtain ⟨fd, F⟩ := T.d__law_numbers
  refine ⟨_, fd, P__law_numbers, F.ok sc__law_numbers (fun vs H Q E h => ?_) (fun cdv A outer s H vs Q E hr h => ?_), T.g__law_numbers, F.kp, F.bindsN (ps := P__law_numbers) fun _ _ _ _ _ _ us hl => match us, hl with | [_, _, _], _ => rfl⟩
  · obtain ⟨c, salt, a, ns, rfl, _⟩ := h
    rfl
  · obtain ⟨c, salt, a, ns, rfl, s0, s1, hS, hlen, hns, k⟩ := h
    refine ⟨_, (PSs.nox (pss_cons (ps_set (i := 3) sc__law_numbers.nd rfl (Or.inl rfl) (pe_callB (id := "max") (call_max2 rfl) (by rfl) T.n_max (by decide +kernel) (pa_cons (pv 0) (pa_cons (pe_op op_sub (pe_un un_neg pe_int) (pv 0)) pa_nil))))
      (pss_cons (ps_set (i := 4) sc__law_numbers.nd rfl (Or.inl rfl) (pv 3))
      (pss_cons (ps_set (i := 5) sc__law_numbers.nd rfl (Or.inl rfl) (pe_lst pa_nil))
      (pss_cons (ps_for PassesOwn.never rfl (pi_range1 (by rfl) T.n_range (pa_cons (pe_callB (id := "len") call_len_seq (by rfl) T.n_len (by decide +kernel) (pa_cons (pv 2) pa_nil)) pa_nil)) (pg_name (i := 6) sc__law_numbers.nd rfl (Or.inl rfl)) (pss_one (ps_if (PW.pt (pw_and (pt_cmpR op_ge (pv 3) (pe_op op_pow pe_int pe_int) (nomark _)) (pw_and1 (pt_cmpR op_gt (pv 4) pe_int (nomark _))))) (pss_cons (ps_expr (pe_bm PySem.F.plainAttrs_list PySem.F.slot_list_append PySem.F.type_list_append mt_append (pv 5) (pa_cons (pe_op op_mod (pv 4) (pe_ix ix_list (pv 2) (pv 6) (fun _ _ => rfl))) pa_nil)))
      (pss_one (ps_set (i := 4) sc__law_numbers.nd rfl (Or.inl rfl) (pe_op op_fdivW (pv 4) (pe_ix ix_list (pv 2) (pv 6) (fun _ _ => rfl)))))) (pss_cons (ps_set (i := 7) sc__law_numbers.nd rfl (Or.inl rfl) (pe_op op_mod (pe_op op_pow (pe_op op_add (pe_op op_add (pe_op op_mod (pv 3) pe_int) (pe_op op_mul pe_int (pv 1))) pe_int) pe_int) pe_int))
      (pss_cons (ps_set (i := 7) sc__law_numbers.nd rfl (Or.inl rfl) (pe_op op_mod (pe_op op_mul (pe_op op_add (pv 7) (pe_op op_mul pe_int (pe_op op_add (pv 6) pe_int))) (pe_op op_add (pv 6) pe_int)) pe_int))
      (pss_cons (ps_set (i := 7) sc__law_numbers.nd rfl (Or.inl rfl) (pe_op op_mod (pe_op op_mul (pe_op op_mod (pe_op op_pow (pv 7) pe_int) pe_int) pe_int) pe_int))
      (pss_one (ps_expr (pe_bm PySem.F.plainAttrs_list PySem.F.slot_list_append PySem.F.type_list_append mt_append (pv 5) (pa_cons (pe_op op_mod (pe_op op_fdiv (pv 7) pe_int) (pe_ix ix_list (pv 2) (pv 6) (fun _ _ => rfl))) pa_nil))))))))))
      (pss_one (ps_ret (pv 5)))))))), ?_⟩
    refine ⟨_, rfl, _, rfl, _, rfl, _, _, rfl, rfl, _, _, rfl, ?_⟩
    obtain ⟨nu, hnu⟩ : ∃ nu : Int, nu = (if -1 - c > c then -1 - c else c) := ⟨_, rfl⟩
    refine ⟨_, rfl, Nat.zero_le _, fun p hp => ?_⟩
    refine ⟨_, rfl, _, _, rfl, .inl ((Same.new hp).seq hS), _, rfl, ?_, ?_, ?_⟩
    · show -(2 ^ 62) ≤ (((ns.map V.int).length : Nat) : Int)
      omega
    · show (((ns.map V.int).length : Nat) : Int) < 2 ^ 62
      rw [List.length_map]
      omega
    have en : ((((ns.map V.int).length : Nat) : Int)).toNat = ns.length := by rw [List.length_map]; rfl
    rw [en]
    rw [← hnu]
    refine for_range (lo := 0) (n := ns.length) (fun i σ H' => ∃ (l : Int) (kk one : Option V), σ = [some (.int c), some (.int salt), some (.ref a), some (.int nu), some (.int l), some (.ref p), kk, one] ∧
      Same H H' ∧ ∃ ds : List Int, H' p = some (.lst (ds.map V.int)) ∧ Digs (ns.take i) ds) ⟨nu, none, none, rfl, Same.new hp, [], upd_same, .nil⟩ ?_ ?_
    · rintro i σ H' hi ⟨l, kk, one, rfl, sm, ds, hL, hD⟩
      have hz : ns[i]? = some ns[i] := List.getElem?_eq_getElem hi
      obtain ⟨z, ez⟩ : ∃ z, z = ns[i] := ⟨_, rfl⟩
      rw [← ez] at hz
      have zp : 0 < z ∧ z.natAbs.log2 < 9000 := hns z (by rw [ez]; exact List.getElem_mem hi)
      have hS' : SqL K H' a (ns.map V.int) := sm.seq hS
      have hat : atI (ns.map V.int) (0 + (i : Int)) = some (V.int z) := by
        rw [Int.zero_add]
        exact ats (by rw [List.getElem?_map, hz]; rfl)
      have hlen2 : (ds.map V.int).length < sizeLine := by
        rw [List.length_map, ← hD.length, List.length_take]
        exact szl (by omega)
      have keep : ∀ d : Int, Same H (upd H' p (.lst ((ds.map V.int) ++ [V.int d]))) := fun d => Same.mut sm hp
      have hnn : 0 ≤ nu := by
        rw [hnu]
        split <;> omega
      refine ⟨_, rfl, _, _, rfl, rfl, ⟨by decide, by decide, by decide⟩, _, _, rfl, rfl, _, rfl, ite2 (fun c1 => ⟨_, rfl, _, _, rfl, rfl, _, rfl, ite2 (fun c2 => ?A) (fun c2 => ?B1)⟩) (fun c1 => iteF ?B2)⟩
      case A =>
        refine ⟨_, rfl, .inl ⟨rfl, _, SqL.of hL⟩, _, rfl, _, rfl, _, rfl, _, _, _, _, rfl, rfl, hS', hat, _, _, rfl, rfl, zp.1, _, _, _, rfl, rfl, hL, hlen2, ?_⟩
        refine ⟨_, rfl, _, rfl, _, rfl, _, _, _, _, rfl, rfl, (keep _).seq hS, hat, _, _, rfl, rfl, zp, ?_⟩
        exact ⟨_, _, one, rfl, keep _, digs_end hD hz zp.1⟩
      all_goals
        have m1 : 0 ≤ nu % 2147483629 ∧ nu % 2147483629 < 2147483629 := ⟨Int.emod_nonneg _ (by decide), Int.emod_lt_of_pos _ (by decide)⟩
        refine ⟨_, rfl, _, _, rfl, rfl, (by show (0 : Int) < 2147483629; decide), _, rfl, _, _, rfl, rfl, .inl ⟨by decide, by decide⟩, _, _, rfl, rfl, _, _, rfl, rfl, _, _, rfl, rfl, ⟨by decide, by decide, ?_⟩, _, _, rfl, rfl, (by show (0 : Int) < 2147483647; decide), ?_⟩
        · show (nu % 2147483629 + 7919 * salt + 1).natAbs < 2 ^ 64
          omega
        refine ⟨_, rfl, _, rfl, _, _, rfl, rfl, _, _, rfl, rfl, .inl ⟨by decide, by decide⟩, _, _, rfl, rfl, _, rfl, _, _, rfl, rfl, _, _, rfl, rfl, .inl (mulb2 (by omega)), _, _, rfl, rfl, (by show (0 : Int) < 2147483629; decide), ?_⟩
        refine ⟨_, rfl, _, _, rfl, rfl, ⟨by decide, by decide, nab (by decide) (by decide)⟩, _, _, rfl, rfl, (by show (0 : Int) < 2147483647; decide), _, _, rfl, rfl, .inl (mulb (by decide) (by decide)), _, _, rfl, rfl, (by show (0 : Int) < 2147483629; decide), ?_⟩
        refine ⟨_, rfl, .inl ⟨rfl, _, SqL.of hL⟩, _, rfl, _, _, rfl, rfl, ⟨by decide, by decide⟩, _, rfl, _, rfl, _, _, _, _, rfl, rfl, hS', hat, _, _, rfl, rfl, zp.1, _, _, _, rfl, rfl, hL, hlen2, ?_⟩
        exact ⟨_, _, _, rfl, keep _, digs_end hD hz zp.1⟩
    · rintro σ H' ⟨l, kk, one, rfl, sm, ds, hL, hD⟩
      rw [List.take_length] at hD
      exact ⟨_, rfl, k _ p ds sm hp hL hD⟩
end
end Jr
namespace Jr
open PySem PySem.Spec PyProof.Rows L2
section
variable {P : Program} {w : World} {K : PySem.W.Frag} {mg : Str → Option Value} {base : Heap}
theorem cal_is_whole (T : Tx K mg) : Cal P w K mg base CX0 1 "is_whole" (spWhole K) := by
  obtain ⟨fd, F⟩ := T.d_is_whole
  refine ⟨_, fd, P_is_whole, F.ok sc_is_whole (fun vs H Q E h => ?_) (fun cdv A outer s H vs Q E hr h => ?_), T.g_is_whole, F.kp, F.bindsN (ps := P_is_whole) fun _ _ _ _ _ _ us hl => match us, hl with | [_], _ => rfl⟩
  · obtain ⟨v, rfl, _⟩ := h
    rfl
  · obtain ⟨v, rfl, k⟩ := h
    refine ⟨_, (PSs.nox (pss_one (ps_ret (pe_and (pe_callB (id := "isinstance") call_isi (by rfl) T.n_isinstance (by decide +kernel) (pa_cons (pv 0) (pa_cons (pe_bltn (v := .ty "int") (by rfl) T.n_int (by decide +kernel) rfl) pa_nil))) (pe_one (pe_not (pe_callB (id := "isinstance") call_isi (by rfl) T.n_isinstance (by decide +kernel) (pa_cons (pv 0) (pa_cons (pe_bltn (v := .ty "bool") (by rfl) T.n_bool (by decide +kernel) rfl) pa_nil))))))))), ?_⟩
    rcases k with ⟨n, rfl, k⟩ | ⟨⟨b, rfl⟩ | ⟨t, ht, hk⟩, k⟩
    · exact ⟨_, rfl, _, _, _, _, _, rfl, .ty "int", .base (.int n), isInt, _, rfl, iteT ⟨_, rfl, _, _, _, _, _, rfl, .ty "bool", .base (.int n), intBool, _, rfl, k⟩⟩
    · exact ⟨_, rfl, _, _, _, _, _, rfl, .ty "int", .base (.bl b), boolInt, _, rfl, iteT ⟨_, rfl, _, _, _, _, _, rfl, .ty "bool", .base (.bl b), boolBool, _, rfl, k⟩⟩
    · exact ⟨_, rfl, _, _, _, _, _, rfl, .ty "int", ht, hk, _, rfl, iteF k⟩
end
end Jr
namespace Jr
open PySem PySem.Spec PyProof.Rows L2
/-- v is no list -/
def NoLst (K : PySem.W.Frag) (H : Hp) (v : V) : Prop := ∃ t, TyX K H v t ∧ PySem.W.kitOne K t (.type "list") = some false
theorem NoLst.same {K : PySem.W.Frag} {H H' : Hp} {v : V} (h : NoLst K H v) (s : Same H H') : NoLst K H' v := by
  obtain ⟨t, a, b⟩ := h
  exact ⟨t, tyx_same a s, b⟩
section
variable {K : PySem.W.Frag} {H : Hp}
theorem noLst_non : NoLst K H .non := ⟨_, .base .non, kit_ty (by decide +kernel)⟩
theorem noLst_bl (b : Bool) : NoLst K H (.bl b) := ⟨_, .base (.bl b), kit_ty (by decide +kernel)⟩
theorem noLst_int (i : Int) : NoLst K H (.int i) := ⟨_, .base (.int i), kit_ty (by decide +kernel)⟩
theorem noLst_str (x : Str) : NoLst K H (.str x) := ⟨_, .base (.str x), kit_ty (by decide +kernel)⟩
theorem noLst_tup {a : Addr} {xs : List V} (h : H a = some (.tup xs)) : NoLst K H (.ref a) := ⟨_, .base (.tup h), kit_ty (by decide +kernel)⟩
theorem noLst_dK {a : Addr} {xs : List (Key × V)} (h : H a = some (.dK xs)) : NoLst K H (.ref a) := ⟨_, .base (.dK h), kit_ty (by decide +kernel)⟩
end
end Jr
namespace Jr
open PySem PySem.Spec PyProof.Rows L2
/-! ### what the laws' heads share -/
theorem cells_eq (ns ms : List Int) : cutV (ns.map V.int ++ ms.map V.int) none (some 63) = ((ns ++ ms).take 63).map V.int := by
  rw [show (some (63 : Int)) = some ((63 : Nat) : Int) from rfl, cutV_to, List.map_take, List.map_append]
theorem rest_eq (cs : List Int) : cutV (cs.map V.int) (some 1) none = (cs.drop 1).map V.int := by
  rw [show (some (1 : Int)) = some ((1 : Nat) : Int) from rfl, cutV_from, List.map_drop]
theorem sizes_ok {ns : List Int} (h : ns.all (fun z => decide (0 < z) && decide (z ≤ 1000000)) = true) : ∀ z ∈ ns, 0 < z ∧ z.natAbs.log2 < 9000 := fun z hz => by
  have := List.all_eq_true.mp h z hz
  simp only [Bool.and_eq_true, decide_eq_true_eq] at this
  refine ⟨this.1, ?_⟩
  have : z.natAbs.log2 < 20 := (Nat.log2_lt (by omega)).mpr (by omega)
  omega
/-- a digit, by its place -/
theorem dig {ns ds : List Int} (h : Paired (fun z d => 0 ≤ d ∧ d < z) ns ds) {j : Nat} {z : Int} (hz : ns[j]? = some z) : ∃ n : Nat, ds[j]? = some (n : Int) ∧ (n : Int) < z ∧ atI (ds.map V.int) (j : Int) = some (V.int (n : Int)) := by
  obtain ⟨d, e, b⟩ := Paired.get h hz
  obtain ⟨n, rfl⟩ := Int.eq_ofNat_of_zero_le b.1
  exact ⟨n, e, b.2, atm (f := V.int) e⟩
theorem cut_mid (xs : List Int) (a b : Nat) : cutV (xs.map V.int) (some (a : Int)) (some (b : Int)) = ((xs.drop a).take (b - a)).map V.int := by
  rw [cutV_mid, List.map_take, List.map_drop]
end Jr
namespace Jr
open PySem PySem.Spec PyProof.Rows L2
/-! ### ranges by a step, up to 63 -/
def rgQ (c : Nat) : Bool := (List.range 64).all fun h => Builtin.Range.small 0 (h : Int) (c : Int) && decide (Builtin.Range.rangeSize 0 (h : Int) (c : Int) = (((h + (c - 1)) / c : Nat) : Int))
theorem rgQ2 : rgQ 2 = true := by decide +kernel
theorem rgQ_by {c h : Nat} (hb : rgQ (c + 1) = true) (hh : h ≤ 63) (hc : c < 1000 := by decide) : RgC 0 (h : Int) ((c + 1 : Nat) : Int) ((h + c) / (c + 1)) := by
  have := List.all_eq_true.mp hb h (List.mem_range.mpr (by omega))
  rw [Bool.and_eq_true, decide_eq_true_eq] at this
  refine ⟨by omega, by omega, this.1, ?_⟩
  have e := this.2
  rw [Nat.add_sub_cancel] at e
  exact e
/-- max(lo, min(hi, n)) -/
theorem clamp (n lo hi : Nat) (h : lo ≤ hi) : ∃ m : Nat, lo ≤ m ∧ m ≤ hi ∧ (if (if ((n : Nat) : Int) < ((hi : Nat) : Int) then ((n : Nat) : Int) else ((hi : Nat) : Int)) > ((lo : Nat) : Int) then (if ((n : Nat) : Int) < ((hi : Nat) : Int) then ((n : Nat) : Int) else ((hi : Nat) : Int)) else ((lo : Nat) : Int)) = ((m : Nat) : Int) := by
  refine ⟨max lo (min hi n), by omega, by omega, ?_⟩
  split <;> split <;> omega
end Jr
namespace Jr
open PySem PySem.Spec PyProof.Rows L2
theorem join_app {S : List Nat} : ∀ (ps : List (List Nat)), (∀ c ∈ TL.joinL S ps, c ∈ S ∨ ∃ p ∈ ps, c ∈ p) ∧ (TL.joinL S ps).length ≤ (ps.map (·.length)).sum + ps.length * S.length
  | [] => ⟨fun c h => by simp [TL.joinL] at h, by simp [TL.joinL]⟩
  | [p] => ⟨fun c h => .inr ⟨p, List.mem_cons_self, h⟩, by simp [TL.joinL]⟩
  | p :: q :: r => by
    obtain ⟨h1, h2⟩ := join_app (S := S) (q :: r)
    have e : TL.joinL S (p :: q :: r) = p ++ (S ++ TL.joinL S (q :: r)) := rfl
    rw [e]
    refine ⟨fun c h => ?_, ?_⟩
    · rcases List.mem_append.mp h with h | h
      · exact .inr ⟨p, List.mem_cons_self, h⟩
      · rcases List.mem_append.mp h with h | h
        · exact .inl h
        · rcases h1 c h with h | ⟨y, hy, hc⟩
          · exact .inl h
          · exact .inr ⟨y, List.mem_cons_of_mem _ hy, hc⟩
    · simp only [List.length_append, List.map_cons, List.sum_cons, List.length_cons, Nat.succ_mul] at h2 ⊢
      omega
theorem join_asc {y : Str} {ps : List Str} {n : Nat} (hy : Asc y) (h : ∀ p ∈ ps, Asc p ∧ p.length ≤ n) : Asc (Txt.join y ps) ∧ (Txt.join y ps).length ≤ ps.length * (n + y.length) := by
  rw [TL.join_eq]
  obtain ⟨h1, h2⟩ := join_app (S := TL.tl y) (ps.map TL.tl)
  have e : (Str.join y ps).cps.toList = TL.joinL (TL.tl y) (ps.map TL.tl) := TL.tl_join y ps
  refine ⟨fun c hc => ?_, ?_⟩
  · rw [e] at hc
    rcases h1 c hc with hc | ⟨p, hp, hc⟩
    · exact hy c hc
    · obtain ⟨x, hx, rfl⟩ := List.mem_map.mp hp
      exact (h x hx).1 c hc
  · rw [← len_cps, e]
    have e2 : ((ps.map TL.tl).map (·.length)).sum = (ps.map (·.length)).sum := by
      rw [List.map_map]
      congr 1
    have e3 : (TL.tl y).length = y.length := len_cps y
    rw [e2, e3, List.length_map] at h2
    have := sum_le ps n fun p hp => (h p hp).2
    rw [Nat.mul_add]
    omega
theorem asc_int (i : Int) : Asc (Str.ofString (toString i)) := fun c hc => by
  by_cases h : c ≤ 126
  · exact h
  · exact absurd hc (int_text_free' c ⟨by omega, by omega⟩ i)
theorem lt51 {d : Nat} (h : (d : Int) < 10 ^ 50) : d + 200 < 10 ^ 51 := by
  have e : ((10 : Int) ^ 50) = (((10 : Nat) ^ 50 : Nat) : Int) := by rw [Int.natCast_pow]; rfl
  rw [e] at h
  have h2 : d < 10 ^ 50 := Int.ofNat_lt.mp h
  have p50 : (10 : Nat) ^ 50 + 200 ≤ 10 ^ 51 := by decide
  exact Nat.lt_of_lt_of_le (Nat.add_lt_add_right h2 200) p50
theorem take2 {α : Type} {xs : List α} {i : Nat} {a b : α} (h1 : xs[i]? = some a) (h2 : xs[i + 1]? = some b) : (xs.drop i).take 2 = [a, b] := by
  obtain ⟨l1, e1⟩ := List.getElem?_eq_some_iff.mp h1
  obtain ⟨l2, e2⟩ := List.getElem?_eq_some_iff.mp h2
  rw [List.drop_eq_getElem_cons l1, List.drop_eq_getElem_cons l2, e1, e2]; rfl
theorem sizes_okB {ns : List Int} (h : ns.all (fun z => decide (0 < z) && decide (z ≤ 10 ^ 60)) = true) : ∀ z ∈ ns, 0 < z ∧ z.natAbs.log2 < 9000 := fun z hz => by
  have := List.all_eq_true.mp h z hz
  simp only [Bool.and_eq_true, decide_eq_true_eq] at this
  refine ⟨this.1, ?_⟩
  have : z.natAbs.log2 < 300 := (Nat.log2_lt (by omega)).mpr (by
    have e : ((10 : Int) ^ 60) = (((10 : Nat) ^ 60 : Nat) : Int) := by rw [Int.natCast_pow]; rfl
    rw [e] at this
    have h2 : z.natAbs ≤ 10 ^ 60 := by omega
    exact Nat.lt_of_le_of_lt h2 (by decide))
  omega
end Jr
namespace Jr
open PySem PySem.Spec PyProof.Rows L2
/-- an odd thing: no written number, and whole or not -/
def O01 (K : PySem.W.Frag) (H : Hp) (x : V) : Prop := Wr K H x false ∧ ((∃ n, x = V.int n) ∨ (∃ b : Bool, x = .bl b) ∨ NoInt K H x)
theorem O01.same {K : PySem.W.Frag} {H H' : Hp} {x : V} (h : O01 K H x) (s : Same H H') : O01 K H' x := ⟨h.1.same s, h.2.imp id fun h => h.imp id fun ⟨t, a, b⟩ => ⟨t, tyx_same a s, b⟩⟩
theorem wr_bad01 {t : Str} {c : Nat} (h : c ∈ t.cps.toList) (n : ¬ (48 ≤ c ∧ c ≤ 57)) : wrT t = false := by
  unfold wrT
  rw [show (t.cps.toList.all fun c => decide (c ∈ figS.cps.toList)) = false from List.all_eq_false.mpr ⟨c, h, by rw [decide_eq_false (fun m => n (fig_mem.mp m))]; decide⟩, Bool.and_false, Bool.and_false]
theorem wr_zero01 {t : Str} (h : t.cps.toList[0]? = some 48) (l : 1 < t.length) : wrT t = false := by
  unfold wrT
  rw [h, decide_eq_true l]
  simp
theorem asc_no01 : Asc (Str.ofString "no") := fun c hc => of_decide_eq_true (List.all_eq_true.mp (show (Str.ofString "no").cps.toList.all (fun c => decide (c ≤ 126)) = true by decide +kernel) c hc)
def szs01 : List Int := [10 ^ (60 : Int).toNat, 7, 60, 5, 62, 2, 96, 10, 14]
section
variable {P : Program} {w : World} {K : PySem.W.Frag} {mg : Str → Option Value}
theorem fn_law (T : Tx K mg) : ∃ fd, FunD K "law" "law" (defArgs s_law) (defBody s_law) (defScope s_law) [] [] (He.fAd K ("law", none)) fd ∧ ∀ base : Heap, TBs tfs K mg base → FnOk P w K mg base CX0 7 (He.fAd K ("law", none)) fd P_law (spLawT K (tps tfs K)) := by
  obtain ⟨fd, F⟩ := T.d_law
  refine ⟨fd, F, fun base TB => ?_⟩
  have C__law_numbers := cal__law_numbers (P := P) (w := w) (base := base) T
  have C__law_drawn := cal__law_drawn01 (P := P) (w := w) (base := base) T
  have C__law_figures := cal__law_figures01 (P := P) (w := w) (base := base) T
  have C__law_bent := cal__law_bent01 (P := P) (w := w) (base := base) T
  have C__law_right := cal__law_right01 (P := P) (w := w) (base := base) T TB
  have C__law_read := cal__law_read (P := P) (w := w) (base := base) T TB
  have C_show_number := cal_show_number (P := P) (w := w) (base := base) T
  have C_is_whole := cal_is_whole (P := P) (w := w) (base := base) T
  refine F.ok sc_law (fun vs H Q E h => ?_) (fun cdv A outer s H vs Q E hr h => ?_)
  · obtain ⟨a, ns, rfl, _⟩ := h
    rfl
  · obtain ⟨a, ns, rfl, hS, hlen, hT, k⟩ := h
    refine ⟨_, (PSs.nox (pss_cons (ps_set (i := 1) sc_law.nd rfl (Or.inl rfl) pe_str)
      (pss_cons (ps_for PassesOwn.never rfl (pi_enum (by rfl) T.n_enumerate (pa_cons (pe_op op_catG (pe_intsAs (ns := [0]) (pe_litI (ns := [0]) (pe_lst (pa_cons pe_int pa_nil)) (fun _ _ _ => rfl) (by decide)) (by decide)) (pe_slice sl_listG (pv 0) po_none (po_some pe_int))) pa_nil)) (pg_tup rfl (pgs_cons (pg_name (i := 2) sc_law.nd rfl (Or.inl rfl)) (pgs_cons (pg_name (i := 3) sc_law.nd rfl (Or.inl rfl)) pgs_nil))) (pss_cons (ps_set (i := 4) sc_law.nd rfl (Or.inl rfl) (pe_cal C__law_numbers (by first | exact hr | exact hr.mono (by decide)) (by rfl) (pa_cons (pv 3) (pa_cons (pe_op op_add pe_int (pv 2)) (pa_cons (pe_lstG (pa_cons (pe_op op_pow pe_int pe_int) (pa_cons pe_int (pa_cons pe_int (pa_cons pe_int (pa_cons pe_int (pa_cons pe_int (pa_cons pe_int (pa_cons pe_int (pa_cons pe_int pa_nil)))))))))) pa_nil)))))
      (pss_cons (ps_set (i := 5) sc_law.nd rfl (Or.inl rfl) (pe_cal C__law_drawn (by first | exact hr | exact hr.mono (by decide)) (by rfl) (pa_cons (pe_ix ix_list (pv 4) pe_int (fun _ _ => rfl)) (pa_cons (pe_ix ix_list (pv 4) pe_int (fun _ _ => rfl)) (pa_cons (pe_ix ix_list (pv 4) pe_int (fun _ _ => rfl)) pa_nil)))))
      (pss_cons (ps_set (i := 6) sc_law.nd rfl (Or.inl rfl) (pe_cal C__law_figures (by first | exact hr | exact hr.mono (by decide)) (by rfl) (pa_cons (pv 5) pa_nil)))
      (pss_cons (ps_if (PW.pt (pw_or (pt_cmpR op_ne (pe_cal C_show_number (by first | exact hr | exact hr.mono (by decide)) (by rfl) (pa_cons (pv 5) pa_nil)) (pv 6) (nomark _)) (pw_or1 (pt_not (pt_val (pe_callB (id := "isinstance") call_isi (by rfl) T.n_isinstance (by decide +kernel) (pa_cons (pe_cal C_show_number (by first | exact hr | exact hr.mono (by decide)) (by rfl) (pa_cons (pv 5) pa_nil)) (pa_cons (pe_bltn (v := .ty "str") (by rfl) T.n_str (by decide +kernel) rfl) pa_nil)))))))) (pss_one (ps_ret pe_bl)) pss_nil)
      (pss_cons (ps_if (PW.pt (pw_or (pt_cmpR op_notBl (pe_cal C_is_whole (by first | exact hr | exact hr.mono (by decide)) (by rfl) (pa_cons (pv 5) pa_nil)) pe_bl (nomark _)) (pw_or1 (pt_cmpR op_notBl (pe_cal C_is_whole (by first | exact hr | exact hr.mono (by decide)) (by rfl) (pa_cons (pe_op op_sub pe_int (pv 5)) pa_nil)) pe_bl (nomark _))))) (pss_one (ps_ret pe_bl)) pss_nil)
      (pss_cons (ps_set (i := 7) sc_law.nd rfl (Or.inl rfl) (pe_ix ix_list (pe_lstG (pa_cons (pe_ix ix_str (pv 1) (pe_ix ix_list (pv 4) pe_int (fun _ _ => rfl)) (fun _ _ => rfl)) (pa_cons (pe_ix ix_str (pv 1) (pe_ix ix_list (pv 4) pe_int (fun _ _ => rfl)) (fun _ _ => rfl)) pa_nil))) (pe_ix ix_list (pv 4) pe_int (fun _ _ => rfl)) (fun _ _ => rfl)))
      (pss_cons (ps_set (i := 8) sc_law.nd rfl (Or.inl rfl) (pe_cal C__law_bent (by first | exact hr | exact hr.mono (by decide)) (by rfl) (pa_cons (pv 6) (pa_cons (pe_ix ix_list (pv 4) pe_int (fun _ _ => rfl)) (pa_cons (pe_ix ix_list (pv 4) pe_int (fun _ _ => rfl)) (pa_cons (pv 7) pa_nil))))))
      (pss_cons (ps_if (PW.pt (pw_or (pt_not (pt_val (pe_cal C__law_right (by first | exact hr | exact hr.mono (by decide)) (by rfl) (pa_cons (pv 6) pa_nil)))) (pw_or (pt_not (pt_val (pe_cal C__law_right (by first | exact hr | exact hr.mono (by decide)) (by rfl) (pa_cons (pv 8) pa_nil)))) (pw_or1 (pt_not (pt_val (pe_cal C__law_right (by first | exact hr | exact hr.mono (by decide)) (by rfl) (pa_cons (pv 8) pa_nil)))))))) (pss_one (ps_ret pe_bl)) pss_nil)
      (pss_cons (ps_set (i := 9) sc_law.nd rfl (Or.inl rfl) (pe_lstG (pa_cons pe_non (pa_cons pe_bl (pa_cons pe_bl (pa_cons (pv 5) (pa_cons (pe_op op_sub pe_int (pv 5)) (pa_cons (pe_lstG (pa_cons (pv 6) pa_nil)) (pa_cons (pe_tupG (pa_cons (pv 6) pa_nil)) (pa_cons pe_dnewK (pa_cons (pe_lstG pa_nil) (pa_cons (pe_tupG pa_nil) (pa_cons (pe_op op_add_str (pv 6) pe_str) pa_nil)))))))))))))
      (pss_cons (ps_set (i := 9) sc_law.nd rfl (Or.inl rfl) (pe_op op_catG (pv 9) (pe_lstG (pa_cons pe_str (pa_cons (pe_op op_add_str pe_str (pv 6)) (pa_cons (pe_op op_add_str pe_str (pv 6)) pa_nil))))))
      (pss_cons (ps_if (pt_cmpR (op_neD hr.units) (pe_cal C__law_read (by first | exact hr | exact hr.mono (by decide)) (by rfl) (pa_cons (pe_ix ix_list (pv 9) (pe_ix ix_list (pv 4) pe_int (fun _ _ => rfl)) (fun _ _ => rfl)) pa_nil)) (pe_tupG (pa_cons pe_str (pa_cons pe_int pa_nil))) (nomark _)) (pss_one (ps_ret pe_bl)) pss_nil)
      (pss_one (ps_for PassesOwn.never rfl (pi_list (pv 9)) (pg_name (i := 10) sc_law.nd rfl (Or.inl rfl)) (pss_cons (ps_set (i := 11) sc_law.nd rfl (Or.inl rfl) (pe_and (pe_callB (id := "isinstance") call_isi (by rfl) T.n_isinstance (by decide +kernel) (pa_cons (pv 10) (pa_cons (pe_bltn (v := .ty "int") (by rfl) T.n_int (by decide +kernel) rfl) pa_nil))) (pe_one (pe_not (pe_callB (id := "isinstance") call_isi (by rfl) T.n_isinstance (by decide +kernel) (pa_cons (pv 10) (pa_cons (pe_bltn (v := .ty "bool") (by rfl) T.n_bool (by decide +kernel) rfl) pa_nil)))))))
      (pss_one (ps_if (PW.pt (pw_or (PW.pt (pw_and (pt_val (pv 11)) (pw_and1 (pt_cmpR op_notBl (pe_cal C_is_whole (by first | exact hr | exact hr.mono (by decide)) (by rfl) (pa_cons (pv 10) pa_nil)) pe_bl (nomark _))))) (pw_or1 (PW.pt (pw_and (pt_not (pt_val (pv 11))) (pw_and1 (pt_cmpR op_notBl (pe_cal C_is_whole (by first | exact hr | exact hr.mono (by decide)) (by rfl) (pa_cons (pv 10) pa_nil)) pe_bl (nomark _)))))))) (pss_one (ps_ret pe_bl)) pss_nil)))))))))))))))))
      (pss_one (ps_ret pe_bl))))), ?_⟩
    refine fun q0 H0 nq0 s0 hq0 => ⟨_, rfl, _, rfl, a, _, rfl, s0.seq hS, fun q1 H1 nq1 s1 hq1 => ?_⟩
    rw [show (some (39 : Int)) = some ((39 : Nat) : Int) from rfl, cutV_to, ← List.map_take] at hq1
    refine ⟨q0, q1, _, _, rfl, rfl, SqL.of (s1 _ _ hq0), SqL.of hq1, (by rw [List.length_map, List.length_map, List.length_take]; exact sz (by show 1 + _ ≤ _; omega)), fun pe H2 npe s2 hE => ?_⟩
    rw [← List.map_append] at hE
    obtain ⟨cs, ecs⟩ : ∃ cs, cs = [0] ++ ns.take 39 := ⟨_, rfl⟩
    rw [← ecs] at hE
    have cl : cs.length ≤ 40 := by rw [ecs, List.length_append, List.length_take]; show 1 + _ ≤ _; omega
    have s02 := (s0.trans s1).trans s2
    have T2 := hT.same s02
    obtain ⟨some_, esome⟩ : ∃ z : Str, z = Str.ofString "0123456789 !\"#$&'()*+,-./:;<=>?@ABCDEFGHIJKLMNOPQRSTUVWXYZ[\\]^_`abcdefghijklmnopqrstuvwxyz{|}~\t\n" := ⟨_, rfl⟩
    have slen : 96 ≤ some_.cps.toList.length ∧ some_.length ≤ 100 := by rw [esome]; decide +kernel
    rw [← esome]
    clear esome
    refine ⟨pe, _, rfl, SqL.of hE, for_enum (K := K) (a := pe) (xs := cs.map V.int) (fun i σ H' => ∃ (u2 u3 u4 u5 u6 u7 u8 u9 u10 u11 : Option V), σ = [some (.ref a), some (.str some_), u2, u3, u4, u5, u6, u7, u8, u9, u10, u11] ∧ Tbd (tps tfs K) H2 H')
      ⟨_, _, _, _, _, _, _, _, _, _, rfl, Tbd.refl T2⟩ (fun i σ H' _ ⟨_, _, _, _, _, _, _, _, _, _, _, d⟩ => SqL.of (d.keep T2 hE)) ?_ (fun σ H' _ => k H')⟩
    rintro i y e σ H' hi he ⟨u2, u3, u4, u5, u6, u7, u8, u9, u10, u11, rfl, sm⟩
    rw [List.getElem?_map] at hi
    cases ed : cs[i]? with
    | none => rw [ed] at hi; cases hi
    | some d =>
      rw [ed] at hi
      cases hi
      have hi40 : i < 40 := by
        have := (List.getElem?_eq_some_iff.mp ed).1
        omega
      have sm1 := sm.step (Same.new (o := .tup [.int (i : Nat), .int d]) he)
      refine ⟨e, _, rfl, SqT.of upd_same, rfl, _, _, rfl, _, _, rfl, rfl, ?_⟩
      revert sm1
      generalize (upd H' e (.tup [.int (i : Nat), .int d])) = H3
      intro sm1
      have T3 := sm1.tab
      have p60 : (10 : Nat) ^ 60 < 10 ^ 70 := by decide +kernel
      refine ⟨_, rfl, _, rfl, _, _, rfl, rfl, _, _, rfl, rfl, ⟨by decide, by decide, by decide⟩, (by show 9 ≤ sizeLine; decide), fun g0 H4 n4 s4 h4 => ?_⟩
      have h4' : H4 g0 = some (.lst (szs01.map V.int)) := by rw [h4]; rfl
      clear h4
      refine ⟨d, _, g0, _, rfl, ?_, ?_, SqL.of h4', by decide, sizes_okB (by decide +kernel), fun H5 pd ds s5 npd hDg hds => ?_⟩
      · show (0 : Int) ≤ 100 + ((i : Nat) : Int)
        omega
      · show 100 + ((i : Nat) : Int) ≤ 100000
        omega
      obtain ⟨d0, g0', v0, B0⟩ := dig hds (j := 0) (z := ((10 ^ 60 : Nat) : Int)) (by decide +kernel)
      obtain ⟨d1, g1', v1, B1⟩ := dig hds (j := 1) (z := 7) rfl
      obtain ⟨d2, g2', v2, B2⟩ := dig hds (j := 2) (z := 60) rfl
      obtain ⟨d3, g3', v3, B3⟩ := dig hds (j := 3) (z := 5) rfl
      obtain ⟨d4, g4', v4, B4⟩ := dig hds (j := 4) (z := 62) rfl
      obtain ⟨d5, g5', v5, B5⟩ := dig hds (j := 5) (z := 2) rfl
      obtain ⟨d6, g6', v6, B6⟩ := dig hds (j := 6) (z := 96) rfl
      obtain ⟨d7, g7', v7, B7⟩ := dig hds (j := 7) (z := 10) rfl
      obtain ⟨d8, g8', v8, B8⟩ := dig hds (j := 8) (z := 14) rfl
      have lt0 : d0 < 10 ^ 60 := Int.ofNat_lt.mp v0
      clear v0
      have s35 := s4.trans s5
      have T5 := T3.same s35
      refine ⟨_, rfl, pd, _, _, _, rfl, rfl, SqL.of hDg, B0, _, rfl, pd, _, _, _, rfl, rfl, SqL.of hDg, B1, _, rfl, pd, _, _, _, rfl, rfl, SqL.of hDg, B2, d0, d1, d2, rfl, lt0, by omega, by omega, fun r hr => ?_⟩
      have r70 : r < 10 ^ 70 := Nat.lt_trans hr p60
      refine ⟨_, rfl, r, rfl, r70, ?_⟩
      obtain ⟨f, ef, fc⟩ : ∃ f : Str, Str.ofString (toString ((r : Nat) : Int)) = f ∧ f.cps.toList = TL.numL r := ⟨_, rfl, TL.tl_num r⟩
      have shf : ∀ {Q' : VK} {G : Hp}, Q' (.str f) G → spShow K [.int (r : Nat)] G Q' E0 := fun q => ⟨r, rfl, r70, by rw [ef]; exact q⟩
      rw [ef]
      have flen := len_cps f
      have fl : f.length ≤ 70 := by rw [← flen, fc]; exact TL.numL_len (by decide) r70
      have fasc : Asc f := fun c hc => by
        rw [fc] at hc
        have := TL.numL_digits r c hc
        omega
      refine ⟨_, rfl, r, rfl, r70, ?_⟩
      rw [ef]
      refine ⟨_, rfl, rfl, _, rfl, ?_⟩
      rw [show (!decide (V.str f = V.str f)) = false by rw [decide_eq_true rfl]; rfl]
      refine iteF ⟨_, rfl, r, rfl, r70, ?_⟩
      rw [ef]
      refine ⟨_, _, _, _, _, rfl, .ty "str", .base (.str _), isStr, _, rfl, iteF ?_⟩
      refine ⟨_, rfl, _, rfl, .inl ⟨_, rfl, _, true, rfl, rfl, _, rfl, iteF ?_⟩⟩
      refine ⟨_, rfl, _, _, rfl, rfl, _, rfl, .inl ⟨_, rfl, _, true, rfl, rfl, _, rfl, iteF ?_⟩⟩
      obtain ⟨c6, hc6⟩ : ∃ c, some_.cps.toList[d6]? = some c := ⟨_, List.getElem?_eq_getElem (by omega)⟩
      obtain ⟨c7, hc7⟩ : ∃ c, some_.cps.toList[d7]? = some c := ⟨_, List.getElem?_eq_getElem (by omega)⟩
      refine ⟨_, rfl, _, rfl, pd, _, _, _, rfl, rfl, SqL.of hDg, B6, _, _, c6, rfl, rfl, sz (by omega), ats hc6, _, rfl, _, rfl, pd, _, _, _, rfl, rfl, SqL.of hDg, B7, _, _, c7, rfl, rfl, sz (by omega), ats hc7, (by show 2 ≤ sizeLine; decide), fun x6 H6 m6 s6 k6 => ?_⟩
      obtain ⟨sg, AS, sgl⟩ : ∃ sg : Str, atI [V.str ⟨#[c6]⟩, V.str ⟨#[c7]⟩] (d5 : Int) = some (.str sg) ∧ sg.length ≤ 1 := by
        rcases (show d5 = 0 ∨ d5 = 1 by omega) with rfl | rfl
        · exact ⟨_, ats (i := 0) rfl, Nat.le_refl 1⟩
        · exact ⟨_, ats (i := 1) rfl, Nat.le_refl 1⟩
      have hD6 := s6 _ _ hDg
      refine ⟨_, rfl, pd, _, _, _, rfl, rfl, SqL.of hD6, B5, x6, _, _, _, rfl, rfl, SqL.of k6, AS, ?_⟩
      refine ⟨_, rfl, _, rfl, pd, _, _, _, rfl, rfl, SqL.of hD6, B3, _, rfl, pd, _, _, _, rfl, rfl, SqL.of hD6, B4, _, rfl, f, d3, d4, sg, rfl, by omega, sgl, fun y hy => ?_⟩
      have T6 := T5.same s6
      have D36 := (Tbd.of T3 s35).step s6
      refine ⟨_, rfl, f, rfl, by omega, T6, fun H7 e7 => ?_⟩
      refine ⟨_, rfl, iteF ⟨_, rfl, y, rfl, by omega, e7.tab, fun H8 e8 => ?_⟩⟩
      refine ⟨_, rfl, iteF ⟨_, rfl, y, rfl, by omega, e8.tab, fun H9 e9 => ?_⟩⟩
      refine ⟨_, rfl, iteF ?_⟩
      have D69 := (e7.trans e8).trans e9
      have hD9 := D69.keep T6 hD6
      have T9 := D69.tab
      have sp1 : (Str.ofString " ").length = 1 := by decide +kernel
      have ze1 : (Str.ofString "0").length = 1 := by decide +kernel
      have nl1 : (Str.ofString "\n").length = 1 := by decide +kernel
      refine ⟨_, rfl, _, rfl, _, _, rfl, rfl, _, rfl, (by show 1 ≤ sizeLine; decide), fun t1 G1 n1 r1 g1 => ?_⟩
      refine ⟨_, rfl, (by show 1 ≤ sizeLine; decide), fun t2 G2 n2 r2 g2 t3 n3 => ?_⟩
      have r3 := Same.new (o := .dK []) n3
      have g3 : (upd G2 t3 (.dK [])) t3 = some (.dK []) := upd_same
      revert r3 g3
      generalize (upd G2 t3 (.dK [])) = G3
      intro r3 g3
      refine ⟨(by show 0 ≤ sizeLine; decide), fun t4 G4 n4 r4 g4 => ⟨(by show 0 ≤ sizeLine; decide), fun t5 G5 n5 r5 g5 => ?_⟩⟩
      refine ⟨_, rfl, _, _, rfl, rfl, sz (by omega), (by show 11 ≤ sizeLine; decide), fun t6 G6 n6 r6 g6 => ?_⟩
      refine ⟨_, rfl, _, rfl, _, _, rfl, rfl, sz (by omega), _, rfl, _, _, rfl, rfl, sz (by omega), (by show 3 ≤ sizeLine; decide), fun t7 G7 n7 r7 g7 => ⟨t6, t7, _, _, rfl, rfl, SqL.of (r7 _ _ g6), SqL.of g7, (by show 14 ≤ sizeLine; decide), fun t8 G8 n8 r8 g8 => ?_⟩⟩
      have R := ((((((r1.trans r2).trans r3).trans r4).trans r5).trans r6).trans r7).trans r8
      have y1 := ((((((r2.trans r3).trans r4).trans r5).trans r6).trans r7).trans r8) _ _ g1
      have y2 := (((((r3.trans r4).trans r5).trans r6).trans r7).trans r8) _ _ g2
      have y3 := ((((r4.trans r5).trans r6).trans r7).trans r8) _ _ g3
      have y4 := (((r5.trans r6).trans r7).trans r8) _ _ g4
      have y5 := ((r6.trans r7).trans r8) _ _ g5
      have TG := T9.same R
      have hDG := R _ _ hD9
      have fne : f.cps.toList ≠ [] := by rw [fc]; exact TL.numL_ne r
      have fpos : 1 ≤ f.length := by
        rw [← flen]
        exact List.length_pos_iff.mpr fne
      obtain ⟨L, eL, hL, L14⟩ : ∃ L : List V, [V.non, V.bl true, V.bl false, V.int (r : Nat), V.int (0 - ((r : Nat) : Int)), V.ref t1, V.ref t2, V.ref t3, V.ref t4, V.ref t5, V.str (f ++ Str.ofString "\n")] ++ [V.str (Str.ofString ""), V.str (Str.ofString " " ++ f), V.str (Str.ofString "0" ++ f)] = L ∧ (∀ x ∈ L, O01 K (er (tps tfs K) G8) x) ∧ L.length = 14 := by
        refine ⟨_, rfl, fun x hx => ?_, rfl⟩
        simp only [List.mem_append, List.mem_cons, List.not_mem_nil, or_false] at hx
        have ref : ∀ {a : Addr} {o : HO}, er (tps tfs K) G8 a = some o → NoStr K (er (tps tfs K) G8) (.ref a) → NoInt K (er (tps tfs K) G8) (.ref a) → O01 K (er (tps tfs K) G8) (.ref a) := fun _ n m => ⟨.inl ⟨n, (fun t e => by cases e), rfl⟩, .inr (.inr m)⟩
        have st : ∀ t : Str, t.length ≤ 100 → wrT t = false → O01 K (er (tps tfs K) G8) (.str t) := fun t l e => ⟨.inr ⟨t, rfl, by omega, e.symm⟩, .inr (.inr ⟨_, .base (.str _), kit_ty (by decide +kernel)⟩)⟩
        have q1 := app_len f (Str.ofString "\n")
        have q2 := app_len (Str.ofString " ") f
        have q3 := app_len (Str.ofString "0") f
        rcases hx with (rfl | rfl | rfl | rfl | rfl | rfl | rfl | rfl | rfl | rfl | rfl) | rfl | rfl | rfl
        · exact ⟨.inl ⟨noStr_non, (fun t e => by cases e), rfl⟩, .inr (.inr ⟨_, .base .non, kit_ty (by decide +kernel)⟩)⟩
        · exact ⟨.inl ⟨noStr_bl _, (fun t e => by cases e), rfl⟩, .inr (.inl ⟨_, rfl⟩)⟩
        · exact ⟨.inl ⟨noStr_bl _, (fun t e => by cases e), rfl⟩, .inr (.inl ⟨_, rfl⟩)⟩
        · exact ⟨.inl ⟨noStr_int _, (fun t e => by cases e), rfl⟩, .inl ⟨_, rfl⟩⟩
        · exact ⟨.inl ⟨noStr_int _, (fun t e => by cases e), rfl⟩, .inl ⟨_, rfl⟩⟩
        · exact ref (TG.er y1) (noStr_lst (TG.er y1)) ⟨_, .base (.lst (TG.er y1)), kit_ty (by decide +kernel)⟩
        · exact ref (TG.er y2) (noStr_tup (TG.er y2)) ⟨_, .base (.tup (TG.er y2)), kit_ty (by decide +kernel)⟩
        · exact ref (TG.er y3) (noStr_dK (TG.er y3)) ⟨_, .base (.dK (TG.er y3)), kit_ty (by decide +kernel)⟩
        · exact ref (TG.er y4) (noStr_lst (TG.er y4)) ⟨_, .base (.lst (TG.er y4)), kit_ty (by decide +kernel)⟩
        · exact ref (TG.er y5) (noStr_tup (TG.er y5)) ⟨_, .base (.tup (TG.er y5)), kit_ty (by decide +kernel)⟩
        · exact st _ (by omega) (wr_bad01 (c := 10) (by rw [app_cps]; exact List.mem_append_right _ (by decide +kernel)) (by omega))
        · exact st _ (by decide +kernel) (by decide +kernel)
        · exact st _ (by omega) (wr_bad01 (c := 32) (by rw [app_cps]; exact List.mem_append_left _ (by decide +kernel)) (by omega))
        · exact st _ (by omega) (wr_zero01 (by rw [app_cps]; rfl) (by omega))
      have g8' : G8 t8 = some (.lst L) := by rw [← eL]; exact g8
      clear g8 g6 g7 eL
      obtain ⟨v8x, AX, hx8⟩ : ∃ x, atI L (d8 : Int) = some x ∧ x ∈ L := ⟨_, ats (List.getElem?_eq_getElem (by omega)), List.getElem_mem (by omega)⟩
      refine ⟨_, rfl, _, rfl, pd, _, _, _, rfl, rfl, SqL.of hDG, B8, t8, _, _, _, rfl, rfl, SqL.of g8', AX, v8x, false, rfl, TG, (hL _ hx8).1.same er_same, fun t H' q _ e2 => (by cases e2), fun _ H11 q11 d11 h11 => ?_⟩
      refine ⟨(by show 2 ≤ sizeLine; decide), fun q12 H12 n12 s12 h12 => ?_⟩
      have fl2 : ∀ x ∈ [V.str (Str.ofString "no"), V.int 0], Fl x := fun x hx => by
        simp only [List.mem_cons, List.not_mem_nil, or_false] at hx
        rcases hx with rfl | rfl
        · exact asc_no01
        · exact trivial
      have l1 := Ly.tup (SqT.of (K := K) (s12 _ _ h11)) (.fl (n := 0) fl2)
      have l2 := Ly.tup (SqT.of (K := K) h12) (.fl (n := 0) fl2)
      refine ⟨_, _, l1.dp, l2.dp, l1.sh, l2.sh, _, rfl, ?_⟩
      rw [l1.eqv]
      refine iteF ?_
      have D12 := d11.step s12
      have g12 := D12.keep TG g8'
      refine ⟨_, rfl, t8, rfl, ⟨_, SqL.of g12⟩, for_list (K := K) (a := t8) (xs := L) (fun m σ H' => H' = H12 ∧ ∃ (u10 u11 : Option V), σ = [some (.ref a), some (.str some_), some (.int (i : Nat)), some (.int d), some (.ref pd), some (.int (r : Nat)), some (.str f), some (.str sg), some (.str y), some (.ref t8), u10, u11])
        ⟨rfl, _, _, rfl⟩ (fun m σ H' _ ⟨e, _⟩ => by rw [e]; exact SqL.of g12) ?_ ?_⟩
      · rintro m x σ H' hm ⟨rfl, u10, u11, rfl⟩
        have hx := ((hL x (List.mem_of_getElem? hm)).same D12.er).2
        rcases hx with ⟨n, rfl⟩ | ⟨b, rfl⟩ | ⟨ty, hty, hk⟩
        · refine ⟨_, rfl, _, _, _, _, _, rfl, .ty "int", .base (.int n), isInt, _, rfl, iteT ⟨_, rfl, _, _, _, _, _, rfl, .ty "bool", .base (.int n), intBool, ?_⟩⟩
          refine ⟨_, rfl, _, rfl, _, rfl, iteT ⟨_, rfl, _, rfl, .inl ⟨n, rfl, _, true, rfl, rfl, _, rfl, iteF ?_⟩⟩⟩
          exact ⟨_, rfl, _, rfl, iteF (iteF ⟨rfl, _, _, rfl⟩)⟩
        · refine ⟨_, rfl, _, _, _, _, _, rfl, .ty "int", .base (.bl b), boolInt, _, rfl, iteT ⟨_, rfl, _, _, _, _, _, rfl, .ty "bool", .base (.bl b), boolBool, ?_⟩⟩
          refine ⟨_, rfl, _, rfl, _, rfl, iteF ?_⟩
          exact iteF ⟨_, rfl, _, rfl, iteT ⟨_, rfl, _, rfl, .inr ⟨.inl ⟨b, rfl⟩, _, false, rfl, rfl, _, rfl, iteF ⟨rfl, _, _, rfl⟩⟩⟩⟩
        · refine ⟨_, rfl, _, _, _, _, _, rfl, .ty "int", hty, hk, _, rfl, iteF ?_⟩
          refine ⟨_, rfl, _, rfl, iteF ?_⟩
          exact iteF ⟨_, rfl, _, rfl, iteT ⟨_, rfl, _, rfl, .inr ⟨.inr ⟨ty, hty, hk⟩, _, false, rfl, rfl, _, rfl, iteF ⟨rfl, _, _, rfl⟩⟩⟩⟩
      · rintro σ H' ⟨rfl, u10, u11, rfl⟩
        exact ⟨_, _, _, _, _, _, _, _, _, _, rfl, sm1.trans ((D36.trans D69).trans ((Tbd.of T9 R).trans D12))⟩
end
end Jr
namespace Jr
open PySem PySem.Spec PyProof.Rows L2
theorem tx_of {K : PySem.W.Frag} {h : Heap} {mg : Str → Option Value} {w : World} (X : K.In h) (G : h.Ns mainGlobals mg) (c : SaysCT fa fn tfs (fun K => (exs K).all id) w h K) : Tx K mg := {
    n_len := He.free_ok X G (c.t.d.fact 0 (f := .free "len") rfl)
    n_range := He.free_ok X G (c.t.d.fact 1 (f := .free "range") rfl)
    n_max := He.free_ok X G (c.t.d.fact 2 (f := .free "max") rfl)
    n_isinstance := He.free_ok X G (c.t.d.fact 3 (f := .free "isinstance") rfl)
    n_str := He.free_ok X G (c.t.d.fact 4 (f := .free "str") rfl)
    n_int := He.free_ok X G (c.t.d.fact 5 (f := .free "int") rfl)
    n_bool := He.free_ok X G (c.t.d.fact 6 (f := .free "bool") rfl)
    n_all := He.free_ok X G (c.t.d.fact 7 (f := .free "all") rfl)
    n_enumerate := He.free_ok X G (c.t.d.fact 8 (f := .free "enumerate") rfl)
    n_ValueError := He.free_ok X G (c.t.d.fact 9 (f := .free "ValueError") rfl)
    c_FIGURES := He.str_ok X G (c.t.d.fact 10 (f := .str "FIGURES" "0123456789") rfl)
    c_MOST_FIGURES := He.int_ok X G (c.t.d.fact 11 (f := .int "MOST_FIGURES" 60) rfl)
    g_JoinError := He.glo_ok X G (c.t.d.fact 12 (f := .glo "JoinError") rfl)
    rd_JoinError := (exAt (i := 0) c.more rfl)
    ga_JoinError := of_decide_eq_true (exAt (i := 1) c.more rfl)
    fc_JoinError := fcB_ok (exAt (i := 2) c.more rfl)
    g_NoText := He.glo_ok X G (c.t.d.fact 13 (f := .glo "NoText") rfl)
    xc_NoText := xcB_ok (exAt (i := 3) c.more rfl)
    in_NoText := of_decide_eq_true (exAt (i := 4) c.more rfl)
    it_NoText := of_decide_eq_true (exAt (i := 5) c.more rfl)
    no_NoText_row := of_decide_eq_true (exAt (i := 6) c.more rfl)
    exm_NoText_NoText := of_decide_eq_true (exAt (i := 7) c.more rfl)
    d_JoinError___init__ := c.t.d.def_ 0 (d := ⟨("JoinError", some "__init__"), "__init__", "JoinError.__init__", defArgs s_JoinError___init__, defBody s_JoinError___init__, defScope s_JoinError___init__, [], []⟩) rfl
    d_NoText___init__ := c.t.d.def_ 1 (d := ⟨("NoText", some "__init__"), "__init__", "NoText.__init__", defArgs s_NoText___init__, defBody s_NoText___init__, defScope s_NoText___init__, [], []⟩) rfl
    g_is_whole := He.glo_ok X G (c.t.d.fact 14 (f := .glo "is_whole") rfl)
    d_is_whole := c.t.d.def_ 2 (d := ⟨("is_whole", none), "is_whole", "is_whole", defArgs s_is_whole, defBody s_is_whole, defScope s_is_whole, [], []⟩) rfl
    g_show_number := He.glo_ok X G (c.t.d.fact 15 (f := .glo "show_number") rfl)
    d_show_number := c.t.d.def_ 3 (d := ⟨("show_number", none), "show_number", "show_number", defArgs s_show_number, defBody s_show_number, defScope s_show_number, [], []⟩) rfl
    g_is_written_number := He.glo_ok X G (c.t.d.fact 16 (f := .glo "is_written_number") rfl)
    d_is_written_number := c.t.d.def_ 4 (d := ⟨("is_written_number", none), "is_written_number", "is_written_number", defArgs s_is_written_number, defBody s_is_written_number, defScope s_is_written_number, [], []⟩) rfl
    g_read_number := He.glo_ok X G (c.t.d.fact 17 (f := .glo "read_number") rfl)
    d_read_number := c.t.d.def_ 5 (d := ⟨("read_number", none), "read_number", "read_number", defArgs s_read_number, defBody s_read_number, defScope s_read_number, [], []⟩) rfl
    g__law_numbers := He.glo_ok X G (c.t.d.fact 18 (f := .glo "_law_numbers") rfl)
    d__law_numbers := c.t.d.def_ 6 (d := ⟨("_law_numbers", none), "_law_numbers", "_law_numbers", defArgs s__law_numbers, defBody s__law_numbers, defScope s__law_numbers, [], []⟩) rfl
    g__law_drawn := He.glo_ok X G (c.t.d.fact 19 (f := .glo "_law_drawn") rfl)
    d__law_drawn := c.t.d.def_ 7 (d := ⟨("_law_drawn", none), "_law_drawn", "_law_drawn", defArgs s__law_drawn, defBody s__law_drawn, defScope s__law_drawn, [], []⟩) rfl
    g__law_figures := He.glo_ok X G (c.t.d.fact 20 (f := .glo "_law_figures") rfl)
    d__law_figures := c.t.d.def_ 8 (d := ⟨("_law_figures", none), "_law_figures", "_law_figures", defArgs s__law_figures, defBody s__law_figures, defScope s__law_figures, [], []⟩) rfl
    g__law_bent := He.glo_ok X G (c.t.d.fact 21 (f := .glo "_law_bent") rfl)
    d__law_bent := c.t.d.def_ 9 (d := ⟨("_law_bent", none), "_law_bent", "_law_bent", defArgs s__law_bent, defBody s__law_bent, defScope s__law_bent, [], []⟩) rfl
    g__law_due := He.glo_ok X G (c.t.d.fact 22 (f := .glo "_law_due") rfl)
    d__law_due := c.t.d.def_ 10 (d := ⟨("_law_due", none), "_law_due", "_law_due", defArgs s__law_due, defBody s__law_due, defScope s__law_due, [], []⟩) rfl
    g__law_read := He.glo_ok X G (c.t.d.fact 23 (f := .glo "_law_read") rfl)
    d__law_read := c.t.d.def_ 11 (d := ⟨("_law_read", none), "_law_read", "_law_read", defArgs s__law_read, defBody s__law_read, defScope s__law_read, [], []⟩) rfl
    g__law_right := He.glo_ok X G (c.t.d.fact 24 (f := .glo "_law_right") rfl)
    d__law_right := c.t.d.def_ 12 (d := ⟨("_law_right", none), "_law_right", "_law_right", defArgs s__law_right, defBody s__law_right, defScope s__law_right, [], []⟩) rfl
    g_law := He.glo_ok X G (c.t.d.fact 25 (f := .glo "law") rfl)
    d_law := c.t.d.def_ 13 (d := ⟨("law", none), "law", "law", defArgs s_law, defBody s_law, defScope s_law, [], []⟩) rfl }
theorem law_fact {P : Program} {w : World} {K : PySem.W.Frag} {h : Heap} {mg : Str → Option Value} {f : Addr} (X : K.In h) (G : h.Ns mainGlobals mg) (hfa : mg ("law" : Str) = some (.ref f)) (c : SaysCT fa fn tfs (fun K => (exs K).all id) w h K) :
    ∃ fd : FuncData, (∀ (s : Shared) (v : Value), BindsTo s fd ⟨[v], []⟩ [("_law_script", v)]) ∧ ∀ base : Heap, K.In base → base.Ns mainGlobals mg → TBs tfs K mg base → FnOk P w K mg base CX0 7 f fd ["_law_script"] (spLawT K (tps tfs K)) := by
  have T := tx_of X G c
  have e := hfa.symm.trans (He.glo_ok X G (c.t.d.fact 25 (f := .glo "law") rfl))
  cases e
  obtain ⟨fd, F, ok⟩ := fn_law (P := P) (w := w) T
  have b := FunD.bindsA (ps := ["_law_script"]) F fun _ _ _ _ _ _ us hl => match us, hl with | [_], _ => rfl
  exact ⟨fd, fun s v => b s [v] rfl, fun base _ _ hT => ok base hT⟩
end Jr
open PySem PySem.W PySem.Calls PyProof.Rows
set_option maxRecDepth 100000 in
set_option maxHeartbeats 0 in
theorem PySem.Challenge.cw_joinranks_k01_numbers_written_and_read_holds : PySem.Challenge.rw_joinranks_k01_numbers_written_and_read.Holds := by
  w_on; o_law
  refine HandSHeadRun.head_any (r := OpenLaw.row PySem.Challenge.rw_joinranks_k01_numbers_written_and_read) (q := view (OpenLaw.row PySem.Challenge.rw_joinranks_k01_numbers_written_and_read).prog [18]) (H := Jr.hk) (ob := Jr.ob) (M := 4000) (loose := Jr.loose) (d := HandSHeadRun.topDef (OpenLaw.row PySem.Challenge.rw_joinranks_k01_numbers_written_and_read).prog 18) (kwd := []) Jr.ob_eq
    (by kernel_rfl) (fun s => by kernel_rfl) Jr.run (by kernel_rfl) (by kernel_rfl) (by kernel_rfl) (by rfl) (by first | assumption | decide +kernel) (by decide +kernel) ⟨rfl, rfl, rfl, rfl, rfl, by decide +kernel⟩ ?hw ?hc
  case hw => w_witness2
  case hc =>
    refine Jr.walkT (l := PySem.Challenge.rw_joinranks_k01_numbers_written_and_read) (tfs := Jr.tfs) (n := 63) (k := 7) (x := "_law_script") rfl rfl (by kernel_rfl) ⟨rfl, by decide, by decide⟩ ?F
    intro w mg fa h Y G hmg0
    obtain ⟨K, KX, c⟩ := Y
    have hmg : mg ("law" : PySem.Str) = some (.ref fa) := by
      have e : (HandSHeadRun.topDef (OpenLaw.row PySem.Challenge.rw_joinranks_k01_numbers_written_and_read).prog 18).name = ("law" : PySem.Str) := by kernel_rfl
      rw [← e]
      exact hmg0
    obtain ⟨fd, hb, hF⟩ := Jr.law_fact (P := (PySem.Challenge.rw_joinranks_k01_numbers_written_and_read).prog) (w := w) KX G hmg c
    exact ⟨K, fd, KX, c.hd, c.out, c.empty, hb, hF⟩
#print axioms PySem.Challenge.cw_joinranks_k01_numbers_written_and_read_holds

