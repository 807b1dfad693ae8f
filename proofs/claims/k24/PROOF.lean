import PyProof.Rows.All
import Wide.All
import OpenK.AllK
import Wide.FinOn
import KE.KStateDown
import Lean
import HandS.ForMost
import HandS.Exc
import HandS.TryOnly
import HandS.ExcOwn
import HandS.WordsExc
import HandS.ExcInit
import HandS.ExcField
import HandS.CallSlots
import KE.KExcIs
import HandS.ExcIs
import HandS.Conv
import HandS.SortKw
import KE.DataMinMax
import HandS.AnyAll
import HandS.IsInst
import HandS.Style
import HandS.Wide
import HandS.FStr
import HandS.Flow
import HandS.Codes
import HandS.Defaults
import HandS.More
import HandS.Head0
import HandS.Head1
import HandS.Head2
import HandS.HeadEnd
import HandS.HeadHook1
import HandS.HeadHook2
import HandS.HeadHook3
import HandS.HeadHook4
import HandS.EndBits
import HandS.EndTab
import HandS.HeadWalk
import HandS.RevRange
import KE.KDictZip
import HandS.TryMany
import HandS.ExcValue
import HandS.NoneIn
import HandS.Deep
import PySem.Challenge.RW_joinranks_k24_texts_numbers_borders
set_option Elab.async false
set_option linter.all false
set_option maxRecDepth 100000
set_option maxHeartbeats 2000000
namespace Jr
open PySem PySem.Spec PyProof.Rows L2
/-! ### list(text) -/
/-- the signs of a text, each a text -/
def sgn (c : Nat) : Str := ⟨#[c]⟩
def sgs (z : Str) : List Str := z.cps.toList.map sgn
theorem sgs_len (z : Str) : (sgs z).length = z.length := by simp [sgs, Str.length]
section
variable {X : Cx}
def rListStr : List V → Hp → VK → Prop := fun xs H Q => ∃ z : Str, xs = [.str z] ∧ z.length ≤ sizeLine ∧ ∀ l, H l = none → Q (.ref l) (upd H l (.lst ((sgs z).map V.str)))
theorem call_list_str (hc : X.calm = true) : CallR X (.type "list") rListStr := by
  intro pins s σ H xs us Q I r h
  obtain ⟨z, rfl, hz, q⟩ := h
  cases r with
  | cons r rr =>
    cases rr
    obtain ⟨t, rfl⟩ := r
    refine PySem.call_list_str (I.ok.hd hc) z t (fun h' tk acc c' hk e hi => ?_) hz
    refine ⟨.ref s.heap.objs.size, upd H s.heap.objs.size (.lst ((sgs z).map V.str)), I.laid hk (Nat.le_refl _) ⟨by rw [List.length_map, sgs_len]; exact hz, acc.toList, c', ?_, by rw [Array.toArray_toList]; exact e⟩, rfl, q _ (I.hok.fresh (Nat.le_refl _))⟩
    refine vals_of_idx _ _ (by rw [List.length_map, sgs_len, Array.length_toList]; exact hi.1) fun j u hj => ?_
    obtain ⟨c, t', hcx, rfl⟩ := hi.2 j u (by rw [← Array.getElem?_toList]; exact hj)
    refine ⟨.str (sgn c), ?_, ⟨_, rfl⟩⟩
    have e1 : z.cps.toList[j]? = some c := by rw [Array.getElem?_toList]; exact hcx
    simp [sgs, e1]
end
/-! ### enumerate(text) -/
def Ites (x : Str) : It :=
  ⟨fun i _ => i < x.cps.size, fun i H v H' => ∃ T c, v = .ref T ∧ H T = none ∧ x.cps[i]? = some c ∧ H' = upd H T (.tup [.int (i : Nat), .str (sgn c)]), fun i _ => x.cps.size ≤ i⟩
theorem turn_enumS {P : Program} {w : World} {K : PySem.W.Frag} {elts : List Expr} {kk : Nat} {tpos : Pos} (x : Str) (t : Tok) (ty : String) (hty : ty = "str_ascii_iterator" ∨ ty = "str_iterator") (e it : Addr) :
    Turn P w K (.Tuple elts kk tpos) (Ites x) [e, it] e (fun i h => i ≤ x.cps.size ∧ (∃ old, IsEnum h e it ((i : Nat) : Int) old) ∧ h.IsStrIter it ty x t i ∧ e ≠ it) where
  mem := by simp
  obj := fun i h st b hb => by
    obtain ⟨_, ⟨old, he⟩, ⟨o, ho, hc, hd⟩, _⟩ := st
    have e' : b = e ∨ b = it := by simpa using hb
    rcases e' with z | z
    · rw [z]; exact ⟨_, he, fun v q => nomatch q⟩
    · rw [z]; exact ⟨o, ho, fun v q => by rw [hd] at q; cases q⟩
  keep := fun i h h' st k => let ⟨hl, ⟨old, he⟩, ⟨o, ho, r⟩, hne⟩ := st; ⟨hl, ⟨old, k e (by simp) _ he⟩, ⟨o, k it (by simp) o ho, r⟩, hne⟩
  item := by
    intro X hP hw hK hc i pins s σ H E I hf st hg
    subst hP hw hK
    obtain ⟨hl0, ⟨old, he⟩, hit, hne⟩ := st
    have D : Draws X.prog X.w X.A.in1 it [it] x.cps.size (fun i v => ∃ c u, x.cps[i]? = some c ∧ v = .str ⟨#[c]⟩ u) (fun i h => h.IsStrIter it ty x t i) := by
      rcases hty with z | z
      · rw [z]; exact Draws.strAscii (A := X.A.in1) (I.ok.hd hc) it x t
      · rw [z]; exact Draws.strWide (A := X.A.in1) (I.ok.hd hc) it x t
    have hel : e < s.heap.objs.size := Heap.lt_size he
    have hil : it < s.heap.objs.size := by obtain ⟨_, q, _⟩ := hit; exact Heap.lt_size q
    refine wpAny_pyNext_enum_itemD D he hit hg hne (by simpa using hne) fun u h' tk hu ho hit' hT hsz hk => ?_
    obtain ⟨c, tu, hcx, rfl⟩ := hu
    refine ⟨_, rfl, wpAny_letOwnedTupleGo_enum (s := { s with heap := h', toks := tk + 1 }) ho fun h'' he' sb => ?_⟩
    have hT2 : h''.get? s.heap.objs.size = some { cls := .type "tuple", data := .seq #[.int i tk, .str ⟨#[c]⟩ tu] } := (sb.2 _ (Nat.ne_of_gt hel)).trans hT
    have new : ObjOk X.prog X.w (upd H s.heap.objs.size (.tup [.int (i : Nat), .str (sgn c)])) h'' s.heap.objs.size (.tup [.int (i : Nat), .str (sgn c)]) :=
      ⟨by show 2 ≤ sizeLine; decide, [.int i tk, .str ⟨#[c]⟩ tu], .cons ⟨_, rfl⟩ (.cons ⟨_, rfl⟩ .nil), ⟨_, hT2, rfl, _, rfl⟩⟩
    have I1 : Inv X pins σ (upd H s.heap.objs.size (.tup [.int (i : Nat), .str (sgn c)])) { s with heap := h'', toks := tk + 1 } :=
      I.turnedNew (ch := [e, it]) (fun b ob hb q => (sb.2 b (fun z => hb (by simp [z]))).trans (hk b ob (fun z => hb (by simp [z])) (fun z => hb (by simp [z])) q)) hf (Nat.le_refl _) new
    refine ⟨.ref s.heap.objs.size, _, I1, rfl, ⟨_, c, rfl, I.hok.fresh (Nat.le_refl _), hcx, rfl⟩, ⟨hg, ⟨.str ⟨#[c]⟩ tu, ?_⟩, ?_, hne⟩, fun b hb => ?_⟩
    · have e1 : ((i + 1 : Nat) : Int) = (i : Int) + 1 := by omega
      rw [e1]; exact he'
    · obtain ⟨o, q, r⟩ := hit'
      exact ⟨o, (sb.2 it (Ne.symm hne)).trans q, r⟩
    · have hb' : b < s.heap.objs.size := by
        have e' : b = e ∨ b = it := by simpa using hb
        rcases e' with z | z
        · rw [z]; exact hel
        · rw [z]; exact hil
      rw [upd_ne (Nat.ne_of_lt hb')]
      exact (hf b hb).1
  done := by
    intro X hP hw hK hc i pins s σ H E I hf st hg
    subst hP hw hK
    obtain ⟨hl0, ⟨old, he⟩, hit, hne⟩ := st
    have ei : i = x.cps.size := Nat.le_antisymm hl0 hg
    subst ei
    have D : Draws X.prog X.w X.A.in1 it [it] x.cps.size (fun i v => ∃ c u, x.cps[i]? = some c ∧ v = .str ⟨#[c]⟩ u) (fun i h => h.IsStrIter it ty x t i) := by
      rcases hty with z | z
      · rw [z]; exact Draws.strAscii (A := X.A.in1) (I.ok.hd hc) it x t
      · rw [z]; exact Draws.strWide (A := X.A.in1) (I.ok.hd hc) it x t
    obtain ⟨f0, f1, f2, f3, f4, f5⟩ := hf it (by simp)
    exact wpAny_pyNext_enum_endD D he hit fun h' eb => ⟨rfl, I.turned (t' := s.toks) (fun b o hb q => eb b o hb q) f0 f1 f3 f4 f5⟩
  self := fun A i s Q E st h => let ⟨_, ⟨_, he⟩, _⟩ := st; wpAny_pyIter_enum he h
def iEnumS (ta : TA) : TI := fun σ H R => ta σ H fun vs H1 => ∃ x : Str, vs = [.str x] ∧ R (Ites x) H1
theorem pi_enumS {X : Cx} {e : Expr} {ta : TA} {p pos tpos : Pos} {elts : List Expr} {kk : Nat} (hg : Gl X "enumerate") (hm : X.mg "enumerate" = none) (ha : PA X [e] ta) (hs : starEach [e] X.env = [(false, eval e X.env)] := by rfl) :
    PI X (.Tuple elts kk tpos) (.Call (.Name "enumerate" p) [e] [] pos) (iEnumS ta) := by
  refine ⟨fun pins s σ H R I h => ?_⟩
  refine Call_ (ld_blt I hg hm boot_enumerate (PyProof.Rows.callWith_type1 (thn (ha.run pos pins s σ H _ I h) fun us s1 ⟨vs, H1, I1, r1, q1⟩ => ?_) hs rfl))
  obtain ⟨x, ex, q⟩ := q1
  subst ex
  cases r1 with
  | cons r rr =>
    cases rr
    obtain ⟨t, rfl⟩ := r
    refine call_enumerate_str fun h' he hit hsz hk => wpAny_pyIter_enum he ?_
    have I2 : Inv X pins σ H1 { s1 with heap := h' } := I1.kept (t' := s1.toks) hk
    have hty : strIterType x = "str_ascii_iterator" ∨ strIterType x = "str_iterator" := by
      unfold strIterType
      split
      · exact .inl rfl
      · exact .inr rfl
    refine ⟨s1.heap.objs.size + 1, [s1.heap.objs.size + 1, s1.heap.objs.size], _, _, H1, rfl, I2, turn_enumS x t (strIterType x) hty (s1.heap.objs.size + 1) s1.heap.objs.size, ⟨Nat.zero_le _, ⟨.none, he⟩, hit, Nat.succ_ne_self _⟩, fun b hb => ?_, q⟩
    have e' : b = s1.heap.objs.size + 1 ∨ b = s1.heap.objs.size := by simpa using hb
    have hle : s1.heap.objs.size ≤ b := by
      rcases e' with z | z
      · rw [z]; exact Nat.le_add_right _ _
      · rw [z]; exact Nat.le_refl _
    exact I1.fpOk hle (I1.hok.fresh hle)
/-! ### loops in short -/
section
variable {g : TG} {tb : TS} {D : Ends} {σ : L2.St} {H : Hp}
theorem for_enumS {x : Str} (Pv : Nat → L2.St → Hp → Prop) (h0 : Pv 0 σ H)
    (hs : ∀ i c T σ H, x.cps.toList[i]? = some c → H T = none → Pv i σ H → g (.ref T) σ (upd H T (.tup [.int (i : Nat), .str (sgn c)])) fun σ2 H2 => tb { D with nx := Pv (i + 1), ct := Pv (i + 1), bk := D.nx } σ2 H2) (hd : ∀ σ H, Pv x.cps.toList.length σ H → D.nx σ H) :
    ∃ W : Nat → Nat → L2.St → Hp → Prop, (∃ m, W 0 m σ H) ∧ ∀ i m σ H, W i m σ H →
      ((Ites x).stop i H ∧ D.nx σ H) ∨ ((Ites x).go i H ∧ ∃ N : L2.St → Hp → Prop, (∀ σ' H', N σ' H' → ∃ m', m' < m ∧ W (i + 1) m' σ' H') ∧ ∀ y H', (Ites x).yld i H y H' → g y σ H' fun σ2 H2 => tb { D with nx := N, ct := N, bk := D.nx } σ2 H2) := by
  have es : x.cps.toList.length = x.cps.size := by simp
  rw [es] at hd
  refine ⟨fun i m σ H => m = x.cps.size - i ∧ i ≤ x.cps.size ∧ Pv i σ H, ⟨x.cps.size, by simp, Nat.zero_le _, h0⟩, ?_⟩
  rintro i m σ H ⟨rfl, hi, p⟩
  by_cases hlt : i < x.cps.size
  · refine .inr ⟨hlt, Pv (i + 1), fun σ' H' p' => ⟨x.cps.size - (i + 1), by omega, rfl, hlt, p'⟩, fun y H' z => ?_⟩
    obtain ⟨T, c, rfl, hT, hc, rfl⟩ := z
    exact hs i c T σ H (by rw [Array.getElem?_toList]; exact hc) hT p
  · have e : i = x.cps.size := by omega
    subst e
    exact .inl ⟨Nat.le_refl _, hd σ H p⟩
theorem for_str {x : Str} (Pv : Nat → L2.St → Hp → Prop) (h0 : Pv 0 σ H)
    (hs : ∀ i c σ H, x.cps.toList[i]? = some c → Pv i σ H → g (.str (sgn c)) σ H fun σ2 H2 => tb { D with nx := Pv (i + 1), ct := Pv (i + 1), bk := D.nx } σ2 H2) (hd : ∀ σ H, Pv x.cps.toList.length σ H → D.nx σ H) :
    ∃ W : Nat → Nat → L2.St → Hp → Prop, (∃ m, W 0 m σ H) ∧ ∀ i m σ H, W i m σ H →
      ((Its x).stop i H ∧ D.nx σ H) ∨ ((Its x).go i H ∧ ∃ N : L2.St → Hp → Prop, (∀ σ' H', N σ' H' → ∃ m', m' < m ∧ W (i + 1) m' σ' H') ∧ ∀ y H', (Its x).yld i H y H' → g y σ H' fun σ2 H2 => tb { D with nx := N, ct := N, bk := D.nx } σ2 H2) := by
  have es : x.cps.toList.length = x.cps.size := by simp
  rw [es] at hd
  refine ⟨fun i m σ H => m = x.cps.size - i ∧ i ≤ x.cps.size ∧ Pv i σ H, ⟨x.cps.size, by simp, Nat.zero_le _, h0⟩, ?_⟩
  rintro i m σ H ⟨rfl, hi, p⟩
  by_cases hlt : i < x.cps.size
  · refine .inr ⟨hlt, Pv (i + 1), fun σ' H' p' => ⟨x.cps.size - (i + 1), by omega, rfl, hlt, p'⟩, fun y H' z => ?_⟩
    obtain ⟨e, c, hc, rfl⟩ := z
    subst e
    exact hs i c σ _ (by rw [Array.getElem?_toList]; exact hc) p
  · have e : i = x.cps.size := by omega
    subst e
    exact .inl ⟨Nat.le_refl _, hd σ H p⟩
theorem for_enum {K : PySem.W.Frag} {a : Addr} {xs : List V} (Pv : Nat → L2.St → Hp → Prop) (h0 : Pv 0 σ H) (hl : ∀ i σ H, i ≤ xs.length → Pv i σ H → SqL K H a xs)
    (hs : ∀ i x T σ H, xs[i]? = some x → H T = none → Pv i σ H → g (.ref T) σ (upd H T (.tup [.int (i : Nat), x])) fun σ2 H2 => tb { D with nx := Pv (i + 1), ct := Pv (i + 1), bk := D.nx } σ2 H2) (hd : ∀ σ H, Pv xs.length σ H → D.nx σ H) :
    ∃ W : Nat → Nat → L2.St → Hp → Prop, (∃ m, W 0 m σ H) ∧ ∀ i m σ H, W i m σ H →
      ((Ite K a).stop i H ∧ D.nx σ H) ∨ ((Ite K a).go i H ∧ ∃ N : L2.St → Hp → Prop, (∀ σ' H', N σ' H' → ∃ m', m' < m ∧ W (i + 1) m' σ' H') ∧ ∀ y H', (Ite K a).yld i H y H' → g y σ H' fun σ2 H2 => tb { D with nx := N, ct := N, bk := D.nx } σ2 H2) := by
  refine ⟨fun i m σ H => m = xs.length - i ∧ i ≤ xs.length ∧ Pv i σ H, ⟨xs.length, by simp, Nat.zero_le _, h0⟩, ?_⟩
  rintro i m σ H ⟨rfl, hi, p⟩
  have q := hl i σ H hi p
  by_cases hlt : i < xs.length
  · refine .inr ⟨⟨xs, xs[i], q, by simp [hlt]⟩, Pv (i + 1), fun σ' H' p' => ⟨xs.length - (i + 1), by omega, rfl, hlt, p'⟩, fun y H' z => ?_⟩
    obtain ⟨T, x, rfl, hT, rfl, hx⟩ := z
    exact hs i x T σ H (hx xs q) hT p
  · have e : i = xs.length := by omega
    subst e
    exact .inl ⟨⟨xs, q, Nat.le_refl _⟩, hd σ H p⟩
end
/-! ### defs and methods that keep a promise, by name -/
structure Cal (P : Program) (w : World) (K : PySem.W.Frag) (mg : Str → Option Value) (base : Heap) (CX : CXT) (k : Nat) (x : Str) (sp : Sp) : Prop where
  ex : ∃ (f : Addr) (fd : FuncData) (ps : List Str), FnOk P w K mg base CX k f fd ps sp ∧ mg x = some (.ref f) ∧ PySem.W.keepIn K (.ref f) = true ∧ Binds K fd ps []
structure Met (P : Program) (w : World) (K : PySem.W.Frag) (mg : Str → Option Value) (base : Heap) (CX : CXT) (k : Nat) (C : Addr) (m : Str) (sp : Sp) : Prop where
  cl : Cls K C
  ex : ∃ (f : Addr) (fd : FuncData) (ps : List Str), FnOk P w K mg base CX k f fd ps sp ∧ Meth K C m f ∧ Binds K fd ps []
structure Mkc (P : Program) (w : World) (K : PySem.W.Frag) (mg : Str → Option Value) (base : Heap) (CX : CXT) (k : Nat) (x : Str) (C : Addr) (sp : Sp) : Prop where
  ex : ∃ (f : Addr) (fd : FuncData) (ps : List Str), FnOk P w K mg base CX k f fd ps sp ∧ Mk K C f ∧ Binds K fd ps []
  g : mg x = some (.ref C)
section
variable {X : Cx} {k : Nat} {x : Str} {sp : Sp} {e : Expr} {es : List Expr} {t : TA} {p pos apos : Pos} {C : Addr} {m : Str} {o : Expr} {ta : TE}
theorem pe_cal (F : Cal X.prog X.w X.K X.mg X.base CX0 k x sp) (hr : Room k X.A) (hg : Gl X x) (ha : PA X (e :: es) t) (hdb : (x == ("__debug__" : Str)) = false := by decide)
    (he : starEach (e :: es) X.env = (false, eval e X.env) :: starEach es X.env := by rfl) (hpl : (backTo pos (starEach es X.env)).any (·.1) = false := by rfl) :
    PE X (.Call (.Name x p) (e :: es) [] pos) (fun σ H Q => t σ H fun vs H1 => sp vs H1 Q E0) := by
  obtain ⟨f, fd, ps, G, gm, kp, b⟩ := F.ex
  have z := pe_call (p := p) (pos := pos) (es := es) G hr hg gm kp b .nil pass0 ha hdb he hpl
  refine ⟨fun pins s σ H Q I h => z.run pins s σ H Q I ?_⟩
  show t σ H fun vs H1 => sp (vs ++ []) H1 Q E0
  simpa only [List.append_nil] using h
theorem pe_cal0 (F : Cal X.prog X.w X.K X.mg X.base CX0 k x sp) (hr : Room k X.A) (hg : Gl X x) (hdb : (x == ("__debug__" : Str)) = false := by decide) :
    PE X (.Call (.Name x p) [] [] pos) (fun _ H Q => sp [] H Q E0) := by
  obtain ⟨f, fd, ps, G, gm, kp, b⟩ := F.ex
  have z := pe_call0 (p := p) (pos := pos) G hr hg gm kp b .nil pass0 hdb
  exact ⟨fun pins s σ H Q I h => z.run pins s σ H Q I h⟩
theorem pe_met {pl : Sem Bool} (F : Met X.prog X.w X.K X.mg X.base CX0 k C m sp) (ho : PE X o ta) (hr : Room k X.A) (ha : PA X (e :: es) t)
    (hc : eval (.Call (.Attribute o m apos) (e :: es) [] pos) X.env = (do
      let ov ← eval o X.env
      standAt apos.atName
      let (f, first) ← holding [ov] (getMethod ov m pl)
      callWith pos f first (backTo pos (starEach (e :: es) X.env)) (backToKw pos (keywordEach [] X.env))) := by rfl)
    (he : starEach (e :: es) X.env = (false, eval e X.env) :: starEach es X.env := by rfl) (hpl : (backTo pos (starEach es X.env)).any (·.1) = false := by rfl) :
    PE X (.Call (.Attribute o m apos) (e :: es) [] pos) (fun σ H Q => ta σ H fun x H1 => ∃ a dx fs, x = .ref a ∧ H1 a = some (.ins C dx fs) ∧ fs.lookup m = none ∧ t σ H1 fun vs H2 => sp (x :: vs) H2 Q E0) := by
  obtain ⟨f, fd, ps, G, mt, b⟩ := F.ex
  have z := pe_meth (apos := apos) (pos := pos) ho F.cl mt G hr b .nil pass0 ha he hpl hc
  refine ⟨fun pins s σ H Q I h => z.run pins s σ H Q I ?_⟩
  show ta σ H fun x H1 => ∃ a dx fs, x = .ref a ∧ H1 a = some (.ins C dx fs) ∧ fs.lookup m = none ∧ t σ H1 fun vs H2 => sp (x :: (vs ++ [])) H2 Q E0
  simpa only [List.append_nil] using h
theorem pe_met0 {pl : Sem Bool} (F : Met X.prog X.w X.K X.mg X.base CX0 k C m sp) (ho : PE X o ta) (hr : Room k X.A)
    (hc : eval (.Call (.Attribute o m apos) [] [] pos) X.env = (do
      let ov ← eval o X.env
      standAt apos.atName
      let (f, first) ← holding [ov] (getMethod ov m pl)
      callWith pos f first (backTo pos (starEach [] X.env)) (backToKw pos (keywordEach [] X.env))) := by rfl) :
    PE X (.Call (.Attribute o m apos) [] [] pos) (fun σ H Q => ta σ H fun x H1 => ∃ a dx fs, x = .ref a ∧ H1 a = some (.ins C dx fs) ∧ fs.lookup m = none ∧ sp [x] H1 Q E0) := by
  obtain ⟨f, fd, ps, G, mt, b⟩ := F.ex
  have z := pe_meth0 (apos := apos) (pos := pos) ho F.cl mt G hr b .nil pass0 hc
  exact ⟨fun pins s σ H Q I h => z.run pins s σ H Q I h⟩
theorem pe_mk (F : Mkc X.prog X.w X.K X.mg X.base CX0 k x C sp) (hr : Room (k + 1) X.A) (hg : Gl X x) (ha : PA X (e :: es) t) (hdb : (x == ("__debug__" : Str)) = false := by decide)
    (he : starEach (e :: es) X.env = (false, eval e X.env) :: starEach es X.env := by rfl) (hpl : (backTo pos (starEach es X.env)).any (·.1) = false := by rfl) :
    PE X (.Call (.Name x p) (e :: es) [] pos) (fun σ H Q => t σ H fun vs H1 => ∀ x dx, H1 x = none → H1 dx = none → dx ≠ x →
      sp (.ref x :: vs) (upd (upd H1 dx (.own x)) x (.ins C dx [])) (fun v H2 => v = .non ∧ Q (.ref x) H2) E0) := by
  obtain ⟨f, fd, ps, G, mk, b⟩ := F.ex
  have z := pe_make (p := p) (pos := pos) (es := es) mk G hr hg F.g b .nil pass0 ha hdb he hpl
  refine ⟨fun pins s σ H Q I h => z.run pins s σ H Q I ?_⟩
  show t σ H fun vs H1 => ∀ x dx, H1 x = none → H1 dx = none → dx ≠ x → sp (.ref x :: (vs ++ [])) (upd (upd H1 dx (.own x)) x (.ins C dx [])) (fun v H2 => v = .non ∧ Q (.ref x) H2) E0
  simpa only [List.append_nil] using h
end
/-! ### heaps -/
theorem Same.new {H : Hp} {p : Addr} {o : HO} (h : H p = none) : Same H (upd H p o) := fun b x e => by
  rw [upd_ne (ne_of_none e h)]
  exact e
/-- an object that H does not know may change -/
theorem Same.mut {H H' : Hp} {p : Addr} {o : HO} (s : Same H H') (h : H p = none) : Same H (upd H' p o) := fun b x e => by
  rw [upd_ne (ne_of_none e h)]
  exact s b x e
theorem Same.put {H H' : Hp} {p : Addr} {o : HO} (s : Same H H') (h : H' p = none) : Same H (upd H' p o) := s.trans (Same.new h)
theorem sz {n : Nat} (h : n ≤ 100000) : n ≤ sizeLine := Nat.le_trans h (by decide)
theorem szl {n : Nat} (h : n < 100000) : n < sizeLine := Nat.lt_of_lt_of_le h (by decide)
theorem ats {α : Type} {xs : List α} {i : Nat} {x : α} (h : xs[i]? = some x) : atI xs (i : Int) = some x := by
  have hl : i < xs.length := (List.getElem?_eq_some_iff.mp h).1
  unfold atI ixN
  rw [if_pos (by omega), if_pos (by omega)]
  simpa using h
/-- digits below their sizes -/
abbrev Digs : List Int → List Int → Prop := Paired fun z d => 0 ≤ d ∧ d < z
end Jr
namespace Jr
open PySem PySem.Spec PyProof.Rows L2
/-! ### xs + ys, lists that may be locked -/
def rCatL (K : PySem.W.Frag) : R2 := fun x y H Q => ∃ l b xs zs, x = .ref l ∧ y = .ref b ∧ SqL K H l xs ∧ SqL K H b zs ∧ xs.length + zs.length ≤ sizeLine ∧ ∀ p, H p = none → Q (.ref p) (upd H p (.lst (xs ++ zs)))
theorem op_catL {X : Cx} : OpR X (binaryOp .Add) (rCatL X.K) := by
  intro pins s σ H x y v u Q I rx ry h
  obtain ⟨l, b, xs, zs, rfl, rfl, hH, hB, hz, q⟩ := h
  cases rx
  cases ry
  obtain ⟨its, r, ⟨o1, n1, g1, c1, d1, t1⟩, z1⟩ := I.list hH
  obtain ⟨its2, r2, ⟨o2, n2, g2, c2, d2, t2⟩, z2⟩ := I.list hB
  obtain ⟨k1, e1, dt1, sl1⟩ := o1
  obtain ⟨k2, e2, dt2, sl2⟩ := o2
  simp only at c1 d1 t1 c2 d2 t2
  subst c1 d1 t1 c2 d2 t2
  have l1 := r.length
  have l2 := r2.length
  have ea : its.toArray ++ its2.toArray = (its ++ its2).toArray := by simp
  have fin := I.lnew (t' := s.toks) (r.append r2) (by rw [List.length_append]; omega)
  rw [← ea] at fin
  exact concat_meets ⟨_, g1, rfl⟩ ⟨_, g2, rfl⟩ noFill_list_add seq_list_add F.slot_list_add F.entry_list_add (F.args_list_add_2 _ _)
    (list_addW l b its.toArray its2.toArray n1 n2 none none sl1 sl2 (by rw [List.size_toArray, List.size_toArray]; omega)) ⟨g1, g2, ⟨.ref _, _, fin, rfl, q _ I.fresh⟩⟩
end Jr
namespace Jr
open PySem PySem.Spec PyProof.Rows L2
/-! ### rules whose reading names the written part, for comprehensions -/
section
variable {X : Cx} {K : PySem.W.Frag}
theorem call_len_seqK (h : X.K = K := by rfl) : CallR X (.builtin "len") (fun xs H Q => ∃ p ys, xs = [.ref p] ∧ (SqL K H p ys ∨ SqT K H p ys) ∧ Q (.int ys.length) H) := by subst h; exact call_len_seq
theorem ix_listK (h : X.K = K := by rfl) : IxR X (rIxL K) := by subst h; exact ix_list
theorem ix_tupK (h : X.K = K := by rfl) : IxR X (rIxT K) := by subst h; exact ix_tup
theorem sl_listK (h : X.K = K := by rfl) : SlR X (rSlL K) := by subst h; exact sl_list
theorem op_in_seqK (h : X.K = K := by rfl) : OpR X (compareOp .In) (rIn K false) := by subst h; exact op_in_seq
theorem op_notIn_seqK (h : X.K = K := by rfl) : OpR X (compareOp .NotIn) (rIn K true) := by subst h; exact op_notIn_seq
theorem op_eqDK (hu : X.A.units + 64 < cLine) (h : X.K = K := by rfl) : OpR X (compareOp .Eq) (rEqD K) := by subst h; exact op_eqD hu
theorem op_neDK (hu : X.A.units + 64 < cLine) (h : X.K = K := by rfl) : OpR X (compareOp .NotEq) (rNeD K) := by subst h; exact op_neD hu
theorem call_isiK' (h : X.K = K := by rfl) : CallR X (.builtin "isinstance") (rIsi K) := by subst h; exact call_isi
theorem call_list_ofK (h : X.K = K := by rfl) : CallR X (.type "list") (fun xs H Q => ∃ p ys, xs = [.ref p] ∧ (SqL K H p ys ∨ SqT K H p ys) ∧ ∀ l, H l = none → Q (.ref l) (upd H l (.lst ys))) := by subst h; exact call_list_of
end
end Jr
namespace Jr
open PySem PySem.Spec PyProof.Rows L2
/-! ### comprehensions whose element and test change nothing: a filter and a map -/
section
variable {α : Type} {item : α → V} {p : α → Bool} {f : α → V} {g : TG} {tt : TT} {te : TE} {vs : List Nat} {σ : L2.St} {H1 : Hp} {D : Addr} {Qd : Hp → Prop}
/-- one turn of such a comprehension -/
def LcTurn (item : α → V) (p : α → Bool) (f : α → V) (g : TG) (tt : TT) (te : TE) (vs : List Nat) (σ : L2.St) (H1 : Hp) (x : α) : Prop :=
  ∀ (H' : Hp), Same H1 H' → ∀ (N : Hp → Prop) (M : V → Hp → Prop), (p x = true → M (f x) H') → (p x = false → N H') →
    g (item x) (wipe σ vs) H' fun σ2 H2 => wipe σ2 vs = wipe σ vs ∧ tt σ2 H2 fun b H3 => if b = true then te σ2 H3 M else N H3
theorem lc_step {l : List α} {i : Nat} {x : α} {H : Hp} (hD : H1 D = none) (hx : l[i]? = some x) (hlen : l.length ≤ 100000) (turn : LcTurn item p f g tt te vs σ H1 x)
    (sm : Same H1 H) (hL : H D = some (.lst (((l.take i).filter p).map f))) :
    g (item x) (wipe σ vs) H fun σ2 H2 => wipe σ2 vs = wipe σ vs ∧ tt σ2 H2 fun b H3 =>
      if b = true then te σ2 H3 fun y H4 => ∃ acc, H4 D = some (.lst acc) ∧ acc.length < sizeLine ∧ (fun H' => Same H1 H' ∧ H' D = some (.lst (((l.take (i + 1)).filter p).map f))) (upd H4 D (.lst (acc ++ [y])))
      else (fun H' => Same H1 H' ∧ H' D = some (.lst (((l.take (i + 1)).filter p).map f))) H3 := by
  have e : l.take (i + 1) = l.take i ++ [x] := by rw [List.take_add_one, hx]; rfl
  refine turn H sm _ _ (fun hp => ?_) (fun hp => ?_)
  · refine ⟨_, hL, ?_, Same.mut sm hD, ?_⟩
    · have h1 : ((l.take i).filter p).length ≤ (l.take i).length := List.length_filter_le ..
      have h2 : (l.take i).length ≤ i := by rw [List.length_take]; omega
      have h3 : i < l.length := (List.getElem?_eq_some_iff.mp hx).1
      rw [List.length_map]
      exact szl (by omega)
    · rw [upd_same, e, List.filter_append, List.map_append]
      simp [hp]
  · refine ⟨sm, ?_⟩
    rw [hL, e, List.filter_append, List.map_append]
    simp [hp]
theorem lc_listM {K : PySem.W.Frag} {a : Addr} {l : List α} (hS : SqL K H1 a (l.map item)) (hD : H1 D = none) (hlen : l.length ≤ 100000) (turn : ∀ x ∈ l, LcTurn item p f g tt te vs σ H1 x)
    (hd : ∀ H, Same H1 H → H D = some (.lst ((l.filter p).map f)) → Qd H) :
    ∃ W : Nat → Nat → Hp → Prop, (∃ m, W 0 m (upd H1 D (.lst []))) ∧ ∀ i m H, W i m H →
      ((Itl K a).stop i H ∧ Qd H) ∨ ((Itl K a).go i H ∧ ∃ Nx : Hp → Prop, (∀ H', Nx H' → ∃ m', m' < m ∧ W (i + 1) m' H') ∧ ∀ x H', (Itl K a).yld i H x H' → g x (wipe σ vs) H' fun σ2 H2 => wipe σ2 vs = wipe σ vs ∧ tt σ2 H2 fun b H3 =>
        if b = true then te σ2 H3 fun y H4 => ∃ acc, H4 D = some (.lst acc) ∧ acc.length < sizeLine ∧ Nx (upd H4 D (.lst (acc ++ [y]))) else Nx H3) := by
  refine lc_list (K := K) (a := a) (xs := l.map item) (fun i H => Same H1 H ∧ H D = some (.lst (((l.take i).filter p).map f))) ⟨Same.new hD, upd_same⟩ (fun i H _ ⟨s, _⟩ => s.seq hS) ?_ ?_
  · rintro i x H hx ⟨sm, hL⟩
    rw [List.getElem?_map] at hx
    cases e : l[i]? with
    | none => rw [e] at hx; cases hx
    | some y =>
      rw [e] at hx
      cases hx
      exact lc_step hD e hlen (turn y (List.mem_of_getElem? e)) sm hL
  · rintro H ⟨sm, hL⟩
    rw [List.length_map, List.take_length] at hL
    exact hd H sm hL
theorem lc_strM {x : Str} {p : Nat → Bool} {f : Nat → V} (hD : H1 D = none) (hlen : x.cps.toList.length ≤ 100000) (turn : ∀ c ∈ x.cps.toList, LcTurn (fun c => V.str (sgn c)) p f g tt te vs σ H1 c)
    (hd : ∀ H, Same H1 H → H D = some (.lst ((x.cps.toList.filter p).map f)) → Qd H) :
    ∃ W : Nat → Nat → Hp → Prop, (∃ m, W 0 m (upd H1 D (.lst []))) ∧ ∀ i m H, W i m H →
      ((Its x).stop i H ∧ Qd H) ∨ ((Its x).go i H ∧ ∃ Nx : Hp → Prop, (∀ H', Nx H' → ∃ m', m' < m ∧ W (i + 1) m' H') ∧ ∀ y H', (Its x).yld i H y H' → g y (wipe σ vs) H' fun σ2 H2 => wipe σ2 vs = wipe σ vs ∧ tt σ2 H2 fun b H3 =>
        if b = true then te σ2 H3 fun y H4 => ∃ acc, H4 D = some (.lst acc) ∧ acc.length < sizeLine ∧ Nx (upd H4 D (.lst (acc ++ [y]))) else Nx H3) := by
  have es : x.cps.toList.length = x.cps.size := by simp
  refine ⟨fun i m H => m = x.cps.size - i ∧ i ≤ x.cps.size ∧ Same H1 H ∧ H D = some (.lst (((x.cps.toList.take i).filter p).map f)), ⟨x.cps.size, by simp, Nat.zero_le _, Same.new hD, upd_same⟩, ?_⟩
  rintro i m H ⟨rfl, hi, sm, hL⟩
  by_cases hlt : i < x.cps.size
  · refine .inr ⟨hlt, (fun H' => Same H1 H' ∧ H' D = some (.lst (((x.cps.toList.take (i + 1)).filter p).map f))), fun H' p' => ⟨x.cps.size - (i + 1), by omega, rfl, hlt, p'⟩, fun y H' z => ?_⟩
    obtain ⟨e, c, hc, rfl⟩ := z
    subst e
    have hc' : x.cps.toList[i]? = some c := by rw [Array.getElem?_toList]; exact hc
    exact lc_step (item := fun c => V.str (sgn c)) hD hc' hlen (turn c (List.mem_of_getElem? hc')) sm hL
  · have e : i = x.cps.size := by omega
    subst e
    rw [← es, List.take_length] at hL
    exact .inl ⟨Nat.le_refl _, hd H sm hL⟩
theorem lc_rangeM {lo : Int} {n : Nat} {p : Nat → Bool} {f : Nat → V} (hD : H1 D = none) (hlen : n ≤ 100000) (turn : ∀ i, i < n → LcTurn (fun i : Nat => V.int (lo + i)) p f g tt te vs σ H1 i)
    (hd : ∀ H, Same H1 H → H D = some (.lst (((List.range n).filter p).map f)) → Qd H) :
    ∃ W : Nat → Nat → Hp → Prop, (∃ m, W 0 m (upd H1 D (.lst []))) ∧ ∀ i m H, W i m H →
      ((Itr lo n).stop i H ∧ Qd H) ∨ ((Itr lo n).go i H ∧ ∃ Nx : Hp → Prop, (∀ H', Nx H' → ∃ m', m' < m ∧ W (i + 1) m' H') ∧ ∀ y H', (Itr lo n).yld i H y H' → g y (wipe σ vs) H' fun σ2 H2 => wipe σ2 vs = wipe σ vs ∧ tt σ2 H2 fun b H3 =>
        if b = true then te σ2 H3 fun y H4 => ∃ acc, H4 D = some (.lst acc) ∧ acc.length < sizeLine ∧ Nx (upd H4 D (.lst (acc ++ [y]))) else Nx H3) := by
  refine lc_range (lo := lo) (n := n) (fun i H => Same H1 H ∧ H D = some (.lst ((((List.range n).take i).filter p).map f))) ⟨Same.new hD, upd_same⟩ ?_ ?_
  · rintro i H hi ⟨sm, hL⟩
    exact lc_step (l := List.range n) (item := fun i : Nat => V.int (lo + i)) hD (by rw [List.getElem?_range hi]) (by rw [List.length_range]; exact hlen) (turn i hi) sm hL
  · rintro H ⟨sm, hL⟩
    have e : (List.range n).take n = List.range n := by
      have := List.take_length (l := List.range n)
      rw [List.length_range] at this
      exact this
    rw [e] at hL
    exact hd H sm hL
end
/-! ### lists -/
theorem pigeon {α : Type} [DecidableEq α] : ∀ (l m : List α), l.Nodup → (∀ x ∈ l, x ∈ m) → l.length ≤ m.length
  | [], _, _, _ => Nat.zero_le _
  | x :: l, m, nd, h => by
    have hx : x ∈ m := h x List.mem_cons_self
    have nd' := List.nodup_cons.mp nd
    have ih := pigeon l (m.erase x) nd'.2 fun y hy => by
      have hne : y ≠ x := fun e => nd'.1 (e ▸ hy)
      exact (List.mem_erase_of_ne hne).mpr (h y (List.mem_cons_of_mem _ hy))
    have hl := List.length_erase_of_mem hx
    have hp : 0 < m.length := List.length_pos_of_mem hx
    rw [List.length_cons]
    omega
theorem Paired.get {α β : Type} {F : α → β → Prop} : ∀ {l : List α} {m : List β} {i : Nat} {x : α}, Paired F l m → l[i]? = some x → ∃ y, m[i]? = some y ∧ F x y
  | _, _, _, _, .nil, h => by simp at h
  | _, _, 0, _, .cons r _, h => ⟨_, rfl, by have e := Option.some.inj h; subst e; exact r⟩
  | _, _, i + 1, _, .cons _ q, h => Paired.get (i := i) q h
theorem Paired.get2 {α β : Type} {F : α → β → Prop} : ∀ {l : List α} {m : List β} {i : Nat} {y : β}, Paired F l m → m[i]? = some y → ∃ x, l[i]? = some x ∧ F x y
  | _, _, _, _, .nil, h => by simp at h
  | _, _, 0, _, .cons r _, h => ⟨_, rfl, by have e := Option.some.inj h; subst e; exact r⟩
  | _, _, i + 1, _, .cons _ q, h => Paired.get2 (i := i) q h
theorem Paired.mem2 {α β : Type} {F : α → β → Prop} {l : List α} {m : List β} {y : β} (h : Paired F l m) (hy : y ∈ m) : ∃ x ∈ l, F x y := by
  obtain ⟨i, hi, e⟩ := List.mem_iff_getElem.mp hy
  obtain ⟨x, hx, r⟩ := Paired.get2 h (i := i) (by rw [List.getElem?_eq_getElem hi, e])
  exact ⟨x, List.mem_of_getElem? hx, r⟩
theorem Paired.app {α β : Type} {F : α → β → Prop} : ∀ {l : List α} {m : List β} {l' : List α} {m' : List β}, Paired F l m → Paired F l' m' → Paired F (l ++ l') (m ++ m')
  | _, _, _, _, .nil, h => h
  | _, _, _, _, .cons r q, h => .cons r (Paired.app q h)
theorem Paired.tk {α β : Type} {F : α → β → Prop} : ∀ {l : List α} {m : List β} (n : Nat), Paired F l m → Paired F (l.take n) (m.take n)
  | _, _, _, .nil => by simp only [List.take_nil]; exact .nil
  | _, _, 0, .cons _ _ => .nil
  | _, _, n + 1, .cons r q => .cons r (Paired.tk n q)
theorem Paired.dr {α β : Type} {F : α → β → Prop} : ∀ {l : List α} {m : List β} (n : Nat), Paired F l m → Paired F (l.drop n) (m.drop n)
  | _, _, _, .nil => by simp only [List.drop_nil]; exact .nil
  | _, _, 0, .cons r q => .cons r q
  | _, _, n + 1, .cons _ q => Paired.dr n q
theorem Paired.len {α β : Type} {F : α → β → Prop} {l : List α} {m : List β} (h : Paired F l m) : l.length = m.length := Paired.length h
/-! ### texts -/
theorem app_cps (a b : Str) : (a ++ b).cps.toList = a.cps.toList ++ b.cps.toList := by
  show (a.cps ++ b.cps).toList = _
  simp
theorem app_len (a b : Str) : (a ++ b).length = a.length + b.length := by
  show (a.cps ++ b.cps).size = a.cps.size + b.cps.size
  simp
theorem str_ext {a b : Str} (h : a.cps.toList = b.cps.toList) : a = b := by
  cases a; cases b
  simp only at h
  congr
  exact Array.toList_inj.mp h
theorem len_cps (a : Str) : a.cps.toList.length = a.length := by simp [Str.length]
theorem app_assoc (a b c : Str) : a ++ b ++ c = a ++ (b ++ c) := str_ext (by simp only [app_cps, List.append_assoc])
theorem sgn_inj {c d : Nat} (h : sgn c = sgn d) : c = d := by
  have e : (sgn c).cps.toList = (sgn d).cps.toList := by rw [h]
  simpa [sgn] using e
theorem sgn_len (c : Nat) : (sgn c).length = 1 := rfl
theorem cut_from (z : Str) (d : Nat) : (cutS z (some (d : Int)) none).cps.toList = z.cps.toList.drop d := by
  show ((z.cps.toList.drop (HT.sIx z.length 0 (some (d : Int)))).take (HT.sIx z.length z.length none - HT.sIx z.length 0 (some (d : Int)))).toArray.toList = _
  rw [HT.sIx_nat, HT.sIx_none, List.toList_toArray]
  have e : z.cps.toList.length = z.length := len_cps z
  by_cases h : d ≤ z.length
  · rw [Nat.min_eq_left h, List.take_of_length_le (by rw [List.length_drop, e]; exact Nat.le_refl _)]
  · rw [Nat.min_eq_right (by omega), List.drop_of_length_le (by omega), List.drop_of_length_le (by omega)]
    simp
theorem cut_to (z : Str) (d : Nat) : (cutS z none (some (d : Int))).cps.toList = z.cps.toList.take d := by
  show ((z.cps.toList.drop (HT.sIx z.length 0 none)).take (HT.sIx z.length z.length (some (d : Int)) - HT.sIx z.length 0 none)).toArray.toList = _
  rw [HT.sIx_nat, HT.sIx_none, List.toList_toArray, List.drop_zero, Nat.sub_zero]
  have e : z.cps.toList.length = z.length := len_cps z
  by_cases h : d ≤ z.length
  · rw [Nat.min_eq_left h]
  · rw [Nat.min_eq_right (by omega), List.take_of_length_le (by omega), List.take_of_length_le (by omega)]
theorem cutV_from (xs : List V) (d : Nat) : cutV xs (some (d : Int)) none = xs.drop d := by
  show (xs.drop (HT.sIx xs.length 0 (some (d : Int)))).take (HT.sIx xs.length xs.length none - HT.sIx xs.length 0 (some (d : Int))) = _
  rw [HT.sIx_nat, HT.sIx_none]
  by_cases h : d ≤ xs.length
  · rw [Nat.min_eq_left h, List.take_of_length_le (by rw [List.length_drop]; exact Nat.le_refl _)]
  · rw [Nat.min_eq_right (by omega), List.drop_of_length_le (Nat.le_refl _), List.drop_of_length_le (by omega)]
    simp
theorem cutV_to (xs : List V) (d : Nat) : cutV xs none (some (d : Int)) = xs.take d := by
  show (xs.drop (HT.sIx xs.length 0 none)).take (HT.sIx xs.length xs.length (some (d : Int)) - HT.sIx xs.length 0 none) = _
  rw [HT.sIx_nat, HT.sIx_none, List.drop_zero, Nat.sub_zero]
  by_cases h : d ≤ xs.length
  · rw [Nat.min_eq_left h]
  · rw [Nat.min_eq_right (by omega), List.take_of_length_le (Nat.le_refl _), List.take_of_length_le (by omega)]
theorem cutV_mid (xs : List V) (a b : Nat) : cutV xs (some (a : Int)) (some (b : Int)) = (xs.drop a).take (b - a) := by
  show (xs.drop (HT.sIx xs.length 0 (some (a : Int)))).take (HT.sIx xs.length xs.length (some (b : Int)) - HT.sIx xs.length 0 (some (a : Int))) = _
  rw [HT.sIx_nat, HT.sIx_nat]
  by_cases h : a ≤ xs.length
  · rw [Nat.min_eq_left h]
    by_cases h2 : b ≤ xs.length
    · rw [Nat.min_eq_left h2]
    · rw [Nat.min_eq_right (by omega), List.take_of_length_le (by rw [List.length_drop]; exact Nat.le_refl _), List.take_of_length_le (by rw [List.length_drop]; omega)]
  · rw [Nat.min_eq_right (show xs.length ≤ a by omega), List.drop_of_length_le (Nat.le_refl _), List.drop_of_length_le (by omega)]
    simp
/-- an item of a list of a kind, by its place -/
theorem atm {α : Type} {f : α → V} {xs : List α} {i : Nat} {x : α} (h : xs[i]? = some x) : atI (xs.map f) (i : Int) = some (f x) := ats (by rw [List.getElem?_map, h]; rfl)
end Jr
namespace Jr
open PySem PySem.Spec PyProof.Rows L2
/-! ### tables as data -/
/-- what the signs of a table are: unlike, from the blank to ~ but the percent sign -/
structure SignsOk (z : Str) : Prop where
  nd : z.cps.toList.Nodup
  ok : ∀ c ∈ z.cps.toList, 32 ≤ c ∧ c ≤ 126 ∧ c ≠ 37
abbrev Rws := List (Str × Str)
def jn (r : Str × Str) : Str := r.1 ++ r.2
/-- the pieces, by their numbers -/
def pcs (z : Str) (rs : Rws) : List Str := sgs z ++ rs.map jn
/-- each row's parts are pieces ahead of it, its joined text is none of these and has at most 16 signs -/
structure RowOk (z : Str) (rs : Rws) (r : Str × Str) : Prop where
  lm : r.1 ∈ pcs z rs
  rm : r.2 ∈ pcs z rs
  len : (jn r).length ≤ 16
  new : ¬ jn r ∈ pcs z rs
structure TabOk (z : Str) (rs : Rws) : Prop where
  sg : SignsOk z
  n1 : 1 ≤ z.length
  n12 : z.length ≤ 12
  many : rs.length ≤ 24
  rows : ∀ i r, rs[i]? = some r → RowOk z (rs.take i) r
theorem TabOk.nil {z : Str} (s : SignsOk z) (h1 : 1 ≤ z.length) (h2 : z.length ≤ 12) : TabOk z [] := ⟨s, h1, h2, Nat.zero_le _, fun i r h => by simp at h⟩
theorem TabOk.take {z : Str} {rs : Rws} (T : TabOk z rs) (n : Nat) : TabOk z (rs.take n) := by
  refine ⟨T.sg, T.n1, T.n12, Nat.le_trans (by rw [List.length_take]; omega) T.many, fun i r h => ?_⟩
  rw [List.getElem?_take] at h
  split at h
  · rename_i hi
    have := T.rows i r h
    rw [List.take_take, Nat.min_eq_left (by omega)]
    exact this
  · cases h
theorem TabOk.snoc {z : Str} {rs : Rws} {r : Str × Str} (T : TabOk z rs) (h : RowOk z rs r) (hl : rs.length < 24) : TabOk z (rs ++ [r]) := by
  refine ⟨T.sg, T.n1, T.n12, by rw [List.length_append]; simp; omega, fun i q hq => ?_⟩
  by_cases hi : i < rs.length
  · rw [List.getElem?_append_left hi] at hq
    rw [List.take_append_of_le_length (by omega)]
    exact T.rows i q hq
  · rw [List.getElem?_append_right (by omega)] at hq
    have e : i = rs.length := by
      by_cases e : i - rs.length = 0
      · omega
      · rw [List.getElem?_eq_none (by simp; omega)] at hq
        cases hq
    subst e
    rw [Nat.sub_self] at hq
    have e2 : r = q := Option.some.inj hq
    subst e2
    rw [List.take_left']
    · exact h
    · rfl
theorem pcs_len (z : Str) (rs : Rws) : (pcs z rs).length = z.length + rs.length := by
  unfold pcs
  rw [List.length_append, sgs_len, List.length_map]
theorem pcs_snoc (z : Str) (rs : Rws) (r : Str × Str) : pcs z (rs ++ [r]) = pcs z rs ++ [jn r] := by
  unfold pcs
  rw [List.map_append, ← List.append_assoc]
  rfl
theorem sgs_nodup {z : Str} (h : z.cps.toList.Nodup) : (sgs z).Nodup := by
  unfold sgs
  exact List.Pairwise.map _ (fun a b hab e => hab (sgn_inj e)) h
theorem TabOk.nodup {z : Str} {rs : Rws} (T : TabOk z rs) : (pcs z rs).Nodup := by
  have key : ∀ n, n ≤ rs.length → (pcs z (rs.take n)).Nodup := fun n => by
    induction n with
    | zero =>
      intro _
      show (sgs z ++ []).Nodup
      rw [List.append_nil]
      exact sgs_nodup T.sg.nd
    | succ n ih =>
      intro hn
      have hx : rs[n]? = some rs[n] := List.getElem?_eq_getElem (by omega)
      rw [List.take_add_one, hx]
      show (pcs z (rs.take n ++ [rs[n]])).Nodup
      rw [pcs_snoc, List.nodup_append]
      refine ⟨ih (by omega), by simp, fun x hx2 y hy => ?_⟩
      rw [List.mem_singleton] at hy
      rw [hy]
      exact fun e => (T.rows n _ hx).new (e ▸ hx2)
  have := key rs.length (Nat.le_refl _)
  rw [List.take_length] at this
  exact this
theorem TabOk.plen {z : Str} {rs : Rws} (T : TabOk z rs) {p : Str} (h : p ∈ pcs z rs) : 1 ≤ p.length ∧ p.length ≤ 16 := by
  have key : ∀ n, n ≤ rs.length → ∀ p ∈ pcs z (rs.take n), 1 ≤ p.length ∧ p.length ≤ 16 := fun n => by
    induction n with
    | zero =>
      intro _ p hp
      have hp2 : p ∈ sgs z ++ [] := hp
      rw [List.append_nil] at hp2
      obtain ⟨c, _, rfl⟩ := List.mem_map.mp hp2
      exact ⟨Nat.le_refl _, by rw [sgn_len]; omega⟩
    | succ n ih =>
      intro hn p hp
      have hx : rs[n]? = some rs[n] := List.getElem?_eq_getElem (by omega)
      rw [List.take_add_one, hx] at hp
      have hp2 : p ∈ pcs z (rs.take n ++ [rs[n]]) := hp
      rw [pcs_snoc] at hp2
      rcases List.mem_append.mp hp2 with hp3 | hp3
      · exact ih (by omega) p hp3
      · rw [List.mem_singleton] at hp3
        rw [hp3]
        have o := T.rows n _ hx
        have := (ih (by omega) _ o.lm).1
        refine ⟨?_, o.len⟩
        show 1 ≤ (rs[n].1 ++ rs[n].2).length
        rw [app_len]
        omega
  have := key rs.length (Nat.le_refl _) p
  rw [List.take_length] at this
  exact this h
/-! ### a list of rows in the heap -/
def TupAt (H : Hp) (a : Addr) (r : Str × Str) : Prop := H a = some (.tup [.str r.1, .str r.2])
def RowsAt (H : Hp) (l : Addr) (rs : Rws) : Prop := ∃ as : List Addr, H l = some (.lst (as.map V.ref)) ∧ Paired (TupAt H) as rs
theorem TupAt.same {H H' : Hp} (s : Same H H') {as : List Addr} {rs : Rws} (h : Paired (TupAt H) as rs) : Paired (TupAt H') as rs := L2.Paired.mapP h fun _ _ q => s _ _ q
theorem RowsAt.same {H H' : Hp} {l : Addr} {rs : Rws} (h : RowsAt H l rs) (s : Same H H') : RowsAt H' l rs := by
  obtain ⟨as, e, p⟩ := h
  exact ⟨as, s _ _ e, TupAt.same s p⟩
theorem inV_str (x : Str) (ps : List Str) : inV (.str x) (ps.map V.str) = decide (x ∈ ps) := by
  unfold inV
  rw [List.any_map]
  have e : ((fun y => eqV y (V.str x)) ∘ V.str) = fun y : Str => y == x := by
    funext y
    show eqV (V.str y) (V.str x) = (y == x)
    rfl
  rw [e]
  by_cases h : x ∈ ps
  · rw [decide_eq_true h]
    exact List.any_eq_true.mpr ⟨x, h, by simp⟩
  · rw [decide_eq_false h]
    rw [List.any_eq_false]
    intro y hy
    simp only [beq_iff_eq]
    exact fun e => h (e ▸ hy)
theorem flat_str (ps : List Str) : (ps.map V.str).all flatV = true := by
  rw [List.all_map]
  exact List.all_eq_true.mpr fun _ _ => rfl
end Jr
namespace Jr
open PySem PySem.Spec PyProof.Rows L2
/-! ### what a table holds -/
def numD : Nat → List Str → List (Key × V)
  | _, [] => []
  | i, p :: ps => (Sum.inr p, V.int (i : Nat)) :: numD (i + 1) ps
def rankD : Nat → Rws → List (List Key × V)
  | _, [] => []
  | i, r :: rs => ([Sum.inr r.1, Sum.inr r.2], V.int (i : Nat)) :: rankD (i + 1) rs
theorem numD_len : ∀ (i : Nat) (ps : List Str), (numD i ps).length = ps.length
  | _, [] => rfl
  | i, p :: ps => by show (numD (i + 1) ps).length + 1 = _; rw [numD_len (i + 1) ps]; rfl
theorem rankD_len : ∀ (i : Nat) (rs : Rws), (rankD i rs).length = rs.length
  | _, [] => rfl
  | i, r :: rs => by show (rankD (i + 1) rs).length + 1 = _; rw [rankD_len (i + 1) rs]; rfl
theorem numD_snoc : ∀ (i : Nat) (ps : List Str) (p : Str), numD i (ps ++ [p]) = numD i ps ++ [(Sum.inr p, V.int ((i + ps.length : Nat)))]
  | i, [], p => rfl
  | i, q :: ps, p => by
    show _ :: numD (i + 1) (ps ++ [p]) = _ :: (numD (i + 1) ps ++ _)
    rw [numD_snoc (i + 1) ps p, List.length_cons, show i + 1 + ps.length = i + (ps.length + 1) by omega]
theorem rankD_snoc : ∀ (i : Nat) (rs : Rws) (r : Str × Str), rankD i (rs ++ [r]) = rankD i rs ++ [([Sum.inr r.1, Sum.inr r.2], V.int ((i + rs.length : Nat)))]
  | i, [], r => rfl
  | i, q :: rs, r => by
    show _ :: rankD (i + 1) (rs ++ [r]) = _ :: (rankD (i + 1) rs ++ _)
    rw [rankD_snoc (i + 1) rs r, List.length_cons, show i + 1 + rs.length = i + (rs.length + 1) by omega]
theorem numD_none : ∀ (i : Nat) (ps : List Str) (p : Str), ¬ p ∈ ps → valV (numD i ps) (Sum.inr p) = none
  | _, [], _, _ => rfl
  | i, q :: ps, p, h => by
    have hq : ¬ (Sum.inr q : Key) = Sum.inr p := fun e => h (by rw [Sum.inr.inj e]; exact List.mem_cons_self)
    exact (valV_neg (p := (Sum.inr q, V.int (i : Nat))) hq).trans (numD_none (i + 1) ps p fun z => h (List.mem_cons_of_mem _ z))
theorem numD_at : ∀ (i : Nat) (ps : List Str) (p : Str) (j : Nat), ps.Nodup → ps[j]? = some p → valV (numD i ps) (Sum.inr p) = some (V.int ((i + j : Nat)))
  | _, [], _, _, _, h => by simp at h
  | i, q :: ps, p, 0, _, h => by
    have e : q = p := Option.some.inj h
    rw [e]
    exact valV_pos (p := ((Sum.inr p : Key), V.int (i : Nat))) rfl
  | i, q :: ps, p, j + 1, nd, h => by
    have nd' := List.nodup_cons.mp nd
    have hm : p ∈ ps := List.mem_of_getElem? (show ps[j]? = some p from h)
    have hq : ¬ (Sum.inr q : Key) = Sum.inr p := fun e => nd'.1 (by rw [Sum.inr.inj e]; exact hm)
    refine (valV_neg (p := (Sum.inr q, V.int (i : Nat))) hq).trans ?_
    rw [numD_at (i + 1) ps p j nd'.2 h, show i + 1 + j = i + (j + 1) by omega]
theorem rankD_none : ∀ (i : Nat) (rs : Rws) (l r : Str), ¬ (l, r) ∈ rs → valV (rankD i rs) [Sum.inr l, Sum.inr r] = none
  | _, [], _, _, _ => rfl
  | i, q :: rs, l, r, h => by
    have hq : ¬ ([Sum.inr q.1, Sum.inr q.2] : List Key) = [Sum.inr l, Sum.inr r] := fun e => h (by
      have e1 := (List.cons.inj e).1
      have e2 := (List.cons.inj (List.cons.inj e).2).1
      have e3 : q = (l, r) := Prod.ext (Sum.inr.inj e1) (Sum.inr.inj e2)
      rw [e3]; exact List.mem_cons_self)
    exact (valV_neg (p := (([Sum.inr q.1, Sum.inr q.2] : List Key), V.int (i : Nat))) hq).trans (rankD_none (i + 1) rs l r fun z => h (List.mem_cons_of_mem _ z))
theorem rankD_at : ∀ (i : Nat) (rs : Rws) (r : Str × Str) (j : Nat), rs.Nodup → rs[j]? = some r → valV (rankD i rs) [Sum.inr r.1, Sum.inr r.2] = some (V.int ((i + j : Nat)))
  | _, [], _, _, _, h => by simp at h
  | i, q :: rs, r, 0, _, h => by
    have e : q = r := Option.some.inj h
    rw [e]
    exact valV_pos (p := (([Sum.inr r.1, Sum.inr r.2] : List Key), V.int (i : Nat))) rfl
  | i, q :: rs, r, j + 1, nd, h => by
    have nd' := List.nodup_cons.mp nd
    have hm : r ∈ rs := List.mem_of_getElem? (show rs[j]? = some r from h)
    have hq : ¬ ([Sum.inr q.1, Sum.inr q.2] : List Key) = [Sum.inr r.1, Sum.inr r.2] := fun e => nd'.1 (by
      have e1 := (List.cons.inj e).1
      have e2 := (List.cons.inj (List.cons.inj e).2).1
      have e3 : q = r := Prod.ext (Sum.inr.inj e1) (Sum.inr.inj e2)
      rw [e3]; exact hm)
    refine (valV_neg (p := (([Sum.inr q.1, Sum.inr q.2] : List Key), V.int (i : Nat))) hq).trans ?_
    rw [rankD_at (i + 1) rs r j nd'.2 h, show i + 1 + j = i + (j + 1) by omega]
theorem TabOk.rnodup {z : Str} {rs : Rws} (T : TabOk z rs) : rs.Nodup := by
  have h := (List.nodup_append.mp T.nodup).2.1
  have key : ∀ l : Rws, (l.map jn).Nodup → l.Nodup := fun l => by
    induction l with
    | nil => intro _; exact List.nodup_nil
    | cons x l ih =>
      intro hn
      have h2 := List.nodup_cons.mp hn
      exact List.nodup_cons.mpr ⟨fun hx => h2.1 (List.mem_map.mpr ⟨x, hx, rfl⟩), ih h2.2⟩
  exact key rs h
def tf5 (z : Str) (lr lp dn dr : Addr) : List (Str × V) := [("sign_text", .str z), ("row_list", .ref lr), ("piece_list", .ref lp), ("number_by_piece", .ref dn), ("rank_by_row", .ref dr)]
def tf6 (z : Str) (lr lp dn dr : Addr) (m : Int) : List (Str × V) := [("sign_text", .str z), ("row_list", .ref lr), ("piece_list", .ref lp), ("number_by_piece", .ref dn), ("rank_by_row", .ref dr), ("most_signs", .int m)]
/-- a made table -/
structure TabAt (C : Addr) (H : Hp) (x : Addr) (z : Str) (rs : Rws) : Prop where
  ex : ∃ (dx lr lp dn dr : Addr) (m : Nat), H x = some (.ins C dx (tf6 z lr lp dn dr (m : Int))) ∧ RowsAt H lr rs ∧ H lp = some (.lst ((pcs z rs).map V.str)) ∧ H dn = some (.dK (numD 0 (pcs z rs))) ∧ H dr = some (.dT (rankD 0 rs)) ∧
    (∃ p ∈ pcs z rs, p.length = m) ∧ ∀ p ∈ pcs z rs, p.length ≤ m
  ok : TabOk z rs
theorem TabAt.same {C : Addr} {H H' : Hp} {x : Addr} {z : Str} {rs : Rws} (T : TabAt C H x z rs) (s : Same H H') : TabAt C H' x z rs := by
  obtain ⟨dx, lr, lp, dn, dr, m, h1, h2, h3, h4, h5, h6⟩ := T.ex
  exact ⟨⟨dx, lr, lp, dn, dr, m, s _ _ h1, h2.same s, s _ _ h3, s _ _ h4, s _ _ h5, h6⟩, T.ok⟩
section
variable (z : Str) (lr lp dn dr : Addr) (m : Int)
theorem l5_num : (tf5 z lr lp dn dr).lookup ("number_by_piece" : Str) = some (V.ref dn) := by kernel_rfl
theorem l5_pl : (tf5 z lr lp dn dr).lookup ("piece_list" : Str) = some (V.ref lp) := by kernel_rfl
theorem l5_rl : (tf5 z lr lp dn dr).lookup ("row_list" : Str) = some (V.ref lr) := by kernel_rfl
theorem l5_rk : (tf5 z lr lp dn dr).lookup ("rank_by_row" : Str) = some (V.ref dr) := by kernel_rfl
theorem l5_which : (tf5 z lr lp dn dr).lookup ("which" : Str) = none := by kernel_rfl
theorem l5_tp : (tf5 z lr lp dn dr).lookup ("take_piece" : Str) = none := by kernel_rfl
theorem l5_tr : (tf5 z lr lp dn dr).lookup ("take_row" : Str) = none := by kernel_rfl
theorem l5_mt : (tf5 z lr lp dn dr).lookup ("may_take_row" : Str) = none := by kernel_rfl
theorem l5_most : putF "most_signs" (.int m) (tf5 z lr lp dn dr) = tf6 z lr lp dn dr m := by kernel_rfl
theorem l5_put : putF "rank_by_row" (.ref dr) (putF "number_by_piece" (.ref dn) (putF "piece_list" (.ref lp) (putF "row_list" (.ref lr) (putF "sign_text" (.str z) [])))) = tf5 z lr lp dn dr := by kernel_rfl
theorem l6_st : (tf6 z lr lp dn dr m).lookup ("sign_text" : Str) = some (V.str z) := by kernel_rfl
theorem l6_num : (tf6 z lr lp dn dr m).lookup ("number_by_piece" : Str) = some (V.ref dn) := by kernel_rfl
theorem l6_pl : (tf6 z lr lp dn dr m).lookup ("piece_list" : Str) = some (V.ref lp) := by kernel_rfl
theorem l6_rl : (tf6 z lr lp dn dr m).lookup ("row_list" : Str) = some (V.ref lr) := by kernel_rfl
theorem l6_rk : (tf6 z lr lp dn dr m).lookup ("rank_by_row" : Str) = some (V.ref dr) := by kernel_rfl
theorem l6_ms : (tf6 z lr lp dn dr m).lookup ("most_signs" : Str) = some (V.int m) := by kernel_rfl
theorem l6_mw : (tf6 z lr lp dn dr m).lookup ("which" : Str) = none := by kernel_rfl
theorem l6_ms_ : (tf6 z lr lp dn dr m).lookup ("signs" : Str) = none := by kernel_rfl
theorem l6_mr : (tf6 z lr lp dn dr m).lookup ("rows" : Str) = none := by kernel_rfl
theorem l6_mp : (tf6 z lr lp dn dr m).lookup ("pieces" : Str) = none := by kernel_rfl
theorem l6_mp1 : (tf6 z lr lp dn dr m).lookup ("piece" : Str) = none := by kernel_rfl
theorem l6_mpa : (tf6 z lr lp dn dr m).lookup ("parts" : Str) = none := by kernel_rfl
theorem l6_mrk : (tf6 z lr lp dn dr m).lookup ("rank" : Str) = none := by kernel_rfl
theorem l6_ml : (tf6 z lr lp dn dr m).lookup ("longest" : Str) = none := by kernel_rfl
end
/-- no text -/
def NoStr (K : PySem.W.Frag) (H : Hp) (v : V) : Prop := ∃ t, TyX K H v t ∧ PySem.W.kitOne K t (.type "str") = some false
theorem isStr {K : PySem.W.Frag} : PySem.W.kitOne K (.type "str") (.type "str") = some true := kit_ty (by decide +kernel)
theorem isLst {K : PySem.W.Frag} : PySem.W.kitOne K (.type "list") (.type "list") = some true := kit_ty (by decide +kernel)
theorem isTup {K : PySem.W.Frag} : PySem.W.kitOne K (.type "tuple") (.type "tuple") = some true := kit_ty (by decide +kernel)
end Jr
namespace Jr
open PySem PySem.Spec PyProof.Rows L2
/-! ### == of lists of texts, of ints, of rows -/
def dS (xs : List Str) : PyData := .list (xs.map PyData.str)
def dI (xs : List Int) : PyData := .list (xs.map PyData.int)
def dR (rs : Rws) : PyData := .list (rs.map fun r => PyData.tuple [.str r.1, .str r.2])
/-- a text of plain signs -/
def Asc (x : Str) : Prop := ∀ c ∈ x.cps.toList, c ≤ 126
theorem asc_ok {x : Str} (h : Asc x) : PyData.strOk x = true := by
  unfold PyData.strOk
  rw [← Array.all_toList, List.all_eq_true]
  intro c hc
  have := h c hc
  simp
  omega
theorem asc_app {a b : Str} (ha : Asc a) (hb : Asc b) : Asc (a ++ b) := fun c hc => by
  rw [app_cps] at hc
  rcases List.mem_append.mp hc with h | h
  · exact ha c h
  · exact hb c h
theorem asc_sgn {c : Nat} (h : c ≤ 126) : Asc (sgn c) := fun d hd => by
  have e : d = c := by simpa [sgn] using hd
  omega
theorem TabOk.asc {z : Str} {rs : Rws} (T : TabOk z rs) {p : Str} (h : p ∈ pcs z rs) : Asc p := by
  have key : ∀ n, n ≤ rs.length → ∀ p ∈ pcs z (rs.take n), Asc p := fun n => by
    induction n with
    | zero =>
      intro _ p hp
      have hp2 : p ∈ sgs z ++ [] := hp
      rw [List.append_nil] at hp2
      obtain ⟨c, hc, rfl⟩ := List.mem_map.mp hp2
      exact asc_sgn (T.sg.ok c hc).2.1
    | succ n ih =>
      intro hn p hp
      have hx : rs[n]? = some rs[n] := List.getElem?_eq_getElem (by omega)
      rw [List.take_add_one, hx] at hp
      have hp2 : p ∈ pcs z (rs.take n ++ [rs[n]]) := hp
      rw [pcs_snoc] at hp2
      rcases List.mem_append.mp hp2 with hp3 | hp3
      · exact ih (by omega) p hp3
      · rw [List.mem_singleton] at hp3
        rw [hp3]
        have o := T.rows n _ hx
        exact asc_app (ih (by omega) _ o.lm) (ih (by omega) _ o.rm)
  have := key rs.length (Nat.le_refl _) p
  rw [List.take_length] at this
  exact this h
theorem lay_strs : ∀ xs : List Str, (∀ x ∈ xs, Asc x) → PyData.canLayAll0 (xs.map PyData.str) = true
  | [], _ => by simp [PyData.canLayAll0]
  | x :: xs, h => by
    have h1 := asc_ok (h x List.mem_cons_self)
    have h2 := lay_strs xs fun y hy => h y (List.mem_cons_of_mem _ hy)
    simp [PyData.canLayAll0, PyData.canLay0, h1, h2]
theorem dep_strs : ∀ xs : List Str, PyData.depthAll (xs.map PyData.str) = 0
  | [] => by simp [PyData.depthAll]
  | x :: xs => by simp [PyData.depthAll, PyData.depth, dep_strs xs]
theorem shS {xs : List Str} (h : ∀ x ∈ xs, Asc x) : SeqAt.shaped (dS xs) = true := by
  unfold SeqAt.shaped dS
  have h1 : PyData.canLay0 (.list (xs.map PyData.str)) = true := by simp [PyData.canLay0, lay_strs xs h]
  have h2 : PyData.depth (.list (xs.map PyData.str)) = 1 := by simp [PyData.depth, dep_strs]
  rw [h1, h2]; rfl
theorem eqvA_strs : ∀ xs ys : List Str, PyData.eqvAll (xs.map PyData.str) (ys.map PyData.str) = decide (xs = ys)
  | [], [] => by simp [PyData.eqvAll]
  | [], y :: ys => by simp [PyData.eqvAll]
  | x :: xs, [] => by simp [PyData.eqvAll]
  | x :: xs, y :: ys => by
    have ih := eqvA_strs xs ys
    simp only [List.map_cons, PyData.eqvAll, PyData.eqv, ih]
    by_cases h : x = y
    · subst h; simp
    · simp [h]
theorem eqS (xs ys : List Str) : PyData.eqv (dS xs) (dS ys) = decide (xs = ys) := by
  unfold dS
  rw [PyData.eqv]
  exact eqvA_strs xs ys
theorem dpA_strs {K : PySem.W.Frag} {H : Hp} : ∀ xs : List Str, DpAll K H (xs.map V.str) (xs.map PyData.str)
  | [] => .nil
  | x :: xs => .cons (.str x) (dpA_strs xs)
theorem dpS {K : PySem.W.Frag} {H : Hp} {a : Addr} {xs : List Str} (h : SqL K H a (xs.map V.str)) : Dp K H (.ref a) (dS xs) := .lst h (dpA_strs xs)
theorem lay_ints : ∀ xs : List Int, PyData.canLayAll0 (xs.map PyData.int) = true
  | [] => by simp [PyData.canLayAll0]
  | x :: xs => by simp [PyData.canLayAll0, PyData.canLay0, lay_ints xs]
theorem dep_ints : ∀ xs : List Int, PyData.depthAll (xs.map PyData.int) = 0
  | [] => by simp [PyData.depthAll]
  | x :: xs => by simp [PyData.depthAll, PyData.depth, dep_ints xs]
theorem shI (xs : List Int) : SeqAt.shaped (dI xs) = true := by
  unfold SeqAt.shaped dI
  have h1 : PyData.canLay0 (.list (xs.map PyData.int)) = true := by simp [PyData.canLay0, lay_ints xs]
  have h2 : PyData.depth (.list (xs.map PyData.int)) = 1 := by simp [PyData.depth, dep_ints]
  rw [h1, h2]; rfl
theorem eqvA_ints : ∀ xs ys : List Int, PyData.eqvAll (xs.map PyData.int) (ys.map PyData.int) = decide (xs = ys)
  | [], [] => by simp [PyData.eqvAll]
  | [], y :: ys => by simp [PyData.eqvAll]
  | x :: xs, [] => by simp [PyData.eqvAll]
  | x :: xs, y :: ys => by
    have ih := eqvA_ints xs ys
    simp only [List.map_cons, PyData.eqvAll, PyData.eqv, ih]
    by_cases h : x = y
    · subst h; simp
    · simp [h]
theorem eqI (xs ys : List Int) : PyData.eqv (dI xs) (dI ys) = decide (xs = ys) := by
  unfold dI
  rw [PyData.eqv]
  exact eqvA_ints xs ys
theorem dpA_ints {K : PySem.W.Frag} {H : Hp} : ∀ xs : List Int, DpAll K H (xs.map V.int) (xs.map PyData.int)
  | [] => .nil
  | x :: xs => .cons (.int x) (dpA_ints xs)
theorem dpI {K : PySem.W.Frag} {H : Hp} {a : Addr} {xs : List Int} (h : SqL K H a (xs.map V.int)) : Dp K H (.ref a) (dI xs) := .lst h (dpA_ints xs)
theorem lay_rows : ∀ rs : Rws, (∀ r ∈ rs, Asc r.1 ∧ Asc r.2) → PyData.canLayAll0 (rs.map fun r => PyData.tuple [.str r.1, .str r.2]) = true
  | [], _ => by simp [PyData.canLayAll0]
  | r :: rs, h => by
    obtain ⟨h1, h2⟩ := h r List.mem_cons_self
    have h3 := lay_rows rs fun y hy => h y (List.mem_cons_of_mem _ hy)
    simp [PyData.canLayAll0, PyData.canLay0, asc_ok h1, asc_ok h2, h3]
theorem dep_rows : ∀ rs : Rws, PyData.depthAll (rs.map fun r => PyData.tuple [.str r.1, .str r.2]) ≤ 1
  | [] => by simp [PyData.depthAll]
  | r :: rs => by
    have := dep_rows rs
    simp only [List.map_cons, PyData.depthAll, PyData.depth]
    omega
theorem shR {rs : Rws} (h : ∀ r ∈ rs, Asc r.1 ∧ Asc r.2) : SeqAt.shaped (dR rs) = true := by
  unfold SeqAt.shaped dR
  have h1 : PyData.canLay0 (.list (rs.map fun r => PyData.tuple [.str r.1, .str r.2])) = true := by simp [PyData.canLay0, lay_rows rs h]
  have h2 : PyData.depth (.list (rs.map fun r => PyData.tuple [.str r.1, .str r.2])) ≤ 2 := by
    have := dep_rows rs
    simp only [PyData.depth]
    omega
  rw [h1, decide_eq_true (Nat.le_trans h2 (by decide))]; rfl
theorem eqvA_rows : ∀ xs ys : Rws, PyData.eqvAll (xs.map fun r => PyData.tuple [.str r.1, .str r.2]) (ys.map fun r => PyData.tuple [.str r.1, .str r.2]) = decide (xs = ys)
  | [], [] => by simp [PyData.eqvAll]
  | [], y :: ys => by simp [PyData.eqvAll]
  | x :: xs, [] => by simp [PyData.eqvAll]
  | x :: xs, y :: ys => by
    have ih := eqvA_rows xs ys
    simp only [List.map_cons, PyData.eqvAll, PyData.eqv, ih]
    obtain ⟨a, b⟩ := x
    obtain ⟨c, d⟩ := y
    by_cases h : a = c
    · subst h
      by_cases h2 : b = d
      · subst h2; simp
      · simp [h2]
    · simp [h]
theorem eqR (xs ys : Rws) : PyData.eqv (dR xs) (dR ys) = decide (xs = ys) := by
  unfold dR
  rw [PyData.eqv]
  exact eqvA_rows xs ys
theorem dpA_rows {K : PySem.W.Frag} {H : Hp} : ∀ {as : List Addr} {rs : Rws}, Paired (TupAt H) as rs → DpAll K H (as.map V.ref) (rs.map fun r => PyData.tuple [.str r.1, .str r.2])
  | _, _, .nil => .nil
  | _, _, .cons h q => .cons (.tup (SqT.of h) (.cons (.str _) (.cons (.str _) .nil))) (dpA_rows q)
theorem dpR {K : PySem.W.Frag} {H : Hp} {a : Addr} {rs : Rws} (h : RowsAt H a rs) : Dp K H (.ref a) (dR rs) := by
  obtain ⟨as, e, p⟩ := h
  exact .lst (SqL.of e) (dpA_rows p)
/-! ### the pass of a rank -/
def pass1 (l r : Str) : List Str → List Str
  | a :: b :: t => if a = l ∧ b = r then (l ++ r) :: pass1 l r t else a :: pass1 l r (b :: t)
  | t => t
/-- the places of the borders that fall; n signs stand ahead -/
def plc (l r : Str) : Nat → List Str → List Nat
  | n, a :: b :: t => if a = l ∧ b = r then (n + a.length) :: plc l r (n + a.length + b.length) t else plc l r (n + a.length) (b :: t)
  | _, _ => []
def passAll (rs : Rws) (xs : List Str) : List Str := rs.foldl (fun ys r => pass1 r.1 r.2 ys) xs
def sweep (rs : Rws) (t : Str) : List Str := passAll rs (sgs t)
theorem pass1_one (l r a : Str) : pass1 l r [a] = [a] := by unfold pass1; rfl
theorem pass1_nil (l r : Str) : pass1 l r [] = [] := by unfold pass1; rfl
theorem pass1_yes (l r : Str) (t : List Str) : pass1 l r (l :: r :: t) = (l ++ r) :: pass1 l r t := by
  rw [pass1]; exact if_pos ⟨rfl, rfl⟩
theorem pass1_no {l r a b : Str} (t : List Str) (h : ¬ (a = l ∧ b = r)) : pass1 l r (a :: b :: t) = a :: pass1 l r (b :: t) := by
  rw [pass1]; exact if_neg h
theorem pass1_mem (l r : Str) : ∀ (xs : List Str) (p : Str), p ∈ pass1 l r xs → p ∈ xs ∨ p = l ++ r
  | [], p, h => by rw [pass1_nil] at h; cases h
  | [a], p, h => by rw [pass1_one] at h; exact .inl h
  | a :: b :: t, p, h => by
    by_cases c : a = l ∧ b = r
    · obtain ⟨rfl, rfl⟩ := c
      rw [pass1_yes] at h
      rcases List.mem_cons.mp h with e | e
      · exact .inr e
      · rcases pass1_mem a b t p e with q | q
        · exact .inl (List.mem_cons_of_mem _ (List.mem_cons_of_mem _ q))
        · exact .inr q
    · rw [pass1_no t c] at h
      rcases List.mem_cons.mp h with e | e
      · exact .inl (e ▸ List.mem_cons_self)
      · rcases pass1_mem l r (b :: t) p e with q | q
        · exact .inl (List.mem_cons_of_mem _ q)
        · exact .inr q
termination_by xs => xs.length
theorem pass1_len (l r : Str) : ∀ xs : List Str, (pass1 l r xs).length ≤ xs.length
  | [] => by rw [pass1_nil]; exact Nat.le_refl _
  | [a] => by rw [pass1_one]; exact Nat.le_refl _
  | a :: b :: t => by
    by_cases c : a = l ∧ b = r
    · obtain ⟨rfl, rfl⟩ := c
      rw [pass1_yes]
      have := pass1_len a b t
      simp only [List.length_cons]
      omega
    · rw [pass1_no t c]
      have := pass1_len l r (b :: t)
      simp only [List.length_cons] at this ⊢
      omega
termination_by xs => xs.length
theorem plc_len (l r : Str) : ∀ (n : Nat) (xs : List Str), (plc l r n xs).length ≤ xs.length
  | n, [] => by unfold plc; exact Nat.zero_le _
  | n, [a] => by unfold plc; exact Nat.zero_le _
  | n, a :: b :: t => by
    rw [plc]
    by_cases c : a = l ∧ b = r
    · rw [if_pos c]
      have := plc_len l r (n + a.length + b.length) t
      simp only [List.length_cons]
      omega
    · rw [if_neg c]
      have := plc_len l r (n + a.length) (b :: t)
      simp only [List.length_cons] at this ⊢
      omega
termination_by _ xs => xs.length
end Jr
namespace Jr
open PySem PySem.Spec PyProof.Rows L2
/-! ### texts joined; passes keep the text -/
def flat (xs : List Str) : List Nat := xs.flatMap fun x => x.cps.toList
theorem joinL_nil : ∀ xs : List (List Nat), TL.joinL [] xs = xs.flatten
  | [] => rfl
  | [a] => by show a = _; simp
  | a :: b :: r => by
    show a ++ ([] ++ TL.joinL [] (b :: r)) = _
    rw [joinL_nil (b :: r)]
    simp
theorem join_cps (xs : List Str) : (Txt.join (Str.ofString "") xs).cps.toList = flat xs := by
  have e := TL.tl_join (Str.ofString "") xs
  rw [TL.join_eq]
  have e2 : TL.tl (Str.ofString "") = [] := by decide +kernel
  rw [e2, joinL_nil] at e
  refine Eq.trans e ?_
  unfold flat
  rw [List.flatMap_def]
theorem flat_sgs (t : Str) : flat (sgs t) = t.cps.toList := by
  unfold flat sgs
  rw [List.flatMap_map]
  have : ∀ l : List Nat, l.flatMap (fun c => (sgn c).cps.toList) = l := fun l => by
    induction l with
    | nil => rfl
    | cons c l ih => rw [List.flatMap_cons, ih]; rfl
  exact this _
theorem flat_cons (x : Str) (xs : List Str) : flat (x :: xs) = x.cps.toList ++ flat xs := List.flatMap_cons
theorem flat_app (xs ys : List Str) : flat (xs ++ ys) = flat xs ++ flat ys := List.flatMap_append
theorem pass1_flat (l r : Str) : ∀ xs : List Str, flat (pass1 l r xs) = flat xs
  | [] => by rw [pass1_nil]
  | [a] => by rw [pass1_one]
  | a :: b :: t => by
    by_cases c : a = l ∧ b = r
    · obtain ⟨rfl, rfl⟩ := c
      rw [pass1_yes, flat_cons, flat_cons, flat_cons, pass1_flat a b t, app_cps, List.append_assoc]
    · rw [pass1_no t c, flat_cons, flat_cons, pass1_flat l r (b :: t)]
termination_by xs => xs.length
theorem passAll_flat : ∀ (rs : Rws) (xs : List Str), flat (passAll rs xs) = flat xs
  | [], _ => rfl
  | r :: rs, xs => by
    show flat (passAll rs (pass1 r.1 r.2 xs)) = _
    rw [passAll_flat rs, pass1_flat]
theorem sweep_flat (rs : Rws) (t : Str) : flat (sweep rs t) = t.cps.toList := by
  unfold sweep
  rw [passAll_flat, flat_sgs]
theorem passAll_take {rs : Rws} {i : Nat} {r : Str × Str} (xs : List Str) (h : rs[i]? = some r) : passAll (rs.take (i + 1)) xs = pass1 r.1 r.2 (passAll (rs.take i) xs) := by
  unfold passAll
  rw [List.take_add_one, h]
  simp [List.foldl_append]
theorem passAll_len : ∀ (rs : Rws) (xs : List Str), (passAll rs xs).length ≤ xs.length
  | [], _ => Nat.le_refl _
  | r :: rs, xs => Nat.le_trans (passAll_len rs (pass1 r.1 r.2 xs)) (pass1_len ..)
theorem passAll_mem : ∀ (rs : Rws) (xs : List Str) (p : Str), p ∈ passAll rs xs → p ∈ xs ∨ ∃ r ∈ rs, p = jn r
  | [], _, _, h => .inl h
  | r :: rs, xs, p, h => by
    rcases passAll_mem rs (pass1 r.1 r.2 xs) p h with q | ⟨s, hs, e⟩
    · rcases pass1_mem r.1 r.2 xs p q with z | z
      · exact .inl z
      · exact .inr ⟨r, List.mem_cons_self, z⟩
    · exact .inr ⟨s, List.mem_cons_of_mem _ hs, e⟩
/-! ### the law's own pass: from the left, the last piece looked at -/
def stp (l r : Str) (f : List Str) (p : Str) : List Str := if p = r ∧ f.getLast? = some l then f.dropLast ++ [l ++ r] else f ++ [p]
theorem stp_cons {l r a : Str} {f : List Str} (p : Str) (h : f ≠ []) : stp l r (a :: f) p = a :: stp l r f p := by
  unfold stp
  have e : (a :: f).getLast? = f.getLast? := by
    cases f with
    | nil => exact absurd rfl h
    | cons b t => exact List.getLast?_cons_cons
  have e2 : (a :: f).dropLast = a :: f.dropLast := List.dropLast_cons_of_ne_nil h
  rw [e, e2]
  by_cases c : p = r ∧ f.getLast? = some l
  · rw [if_pos c, if_pos c]; rfl
  · rw [if_neg c, if_neg c]; rfl
theorem pass1_ne (l r : Str) : ∀ xs : List Str, xs ≠ [] → pass1 l r xs ≠ []
  | [], h => absurd rfl h
  | [a], _ => by rw [pass1_one]; simp
  | a :: b :: t, _ => by
    by_cases c : a = l ∧ b = r
    · obtain ⟨rfl, rfl⟩ := c
      rw [pass1_yes]; simp
    · rw [pass1_no t c]; simp
theorem app_ne {l r : Str} (h : 1 ≤ r.length) : ¬ l ++ r = l := fun e => by
  have := congrArg Str.length e
  rw [app_len] at this
  omega
theorem pass1_snoc {l r : Str} (hr : 1 ≤ r.length) : ∀ (xs : List Str) (p : Str), pass1 l r (xs ++ [p]) = stp l r (pass1 l r xs) p
  | [], p => by
    rw [pass1_nil, List.nil_append, pass1_one]
    unfold stp
    rw [if_neg (by simp)]
    rfl
  | [a], p => by
    rw [pass1_one]
    show pass1 l r [a, p] = _
    unfold stp
    by_cases c : a = l ∧ p = r
    · obtain ⟨rfl, rfl⟩ := c
      rw [pass1_yes, pass1_nil, if_pos ⟨rfl, rfl⟩]; rfl
    · rw [pass1_no [] c, pass1_one, if_neg (fun z => c ⟨Option.some.inj z.2, z.1⟩)]; rfl
  | a :: b :: t, p => by
    by_cases c : a = l ∧ b = r
    · obtain ⟨rfl, rfl⟩ := c
      show pass1 a b (a :: b :: (t ++ [p])) = _
      rw [pass1_yes, pass1_yes, pass1_snoc hr t p]
      by_cases e : t = []
      · subst e
        rw [pass1_nil]
        unfold stp
        rw [if_neg (by simp), if_neg (fun z => app_ne hr (Option.some.inj z.2))]; rfl
      · rw [stp_cons p (pass1_ne a b t e)]
    · show pass1 l r (a :: b :: (t ++ [p])) = _
      rw [pass1_no _ c, pass1_no _ c]
      have ih := pass1_snoc (l := l) hr (b :: t) p
      have ih2 : pass1 l r (b :: (t ++ [p])) = stp l r (pass1 l r (b :: t)) p := ih
      rw [ih2, stp_cons p (pass1_ne l r (b :: t) (by simp))]
termination_by xs => xs.length
theorem pass1_take {l r : Str} (hr : 1 ≤ r.length) {xs : List Str} {i : Nat} {p : Str} (h : xs[i]? = some p) : pass1 l r (xs.take (i + 1)) = stp l r (pass1 l r (xs.take i)) p := by
  rw [List.take_add_one, h]
  exact pass1_snoc hr _ _
end Jr
namespace Jr
open PySem PySem.Spec PyProof.Rows L2
/-- a text of the table's signs -/
def TextOf (z t : Str) : Prop := ∀ c ∈ t.cps.toList, c ∈ z.cps.toList
theorem sweep_in {z : Str} {rs : Rws} {t : Str} (tx : TextOf z t) {n : Nat} {p : Str} (h : p ∈ passAll (rs.take n) (sgs t)) : p ∈ pcs z rs := by
  rcases passAll_mem _ _ p h with q | ⟨r, hr, rfl⟩
  · obtain ⟨c, hc, rfl⟩ := List.mem_map.mp q
    exact List.mem_append_left _ (List.mem_map.mpr ⟨c, tx c hc, rfl⟩)
  · exact List.mem_append_right _ (List.mem_map.mpr ⟨r, List.mem_of_mem_take hr, rfl⟩)
theorem sweep_pc {z : Str} {rs : Rws} {t : Str} (tx : TextOf z t) {p : Str} (h : p ∈ sweep rs t) : p ∈ pcs z rs := by
  have h2 : p ∈ passAll (rs.take rs.length) (sgs t) := by rw [List.take_length]; exact h
  exact sweep_in tx h2
theorem at_last {α : Type} {xs : List α} {x : α} (h : xs.getLast? = some x) : atI xs (-1) = some x := by
  have hl : 0 < xs.length := by
    cases xs with
    | nil => cases h
    | cons a t => simp
  unfold atI ixN
  rw [if_neg (by omega), if_pos (by omega)]
  have e : ((-1 : Int) + (xs.length : Int)).toNat = xs.length - 1 := by omega
  rw [e]
  rw [List.getLast?_eq_getElem?] at h
  exact h
theorem ix_last {n : Nat} (h : 0 < n) : ixN n (-1) = some (n - 1) := by
  unfold ixN
  rw [if_neg (by omega), if_pos (by omega)]
  have e : ((-1 : Int) + (n : Int)).toNat = n - 1 := by omega
  rw [e]
theorem set_last {α : Type} (y : α) : ∀ xs : List α, xs ≠ [] → xs.set (xs.length - 1) y = xs.dropLast ++ [y]
  | [], h => absurd rfl h
  | [a], _ => rfl
  | a :: b :: t, _ => by
    have ih := set_last y (b :: t) (by simp)
    show a :: (b :: t).set ((b :: t).length - 1) y = a :: ((b :: t).dropLast ++ [y])
    rw [ih]
theorem rep_one {α : Type} (n : Nat) (x : α) : (List.replicate n [x]).flatten = List.replicate n x := by simp
theorem map_rep {α β : Type} (f : α → β) (n : Nat) (x : α) : (List.replicate n x).map f = List.replicate n (f x) := by simp
theorem text_app {z a b : Str} (ha : TextOf z a) (hb : TextOf z b) : TextOf z (a ++ b) := fun c hc => by
  rw [app_cps] at hc
  rcases List.mem_append.mp hc with h | h
  · exact ha c h
  · exact hb c h
theorem text_nil (z : Str) : TextOf z (Str.ofString "") := fun c hc => by
  have e : (Str.ofString "").cps.toList = [] := by decide +kernel
  rw [e] at hc; cases hc
theorem text_to {z t : Str} (h : TextOf z t) (n : Nat) : TextOf z (cutS t none (some (n : Int))) := fun c hc => by
  rw [cut_to] at hc; exact h c (List.mem_of_mem_take hc)
theorem text_from {z t : Str} (h : TextOf z t) (n : Nat) : TextOf z (cutS t (some (n : Int)) none) := fun c hc => by
  rw [cut_from] at hc; exact h c (List.mem_of_mem_drop hc)
theorem RowsAt.copy {H : Hp} {p q : Addr} {rs : Rws} {as : List Addr} (h : Paired (TupAt H) as rs) (hq : H q = none) : RowsAt (upd H q (.lst (as.map V.ref))) q rs := ⟨as, upd_same, TupAt.same (Same.new hq) h⟩
/-- texts that a sweeping tells are the text -/
theorem join_sweep (rs : Rws) (t : Str) : Txt.join (Str.ofString "") (sweep rs t) = t := str_ext (by rw [join_cps, sweep_flat])
theorem flat_len : ∀ xs : List Str, (xs.map (·.length)).sum = (flat xs).length
  | [] => rfl
  | x :: xs => by rw [List.map_cons, List.sum_cons, flat_cons, List.length_append, flat_len xs, len_cps]
theorem zip_fst {α β γ : Type} {F : α → β → Prop} (f : α → γ) : ∀ {l : List α} {m : List β}, Paired F l m → (l.zip m).map (fun x => f x.1) = l.map f
  | _, _, .nil => rfl
  | _, _, .cons _ q => by rw [List.zip_cons_cons, List.map_cons, List.map_cons, zip_fst f q]
theorem zip_snd {α β γ : Type} {F : α → β → Prop} (f : β → γ) : ∀ {l : List α} {m : List β}, Paired F l m → (l.zip m).map (fun x => f x.2) = m.map f
  | _, _, .nil => rfl
  | _, _, .cons _ q => by rw [List.zip_cons_cons, List.map_cons, List.map_cons, zip_snd f q]
theorem zip_mem {α β : Type} {F : α → β → Prop} : ∀ {l : List α} {m : List β}, Paired F l m → ∀ x ∈ l.zip m, F x.1 x.2 ∧ x.2 ∈ m
  | _, _, .nil, x, h => by cases h
  | _, _, .cons r q, x, h => by
    rw [List.zip_cons_cons] at h
    rcases List.mem_cons.mp h with e | e
    · rw [e]; exact ⟨r, List.mem_cons_self⟩
    · obtain ⟨a, b⟩ := zip_mem q x e
      exact ⟨a, List.mem_cons_of_mem _ b⟩
theorem TabOk.rlen {z : Str} {rs : Rws} (T : TabOk z rs) : ∀ r ∈ rs, r.1.length + r.2.length ≤ 1000 := fun r hr => by
  obtain ⟨i, hi, e⟩ := List.mem_iff_getElem.mp hr
  have o := T.rows i r (by rw [List.getElem?_eq_getElem hi, e])
  have := o.len
  have q : (jn r).length = r.1.length + r.2.length := app_len _ _
  omega
def spLaw (K : PySem.W.Frag) : Sp := fun vs H Q _ => ∃ (a : Addr) (ns : List Int), vs = [.ref a] ∧ SqL K H a (ns.map V.int) ∧ ns.length ≤ 63 ∧ ∀ H', Q (.bl true) H'
theorem mod_at {α : Type} (f : α → V) (xs : List α) (h : 0 < xs.length) (d : Int) : ∃ x ∈ xs, atI (xs.map f) (d % ((xs.map f).length : Nat)) = some (f x) := by
  have h0 := Int.emod_nonneg d (show (((xs.map f).length : Nat) : Int) ≠ 0 by rw [List.length_map]; omega)
  have h1 := Int.emod_lt_of_pos d (show (0 : Int) < ((xs.map f).length : Nat) by rw [List.length_map]; omega)
  obtain ⟨m, hm⟩ := Int.eq_ofNat_of_zero_le h0
  rw [hm]
  rw [hm, List.length_map] at h1
  have hm2 : m < xs.length := by omega
  exact ⟨xs[m], List.getElem_mem hm2, atm (List.getElem?_eq_getElem hm2)⟩
end Jr
namespace Jr
open PySem PySem.Spec PyProof.Rows L2
/-! ### new objects, told by Same: nothing of the heap but what is known stays in a question -/
section
variable {X : Cx}
theorem pe_mono {e : Expr} {t t' : TE} (h : PE X e t) (m : ∀ σ H Q, t' σ H Q → t σ H Q) : PE X e t' := ⟨fun pins s σ H Q I q => h.run pins s σ H Q I (m σ H Q q)⟩
theorem ps_mono {e : Stmt} {t t' : TS} (h : PS X e t) (m : ∀ D σ H, t' D σ H → t D σ H) : PS X e t' := ⟨fun pins s σ H D I q => h.run pins s σ H D I (m D σ H q)⟩
theorem op_mono {f : Value → Value → Sem Value} {r r' : R2} (h : OpR X f r) (m : ∀ x y H Q, r' x y H Q → r x y H Q) : OpR X f r' := fun pins s σ H x y v u Q I rx ry q => h pins s σ H x y v u Q I rx ry (m x y H Q q)
theorem call_mono {f : Value} {r r' : List V → Hp → VK → Prop} (h : CallR X f r) (m : ∀ x H Q, r' x H Q → r x H Q) : CallR X f r' := fun pins s σ H x v Q I rx q => h pins s σ H x v Q I rx (m x H Q q)
theorem sl_mono {r r' : V → Option Int → Option Int → Hp → VK → Prop} (h : SlR X r) (m : ∀ x lo hi H Q, r' x lo hi H Q → r x lo hi H Q) : SlR X r' :=
  fun pins s σ H x v vl vu lo hi sl Q I rx hs pl pu q => h pins s σ H x v vl vu lo hi sl Q I rx hs pl pu (m x lo hi H Q q)
/-- a new object -/
def New (H : Hp) (o : HO) (Q : VK) : Prop := ∀ p H', H p = none → Same H H' → H' p = some o → Q (.ref p) H'
theorem New.of {H : Hp} {o : HO} {Q : VK} (h : New H o Q) : ∀ p, H p = none → Q (.ref p) (upd H p o) := fun p hp => h p _ hp (Same.new hp) upd_same
/-- arguments, what follows weakened -/
def clA (t : TA) : TA := fun σ H Q => ∃ Q', (∀ vs H, Q' vs H → Q vs H) ∧ t σ H Q'
def clE (t : TE) : TE := fun σ H Q => ∃ Q', (∀ v H, Q' v H → Q v H) ∧ t σ H Q'
theorem pa_cl {es : List Expr} {t : TA} (h : PA X es t) : PA X es (clA t) := ⟨fun pos pins s σ H Q I ⟨Q', m, q⟩ => thn (h.run pos pins s σ H Q' I q) fun _ _ ⟨vs, H', I', r, z⟩ => ⟨vs, H', I', r, m _ _ z⟩⟩
theorem pe_cl {e : Expr} {t : TE} (h : PE X e t) : PE X e (clE t) := ⟨fun pins s σ H Q I ⟨Q', m, q⟩ => thn (h.run pins s σ H Q' I q) fun _ _ ⟨v, H', I', r, z⟩ => ⟨v, H', I', r, m _ _ z⟩⟩
/-- a test, its answer told ahead -/
def clT (t : TT) : TT := fun σ H Q => ∃ Q' : Bool → Hp → Prop, t σ H Q' ∧ ∀ b H, Q' b H → Q b H
theorem pt_cl {e : Expr} {t : TT} (h : PT X e t) : PT X e (clT t) := ⟨fun pins s σ H Q I ⟨Q', q, m⟩ => thn (h.run pins s σ H Q' I q) fun _ _ ⟨H', I', z⟩ => ⟨H', I', m _ _ z⟩⟩
def tLstG (t : TA) : TE := fun σ H Q => t σ H fun xs H1 => xs.length ≤ sizeLine ∧ New H1 (.lst xs) Q
def tTupG (t : TA) : TE := fun σ H Q => t σ H fun xs H1 => xs.length ≤ sizeLine ∧ New H1 (.tup xs) Q
theorem pe_lstG {es : List Expr} {t : TA} {pos : Pos} (h : PA X es t) : PE X (.List es pos) (tLstG t) := pe_mono (pe_lst (pa_cl h)) fun _ _ _ q => ⟨_, fun _ _ ⟨z, n⟩ => ⟨z, n.of⟩, q⟩
theorem pe_tupG {es : List Expr} {t : TA} {pos : Pos} {x1} (h : PA X es t) : PE X (.Tuple es x1 pos) (tTupG t) := pe_mono (pe_tup (pa_cl h)) fun _ _ _ q => ⟨_, fun _ _ ⟨z, n⟩ => ⟨z, n.of⟩, q⟩
def rCatG (K : PySem.W.Frag) : R2 := fun x y H Q => ∃ l b xs zs, x = .ref l ∧ y = .ref b ∧ SqL K H l xs ∧ SqL K H b zs ∧ xs.length + zs.length ≤ sizeLine ∧ New H (.lst (xs ++ zs)) Q
theorem op_catG : OpR X (binaryOp .Add) (rCatG X.K) := op_mono op_catL fun _ _ _ _ ⟨l, b, xs, zs, e1, e2, h1, h2, z, n⟩ => ⟨l, b, xs, zs, e1, e2, h1, h2, z, n.of⟩
theorem sl_listG : SlR X (fun x lo hi H Q => ∃ a xs, x = .ref a ∧ SqL X.K H a xs ∧ New H (.lst (cutV xs lo hi)) Q) := sl_mono sl_list fun _ _ _ _ _ ⟨a, xs, e, h, n⟩ => ⟨a, xs, e, h, n.of⟩
theorem call_listG : CallR X (.type "list") (fun xs H Q => ∃ p ys, xs = [.ref p] ∧ (SqL X.K H p ys ∨ SqT X.K H p ys) ∧ New H (.lst ys) Q) := call_mono call_list_of fun _ _ _ ⟨p, ys, e, h, n⟩ => ⟨p, ys, e, h, n.of⟩
theorem call_listSG (hc : X.calm = true) : CallR X (.type "list") (fun xs H Q => ∃ z : Str, xs = [.str z] ∧ z.length ≤ sizeLine ∧ New H (.lst ((sgs z).map V.str)) Q) := call_mono (call_list_str hc) fun _ _ _ ⟨z, e, h, n⟩ => ⟨z, e, h, n.of⟩
theorem op_catGK {K : PySem.W.Frag} (h : X.K = K := by rfl) : OpR X (binaryOp .Add) (rCatG K) := by subst h; exact op_catG
theorem sl_listGK {K : PySem.W.Frag} (h : X.K = K := by rfl) : SlR X (fun x lo hi H Q => ∃ a xs, x = .ref a ∧ SqL K H a xs ∧ New H (.lst (cutV xs lo hi)) Q) := by subst h; exact sl_listG
theorem call_listGK {K : PySem.W.Frag} (h : X.K = K := by rfl) : CallR X (.type "list") (fun xs H Q => ∃ p ys, xs = [.ref p] ∧ (SqL K H p ys ∨ SqT K H p ys) ∧ New H (.lst ys) Q) := by subst h; exact call_listG
theorem op_repG : OpR X (binaryOp .Mult) (fun x y H Q => ∃ l k xs, x = .ref l ∧ y = .int k ∧ H l = some (.lst xs) ∧ -(2 ^ 63) ≤ k ∧ k < 2 ^ 63 ∧ xs.length * k.toNat ≤ sizeLine ∧ New H (.lst (List.replicate k.toNat xs).flatten) Q) :=
  op_mono op_rep fun _ _ _ _ ⟨l, k, xs, e1, e2, h, a, b, c, n⟩ => ⟨l, k, xs, e1, e2, h, a, b, c, n.of⟩
/-! ### a written list of ints -/
def tInts (ns : List Int) : TE := fun _ H Q => New H (.lst (ns.map V.int)) Q
theorem pe_litI {e : Expr} {t : TA} {ns : List Int} (h : PE X e (tLst t)) (ht : ∀ σ H Q, t σ H Q = Q (ns.map V.int) H) (hl : ns.length ≤ 1000) : PE X e (tInts ns) := pe_mono h fun σ H Q n => by
  show t σ H _
  rw [ht]
  exact ⟨by rw [List.length_map]; exact sz (by omega), n.of⟩
theorem pe_catI {a b : Expr} {ms ns : List Int} {pos : Pos} (ha : PE X a (tInts ms)) (hb : PE X b (tInts ns)) (hl : ms.length + ns.length ≤ 1000) : PE X (.BinOp a .Add b pos) (tInts (ms ++ ns)) :=
  pe_mono (pe_op op_catG ha hb) fun _ _ _ n p H1 np s1 h1 q H2 nq s2 h2 =>
    ⟨p, q, _, _, rfl, rfl, SqL.of (s2 _ _ h1), SqL.of h2, by rw [List.length_map, List.length_map]; exact sz (by omega), fun r H3 nr s3 h3 =>
      n r H3 (s1.free (s2.free nr)) ((s1.trans s2).trans s3) (by rw [h3, List.map_append])⟩
theorem pe_repI {a b : Expr} {ms : List Int} {k : Nat} {pos : Pos} (ha : PE X a (tInts ms)) (hb : PE X b (tC (.int (k : Int)))) (hl : ms.length * k ≤ 1000) (hk : k ≤ 1000) : PE X (.BinOp a .Mult b pos) (tInts (List.replicate k ms).flatten) :=
  pe_mono (pe_op op_rep ha hb) fun _ _ _ n p H1 np s1 h1 => by
    refine ⟨p, _, _, rfl, rfl, h1, ?_, ?_, ?_, fun q nq => n q _ (s1.free nq) (s1.trans (Same.new nq)) ?_⟩
    · omega
    · omega
    · rw [List.length_map, Int.toNat_natCast]; exact sz (by omega)
    · rw [upd_same, Int.toNat_natCast]
      congr 2
      rw [List.map_flatten, List.map_replicate]
theorem pe_intsAs {e : Expr} {ms ns : List Int} (h : PE X e (tInts ms)) (q : ms = ns) : PE X e (tInts ns) := q ▸ h
end
end Jr
namespace Jr
open PySem PySem.Spec PyProof.Rows L2
/-! ### calls of defs, methods, classes that may raise -/
section
variable {X : Cx} {k : Nat} {x : Str} {sp : Sp} {e : Expr} {es : List Expr} {t : TA} {p pos apos : Pos} {C : Addr} {m : Str} {o : Expr} {ta : TE} {W : WX}
theorem pe_calX (F : Cal X.prog X.w X.K X.mg X.base (L2.CX X.prog X.w) k x sp) (hr : Room k X.A) (hg : Gl X x) (tk : Takes X W) (ha : PA X (e :: es) t) (hdb : (x == ("__debug__" : Str)) = false := by decide)
    (he : starEach (e :: es) X.env = (false, eval e X.env) :: starEach es X.env := by rfl) (hpl : (backTo pos (starEach es X.env)).any (·.1) = false := by rfl) :
    PE X (.Call (.Name x p) (e :: es) [] pos) (fun σ H Q => t σ H fun vs H1 => sp vs H1 Q (WE W σ)) := by
  obtain ⟨f, fd, ps, G, gm, kp, b⟩ := F.ex
  exact pe_callS G hr hg gm kp b (fun σ => passAt tk σ) ha hdb he hpl
theorem pe_calL (F : Cal X.prog X.w X.K X.mg X.base (L2.CX X.prog X.w) k x sp) (hr : Room k X.A) (hg : Gl X x) (ha : PA X (e :: es) t) (hdb : (x == ("__debug__" : Str)) = false := by decide)
    (he : starEach (e :: es) X.env = (false, eval e X.env) :: starEach es X.env := by rfl) (hpl : (backTo pos (starEach es X.env)).any (·.1) = false := by rfl) :
    PE X (.Call (.Name x p) (e :: es) [] pos) (fun σ H Q => t σ H fun vs H1 => sp vs H1 Q E0) := by
  obtain ⟨f, fd, ps, G, gm, kp, b⟩ := F.ex
  have z := pe_call (p := p) (pos := pos) (es := es) G hr hg gm kp b .nil passL ha hdb he hpl
  refine ⟨fun pins s σ H Q I h => z.run pins s σ H Q I ?_⟩
  show t σ H fun vs H1 => sp (vs ++ []) H1 Q E0
  simpa only [List.append_nil] using h
theorem pe_metL {pl : Sem Bool} (F : Met X.prog X.w X.K X.mg X.base (L2.CX X.prog X.w) k C m sp) (ho : PE X o ta) (hr : Room k X.A) (ha : PA X (e :: es) t)
    (hc : eval (.Call (.Attribute o m apos) (e :: es) [] pos) X.env = (do
      let ov ← eval o X.env
      standAt apos.atName
      let (f, first) ← holding [ov] (getMethod ov m pl)
      callWith pos f first (backTo pos (starEach (e :: es) X.env)) (backToKw pos (keywordEach [] X.env))) := by rfl)
    (he : starEach (e :: es) X.env = (false, eval e X.env) :: starEach es X.env := by rfl) (hpl : (backTo pos (starEach es X.env)).any (·.1) = false := by rfl) :
    PE X (.Call (.Attribute o m apos) (e :: es) [] pos) (fun σ H Q => ta σ H fun x H1 => ∃ a dx fs, x = .ref a ∧ H1 a = some (.ins C dx fs) ∧ fs.lookup m = none ∧ t σ H1 fun vs H2 => sp (x :: vs) H2 Q E0) := by
  obtain ⟨f, fd, ps, G, mt, b⟩ := F.ex
  have z := pe_meth (apos := apos) (pos := pos) ho F.cl mt G hr b .nil passL ha he hpl hc
  refine ⟨fun pins s σ H Q I h => z.run pins s σ H Q I ?_⟩
  show ta σ H fun x H1 => ∃ a dx fs, x = .ref a ∧ H1 a = some (.ins C dx fs) ∧ fs.lookup m = none ∧ t σ H1 fun vs H2 => sp (x :: (vs ++ [])) H2 Q E0
  simpa only [List.append_nil] using h
theorem pe_metX {pl : Sem Bool} (F : Met X.prog X.w X.K X.mg X.base (L2.CX X.prog X.w) k C m sp) (ho : PE X o ta) (hr : Room k X.A) (tk : Takes X W) (ha : PA X (e :: es) t)
    (hc : eval (.Call (.Attribute o m apos) (e :: es) [] pos) X.env = (do
      let ov ← eval o X.env
      standAt apos.atName
      let (f, first) ← holding [ov] (getMethod ov m pl)
      callWith pos f first (backTo pos (starEach (e :: es) X.env)) (backToKw pos (keywordEach [] X.env))) := by rfl)
    (he : starEach (e :: es) X.env = (false, eval e X.env) :: starEach es X.env := by rfl) (hpl : (backTo pos (starEach es X.env)).any (·.1) = false := by rfl) :
    PE X (.Call (.Attribute o m apos) (e :: es) [] pos) (fun σ H Q => ta σ H fun x H1 => ∃ a dx fs, x = .ref a ∧ H1 a = some (.ins C dx fs) ∧ fs.lookup m = none ∧ t σ H1 fun vs H2 => sp (x :: vs) H2 Q (WE W σ)) := by
  obtain ⟨f, fd, ps, G, mt, b⟩ := F.ex
  constructor
  intro pins s σ H Q I h
  refine PySem.W.methodCall_KW (pl := pl) (thn (ho.run pins s σ H _ I h) ?_) hc
  rintro u s1 ⟨v, H1, I1, rv, a, dx, fs, ev, ea, hl, q⟩
  subst ev
  obtain rfl : u = Value.ref a := rv
  refine getmeth_ok I1 ea F.cl mt hl (PySem.W.callWith_K (first := [.ref a]) (h₀ := X.base) I1.ok.mod.kin mt.kp (thn (ha.run pos pins s1 σ H1 _ I1 q) ?_) he hpl)
  rintro us s2 ⟨vs, H2, I2, r, q2⟩
  exact ⟨I2.kIn, run_fnS (us := .ref a :: us) (vs := .ref a :: vs) (E := WE W) G hr b (passAt tk σ) I2 (.cons rfl r) q2⟩
/-- C(..) of an own class whose __init__ may raise -/
theorem pe_mkX (F : Mkc X.prog X.w X.K X.mg X.base (L2.CX X.prog X.w) k x C sp) (hr : Room (k + 1) X.A) (hg : Gl X x) (tk : Takes X W) (ha : PA X (e :: es) t) (hdb : (x == ("__debug__" : Str)) = false := by decide)
    (he : starEach (e :: es) X.env = (false, eval e X.env) :: starEach es X.env := by rfl) (hpl : (backTo pos (starEach es X.env)).any (·.1) = false := by rfl) :
    PE X (.Call (.Name x p) (e :: es) [] pos) (fun σ H Q => t σ H fun vs H1 => ∀ x dx, H1 x = none → H1 dx = none → dx ≠ x →
      sp (.ref x :: vs) (upd (upd H1 dx (.own x)) x (.ins C dx [])) (fun v H2 => v = .non ∧ Q (.ref x) H2) (WE W σ)) := by
  obtain ⟨f, fd, ps, G, mk, b⟩ := F.ex
  constructor
  intro pins s σ H Q I h
  refine wpAny_Call_Name_kw (ld_glob I hg F.g (PySem.W.callWith_K (h₀ := X.base) I.ok.mod.kin mk.kp (thn (ha.run pos pins s σ H _ I h) ?_) he hpl) hdb)
  rintro us s1 ⟨vs, H1, I1, r, q⟩
  refine ⟨I1.kIn, ?_⟩
  have hq := q (s1.heap.objs.size + 1) s1.heap.objs.size (I1.hok.fresh (Nat.le_succ _)) (I1.hok.fresh (Nat.le_refl _)) (Nat.ne_of_lt (Nat.lt_succ_self _))
  have I2 := Inv.made (C := C) I1
  have r2 : Vals (V.ref (s1.heap.objs.size + 1) :: vs) (Value.ref (s1.heap.objs.size + 1) :: us) := .cons rfl r
  have hl : (Value.ref (s1.heap.objs.size + 1) :: us).length = ps.length := by
    rw [← r2.length]
    exact G.len _ _ _ _ hq
  have bb := b { s1 with heap := _ } (Value.ref (s1.heap.objs.size + 1) :: us) I2.kIn (by rw [List.append_nil]; exact hl)
  rw [List.append_nil] at bb
  have G2 := G.run _ X.stack _ _ ⟨Value.ref (s1.heap.objs.size + 1) :: us, []⟩ (Value.ref (s1.heap.objs.size + 1) :: us) _ _ (WE W σ) (hr.make C us []) (I2.env0.make C us []) bb r2 hq
  refine wpAny_call (make_map (f := f) I1.kIn mk.makes mk.init (beq_iff_eq.mp mk.fn) (codeAny_mono G2 ?_))
  intro r' s' hq'
  cases r' with
  | error er => exact passAt tk σ pins _ _ er s' I2 hq'
  | ok fl =>
    cases fl with
    | ret u =>
      obtain ⟨v, H', I3, rv, ev, q3⟩ := I2.after hq'
      subst ev
      exact ⟨rv, ⟨V.ref (s1.heap.objs.size + 1), H', I3, rfl, q3⟩⟩
    | next => exact hq'.elim
    | brk => exact hq'.elim
    | cont => exact hq'.elim
theorem pe_mkL (F : Mkc X.prog X.w X.K X.mg X.base (L2.CX X.prog X.w) k x C sp) (hr : Room (k + 1) X.A) (hg : Gl X x) (ha : PA X (e :: es) t) (hdb : (x == ("__debug__" : Str)) = false := by decide)
    (he : starEach (e :: es) X.env = (false, eval e X.env) :: starEach es X.env := by rfl) (hpl : (backTo pos (starEach es X.env)).any (·.1) = false := by rfl) :
    PE X (.Call (.Name x p) (e :: es) [] pos) (fun σ H Q => t σ H fun vs H1 => ∀ x dx, H1 x = none → H1 dx = none → dx ≠ x →
      sp (.ref x :: vs) (upd (upd H1 dx (.own x)) x (.ins C dx [])) (fun v H2 => v = .non ∧ Q (.ref x) H2) E0) := by
  obtain ⟨f, fd, ps, G, mk, b⟩ := F.ex
  have z := pe_make (p := p) (pos := pos) (es := es) mk G hr hg F.g b .nil passL ha hdb he hpl
  refine ⟨fun pins s σ H Q I h => z.run pins s σ H Q I ?_⟩
  show t σ H fun vs H1 => ∀ x dx, H1 x = none → H1 dx = none → dx ≠ x → sp (.ref x :: (vs ++ [])) (upd (upd H1 dx (.own x)) x (.ins C dx [])) (fun v H2 => v = .non ∧ Q (.ref x) H2) E0
  simpa only [List.append_nil] using h
end
/-! ### a def read off its class: C.m(self, ..) -/
theorem vV (K : PySem.W.Frag) : PySem.W.findCls K (.type "ValueError") (.type "type") "__init__" = some (.val (.builtin "ValueError.__init__")) := by kernel_rfl
structure Cdf (P : Program) (w : World) (K : PySem.W.Frag) (mg : Str → Option Value) (base : Heap) (k : Nat) (x : Str) (C : Addr) (m : Str) (sp : Sp) : Prop where
  ex : ∃ (f : Addr) (fd : FuncData) (ps : List Str), FnOk P w K mg base CX0 k f fd ps sp ∧ PySem.W.readsIn K C (.type "type") = true ∧ PySem.W.specialIn K (.ref C) "__getattribute__" = some (some (.builtin "type.__getattribute__")) ∧
    PySem.W.findCls K (.ref C) (.type "type") m = some (.val (.ref f)) ∧ PySem.W.keepIn K (.ref f) = true ∧ Binds K fd ps []
  g : mg x = some (.ref C)
theorem pe_cdef {X : Cx} {k : Nat} {x m : Str} {C : Addr} {sp : Sp} {e : Expr} {es : List Expr} {t : TA} {p1 p2 pos : Pos} {pl : Sem Bool} (F : Cdf X.prog X.w X.K X.mg X.base k x C m sp) (hr : Room k X.A) (hg : Gl X x) (ha : PA X (e :: es) t)
    (hc : eval (.Call (.Attribute (.Name x p1) m p2) (e :: es) [] pos) X.env = (do
      let ov ← eval (.Name x p1) X.env
      standAt p2.atName
      let (f, first) ← holding [ov] (getMethod ov m pl)
      callWith pos f first (backTo pos (starEach (e :: es) X.env)) (backToKw pos (keywordEach [] X.env))) := by rfl)
    (hdb : (x == ("__debug__" : Str)) = false := by decide) (he : starEach (e :: es) X.env = (false, eval e X.env) :: starEach es X.env := by rfl) (hpl : (backTo pos (starEach es X.env)).any (·.1) = false := by rfl) :
    PE X (.Call (.Attribute (.Name x p1) m p2) (e :: es) [] pos) (fun σ H Q => t σ H fun vs H1 => sp vs H1 Q E0) := by
  obtain ⟨f, fd, ps, G, rd, ga, fc, kp, b⟩ := F.ex
  constructor
  intro pins s σ H Q I h
  refine PySem.W.methodCall_KW (pl := pl) (ld_glob I hg F.g (PySem.W.method_cls I.kIn ga (PySem.W.cls_value I.kIn rd fc rfl ?_)) hdb) hc
  refine PySem.W.callWith_K (first := []) (h₀ := X.base) I.ok.mod.kin kp (thn (ha.run pos pins _ σ H _ (I.tok _) h) ?_) he hpl
  rintro us s1 ⟨vs, H1, I1, r, q⟩
  exact ⟨I1.kIn, run_fn (us := us) G hr b .nil pass0 I1 r (by rw [List.append_nil]; exact q)⟩
/-! ### {x} of None, an int, a text -/
def Fmt (v : V) : Prop := v = .non ∨ (∃ i : Int, v = .int i ∧ i.natAbs.log2 < 1920) ∨ ∃ y : Str, v = .str y ∧ y.length ≤ 1000
def tFmtN (te : TE) : TE := fun σ H Q => te σ H fun x H1 => Fmt x ∧ ∀ y : Str, y.length ≤ 2000 → Q (.str y) H1
theorem pe_fmtN {X : Cx} {e : Expr} {te : TE} {pos : Pos} (he : PE X e te) : PE X (.FormattedValue e (-1) none pos) (tFmtN te) := by
  constructor
  intro pins s σ H Q I h
  refine wpAny_FormattedValue_plain (thn (he.run pins s σ H _ I h) ?_)
  rintro v s1 ⟨x, H1, I1, r1, fm, q⟩
  rcases fm with rfl | ⟨i, rfl, hz⟩ | ⟨y, rfl, hz⟩
  · cases r1
    exact wpAny_formatField_none ⟨.str "None", H1, I1.tok _, ⟨_, rfl⟩, q _ (by decide +kernel)⟩
  · obtain ⟨t, rfl⟩ := r1
    have l := int_text_length_le (k := 1920) (by decide) hz
    refine wpAny_formatField_int hz ⟨.str (Str.ofString (toString i)), H1, I1.tok _, ⟨_, rfl⟩, q _ ?_⟩
    rw [PySem.ofString_length]
    omega
  · obtain ⟨t, rfl⟩ := r1
    exact wpAny_formatField_str ⟨.str y, H1, I1, ⟨t, rfl⟩, q y (by omega)⟩ ⟨.str y, H1, I1.tok _, ⟨_, rfl⟩, q y (by omega)⟩ (sz (by omega))
/-! ### what the text says of an own exception class, as a Bool -/
def clsB (K : PySem.W.Frag) (C : Addr) : Bool := match K.lookup C with
  | some ⟨.type "type", _, .cls cd, sl⟩ => (match cd.mro, sl.toList with
    | .ref D :: bm, [_, _, _, _, some (.builtin n), _] => (D == C && n == "ValueError.__new__") && (!cd.hasDel && (cd.hasDict && PySem.HandSPX.refsVE bm))
    | _, _ => false)
  | _ => false
theorem clsB_ok {K : PySem.W.Frag} {C : Addr} (h : clsB K C = true) : ∃ nm q N bs bm sn sub ab col dd k0 k1 k2 k3 k5, K.lookup C = some (excClassObj nm q C N bs bm true sn sub ab col dd k0 k1 k2 k3 k5 "ValueError.__new__") ∧ PySem.HandSPX.refsVE bm = true := by
  unfold clsB at h
  split at h
  · rename_i dd cd sl ho
    split at h
    · rename_i D bm k0 k1 k2 k3 n k5 e1 e2
      rw [Bool.and_eq_true, Bool.and_eq_true, Bool.and_eq_true, Bool.and_eq_true, beq_iff_eq, beq_iff_eq, Bool.not_eq_true'] at h
      obtain ⟨⟨h1, h2⟩, h3, h4, h5⟩ := h
      subst h1 h2
      obtain ⟨nm, bs, mro, ns, qn, hd, sn, sub, ab, col, de⟩ := cd
      simp only at e1 h3 h4
      subst e1 h3 h4
      have e3 : sl = #[k0, k1, k2, k3, some (.builtin "ValueError.__new__"), k5] := by
        obtain ⟨l⟩ := sl
        simp only at e2
        rw [e2]
      subst e3
      exact ⟨nm, qn, ns, bs, bm, sn, sub, ab, col, dd, k0, k1, k2, k3, k5, ho, h5⟩
    · cases h
  · cases h
def fcB (K : PySem.W.Frag) (C f : Addr) : Bool := match PySem.W.findCls K (.ref C) (.type "type") "__init__" with
  | some (.val (.ref g)) => decide (g = f)
  | _ => false
theorem fcB_ok {K : PySem.W.Frag} {C f : Addr} (h : fcB K C f = true) : PySem.W.findCls K (.ref C) (.type "type") "__init__" = some (.val (.ref f)) := by
  unfold fcB at h
  split at h
  · rename_i g e
    rw [e, of_decide_eq_true h]
  · cases h
/-- all that is asked of a class -/
structure XcC (K : PySem.W.Frag) (C : Addr) : Prop where
  oex : OexC K C
  xf : XfC K C
  ic : (PySem.W.clsIn K C).isSome = true
  ca : PySem.W.findIn K (.ref C) "__class__" = some (some (.builtin "object.__class__"))
  cg : PySem.W.specialIn K (.builtin "object.__class__") "__get__" = some (some (.builtin "getset_descriptor.__get__"))
  ct : PySem.W.takesIn K (.builtin "object.__class__") = some true
  cm : PySem.W.mroIn K C (.type "object") = some true
def xcB (K : PySem.W.Frag) (C : Addr) : Bool := clsB K C && (decide (PySem.W.findIn K (.ref C) "__setattr__" = some (some (.builtin "object.__setattr__"))) && (decide (PySem.W.typeIn K (.ref C) = some (.type "type")) && (PySem.W.keepIn K (.ref C) && (xfB K C && ((PySem.W.clsIn K C).isSome &&
  (decide (PySem.W.findIn K (.ref C) "__class__" = some (some (.builtin "object.__class__"))) && (decide (PySem.W.specialIn K (.builtin "object.__class__") "__get__" = some (some (.builtin "getset_descriptor.__get__"))) &&
    (decide (PySem.W.takesIn K (.builtin "object.__class__") = some true) && decide (PySem.W.mroIn K C (.type "object") = some true)))))))))
theorem xcB_ok {K : PySem.W.Frag} {C : Addr} (h : xcB K C = true) : XcC K C := by
  unfold xcB at h
  simp only [Bool.and_eq_true, decide_eq_true_eq] at h
  obtain ⟨h1, h2, h3, h4, h5, h6, h7, h8, h9, h10⟩ := h
  have xf := xfB_ok h5
  exact ⟨⟨clsB_ok h1, h2, xf.exC, h3, h4⟩, xf, h6, h7, h8, h9, h10⟩
/-! ### promises of __init__, and what is raised -/
/-- __init__(self, v): one field -/
def spX1 (C : Addr) (f : Str) : Sp := fun vs H Q _ => ∃ (a : Addr) (v : V), vs = [.ref a, v] ∧ Fmt v ∧ H a = some (exo a C none) ∧ ∀ d, H d = none → d ≠ a → Q .non (upd (upd H d (exd d [(f, v)])) a (exo a C (some d)))
/-- __init__(self, v, u): two fields -/
def spX2 (C : Addr) (f g : Str) : Sp := fun vs H Q _ => ∃ (a : Addr) (v u : V), vs = [.ref a, v, u] ∧ Fmt v ∧ Fmt u ∧ H a = some (exo a C none) ∧ ∀ d, H d = none → d ≠ a → Q .non (upd (upd (upd H d (exd d [(f, v)])) a (exo a C (some d))) d (exd d [(g, u), (f, v)]))
structure Exk (P : Program) (w : World) (K : PySem.W.Frag) (mg : Str → Option Value) (base : Heap) (k : Nat) (x : Str) (C : Addr) (sp : Sp) : Prop where
  ex : ∃ (f : Addr) (fd : FuncData) (ps : List Str), FnOk P w K mg base CX0 k f fd ps sp ∧ PySem.W.findIn K (.ref C) "__init__" = some (some (.ref f)) ∧ PySem.W.typeIn K (.ref f) = some (.type "function") ∧ Binds K fd ps []
  xc : XcC K C
  g : mg x = some (.ref C)
section
variable {X : Cx} {k : Nat} {x f g : Str} {C : Addr} {e e2 : Expr} {ta : TA} {p pos : Pos}
def tMk1 (C : Addr) (f : Str) (ta : TA) : L2.St → Hp → XK → Prop := fun σ H Q => ta σ H fun vs H1 => ∃ v, vs = [v] ∧ Fmt v ∧ ∀ d, H1 d = none → Q (.ref C) (some d) (upd H1 d (.xd [(f, v)]))
def tMk2 (C : Addr) (f g : Str) (ta : TA) : L2.St → Hp → XK → Prop := fun σ H Q => ta σ H fun vs H1 => ∃ v u, vs = [v, u] ∧ Fmt v ∧ Fmt u ∧ ∀ d, H1 d = none → Q (.ref C) (some d) (upd H1 d (.xd [(g, u), (f, v)]))
theorem pmk_mono {e : Expr} {t t' : L2.St → Hp → XK → Prop} (h : PMk X e t) (m : ∀ σ H Q, t' σ H Q → t σ H Q) : PMk X e t' := fun pins s σ H Q I q => h pins s σ H Q I (m σ H Q q)
theorem pass0F {X : Cx} : Passes CX0 X (fun _ _ _ => False) := pass0
theorem upd_del {H1 H2 : Hp} {a d : Addr} {o : HO} (ha : H1 a = none) (h : ∀ b, b ≠ a → b ≠ d → H2 b = H1 b) : upd (del H2 a) d o = upd H1 d o := by
  funext b
  by_cases hd : b = d
  · rw [hd, upd_same, upd_same]
  · rw [upd_ne hd, upd_ne hd]
    by_cases hb : b = a
    · rw [hb, del_same, ha]
    · rw [del_ne hb, h b hb hd]
theorem Exk.mk1 (F : Exk X.prog X.w X.K X.mg X.base k x C (spX1 C f)) (hr : Room (k + 1) X.A) (ha : PA X [e] ta) (hg : Gl X x := by rfl) (hdb : (x == ("__debug__" : Str)) = false := by decide)
    (he : starEach [e] X.env = (false, eval e X.env) :: starEach [] X.env := by rfl) (hpl : (backTo pos (starEach [] X.env)).any (·.1) = false := by rfl) : PMk X (.Call (.Name x p) [e] [] pos) (tMk1 C f ta) := by
  obtain ⟨fI, fd, ps, G, iC, tI, b⟩ := F.ex
  refine pmk_mono (pmk_oex F.xc.oex iC tI G hr b .nil pass0F hg F.g (pa_cl ha) hdb he hpl) fun σ H Q q => ⟨_, ?_, q⟩
  rintro vs H1 ⟨v, rfl, fm, q⟩
  refine ⟨by show 1 ≤ 1000; decide, fun a na => ⟨a, v, rfl, fm, upd_same, fun d nd ne => ⟨rfl, d, [(f, v)], upd_same, ?_, ?_, ?_⟩⟩⟩
  · rw [upd_ne ne, upd_same]
  · rw [upd_ne ne] at nd
    exact nd
  · rw [upd_ne ne] at nd
    rw [upd_del na fun b hb hd => by rw [upd_ne hb, upd_ne hd, upd_ne hb]]
    exact q d nd
theorem Exk.mk2 (F : Exk X.prog X.w X.K X.mg X.base k x C (spX2 C f g)) (hr : Room (k + 1) X.A) (ha : PA X [e, e2] ta) (hg : Gl X x := by rfl) (hdb : (x == ("__debug__" : Str)) = false := by decide)
    (he : starEach [e, e2] X.env = (false, eval e X.env) :: starEach [e2] X.env := by rfl) (hpl : (backTo pos (starEach [e2] X.env)).any (·.1) = false := by rfl) : PMk X (.Call (.Name x p) [e, e2] [] pos) (tMk2 C f g ta) := by
  obtain ⟨fI, fd, ps, G, iC, tI, b⟩ := F.ex
  refine pmk_mono (pmk_oex F.xc.oex iC tI G hr b .nil pass0F hg F.g (pa_cl ha) hdb he hpl) fun σ H Q q => ⟨_, ?_, q⟩
  rintro vs H1 ⟨v, u, rfl, fv, fu, q⟩
  refine ⟨by show 2 ≤ 1000; decide, fun a na => ⟨a, v, u, rfl, fv, fu, upd_same, fun d nd ne => ⟨rfl, d, [(g, u), (f, v)], ?_, upd_same, ?_, ?_⟩⟩⟩
  · rw [upd_ne (Ne.symm ne), upd_same]
  · rw [upd_ne ne] at nd
    exact nd
  · rw [upd_ne ne] at nd
    rw [upd_del na fun b hb hd => by rw [upd_ne hd, upd_ne hb, upd_ne hd, upd_ne hb]]
    exact q d nd
end
/-! ### isinstance of a caught error with fields -/
def rIsD (K : PySem.W.Frag) (a : Addr) (cls : Value) (d : Option Addr) (D : Addr) : List V → Hp → VK → Prop := fun xs H Q => ∃ (c : V) (cv : Value) (b : Bool) (dd : Addr) (fs : List (Str × V)), xs = [.ref a, c] ∧ cls = .ref D ∧ d = some dd ∧ H dd = some (.xd fs) ∧
  (∀ u, RelV c u → u = cv) ∧ PySem.W.kitOne K (.ref D) cv = some b ∧ Q (.bl b) H
theorem call_isD {X : Cx} {a D : Addr} {oe : Obj} {cls : Value} {d : Option Addr} {pn : List (Addr × Obj)} (C : XcC X.K D) (hz : Zc cls d oe) (hf : ∃ vs, oe.data = .fields vs) : CallR (X.suite a ((a, oe) :: pn)) (.builtin "isinstance") (rIsD X.K a cls d D) := by
  intro pins s σ H xs us Q I r h
  obtain ⟨c, cv, b, dd, fs, rfl, ec, ed, hdd, hcv, e, q⟩ := h
  cases r with
  | cons rx rr =>
    cases rr with
    | cons rt rr =>
      cases rr
      cases rx
      have e1 := hcv _ rt
      subst e1
      obtain ⟨hget, _⟩ := I.pin (a, oe) (List.mem_append.mpr (.inl List.mem_cons_self))
      obtain ⟨vs, hv⟩ := hf
      have hx : ObjOk X.prog X.w H s.heap dd (.xd fs) := I.hok dd _ hdd
      obtain ⟨mA, hns, _⟩ := hx
      obtain ⟨od, ho, _⟩ := lookIn_ns hns
      have J : PySem.W.InstAt s.heap a oe D (some od) := ⟨hget, by rw [hz.1, ec], by unfold PySem.W.notCls; rw [hv] <;> rfl, by rw [hz.2, ed]; exact ho⟩
      exact PySem.W.kia_one (PySem.W.kitx_exc C.ic C.xf.ga C.xf.gg C.xf.exC C.ca C.cg C.ct C.cm) I.kIn J e (fun z => nomatch z) fun tk => ⟨.bl b, H, I.kept (t' := tk) fun _ _ z => z, rfl, q⟩
end Jr

namespace Jr
open PySem PySem.Spec PyProof.Rows L2
/-! ### the head's facts, the interpreter's own statics among them -/
def asC (g : Addr → Option Obj) (n : Nat) : List Addr := He.asD g n ++ [cStatics]
def obsC (n : Nat) (fa : List He.Fa) (fn : List He.DefD) (ex : PySem.W.Frag → Bool) (g : Addr → Option Obj) : He.AlX := (He.obsT fa fn [] (He.frT g (asC g n)), ex (He.frT g (asC g n)))
structure SaysC (fa : List He.Fa) (fn : List He.DefD) (ex : PySem.W.Frag → Bool) (w : World) (K : PySem.W.Frag) : Prop where
  t : He.SaysT fa fn [] w K
  more : ex K = true
theorem saysC_of {n : Nat} {fa : List He.Fa} {fn : List He.DefD} {ex : PySem.W.Frag → Bool} {w : World} {h : Heap} (e : obsC n fa fn ex h.get? = He.valX fn [] w) : SaysC fa fn ex w (He.frT h.get? (asC h.get? n)) :=
  ⟨congrArg (fun z : He.AlX => z.1) e, congrArg (fun z : He.AlX => z.2) e⟩
def hookC (n : Nat) (fa : List He.Fa) (fn : List He.DefD) (ex : PySem.W.Frag → Bool) : PySem.W.Hook where
  α := He.AlX
  obs := fun s => obsC n fa fn ex s.heap.get?
  val := fun w => He.valX fn [] w
  says := fun w h => ∃ K : PySem.W.Frag, K.In h ∧ SaysC fa fn ex w K
  of := fun _ _ e => ⟨_, He.frT_in, saysC_of e⟩
  keeps := fun _ _ _ ⟨K, hK, c⟩ k => ⟨K, PySem.W.Frag.In.keeps hK k, c⟩
theorem obsC_eq {n : Nat} {fa : List He.Fa} {fn : List He.DefD} {ex : PySem.W.Frag → Bool} {g : Addr → Option Obj} {s : Shared} (h : ∀ a, g a = s.heap.get? a) : obsC n fa fn ex g = (hookC n fa fn ex).obs s := by
  have e : g = s.heap.get? := funext h
  rw [e]; rfl
end Jr
namespace Jr
open PySem PySem.Spec PyProof.Rows L2
/-! ### the text -/
def top (i : Nat) : Stmt := PySem.Challenge.pw_joinranks_k24_texts_numbers_borders.main.body.getD i (.Pass ⟨0, 0, 0, 0⟩)
abbrev s__wall : Stmt := (top 0)
abbrev N__wall : List Str := ["k"]
abbrev P__wall : List Str := ["k"]
theorem sc__wall : FnScope N__wall P__wall (defScope s__wall) := ⟨rfl, rfl, rfl, by decide +kernel, rfl, by decide +kernel, by decide +kernel⟩
abbrev s_JoinError___init__ : Stmt := (inClass (top 2) 0)
abbrev N_JoinError___init__ : List Str := ["self", "words"]
abbrev P_JoinError___init__ : List Str := ["self", "words"]
theorem sc_JoinError___init__ : FnScope N_JoinError___init__ P_JoinError___init__ (defScope s_JoinError___init__) := ⟨rfl, rfl, rfl, by decide +kernel, rfl, by decide +kernel, by decide +kernel⟩
abbrev s_NoTable___init__ : Stmt := (inClass (top 3) 0)
abbrev N_NoTable___init__ : List Str := ["self", "part", "number"]
abbrev P_NoTable___init__ : List Str := ["self", "part", "number"]
theorem sc_NoTable___init__ : FnScope N_NoTable___init__ P_NoTable___init__ (defScope s_NoTable___init__) := ⟨rfl, rfl, rfl, by decide +kernel, rfl, by decide +kernel, by decide +kernel⟩
abbrev s_NoPiece___init__ : Stmt := (inClass (top 4) 0)
abbrev N_NoPiece___init__ : List Str := ["self", "place"]
abbrev P_NoPiece___init__ : List Str := ["self", "place"]
theorem sc_NoPiece___init__ : FnScope N_NoPiece___init__ P_NoPiece___init__ (defScope s_NoPiece___init__) := ⟨rfl, rfl, rfl, by decide +kernel, rfl, by decide +kernel, by decide +kernel⟩
abbrev s_NoNumber___init__ : Stmt := (inClass (top 5) 0)
abbrev N_NoNumber___init__ : List Str := ["self", "place"]
abbrev P_NoNumber___init__ : List Str := ["self", "place"]
theorem sc_NoNumber___init__ : FnScope N_NoNumber___init__ P_NoNumber___init__ (defScope s_NoNumber___init__) := ⟨rfl, rfl, rfl, by decide +kernel, rfl, by decide +kernel, by decide +kernel⟩
abbrev s_is_whole : Stmt := (top 7)
abbrev N_is_whole : List Str := ["thing"]
abbrev P_is_whole : List Str := ["thing"]
theorem sc_is_whole : FnScope N_is_whole P_is_whole (defScope s_is_whole) := ⟨rfl, rfl, rfl, by decide +kernel, rfl, by decide +kernel, by decide +kernel⟩
abbrev s_is_up_to : Stmt := (top 8)
abbrev N_is_up_to : List Str := ["thing", "most"]
abbrev P_is_up_to : List Str := ["thing", "most"]
theorem sc_is_up_to : FnScope N_is_up_to P_is_up_to (defScope s_is_up_to) := ⟨rfl, rfl, rfl, by decide +kernel, rfl, by decide +kernel, by decide +kernel⟩
abbrev s_first_no_piece : Stmt := (top 10)
abbrev N_first_no_piece : List Str := ["table", "things", "number", "thing"]
abbrev P_first_no_piece : List Str := ["table", "things"]
theorem sc_first_no_piece : FnScope N_first_no_piece P_first_no_piece (defScope s_first_no_piece) := ⟨rfl, rfl, rfl, by decide +kernel, rfl, by decide +kernel, by decide +kernel⟩
abbrev s_check_row : Stmt := (top 11)
abbrev N_check_row : List Str := ["table", "row", "wrong"]
abbrev P_check_row : List Str := ["table", "row"]
theorem sc_check_row : FnScope N_check_row P_check_row (defScope s_check_row) := ⟨rfl, rfl, rfl, by decide +kernel, rfl, by decide +kernel, by decide +kernel⟩
abbrev s_text_of : Stmt := (top 13)
abbrev N_text_of : List Str := ["table", "row"]
abbrev P_text_of : List Str := ["table", "row"]
theorem sc_text_of : FnScope N_text_of P_text_of (defScope s_text_of) := ⟨rfl, rfl, rfl, by decide +kernel, rfl, by decide +kernel, by decide +kernel⟩
abbrev s_numbers_of : Stmt := (top 14)
abbrev N_numbers_of : List Str := ["table", "row", "piece"]
abbrev P_numbers_of : List Str := ["table", "row"]
theorem sc_numbers_of : FnScope N_numbers_of P_numbers_of (defScope s_numbers_of) := ⟨rfl, rfl, rfl, by decide +kernel, rfl, by decide +kernel, by decide +kernel⟩
abbrev s_borders_of : Stmt := (top 15)
abbrev N_borders_of : List Str := ["table", "row", "told", "place", "piece"]
abbrev P_borders_of : List Str := ["table", "row"]
theorem sc_borders_of : FnScope N_borders_of P_borders_of (defScope s_borders_of) := ⟨rfl, rfl, rfl, by decide +kernel, rfl, by decide +kernel, by decide +kernel⟩
abbrev s_may_be_sign : Stmt := (top 23)
abbrev N_may_be_sign : List Str := ["sign", "code"]
abbrev P_may_be_sign : List Str := ["sign"]
theorem sc_may_be_sign : FnScope N_may_be_sign P_may_be_sign (defScope s_may_be_sign) := ⟨rfl, rfl, rfl, by decide +kernel, rfl, by decide +kernel, by decide +kernel⟩
abbrev s_check_signs : Stmt := (top 24)
abbrev N_check_signs : List Str := ["signs", "place", "sign"]
abbrev P_check_signs : List Str := ["signs"]
theorem sc_check_signs : FnScope N_check_signs P_check_signs (defScope s_check_signs) := ⟨rfl, rfl, rfl, by decide +kernel, rfl, by decide +kernel, by decide +kernel⟩
abbrev s_Table___init__ : Stmt := (inClass (top 25) 0)
abbrev N_Table___init__ : List Str := ["self", "signs", "rows", "sign", "number", "row", "piece"]
abbrev P_Table___init__ : List Str := ["self", "signs", "rows"]
theorem sc_Table___init__ : FnScope N_Table___init__ P_Table___init__ (defScope s_Table___init__) := ⟨rfl, rfl, rfl, by decide +kernel, rfl, by decide +kernel, by decide +kernel⟩
abbrev s_Table_take_piece : Stmt := (inClass (top 25) 1)
abbrev N_Table_take_piece : List Str := ["self", "piece"]
abbrev P_Table_take_piece : List Str := ["self", "piece"]
theorem sc_Table_take_piece : FnScope N_Table_take_piece P_Table_take_piece (defScope s_Table_take_piece) := ⟨rfl, rfl, rfl, by decide +kernel, rfl, by decide +kernel, by decide +kernel⟩
abbrev s_Table_may_take_row : Stmt := (inClass (top 25) 2)
abbrev N_Table_may_take_row : List Str := ["self", "row", "left", "right", "joined"]
abbrev P_Table_may_take_row : List Str := ["self", "row"]
theorem sc_Table_may_take_row : FnScope N_Table_may_take_row P_Table_may_take_row (defScope s_Table_may_take_row) := ⟨rfl, rfl, rfl, by decide +kernel, rfl, by decide +kernel, by decide +kernel⟩
abbrev s_Table_take_row : Stmt := (inClass (top 25) 3)
abbrev N_Table_take_row : List Str := ["self", "row", "left", "right"]
abbrev P_Table_take_row : List Str := ["self", "row"]
theorem sc_Table_take_row : FnScope N_Table_take_row P_Table_take_row (defScope s_Table_take_row) := ⟨rfl, rfl, rfl, by decide +kernel, rfl, by decide +kernel, by decide +kernel⟩
abbrev s_Table_signs : Stmt := (inClass (top 25) 4)
abbrev N_Table_signs : List Str := ["self"]
abbrev P_Table_signs : List Str := ["self"]
theorem sc_Table_signs : FnScope N_Table_signs P_Table_signs (defScope s_Table_signs) := ⟨rfl, rfl, rfl, by decide +kernel, rfl, by decide +kernel, by decide +kernel⟩
abbrev s_Table_rows : Stmt := (inClass (top 25) 5)
abbrev N_Table_rows : List Str := ["self"]
abbrev P_Table_rows : List Str := ["self"]
theorem sc_Table_rows : FnScope N_Table_rows P_Table_rows (defScope s_Table_rows) := ⟨rfl, rfl, rfl, by decide +kernel, rfl, by decide +kernel, by decide +kernel⟩
abbrev s_Table_pieces : Stmt := (inClass (top 25) 6)
abbrev N_Table_pieces : List Str := ["self"]
abbrev P_Table_pieces : List Str := ["self"]
theorem sc_Table_pieces : FnScope N_Table_pieces P_Table_pieces (defScope s_Table_pieces) := ⟨rfl, rfl, rfl, by decide +kernel, rfl, by decide +kernel, by decide +kernel⟩
abbrev s_Table_which : Stmt := (inClass (top 25) 7)
abbrev N_Table_which : List Str := ["self", "thing"]
abbrev P_Table_which : List Str := ["self", "thing"]
theorem sc_Table_which : FnScope N_Table_which P_Table_which (defScope s_Table_which) := ⟨rfl, rfl, rfl, by decide +kernel, rfl, by decide +kernel, by decide +kernel⟩
abbrev s_Table_piece : Stmt := (inClass (top 25) 8)
abbrev N_Table_piece : List Str := ["self", "number"]
abbrev P_Table_piece : List Str := ["self", "number"]
theorem sc_Table_piece : FnScope N_Table_piece P_Table_piece (defScope s_Table_piece) := ⟨rfl, rfl, rfl, by decide +kernel, rfl, by decide +kernel, by decide +kernel⟩
abbrev s_Table_parts : Stmt := (inClass (top 25) 9)
abbrev N_Table_parts : List Str := ["self", "piece"]
abbrev P_Table_parts : List Str := ["self", "piece"]
theorem sc_Table_parts : FnScope N_Table_parts P_Table_parts (defScope s_Table_parts) := ⟨rfl, rfl, rfl, by decide +kernel, rfl, by decide +kernel, by decide +kernel⟩
abbrev s_Table_rank : Stmt := (inClass (top 25) 10)
abbrev N_Table_rank : List Str := ["self", "left", "right"]
abbrev P_Table_rank : List Str := ["self", "left", "right"]
theorem sc_Table_rank : FnScope N_Table_rank P_Table_rank (defScope s_Table_rank) := ⟨rfl, rfl, rfl, by decide +kernel, rfl, by decide +kernel, by decide +kernel⟩
abbrev s_Table_longest : Stmt := (inClass (top 25) 11)
abbrev N_Table_longest : List Str := ["self"]
abbrev P_Table_longest : List Str := ["self"]
theorem sc_Table_longest : FnScope N_Table_longest P_Table_longest (defScope s_Table_longest) := ⟨rfl, rfl, rfl, by decide +kernel, rfl, by decide +kernel, by decide +kernel⟩
abbrev s__law_numbers : Stmt := (top 27)
abbrev N__law_numbers : List Str := ["_law_cell", "_law_salt", "_law_sizes", "_law_number", "_law_left", "_law_found", "_law_k", "_law_one"]
abbrev P__law_numbers : List Str := ["_law_cell", "_law_salt", "_law_sizes"]
theorem sc__law_numbers : FnScope N__law_numbers P__law_numbers (defScope s__law_numbers) := ⟨rfl, rfl, rfl, by decide +kernel, rfl, by decide +kernel, by decide +kernel⟩
abbrev s__law_signs : Stmt := (top 28)
abbrev N__law_signs : List Str := ["_law_digits", "_law_some", "_law_signs_here", "_law_digit", "_law_turned", "_law_sign"]
abbrev P__law_signs : List Str := ["_law_digits"]
theorem sc__law_signs : FnScope N__law_signs P__law_signs (defScope s__law_signs) := ⟨rfl, rfl, rfl, by decide +kernel, rfl, by decide +kernel, by decide +kernel⟩
abbrev s__law_rows : Stmt := (top 29)
abbrev N__law_rows : List Str := ["_law_signs_here", "_law_digits", "_law_pieces_here", "_law_rows_here", "_law_k", "_law_one", "_law_other"]
abbrev P__law_rows : List Str := ["_law_signs_here", "_law_digits"]
theorem sc__law_rows : FnScope N__law_rows P__law_rows (defScope s__law_rows) := ⟨rfl, rfl, rfl, by decide +kernel, rfl, by decide +kernel, by decide +kernel⟩
abbrev s__law_table : Stmt := (top 30)
abbrev N__law_table : List Str := ["_law_cell", "_law_salt", "_law_most", "_law_head", "_law_many", "_law_signs_here", "_law_rows_here"]
abbrev P__law_table : List Str := ["_law_cell", "_law_salt", "_law_most"]
theorem sc__law_table : FnScope N__law_table P__law_table (defScope s__law_table) := ⟨rfl, rfl, rfl, by decide +kernel, rfl, by decide +kernel, by decide +kernel⟩
abbrev s__law_pieces : Stmt := (top 31)
abbrev N__law_pieces : List Str := ["_law_signs_here", "_law_rows_here", "_law_left", "_law_right"]
abbrev P__law_pieces : List Str := ["_law_signs_here", "_law_rows_here"]
theorem sc__law_pieces : FnScope N__law_pieces P__law_pieces (defScope s__law_pieces) := ⟨rfl, rfl, rfl, by decide +kernel, rfl, by decide +kernel, by decide +kernel⟩
abbrev s__law_is_whole : Stmt := (top 32)
abbrev N__law_is_whole : List Str := ["_law_thing"]
abbrev P__law_is_whole : List Str := ["_law_thing"]
theorem sc__law_is_whole : FnScope N__law_is_whole P__law_is_whole (defScope s__law_is_whole) := ⟨rfl, rfl, rfl, by decide +kernel, rfl, by decide +kernel, by decide +kernel⟩
abbrev s__law_strange : Stmt := (top 33)
abbrev N__law_strange : List Str := ["_law_signs_here", "_law_digit", "_law_sign"]
abbrev P__law_strange : List Str := ["_law_signs_here", "_law_digit"]
theorem sc__law_strange : FnScope N__law_strange P__law_strange (defScope s__law_strange) := ⟨rfl, rfl, rfl, by decide +kernel, rfl, by decide +kernel, by decide +kernel⟩
abbrev s__law_odd : Stmt := (top 34)
abbrev N__law_odd : List Str := ["_law_piece", "_law_sign", "_law_digit"]
abbrev P__law_odd : List Str := ["_law_piece", "_law_sign", "_law_digit"]
theorem sc__law_odd : FnScope N__law_odd P__law_odd (defScope s__law_odd) := ⟨rfl, rfl, rfl, by decide +kernel, rfl, by decide +kernel, by decide +kernel⟩
abbrev s__law_spoilt : Stmt := (top 35)
abbrev N__law_spoilt : List Str := ["_law_row", "_law_sign", "_law_digits", "_law_k", "_law_piece", "_law_at"]
abbrev P__law_spoilt : List Str := ["_law_row", "_law_sign", "_law_digits"]
theorem sc__law_spoilt : FnScope N__law_spoilt P__law_spoilt (defScope s__law_spoilt) := ⟨rfl, rfl, rfl, by decide +kernel, rfl, by decide +kernel, by decide +kernel⟩
abbrev s__law_wrong : Stmt := (top 36)
abbrev N__law_wrong : List Str := ["_law_pieces_here", "_law_row", "_law_k", "_law_piece"]
abbrev P__law_wrong : List Str := ["_law_pieces_here", "_law_row"]
theorem sc__law_wrong : FnScope N__law_wrong P__law_wrong (defScope s__law_wrong) := ⟨rfl, rfl, rfl, by decide +kernel, rfl, by decide +kernel, by decide +kernel⟩
abbrev s__law_call : Stmt := (top 37)
abbrev N__law_call : List Str := ["_law_way", "_law_table_here", "_law_row"]
abbrev P__law_call : List Str := ["_law_way", "_law_table_here", "_law_row"]
theorem sc__law_call : FnScope N__law_call P__law_call (defScope s__law_call) := ⟨rfl, rfl, rfl, by decide +kernel, rfl, by decide +kernel, by decide +kernel⟩
abbrev s__law_asked : Stmt := (top 38)
abbrev N__law_asked : List Str := ["_law_way", "_law_table_here", "_law_row", "_law_found", "e"]
abbrev P__law_asked : List Str := ["_law_way", "_law_table_here", "_law_row"]
theorem sc__law_asked : FnScope N__law_asked P__law_asked (defScope s__law_asked) := ⟨rfl, rfl, rfl, by decide +kernel, rfl, by decide +kernel, by decide +kernel⟩
abbrev s__law_good : Stmt := (top 39)
abbrev N__law_good : List Str := ["_law_way", "_law_pieces_here", "_law_row", "_law_told", "_law_one", "_law_piece", "_law_k"]
abbrev P__law_good : List Str := ["_law_way", "_law_pieces_here", "_law_row", "_law_told"]
theorem sc__law_good : FnScope N__law_good P__law_good (defScope s__law_good) := ⟨rfl, rfl, rfl, by decide +kernel, rfl, by decide +kernel, by decide +kernel⟩
abbrev s_law : Stmt := (top 40)
abbrev N_law : List Str := ["_law_script", "_law_cells", "_law_signs_here", "_law_rows_here", "_law_table_here", "_law_pieces_here", "_law_at", "_law_cell", "_law_digits", "_law_row", "_law_wrong_here", "_law_kept", "_law_way", "_law_told", "_law_digit"]
abbrev P_law : List Str := ["_law_script"]
theorem sc_law : FnScope N_law P_law (defScope s_law) := ⟨rfl, rfl, rfl, by decide +kernel, rfl, by decide +kernel, by decide +kernel⟩
/-- what the top has written -/
structure Tx (K : PySem.W.Frag) (mg : Str → Option Value) : Prop where
  n_len : mg "len" = none
  n_range : mg "range" = none
  n_max : mg "max" = none
  n_isinstance : mg "isinstance" = none
  n_str : mg "str" = none
  n_int : mg "int" = none
  n_bool : mg "bool" = none
  n_list : mg "list" = none
  n_tuple : mg "tuple" = none
  n_all : mg "all" = none
  n_ord : mg "ord" = none
  n_enumerate : mg "enumerate" = none
  n_ValueError : mg "ValueError" = none
  n_repr : mg "repr" = none
  c_MOST_SIGNS : ∃ t, mg "MOST_SIGNS" = some (.int 12 t)
  c_MOST_ROWS : ∃ t, mg "MOST_ROWS" = some (.int 24 t)
  c_MOST_JOINED : ∃ t, mg "MOST_JOINED" = some (.int 16 t)
  c_BLANK_CODE : ∃ t, mg "BLANK_CODE" = some (.int 32 t)
  c_PERCENT_CODE : ∃ t, mg "PERCENT_CODE" = some (.int 37 t)
  c_TILDE_CODE : ∃ t, mg "TILDE_CODE" = some (.int 126 t)
  g_JoinError : mg "JoinError" = some (.ref (He.ga K "JoinError"))
  rd_JoinError : PySem.W.readsIn K (He.ga K "JoinError") (.type "type") = true
  ga_JoinError : PySem.W.specialIn K (.ref (He.ga K "JoinError")) "__getattribute__" = some (some (.builtin "type.__getattribute__"))
  fc_JoinError : PySem.W.findCls K (.ref (He.ga K "JoinError")) (.type "type") "__init__" = some (.val (.ref (He.fAd K ("JoinError", some "__init__"))))
  g_NoPiece : mg "NoPiece" = some (.ref (He.ga K "NoPiece"))
  xc_NoPiece : XcC K (He.ga K "NoPiece")
  in_NoPiece : PySem.W.findIn K (.ref (He.ga K "NoPiece")) "__init__" = some (some (.ref (He.fAd K ("NoPiece", some "__init__"))))
  it_NoPiece : PySem.W.typeIn K (.ref (He.fAd K ("NoPiece", some "__init__"))) = some (.type "function")
  no_NoPiece_place : PySem.W.findIn K (.ref (He.ga K "NoPiece")) "place" = some none
  kit_NoPiece_JoinError : PySem.W.kitOne K (.ref (He.ga K "NoPiece")) (.ref (He.ga K "JoinError")) = some true
  exm_NoPiece_NoPiece : PySem.W.exmOne K (.ref (He.ga K "NoPiece")) (.ref (He.ga K "NoPiece")) = some true
  kit_NoPiece_NoNumber : PySem.W.kitOne K (.ref (He.ga K "NoPiece")) (.ref (He.ga K "NoNumber")) = some false
  g_NoNumber : mg "NoNumber" = some (.ref (He.ga K "NoNumber"))
  g_Table : mg "Table" = some (.ref (He.ga K "Table"))
  cl_Table : Cls K (He.ga K "Table")
  no_Table_sign_text : NoAttr K (He.ga K "Table") "sign_text"
  no_Table_row_list : NoAttr K (He.ga K "Table") "row_list"
  no_Table_piece_list : NoAttr K (He.ga K "Table") "piece_list"
  no_Table_number_by_piece : NoAttr K (He.ga K "Table") "number_by_piece"
  no_Table_rank_by_row : NoAttr K (He.ga K "Table") "rank_by_row"
  no_Table_most_signs : NoAttr K (He.ga K "Table") "most_signs"
  mk_Table : Mk K (He.ga K "Table") (He.fAd K ("Table", some "__init__"))
  m_Table_take_piece : Meth K (He.ga K "Table") "take_piece" (He.fAd K ("Table", some "take_piece"))
  m_Table_may_take_row : Meth K (He.ga K "Table") "may_take_row" (He.fAd K ("Table", some "may_take_row"))
  m_Table_take_row : Meth K (He.ga K "Table") "take_row" (He.fAd K ("Table", some "take_row"))
  m_Table_signs : Meth K (He.ga K "Table") "signs" (He.fAd K ("Table", some "signs"))
  m_Table_rows : Meth K (He.ga K "Table") "rows" (He.fAd K ("Table", some "rows"))
  m_Table_which : Meth K (He.ga K "Table") "which" (He.fAd K ("Table", some "which"))
  d_JoinError___init__ : ∃ fd, FunD K "__init__" "JoinError.__init__" (defArgs s_JoinError___init__) (defBody s_JoinError___init__) (defScope s_JoinError___init__) [] [] (He.fAd K ("JoinError", some "__init__")) fd
  d_NoPiece___init__ : ∃ fd, FunD K "__init__" "NoPiece.__init__" (defArgs s_NoPiece___init__) (defBody s_NoPiece___init__) (defScope s_NoPiece___init__) [] [] (He.fAd K ("NoPiece", some "__init__")) fd
  g_first_no_piece : mg "first_no_piece" = some (.ref (He.fAd K ("first_no_piece", none)))
  d_first_no_piece : ∃ fd, FunD K "first_no_piece" "first_no_piece" (defArgs s_first_no_piece) (defBody s_first_no_piece) (defScope s_first_no_piece) [] [] (He.fAd K ("first_no_piece", none)) fd
  g_check_row : mg "check_row" = some (.ref (He.fAd K ("check_row", none)))
  d_check_row : ∃ fd, FunD K "check_row" "check_row" (defArgs s_check_row) (defBody s_check_row) (defScope s_check_row) [] [] (He.fAd K ("check_row", none)) fd
  g_text_of : mg "text_of" = some (.ref (He.fAd K ("text_of", none)))
  d_text_of : ∃ fd, FunD K "text_of" "text_of" (defArgs s_text_of) (defBody s_text_of) (defScope s_text_of) [] [] (He.fAd K ("text_of", none)) fd
  g_numbers_of : mg "numbers_of" = some (.ref (He.fAd K ("numbers_of", none)))
  d_numbers_of : ∃ fd, FunD K "numbers_of" "numbers_of" (defArgs s_numbers_of) (defBody s_numbers_of) (defScope s_numbers_of) [] [] (He.fAd K ("numbers_of", none)) fd
  g_borders_of : mg "borders_of" = some (.ref (He.fAd K ("borders_of", none)))
  d_borders_of : ∃ fd, FunD K "borders_of" "borders_of" (defArgs s_borders_of) (defBody s_borders_of) (defScope s_borders_of) [] [] (He.fAd K ("borders_of", none)) fd
  g_may_be_sign : mg "may_be_sign" = some (.ref (He.fAd K ("may_be_sign", none)))
  d_may_be_sign : ∃ fd, FunD K "may_be_sign" "may_be_sign" (defArgs s_may_be_sign) (defBody s_may_be_sign) (defScope s_may_be_sign) [] [] (He.fAd K ("may_be_sign", none)) fd
  g_check_signs : mg "check_signs" = some (.ref (He.fAd K ("check_signs", none)))
  d_check_signs : ∃ fd, FunD K "check_signs" "check_signs" (defArgs s_check_signs) (defBody s_check_signs) (defScope s_check_signs) [] [] (He.fAd K ("check_signs", none)) fd
  d_Table___init__ : ∃ fd, FunD K "__init__" "Table.__init__" (defArgs s_Table___init__) (defBody s_Table___init__) (defScope s_Table___init__) [] [] (He.fAd K ("Table", some "__init__")) fd
  d_Table_take_piece : ∃ fd, FunD K "take_piece" "Table.take_piece" (defArgs s_Table_take_piece) (defBody s_Table_take_piece) (defScope s_Table_take_piece) [] [] (He.fAd K ("Table", some "take_piece")) fd
  d_Table_may_take_row : ∃ fd, FunD K "may_take_row" "Table.may_take_row" (defArgs s_Table_may_take_row) (defBody s_Table_may_take_row) (defScope s_Table_may_take_row) [] [] (He.fAd K ("Table", some "may_take_row")) fd
  d_Table_take_row : ∃ fd, FunD K "take_row" "Table.take_row" (defArgs s_Table_take_row) (defBody s_Table_take_row) (defScope s_Table_take_row) [] [] (He.fAd K ("Table", some "take_row")) fd
  d_Table_signs : ∃ fd, FunD K "signs" "Table.signs" (defArgs s_Table_signs) (defBody s_Table_signs) (defScope s_Table_signs) [] [] (He.fAd K ("Table", some "signs")) fd
  d_Table_rows : ∃ fd, FunD K "rows" "Table.rows" (defArgs s_Table_rows) (defBody s_Table_rows) (defScope s_Table_rows) [] [] (He.fAd K ("Table", some "rows")) fd
  d_Table_which : ∃ fd, FunD K "which" "Table.which" (defArgs s_Table_which) (defBody s_Table_which) (defScope s_Table_which) [] [] (He.fAd K ("Table", some "which")) fd
  g__law_numbers : mg "_law_numbers" = some (.ref (He.fAd K ("_law_numbers", none)))
  d__law_numbers : ∃ fd, FunD K "_law_numbers" "_law_numbers" (defArgs s__law_numbers) (defBody s__law_numbers) (defScope s__law_numbers) [] [] (He.fAd K ("_law_numbers", none)) fd
  g__law_signs : mg "_law_signs" = some (.ref (He.fAd K ("_law_signs", none)))
  d__law_signs : ∃ fd, FunD K "_law_signs" "_law_signs" (defArgs s__law_signs) (defBody s__law_signs) (defScope s__law_signs) [] [] (He.fAd K ("_law_signs", none)) fd
  g__law_rows : mg "_law_rows" = some (.ref (He.fAd K ("_law_rows", none)))
  d__law_rows : ∃ fd, FunD K "_law_rows" "_law_rows" (defArgs s__law_rows) (defBody s__law_rows) (defScope s__law_rows) [] [] (He.fAd K ("_law_rows", none)) fd
  g__law_table : mg "_law_table" = some (.ref (He.fAd K ("_law_table", none)))
  d__law_table : ∃ fd, FunD K "_law_table" "_law_table" (defArgs s__law_table) (defBody s__law_table) (defScope s__law_table) [] [] (He.fAd K ("_law_table", none)) fd
  g__law_pieces : mg "_law_pieces" = some (.ref (He.fAd K ("_law_pieces", none)))
  d__law_pieces : ∃ fd, FunD K "_law_pieces" "_law_pieces" (defArgs s__law_pieces) (defBody s__law_pieces) (defScope s__law_pieces) [] [] (He.fAd K ("_law_pieces", none)) fd
  g__law_is_whole : mg "_law_is_whole" = some (.ref (He.fAd K ("_law_is_whole", none)))
  d__law_is_whole : ∃ fd, FunD K "_law_is_whole" "_law_is_whole" (defArgs s__law_is_whole) (defBody s__law_is_whole) (defScope s__law_is_whole) [] [] (He.fAd K ("_law_is_whole", none)) fd
  g__law_strange : mg "_law_strange" = some (.ref (He.fAd K ("_law_strange", none)))
  d__law_strange : ∃ fd, FunD K "_law_strange" "_law_strange" (defArgs s__law_strange) (defBody s__law_strange) (defScope s__law_strange) [] [] (He.fAd K ("_law_strange", none)) fd
  g__law_odd : mg "_law_odd" = some (.ref (He.fAd K ("_law_odd", none)))
  d__law_odd : ∃ fd, FunD K "_law_odd" "_law_odd" (defArgs s__law_odd) (defBody s__law_odd) (defScope s__law_odd) [] [] (He.fAd K ("_law_odd", none)) fd
  g__law_spoilt : mg "_law_spoilt" = some (.ref (He.fAd K ("_law_spoilt", none)))
  d__law_spoilt : ∃ fd, FunD K "_law_spoilt" "_law_spoilt" (defArgs s__law_spoilt) (defBody s__law_spoilt) (defScope s__law_spoilt) [] [] (He.fAd K ("_law_spoilt", none)) fd
  g__law_wrong : mg "_law_wrong" = some (.ref (He.fAd K ("_law_wrong", none)))
  d__law_wrong : ∃ fd, FunD K "_law_wrong" "_law_wrong" (defArgs s__law_wrong) (defBody s__law_wrong) (defScope s__law_wrong) [] [] (He.fAd K ("_law_wrong", none)) fd
  g__law_call : mg "_law_call" = some (.ref (He.fAd K ("_law_call", none)))
  d__law_call : ∃ fd, FunD K "_law_call" "_law_call" (defArgs s__law_call) (defBody s__law_call) (defScope s__law_call) [] [] (He.fAd K ("_law_call", none)) fd
  g__law_asked : mg "_law_asked" = some (.ref (He.fAd K ("_law_asked", none)))
  d__law_asked : ∃ fd, FunD K "_law_asked" "_law_asked" (defArgs s__law_asked) (defBody s__law_asked) (defScope s__law_asked) [] [] (He.fAd K ("_law_asked", none)) fd
  g__law_good : mg "_law_good" = some (.ref (He.fAd K ("_law_good", none)))
  d__law_good : ∃ fd, FunD K "_law_good" "_law_good" (defArgs s__law_good) (defBody s__law_good) (defScope s__law_good) [] [] (He.fAd K ("_law_good", none)) fd
  g_law : mg "law" = some (.ref (He.fAd K ("law", none)))
  d_law : ∃ fd, FunD K "law" "law" (defArgs s_law) (defBody s_law) (defScope s_law) [] [] (He.fAd K ("law", none)) fd
end Jr
namespace Jr
open PySem PySem.Spec PyProof.Rows L2
def exs (K : PySem.W.Frag) : List Bool := [PySem.W.readsIn K (He.ga K "JoinError") (.type "type"),
  decide (PySem.W.specialIn K (.ref (He.ga K "JoinError")) "__getattribute__" = some (some (.builtin "type.__getattribute__"))),
  fcB K (He.ga K "JoinError") (He.fAd K ("JoinError", some "__init__")),
  xcB K (He.ga K "NoPiece"),
  decide (PySem.W.findIn K (.ref (He.ga K "NoPiece")) "__init__" = some (some (.ref (He.fAd K ("NoPiece", some "__init__"))))),
  decide (PySem.W.typeIn K (.ref (He.fAd K ("NoPiece", some "__init__"))) = some (.type "function")),
  decide (PySem.W.findIn K (.ref (He.ga K "NoPiece")) "place" = some none),
  decide (PySem.W.kitOne K (.ref (He.ga K "NoPiece")) (.ref (He.ga K "JoinError")) = some true),
  decide (PySem.W.exmOne K (.ref (He.ga K "NoPiece")) (.ref (He.ga K "NoPiece")) = some true),
  decide (PySem.W.kitOne K (.ref (He.ga K "NoPiece")) (.ref (He.ga K "NoNumber")) = some false)]
theorem exAt {l : List Bool} {i : Nat} {b : Bool} (h : l.all id = true) (e : l[i]? = some b) : b = true := List.all_eq_true.mp h b (List.mem_of_getElem? e)
def fa : List He.Fa := [.free "len",
  .free "range",
  .free "max",
  .free "isinstance",
  .free "str",
  .free "int",
  .free "bool",
  .free "list",
  .free "tuple",
  .free "all",
  .free "ord",
  .free "enumerate",
  .free "ValueError",
  .free "repr",
  .int "MOST_SIGNS" 12,
  .int "MOST_ROWS" 24,
  .int "MOST_JOINED" 16,
  .int "BLANK_CODE" 32,
  .int "PERCENT_CODE" 37,
  .int "TILDE_CODE" 126,
  .glo "JoinError",
  .glo "NoPiece",
  .glo "NoNumber",
  .glo "Table",
  .cls "Table",
  .noat "Table" "sign_text",
  .noat "Table" "row_list",
  .noat "Table" "piece_list",
  .noat "Table" "number_by_piece",
  .noat "Table" "rank_by_row",
  .noat "Table" "most_signs",
  .mkr "Table",
  .meth "Table" "take_piece",
  .meth "Table" "may_take_row",
  .meth "Table" "take_row",
  .meth "Table" "signs",
  .meth "Table" "rows",
  .meth "Table" "which",
  .glo "first_no_piece",
  .glo "check_row",
  .glo "text_of",
  .glo "numbers_of",
  .glo "borders_of",
  .glo "may_be_sign",
  .glo "check_signs",
  .glo "_law_numbers",
  .glo "_law_signs",
  .glo "_law_rows",
  .glo "_law_table",
  .glo "_law_pieces",
  .glo "_law_is_whole",
  .glo "_law_strange",
  .glo "_law_odd",
  .glo "_law_spoilt",
  .glo "_law_wrong",
  .glo "_law_call",
  .glo "_law_asked",
  .glo "_law_good",
  .glo "law"]
def fn : List He.DefD := [⟨("JoinError", some "__init__"), "__init__", "JoinError.__init__", defArgs s_JoinError___init__, defBody s_JoinError___init__, defScope s_JoinError___init__, [], []⟩,
  ⟨("NoPiece", some "__init__"), "__init__", "NoPiece.__init__", defArgs s_NoPiece___init__, defBody s_NoPiece___init__, defScope s_NoPiece___init__, [], []⟩,
  ⟨("first_no_piece", none), "first_no_piece", "first_no_piece", defArgs s_first_no_piece, defBody s_first_no_piece, defScope s_first_no_piece, [], []⟩,
  ⟨("check_row", none), "check_row", "check_row", defArgs s_check_row, defBody s_check_row, defScope s_check_row, [], []⟩,
  ⟨("text_of", none), "text_of", "text_of", defArgs s_text_of, defBody s_text_of, defScope s_text_of, [], []⟩,
  ⟨("numbers_of", none), "numbers_of", "numbers_of", defArgs s_numbers_of, defBody s_numbers_of, defScope s_numbers_of, [], []⟩,
  ⟨("borders_of", none), "borders_of", "borders_of", defArgs s_borders_of, defBody s_borders_of, defScope s_borders_of, [], []⟩,
  ⟨("may_be_sign", none), "may_be_sign", "may_be_sign", defArgs s_may_be_sign, defBody s_may_be_sign, defScope s_may_be_sign, [], []⟩,
  ⟨("check_signs", none), "check_signs", "check_signs", defArgs s_check_signs, defBody s_check_signs, defScope s_check_signs, [], []⟩,
  ⟨("Table", some "__init__"), "__init__", "Table.__init__", defArgs s_Table___init__, defBody s_Table___init__, defScope s_Table___init__, [], []⟩,
  ⟨("Table", some "take_piece"), "take_piece", "Table.take_piece", defArgs s_Table_take_piece, defBody s_Table_take_piece, defScope s_Table_take_piece, [], []⟩,
  ⟨("Table", some "may_take_row"), "may_take_row", "Table.may_take_row", defArgs s_Table_may_take_row, defBody s_Table_may_take_row, defScope s_Table_may_take_row, [], []⟩,
  ⟨("Table", some "take_row"), "take_row", "Table.take_row", defArgs s_Table_take_row, defBody s_Table_take_row, defScope s_Table_take_row, [], []⟩,
  ⟨("Table", some "signs"), "signs", "Table.signs", defArgs s_Table_signs, defBody s_Table_signs, defScope s_Table_signs, [], []⟩,
  ⟨("Table", some "rows"), "rows", "Table.rows", defArgs s_Table_rows, defBody s_Table_rows, defScope s_Table_rows, [], []⟩,
  ⟨("Table", some "which"), "which", "Table.which", defArgs s_Table_which, defBody s_Table_which, defScope s_Table_which, [], []⟩,
  ⟨("_law_numbers", none), "_law_numbers", "_law_numbers", defArgs s__law_numbers, defBody s__law_numbers, defScope s__law_numbers, [], []⟩,
  ⟨("_law_signs", none), "_law_signs", "_law_signs", defArgs s__law_signs, defBody s__law_signs, defScope s__law_signs, [], []⟩,
  ⟨("_law_rows", none), "_law_rows", "_law_rows", defArgs s__law_rows, defBody s__law_rows, defScope s__law_rows, [], []⟩,
  ⟨("_law_table", none), "_law_table", "_law_table", defArgs s__law_table, defBody s__law_table, defScope s__law_table, [], []⟩,
  ⟨("_law_pieces", none), "_law_pieces", "_law_pieces", defArgs s__law_pieces, defBody s__law_pieces, defScope s__law_pieces, [], []⟩,
  ⟨("_law_is_whole", none), "_law_is_whole", "_law_is_whole", defArgs s__law_is_whole, defBody s__law_is_whole, defScope s__law_is_whole, [], []⟩,
  ⟨("_law_strange", none), "_law_strange", "_law_strange", defArgs s__law_strange, defBody s__law_strange, defScope s__law_strange, [], []⟩,
  ⟨("_law_odd", none), "_law_odd", "_law_odd", defArgs s__law_odd, defBody s__law_odd, defScope s__law_odd, [], []⟩,
  ⟨("_law_spoilt", none), "_law_spoilt", "_law_spoilt", defArgs s__law_spoilt, defBody s__law_spoilt, defScope s__law_spoilt, [], []⟩,
  ⟨("_law_wrong", none), "_law_wrong", "_law_wrong", defArgs s__law_wrong, defBody s__law_wrong, defScope s__law_wrong, [], []⟩,
  ⟨("_law_call", none), "_law_call", "_law_call", defArgs s__law_call, defBody s__law_call, defScope s__law_call, [], []⟩,
  ⟨("_law_asked", none), "_law_asked", "_law_asked", defArgs s__law_asked, defBody s__law_asked, defScope s__law_asked, [], []⟩,
  ⟨("_law_good", none), "_law_good", "_law_good", defArgs s__law_good, defBody s__law_good, defScope s__law_good, [], []⟩,
  ⟨("law", none), "law", "law", defArgs s_law, defBody s_law, defScope s_law, [], []⟩]

abbrev RR : PySem.W.OpenRow := PySem.W.OpenLaw.row PySem.Challenge.rw_joinranks_k24_texts_numbers_borders
def loose : List PySem.Str := (["_wall", "JoinError", "NoTable", "NoPiece", "NoNumber", "is_whole", "is_up_to", "first_no_piece", "check_row", "text_of", "numbers_of", "borders_of", "MOST_SIGNS", "MOST_ROWS", "MOST_JOINED", "BLANK_CODE", "PERCENT_CODE", "TILDE_CODE", "may_be_sign", "check_signs", "Table", "_law_numbers", "_law_signs", "_law_rows", "_law_table", "_law_pieces", "_law_is_whole", "_law_strange", "_law_odd", "_law_spoilt"] : List PySem.Str) ++ (["_law_wrong", "_law_call", "_law_asked", "_law_good"] : List PySem.Str)
abbrev hk : PySem.W.Hook := hookC 4 fa fn (fun K => (exs K).all id)
def ob (s : PySem.W.SharedT) : He.AlX := obsC 4 fa fn (fun K => (exs K).all id) (HandSHeadRun.getT s)
theorem ob_eq (s : PySem.W.SharedT) : ob s = hk.obs s.abs := obsC_eq (HandSHeadRun.getT_eq s)
theorem run (w : World) : HandSHeadRun.RunEq RR (PySem.W.view RR.prog [40]) hk ob 8000 loose w := by
  intro os
  kernel_rfl
end Jr
namespace Jr
open PySem PySem.Spec PyProof.Rows L2
/-! ### what is refused, and with what -/
theorem tyx_same {K : PySem.W.Frag} {H H' : Hp} {v : V} {t : Value} (h : TyX K H v t) (s : Same H H') : TyX K H' v t := by
  cases h with
  | base b =>
    cases b with
    | non => exact .base .non
    | bl x => exact .base (.bl x)
    | int i => exact .base (.int i)
    | str x => exact .base (.str x)
    | flt x => exact .base (.flt x)
    | lst e => exact .base (.lst (s _ _ e))
    | frz e => exact .base (.frz (s _ _ e))
    | tup e => exact .base (.tup (s _ _ e))
    | dK e => exact .base (.dK (s _ _ e))
    | dT e => exact .base (.dT (s _ _ e))
    | ins e cl ha hn htk hm => exact .base (.ins (s _ _ e) cl ha hn htk hm)
  | byt b => exact .byt b
  | set e => exact .set (s _ _ e)
  | kList e c => exact .kList e c
  | kTuple e c => exact .kTuple e c
  | kDict e c => exact .kDict e c
  | fTuple e => exact .fTuple (s _ _ e)
  | fDict e => exact .fDict (s _ _ e)
theorem NoStr.same {K : PySem.W.Frag} {H H' : Hp} {v : V} (h : NoStr K H v) (s : Same H H') : NoStr K H' v := by
  obtain ⟨t, a, b⟩ := h
  exact ⟨t, tyx_same a s, b⟩
section
variable {K : PySem.W.Frag} {H : Hp}
theorem noStr_non : NoStr K H .non := ⟨_, .base .non, kit_ty (by decide +kernel)⟩
theorem noStr_bl (b : Bool) : NoStr K H (.bl b) := ⟨_, .base (.bl b), kit_ty (by decide +kernel)⟩
theorem noStr_int (i : Int) : NoStr K H (.int i) := ⟨_, .base (.int i), kit_ty (by decide +kernel)⟩
theorem noStr_lst {a : Addr} {xs : List V} (h : H a = some (.lst xs)) : NoStr K H (.ref a) := ⟨_, .base (.lst h), kit_ty (by decide +kernel)⟩
theorem noStr_tup {a : Addr} {xs : List V} (h : H a = some (.tup xs)) : NoStr K H (.ref a) := ⟨_, .base (.tup h), kit_ty (by decide +kernel)⟩
theorem noStr_dK {a : Addr} {xs : List (Key × V)} (h : H a = some (.dK xs)) : NoStr K H (.ref a) := ⟨_, .base (.dK h), kit_ty (by decide +kernel)⟩
end
/-- the place of the first sign that is not z's -/
def wrong1 (z t : Str) : Option Nat := t.cps.toList.findIdx? fun c => !decide (c ∈ z.cps.toList)
theorem wrong1_none {z t : Str} : wrong1 z t = none ↔ TextOf z t := by
  unfold wrong1
  rw [List.findIdx?_eq_none_iff]
  exact ⟨fun h c hc => by simpa using h c hc, fun h c hc => by simpa using h c hc⟩
theorem wrong1_at {z t : Str} {i c : Nat} (h : ∀ j d, j < i → t.cps.toList[j]? = some d → d ∈ z.cps.toList) (hc : t.cps.toList[i]? = some c) (n : ¬ c ∈ z.cps.toList) : wrong1 z t = some i := by
  unfold wrong1
  obtain ⟨hi, e⟩ := List.getElem?_eq_some_iff.mp hc
  rw [List.findIdx?_eq_some_iff_getElem]
  refine ⟨hi, ?_, fun j hj => ?_⟩
  · rw [e]; simpa using n
  · have := h j _ hj (List.getElem?_eq_getElem (by omega))
    simpa using this
theorem wrong1_lt {z t : Str} {i : Nat} (h : wrong1 z t = some i) : i < t.length := by
  unfold wrong1 at h
  obtain ⟨hi, _⟩ := List.findIdx?_eq_some_iff_getElem.mp h
  rw [← len_cps]; exact hi
/-- v is refused as a text of z's signs, w the place -/
def Bad (K : PySem.W.Frag) (H : Hp) (z : Str) (v w : V) : Prop := (∃ t i, v = .str t ∧ wrong1 z t = some i ∧ w = .int (i : Nat)) ∨ (NoStr K H v ∧ w = .non)
theorem Bad.same {K : PySem.W.Frag} {H H' : Hp} {z : Str} {v w : V} (h : Bad K H z v w) (s : Same H H') : Bad K H' z v w := by
  rcases h with h | ⟨h, e⟩
  · exact .inl h
  · exact .inr ⟨h.same s, e⟩
/-- an error of the class at C with one field is wanted -/
def Rz (C : Addr) (f : Str) (v : V) (H : Hp) (E : XK) : Prop := ∀ H' d, Same H H' → H d = none → H' d = some (.xd [(f, v)]) → E (.ref C) (some d) H'
theorem Rz.same {C : Addr} {f : Str} {v : V} {H H1 : Hp} {E : XK} (h : Rz C f v H E) (s : Same H H1) : Rz C f v H1 E := fun H' d s1 n e => h H' d (s.trans s1) (s.free n) e
theorem Rz.now {C : Addr} {f : Str} {v : V} {H : Hp} {E : XK} (h : Rz C f v H E) : ∀ d, H d = none → E (.ref C) (some d) (upd H d (.xd [(f, v)])) := fun d n => h _ d (Same.new n) n upd_same
theorem fmt_nat (i : Nat) (h : i ≤ 100000) : Fmt (.int (i : Nat)) := .inr (.inl ⟨_, rfl, by
  have e : ((i : Nat) : Int).natAbs = i := by omega
  rw [e]
  rcases Nat.eq_zero_or_pos i with h0 | h0
  · rw [h0]; decide
  · have : i.log2 < 20 := (Nat.log2_lt (by omega)).mpr (by omega)
    omega⟩)
end Jr
namespace Jr
open PySem PySem.Spec PyProof.Rows L2
/-- v is no piece -/
def NoPc (K : PySem.W.Frag) (H : Hp) (z : Str) (rs : Rws) (v : V) : Prop := (∃ t, v = .str t ∧ ¬ t ∈ pcs z rs) ∨ NoStr K H v
theorem NoPc.same {K : PySem.W.Frag} {H H' : Hp} {z : Str} {rs : Rws} {v : V} (h : NoPc K H z rs v) (s : Same H H') : NoPc K H' z rs v := by
  rcases h with h | h
  · exact .inl h
  · exact .inr (h.same s)
/-- the first of us that is no piece stands at i -/
structure FirstPc (K : PySem.W.Frag) (H : Hp) (z : Str) (rs : Rws) (us : List V) (i : Nat) : Prop where
  good : ∀ j v, j < i → us[j]? = some v → ∃ p, p ∈ pcs z rs ∧ v = .str p
  bad : ∃ v, us[i]? = some v ∧ NoPc K H z rs v
theorem FirstPc.same {K : PySem.W.Frag} {H H' : Hp} {z : Str} {rs : Rws} {us : List V} {i : Nat} (h : FirstPc K H z rs us i) (s : Same H H') : FirstPc K H' z rs us i :=
  ⟨h.good, let ⟨v, a, b⟩ := h.bad; ⟨v, a, b.same s⟩⟩
theorem FirstPc.lt {K : PySem.W.Frag} {H : Hp} {z : Str} {rs : Rws} {us : List V} {i : Nat} (h : FirstPc K H z rs us i) : i < us.length := by
  obtain ⟨v, e, _⟩ := h.bad
  exact (List.getElem?_eq_some_iff.mp e).1
theorem noPc_str {K : PySem.W.Frag} {H : Hp} {z : Str} {rs : Rws} {p : Str} (h : NoPc K H z rs (.str p)) : ¬ p ∈ pcs z rs := by
  rcases h with ⟨t, e, n⟩ | ⟨t, a, b⟩
  · cases e; exact n
  · cases a with
    | base a => cases a; rw [isStr] at b; cases b
end Jr
namespace Jr
open PySem PySem.Spec PyProof.Rows L2
/-- v is no list -/
def NoLst (K : PySem.W.Frag) (H : Hp) (v : V) : Prop := ∃ t, TyX K H v t ∧ PySem.W.kitOne K t (.type "list") = some false
theorem NoLst.same {K : PySem.W.Frag} {H H' : Hp} {v : V} (h : NoLst K H v) (s : Same H H') : NoLst K H' v := by
  obtain ⟨t, a, b⟩ := h
  exact ⟨t, tyx_same a s, b⟩
section
variable {K : PySem.W.Frag} {H : Hp}
theorem noLst_non : NoLst K H .non := ⟨_, .base .non, kit_ty (by decide +kernel)⟩
theorem noLst_bl (b : Bool) : NoLst K H (.bl b) := ⟨_, .base (.bl b), kit_ty (by decide +kernel)⟩
theorem noLst_int (i : Int) : NoLst K H (.int i) := ⟨_, .base (.int i), kit_ty (by decide +kernel)⟩
theorem noLst_str (x : Str) : NoLst K H (.str x) := ⟨_, .base (.str x), kit_ty (by decide +kernel)⟩
theorem noLst_tup {a : Addr} {xs : List V} (h : H a = some (.tup xs)) : NoLst K H (.ref a) := ⟨_, .base (.tup h), kit_ty (by decide +kernel)⟩
theorem noLst_dK {a : Addr} {xs : List (Key × V)} (h : H a = some (.dK xs)) : NoLst K H (.ref a) := ⟨_, .base (.dK h), kit_ty (by decide +kernel)⟩
end
end Jr
namespace Jr
open PySem PySem.Spec PyProof.Rows L2
/-- a thing that is no row of pieces: what is wrong with it, and where -/
def Odd3 (K : PySem.W.Frag) (H : Hp) (z : Str) (rs : Rws) (v : V) (s : Str) (u : V) : Prop :=
  (NoLst K H v ∧ s = "form" ∧ u = .non) ∨ ∃ (a : Addr) (us : List V) (i : Nat), v = .ref a ∧ H a = some (.lst us) ∧ FirstPc K H z rs us i ∧ s = "piece" ∧ u = .int (i : Nat)
theorem Odd3.same {K : PySem.W.Frag} {H H' : Hp} {z : Str} {rs : Rws} {v u : V} {s : Str} (h : Odd3 K H z rs v s u) (sm : Same H H') : Odd3 K H' z rs v s u := by
  rcases h with ⟨h, e⟩ | ⟨a, us, i, e, hA, fp, r⟩
  · exact .inl ⟨h.same sm, e⟩
  · exact .inr ⟨a, us, i, e, sm _ _ hA, fp.same sm, r⟩
theorem Odd3.asc {K : PySem.W.Frag} {H : Hp} {z : Str} {rs : Rws} {v u : V} {s : Str} (h : Odd3 K H z rs v s u) : Asc s ∧ (u = .non ∨ ∃ i : Nat, u = .int (i : Nat)) := by
  have key : ∀ s : Str, s.cps.toList.all (fun c => decide (c ≤ 126)) = true → Asc s := fun s h c hc => of_decide_eq_true (List.all_eq_true.mp h c hc)
  rcases h with ⟨_, e, eu⟩ | ⟨_, _, i, _, _, _, e, eu⟩
  · exact ⟨by rw [e]; exact key _ (by decide +kernel), .inl eu⟩
  · exact ⟨by rw [e]; exact key _ (by decide +kernel), .inr ⟨i, eu⟩⟩
end Jr
namespace Jr
open PySem PySem.Spec PyProof.Rows L2
section
variable {P : Program} {w : World} {K : PySem.W.Frag} {mg : Str → Option Value} {base : Heap}
/-! ### may_be_sign, check_signs -/
def spMayBe : Sp := fun vs H Q _ => ∃ c : Nat, vs = [.str (sgn c)] ∧ Q (.bl (decide (32 ≤ c ∧ c ≤ 126 ∧ c ≠ 37))) H
theorem cal_may_be_sign (T : Tx K mg) : Cal P w K mg base CX0 1 "may_be_sign" spMayBe := by
  obtain ⟨fd, F⟩ := T.d_may_be_sign
  refine ⟨_, fd, P_may_be_sign, F.ok sc_may_be_sign (fun vs H Q E h => ?_) (fun cdv A outer s H vs Q E hr h => ?_), T.g_may_be_sign, F.kp, F.bindsN (ps := P_may_be_sign) fun _ _ _ _ _ _ us hl => match us, hl with | [_], _ => rfl⟩
  · obtain ⟨c, rfl, _⟩ := h
    rfl
  · obtain ⟨c, rfl, k⟩ := h
    refine ⟨_, (PSs.nox (pss_cons (ps_set (i := 1) sc_may_be_sign.nd rfl (Or.inl rfl) (pe_callB (id := "ord") call_ord (by rfl) T.n_ord (by decide +kernel) (pa_cons (pv 0) pa_nil)))
      (pss_one (ps_ret (pe_and (pe_chain op_le op_le (pe_glob (v := .int 32) (by rfl) T.c_BLANK_CODE.choose_spec ⟨_, rfl⟩) (pv 1) (pe_glob (v := .int 126) (by rfl) T.c_TILDE_CODE.choose_spec ⟨_, rfl⟩)) (pe_one (pe_cmpR op_ne (pv 1) (pe_glob (v := .int 37) (by rfl) T.c_PERCENT_CODE.choose_spec ⟨_, rfl⟩) (nomark _)))))))), ?_⟩
    refine ⟨_, rfl, _, rfl, rfl, ?_⟩
    have ec : (((sgn c).cps.getD 0 0 : Nat) : Int) = (c : Int) := rfl
    rw [ec]
    refine ⟨_, rfl, _, _, rfl, rfl, _, rfl, ite2 (fun c1 => ⟨_, _, rfl, rfl, _, rfl, ite2 (fun c2 => ⟨_, rfl, rfl, ?_⟩) (fun c2 => ?_)⟩) (fun c1 => ⟨_, rfl, iteF ?_⟩)⟩
    · have h1 : (32 : Int) ≤ c := of_decide_eq_true c1
      have h2 : (c : Int) ≤ 126 := of_decide_eq_true c2
      have e : (!decide (V.int (c : Int) = V.int 37)) = decide (32 ≤ c ∧ c ≤ 126 ∧ c ≠ 37) := by
        by_cases h3 : c = 37
        · subst h3; decide
        · have h4 : ¬ V.int (c : Int) = V.int 37 := fun z => h3 (by have := V.int.inj z; omega)
          rw [decide_eq_false h4, decide_eq_true ⟨by omega, by omega, h3⟩]; rfl
      show Q (V.bl (!decide (V.int (c : Int) = V.int 37))) H
      rw [e]
      exact k
    · have h2 : ¬ (c : Int) ≤ 126 := of_decide_eq_false (by simpa using c2)
      have e : decide (32 ≤ c ∧ c ≤ 126 ∧ c ≠ 37) = false := decide_eq_false (by omega)
      rw [e] at k
      exact k
    · have h1 : ¬ (32 : Int) ≤ c := of_decide_eq_false (by simpa using c1)
      have e : decide (32 ≤ c ∧ c ≤ 126 ∧ c ≠ 37) = false := decide_eq_false (by omega)
      rw [e] at k
      exact k
def spCheckSigns : Sp := fun vs H Q _ => ∃ z : Str, vs = [.str z] ∧ SignsOk z ∧ 1 ≤ z.length ∧ z.length ≤ 12 ∧ ∀ H', Same H H' → Q .non H'
theorem cal_check_signs (T : Tx K mg) : Cal P w K mg base CX0 2 "check_signs" spCheckSigns := by
  have C_may_be_sign := cal_may_be_sign (P := P) (w := w) (base := base) T
  obtain ⟨fd, F⟩ := T.d_check_signs
  refine ⟨_, fd, P_check_signs, F.ok sc_check_signs (fun vs H Q E h => ?_) (fun cdv A outer s H vs Q E hr h => ?_), T.g_check_signs, F.kp, F.bindsN (ps := P_check_signs) fun _ _ _ _ _ _ us hl => match us, hl with | [_], _ => rfl⟩
  · obtain ⟨z, rfl, _⟩ := h
    rfl
  · obtain ⟨z, rfl, ok, z1, z12, k⟩ := h
    refine ⟨_, (PSs.nox (pss_cons (ps_if (PW.pt (pw_or (pt_not (pt_val (pe_callB (id := "isinstance") call_isi (by rfl) T.n_isinstance (by decide +kernel) (pa_cons (pv 0) (pa_cons (pe_bltn (v := .ty "str") (by rfl) T.n_str (by decide +kernel) rfl) pa_nil))))) (pw_or1 (pt_not (pt_chain op_le op_le pe_int (pe_callB (id := "len") call_len_str (by rfl) T.n_len (by decide +kernel) (pa_cons (pv 0) pa_nil)) (pe_glob (v := .int 12) (by rfl) T.c_MOST_SIGNS.choose_spec ⟨_, rfl⟩)))))) (pss_one ps_never) pss_nil)
      (pss_one (ps_for PassesOwn.never rfl (pi_enumS (by rfl) T.n_enumerate (pa_cons (pv 0) pa_nil)) (pg_tup rfl (pgs_cons (pg_name (i := 1) sc_check_signs.nd rfl (Or.inl rfl)) (pgs_cons (pg_name (i := 2) sc_check_signs.nd rfl (Or.inl rfl)) pgs_nil))) (pss_one (ps_if (PW.pt (pw_or (pt_not (pt_val (pe_cal C_may_be_sign (by first | exact hr | exact hr.mono (by decide)) (by rfl) (pa_cons (pv 2) pa_nil)))) (pw_or1 (pt_cmpR op_in_sign (pv 2) (pe_slice sl_str (pv 0) po_none (po_some (pv 1))) rfl)))) (pss_one ps_never) pss_nil)))))), ?_⟩
    have hz : z.length ≤ sizeLine := sz (by omega)
    refine ⟨_, rfl, _, _, _, _, _, rfl, .ty "str", .base (.str z), isStr, _, rfl, iteF ?_⟩
    refine ⟨_, rfl, _, rfl, hz, _, _, rfl, rfl, _, rfl, ?_⟩
    rw [decide_eq_true (show (1 : Int) ≤ (z.length : Int) by omega)]
    refine iteT ⟨_, _, rfl, rfl, _, rfl, ?_⟩
    rw [decide_eq_true (show (z.length : Int) ≤ 12 by omega)]
    refine iteF ?_
    refine ⟨_, rfl, z, rfl, for_enumS (x := z) (fun i σ H' => ∃ u v : Option V, σ = [some (.str z), u, v] ∧ Same H H') ⟨none, none, rfl, Same.refl H⟩ ?_ ?_⟩
    · rintro i c t σ H' hi ht ⟨u, v, rfl, sm⟩
      have oc := ok.ok c (List.mem_of_getElem? hi)
      have s2 := Same.put (o := .tup [.int (i : Nat), .str (sgn c)]) sm ht
      refine ⟨t, _, rfl, SqT.of upd_same, rfl, _, _, rfl, _, _, rfl, rfl, ?_⟩
      refine ⟨_, rfl, c, rfl, _, rfl, ?_⟩
      rw [decide_eq_true oc]
      refine iteF ⟨_, rfl, _, rfl, _, rfl, _, rfl, _, rfl, hz, c, _, rfl, rfl, _, rfl, ?_⟩
      have hn : ¬ c ∈ (cutS z none (some (i : Int))).cps.toList := by
        rw [cut_to]
        intro hm
        have e : z.cps.toList = z.cps.toList.take i ++ z.cps.toList.drop i := (List.take_append_drop _ _).symm
        have nd := ok.nd
        rw [e, List.nodup_append] at nd
        have hd : c ∈ z.cps.toList.drop i := by
          refine List.mem_of_getElem? (i := 0) ?_
          rw [List.getElem?_drop]
          exact hi
        exact nd.2.2 c hm c hd rfl
      rw [decide_eq_false hn]
      exact iteF ⟨_, _, rfl, s2⟩
    · rintro σ H' ⟨u, v, rfl, sm⟩
      exact k _ sm
/-! ### methods, while the table is being made -/
abbrev TC (K : PySem.W.Frag) : Addr := He.ga K "Table"
def spTakePiece (K : PySem.W.Frag) : Sp := fun vs H Q _ => ∃ (x dx : Addr) (z : Str) (lr lp dn dr : Addr) (ps : List Str) (p : Str), vs = [.ref x, .str p] ∧ H x = some (.ins (TC K) dx (tf5 z lr lp dn dr)) ∧ H lp = some (.lst (ps.map V.str)) ∧ H dn = some (.dK (numD 0 ps)) ∧
  ¬ p ∈ ps ∧ ps.length ≤ 1000 ∧ Q .non (upd (upd H dn (.dK (numD 0 (ps ++ [p])))) lp (.lst ((ps ++ [p]).map V.str)))
theorem met_take_piece (T : Tx K mg) : Met P w K mg base CX0 1 (TC K) "take_piece" (spTakePiece K) := by
  obtain ⟨fd, F⟩ := T.d_Table_take_piece
  refine ⟨T.cl_Table, _, fd, P_Table_take_piece, F.ok sc_Table_take_piece (fun vs H Q E h => ?_) (fun cdv A outer s H vs Q E hr h => ?_), T.m_Table_take_piece, F.bindsN (ps := P_Table_take_piece) fun _ _ _ _ _ _ us hl => match us, hl with | [_, _], _ => rfl⟩
  · obtain ⟨x, dx, z, lr, lp, dn, dr, ps, p, rfl, _⟩ := h
    rfl
  · obtain ⟨x, dx, z, lr, lp, dn, dr, ps, p, rfl, hx, hp, hn, np, hl, k⟩ := h
    refine ⟨_, (PSs.nox (pss_cons (ps_dput (hu_of hr) (pe_fld (pv 0) rfl) (pv 1) (pe_callB (id := "len") call_len_seq (by rfl) T.n_len (by decide +kernel) (pa_cons (pe_fld (pv 0) rfl) pa_nil)) rfl)
      (pss_one (ps_expr (pe_bm PySem.F.plainAttrs_list PySem.F.slot_list_append PySem.F.type_list_append mt_append (pe_fld (pv 0) rfl) (pa_cons (pv 1) pa_nil)))))), ?_⟩
    have nxn : x ≠ dn := ne_of hx hn (by intro q; cases q)
    have npn : lp ≠ dn := ne_of hp hn (by intro q; cases q)
    refine ⟨_, rfl, x, _, dx, _, _, rfl, hx, T.cl_Table, T.no_Table_piece_list, l5_pl _ _ _ _ _, _, _, rfl, .inl (SqL.of hp), _, rfl, x, _, dx, _, _, rfl, hx, T.cl_Table, T.no_Table_number_by_piece, l5_num _ _ _ _ _, _, rfl, dn, _, rfl, DPut.k (k := Sum.inr p) hn ?_, ?_⟩
    · rw [numD_len]; exact szl (by omega)
    rw [putK_new _ (numD_none 0 ps p np), List.length_map]
    have e : numD 0 ps ++ [(Sum.inr p, V.int ((ps.length : Nat) : Int))] = numD 0 (ps ++ [p]) := by rw [numD_snoc, Nat.zero_add]
    rw [e]
    refine ⟨_, rfl, x, _, dx, _, _, rfl, (by rw [upd_ne nxn]; exact hx), T.cl_Table, T.no_Table_piece_list, l5_pl _ _ _ _ _, .inl ⟨rfl, _, SqL.of (by rw [upd_ne npn]; exact hp)⟩, _, rfl, lp, _, _, rfl, rfl, (by rw [upd_ne npn]; exact hp), ?_, ?_⟩
    · rw [List.length_map]; exact szl (by omega)
    · have e2 : ps.map V.str ++ [V.str p] = (ps ++ [p]).map V.str := by rw [List.map_append]; rfl
      rw [e2]
      exact k
/-- which: of a text its number, of all else None -/
def spWhich (K : PySem.W.Frag) : Sp := fun vs H Q _ => ∃ (x dx : Addr) (fs : List (Str × V)) (dn : Addr) (ps : List Str) (v : V), vs = [.ref x, v] ∧ H x = some (.ins (TC K) dx fs) ∧ fs.lookup ("number_by_piece" : Str) = some (.ref dn) ∧ H dn = some (.dK (numD 0 ps)) ∧
  ((∃ p : Str, v = .str p ∧ Q ((valV (numD 0 ps) (Sum.inr p)).getD .non) H) ∨ (NoStr K H v ∧ Q .non H))
theorem met_which (T : Tx K mg) : Met P w K mg base CX0 1 (TC K) "which" (spWhich K) := by
  obtain ⟨fd, F⟩ := T.d_Table_which
  refine ⟨T.cl_Table, _, fd, P_Table_which, F.ok sc_Table_which (fun vs H Q E h => ?_) (fun cdv A outer s H vs Q E hr h => ?_), T.m_Table_which, F.bindsN (ps := P_Table_which) fun _ _ _ _ _ _ us hl => match us, hl with | [_, _], _ => rfl⟩
  · obtain ⟨x, dx, fs, dn, ps, v, rfl, _⟩ := h
    rfl
  · obtain ⟨x, dx, fs, dn, ps, v, rfl, hx, hf, hn, k⟩ := h
    refine ⟨_, (PSs.nox (pss_cons (ps_if (pt_not (pt_val (pe_callB (id := "isinstance") call_isi (by rfl) T.n_isinstance (by decide +kernel) (pa_cons (pv 1) (pa_cons (pe_bltn (v := .ty "str") (by rfl) T.n_str (by decide +kernel) rfl) pa_nil))))) (pss_one (ps_ret pe_non)) pss_nil)
      (pss_one (ps_ret (pe_dget1 (hu_of hr) (pe_fld (pv 0) rfl) (pv 1) ⟨by rfl, by rfl, by rfl, by rfl⟩))))), ?_⟩
    rcases k with ⟨p, rfl, k⟩ | ⟨⟨t, ht, hk⟩, k⟩
    · refine ⟨_, rfl, _, _, _, _, _, rfl, .ty "str", .base (.str p), isStr, _, rfl, iteF ?_⟩
      exact ⟨_, rfl, x, _, dx, _, _, rfl, hx, T.cl_Table, T.no_Table_number_by_piece, hf, dn, rfl, .inl ⟨_, .inl hn⟩, _, rfl, _, DGet.k (k := Sum.inr p) hn, k⟩
    · exact ⟨_, rfl, _, _, _, _, _, rfl, .ty "str", ht, hk, _, rfl, iteT k⟩
def spMayTake (K : PySem.W.Frag) : Sp := fun vs H Q _ => ∃ (x dx : Addr) (z : Str) (lr lp dn dr : Addr) (ps : List Str) (a : Addr) (l r : Str), vs = [.ref x, .ref a] ∧ H x = some (.ins (TC K) dx (tf5 z lr lp dn dr)) ∧ H dn = some (.dK (numD 0 ps)) ∧ ps.Nodup ∧
  H a = some (.tup [.str l, .str r]) ∧ l ∈ ps ∧ r ∈ ps ∧ (l ++ r).length ≤ 16 ∧ ¬ (l ++ r) ∈ ps ∧ Q (.bl true) H
theorem num_some {ps : List Str} {p : Str} (nd : ps.Nodup) (h : p ∈ ps) : ∃ i : Nat, ps[i]? = some p ∧ valV (numD 0 ps) (Sum.inr p) = some (V.int (i : Nat)) := by
  obtain ⟨i, hi, e⟩ := List.mem_iff_getElem.mp h
  have e2 : ps[i]? = some p := by rw [List.getElem?_eq_getElem hi, e]
  have e3 := numD_at 0 ps p i nd e2
  rw [Nat.zero_add] at e3
  exact ⟨i, e2, e3⟩
theorem met_may_take_row (T : Tx K mg) : Met P w K mg base CX0 2 (TC K) "may_take_row" (spMayTake K) := by
  have M_Table_which := met_which (P := P) (w := w) (base := base) T
  obtain ⟨fd, F⟩ := T.d_Table_may_take_row
  refine ⟨T.cl_Table, _, fd, P_Table_may_take_row, F.ok sc_Table_may_take_row (fun vs H Q E h => ?_) (fun cdv A outer s H vs Q E hr h => ?_), T.m_Table_may_take_row, F.bindsN (ps := P_Table_may_take_row) fun _ _ _ _ _ _ us hl => match us, hl with | [_, _], _ => rfl⟩
  · obtain ⟨x, dx, z, lr, lp, dn, dr, ps, a, l, r, rfl, _⟩ := h
    rfl
  · obtain ⟨x, dx, z, lr, lp, dn, dr, ps, a, l, r, rfl, hx, hn, nd, ha, hl, hr', hlen, hnew, k⟩ := h
    refine ⟨_, (PSs.nox (pss_cons (ps_if (PW.pt (pw_or (pt_not (pt_val (pe_callB (id := "isinstance") call_isi (by rfl) T.n_isinstance (by decide +kernel) (pa_cons (pv 1) (pa_cons (pe_bltn (v := .ty "tuple") (by rfl) T.n_tuple (by decide +kernel) rfl) pa_nil))))) (pw_or1 (pt_cmpR op_ne (pe_callB (id := "len") call_len_seq (by rfl) T.n_len (by decide +kernel) (pa_cons (pv 1) pa_nil)) pe_int (nomark _))))) (pss_one (ps_ret pe_bl)) pss_nil)
      (pss_cons (ps_asg (pv 1) (pg_tup rfl (pgs_cons (pg_name (i := 2) sc_Table_may_take_row.nd rfl (Or.inl rfl)) (pgs_cons (pg_name (i := 3) sc_Table_may_take_row.nd rfl (Or.inl rfl)) pgs_nil))))
      (pss_cons (ps_if (PW.pt (pw_or (pt_cmpR op_isN (pe_met M_Table_which (pv 0) (by first | exact hr | exact hr.mono (by decide)) (pa_cons (pv 2) pa_nil)) pe_non (nomark _)) (pw_or1 (pt_cmpR op_isN (pe_met M_Table_which (pv 0) (by first | exact hr | exact hr.mono (by decide)) (pa_cons (pv 3) pa_nil)) pe_non (nomark _))))) (pss_one (ps_ret pe_bl)) pss_nil)
      (pss_cons (ps_set (i := 4) sc_Table_may_take_row.nd rfl (Or.inl rfl) (pe_op op_add_str (pv 2) (pv 3)))
      (pss_one (ps_ret (pe_and (pe_cmpR op_le (pe_callB (id := "len") call_len_str (by rfl) T.n_len (by decide +kernel) (pa_cons (pv 4) pa_nil)) (pe_glob (v := .int 16) (by rfl) T.c_MOST_JOINED.choose_spec ⟨_, rfl⟩) (nomark _)) (pe_one (pe_cmpR op_isN (pe_met M_Table_which (pv 0) (by first | exact hr | exact hr.mono (by decide)) (pa_cons (pv 4) pa_nil)) pe_non (nomark _))))))))))), ?_⟩
    obtain ⟨i, _, ei⟩ := num_some nd hl
    obtain ⟨j, _, ej⟩ := num_some nd hr'
    have la := app_len l r
    refine ⟨_, rfl, _, _, _, _, _, rfl, .ty "tuple", .base (.tup ha), isTup, _, rfl, iteF ⟨_, rfl, a, _, rfl, .inr (SqT.of ha), rfl, _, rfl, iteF ?_⟩⟩
    refine ⟨_, rfl, a, _, rfl, SqT.of ha, rfl, _, _, rfl, _, _, rfl, rfl, ?_⟩
    refine ⟨_, rfl, x, dx, _, rfl, hx, l5_which _ _ _ _ _, _, rfl, x, dx, _, dn, ps, _, rfl, hx, l5_num _ _ _ _ _, hn, .inl ⟨l, rfl, ?_⟩⟩
    rw [ei]
    refine ⟨rfl, _, rfl, iteF ?_⟩
    refine ⟨_, rfl, x, dx, _, rfl, hx, l5_which _ _ _ _ _, _, rfl, x, dx, _, dn, ps, _, rfl, hx, l5_num _ _ _ _ _, hn, .inl ⟨r, rfl, ?_⟩⟩
    rw [ej]
    refine ⟨rfl, _, rfl, iteF ?_⟩
    refine ⟨_, rfl, _, rfl, _, _, rfl, rfl, sz (by omega), ?_⟩
    refine ⟨_, rfl, _, rfl, sz (by omega), _, _, rfl, rfl, _, rfl, ?_⟩
    rw [decide_eq_true (show ((l ++ r).length : Int) ≤ 16 by omega)]
    refine iteT ⟨_, rfl, x, dx, _, rfl, hx, l5_which _ _ _ _ _, _, rfl, x, dx, _, dn, ps, _, rfl, hx, l5_num _ _ _ _ _, hn, .inl ⟨l ++ r, rfl, ?_⟩⟩
    rw [numD_none 0 ps _ hnew]
    exact ⟨rfl, k⟩
def spTakeRow (K : PySem.W.Frag) : Sp := fun vs H Q _ => ∃ (x dx : Addr) (z : Str) (lr lp dn dr : Addr) (ps : List Str) (as : List Addr) (rs : Rws) (a : Addr) (l r : Str), vs = [.ref x, .ref a] ∧ H x = some (.ins (TC K) dx (tf5 z lr lp dn dr)) ∧
  H lr = some (.lst (as.map V.ref)) ∧ lr ≠ lp ∧ H lp = some (.lst (ps.map V.str)) ∧ H dn = some (.dK (numD 0 ps)) ∧ H dr = some (.dT (rankD 0 rs)) ∧ as.length = rs.length ∧ rs.length ≤ 1000 ∧ ps.length ≤ 1000 ∧
  H a = some (.tup [.str l, .str r]) ∧ ¬ (l ++ r) ∈ ps ∧ (l ++ r).length ≤ 1000 ∧ ¬ (l, r) ∈ rs ∧
  ∀ H' t, (∀ b o, b ≠ lr → b ≠ lp → b ≠ dn → b ≠ dr → H b = some o → H' b = some o) → H t = none → H' t = some (.tup [.str l, .str r]) → H' lr = some (.lst ((as ++ [t]).map V.ref)) → H' lp = some (.lst ((ps ++ [l ++ r]).map V.str)) →
    H' dn = some (.dK (numD 0 (ps ++ [l ++ r]))) → H' dr = some (.dT (rankD 0 (rs ++ [(l, r)]))) → Q .non H'
theorem met_take_row (T : Tx K mg) : Met P w K mg base CX0 2 (TC K) "take_row" (spTakeRow K) := by
  have M_Table_take_piece := met_take_piece (P := P) (w := w) (base := base) T
  obtain ⟨fd, F⟩ := T.d_Table_take_row
  refine ⟨T.cl_Table, _, fd, P_Table_take_row, F.ok sc_Table_take_row (fun vs H Q E h => ?_) (fun cdv A outer s H vs Q E hr h => ?_), T.m_Table_take_row, F.bindsN (ps := P_Table_take_row) fun _ _ _ _ _ _ us hl => match us, hl with | [_, _], _ => rfl⟩
  · obtain ⟨x, dx, z, lr, lp, dn, dr, ps, as, rs, a, l, r, rfl, _⟩ := h
    rfl
  · obtain ⟨x, dx, z, lr, lp, dn, dr, ps, as, rs, a, l, r, rfl, hx, hlr, nrp, hlp, hdn, hdr, hl1, hl2, hl3, ha, hnew, hlen, hnr, k⟩ := h
    refine ⟨_, (PSs.nox (pss_cons (ps_asg (pv 1) (pg_tup rfl (pgs_cons (pg_name (i := 2) sc_Table_take_row.nd rfl (Or.inl rfl)) (pgs_cons (pg_name (i := 3) sc_Table_take_row.nd rfl (Or.inl rfl)) pgs_nil))))
      (pss_cons (ps_dput (hu_of hr) (pe_fld (pv 0) rfl) (pe_tup (pa_cons (pv 2) (pa_cons (pv 3) pa_nil))) (pe_callB (id := "len") call_len_seq (by rfl) T.n_len (by decide +kernel) (pa_cons (pe_fld (pv 0) rfl) pa_nil)) rfl)
      (pss_cons (ps_expr (pe_bm PySem.F.plainAttrs_list PySem.F.slot_list_append PySem.F.type_list_append mt_append (pe_fld (pv 0) rfl) (pa_cons (pe_tup (pa_cons (pv 2) (pa_cons (pv 3) pa_nil))) pa_nil)))
      (pss_one (ps_expr (pe_met M_Table_take_piece (pv 0) (by first | exact hr | exact hr.mono (by decide)) (pa_cons (pe_op op_add_str (pv 2) (pv 3)) pa_nil)))))))), ?_⟩
    have la := app_len l r
    have x1 : x ≠ lr := ne_of hx hlr (by intro q; cases q)
    have x2 : x ≠ lp := ne_of hx hlp (by intro q; cases q)
    have x3 : x ≠ dn := ne_of hx hdn (by intro q; cases q)
    have x4 : x ≠ dr := ne_of hx hdr (by intro q; cases q)
    have r1 : lr ≠ dn := ne_of hlr hdn (by intro q; cases q)
    have r2 : lr ≠ dr := ne_of hlr hdr (by intro q; cases q)
    have p1 : lp ≠ dn := ne_of hlp hdn (by intro q; cases q)
    have p2 : lp ≠ dr := ne_of hlp hdr (by intro q; cases q)
    have d1 : dn ≠ dr := ne_of hdn hdr (by intro q; cases q)
    refine ⟨_, rfl, a, _, rfl, SqT.of ha, rfl, _, _, rfl, _, _, rfl, rfl, ?_⟩
    refine ⟨_, rfl, x, _, dx, _, _, rfl, hx, T.cl_Table, T.no_Table_row_list, l5_rl _ _ _ _ _, _, _, rfl, .inl (SqL.of hlr), _, rfl, x, _, dx, _, _, rfl, hx, T.cl_Table, T.no_Table_rank_by_row, l5_rk _ _ _ _ _, ?_⟩
    refine ⟨_, rfl, _, rfl, (by show 2 ≤ sizeLine; decide), fun t ht => ?_⟩
    have tr : t ≠ dr := fun e => by rw [e, hdr] at ht; cases ht
    have s1 := Same.new (o := .tup [V.str l, V.str r]) ht
    refine ⟨dr, _, rfl, DPut.t (k := [Sum.inr l, Sum.inr r]) (s1 _ _ hdr) upd_same ?_, ?_⟩
    · rw [rankD_len]; exact szl (by omega)
    rw [putK_new _ (rankD_none 0 rs l r hnr), List.length_map, hl1]
    have e : rankD 0 rs ++ [([Sum.inr l, Sum.inr r], V.int ((rs.length : Nat) : Int))] = rankD 0 (rs ++ [(l, r)]) := by rw [rankD_snoc, Nat.zero_add]
    rw [e]
    refine ⟨_, rfl, x, _, dx, _, _, rfl, (by rw [upd_ne x4]; exact s1 _ _ hx), T.cl_Table, T.no_Table_row_list, l5_rl _ _ _ _ _, .inl ⟨rfl, _, SqL.of (by rw [upd_ne r2]; exact s1 _ _ hlr)⟩, _, rfl, _, rfl, (by show 2 ≤ sizeLine; decide), fun u hu => ?_⟩
    have hu1 : (upd H t (.tup [V.str l, V.str r])) u = none := by
      by_cases e1 : u = dr
      · rw [e1, upd_same] at hu; cases hu
      · rw [upd_ne e1] at hu; exact hu
    have huH : H u = none := s1.free hu1
    have ut : u ≠ t := fun e1 => by rw [e1, upd_same] at hu1; cases hu1
    have ur : u ≠ lr := fun e1 => by rw [e1, hlr] at huH; cases huH
    have up : u ≠ lp := fun e1 => by rw [e1, hlp] at huH; cases huH
    have un : u ≠ dn := fun e1 => by rw [e1, hdn] at huH; cases huH
    have ud : u ≠ dr := fun e1 => by rw [e1, hdr] at huH; cases huH
    have ux : u ≠ x := fun e1 => by rw [e1, hx] at huH; cases huH
    refine ⟨lr, _, _, rfl, rfl, (by rw [upd_ne (Ne.symm ur), upd_ne r2]; exact s1 _ _ hlr), ?_, ?_⟩
    · rw [List.length_map, hl1]; exact szl (by omega)
    have hx2 : (upd (upd (upd (upd H t (.tup [V.str l, V.str r])) dr (.dT (rankD 0 (rs ++ [(l, r)])))) u (.tup [V.str l, V.str r])) lr (.lst (as.map V.ref ++ [V.ref u]))) x = some (.ins (TC K) dx (tf5 z lr lp dn dr)) := by
      rw [upd_ne x1, upd_ne (Ne.symm ux), upd_ne x4]; exact s1 _ _ hx
    refine ⟨_, rfl, x, dx, _, rfl, hx2, l5_tp _ _ _ _ _, _, rfl, _, rfl, _, _, rfl, rfl, sz (by omega), x, dx, z, lr, lp, dn, dr, ps, l ++ r, rfl, hx2, ?_, ?_, hnew, hl3, ?_⟩
    · rw [upd_ne (Ne.symm nrp), upd_ne (Ne.symm up), upd_ne p2]; exact s1 _ _ hlp
    · rw [upd_ne (Ne.symm r1), upd_ne (Ne.symm un), upd_ne d1]; exact s1 _ _ hdn
    · refine k _ u (fun b o b1 b2 b3 b4 hb => ?_) huH ?_ ?_ upd_same ?_ ?_
      · have bu : b ≠ u := ne_of_none hb huH
        rw [upd_ne b2, upd_ne b3, upd_ne b1, upd_ne bu, upd_ne b4]; exact s1 _ _ hb
      · rw [upd_ne up, upd_ne un, upd_ne ur, upd_same]
      · rw [upd_ne nrp, upd_ne r1, upd_same, List.map_append]; rfl
      · rw [upd_ne (Ne.symm p1), upd_same]
      · rw [upd_ne (Ne.symm p2), upd_ne (Ne.symm d1), upd_ne (Ne.symm r2), upd_ne (Ne.symm ud), upd_same]
end
end Jr
namespace Jr
open PySem PySem.Spec PyProof.Rows L2
/-- a table that is being made -/
structure Mid (K : PySem.W.Frag) (H0 H : Hp) (x dx : Addr) (z : Str) (lr lp dn dr : Addr) (as : List Addr) (ps : List Str) (rs : Rws) : Prop where
  hx : H x = some (.ins (TC K) dx (tf5 z lr lp dn dr))
  hlr : H lr = some (.lst (as.map V.ref))
  hts : Paired (TupAt H) as rs
  hlp : H lp = some (.lst (ps.map V.str))
  hdn : H dn = some (.dK (numD 0 ps))
  hdr : H dr = some (.dT (rankD 0 rs))
  sm : Same H0 H
  fra : ∀ a ∈ as, H0 a = none
structure Fre (H0 : Hp) (x lr lp dn dr : Addr) : Prop where
  fx : H0 x = none
  flr : H0 lr = none
  flp : H0 lp = none
  fdn : H0 dn = none
  fdr : H0 dr = none
  rp : lr ≠ lp
theorem Mid.new {K : PySem.W.Frag} {H0 H : Hp} {x dx : Addr} {z : Str} {lr lp dn dr t : Addr} {as : List Addr} {ps : List Str} {rs : Rws} {o : HO} (M : Mid K H0 H x dx z lr lp dn dr as ps rs) (ht : H t = none) : Mid K H0 (upd H t o) x dx z lr lp dn dr as ps rs :=
  ⟨Same.new ht _ _ M.hx, Same.new ht _ _ M.hlr, TupAt.same (Same.new ht) M.hts, Same.new ht _ _ M.hlp, Same.new ht _ _ M.hdn, Same.new ht _ _ M.hdr, Same.put M.sm ht, M.fra⟩
theorem Mid.piece {K : PySem.W.Frag} {H0 H : Hp} {x dx : Addr} {z : Str} {lr lp dn dr : Addr} {as : List Addr} {ps : List Str} {rs : Rws} {p : Str} (F : Fre H0 x lr lp dn dr) (M : Mid K H0 H x dx z lr lp dn dr as ps rs) :
    Mid K H0 (upd (upd H dn (.dK (numD 0 (ps ++ [p])))) lp (.lst ((ps ++ [p]).map V.str))) x dx z lr lp dn dr as (ps ++ [p]) rs := by
  have x2 : x ≠ lp := ne_of M.hx M.hlp (by intro q; cases q)
  have x3 : x ≠ dn := ne_of M.hx M.hdn (by intro q; cases q)
  have r1 : lr ≠ dn := ne_of M.hlr M.hdn (by intro q; cases q)
  have p1 : lp ≠ dn := ne_of M.hlp M.hdn (by intro q; cases q)
  have p2 : lp ≠ dr := ne_of M.hlp M.hdr (by intro q; cases q)
  have d1 : dn ≠ dr := ne_of M.hdn M.hdr (by intro q; cases q)
  refine ⟨?_, ?_, ?_, upd_same, ?_, ?_, ?_, M.fra⟩
  · rw [upd_ne x2, upd_ne x3]; exact M.hx
  · rw [upd_ne F.rp, upd_ne r1]; exact M.hlr
  · refine L2.Paired.mapP M.hts fun b r hb => ?_
    show upd _ _ _ b = _
    have hb2 : H b = _ := hb
    have b1 : b ≠ lp := ne_of hb2 M.hlp (by intro q; cases q)
    have b2 : b ≠ dn := ne_of hb2 M.hdn (by intro q; cases q)
    rw [upd_ne b1, upd_ne b2]
    exact hb
  · rw [upd_ne (Ne.symm p1), upd_same]
  · rw [upd_ne (Ne.symm p2), upd_ne (Ne.symm d1)]; exact M.hdr
  · exact Same.mut (Same.mut M.sm F.fdn) F.flp
/-- a made table, all of it new behind H0 -/
def TabFr (C : Addr) (H0 H : Hp) (x : Addr) (z : Str) (rs : Rws) : Prop := ∃ (dx lr lp dn dr : Addr) (m : Nat) (as : List Addr), H x = some (.ins C dx (tf6 z lr lp dn dr (m : Int))) ∧ H lr = some (.lst (as.map V.ref)) ∧ Paired (TupAt H) as rs ∧ H lp = some (.lst ((pcs z rs).map V.str)) ∧ H dn = some (.dK (numD 0 (pcs z rs))) ∧ H dr = some (.dT (rankD 0 rs)) ∧
  (∃ p ∈ pcs z rs, p.length = m) ∧ (∀ p ∈ pcs z rs, p.length ≤ m) ∧ TabOk z rs ∧ H0 x = none ∧ H0 lr = none ∧ H0 lp = none ∧ H0 dn = none ∧ H0 dr = none ∧ ∀ a ∈ as, H0 a = none
theorem TabFr.tab {C : Addr} {H0 H : Hp} {x : Addr} {z : Str} {rs : Rws} (h : TabFr C H0 H x z rs) : TabAt C H x z rs := by
  obtain ⟨dx, lr, lp, dn, dr, m, as, h1, h2, h2', h3, h4, h5, h6, h7, ok, _⟩ := h
  exact ⟨⟨dx, lr, lp, dn, dr, m, h1, ⟨as, h2, h2'⟩, h3, h4, h5, h6, h7⟩, ok⟩
/-- what is done to objects that stood ahead leaves the table -/
theorem TabFr.keep {C : Addr} {H0 H H' : Hp} {x : Addr} {z : Str} {rs : Rws} (h : TabFr C H0 H x z rs) (k : ∀ b o, H0 b = none → H b = some o → H' b = some o) : TabFr C H0 H' x z rs := by
  obtain ⟨dx, lr, lp, dn, dr, m, as, h1, h2, h2', h3, h4, h5, h6, h7, ok, f1, f2, f3, f4, f5, f6⟩ := h
  refine ⟨dx, lr, lp, dn, dr, m, as, k _ _ f1 h1, k _ _ f2 h2, ?_, k _ _ f3 h3, k _ _ f4 h4, k _ _ f5 h5, h6, h7, ok, f1, f2, f3, f4, f5, f6⟩
  have key : ∀ {l : List Addr} {r : Rws}, Paired (TupAt H) l r → (∀ a ∈ l, H0 a = none) → Paired (TupAt H') l r := fun {l r} hp => by
    induction hp with
    | nil => intro _; exact .nil
    | cons q _ ih => intro hf; exact .cons (k _ _ (hf _ List.mem_cons_self) q) (ih fun a ha => hf a (List.mem_cons_of_mem _ ha))
  exact key h2' f6
theorem TabFr.same {C : Addr} {H0 H H' : Hp} {x : Addr} {z : Str} {rs : Rws} (h : TabFr C H0 H x z rs) (s : Same H H') : TabFr C H0 H' x z rs := h.keep fun b o _ e => s b o e
def spTInit2 (K : PySem.W.Frag) : Sp := fun vs H Q _ => ∃ (H0 : Hp) (x dx pr : Addr) (z : Str) (rs : Rws), vs = [.ref x, .str z, .ref pr] ∧ H = upd (upd H0 dx (.own x)) x (.ins (TC K) dx []) ∧ H0 x = none ∧ H0 dx = none ∧ dx ≠ x ∧ RowsAt H0 pr rs ∧ TabOk z rs ∧
  ∀ H', Same H0 H' → TabFr (TC K) H0 H' x z rs → Q .non H'
def spTInit (K : PySem.W.Frag) : Sp := fun vs H Q _ => ∃ (H0 : Hp) (x dx pr : Addr) (z : Str) (rs : Rws), vs = [.ref x, .str z, .ref pr] ∧ H = upd (upd H0 dx (.own x)) x (.ins (TC K) dx []) ∧ H0 x = none ∧ H0 dx = none ∧ dx ≠ x ∧ RowsAt H0 pr rs ∧ TabOk z rs ∧
  ∀ H', Same H0 H' → TabAt (TC K) H' x z rs → Q .non H'
theorem list_max : ∀ (l : List Str), l ≠ [] → ∃ p ∈ l, ∀ q ∈ l, q.length ≤ p.length
  | [], h => absurd rfl h
  | [a], _ => ⟨a, List.mem_cons_self, fun q hq => by rw [List.mem_singleton.mp hq]; exact Nat.le_refl _⟩
  | a :: b :: l, _ => by
    obtain ⟨p, hp, hm⟩ := list_max (b :: l) (by simp)
    by_cases h : p.length ≤ a.length
    · exact ⟨a, List.mem_cons_self, fun q hq => by
        rcases List.mem_cons.mp hq with e | e
        · rw [e]; exact Nat.le_refl _
        · exact Nat.le_trans (hm q e) h⟩
    · exact ⟨p, List.mem_cons_of_mem _ hp, fun q hq => by
        rcases List.mem_cons.mp hq with e | e
        · rw [e]; omega
        · exact hm q e⟩
section
variable {P : Program} {w : World} {K : PySem.W.Frag} {mg : Str → Option Value} {base : Heap}
theorem mkc_Table2 (T : Tx K mg) : Mkc P w K mg base CX0 3 "Table" (TC K) (spTInit2 K) := by
  have C_check_signs := cal_check_signs (P := P) (w := w) (base := base) T
  have M_Table_take_piece := met_take_piece (P := P) (w := w) (base := base) T
  have M_Table_may_take_row := met_may_take_row (P := P) (w := w) (base := base) T
  have M_Table_take_row := met_take_row (P := P) (w := w) (base := base) T
  obtain ⟨fd, F⟩ := T.d_Table___init__
  refine ⟨⟨_, fd, P_Table___init__, F.ok sc_Table___init__ (fun vs H Q E h => ?_) (fun cdv A outer s H vs Q E hr h => ?_), T.mk_Table, F.bindsN (ps := P_Table___init__) fun _ _ _ _ _ _ us hl => match us, hl with | [_, _, _], _ => rfl⟩, T.g_Table⟩
  · obtain ⟨H0, x, dx, pr, z, rs, rfl, _⟩ := h
    rfl
  · obtain ⟨H0, x, dx, pr, z, rs, rfl, rfl, x0, dx0, ndx, ⟨as0, hpr, hts0⟩, tk, k⟩ := h
    refine ⟨_, (PSs.nox (pss_cons (ps_expr (pe_cal C_check_signs (by first | exact hr | exact hr.mono (by decide)) (by rfl) (pa_cons (pv 1) pa_nil)))
      (pss_cons (ps_if (PW.pt (pw_or (pt_not (pt_val (pe_callB (id := "isinstance") call_isi (by rfl) T.n_isinstance (by decide +kernel) (pa_cons (pv 2) (pa_cons (pe_bltn (v := .ty "list") (by rfl) T.n_list (by decide +kernel) rfl) pa_nil))))) (pw_or1 (pt_cmpR op_gt (pe_callB (id := "len") call_len_seq (by rfl) T.n_len (by decide +kernel) (pa_cons (pv 2) pa_nil)) (pe_glob (v := .int 24) (by rfl) T.c_MOST_ROWS.choose_spec ⟨_, rfl⟩) (nomark _))))) (pss_one ps_never) pss_nil)
      (pss_cons (ps_fld (pv 0) (pv 1) rfl)
      (pss_cons (ps_fld (pv 0) (pe_lst pa_nil) rfl)
      (pss_cons (ps_fld (pv 0) (pe_lst pa_nil) rfl)
      (pss_cons (ps_fld (pv 0) pe_dnewK rfl)
      (pss_cons (ps_fld (pv 0) pe_dnewT rfl)
      (pss_cons (ps_for PassesOwn.never rfl (pi_str (pv 1)) (pg_name (i := 3) sc_Table___init__.nd rfl (Or.inl rfl)) (pss_one (ps_expr (pe_met M_Table_take_piece (pv 0) (by first | exact hr | exact hr.mono (by decide)) (pa_cons (pv 3) pa_nil)))))
      (pss_cons (ps_for PassesOwn.never rfl (pi_enum (by rfl) T.n_enumerate (pa_cons (pv 2) pa_nil)) (pg_tup rfl (pgs_cons (pg_name (i := 4) sc_Table___init__.nd rfl (Or.inl rfl)) (pgs_cons (pg_name (i := 5) sc_Table___init__.nd rfl (Or.inl rfl)) pgs_nil))) (pss_cons (ps_if (pt_not (pt_val (pe_met M_Table_may_take_row (pv 0) (by first | exact hr | exact hr.mono (by decide)) (pa_cons (pv 5) pa_nil)))) (pss_one ps_never) pss_nil)
      (pss_one (ps_expr (pe_met M_Table_take_row (pv 0) (by first | exact hr | exact hr.mono (by decide)) (pa_cons (pv 5) pa_nil))))))
      (pss_one (ps_fld (pv 0) (pe_callB (id := "max") (cr_max rfl) (by rfl) T.n_max (by decide +kernel) (pa_cons (pe_lc (own := [("piece", 6)]) (g := gName 6) (by rfl) sc_Table___init__.nd (pi_list (pe_fld (pv 0) rfl)) (blkOk_by (own := [("piece", 6)]) (N := N_Table___init__) (sc := defScope s_Table___init__) (by decide +kernel)) (fun _ _ _ _ _ => (pg_name (i := 6) sc_Table___init__.nd rfl (Or.inl rfl))) (fun _ _ _ _ _ => pts_nil) (fun _ _ _ _ _ => (pe_callB (id := "len") call_len_str (by rfl) T.n_len (by decide +kernel) (pa_cons (pv 6) pa_nil)))) pa_nil)) rfl)))))))))))), ?_⟩
    have n12 := tk.n12
    have n1 := tk.n1
    have many := tk.many
    have s00 : Same H0 (upd (upd H0 dx (.own x)) x (.ins (TC K) dx [])) := Same.mut (Same.new dx0) x0
    refine ⟨_, rfl, z, rfl, tk.sg, tk.n1, tk.n12, fun H1 s1 => ?_⟩
    have hx1 : H1 x = some (.ins (TC K) dx []) := s1 _ _ upd_same
    have s01 := s00.trans s1
    have hpr1 : H1 pr = some (.lst (as0.map V.ref)) := s01 _ _ hpr
    refine ⟨_, rfl, _, _, _, _, _, rfl, .ty "list", .base (.lst hpr1), isLst, _, rfl, iteF ⟨_, rfl, _, _, rfl, .inl (SqL.of hpr1), _, _, rfl, rfl, _, rfl, ?_⟩⟩
    rw [decide_eq_false (show ¬ (24 : Int) < ((as0.map V.ref).length : Nat) by rw [List.length_map, Paired.len hts0]; omega)]
    refine iteF ⟨_, rfl, _, rfl, x, _, dx, _, rfl, hx1, T.cl_Table, T.no_Table_sign_text, (by show 0 < 1000; decide), ?_⟩
    have s02 := Same.mut (o := .ins (TC K) dx (putF "sign_text" (.str z) [])) s01 x0
    refine ⟨Nat.zero_le _, fun lr hlr => ⟨_, rfl, x, _, dx, _, rfl, Same.new hlr _ _ upd_same, T.cl_Table, T.no_Table_row_list, (by show 1 < 1000; decide), ?_⟩⟩
    have s03 := Same.mut (o := .ins (TC K) dx (putF "row_list" (.ref lr) (putF "sign_text" (.str z) []))) (Same.put (o := .lst []) s02 hlr) x0
    refine ⟨Nat.zero_le _, fun lp hlp => ⟨_, rfl, x, _, dx, _, rfl, Same.new hlp _ _ upd_same, T.cl_Table, T.no_Table_piece_list, (by show 2 < 1000; decide), ?_⟩⟩
    have s04 := Same.mut (o := .ins (TC K) dx (putF "piece_list" (.ref lp) (putF "row_list" (.ref lr) (putF "sign_text" (.str z) [])))) (Same.put (o := .lst []) s03 hlp) x0
    intro dn hdn
    refine ⟨_, rfl, x, _, dx, _, rfl, Same.new hdn _ _ upd_same, T.cl_Table, T.no_Table_number_by_piece, (by show 3 < 1000; decide), ?_⟩
    have s05 := Same.mut (o := .ins (TC K) dx (putF "number_by_piece" (.ref dn) (putF "piece_list" (.ref lp) (putF "row_list" (.ref lr) (putF "sign_text" (.str z) []))))) (Same.put (o := .dK []) s04 hdn) x0
    intro dr hdr
    refine ⟨_, rfl, x, _, dx, _, rfl, Same.new hdr _ _ upd_same, T.cl_Table, T.no_Table_rank_by_row, (by show 4 < 1000; decide), ?_⟩
    rw [l5_put]
    have s06 := Same.mut (o := .ins (TC K) dx (tf5 z lr lp dn dr)) (Same.put (o := .dT []) s05 hdr) x0
    have fr : Fre H0 x lr lp dn dr := ⟨x0, s02.free hlr, s03.free hlp, s04.free hdn, s05.free hdr, fun e => by
      rw [← e] at hlp
      have xl : lr ≠ x := fun e2 => by rw [e2, upd_same] at hlr; cases hlr
      rw [upd_ne xl, upd_same] at hlp
      cases hlp⟩
    have xlr : lr ≠ x := fun e2 => by rw [e2, upd_same] at hlr; cases hlr
    have xlp : lp ≠ x := fun e2 => by rw [e2, upd_same] at hlp; cases hlp
    have xdn : dn ≠ x := fun e2 => by rw [e2, upd_same] at hdn; cases hdn
    have xdr : dr ≠ x := fun e2 => by rw [e2, upd_same] at hdr; cases hdr
    have q1 := hlp
    have q2 := hdn
    have q3 := hdr
    have a1 : lr ≠ dn := fun e => by
      rw [← e, upd_ne xlr, upd_ne fr.rp, upd_ne xlr, upd_same] at q2; cases q2
    have a2 : lp ≠ dn := fun e => by
      rw [← e, upd_ne xlp, upd_same] at q2; cases q2
    have a3 : lr ≠ dr := fun e => by
      rw [← e, upd_ne xlr, upd_ne a1, upd_ne xlr, upd_ne fr.rp, upd_ne xlr, upd_same] at q3; cases q3
    have a4 : lp ≠ dr := fun e => by
      rw [← e, upd_ne xlp, upd_ne a2, upd_ne xlp, upd_same] at q3; cases q3
    have a5 : dn ≠ dr := fun e => by
      rw [← e, upd_ne xdn, upd_same] at q3; cases q3
    have mid0 : Mid K H0 (upd (upd (upd (upd (upd (upd (upd (upd (upd H1 x (.ins (TC K) dx (putF "sign_text" (.str z) []))) lr (.lst [])) x (.ins (TC K) dx (putF "row_list" (.ref lr) (putF "sign_text" (.str z) [])))) lp (.lst [])) x (.ins (TC K) dx (putF "piece_list" (.ref lp) (putF "row_list" (.ref lr) (putF "sign_text" (.str z) []))))) dn (.dK [])) x (.ins (TC K) dx (putF "number_by_piece" (.ref dn) (putF "piece_list" (.ref lp) (putF "row_list" (.ref lr) (putF "sign_text" (.str z) [])))))) dr (.dT [])) x (.ins (TC K) dx (tf5 z lr lp dn dr))) x dx z lr lp dn dr [] [] [] := by
      refine ⟨upd_same, ?_, .nil, ?_, ?_, ?_, s06, fun a ha => by cases ha⟩
      · rw [upd_ne xlr, upd_ne a3, upd_ne xlr, upd_ne a1, upd_ne xlr, upd_ne fr.rp, upd_ne xlr, upd_same]; rfl
      · rw [upd_ne xlp, upd_ne a4, upd_ne xlp, upd_ne a2, upd_ne xlp, upd_same]; rfl
      · rw [upd_ne xdn, upd_ne a5, upd_ne xdn, upd_same]; rfl
      · rw [upd_ne xdr, upd_same]; rfl
    revert mid0
    generalize (upd (upd (upd (upd (upd (upd (upd (upd (upd H1 x (.ins (TC K) dx (putF "sign_text" (.str z) []))) lr (.lst [])) x (.ins (TC K) dx (putF "row_list" (.ref lr) (putF "sign_text" (.str z) [])))) lp (.lst [])) x (.ins (TC K) dx (putF "piece_list" (.ref lp) (putF "row_list" (.ref lr) (putF "sign_text" (.str z) []))))) dn (.dK [])) x (.ins (TC K) dx (putF "number_by_piece" (.ref dn) (putF "piece_list" (.ref lp) (putF "row_list" (.ref lr) (putF "sign_text" (.str z) [])))))) dr (.dT [])) x (.ins (TC K) dx (tf5 z lr lp dn dr))) = H6
    intro mid0
    refine ⟨_, rfl, z, rfl, for_str (x := z) (fun i σ H' => ∃ u, σ = [some (.ref x), some (.str z), some (.ref pr), u, none, none, none] ∧ Mid K H0 H' x dx z lr lp dn dr [] ((sgs z).take i) []) ⟨none, rfl, mid0⟩ ?_ ?_⟩
    · rintro i c σ H' hi ⟨u, rfl, M⟩
      have hsg : (sgs z)[i]? = some (sgn c) := by unfold sgs; rw [List.getElem?_map, hi]; rfl
      have hnew : ¬ sgn c ∈ (sgs z).take i := fun hm => by
        have nd := sgs_nodup tk.sg.nd
        rw [← List.take_append_drop i (sgs z), List.nodup_append] at nd
        refine nd.2.2 _ hm (sgn c) (List.mem_of_getElem? (i := 0) ?_) rfl
        rw [List.getElem?_drop]; exact hsg
      refine ⟨_, rfl, x, dx, _, rfl, M.hx, l5_tp _ _ _ _ _, _, rfl, x, dx, z, lr, lp, dn, dr, (sgs z).take i, sgn c, rfl, M.hx, M.hlp, M.hdn, hnew, ?_, ?_⟩
      · rw [List.length_take]; have := sgs_len z; omega
      · refine ⟨_, rfl, ?_⟩
        have e : (sgs z).take (i + 1) = (sgs z).take i ++ [sgn c] := by rw [List.take_add_one, hsg]; rfl
        rw [e]
        exact M.piece fr
    · rintro σ H' ⟨u, rfl, M⟩
      have e0 : (sgs z).take z.cps.toList.length = sgs z := by
        rw [List.take_of_length_le]; unfold sgs; rw [List.length_map]; exact Nat.le_refl _
      rw [e0] at M
      have ep : sgs z = pcs z [] := by unfold pcs; rw [List.map_nil, List.append_nil]
      rw [ep] at M
      refine ⟨_, rfl, pr, _, rfl, SqL.of (M.sm _ _ hpr), for_enum (K := K) (a := pr) (xs := as0.map V.ref) (fun i σ H' => ∃ (u v y : Option V) (as : List Addr), σ = [some (.ref x), some (.str z), some (.ref pr), u, v, y, none] ∧ Mid K H0 H' x dx z lr lp dn dr as (pcs z (rs.take i)) (rs.take i))
        ⟨u, none, none, [], rfl, M⟩ (fun i σ H' _ ⟨_, _, _, _, _, M⟩ => SqL.of (M.sm _ _ hpr)) ?_ ?_⟩
      · rintro i y t σ H' hi ht ⟨u, v, y', as, rfl, M0⟩
        have M := M0.new (o := .tup [.int (i : Nat), y]) ht
        rw [List.getElem?_map] at hi
        cases ea : as0[i]? with
        | none => rw [ea] at hi; cases hi
        | some a =>
          rw [ea] at hi
          cases hi
          obtain ⟨r, hri, hta⟩ := Paired.get hts0 ea
          obtain ⟨l, r⟩ := r
          have ro := tk.rows i _ hri
          have ha : upd H' t (.tup [.int (i : Nat), .ref a]) a = some (.tup [.str l, .str r]) := M.sm _ _ hta
          have tki := tk.take i
          have pln : (pcs z (rs.take i)).length ≤ 1000 := by rw [pcs_len, List.length_take]; omega
          refine ⟨t, _, rfl, SqT.of upd_same, rfl, _, _, rfl, _, _, rfl, rfl, ?_⟩
          refine ⟨_, rfl, x, dx, _, rfl, M.hx, l5_mt _ _ _ _ _, _, rfl, x, dx, z, lr, lp, dn, dr, pcs z (rs.take i), a, l, r, rfl, M.hx, M.hdn, tki.nodup, ha, ro.lm, ro.rm, ro.len, ro.new, _, rfl, iteF ?_⟩
          have hnr : ¬ (l, r) ∈ rs.take i := fun hm => ro.new (by unfold pcs; exact List.mem_append_right _ (List.mem_map.mpr ⟨_, hm, rfl⟩))
          have rlen : (rs.take i).length ≤ 1000 := by rw [List.length_take]; omega
          refine ⟨_, rfl, x, dx, _, rfl, M.hx, l5_tr _ _ _ _ _, _, rfl, x, dx, z, lr, lp, dn, dr, pcs z (rs.take i), as, rs.take i, a, l, r, rfl, M.hx, M.hlr, fr.rp, M.hlp, M.hdn, M.hdr, Paired.len M.hts, rlen, pln, ha, ro.new, Nat.le_trans ro.len (by decide), hnr, ?_⟩
          intro H7 t7 keep ht7 h7t h7r h7p h7n h7d
          have x1 : x ≠ lr := ne_of M.hx M.hlr (by intro q; cases q)
          have x2 : x ≠ lp := ne_of M.hx M.hlp (by intro q; cases q)
          have x3 : x ≠ dn := ne_of M.hx M.hdn (by intro q; cases q)
          have x4 : x ≠ dr := ne_of M.hx M.hdr (by intro q; cases q)
          have et : rs.take (i + 1) = rs.take i ++ [(l, r)] := by rw [List.take_add_one, hri]; rfl
          refine ⟨_, _, _, as ++ [t7], rfl, ?_⟩
          rw [et, pcs_snoc]
          refine ⟨keep _ _ x1 x2 x3 x4 M.hx, h7r, Paired.snoc (L2.Paired.mapP M.hts fun b q hb => ?_) h7t, h7p, h7n, h7d, fun b o hb => ?_, fun b hb => ?_⟩
          · have hb2 : upd H' t (.tup [.int (i : Nat), .ref a]) b = _ := hb
            exact keep _ _ (ne_of hb2 M.hlr (by intro q; cases q)) (ne_of hb2 M.hlp (by intro q; cases q)) (ne_of hb2 M.hdn (by intro q; cases q)) (ne_of hb2 M.hdr (by intro q; cases q)) hb2
          · exact keep _ _ (ne_of_none hb fr.flr) (ne_of_none hb fr.flp) (ne_of_none hb fr.fdn) (ne_of_none hb fr.fdr) (M.sm _ _ hb)
          · rcases List.mem_append.mp hb with hb | hb
            · exact M.fra b hb
            · rw [List.mem_singleton.mp hb]; exact M.sm.free ht7
      · rintro σ H' ⟨u, v, y, as, rfl, M⟩
        have e1 : rs.take (as0.map V.ref).length = rs := by rw [List.length_map, Paired.len hts0, List.take_length]
        rw [e1] at M
        refine ⟨_, rfl, x, _, dx, _, _, rfl, M.hx, T.cl_Table, T.no_Table_piece_list, l5_pl _ _ _ _ _, lp, rfl, ⟨_, SqL.of M.hlp⟩, fun D hD => lc_listM (K := K) (item := V.str) (p := fun _ => true) (f := fun q => V.int (q.length : Nat)) (l := pcs z rs) (SqL.of M.hlp) hD ?_ (fun q hq H2 _ N Mm hM _ => ?_) (fun H2 s2 hL => ?_)⟩
        · rw [pcs_len]; omega
        · exact ⟨rfl, _, rfl, _, rfl, sz (by have := (tk.plen hq).2; omega), hM rfl⟩
        · have ef : (pcs z rs).filter (fun _ => true) = pcs z rs := List.filter_eq_self.mpr fun _ _ => rfl
          rw [ef] at hL
          obtain ⟨p, hp, hmx⟩ := list_max (pcs z rs) (fun e => by have := congrArg List.length e; rw [pcs_len] at this; simp at this; omega)
          refine ⟨D, (pcs z rs).map fun q => ((q.length : Nat) : Int), rfl, SqL.of ?_, ?_, ?_⟩
          · rw [hL, List.map_map]; rfl
          · rw [List.length_map, pcs_len]; omega
          · intro m hm hmm
            obtain ⟨pm, hpm, rfl⟩ := List.mem_map.mp hm
            have M2hx := s2 _ _ M.hx
            refine ⟨_, rfl, x, _, dx, _, rfl, M2hx, T.cl_Table, T.no_Table_most_signs, (by show 5 < 1000; decide), ?_⟩
            rw [l5_most]
            have x1 : x ≠ lr := ne_of M.hx M.hlr (by intro q; cases q)
            have x2 : x ≠ lp := ne_of M.hx M.hlp (by intro q; cases q)
            have x3 : x ≠ dn := ne_of M.hx M.hdn (by intro q; cases q)
            have x4 : x ≠ dr := ne_of M.hx M.hdr (by intro q; cases q)
            refine k _ (Same.mut (M.sm.trans s2) x0) ⟨dx, lr, lp, dn, dr, pm.length, as, upd_same, ?_, ?_, ?_, ?_, ?_, ⟨pm, hpm, rfl⟩, fun q hq => ?_, tk, fr.fx, fr.flr, fr.flp, fr.fdn, fr.fdr, M.fra⟩
            · rw [upd_ne (Ne.symm x1)]; exact s2 _ _ M.hlr
            · refine L2.Paired.mapP M.hts fun b q hb => ?_
              have hb2 : H' b = _ := hb
              show upd H2 x _ b = _
              rw [upd_ne (ne_of hb2 M.hx (by intro q; cases q))]
              exact s2 _ _ hb2
            · rw [upd_ne (Ne.symm x2)]; exact s2 _ _ M.hlp
            · rw [upd_ne (Ne.symm x3)]; exact s2 _ _ M.hdn
            · rw [upd_ne (Ne.symm x4)]; exact s2 _ _ M.hdr
            · have := hmm _ (List.mem_map.mpr ⟨q, hq, rfl⟩)
              omega
theorem mkc_Table (T : Tx K mg) : Mkc P w K mg base CX0 3 "Table" (TC K) (spTInit K) := by
  obtain ⟨⟨f, fd, ps, G, mk, b⟩, g⟩ := mkc_Table2 (P := P) (w := w) (base := base) T
  refine ⟨⟨f, fd, ps, G.imp fun vs H Q E h => ?_, mk, b⟩, g⟩
  obtain ⟨H0, x, dx, pr, z, rs, e1, e2, e3, e4, e5, e6, e7, k⟩ := h
  exact ⟨H0, x, dx, pr, z, rs, e1, e2, e3, e4, e5, e6, e7, fun H' s t => k H' s t.tab⟩
end
end Jr
namespace Jr
open PySem PySem.Spec PyProof.Rows L2
/-! ### what a made table tells -/
def spTSigns (K : PySem.W.Frag) : Sp := fun vs H Q _ => ∃ (x : Addr) (z : Str) (rs : Rws), vs = [.ref x] ∧ TabAt (TC K) H x z rs ∧ Q (.str z) H
def spTRows (K : PySem.W.Frag) : Sp := fun vs H Q _ => ∃ (x : Addr) (z : Str) (rs : Rws), vs = [.ref x] ∧ TabAt (TC K) H x z rs ∧ ∀ H' p, Same H H' → H p = none → RowsAt H' p rs → Q (.ref p) H'
def spTPieces (K : PySem.W.Frag) : Sp := fun vs H Q _ => ∃ (x : Addr) (z : Str) (rs : Rws), vs = [.ref x] ∧ TabAt (TC K) H x z rs ∧ ∀ H' p, Same H H' → H p = none → H' p = some (.lst ((pcs z rs).map V.str)) → Q (.ref p) H'
section
variable {P : Program} {w : World} {K : PySem.W.Frag} {mg : Str → Option Value} {base : Heap}
theorem met_signs (T : Tx K mg) : Met P w K mg base CX0 1 (TC K) "signs" (spTSigns K) := by
  obtain ⟨fd, F⟩ := T.d_Table_signs
  refine ⟨T.cl_Table, _, fd, P_Table_signs, F.ok sc_Table_signs (fun vs H Q E h => ?_) (fun cdv A outer s H vs Q E hr h => ?_), T.m_Table_signs, F.bindsN (ps := P_Table_signs) fun _ _ _ _ _ _ us hl => match us, hl with | [_], _ => rfl⟩
  · obtain ⟨x, z, rs, rfl, _⟩ := h
    rfl
  · obtain ⟨x, z, rs, rfl, ta, k⟩ := h
    obtain ⟨dx, lr, lp, dn, dr, m, h1, _⟩ := ta.ex
    refine ⟨_, (PSs.nox (pss_one (ps_ret (pe_fld (pv 0) rfl)))), ?_⟩
    exact ⟨_, rfl, x, _, dx, _, _, rfl, h1, T.cl_Table, T.no_Table_sign_text, l6_st _ _ _ _ _ _, k⟩
theorem met_rows (T : Tx K mg) : Met P w K mg base CX0 1 (TC K) "rows" (spTRows K) := by
  obtain ⟨fd, F⟩ := T.d_Table_rows
  refine ⟨T.cl_Table, _, fd, P_Table_rows, F.ok sc_Table_rows (fun vs H Q E h => ?_) (fun cdv A outer s H vs Q E hr h => ?_), T.m_Table_rows, F.bindsN (ps := P_Table_rows) fun _ _ _ _ _ _ us hl => match us, hl with | [_], _ => rfl⟩
  · obtain ⟨x, z, rs, rfl, _⟩ := h
    rfl
  · obtain ⟨x, z, rs, rfl, ta, k⟩ := h
    obtain ⟨dx, lr, lp, dn, dr, m, h1, ⟨as, h2, h2'⟩, _⟩ := ta.ex
    refine ⟨_, (PSs.nox (pss_one (ps_ret (pe_callTy (T := "list") call_list_of (by rfl) T.n_list (by decide +kernel) (pa_cons (pe_fld (pv 0) rfl) pa_nil))))), ?_⟩
    exact ⟨_, rfl, x, _, dx, _, _, rfl, h1, T.cl_Table, T.no_Table_row_list, l6_rl _ _ _ _ _ _, lr, _, rfl, .inl (SqL.of h2), fun l hl => k _ l (Same.new hl) hl ⟨as, upd_same, TupAt.same (Same.new hl) h2'⟩⟩
end
end Jr
namespace Jr
open PySem PySem.Spec PyProof.Rows L2
section
variable {P : Program} {w : World} {K : PySem.W.Frag} {mg : Str → Option Value} {base : Heap}
/-- of a row of pieces: None -/
def spFirstNo (K : PySem.W.Frag) : Sp := fun vs H Q _ => ∃ (x a : Addr) (z : Str) (rs : Rws) (xs : List Str), vs = [.ref x, .ref a] ∧ TabAt (TC K) H x z rs ∧ SqL K H a (xs.map V.str) ∧ (∀ p ∈ xs, p ∈ pcs z rs) ∧ ∀ H', Same H H' → Q .non H'
theorem cal_first_no_piece (T : Tx K mg) : Cal P w K mg base CX0 2 "first_no_piece" (spFirstNo K) := by
  have M_Table_which := met_which (P := P) (w := w) (base := base) T
  obtain ⟨fd, F⟩ := T.d_first_no_piece
  refine ⟨_, fd, P_first_no_piece, F.ok sc_first_no_piece (fun vs H Q E h => ?_) (fun cdv A outer s H vs Q E hr h => ?_), T.g_first_no_piece, F.kp, F.bindsN (ps := P_first_no_piece) fun _ _ _ _ _ _ us hl => match us, hl with | [_, _], _ => rfl⟩
  · obtain ⟨x, a, z, rs, xs, rfl, _⟩ := h
    rfl
  · obtain ⟨x, a, z, rs, xs, rfl, ta, hS, hin, k⟩ := h
    refine ⟨_, (PSs.nox (pss_cons (ps_for PassesOwn.never rfl (pi_enum (by rfl) T.n_enumerate (pa_cons (pv 1) pa_nil)) (pg_tup rfl (pgs_cons (pg_name (i := 2) sc_first_no_piece.nd rfl (Or.inl rfl)) (pgs_cons (pg_name (i := 3) sc_first_no_piece.nd rfl (Or.inl rfl)) pgs_nil))) (pss_one (ps_if (pt_cmpR op_isN (pe_met M_Table_which (pv 0) (by first | exact hr | exact hr.mono (by decide)) (pa_cons (pv 3) pa_nil)) pe_non (nomark _)) (pss_one (ps_ret (pv 2))) pss_nil)))
      (pss_one (ps_ret pe_non)))), ?_⟩
    refine ⟨_, rfl, a, _, rfl, hS, for_enum (K := K) (a := a) (xs := xs.map V.str) (fun i σ H' => ∃ (u v : Option V), σ = [some (.ref x), some (.ref a), u, v] ∧ Same H H')
      ⟨none, none, rfl, Same.refl _⟩ (fun i σ H' _ ⟨_, _, _, s⟩ => s.seq hS) ?_ (fun σ H' ⟨_, _, _, s⟩ => k _ s)⟩
    rintro i y e σ H' hi he ⟨u, v, rfl, sm⟩
    rw [List.getElem?_map] at hi
    cases ed : xs[i]? with
    | none => rw [ed] at hi; cases hi
    | some p =>
      rw [ed] at hi
      cases hi
      have hp := hin p (List.mem_of_getElem? ed)
      have sm1 := Same.put (o := .tup [.int (i : Nat), .str p]) sm he
      refine ⟨e, _, rfl, SqT.of upd_same, rfl, _, _, rfl, _, _, rfl, rfl, ?_⟩
      revert sm1
      generalize (upd H' e (.tup [.int (i : Nat), .str p])) = H5
      intro sm1
      have ta5 := ta.same sm1
      obtain ⟨dx, lr, lp, dn, dr, m, h1, _, _, h4, _⟩ := ta5.ex
      obtain ⟨j, _, ei⟩ := num_some ta.ok.nodup hp
      refine ⟨_, rfl, x, dx, _, rfl, h1, l6_mw _ _ _ _ _ _, _, rfl, x, dx, _, dn, _, _, rfl, h1, l6_num _ _ _ _ _ _, h4, .inl ⟨p, rfl, ?_⟩⟩
      rw [ei]
      exact ⟨rfl, _, rfl, iteF ⟨_, _, rfl, sm1⟩⟩
end
end Jr
namespace Jr
open PySem PySem.Spec PyProof.Rows L2
section
variable {P : Program} {w : World} {K : PySem.W.Frag} {mg : Str → Option Value} {base : Heap}
def spFirstNo3 (K : PySem.W.Frag) : Sp := fun vs H Q _ => ∃ (x a : Addr) (z : Str) (rs : Rws) (us : List V) (i : Nat), vs = [.ref x, .ref a] ∧ TabAt (TC K) H x z rs ∧ SqL K H a us ∧ FirstPc K H z rs us i ∧ ∀ H', Same H H' → Q (.int (i : Nat)) H'
theorem cal_first_no3 (T : Tx K mg) : Cal P w K mg base CX0 2 "first_no_piece" (spFirstNo3 K) := by
  have M_Table_which := met_which (P := P) (w := w) (base := base) T
  obtain ⟨fd, F⟩ := T.d_first_no_piece
  refine ⟨_, fd, P_first_no_piece, F.ok sc_first_no_piece (fun vs H Q E h => ?_) (fun cdv A outer s H vs Q E hr h => ?_), T.g_first_no_piece, F.kp, F.bindsN (ps := P_first_no_piece) fun _ _ _ _ _ _ us hl => match us, hl with | [_, _], _ => rfl⟩
  · obtain ⟨x, a, z, rs, us, i, rfl, _⟩ := h
    rfl
  · obtain ⟨x, a, z, rs, us, i0, rfl, ta, hS, fp, k⟩ := h
    refine ⟨_, (PSs.nox (pss_cons (ps_for PassesOwn.never rfl (pi_enum (by rfl) T.n_enumerate (pa_cons (pv 1) pa_nil)) (pg_tup rfl (pgs_cons (pg_name (i := 2) sc_first_no_piece.nd rfl (Or.inl rfl)) (pgs_cons (pg_name (i := 3) sc_first_no_piece.nd rfl (Or.inl rfl)) pgs_nil))) (pss_one (ps_if (pt_cmpR op_isN (pe_met M_Table_which (pv 0) (by first | exact hr | exact hr.mono (by decide)) (pa_cons (pv 3) pa_nil)) pe_non (nomark _)) (pss_one (ps_ret (pv 2))) pss_nil)))
      (pss_one (ps_ret pe_non)))), ?_⟩
    obtain ⟨v0, hv0, np0⟩ := fp.bad
    refine ⟨_, rfl, a, _, rfl, hS, for_enum (K := K) (a := a) (xs := us) (fun i σ H' => ∃ (u v : Option V), σ = [some (.ref x), some (.ref a), u, v] ∧ Same H H' ∧ i ≤ i0)
      ⟨none, none, rfl, Same.refl _, Nat.zero_le _⟩ (fun i σ H' _ ⟨_, _, _, s, _⟩ => s.seq hS) ?_ (fun σ H' ⟨_, _, _, _, l⟩ => absurd fp.lt (by omega))⟩
    rintro i y e σ H' hi he ⟨u, v, rfl, sm, il⟩
    have sm1 := Same.put (o := .tup [.int (i : Nat), y]) sm he
    refine ⟨e, _, rfl, SqT.of upd_same, rfl, _, _, rfl, _, _, rfl, rfl, ?_⟩
    revert sm1
    generalize (upd H' e (.tup [.int (i : Nat), y])) = H5
    intro sm1
    have ta5 := ta.same sm1
    obtain ⟨dx, lr, lp, dn, dr, m, h1, _, _, h4, _⟩ := ta5.ex
    refine ⟨_, rfl, x, dx, _, rfl, h1, l6_mw _ _ _ _ _ _, _, rfl, x, dx, _, dn, _, _, rfl, h1, l6_num _ _ _ _ _ _, h4, ?_⟩
    by_cases c : i < i0
    · obtain ⟨p, hp, rfl⟩ := fp.good i y c hi
      refine .inl ⟨p, rfl, ?_⟩
      obtain ⟨j, _, ei⟩ := num_some ta.ok.nodup hp
      rw [ei]
      exact ⟨rfl, _, rfl, iteF ⟨_, _, rfl, sm1, by omega⟩⟩
    · have ei : i = i0 := by omega
      subst ei
      rw [hi] at hv0
      cases hv0
      rcases np0 with ⟨t, rfl, nt⟩ | ns
      · refine .inl ⟨t, rfl, ?_⟩
        rw [numD_none 0 _ _ nt]
        exact ⟨rfl, _, rfl, iteT ⟨_, rfl, k _ sm1⟩⟩
      · exact .inr ⟨ns.same sm1, rfl, _, rfl, iteT ⟨_, rfl, k _ sm1⟩⟩
end
end Jr
namespace Jr
open PySem PySem.Spec PyProof.Rows L2
section
variable {P : Program} {w : World} {K : PySem.W.Frag} {mg : Str → Option Value} {base : Heap}
def spCheckRow (K : PySem.W.Frag) : Sp := fun vs H Q _ => ∃ (x a : Addr) (z : Str) (rs : Rws) (xs : List Str), vs = [.ref x, .ref a] ∧ TabAt (TC K) H x z rs ∧ H a = some (.lst (xs.map V.str)) ∧ (∀ p ∈ xs, p ∈ pcs z rs) ∧ ∀ H', Same H H' → Q .non H'
theorem cal_check_row (T : Tx K mg) : Cal P w K mg base CX0 3 "check_row" (spCheckRow K) := by
  have C_first_no_piece := cal_first_no_piece (P := P) (w := w) (base := base) T
  obtain ⟨fd, F⟩ := T.d_check_row
  refine ⟨_, fd, P_check_row, F.ok sc_check_row (fun vs H Q E h => ?_) (fun cdv A outer s H vs Q E hr h => ?_), T.g_check_row, F.kp, F.bindsN (ps := P_check_row) fun _ _ _ _ _ _ us hl => match us, hl with | [_, _], _ => rfl⟩
  · obtain ⟨x, a, z, rs, xs, rfl, _⟩ := h
    rfl
  · obtain ⟨x, a, z, rs, xs, rfl, ta, hA, hin, k⟩ := h
    refine ⟨_, (PSs.nox (pss_cons (ps_if (pt_not (pt_val (pe_callB (id := "isinstance") call_isi (by rfl) T.n_isinstance (by decide +kernel) (pa_cons (pv 1) (pa_cons (pe_bltn (v := .ty "list") (by rfl) T.n_list (by decide +kernel) rfl) pa_nil))))) (pss_one ps_never) pss_nil)
      (pss_cons (ps_set (i := 2) sc_check_row.nd rfl (Or.inl rfl) (pe_cal C_first_no_piece (by first | exact hr | exact hr.mono (by decide)) (by rfl) (pa_cons (pv 0) (pa_cons (pv 1) pa_nil))))
      (pss_one (ps_if (pt_cmpR op_notN (pv 2) pe_non (nomark _)) (pss_one ps_never) pss_nil))))), ?_⟩
    refine ⟨_, rfl, _, _, _, _, _, rfl, .ty "list", .base (.lst hA), isLst, _, rfl, iteF ?_⟩
    refine ⟨_, rfl, _, rfl, x, a, z, rs, xs, rfl, ta, SqL.of hA, hin, fun H1 s1 => ?_⟩
    exact ⟨_, rfl, rfl, _, rfl, iteF (k _ s1)⟩
end
end Jr
namespace Jr
open PySem PySem.Spec PyProof.Rows L2
/-! ### a method's call as the element of a comprehension: its reading by a name, so that it is found -/
def tMet (C : Addr) (m : Str) (ta : TE) (t : TA) (sp : Sp) : TE := fun σ H Q => ta σ H fun x H1 => ∃ a dx fs, x = .ref a ∧ H1 a = some (.ins C dx fs) ∧ fs.lookup m = none ∧ t σ H1 fun vs H2 => sp (x :: vs) H2 Q E0
theorem pe_metT {X : Cx} {k : Nat} {sp : Sp} {e : Expr} {es : List Expr} {t : TA} {pos apos : Pos} {C : Addr} {m : Str} {o : Expr} {ta : TE} {pl : Sem Bool} (F : Met X.prog X.w X.K X.mg X.base CX0 k C m sp) (ho : PE X o ta) (hr : Room k X.A) (ha : PA X (e :: es) t)
    (hc : eval (.Call (.Attribute o m apos) (e :: es) [] pos) X.env = (do
      let ov ← eval o X.env
      standAt apos.atName
      let (f, first) ← holding [ov] (getMethod ov m pl)
      callWith pos f first (backTo pos (starEach (e :: es) X.env)) (backToKw pos (keywordEach [] X.env))) := by rfl)
    (he : starEach (e :: es) X.env = (false, eval e X.env) :: starEach es X.env := by rfl) (hpl : (backTo pos (starEach es X.env)).any (·.1) = false := by rfl) :
    PE X (.Call (.Attribute o m apos) (e :: es) [] pos) (tMet C m ta t sp) := pe_met F ho hr ha hc he hpl
/-- a list's method as the element of a comprehension -/
theorem pe_bmT {X : Cx} {K0 : PySem.W.Frag} {o e : Expr} {es : List Expr} {to : TE} {t : TA} {name : Str} {apos cpos : Pos} {T id : String} {r : V → List V → Hp → VK → Prop} (hK : X.K = K0) (pa : PlainAttrs T) (slot : Slot T name id) (hty : typeOf (.builtin id) = pure (.type "method_descriptor")) (hm : MtR X id r) (ho : PE X o to) (ha : PA X (e :: es) t)
    (hbase : attributeBase o name X.env (eval o X.env) = eval o X.env := by rfl)
    (hfew : ((backTo cpos (starEach (e :: es) X.env)).all (fun x => !x.1) && (backToKw cpos (keywordEach [] X.env)).all (fun x => x.1.isSome)
      && decide ((e :: es).length + ([] : List Keyword).length + (if ([] : List Keyword).isEmpty then 0 else 1) < 30)) = true := by rfl)
    (hline : (apos.endLine == cpos.line) = true := by rfl) (hs : starEach (e :: es) X.env = (false, eval e X.env) :: starEach es X.env := by rfl) (hplain : (backTo cpos (starEach es X.env)).any (·.1) = false := by rfl) :
    PE X (.Call (.Attribute o name apos) (e :: es) [] cpos) (tBM K0 T r to t) := hK ▸ pe_bm pa slot hty hm ho ha hbase hfew hline hs hplain
/-- join as the element of a comprehension -/
theorem pe_joinT {X : Cx} {K0 : PySem.W.Frag} {o e : Expr} {to te : TE} {apos pos : Pos} (hK : X.K = K0) (ho : PE X o to) (he : PE X e te) (hs : starEach [e] X.env = [(false, eval e X.env)] := by rfl) (hbase : attributeBase o "join" X.env (eval o X.env) = eval o X.env := by rfl) (hline : (apos.endLine == pos.line) = true := by rfl) :
    PE X (.Call (.Attribute o "join" apos) [e] [] pos) (tM1 (fun x xs H Q => ∃ a p, ∃ ys : List Str, x = .str a ∧ xs = [.ref p] ∧ (SqL K0 H p (ys.map V.str) ∨ SqT K0 H p (ys.map V.str)) ∧
      (ys.map (·.length)).sum + ys.length * a.length ≤ 16777216 ∧ Q (.str (Txt.join a ys)) H) to te) := hK ▸ pe_join ho he hs hbase hline
theorem mt_indexT {X : Cx} {K0 : PySem.W.Frag} (hK : X.K = K0) : MtR X "list.index" (rIndex K0) := hK ▸ mt_index
end Jr
namespace Jr
open PySem PySem.Spec PyProof.Rows L2
/-- the number of a piece -/
def numOf (z : Str) (rs : Rws) (p : Str) : Nat := (pcs z rs).idxOf p
theorem num_of {z : Str} {rs : Rws} (T : TabOk z rs) {p : Str} (h : p ∈ pcs z rs) : (pcs z rs)[numOf z rs p]? = some p ∧ valV (numD 0 (pcs z rs)) (Sum.inr p) = some (V.int (numOf z rs p : Nat)) := by
  have hl : numOf z rs p < (pcs z rs).length := List.idxOf_lt_length_iff.mpr h
  have e : (pcs z rs)[numOf z rs p]? = some p := by rw [List.getElem?_eq_getElem hl]; congr 1; exact List.getElem_idxOf hl
  have := numD_at 0 _ p _ T.nodup e
  rw [Nat.zero_add] at this
  exact ⟨e, this⟩
section
variable {P : Program} {w : World} {K : PySem.W.Frag} {mg : Str → Option Value} {base : Heap}
def spNumbersOf (K : PySem.W.Frag) : Sp := fun vs H Q _ => ∃ (x a : Addr) (z : Str) (rs : Rws) (xs : List Str), vs = [.ref x, .ref a] ∧ TabAt (TC K) H x z rs ∧ H a = some (.lst (xs.map V.str)) ∧ (∀ p ∈ xs, p ∈ pcs z rs) ∧ xs.length ≤ 10000 ∧
  ∀ H' b, Same H H' → H b = none → H' b = some (.lst (xs.map fun p => V.int (numOf z rs p : Nat))) → Q (.ref b) H'
theorem cal_numbers_of (T : Tx K mg) : Cal P w K mg base CX0 4 "numbers_of" (spNumbersOf K) := by
  have C_check_row := cal_check_row (P := P) (w := w) (base := base) T
  have M_Table_which := met_which (P := P) (w := w) (base := base) T
  obtain ⟨fd, F⟩ := T.d_numbers_of
  refine ⟨_, fd, P_numbers_of, F.ok sc_numbers_of (fun vs H Q E h => ?_) (fun cdv A outer s H vs Q E hr h => ?_), T.g_numbers_of, F.kp, F.bindsN (ps := P_numbers_of) fun _ _ _ _ _ _ us hl => match us, hl with | [_, _], _ => rfl⟩
  · obtain ⟨x, a, z, rs, xs, rfl, _⟩ := h
    rfl
  · obtain ⟨x, a, z, rs, xs, rfl, ta, hA, hin, hl, k⟩ := h
    refine ⟨_, (PSs.nox (pss_cons (ps_expr (pe_cal C_check_row (by first | exact hr | exact hr.mono (by decide)) (by rfl) (pa_cons (pv 0) (pa_cons (pv 1) pa_nil))))
      (pss_one (ps_ret (pe_lc (own := [("piece", 2)]) (g := gName 2) (by rfl) sc_numbers_of.nd (pi_list (pv 1)) (blkOk_by (own := [("piece", 2)]) (N := N_numbers_of) (sc := defScope s_numbers_of) (by decide +kernel)) (fun _ _ _ _ _ => (pg_name (i := 2) sc_numbers_of.nd rfl (Or.inl rfl))) (fun _ _ _ _ _ => pts_nil) (fun _ _ _ _ _ => (pe_metT M_Table_which (pv 0) (by first | exact hr | exact hr.mono (by decide)) (pa_cons (pv 2) pa_nil)))))))), ?_⟩
    refine ⟨_, rfl, _, rfl, x, a, z, rs, xs, rfl, ta, hA, hin, fun H1 s1 => ?_⟩
    have ta1 := ta.same s1
    have hA1 := s1 _ _ hA
    refine ⟨_, rfl, a, rfl, ⟨_, SqL.of hA1⟩, fun D hD => lc_listM (K := K) (item := V.str) (p := fun _ => true) (f := fun p => V.int (numOf z rs p : Nat)) (l := xs) (SqL.of hA1) hD (by omega) (fun p hp H2 s2 N M hM _ => ?_) (fun H2 s2 hL => ?_)⟩
    · obtain ⟨dx, lr, lp, dn, dr, m, h1, _, _, h4, _⟩ := (ta1.same s2).ex
      refine ⟨rfl, _, rfl, x, dx, _, rfl, h1, l6_mw _ _ _ _ _ _, _, rfl, x, dx, _, dn, _, _, rfl, h1, l6_num _ _ _ _ _ _, h4, .inl ⟨p, rfl, ?_⟩⟩
      rw [(num_of ta.ok (hin p hp)).2]
      exact hM rfl
    · have ef : xs.filter (fun _ => true) = xs := List.filter_eq_self.mpr fun _ _ => rfl
      rw [ef] at hL
      exact k _ D (s1.trans s2) (s1.free hD) hL
end
end Jr
namespace Jr
open PySem PySem.Spec PyProof.Rows L2
/-! ### two promises of one def, one or the other -/
structure CalR (P : Program) (w : World) (K : PySem.W.Frag) (mg : Str → Option Value) (base : Heap) (CX : CXT) (k : Nat) (x : Str) (sp : Sp) : Prop where
  ex : ∃ f : Addr, FnR P w K mg base CX k f sp ∧ mg x = some (.ref f) ∧ PySem.W.keepIn K (.ref f) = true
section
variable {P : Program} {w : World} {K : PySem.W.Frag} {mg : Str → Option Value} {base : Heap} {CX : CXT} {k : Nat} {x : Str} {sp sp1 sp2 : Sp}
theorem Cal.r (F : Cal P w K mg base CX k x sp) : CalR P w K mg base CX k x sp := by
  obtain ⟨f, fd, ps, G, gm, kp, b⟩ := F.ex
  refine ⟨f, (G.raw b .nil).imp fun vs H Q E h => ?_, gm, kp⟩
  show sp (vs ++ []) H Q E
  rw [List.append_nil]
  exact h
theorem CalR.or (F : CalR P w K mg base CX k x sp1) (G : CalR P w K mg base CX k x sp2) : CalR P w K mg base CX k x (fun vs H Q E => sp1 vs H Q E ∨ sp2 vs H Q E) := by
  obtain ⟨f, F1, g1, k1⟩ := F.ex
  obtain ⟨f2, F2, g2, _⟩ := G.ex
  rw [g1] at g2
  cases g2
  refine ⟨f, fun A outer s H us vs Q E hr e0 rv h => ?_, g1, k1⟩
  rcases h with h | h
  · exact F1 A outer s H us vs Q E hr e0 rv h
  · exact F2 A outer s H us vs Q E hr e0 rv h
theorem CalR.mono {j : Nat} (F : CalR P w K mg base CX j x sp) (h : j ≤ k) : CalR P w K mg base CX k x sp := by
  obtain ⟨f, F1, g1, k1⟩ := F.ex
  exact ⟨f, F1.mono h, g1, k1⟩
end
section
variable {X : Cx} {k : Nat} {x : Str} {sp : Sp} {e : Expr} {es : List Expr} {t : TA} {p pos : Pos}
theorem pe_calR (F : CalR X.prog X.w X.K X.mg X.base CX0 k x sp) (hr : Room k X.A) (hg : Gl X x) (ha : PA X (e :: es) t) (hdb : (x == ("__debug__" : Str)) = false := by decide)
    (he : starEach (e :: es) X.env = (false, eval e X.env) :: starEach es X.env := by rfl) (hpl : (backTo pos (starEach es X.env)).any (·.1) = false := by rfl) :
    PE X (.Call (.Name x p) (e :: es) [] pos) (fun σ H Q => t σ H fun vs H1 => sp vs H1 Q E0) := by
  obtain ⟨f, G, gm, kp⟩ := F.ex
  refine ⟨fun pins s σ H Q I h => ?_⟩
  refine wpAny_Call_Name_kw (ld_glob I hg gm ?_ hdb)
  refine PySem.W.callWith_K (h₀ := X.base) I.ok.mod.kin kp (thn (ha.run pos pins s σ H _ I h) fun us s1 ⟨vs, H1, I1, r, q⟩ => ⟨I1.kIn, ?_⟩) he hpl
  exact wpAny_call (run_fnR G hr pass0 I1 r q)
end
end Jr
namespace Jr
open PySem PySem.Spec PyProof.Rows L2
theorem len2 {s y : Str} {n m : Nat} (h : s.length ≤ n) (hy : y.length ≤ m) : (s ++ y).length ≤ n + m := by rw [app_len]; omega
section
variable {P : Program} {w : World} {K : PySem.W.Frag} {mg : Str → Option Value} {base : Heap}
def spJE (K : PySem.W.Frag) : Sp := fun vs H Q _ => ∃ (a C : Addr) (v : V), vs = [.ref a, v] ∧ OexC K C ∧ H a = some (exo a C none) ∧ Q .non H
theorem cdf_JoinError (T : Tx K mg) : Cdf P w K mg base 1 "JoinError" (He.ga K "JoinError") "__init__" (spJE K) := by
  obtain ⟨fd, F⟩ := T.d_JoinError___init__
  refine ⟨⟨_, fd, P_JoinError___init__, F.ok sc_JoinError___init__ (fun vs H Q E h => ?_) (fun cdv A outer s H vs Q E hr h => ?_), T.rd_JoinError, T.ga_JoinError, T.fc_JoinError, F.kp,
    F.bindsN (ps := P_JoinError___init__) fun _ _ _ _ _ _ us hl => match us, hl with | [_, _], _ => rfl⟩, T.g_JoinError⟩
  · obtain ⟨a, C, v, rfl, _⟩ := h
    rfl
  · obtain ⟨a, C, v, rfl, ox, ha, k⟩ := h
    refine ⟨_, (PSs.nox (pss_one (ps_expr (pe_veinit (by rfl) T.n_ValueError (vV _) (pa_cons (pv 0) (pa_cons (pv 1) pa_nil)))))), ?_⟩
    exact ⟨_, rfl, _, rfl, a, C, [v], rfl, (by show 1 ≤ 1000; decide), ox, ha, k⟩
end
end Jr
namespace Jr
open PySem PySem.Spec PyProof.Rows L2
section
variable {P : Program} {w : World} {K : PySem.W.Frag} {mg : Str → Option Value} {base : Heap}
theorem exk_NoPiece (T : Tx K mg) : Exk P w K mg base 2 "NoPiece" (He.ga K "NoPiece") (spX1 (He.ga K "NoPiece") "place") := by
  have D_JoinError___init__ := cdf_JoinError (P := P) (w := w) (base := base) T
  obtain ⟨fd, F⟩ := T.d_NoPiece___init__
  refine ⟨⟨_, fd, P_NoPiece___init__, F.ok sc_NoPiece___init__ (fun vs H Q E h => ?_) (fun cdv A outer s H vs Q E hr h => ?_), T.in_NoPiece, T.it_NoPiece,
    F.bindsN (ps := P_NoPiece___init__) fun _ _ _ _ _ _ us hl => match us, hl with | [_, _], _ => rfl⟩, T.xc_NoPiece, T.g_NoPiece⟩
  · obtain ⟨a, v, rfl, _⟩ := h
    rfl
  · obtain ⟨a, v, rfl, fm, ha, k⟩ := h
    refine ⟨_, (PSs.nox (pss_cons (ps_expr (pe_cdef D_JoinError___init__ (by first | exact hr | exact hr.mono (by decide)) (by rfl) (pa_cons (pv 0) (pa_cons (pe_joined (.cons pe_str (.cons (pe_fmtN (pv 1)) .nil))) pa_nil))))
      (pss_one (ps_ost (pv 0) (pv 1))))), ?_⟩
    refine ⟨_, rfl, _, rfl, (by decide +kernel), _, rfl, fm, fun y hy => ⟨y, rfl, sz (Nat.le_trans (len2 (n := 100) (by decide +kernel) hy) (by decide)), a, _, _, rfl, T.xc_NoPiece.oex, ha, ?_⟩⟩
    exact ⟨_, rfl, _, rfl, a, _, rfl, T.xc_NoPiece.oex, T.no_NoPiece_place, .inl ⟨ha, fun d nd ne => k d nd ne⟩⟩
end
end Jr
namespace Jr
open PySem PySem.Spec PyProof.Rows L2
/-! ### texts of texts -/
theorem join_text {z : Str} {ps : List Str} (h : ∀ p ∈ ps, TextOf z p) : TextOf z (Txt.join (Str.ofString "") ps) := fun c hc => by
  rw [join_cps] at hc
  obtain ⟨y, hy, hxy⟩ := List.mem_flatMap.mp hc
  exact h y hy c hxy
theorem sum_le : ∀ (ps : List Str) (n : Nat), (∀ p ∈ ps, p.length ≤ n) → (ps.map (·.length)).sum ≤ ps.length * n
  | [], n, _ => by simp
  | p :: ps, n, h => by
    have h1 := h p List.mem_cons_self
    have h2 := sum_le ps n fun q hq => h q (List.mem_cons_of_mem _ hq)
    rw [List.map_cons, List.sum_cons, List.length_cons, Nat.succ_mul]
    omega
theorem join_len {ps : List Str} : (Txt.join (Str.ofString "") ps).length = (ps.map (·.length)).sum := by
  rw [← len_cps, join_cps, flat_len]
end Jr
namespace Jr
open PySem PySem.Spec PyProof.Rows L2
/-- what is wrong with v as a row of pieces: the place, or None -/
def WrongP (K : PySem.W.Frag) (H : Hp) (z : Str) (rs : Rws) (v u : V) : Prop := (NoLst K H v ∧ u = .non) ∨ ∃ (a : Addr) (us : List V) (i : Nat), v = .ref a ∧ H a = some (.lst us) ∧ us.length ≤ 1000 ∧ FirstPc K H z rs us i ∧ u = .int (i : Nat)
theorem WrongP.same {K : PySem.W.Frag} {H H' : Hp} {z : Str} {rs : Rws} {v u : V} (h : WrongP K H z rs v u) (s : Same H H') : WrongP K H' z rs v u := by
  rcases h with ⟨h, e⟩ | ⟨a, us, i, e, hA, ul, fp, eu⟩
  · exact .inl ⟨h.same s, e⟩
  · exact .inr ⟨a, us, i, e, s _ _ hA, ul, fp.same s, eu⟩
theorem cutV_but (xs : List V) : cutV xs none (some (-1)) = xs.take (xs.length - 1) := by
  have e : HT.sIx xs.length xs.length (some (-1)) = xs.length - 1 := by
    show (if (-1 : Int) < 0 then ((-1 : Int) + (xs.length : Int)).toNat else min (-1 : Int).toNat xs.length) = _
    rw [if_pos (by decide)]
    omega
  unfold cutV
  rw [e, HT.sIx_none, List.drop_zero, Nat.sub_zero]
/-- the numbers of signs to the ends of all pieces but the last -/
def bordL (ys : List Str) : List Nat := (List.range (ys.length - 1)).map fun k => (flat (ys.take (k + 1))).length
section
variable {P : Program} {w : World} {K : PySem.W.Frag} {mg : Str → Option Value} {base : Heap}
abbrev CPiece' (K : PySem.W.Frag) : Addr := He.ga K "NoPiece"
def spCheckRowX (K : PySem.W.Frag) : Sp := fun vs H Q E => ∃ (x : Addr) (z : Str) (rs : Rws) (v : V), vs = [.ref x, v] ∧ TabAt (TC K) H x z rs ∧
  ((∃ u, WrongP K H z rs v u ∧ Rz (CPiece' K) "place" u H E) ∨ ∃ (a : Addr) (ys : List Str), v = .ref a ∧ H a = some (.lst (ys.map V.str)) ∧ (∀ p ∈ ys, p ∈ pcs z rs) ∧ ∀ H', Same H H' → Q .non H')
theorem calx_check_row (T : Tx K mg) : Cal P w K mg base (L2.CX P w) 4 "check_row" (spCheckRowX K) := by
  have CR_first_no_piece := (cal_first_no3 (P := P) (w := w) (base := base) T).r.or (cal_first_no_piece (P := P) (w := w) (base := base) T).r
  have E_NoPiece := exk_NoPiece (P := P) (w := w) (base := base) T
  obtain ⟨fd, F⟩ := T.d_check_row
  refine ⟨_, fd, P_check_row, F.ok sc_check_row (fun vs H Q E h => ?_) (fun cdv A outer s H vs Q E hr h => ?_), T.g_check_row, F.kp, F.bindsN (ps := P_check_row) fun _ _ _ _ _ _ us hl => match us, hl with | [_, _], _ => rfl⟩
  · obtain ⟨x, z, rs, v, rfl, _⟩ := h
    rfl
  · obtain ⟨x, z, rs, v, rfl, ta, h⟩ := h
    refine ⟨_, (pss_cons (ps_if (pt_not (pt_val (pe_callB (id := "isinstance") call_isi (by rfl) T.n_isinstance (by decide +kernel) (pa_cons (pv 1) (pa_cons (pe_bltn (v := .ty "list") (by rfl) T.n_list (by decide +kernel) rfl) pa_nil))))) (pss_one (ps_raise rfl (takes_of rfl rfl rfl rfl) (E_NoPiece.mk1 (by first | exact hr | exact hr.mono (by decide)) (pa_cons pe_non pa_nil)))) pss_nil)
      (pss_cons (ps_set (i := 2) sc_check_row.nd rfl (Or.inl rfl) (pe_calR CR_first_no_piece (by first | exact hr | exact hr.mono (by decide)) (by rfl) (pa_cons (pv 0) (pa_cons (pv 1) pa_nil))))
      (pss_one (ps_if (pt_cmpR op_notN (pv 2) pe_non (nomark _)) (pss_one (ps_raise rfl (takes_of rfl rfl rfl rfl) (E_NoPiece.mk1 (by first | exact hr | exact hr.mono (by decide)) (pa_cons (pv 2) pa_nil)))) pss_nil)))), ?_⟩
    rcases h with ⟨u, ⟨⟨ty, hty, hk⟩, rfl⟩ | ⟨a, us, i, rfl, hA, ul, fp, rfl⟩, k⟩ | ⟨a, ys, rfl, hA, hin, k⟩
    · exact ⟨_, rfl, _, _, _, _, _, rfl, .ty "list", hty, hk, _, rfl, iteT ⟨_, rfl, .inl rfl, k.now⟩⟩
    · refine ⟨_, rfl, _, _, _, _, _, rfl, .ty "list", .base (.lst hA), isLst, _, rfl, iteF ?_⟩
      refine ⟨_, rfl, _, rfl, .inl ⟨x, a, z, rs, us, i, rfl, ta, SqL.of hA, fp, fun H1 s1 => ?_⟩⟩
      have := fp.lt
      exact ⟨_, rfl, rfl, _, rfl, iteT ⟨_, rfl, _, rfl, fmt_nat i (by omega), (k.same s1).now⟩⟩
    · refine ⟨_, rfl, _, _, _, _, _, rfl, .ty "list", .base (.lst hA), isLst, _, rfl, iteF ?_⟩
      refine ⟨_, rfl, _, rfl, .inr ⟨x, a, z, rs, ys, rfl, ta, SqL.of hA, hin, fun H1 s1 => ?_⟩⟩
      exact ⟨_, rfl, rfl, _, rfl, iteF (k _ s1)⟩
/-- a def of a table and a row: refused, or told -/
def spRowX (K : PySem.W.Frag) (G : Str → Rws → List Str → Hp → VK → Prop) : Sp := fun vs H Q E => ∃ (x : Addr) (z : Str) (rs : Rws) (v : V), vs = [.ref x, v] ∧ TabAt (TC K) H x z rs ∧
  ((∃ u, WrongP K H z rs v u ∧ Rz (CPiece' K) "place" u H E) ∨ ∃ (a : Addr) (ys : List Str), v = .ref a ∧ H a = some (.lst (ys.map V.str)) ∧ (∀ p ∈ ys, p ∈ pcs z rs) ∧ ys.length ≤ 1000 ∧ G z rs ys H Q)
def gText : Str → Rws → List Str → Hp → VK → Prop := fun _ _ ys H Q => ∀ H', Same H H' → Q (.str (Txt.join (Str.ofString "") ys)) H'
def gNums : Str → Rws → List Str → Hp → VK → Prop := fun z rs ys H Q => ∀ H' b, Same H H' → H b = none → H' b = some (.lst (ys.map fun p => V.int (numOf z rs p : Nat))) → Q (.ref b) H'
def gBord : Str → Rws → List Str → Hp → VK → Prop := fun _ _ ys H Q => ∀ H' b, Same H H' → H b = none → H' b = some (.lst ((bordL ys).map (fun n : Nat => V.int (n : Nat)))) → Q (.ref b) H'
theorem calx_text_of (T : Tx K mg) : Cal P w K mg base (L2.CX P w) 5 "text_of" (spRowX K gText) := by
  have CX_check_row := calx_check_row (P := P) (w := w) (base := base) T
  obtain ⟨fd, F⟩ := T.d_text_of
  refine ⟨_, fd, P_text_of, F.ok sc_text_of (fun vs H Q E h => ?_) (fun cdv A outer s H vs Q E hr h => ?_), T.g_text_of, F.kp, F.bindsN (ps := P_text_of) fun _ _ _ _ _ _ us hl => match us, hl with | [_, _], _ => rfl⟩
  · obtain ⟨x, z, rs, v, rfl, _⟩ := h
    rfl
  · obtain ⟨x, z, rs, v, rfl, ta, h⟩ := h
    refine ⟨_, (pss_cons (ps_expr (pe_calX CX_check_row (by first | exact hr | exact hr.mono (by decide)) (by rfl) (takes_of rfl rfl rfl rfl) (pa_cons (pv 0) (pa_cons (pv 1) pa_nil))))
      (pss_one (ps_ret (pe_join pe_str (pv 1))))), ?_⟩
    rcases h with ⟨u, wr, k⟩ | ⟨a, ys, rfl, hA, hin, yl, k⟩
    · exact ⟨_, rfl, _, rfl, x, z, rs, v, rfl, ta, .inl ⟨u, wr, k⟩⟩
    · refine ⟨_, rfl, _, rfl, x, z, rs, _, rfl, ta, .inr ⟨a, ys, rfl, hA, hin, fun H1 s1 => ?_⟩⟩
      have sl := sum_le ys 16 fun q hq => (ta.ok.plen (hin q hq)).2
      have e0 : (Str.ofString "").length = 0 := by decide +kernel
      exact ⟨⟨_, rfl⟩, _, rfl, _, a, ys, rfl, rfl, .inl (SqL.of (s1 _ _ hA)), by rw [e0]; omega, k _ s1⟩
theorem calx_numbers_of (T : Tx K mg) : Cal P w K mg base (L2.CX P w) 5 "numbers_of" (spRowX K gNums) := by
  have CX_check_row := calx_check_row (P := P) (w := w) (base := base) T
  have M_Table_which := met_which (P := P) (w := w) (base := base) T
  obtain ⟨fd, F⟩ := T.d_numbers_of
  refine ⟨_, fd, P_numbers_of, F.ok sc_numbers_of (fun vs H Q E h => ?_) (fun cdv A outer s H vs Q E hr h => ?_), T.g_numbers_of, F.kp, F.bindsN (ps := P_numbers_of) fun _ _ _ _ _ _ us hl => match us, hl with | [_, _], _ => rfl⟩
  · obtain ⟨x, z, rs, v, rfl, _⟩ := h
    rfl
  · obtain ⟨x, z, rs, v, rfl, ta, h⟩ := h
    refine ⟨_, (pss_cons (ps_expr (pe_calX CX_check_row (by first | exact hr | exact hr.mono (by decide)) (by rfl) (takes_of rfl rfl rfl rfl) (pa_cons (pv 0) (pa_cons (pv 1) pa_nil))))
      (pss_one (ps_ret (pe_lc (own := [("piece", 2)]) (g := gName 2) (by rfl) sc_numbers_of.nd (pi_list (pv 1)) (blkOk_by (own := [("piece", 2)]) (N := N_numbers_of) (sc := defScope s_numbers_of) (by decide +kernel)) (fun _ _ _ _ _ => (pg_name (i := 2) sc_numbers_of.nd rfl (Or.inl rfl))) (fun _ _ _ _ _ => pts_nil) (fun _ _ _ _ _ => (pe_metT M_Table_which (pv 0) (by first | exact hr | exact hr.mono (by decide)) (pa_cons (pv 2) pa_nil))))))), ?_⟩
    rcases h with ⟨u, wr, k⟩ | ⟨a, xs, rfl, hA, hin, yl, k⟩
    · exact ⟨_, rfl, _, rfl, x, z, rs, v, rfl, ta, .inl ⟨u, wr, k⟩⟩
    · refine ⟨_, rfl, _, rfl, x, z, rs, _, rfl, ta, .inr ⟨a, xs, rfl, hA, hin, fun H1 s1 => ?_⟩⟩
      have ta1 := ta.same s1
      have hA1 := s1 _ _ hA
      refine ⟨_, rfl, a, rfl, ⟨_, SqL.of hA1⟩, fun D hD => lc_listM (K := K) (item := V.str) (p := fun _ => true) (f := fun p => V.int (numOf z rs p : Nat)) (l := xs) (SqL.of hA1) hD (by omega) (fun p hp H2 s2 N M hM _ => ?_) (fun H2 s2 hL => ?_)⟩
      · obtain ⟨dx, lr, lp, dn, dr, m, h1, _, _, h4, _⟩ := (ta1.same s2).ex
        refine ⟨rfl, _, rfl, x, dx, _, rfl, h1, l6_mw _ _ _ _ _ _, _, rfl, x, dx, _, dn, _, _, rfl, h1, l6_num _ _ _ _ _ _, h4, .inl ⟨p, rfl, ?_⟩⟩
        rw [(num_of ta.ok (hin p hp)).2]
        exact hM rfl
      · have ef : xs.filter (fun _ => true) = xs := List.filter_eq_self.mpr fun _ _ => rfl
        rw [ef] at hL
        exact k _ D (s1.trans s2) (s1.free hD) hL
theorem calx_borders_of (T : Tx K mg) : Cal P w K mg base (L2.CX P w) 5 "borders_of" (spRowX K gBord) := by
  have CX_check_row := calx_check_row (P := P) (w := w) (base := base) T
  obtain ⟨fd, F⟩ := T.d_borders_of
  refine ⟨_, fd, P_borders_of, F.ok sc_borders_of (fun vs H Q E h => ?_) (fun cdv A outer s H vs Q E hr h => ?_), T.g_borders_of, F.kp, F.bindsN (ps := P_borders_of) fun _ _ _ _ _ _ us hl => match us, hl with | [_, _], _ => rfl⟩
  · obtain ⟨x, z, rs, v, rfl, _⟩ := h
    rfl
  · obtain ⟨x, z, rs, v, rfl, ta, h⟩ := h
    refine ⟨_, (pss_cons (ps_expr (pe_calX CX_check_row (by first | exact hr | exact hr.mono (by decide)) (by rfl) (takes_of rfl rfl rfl rfl) (pa_cons (pv 0) (pa_cons (pv 1) pa_nil))))
      (pss_cons (ps_set (i := 2) sc_borders_of.nd rfl (Or.inl rfl) (pe_lstG pa_nil))
      (pss_cons (ps_set (i := 3) sc_borders_of.nd rfl (Or.inl rfl) pe_int)
      (pss_cons (ps_for (passes_of rfl) rfl (pi_list (pe_slice sl_listG (pv 1) po_none (po_some (pe_un un_neg pe_int)))) (pg_name (i := 4) sc_borders_of.nd rfl (Or.inl rfl)) (pss_cons (ps_aug (i := 3) sc_borders_of.nd rfl (Or.inl rfl) (pe_callB (id := "len") call_len_str (by rfl) T.n_len (by decide +kernel) (pa_cons (pv 4) pa_nil)) ip_add)
      (pss_one (ps_expr (pe_bm PySem.F.plainAttrs_list PySem.F.slot_list_append PySem.F.type_list_append mt_append (pv 2) (pa_cons (pv 3) pa_nil))))))
      (pss_one (ps_ret (pv 2))))))), ?_⟩
    rcases h with ⟨u, wr, k⟩ | ⟨a, ys, rfl, hA, hin, yl, k⟩
    · exact ⟨_, rfl, _, rfl, x, z, rs, v, rfl, ta, .inl ⟨u, wr, k⟩⟩
    · refine ⟨_, rfl, _, rfl, x, z, rs, _, rfl, ta, .inr ⟨a, ys, rfl, hA, hin, fun H1 s1 => ?_⟩⟩
      refine ⟨(by show 0 ≤ sizeLine; decide), fun b H2 nb s2 hb => ?_⟩
      have hA2 := (s1.trans s2) _ _ hA
      refine ⟨_, rfl, _, rfl, _, rfl, a, _, rfl, SqL.of hA2, fun c H3 nc s3 hc => ?_⟩
      rw [cutV_but, List.length_map, ← List.map_take] at hc
      have cb : c ≠ b := fun e => by rw [e, hb] at nc; cases nc
      refine ⟨c, rfl, ⟨_, SqL.of hc⟩, for_list (K := K) (a := c) (xs := (ys.take (ys.length - 1)).map V.str) (fun i σ H' => ∃ (u : Option V), σ = [some (.ref x), some (.ref a), some (.ref b), some (.int ((flat (ys.take i)).length : Nat)), u] ∧ Same H1 H' ∧ H' c = some (.lst ((ys.take (ys.length - 1)).map V.str)) ∧ H' b = some (.lst (((List.range i).map fun k => (flat (ys.take (k + 1))).length).map fun n : Nat => V.int (n : Nat))))
        ⟨_, rfl, s2.trans s3, hc, s3 _ _ hb⟩ (fun i σ H' _ ⟨_, _, _, h, _⟩ => SqL.of h) ?_ ?_⟩
      · rintro i y σ H' hi ⟨u, rfl, sm, hc', hb'⟩
        rw [List.getElem?_map] at hi
        cases ed : (ys.take (ys.length - 1))[i]? with
        | none => rw [ed] at hi; cases hi
        | some p =>
          rw [ed] at hi
          cases hi
          have il := (List.getElem?_eq_some_iff.mp ed).1
          rw [List.length_take] at il
          rw [List.getElem?_take, if_pos (by omega)] at ed
          have pl := (ta.ok.plen (hin p (List.mem_of_getElem? ed))).2
          have ef : ((flat (ys.take (i + 1))).length : Int) = ((flat (ys.take i)).length : Int) + (p.length : Int) := by
            have e1 : ys.take (i + 1) = ys.take i ++ [p] := by rw [List.take_add_one, ed]; rfl
            have f0 : (flat [p]).length = p.length := by rw [flat_cons, List.length_append, len_cps]; rfl
            rw [e1, flat_app, List.length_append, f0]
            omega
          have nbc : H1 b = none := nb
          refine ⟨_, rfl, _, rfl, p, rfl, sz (by omega), _, _, rfl, rfl, ?_⟩
          show gName 3 (V.int (((flat (ys.take i)).length : Int) + (p.length : Int))) _ _ _
          rw [← ef]
          refine ⟨_, rfl, .inl ⟨rfl, _, SqL.of hb'⟩, _, rfl, b, _, _, rfl, rfl, hb', szl (by rw [List.length_map, List.length_map, List.length_range]; omega), ⟨_, rfl, Same.mut sm nb, by rw [upd_ne cb]; exact hc', ?_⟩⟩
          rw [upd_same, List.range_succ]
          simp
      · rintro σ H' ⟨u, rfl, sm, hc', hb'⟩
        rw [List.length_map, List.length_take, Nat.min_eq_left (by omega)] at hb'
        exact ⟨_, rfl, k _ b (s1.trans sm) (s1.free nb) hb'⟩
end
end Jr
namespace Jr
open PySem PySem.Spec PyProof.Rows L2
/-! ### defs that are called where no repr is under way -/
structure FnG (P : Program) (w : World) (K : PySem.W.Frag) (mg : Str → Option Value) (base : Heap) (CX : CXT) (k : Nat) (f : Addr) (fd : FuncData) (ps : List Str) (sp : Sp) : Prop where
  many : ∀ vs H Q E, sp vs H Q E → vs.length = ps.length
  goes : ∀ (A : Around), A.guards = some [] → Room k A → ∀ (outer : List Env) (s : Shared) (H : Hp), Env0 P w K mg base A outer s H → ∀ (args : Args) (us : List Value) (vs : List V), BindsTo s fd args (ps.zip us) → Vals vs us → ∀ (Q : VK) (E : XK), sp vs H Q E →
    codeAny (model P w) A (.call (.ref f) args) (CR CX outer P w H s Q E) s
section
variable {P : Program} {w : World} {K : PySem.W.Frag} {mg : Str → Option Value} {base : Heap}
theorem fnG_of {CX : CXT} {x qual : Str} {params : Arguments} {body : List Stmt} {scope : Scope} {f : Addr} {fd : FuncData} {N ps : List Str} {k : Nat} {sp : Sp} (F : FunD K x qual params body scope [] [] f fd) (S : FnScope N ps scope)
    (many : ∀ vs H Q E, sp vs H Q E → vs.length = ps.length)
    (runs : ∀ (cdv : Value) (A : Around), A.guards = some [] → ∀ (outer : List Env) (s : Shared) (H : Hp) (vs : List V) (Q : VK) (E : XK), Room k (A.deeper (envOfC qual scope s.heap.objs.size f cdv)) → sp vs H Q E →
      ∃ t, PSs (cxOf CX P w K mg base N qual scope f cdv A outer s H E) body t ∧ t { nx := fun _ H' => Q .non H', rt := Q } (start N vs) H) : FnG P w K mg base CX (k + 1) f fd ps sp := by
  obtain ⟨oc, od, dV, kV, doc, pm, an, cdv, ct, osl, rfl, lk, hcd, _, _⟩ := F.ex
  constructor
  · exact many
  intro A gA room outer s H e0 args us vs binds rv Q E hsp
  have size := many _ _ _ _ hsp
  have here : ∀ b o, base.get? b = some o → s.heap.get? b = some o := fun b o e => (e0.bs b o e).1
  have inK : K.In s.heap := e0.mod.kin.keeps here
  have kinds : ∀ y ∈ ps.zip us, scope.names.lookup y.1 = some .local ∨ (scope.names.lookup y.1 = some .cell ∧ ((cellsFrom (s.heap.objs.size + 1) scope.names []).lookup y.1).isSome = true) := by
    rintro ⟨n, v⟩ hy
    cases S.par n (List.of_mem_zip hy).1 with
    | inl q => exact Or.inl q
    | inr q => exact Or.inr ⟨q, PySem.W.cellsFrom_some _ _ _ (Or.inl q)⟩
  refine codeAny_call_function room.depth (inK _ _ lk) rfl S.co S.gen rfl (PySem.W.codeRec_of inK hcd) (binds _ _ _ _ (wpAny_newFunctionEnv_cells S.kind kinds ?_))
  rintro env rfl s1 x
  refine ⟨(e0.mod.nolimit.keeps here).keeps x.toInCall.keep, codeAny_func ?_⟩
  obtain ⟨t, ht, hq⟩ := runs cdv A gA outer s H vs Q E (room.deeper _) hsp
  have I := inv_start (CX := CX) (E := E) (K := K) (mg := mg) (base := base) (w := w) (P := P) (f := f) (cd := cdv) S room.hd e0 size rv x
  refine wpAny_mono (ht.run [] s1 (start N vs) H _ I hq) ?_ (fun e s' hs => hs)
  intro fl s' hs
  match fl, hs with
  | .ret u, ⟨v, σ', H', J, rv', q⟩ => exact ⟨v, H', J.os, J.bare, J.base, J.hok, rv', q⟩
  | .next, ⟨σ', H', J, q⟩ => exact ⟨V.non, H', J.os, J.bare, J.base, J.hok, rfl, q⟩
  | .brk, ⟨_, _, _, q⟩ => exact q.elim
  | .cont, ⟨_, _, _, q⟩ => exact q.elim
end
/-- at the law's own call no repr is under way -/
theorem lawG {P : Program} {w : World} {K : PySem.W.Frag} {mg mb : Str → Option Value} {CX : CXT} {k : Nat} {fa a : Addr} {fd : FuncData} {x : Str} {sp : Sp} {s₁ : Shared} {vs : List Value} {ns : List Int}
    (inK : K.In s₁.heap) (hmg : s₁.heap.Ns mainGlobals mg) (hmb : s₁.heap.Ns builtinsNs mb) (boot : ∀ x : Str, x ≠ "__name__" → mb x = bootBuiltins x) (nolim : s₁.heap.NoLimit) (nogen : s₁.gens = #[])
    (script : s₁.heap.get? a = some { cls := .type "list", data := .seq vs.toArray }) (whole : IntsAre vs ns) (few : ns.length ≤ sizeLine) (room : Room k callerA)
    (F : ∀ base : Heap, K.In base → base.Ns mainGlobals mg → FnG P w K mg base CX k fa fd [x] sp) (binds : ∀ (s : Shared) (u : Value), BindsTo s fd ⟨[u], []⟩ [(x, u)])
    (hsp : ∀ H : Hp, Only H → SqL K H a (ns.map V.int) → sp [.ref a] H (fun v _ => v = .bl true) fun _ _ _ => False)
    (noerr : ∀ H e s', CX [] H s₁ (fun _ _ _ => False) e s' → False) :
    codeAny (model P w) callerA (.call (.ref fa) ⟨[.ref a], []⟩) (fun r s' => r = .ok (.ret (.bool true)) ∧ OldK s₁.heap s'.heap ∧ s'.os = s₁.os ∧ AllBare s'.gens) s₁ := by
  have same := whole.length
  obtain ⟨ob, eob⟩ : ∃ ob : Obj, ob = { cls := .type "list", data := .seq vs.toArray } := ⟨_, rfl⟩
  rw [← eob] at script
  -- the script is tracked, unless it is one of the module's own objects
  obtain ⟨H, hH⟩ : ∃ H : Hp, H = fun b => if b = a ∧ K.lookup a = none then some (HO.frz ob (.lst (ns.map V.int))) else none := ⟨_, rfl⟩
  have other : ∀ b, b ≠ a → H b = none := fun b n => by rw [hH]; exact if_neg fun z => n z.1
  have isl : HO.lst (ns.map V.int) = HO.lst (ns.map V.int) := rfl
  have okA : ∀ b u, H b = some u → b = a ∧ K.lookup a = none ∧ u = HO.frz ob (.lst (ns.map V.int)) := fun b u e => by
    rw [hH] at e
    by_cases c : b = a ∧ K.lookup a = none
    · exact ⟨c.1, c.2, Option.some.inj (e.symm.trans (if_pos c))⟩
    · cases e.symm.trans (if_neg c)
  have seen : ∀ b o, s₁.heap.get? b = some o → (∀ z n, o.data ≠ .seq z n) → (hidT s₁.heap H).get? b = some o := fun b o e nd => hidT_get e (by
    cases q : H b with
    | none => rfl
    | some u =>
      obtain ⟨rfl, _, _⟩ := okA b u q
      rw [script, eob] at e
      cases e
      exact (nd _ _ rfl).elim)
  have ns' : ∀ {b : Addr} {m : Str → Option Value}, s₁.heap.Ns b m → (hidT s₁.heap H).Ns b m := fun {b m} ⟨o, es, ep, e, d, r⟩ => ⟨o, es, ep, seen b o e (fun z n q => by rw [d] at q; cases q), d, r⟩
  have inB : K.In (hidT s₁.heap H) := fun b o e => hidT_get (inK b o e) (by
    cases q : H b with
    | none => rfl
    | some u =>
      obtain ⟨rfl, h2, _⟩ := okA b u q
      rw [h2] at e
      cases e)
  have lim : (hidT s₁.heap H).NoLimit := by
    obtain ⟨mc, h1, h2⟩ := nolim
    exact ⟨mc, ns' h1, h2⟩
  have rv : Vals (ns.map V.int) vs := vals_ints whole
  have lenI : (ns.map V.int).length ≤ sizeLine := by rw [List.length_map]; exact few
  have hok : HOk P w H s₁.heap := fun b u e => by
    obtain ⟨rfl, _, rfl⟩ := okA b u e
    refine ⟨script, lenI, vs, 0, rv, ?_⟩
    rw [script, eob]
  have only : Only H := fun b => by
    cases q : H b with
    | none => exact .inl rfl
    | some u =>
      obtain ⟨_, _, rfl⟩ := okA b u q
      exact .inr ⟨_, _, rfl⟩
  have seq : SqL K H a (ns.map V.int) := by
    cases hk : K.lookup a with
    | none => exact .inl (.inr ⟨ob, by rw [hH]; exact if_pos ⟨rfl, hk⟩⟩)
    | some o =>
      have e := inK a o hk
      rw [script] at e
      cases e
      refine .inr ⟨ob, vs.toArray, 0, hk, ?_, ?_, ?_, ?_, ?_⟩
      · rw [eob]
      · rw [eob]
      · rw [eob]
      · rw [List.size_toArray, same]; exact few
      · exact rv
  have e0 : Env0 P w K mg (hidT s₁.heap H) callerA [] s₁ H :=
    { frames := rfl, mod := ⟨inB, ns' hmg, ⟨mb, ns' hmb, boot⟩, lim⟩, bs := fun b o e => of_hidT e, bsz := Nat.le_of_eq (hidT_size _ _), funs := trivial
      frf := fun b hb => by cases (show b ∈ ([] : List Addr) from hb)
      hok := hok, bare := .of_eq nogen }
  refine codeAny_mono ((F _ inB (ns' hmg)).goes callerA rfl room [] s₁ H e0 ⟨[.ref a], []⟩ [.ref a] [.ref a] (binds s₁ (.ref a)) (.cons rfl .nil) _ _ (hsp H only seq)) ?_
  intro r s' h
  match r, h with
  | .error e, h => exact (noerr H e s' h).elim
  | .ok .next, h => exact h.elim
  | .ok .brk, h => exact h.elim
  | .ok .cont, h => exact h.elim
  | .ok (.ret u), ⟨v, H', os, bare, un, hok', r', q⟩ =>
    have q' : v = .bl true := q
    subst q'
    have eu : u = Value.bool true := r'
    subst eu
    refine ⟨rfl, OldK.of_keep fun b o e => ?_, os, bare⟩
    cases q : H b with
    | none => exact un.keep b o e q (fun z => by cases (show b ∈ ([] : List Addr) from z)) (fun z => by cases z)
    | some u =>
      obtain ⟨rfl, _, rfl⟩ := okA b u q
      have eo : o = ob := Option.some.inj (e.symm.trans script)
      subst eo
      exact (hok' _ _ (un.frzs _ _ _ q)).1
theorem walkG {l : PySem.W.OpenLaw} {n k : Nat} {q : Program} {loose : List Str} {XP : (Str → Option Value) → Heap → Prop} {YP : World → Heap → Prop} {d : DefRec} {CX : CXT} {x : Str}
    (hn : l.most = some n) (small : n ≤ sizeLine) (nodef : d.params.defaults = []) (room : Room k callerA)
    (F : ∀ (w : World) (mg : Str → Option Value) (fa : Addr) (h : Heap), YP w h → h.Ns mainGlobals mg → mg d.name = some (.ref fa) →
      ∃ (K : PySem.W.Frag) (fd : FuncData) (sp : Sp), K.In h ∧ (∀ (s : Shared) (u : Value), BindsTo s fd ⟨[u], []⟩ [(x, u)]) ∧
        (∀ (H : Hp) (a : Addr) (ns : List Int), ns.length ≤ n → Only H → SqL K H a (ns.map V.int) → sp [.ref a] H (fun v _ => v = .bl true) fun _ _ _ => False) ∧
        ∀ base : Heap, K.In base → base.Ns mainGlobals mg → FnG l.prog w K mg base CX k fa fd [x] sp)
    (noerr : ∀ (H : Hp) (s : Shared) (e : Value) (s' : Shared), CX [] H s (fun _ _ _ => False) e s' → False) :
    PySem.W.WalkO q loose XP YP l.row.toRowW d [] (fun f vs => PySem.call f vs) := by
  refine Att.attach_call hn nodef ?_
  intro w s₀ s₁ mg mb fa o pm cd doc a vs ns G Y ho hd hcd hmg hobj hints hlen nogen
  obtain ⟨K, fd, sp, inK, binds, hsp, hF⟩ := F w mg fa _ Y G.T.g hmg
  exact lawG inK G.T.g G.T.b G.T.builtins G.T.nolimit nogen hobj hints (Nat.le_trans hlen small) room hF binds (fun H hO hS => hsp H a ns hlen hO hS) (fun H e s' => noerr H s₁ e s')
/-! ### repr of nested lists and tuples of flat data; an empty dict may stand within -/
mutual
inductive Rp (K : PySem.W.Frag) (H : Hp) : V → PyData → Prop
  | non : Rp K H .non .none
  | bl (b : Bool) : Rp K H (.bl b) (.bool b)
  | int (i : Int) : i.natAbs.log2 < 1920 → Rp K H (.int i) (.int i)
  | str (x : Str) : Rp K H (.str x) (.str x)
  | lst {a : Addr} {xs : List V} {ds : List PyData} (h : SqL K H a xs) (t : RpAll K H xs ds) : Rp K H (.ref a) (.list ds)
  | tup {a : Addr} {xs : List V} {ds : List PyData} (h : SqT K H a xs) (t : RpAll K H xs ds) : Rp K H (.ref a) (.tuple ds)
  | dct {a : Addr} (h : H a = some (.dK [])) : Rp K H (.ref a) (.dict [])
inductive RpAll (K : PySem.W.Frag) (H : Hp) : List V → List PyData → Prop
  | nil : RpAll K H [] []
  | cons {v : V} {vs : List V} {d : PyData} {ds : List PyData} (h : Rp K H v d) (t : RpAll K H vs ds) : RpAll K H (v :: vs) (d :: ds)
end
section
variable {X : Cx} {pins : List (Addr × Obj)} {σ : L2.St} {H : Hp} {s : Shared}
mutual
theorem Rp.told (I : Inv X pins σ H s) : ∀ (d : PyData) (v : V) (u : Value), Rp X.K H v d → RelV v u → d.shown.length ≤ sizeLine →
    ∃ as bs, Reads s.heap u d as ∧ ReadAtMost s.heap d.depth bs ∧ ReprK X.prog X.w bs s.heap d.depth u d.shown
  | .none, _, _, h, r, _ => by
    cases h; cases r
    exact ⟨[], [], .none, (fun _ z => by cases z), by simp only [PyData.shown]; exact .of_is ReprIs.none _ _ _⟩
  | .bool b, _, _, h, r, _ => by
    cases h; cases r
    exact ⟨[], [], .bool b, (fun _ z => by cases z), by simp only [PyData.shown]; exact .of_is (ReprIs.bool b) _ _ _⟩
  | .int i, _, _, h, r, _ => by
    cases h with
    | int _ hi =>
      obtain ⟨t, rfl⟩ := r
      exact ⟨[], [], .int i t, (fun _ z => by cases z), by simp only [PyData.shown]; exact .of_is (ReprIs.int t hi) _ _ _⟩
  | .str x, _, _, h, r, z => by
    cases h
    obtain ⟨t, rfl⟩ := r
    simp only [PyData.shown] at z
    exact ⟨[], [], .str x t, (fun _ z => by cases z), by simp only [PyData.shown]; exact .of_is (ReprIs.str x t z) _ _ _⟩
  | .list ds, _, _, h, r, z => by
    cases h with
    | lst hs ht =>
      cases r
      obtain ⟨its, rv, ⟨o, n, ho, hc, _, hd⟩, _⟩ := I.list hs
      simp only [PyData.shown] at z
      obtain ⟨as, bs, h1, h2, h3⟩ := RpAll.told I ds _ its ht rv (fun t q => Nat.le_trans (listText_mem_le q) z)
      have rd : Reads s.heap _ (.list ds) _ := .list ho hc hd h1
      refine ⟨_, _, rd, ReadAtMost.cons rd (by simp only [PyData.depth]; omega) h2, ?_⟩
      have na := not_mem_of_deeper rd (by simp only [PyData.depth]; omega) h2
      simp only [PyData.shown, PyData.depth]
      match its, hd, h1, h3 with
      | [], hd, h1, h3 =>
        cases h1
        simp only [PyData.shownAll, listText_nil]
        exact ReprK.listEmpty ho hc hd
      | x :: l, hd, h1, h3 => exact ReprK.list ho hc hd na (by simpa using h3.length_eq) (fun i y e => h3.item i y (by simpa using e))
  | .tuple ds, _, _, h, r, z => by
    cases h with
    | tup hs ht =>
      cases r
      obtain ⟨its, rv, ⟨o, ho, hc, n, hd⟩, _⟩ := I.tuple hs
      simp only [PyData.shown] at z
      obtain ⟨as, bs, h1, h2, h3⟩ := RpAll.told I ds _ its ht rv (fun t q => Nat.le_trans (tupleText_mem_le q) z)
      have rd : Reads s.heap _ (.tuple ds) _ := .tuple ho hc hd h1
      refine ⟨_, _, rd, ReadAtMost.cons rd (by simp only [PyData.depth]; omega) h2, ?_⟩
      simp only [PyData.shown, PyData.depth]
      exact ReprK.tuple ho hc hd (not_mem_of_deeper rd (by simp only [PyData.depth]; omega) h2) h3
  | .dict [], _, _, h, r, _ => by
    cases h with
    | dct hs =>
      cases r
      obtain ⟨_, hy, vs, rk, o, es, ep, ho, ⟨hc, _⟩, hd, _, he, _⟩ := I.hok _ _ hs
      cases rk
      have e0 : es.toList = [] := by
        cases hq : es.toList with
        | nil => rfl
        | cons x l => rw [hq] at he; cases he
      have rd : Reads s.heap _ (.dict []) _ := .dict ho hc hd (by rw [e0]; exact .nil) (by rw [e0]; exact .nil)
      refine ⟨_, _, rd, ReadAtMost.cons (bs := []) rd (Nat.le_refl _) (fun _ z => by cases z), ?_⟩
      simp only [PyData.shown, PyData.depth, PyData.shownKv]
      refine (ReprK.dict (d := 0) ho hc hd hy (fun z => by cases z) ?_).level_le (by simp [PyData.depthKv])
      rw [e0]
      exact .nil
  | .dict (_ :: _), _, _, h, _, _ => by cases h
theorem RpAll.told (I : Inv X pins σ H s) : ∀ (ds : List PyData) (vs : List V) (us : List Value), RpAll X.K H vs ds → Vals vs us → (∀ t ∈ PyData.shownAll ds, t.length ≤ sizeLine) →
    ∃ as bs, ReadsAll s.heap us ds as ∧ ReadAtMost s.heap (PyData.depthAll ds) bs ∧ ReprAllK X.prog X.w bs s.heap (PyData.depthAll ds) us (PyData.shownAll ds)
  | [], _, _, h, r, _ => by
    cases h; cases r
    exact ⟨[], [], .nil, (fun _ z => by cases z), by simp only [PyData.shownAll]; exact .nil⟩
  | d :: ds, _, _, h, r, z => by
    cases h with
    | cons h1 h2 =>
      cases r with
      | cons r1 r2 =>
        simp only [PyData.shownAll, List.mem_cons] at z
        obtain ⟨a1, b1, x1, y1, z1⟩ := Rp.told I d _ _ h1 r1 (z _ (.inl rfl))
        obtain ⟨a2, b2, x2, y2, z2⟩ := RpAll.told I ds _ _ h2 r2 (fun t q => z t (.inr q))
        refine ⟨_, b1 ++ b2, .cons x1 x2, ?_, ?_⟩
        · simp only [PyData.depthAll]
          exact (y1.mono (Nat.le_max_left _ _)).append (y2.mono (Nat.le_max_right _ _))
        · simp only [PyData.depthAll, PyData.shownAll]
          exact .cons ((z1.more fun b q => List.mem_append_left _ q).level_le (Nat.le_max_left _ _)) (z2.more_le (fun b q => List.mem_append_right _ q) (Nat.le_max_right _ _))
end
end
def rRepr (K : PySem.W.Frag) : List V → Hp → VK → Prop := fun xs H Q => ∃ v d, xs = [v] ∧ Rp K H v d ∧ d.shown.length ≤ sizeLine ∧ d.depth ≤ 60 ∧ Q (.str d.shown) H
theorem cr_repr {X : Cx} (hg : X.A.guards = some []) (hu : X.A.units + 64 < cLine) : CallR X (.builtin "repr") (rRepr X.K) := by
  intro pins s σ H xs us Q I r h
  obtain ⟨v, d, rfl, hp, hz, hd, q⟩ := h
  cases r with
  | cons r rr =>
    cases rr
    rename_i u
    have fin : ∀ h' t tk, (∀ b o, s.heap.get? b = some o → h'.get? b = some o) → EP X pins σ Q (.str d.shown t) { s with heap := h', toks := tk } := fun h' t tk k => ⟨.str d.shown, H, I.kept k, ⟨_, rfl⟩, q⟩
    cases hp with
    | non => cases r; exact P.repr_of_none (fin s.heap _ _ fun _ _ e => e)
    | bl b => cases r; exact P.repr_of_bool (fin s.heap _ _ fun _ _ e => e)
    | int i hi => obtain ⟨t, rfl⟩ := r; exact P.repr_of_int hi (fin s.heap _ _ fun _ _ e => e)
    | str x => obtain ⟨t, rfl⟩ := r; exact P.repr_of_str (by simp only [PyData.shown] at fin; exact fin s.heap _ _ fun _ _ e => e) (by simpa only [PyData.shown] using hz)
    | lst hs ht =>
      cases r
      obtain ⟨its, rv, ⟨o, n, ho, hc, _, hdt⟩, _⟩ := I.list hs
      simp only [PyData.shown] at hz fin
      simp only [PyData.depth] at hd
      obtain ⟨as, bs, h1, h2, h3⟩ := RpAll.told I _ _ its ht rv (fun t q => Nat.le_trans (listText_mem_le q) hz)
      have rd : Reads s.heap _ (.list _) _ := .list ho hc hdt h1
      have na := not_mem_of_deeper rd (by simp only [PyData.depth]; omega) h2
      refine call_repr_slot (by omega) ⟨o, ho, hc⟩ F.slot_list_repr.toG ?_
      match its, hdt, h1, h3 with
      | [], hdt, h1, h3 =>
        cases h1
        simp only [PyData.shownAll, listText_nil] at fin
        exact call_list_repr_empty ⟨o, ho, hc⟩ ho hdt ⟨_, _, rfl, fin s.heap _ _ fun _ _ e => e⟩
      | x :: l, hdt, h1, h3 =>
        exact call_list_reprK ho hc hdt na (by simpa using h3.length_eq) (fun i y e => h3.item i y (by simpa using e)) hg (fun b _ => Clear.nil b) (by show X.A.units + 1 + _ < _; omega) (fun _ _ e => e) (fun h' t tk k => ⟨_, _, rfl, fin h' t tk k⟩) hz
    | tup hs ht =>
      cases r
      obtain ⟨its, rv, ⟨o, ho, hc, n, hdt⟩, _⟩ := I.tuple hs
      simp only [PyData.shown] at hz fin
      simp only [PyData.depth] at hd
      obtain ⟨as, bs, h1, h2, h3⟩ := RpAll.told I _ _ its ht rv (fun t q => Nat.le_trans (tupleText_mem_le q) hz)
      have rd : Reads s.heap _ (.tuple _) _ := .tuple ho hc hdt h1
      have na := not_mem_of_deeper rd (by simp only [PyData.depth]; omega) h2
      refine call_repr_slot (by omega) ⟨o, ho, hc⟩ F.slot_tuple_repr ?_
      exact call_tuple_reprK ho hc hdt na h3 hg (fun b _ => Clear.nil b) (by show X.A.units + 1 + _ < _; omega) (fun _ _ e => e) (fun h' t tk k => ⟨_, _, rfl, fin h' t tk k⟩) hz
    | dct hs =>
      cases r
      obtain ⟨_, hy, vs, rk, o, es, ep, ho, ⟨hc, _⟩, hdt, _, he, _⟩ := I.hok _ _ hs
      cases rk
      have e0 : es.toList = [] := by
        cases hq : es.toList with
        | nil => rfl
        | cons x l => rw [hq] at he; cases he
      refine call_repr_slot (by omega) ⟨o, ho, hc⟩ F.slot_dict_repr ?_
      refine call_dict_reprK (as := []) (d := 0) (ps := []) ho hc hdt hy (fun z => by cases z) (by rw [e0]; exact .nil) hg (fun b _ => Clear.nil b) (by show X.A.units + 1 + _ < _; omega) (fun _ _ e => e) (fun h' t tk k => ⟨_, _, rfl, ?_⟩) (by decide +kernel)
      have := fin h' t tk k
      simpa only [PyData.shown, PyData.shownKv] using this
end Jr
namespace Jr
open PySem PySem.Spec PyProof.Rows L2
/-! ### what repr shows, its size and depth -/
section
variable {K : PySem.W.Frag} {H H' : Hp}
theorem sqT_same {a : Addr} {xs : List V} (s : Same H H') (h : SqT K H a xs) : SqT K H' a xs := by
  rcases h with (h | ⟨o, h⟩) | h
  · exact .inl (.inl (s _ _ h))
  · exact .inl (.inr ⟨o, s _ _ h⟩)
  · exact .inr h
mutual
theorem Rp.same (s : Same H H') : ∀ (d : PyData) (v : V), Rp K H v d → Rp K H' v d
  | .none, _, h => by cases h; exact .non
  | .bool b, _, h => by cases h; exact .bl b
  | .int i, _, h => by cases h with | int _ g => exact .int i g
  | .str x, _, h => by cases h; exact .str x
  | .list ds, _, h => by cases h with | lst g t => exact .lst (s.seq g) (RpAll.same s ds _ t)
  | .tuple ds, _, h => by cases h with | tup g t => exact .tup (sqT_same s g) (RpAll.same s ds _ t)
  | .dict [], _, h => by cases h with | dct g => exact .dct (s _ _ g)
  | .dict (_ :: _), _, h => by cases h
theorem RpAll.same (s : Same H H') : ∀ (ds : List PyData) (vs : List V), RpAll K H vs ds → RpAll K H' vs ds
  | [], _, h => by cases h; exact .nil
  | d :: ds, _, h => by cases h with | cons g t => exact .cons (Rp.same s d _ g) (RpAll.same s ds _ t)
end
/-- v is shown as d, with at most b signs, nested at most m deep -/
structure Rq (K : PySem.W.Frag) (H : Hp) (b m : Nat) (v : V) (d : PyData) : Prop where
  rp : Rp K H v d
  len : d.shown.length ≤ b
  dep : d.depth ≤ m
theorem Rq.same {b m : Nat} {v : V} {d : PyData} (h : Rq K H b m v d) (s : Same H H') : Rq K H' b m v d := ⟨h.rp.same s, h.len, h.dep⟩
theorem Rq.mono {b m b' m' : Nat} {v : V} {d : PyData} (h : Rq K H b m v d) (hb : b ≤ b') (hm : m ≤ m') : Rq K H b' m' v d := ⟨h.rp, Nat.le_trans h.len hb, Nat.le_trans h.dep hm⟩
theorem Rq.non : Rq K H 4 0 .non .none := ⟨.non, by decide +kernel, Nat.le_refl _⟩
theorem Rq.bl (b : Bool) : Rq K H 5 0 (.bl b) (.bool b) := ⟨.bl b, by cases b <;> decide +kernel, Nat.le_refl _⟩
theorem Rq.str {x : Str} (h : Asc x) : Rq K H (10 * x.length + 2) 0 (.str x) (.str x) := ⟨.str x, by
  simp only [PyData.shown]
  exact StrLaws.reprText_len x fun c hc => Nat.lt_of_le_of_lt (h c hc) (by decide), Nat.le_refl _⟩
theorem int_shown {i : Int} {k : Nat} (hk : 0 < k) (h : i.natAbs < 10 ^ k) : (PyData.int i).shown.length ≤ k + 1 := by
  simp only [PyData.shown]
  show (Str.ofString (toString i)).length ≤ k + 1
  rw [PySem.ofString_length]
  exact int_text_length_le10 hk h
theorem Rq.int {i : Int} {k : Nat} (hk : 0 < k) (hk2 : k ≤ 500) (h : i.natAbs < 10 ^ k) : Rq K H (k + 1) 0 (.int i) (.int i) := ⟨.int i (by
  by_cases e : i.natAbs = 0
  · rw [e]; decide
  · have h2 : (10 : Nat) ^ k ≤ 2 ^ (4 * k) := by
      rw [Nat.pow_mul]
      exact Nat.pow_le_pow_left (by decide) k
    have h3 : i.natAbs.log2 < 4 * k := (Nat.log2_lt e).mpr (by omega)
    by_cases c : k ≤ 480
    · omega
    · have h4 : (10 : Nat) ^ k ≤ 10 ^ 500 := Nat.pow_le_pow_right (by decide) hk2
      have h5 : (10 : Nat) ^ 500 < 2 ^ 1700 := by decide +kernel
      have := (Nat.log2_lt e).mpr (show i.natAbs < 2 ^ 1700 by omega)
      omega), int_shown hk h, Nat.le_refl _⟩
theorem shownAll_len : ∀ ds : List PyData, (PyData.shownAll ds).length = ds.length
  | [] => by simp [PyData.shownAll]
  | d :: ds => by simp [PyData.shownAll, shownAll_len ds]
theorem shownAll_sum {b : Nat} : ∀ ds : List PyData, (∀ d ∈ ds, d.shown.length ≤ b) → ((PyData.shownAll ds).map (·.length)).sum ≤ b * ds.length
  | [], _ => by simp [PyData.shownAll]
  | d :: ds, h => by
    have h1 := h d List.mem_cons_self
    have h2 := shownAll_sum ds fun x hx => h x (List.mem_cons_of_mem _ hx)
    simp only [PyData.shownAll, List.map_cons, List.sum_cons, List.length_cons, Nat.mul_succ]
    omega
theorem depthAll_le {m : Nat} : ∀ ds : List PyData, (∀ d ∈ ds, d.depth ≤ m) → PyData.depthAll ds ≤ m
  | [], _ => by simp [PyData.depthAll]
  | d :: ds, h => by
    have h1 := h d List.mem_cons_self
    have h2 := depthAll_le ds fun x hx => h x (List.mem_cons_of_mem _ hx)
    simp only [PyData.depthAll]
    omega
theorem rqAll {b m : Nat} : ∀ {xs : List V} {ds : List PyData}, Paired (Rq K H b m) xs ds → RpAll K H xs ds ∧ (∀ d ∈ ds, d.shown.length ≤ b) ∧ (∀ d ∈ ds, d.depth ≤ m) ∧ ds.length = xs.length
  | _, _, .nil => ⟨.nil, (fun _ h => by cases h), (fun _ h => by cases h), rfl⟩
  | _, _, .cons r t => by
    obtain ⟨h1, h2, h3, h4⟩ := rqAll t
    refine ⟨.cons r.rp h1, fun d hd => ?_, fun d hd => ?_, by rw [List.length_cons, List.length_cons, h4]⟩
    · rcases List.mem_cons.mp hd with rfl | hd
      · exact r.len
      · exact h2 d hd
    · rcases List.mem_cons.mp hd with rfl | hd
      · exact r.dep
      · exact h3 d hd
theorem Rq.list {b m : Nat} {a : Addr} {xs : List V} {ds : List PyData} (h : SqL K H a xs) (t : Paired (Rq K H b m) xs ds) : Rq K H (b * xs.length + 2 * xs.length + 3) (m + 1) (.ref a) (.list ds) := by
  obtain ⟨h1, h2, h3, h4⟩ := rqAll t
  have l1 := listText_len_le (PyData.shownAll ds)
  have l2 := shownAll_sum ds h2
  rw [shownAll_len, h4] at l1
  rw [h4] at l2
  refine ⟨.lst h h1, by simp only [PyData.shown]; omega, ?_⟩
  have := depthAll_le ds h3
  simp only [PyData.depth]
  omega
theorem Rq.tup {b m : Nat} {a : Addr} {xs : List V} {ds : List PyData} (h : SqT K H a xs) (t : Paired (Rq K H b m) xs ds) : Rq K H (b * xs.length + 2 * xs.length + 3) (m + 1) (.ref a) (.tuple ds) := by
  obtain ⟨h1, h2, h3, h4⟩ := rqAll t
  have l1 := tupleText_len_le (PyData.shownAll ds)
  have l2 := shownAll_sum ds h2
  rw [shownAll_len, h4] at l1
  rw [h4] at l2
  refine ⟨.tup h h1, by simp only [PyData.shown]; omega, ?_⟩
  have := depthAll_le ds h3
  simp only [PyData.depth]
  omega
theorem Rq.dct {a : Addr} (h : H a = some (.dK [])) : Rq K H 2 1 (.ref a) (.dict []) := ⟨.dct h, by decide +kernel, by decide⟩
theorem Rq.use {b m : Nat} {v : V} {d : PyData} {Q : VK} (h : Rq K H b m v d) (hb : b ≤ 16000000) (hm : m ≤ 60) (q : Q (.str d.shown) H) : rRepr K [v] H Q :=
  ⟨v, d, rfl, h.rp, Nat.le_trans (Nat.le_trans h.len hb) (by decide), Nat.le_trans h.dep hm, q⟩
theorem Rq.sz {b m : Nat} {v : V} {d : PyData} (h : Rq K H b m v d) (hb : b ≤ 16000000) : d.shown.length ≤ sizeLine := Nat.le_trans (Nat.le_trans h.len hb) (by decide)
theorem Rq.dp {b m : Nat} {v : V} {d : PyData} (h : Rq K H b m v d) (hm : m ≤ 60) : d.depth ≤ 60 := Nat.le_trans h.dep hm
/-- flat things -/
theorem Rq.strs {xs : List Str} (h : ∀ x ∈ xs, Asc x ∧ x.length ≤ 20) : Paired (Rq K H 202 0) (xs.map V.str) (xs.map PyData.str) := by
  induction xs with
  | nil => exact .nil
  | cons x xs ih =>
    refine .cons ((Rq.str (h x List.mem_cons_self).1).mono (by have := (h x List.mem_cons_self).2; omega) (Nat.le_refl _)) (ih fun y hy => h y (List.mem_cons_of_mem _ hy))
theorem paired_same {b m : Nat} {xs : List V} {ds : List PyData} (s : Same H H') (h : Paired (Rq K H b m) xs ds) : Paired (Rq K H' b m) xs ds := L2.Paired.mapP h fun _ _ q => q.same s
end
theorem rq_all {K : PySem.W.Frag} {H : Hp} {b m : Nat} : ∀ us : List V, (∀ v ∈ us, ∃ d, Rq K H b m v d) → ∃ dd, Paired (Rq K H b m) us dd
  | [], _ => ⟨_, .nil⟩
  | u :: us, h => by
    obtain ⟨d, hd⟩ := h u List.mem_cons_self
    obtain ⟨dd, hdd⟩ := rq_all us fun v hv => h v (List.mem_cons_of_mem _ hv)
    exact ⟨_, .cons hd hdd⟩
theorem join_asc0 {ps : List Str} (h : ∀ p ∈ ps, Asc p) : Asc (Txt.join (Str.ofString "") ps) := fun c hc => by
  rw [join_cps] at hc
  obtain ⟨y, hy, hxy⟩ := List.mem_flatMap.mp hc
  exact h y hy c hxy
end Jr
namespace Jr
open PySem PySem.Spec PyProof.Rows L2
theorem pc_text {z : Str} {rs : Rws} (T : TabOk z rs) {p : Str} (h : p ∈ pcs z rs) : TextOf z p := by
  have key : ∀ n, n ≤ rs.length → ∀ p ∈ pcs z (rs.take n), TextOf z p := fun n => by
    induction n with
    | zero =>
      intro _ p hp
      have hp2 : p ∈ sgs z ++ [] := hp
      rw [List.append_nil] at hp2
      obtain ⟨c, hc, rfl⟩ := List.mem_map.mp hp2
      intro d hd
      have e : d = c := by simpa [sgn] using hd
      rw [e]; exact hc
    | succ n ih =>
      intro hn p hp
      have hx : rs[n]? = some rs[n] := List.getElem?_eq_getElem (by omega)
      rw [List.take_add_one, hx] at hp
      have hp2 : p ∈ pcs z (rs.take n ++ [rs[n]]) := hp
      rw [pcs_snoc] at hp2
      rcases List.mem_append.mp hp2 with hp3 | hp3
      · exact ih (by omega) p hp3
      · rw [List.mem_singleton] at hp3
        rw [hp3]
        have o := T.rows n _ hx
        exact text_app (ih (by omega) _ o.lm) (ih (by omega) _ o.rm)
  have := key rs.length (Nat.le_refl _) p
  rw [List.take_length] at this
  exact this h
end Jr
namespace Jr
open PySem PySem.Spec PyProof.Rows L2
theorem join_pcs {z : Str} {rs : Rws} (T : TabOk z rs) {qs : List Str} (h : ∀ q ∈ qs, q ∈ pcs z rs) : TextOf z (Txt.join (Str.ofString "") qs) ∧ (Txt.join (Str.ofString "") qs).length ≤ qs.length * 16 :=
  ⟨join_text fun q hq => pc_text T (h q hq), by rw [join_len]; exact sum_le qs 16 fun q hq => (T.plen (h q hq)).2⟩
theorem passAll_ne : ∀ (rs : Rws) (xs : List Str), xs ≠ [] → passAll rs xs ≠ []
  | [], _, h => h
  | r :: rs, xs, h => passAll_ne rs _ (pass1_ne r.1 r.2 xs h)
theorem sweep_ne {rs : Rws} {t : Str} (h : t ≠ Str.ofString "") : sweep rs t ≠ [] := passAll_ne rs _ fun e => h (str_ext (by
  have e2 : (Str.ofString "").cps.toList = [] := by decide +kernel
  rw [e2]
  unfold sgs at e
  exact List.map_eq_nil_iff.mp e))
theorem ne_str {a b : Str} (h : (!decide (V.str a = V.str b)) = true) : a ≠ b := fun e => by
  rw [e, decide_eq_true rfl] at h
  cases h
end Jr
namespace Jr
open PySem PySem.Spec PyProof.Rows L2
/-- a text with a sign that is not the table's is no piece -/
theorem strange_pc {z : Str} {rs : Rws} (T : TabOk z rs) {t : Str} {c : Nat} (hc : c ∈ t.cps.toList) (nc : ¬ c ∈ z.cps.toList) : ¬ t ∈ pcs z rs := fun h => nc (pc_text T h c hc)
section
variable {P : Program} {w : World} {K : PySem.W.Frag} {mg : Str → Option Value} {base : Heap}
def OddT (K : PySem.W.Frag) (H : Hp) (z : Str) (rs : Rws) (v : V) : Prop := NoPc K H z rs v ∧ ∃ d, Rq K H 300 2 v d
theorem OddT.same {K : PySem.W.Frag} {H H' : Hp} {z : Str} {rs : Rws} {v : V} (h : OddT K H z rs v) (s : Same H H') : OddT K H' z rs v := by
  obtain ⟨a, d, b⟩ := h
  exact ⟨a.same s, d, b.same s⟩
def spOdd24 (K : PySem.W.Frag) : Sp := fun vs H Q _ => ∃ (z : Str) (rs : Rws) (p : Str) (c d : Nat), vs = [.str p, .str (sgn c), .int (d : Nat)] ∧ TabOk z rs ∧ Asc p ∧ p.length ≤ 20 ∧ c ≤ 126 ∧ ¬ c ∈ z.cps.toList ∧ d < 10 ∧ ∀ H' v, Same H H' → OddT K H' z rs v → (∀ t, v = .str t → Asc t ∧ t.length ≤ p.length + 1) → Q v H'
theorem cal__law_odd (T : Tx K mg) : Cal P w K mg base CX0 1 "_law_odd" (spOdd24 K) := by
  obtain ⟨fd, F⟩ := T.d__law_odd
  refine ⟨_, fd, P__law_odd, F.ok sc__law_odd (fun vs H Q E h => ?_) (fun cdv A outer s H vs Q E hr h => ?_), T.g__law_odd, F.kp, F.bindsN (ps := P__law_odd) fun _ _ _ _ _ _ us hl => match us, hl with | [_, _, _], _ => rfl⟩
  · obtain ⟨z, rs, p, c, d, rfl, _⟩ := h
    rfl
  · obtain ⟨z, rs, p, c, d, rfl, tk, pa, pl, c126, nc, hd, k⟩ := h
    refine ⟨_, (PSs.nox (pss_one (ps_ret (pe_ix ix_list (pe_lstG (pa_cons pe_non (pa_cons pe_bl (pa_cons pe_int (pa_cons pe_str (pa_cons (pv 1) (pa_cons (pe_op op_add_str (pv 0) (pv 1)) (pa_cons (pe_lstG (pa_cons (pv 0) pa_nil)) (pa_cons (pe_tupG (pa_cons (pv 0) pa_nil)) (pa_cons pe_dnewK (pa_cons (pe_tupG (pa_cons (pe_lstG pa_nil) pa_nil)) pa_nil))))))))))) (pv 2) (fun _ _ => rfl))))), ?_⟩
    have sl := sgn_len c
    refine ⟨_, rfl, _, rfl, _, rfl, _, _, rfl, rfl, sz (by omega), _, rfl, (by show 1 ≤ sizeLine; decide), fun l1 H1 n1 s1 h1 => ?_⟩
    refine ⟨_, rfl, (by show 1 ≤ sizeLine; decide), fun l2 H2 n2 s2 h2 => ?_⟩
    intro l3 n3
    have s3 := Same.new (o := .dK []) n3
    have h3 : (upd H2 l3 (.dK [])) l3 = some (.dK []) := upd_same
    revert s3 h3
    generalize (upd H2 l3 (.dK [])) = H3
    intro s3 h3
    refine ⟨(by show 0 ≤ sizeLine; decide), fun l4 H4 n4 s4 h4 => ?_⟩
    refine ⟨(by show 1 ≤ sizeLine; decide), fun l5 H5 n5 s5 h5 => ?_⟩
    refine ⟨(by show 10 ≤ sizeLine; decide), fun l6 H6 n6 s6 h6 => ?_⟩
    have b1 := (s2.trans (s3.trans (s4.trans (s5.trans s6)))) _ _ h1
    have b2 := (s3.trans (s4.trans (s5.trans s6))) _ _ h2
    have b3 := (s4.trans (s5.trans s6)) _ _ h3
    have b4 := (s5.trans s6) _ _ h4
    have b5 := s6 _ _ h5
    have sA := s1.trans (s2.trans (s3.trans (s4.trans (s5.trans s6))))
    have al := app_len p (sgn c)
    have asg : Asc (sgn c) := asc_sgn c126
    have rp : Paired (Rq K H6 250 0) [V.str p] [PyData.str p] := .cons ((Rq.str pa).mono (by omega) (Nat.le_refl _)) .nil
    have csg : c ∈ (sgn c).cps.toList := by show c ∈ [c]; exact List.mem_cons_self
    obtain ⟨v, A, hv, hs⟩ : ∃ v, atI [V.non, V.bl true, V.int 0, V.str (Str.ofString ""), V.str (sgn c), V.str (p ++ sgn c), V.ref l1, V.ref l2, V.ref l3, V.ref l5] ((d : Nat) : Int) = some v ∧ OddT K H6 z rs v ∧ (∀ t, v = .str t → Asc t ∧ t.length ≤ p.length + 1) := by
      clear k
      rcases (show d = 0 ∨ d = 1 ∨ d = 2 ∨ d = 3 ∨ d = 4 ∨ d = 5 ∨ d = 6 ∨ d = 7 ∨ d = 8 ∨ d = 9 by omega) with rfl | rfl | rfl | rfl | rfl | rfl | rfl | rfl | rfl | rfl
      · exact ⟨_, ats (i := 0) rfl, ⟨.inr noStr_non, _, Rq.non.mono (by decide) (by decide)⟩, fun t e => by cases e⟩
      · exact ⟨_, ats (i := 1) rfl, ⟨.inr (noStr_bl _), _, (Rq.bl _).mono (by decide) (by decide)⟩, fun t e => by cases e⟩
      · exact ⟨_, ats (i := 2) rfl, ⟨.inr (noStr_int _), _, (Rq.int (k := 1) (by decide) (by decide) (by decide)).mono (by decide) (by decide)⟩, fun t e => by cases e⟩
      · have e3 : (Str.ofString "").length = 0 := by decide +kernel
        have a3 : Asc (Str.ofString "") := fun c hc => by
          have e : (Str.ofString "").cps.toList = [] := by decide +kernel
          rw [e] at hc
          cases hc
        exact ⟨_, ats (i := 3) rfl, ⟨.inl ⟨_, rfl, fun h => by have := (tk.plen h).1; omega⟩, _, (Rq.str a3).mono (by omega) (by decide)⟩, fun t e => by cases e; exact ⟨a3, by omega⟩⟩
      · exact ⟨_, ats (i := 4) rfl, ⟨.inl ⟨_, rfl, strange_pc tk csg nc⟩, _, (Rq.str asg).mono (by omega) (by decide)⟩, fun t e => by cases e; exact ⟨asg, by omega⟩⟩
      · exact ⟨_, ats (i := 5) rfl, ⟨.inl ⟨_, rfl, strange_pc tk (c := c) (by rw [app_cps]; exact List.mem_append_right _ csg) nc⟩, _, (Rq.str (asc_app pa asg)).mono (by omega) (by decide)⟩, fun t e => by cases e; exact ⟨asc_app pa asg, by omega⟩⟩
      · exact ⟨_, ats (i := 6) rfl, ⟨.inr (noStr_lst b1), _, (Rq.list (SqL.of b1) rp).mono (by show 250 * 1 + 2 * 1 + 3 ≤ 300; decide) (by decide)⟩, fun t e => by cases e⟩
      · exact ⟨_, ats (i := 7) rfl, ⟨.inr (noStr_tup b2), _, (Rq.tup (SqT.of b2) rp).mono (by show 250 * 1 + 2 * 1 + 3 ≤ 300; decide) (by decide)⟩, fun t e => by cases e⟩
      · exact ⟨_, ats (i := 8) rfl, ⟨.inr (noStr_dK b3), _, (Rq.dct b3).mono (by decide) (by decide)⟩, fun t e => by cases e⟩
      · exact ⟨_, ats (i := 9) rfl, ⟨.inr (noStr_tup b5), _, (Rq.tup (b := 3) (m := 1) (SqT.of b5) (.cons ((Rq.list (b := 0) (m := 0) (SqL.of b4) .nil)) .nil)).mono (by show 3 * 1 + 2 * 1 + 3 ≤ 300; decide) (by decide)⟩, fun t e => by cases e⟩
    exact ⟨_, rfl, l6, _, _, _, rfl, rfl, SqL.of h6, A, k _ v sA hv hs⟩
end
end Jr
namespace Jr
open PySem PySem.Spec PyProof.Rows L2
/-! ### comprehensions whose test and element may make new things: a filter and a map -/
section
variable {α : Type} {item : α → V} {p : α → Bool} {f : α → V} {g : TG} {tt : TT} {te : TE} {vs : List Nat} {σ : L2.St} {H1 : Hp} {D : Addr} {Qd : Hp → Prop}
/-- one turn of such a comprehension -/
def LcTurnC (item : α → V) (p : α → Bool) (f : α → V) (g : TG) (tt : TT) (te : TE) (vs : List Nat) (σ : L2.St) (H1 : Hp) (x : α) : Prop :=
  ∀ (H' : Hp), Same H1 H' → ∀ (N : Hp → Prop) (M : V → Hp → Prop), (p x = true → ∀ H2, Same H' H2 → M (f x) H2) → (p x = false → ∀ H2, Same H' H2 → N H2) →
    g (item x) (wipe σ vs) H' fun σ2 H2 => wipe σ2 vs = wipe σ vs ∧ tt σ2 H2 fun b H3 => if b = true then te σ2 H3 M else N H3
theorem lc_stepC {l : List α} {i : Nat} {x : α} {H : Hp} (hD : H1 D = none) (hx : l[i]? = some x) (hlen : l.length ≤ 100000) (turn : LcTurnC item p f g tt te vs σ H1 x)
    (sm : Same H1 H) (hL : H D = some (.lst (((l.take i).filter p).map f))) :
    g (item x) (wipe σ vs) H fun σ2 H2 => wipe σ2 vs = wipe σ vs ∧ tt σ2 H2 fun b H3 =>
      if b = true then te σ2 H3 fun y H4 => ∃ acc, H4 D = some (.lst acc) ∧ acc.length < sizeLine ∧ (fun H' => Same H1 H' ∧ H' D = some (.lst (((l.take (i + 1)).filter p).map f))) (upd H4 D (.lst (acc ++ [y])))
      else (fun H' => Same H1 H' ∧ H' D = some (.lst (((l.take (i + 1)).filter p).map f))) H3 := by
  have e : l.take (i + 1) = l.take i ++ [x] := by rw [List.take_add_one, hx]; rfl
  refine turn H sm _ _ (fun hp H2 s2 => ?_) (fun hp H2 s2 => ?_)
  · refine ⟨_, s2 _ _ hL, ?_, Same.mut (sm.trans s2) hD, ?_⟩
    · have h1 : ((l.take i).filter p).length ≤ (l.take i).length := List.length_filter_le ..
      have h2 : (l.take i).length ≤ i := by rw [List.length_take]; omega
      have h3 : i < l.length := (List.getElem?_eq_some_iff.mp hx).1
      rw [List.length_map]
      exact szl (by omega)
    · rw [upd_same, e, List.filter_append, List.map_append]
      simp [hp]
  · refine ⟨sm.trans s2, ?_⟩
    rw [s2 _ _ hL, e, List.filter_append, List.map_append]
    simp [hp]
theorem lc_listC {K : PySem.W.Frag} {a : Addr} {l : List α} (hS : SqL K H1 a (l.map item)) (hD : H1 D = none) (hlen : l.length ≤ 100000) (turn : ∀ x ∈ l, LcTurnC item p f g tt te vs σ H1 x)
    (hd : ∀ H, Same H1 H → H D = some (.lst ((l.filter p).map f)) → Qd H) :
    ∃ W : Nat → Nat → Hp → Prop, (∃ m, W 0 m (upd H1 D (.lst []))) ∧ ∀ i m H, W i m H →
      ((Itl K a).stop i H ∧ Qd H) ∨ ((Itl K a).go i H ∧ ∃ Nx : Hp → Prop, (∀ H', Nx H' → ∃ m', m' < m ∧ W (i + 1) m' H') ∧ ∀ x H', (Itl K a).yld i H x H' → g x (wipe σ vs) H' fun σ2 H2 => wipe σ2 vs = wipe σ vs ∧ tt σ2 H2 fun b H3 =>
        if b = true then te σ2 H3 fun y H4 => ∃ acc, H4 D = some (.lst acc) ∧ acc.length < sizeLine ∧ Nx (upd H4 D (.lst (acc ++ [y]))) else Nx H3) := by
  refine lc_list (K := K) (a := a) (xs := l.map item) (fun i H => Same H1 H ∧ H D = some (.lst (((l.take i).filter p).map f))) ⟨Same.new hD, upd_same⟩ (fun i H _ ⟨s, _⟩ => s.seq hS) ?_ ?_
  · rintro i x H hx ⟨sm, hL⟩
    rw [List.getElem?_map] at hx
    cases e : l[i]? with
    | none => rw [e] at hx; cases hx
    | some y =>
      rw [e] at hx
      cases hx
      exact lc_stepC hD e hlen (turn y (List.mem_of_getElem? e)) sm hL
  · rintro H ⟨sm, hL⟩
    rw [List.length_map, List.take_length] at hL
    exact hd H sm hL
end
end Jr
namespace Jr
open PySem PySem.Spec PyProof.Rows L2
/-! ### comprehensions over enumerate(list) -/
section
variable {α : Type} {item : α → V} {g : TG} {tt : TT} {te : TE} {vs : List Nat} {σ : L2.St} {H1 : Hp} {D : Addr} {Qd : Hp → Prop}
def enV (l : List α) (p : Nat → α → Bool) (f : Nat → α → V) (n : Nat) : List V := ((l.zipIdx.take n).filter fun q => p q.2 q.1).map fun q => f q.2 q.1
theorem lc_enumC {K : PySem.W.Frag} {a : Addr} {l : List α} {p : Nat → α → Bool} {f : Nat → α → V} (hS : SqL K H1 a (l.map item)) (hD : H1 D = none) (hlen : l.length ≤ 100000)
    (turn : ∀ i x, l[i]? = some x → ∀ (H' : Hp) (T : Addr), Same H1 H' → H' T = some (.tup [.int (i : Nat), item x]) → ∀ (N : Hp → Prop) (M : V → Hp → Prop), (p i x = true → ∀ H2, Same H' H2 → M (f i x) H2) → (p i x = false → ∀ H2, Same H' H2 → N H2) →
      g (.ref T) (wipe σ vs) H' fun σ2 H2 => wipe σ2 vs = wipe σ vs ∧ tt σ2 H2 fun b H3 => if b = true then te σ2 H3 M else N H3)
    (hd : ∀ H, Same H1 H → H D = some (.lst (enV l p f l.length)) → Qd H) :
    ∃ W : Nat → Nat → Hp → Prop, (∃ m, W 0 m (upd H1 D (.lst []))) ∧ ∀ i m H, W i m H →
      ((Ite K a).stop i H ∧ Qd H) ∨ ((Ite K a).go i H ∧ ∃ Nx : Hp → Prop, (∀ H', Nx H' → ∃ m', m' < m ∧ W (i + 1) m' H') ∧ ∀ y H', (Ite K a).yld i H y H' → g y (wipe σ vs) H' fun σ2 H2 => wipe σ2 vs = wipe σ vs ∧ tt σ2 H2 fun b H3 =>
        if b = true then te σ2 H3 fun y H4 => ∃ acc, H4 D = some (.lst acc) ∧ acc.length < sizeLine ∧ Nx (upd H4 D (.lst (acc ++ [y]))) else Nx H3) := by
  refine ⟨fun i m H => m = l.length - i ∧ i ≤ l.length ∧ Same H1 H ∧ H D = some (.lst (enV l p f i)), ⟨l.length, by simp, Nat.zero_le _, Same.new hD, upd_same⟩, ?_⟩
  rintro i m H ⟨rfl, hi, sm, hL⟩
  have q := sm.seq hS
  by_cases hlt : i < l.length
  · have hx : l[i]? = some l[i] := List.getElem?_eq_getElem hlt
    refine .inr ⟨⟨_, item l[i], q, by rw [List.getElem?_map, hx]; rfl⟩, (fun H' => Same H1 H' ∧ H' D = some (.lst (enV l p f (i + 1)))), fun H' p' => ⟨l.length - (i + 1), by omega, rfl, hlt, p'⟩, fun y H' z => ?_⟩
    obtain ⟨T, x, rfl, hT, rfl, hxx⟩ := z
    have ex := hxx _ q
    rw [List.getElem?_map, hx] at ex
    cases ex
    have hz : l.zipIdx[i]? = some (l[i], i) := by rw [List.getElem?_zipIdx, hx]; simp
    have e : l.zipIdx.take (i + 1) = l.zipIdx.take i ++ [(l[i], i)] := by rw [List.take_add_one, hz]; rfl
    have tD : T ≠ D := fun z => by rw [z, hL] at hT; cases hT
    have hL2 := Same.new (o := .tup [.int (i : Nat), item l[i]]) hT _ _ hL
    refine turn i _ hx _ T (Same.put sm hT) upd_same _ _ (fun hp H2 s2 => ⟨_, s2 _ _ hL2, ?_, Same.mut ((Same.put sm hT).trans s2) hD, ?_⟩) (fun hp H2 s2 => ⟨(Same.put sm hT).trans s2, ?_⟩)
    · unfold enV
      have h1 : ((l.zipIdx.take i).filter fun q => p q.2 q.1).length ≤ (l.zipIdx.take i).length := List.length_filter_le ..
      have h2 : (l.zipIdx.take i).length ≤ i := by rw [List.length_take]; omega
      rw [List.length_map]
      exact szl (by omega)
    · rw [upd_same]
      unfold enV
      rw [e, List.filter_append, List.map_append]
      simp [hp]
    · rw [s2 _ _ hL2]
      unfold enV
      rw [e, List.filter_append, List.map_append]
      simp [hp]
  · have e : i = l.length := by omega
    subst e
    exact .inl ⟨⟨_, q, by rw [List.length_map]; exact Nat.le_refl _⟩, hd H sm hL⟩
theorem enV_first {l : List α} (P : α → Bool) : (enV l (fun _ x => P x) (fun i _ => V.int (i : Nat)) l.length).take 1 = (l.findIdx? P).toList.map fun i => V.int (i : Nat) := by
  unfold enV
  have e0 : l.zipIdx.take l.length = l.zipIdx := List.take_of_length_le (by rw [List.length_zipIdx]; exact Nat.le_refl _)
  rw [e0]
  have key : ∀ (l : List α) (n : Nat), (((l.zipIdx n).filter fun q => P q.1).map fun q => V.int (q.2 : Nat)).take 1 = (l.findIdx? P).toList.map fun i => V.int ((i + n : Nat) : Int) := by
    intro l
    induction l with
    | nil => intro n; rfl
    | cons x l ih =>
      intro n
      rw [List.zipIdx_cons, List.findIdx?_cons, List.filter_cons]
      by_cases c : P x = true
      · rw [if_pos c, if_pos c]
        simp
      · rw [if_neg c, if_neg c, ih (n + 1)]
        cases l.findIdx? P with
        | none => rfl
        | some j =>
          simp
          omega
  have := key l 0
  simpa using this
theorem enV_all {l : List α} (P : α → Bool) (f : Nat → V) (n : Nat) (h : ∀ x ∈ l, P x = true) : enV l (fun _ x => P x) (fun i _ => f i) n = (List.range (min n l.length)).map f := by
  unfold enV
  rw [List.filter_eq_self.mpr fun q hq => by
    have h1 := List.mem_of_mem_take hq
    exact h _ (List.fst_mem_of_mem_zipIdx h1)]
  refine List.ext_getElem? fun i => ?_
  rw [List.getElem?_map, List.getElem?_map, List.getElem?_take]
  by_cases c : i < n
  · rw [if_pos c, List.getElem?_zipIdx]
    by_cases c2 : i < l.length
    · rw [List.getElem?_eq_getElem c2, List.getElem?_range (by omega)]
      simp
    · rw [List.getElem?_eq_none (by omega), List.getElem?_eq_none (by rw [List.length_range]; omega)]
      rfl
  · rw [if_neg c, List.getElem?_eq_none (by rw [List.length_range]; omega)]
    rfl
end
end Jr
namespace Jr
open PySem PySem.Spec PyProof.Rows L2
/-! ### what the laws' heads share -/
theorem cells_eq (ns ms : List Int) : cutV (ns.map V.int ++ ms.map V.int) none (some 63) = ((ns ++ ms).take 63).map V.int := by
  rw [show (some (63 : Int)) = some ((63 : Nat) : Int) from rfl, cutV_to, List.map_take, List.map_append]
theorem rest_eq (cs : List Int) : cutV (cs.map V.int) (some 1) none = (cs.drop 1).map V.int := by
  rw [show (some (1 : Int)) = some ((1 : Nat) : Int) from rfl, cutV_from, List.map_drop]
theorem sizes_ok {ns : List Int} (h : ns.all (fun z => decide (0 < z) && decide (z ≤ 1000000)) = true) : ∀ z ∈ ns, 0 < z ∧ z.natAbs.log2 < 9000 := fun z hz => by
  have := List.all_eq_true.mp h z hz
  simp only [Bool.and_eq_true, decide_eq_true_eq] at this
  refine ⟨this.1, ?_⟩
  have : z.natAbs.log2 < 20 := (Nat.log2_lt (by omega)).mpr (by omega)
  omega
/-- a digit, by its place -/
theorem dig {ns ds : List Int} (h : Paired (fun z d => 0 ≤ d ∧ d < z) ns ds) {j : Nat} {z : Int} (hz : ns[j]? = some z) : ∃ n : Nat, ds[j]? = some (n : Int) ∧ (n : Int) < z ∧ atI (ds.map V.int) (j : Int) = some (V.int (n : Int)) := by
  obtain ⟨d, e, b⟩ := Paired.get h hz
  obtain ⟨n, rfl⟩ := Int.eq_ofNat_of_zero_le b.1
  exact ⟨n, e, b.2, atm (f := V.int) e⟩
theorem cut_mid (xs : List Int) (a b : Nat) : cutV (xs.map V.int) (some (a : Int)) (some (b : Int)) = ((xs.drop a).take (b - a)).map V.int := by
  rw [cutV_mid, List.map_take, List.map_drop]
end Jr
namespace Jr
open PySem PySem.Spec PyProof.Rows L2
section
variable {P : Program} {w : World} {K : PySem.W.Frag} {mg : Str → Option Value} {base : Heap} {H : Hp}
theorem first_pc {z : Str} {rs : Rws} : ∀ us : List V, (∀ v ∈ us, (∃ p, p ∈ pcs z rs ∧ v = .str p) ∨ NoPc K H z rs v) → (∃ v ∈ us, NoPc K H z rs v) → ∃ i, FirstPc K H z rs us i
  | [], _, ⟨v, hv, _⟩ => by cases hv
  | u :: us, mix, ⟨v, hv, ho⟩ => by
    by_cases c : ∃ p, p ∈ pcs z rs ∧ u = .str p
    · obtain ⟨p, hp, rfl⟩ := c
      have hv2 : v ∈ us := by
        rcases List.mem_cons.mp hv with rfl | hv
        · exact absurd hp (noPc_str ho)
        · exact hv
      obtain ⟨i, f⟩ := first_pc us (fun w hw => mix w (List.mem_cons_of_mem _ hw)) ⟨v, hv2, ho⟩
      refine ⟨i + 1, fun j w hj hw => ?_, ?_⟩
      · cases j with
        | zero => exact ⟨p, hp, (Option.some.inj hw).symm⟩
        | succ j => exact f.good j w (by omega) hw
      · obtain ⟨w, h1, h2⟩ := f.bad
        exact ⟨w, h1, h2⟩
    · refine ⟨0, fun j w hj hw => absurd hj (Nat.not_lt_zero _), u, rfl, ?_⟩
      rcases mix u List.mem_cons_self with h | h
      · exact absurd h c
      · exact h
/-- what is wrong with a row, whose things are texts or none -/
def Wrong24 (K : PySem.W.Frag) (H : Hp) (z : Str) (rs : Rws) (v u : V) : Prop := (NoLst K H v ∧ u = .non) ∨ ∃ (a : Addr) (us : List V) (i : Nat), v = .ref a ∧ H a = some (.lst us) ∧ us.length ≤ 1000 ∧ (∀ w ∈ us, (∃ t, w = .str t) ∨ NoStr K H w) ∧ FirstPc K H z rs us i ∧ u = .int (i : Nat)
theorem Wrong24.same {K : PySem.W.Frag} {H H' : Hp} {z : Str} {rs : Rws} {v u : V} (h : Wrong24 K H z rs v u) (s : Same H H') : Wrong24 K H' z rs v u := by
  rcases h with ⟨h, e⟩ | ⟨a, us, i, e, hA, ul, tx, fp, eu⟩
  · exact .inl ⟨h.same s, e⟩
  · refine .inr ⟨a, us, i, e, s _ _ hA, ul, fun w hw => ?_, fp.same s, eu⟩
    rcases tx w hw with h | h
    · exact .inl h
    · exact .inr (h.same s)
theorem Wrong24.wrong {K : PySem.W.Frag} {H : Hp} {z : Str} {rs : Rws} {v u : V} (h : Wrong24 K H z rs v u) : WrongP K H z rs v u := by
  rcases h with h | ⟨a, us, i, e, hA, ul, tx, fp, eu⟩
  · exact .inl h
  · exact .inr ⟨a, us, i, e, hA, ul, fp, eu⟩
def Thing24 (K : PySem.W.Frag) (H : Hp) (z : Str) (rs : Rws) (v u : V) : Prop := (∃ d, Rq K H 1000000 4 v d) ∧ Wrong24 K H z rs v u
def Elt24 (K : PySem.W.Frag) (H : Hp) (z : Str) (rs : Rws) (n : Nat) (v : V) : Prop := ((∃ p, p ∈ pcs z rs ∧ v = .str p) ∨ NoPc K H z rs v) ∧ (∃ d, Rq K H 300 2 v d) ∧ ∀ t, v = .str t → Asc t ∧ t.length ≤ n
theorem Elt24.same {K : PySem.W.Frag} {H H' : Hp} {z : Str} {rs : Rws} {n m : Nat} {v : V} (h : Elt24 K H z rs n v) (s : Same H H') (l : n ≤ m) : Elt24 K H' z rs m v := by
  obtain ⟨a, ⟨d, b⟩, c⟩ := h
  refine ⟨?_, ⟨d, b.same s⟩, fun t e => ⟨(c t e).1, Nat.le_trans (c t e).2 l⟩⟩
  rcases a with a | a
  · exact .inl a
  · exact .inr (a.same s)
def spSpoilt24 (K : PySem.W.Frag) : Sp := fun vs H Q _ => ∃ (z : Str) (rs : Rws) (a : Addr) (ys : List Str) (c : Nat) (q : Addr) (ds : List Int), vs = [.ref a, .str (sgn c), .ref q] ∧ TabOk z rs ∧ H a = some (.lst (ys.map V.str)) ∧ ys.length ≤ 8 ∧ (∀ p ∈ ys, p ∈ pcs z rs ∧ Asc p ∧ p.length ≤ 16) ∧ c ≤ 126 ∧ ¬ c ∈ z.cps.toList ∧ SqL K H q (ds.map V.int) ∧ Digs [3, 3, 97, 97, 10, 10] ds ∧ ∀ H' v u, Same H H' → Thing24 K H' z rs v u → Q v H'
theorem cal__law_spoilt (T : Tx K mg) : Cal P w K mg base CX0 2 "_law_spoilt" (spSpoilt24 K) := by
  have C__law_odd := cal__law_odd (P := P) (w := w) (base := base) T
  obtain ⟨fd, F⟩ := T.d__law_spoilt
  refine ⟨_, fd, P__law_spoilt, F.ok sc__law_spoilt (fun vs H Q E h => ?_) (fun cdv A outer s H vs Q E hr h => ?_), T.g__law_spoilt, F.kp, F.bindsN (ps := P__law_spoilt) fun _ _ _ _ _ _ us hl => match us, hl with | [_, _, _], _ => rfl⟩
  · obtain ⟨z, rs, a, ys, c, q, ds, rfl, _⟩ := h
    rfl
  · obtain ⟨z, rs, a, ys, c, q, ds, rfl, tk, hA, yl, hin, c126, nc, hQ, hD, k⟩ := h
    refine ⟨_, (PSs.nox (pss_cons (ps_if (pt_cmpR op_eq (pe_ix ix_list (pv 2) pe_int (fun _ _ => rfl)) pe_int (nomark _)) (pss_one (ps_ret (pe_ix ix_list (pe_lstG (pa_cons (pe_callTy (T := "tuple") call_tuple_of (by rfl) T.n_tuple (by decide +kernel) (pa_cons (pv 0) pa_nil)) (pa_cons (pe_join pe_str (pv 0)) (pa_cons pe_non pa_nil)))) (pe_ix ix_list (pv 2) pe_int (fun _ _ => rfl)) (fun _ _ => rfl)))) pss_nil)
      (pss_cons (ps_for PassesOwn.never rfl (pi_range1 (by rfl) T.n_range (pa_cons (pe_ix ix_list (pv 2) pe_int (fun _ _ => rfl)) pa_nil)) (pg_name (i := 3) sc__law_spoilt.nd rfl (Or.inl rfl)) (pss_cons (ps_set (i := 4) sc__law_spoilt.nd rfl (Or.inl rfl) (pe_ix ix_list (pe_op op_catG (pv 0) (pe_lstG (pa_cons (pv 1) pa_nil))) pe_int (fun _ _ => rfl)))
      (pss_cons (ps_set (i := 5) sc__law_spoilt.nd rfl (Or.inl rfl) (pe_op op_mod (pe_ix ix_list (pv 2) (pe_op op_add pe_int (pv 3)) (fun _ _ => rfl)) (pe_op op_add (pe_callB (id := "len") call_len_seq (by rfl) T.n_len (by decide +kernel) (pa_cons (pv 0) pa_nil)) pe_int)))
      (C8.pss_cut (ps_if (pt_not (pt_val (pe_callB (id := "isinstance") call_isi (by rfl) T.n_isinstance (by decide +kernel) (pa_cons (pv 4) (pa_cons (pe_bltn (v := .ty "str") (by rfl) T.n_str (by decide +kernel) rfl) pa_nil))))) (pss_one (ps_set (i := 4) sc__law_spoilt.nd rfl (Or.inl rfl) (pv 1))) pss_nil)
      (pss_one (ps_set (i := 0) sc__law_spoilt.nd rfl (Or.inl rfl) (pe_op op_catG (pe_op op_catG (pe_slice sl_listG (pv 0) po_none (po_some (pv 5))) (pe_lstG (pa_cons (pe_cal C__law_odd (by first | exact hr | exact hr.mono (by decide)) (by rfl) (pa_cons (pv 4) (pa_cons (pv 1) (pa_cons (pe_ix ix_list (pv 2) (pe_op op_add pe_int (pv 3)) (fun _ _ => rfl)) pa_nil)))) pa_nil))) (pe_slice sl_listG (pv 0) (po_some (pv 5)) po_none))))))))
      (pss_one (ps_ret (pv 0)))))), ?_⟩
    obtain ⟨d0, e0, b0, B0⟩ := dig hD (j := 0) rfl
    obtain ⟨d1, e1, b1, B1⟩ := dig hD (j := 1) rfl
    have hS := SqL.of (K := K) hA
    have ja := join_asc0 (ps := ys) fun p hp => (hin p hp).2.1
    have sl := sum_le ys 16 fun p hp => (hin p hp).2.2
    have jl := join_len (ps := ys)
    have el0 : (Str.ofString "").length = 0 := by decide +kernel
    refine ⟨_, rfl, q, _, _, _, rfl, rfl, hQ, B0, rfl, _, rfl, ite2 (fun _ => ?_) (fun c0 => ?_)⟩
    · refine ⟨_, rfl, a, _, rfl, .inl ⟨hS, fun l1 nl1 => ?_⟩⟩
      have s1 := Same.new (o := .tup (ys.map V.str)) nl1
      have hl1 : (upd H l1 (.tup (ys.map V.str))) l1 = some (.tup (ys.map V.str)) := upd_same
      revert s1 hl1
      generalize (upd H l1 (.tup (ys.map V.str))) = H1
      intro s1 hl1
      refine ⟨⟨_, rfl⟩, _, rfl, _, a, ys, rfl, rfl, .inl (s1.seq hS), (by rw [el0]; omega), (by show 3 ≤ sizeLine; decide), fun l3 H3 n3 s3 h3 => ?_⟩
      have hl3 := s3 _ _ hl1
      obtain ⟨v, A, hv, hn⟩ : ∃ v, atI [V.ref l1, V.str (Txt.join (Str.ofString "") ys), V.non] (d1 : Int) = some v ∧ (∃ d, Rq K H3 1000000 4 v d) ∧ NoLst K H3 v := by
        clear k
        rcases (show d1 = 0 ∨ d1 = 1 ∨ d1 = 2 by omega) with rfl | rfl | rfl
        · exact ⟨_, ats (i := 0) rfl, ⟨_, (Rq.tup (SqT.of hl3) (Rq.strs fun p hp => ⟨(hin p hp).2.1, by have := (hin p hp).2.2; omega⟩)).mono (by rw [List.length_map]; omega) (by decide)⟩, noLst_tup hl3⟩
        · exact ⟨_, ats (i := 1) rfl, ⟨_, (Rq.str ja).mono (by omega) (by decide)⟩, noLst_str _⟩
        · exact ⟨_, ats (i := 2) rfl, ⟨_, Rq.non.mono (by decide) (by decide)⟩, noLst_non⟩
      exact ⟨_, rfl, q, _, _, _, rfl, rfl, (s1.trans s3).seq hQ, B1, l3, _, _, _, rfl, rfl, SqL.of h3, A, k _ v .non (s1.trans s3) ⟨hv, .inl ⟨hn, rfl⟩⟩⟩
    · have n1 : 1 ≤ d0 := by
        rcases Nat.eq_zero_or_pos d0 with z | z
        · rw [z] at c0
          exact absurd c0 (by decide)
        · exact z
      have d3 : d0 < 3 := by omega
      clear c0 B1 e1 b1 ja jl sl
      refine ⟨_, rfl, q, _, _, _, rfl, rfl, hQ, B0, _, rfl, by omega, by omega, ?_⟩
      refine for_range (lo := 0) (n := ((d0 : Nat) : Int).toNat) (fun j σ H' => ∃ (b : Addr) (us : List V) (u1 u2 u3 : Option V), σ = [some (.ref b), some (.str (sgn c)), some (.ref q), u1, u2, u3] ∧ Same H H' ∧ H' b = some (.lst us) ∧ us.length ≤ 8 + j ∧ (∀ v ∈ us, Elt24 K H' z rs (16 + j) v) ∧ (1 ≤ j → ∃ v ∈ us, NoPc K H' z rs v))
        ⟨a, ys.map V.str, _, _, _, rfl, Same.refl _, hA, by rw [List.length_map]; exact yl, fun v hv => ?_, fun h => absurd h (by decide)⟩ ?_ ?_
      · obtain ⟨p, hp, rfl⟩ := List.mem_map.mp hv
        obtain ⟨h1, h2, h3⟩ := hin p hp
        exact ⟨.inl ⟨p, h1, rfl⟩, ⟨_, (Rq.str h2).mono (by omega) (by decide)⟩, fun t e => by cases e; exact ⟨h2, h3⟩⟩
      · rintro j σ H1 hj ⟨b, us, u1, u2, u3, rfl, sm, hB, ul, mix, some1⟩
        have j2 : j < 2 := by omega
        have hB' := SqL.of (K := K) hB
        have hQ1 := sm.seq hQ
        obtain ⟨da, ea, ba, Ba⟩ := dig hD (j := 2 + j) (z := 97) (by rcases (show j = 0 ∨ j = 1 by omega) with rfl | rfl <;> rfl)
        obtain ⟨db, eb, bb, Bb⟩ := dig hD (j := 4 + j) (z := 10) (by rcases (show j = 0 ∨ j = 1 by omega) with rfl | rfl <;> rfl)
        have Ba' : atI (ds.map V.int) ((2 : Int) + (0 + (j : Int))) = some (V.int (da : Int)) := by
          rw [show (2 : Int) + (0 + (j : Int)) = ((2 + j : Nat) : Int) by omega]; exact Ba
        have Bb' : atI (ds.map V.int) ((4 : Int) + (0 + (j : Int))) = some (V.int (db : Int)) := by
          rw [show (4 : Int) + (0 + (j : Int)) = ((4 + j : Nat) : Int) by omega]; exact Bb
        obtain ⟨n, en, nle⟩ : ∃ n : Nat, (da : Int) % (((us.length : Nat) : Int) + 1) = (n : Int) ∧ n ≤ us.length := by
          have h0 := Int.emod_nonneg (da : Int) (show ((us.length : Nat) : Int) + 1 ≠ 0 by omega)
          have h1 := Int.emod_lt_of_pos (da : Int) (show (0 : Int) < ((us.length : Nat) : Int) + 1 by omega)
          obtain ⟨n, hn⟩ := Int.eq_ofNat_of_zero_le h0
          exact ⟨n, hn, by omega⟩
        obtain ⟨v0, A0, E0⟩ : ∃ v0, atI (us ++ [V.str (sgn c)]) 0 = some v0 ∧ Elt24 K H1 z rs (16 + j) v0 := by
          cases us with
          | nil => exact ⟨_, ats (i := 0) rfl, .inr (.inl ⟨_, rfl, strange_pc tk (c := c) (by show c ∈ [c]; exact List.mem_cons_self) nc⟩), ⟨_, (Rq.str (asc_sgn c126)).mono (by have := sgn_len c; omega) (by decide)⟩, fun t e => by cases e; exact ⟨asc_sgn c126, by have := sgn_len c; omega⟩⟩
          | cons u us => exact ⟨u, ats (i := 0) rfl, mix u List.mem_cons_self⟩
        refine ⟨_, rfl, _, rfl, (by show 1 ≤ sizeLine; decide), fun c1 H2 n2 s2 h2 => ?_⟩
        refine ⟨b, c1, _, _, rfl, rfl, s2.seq hB', SqL.of h2, ?_, fun c2 H3 n3 s3 h3 => ?_⟩
        · exact sz (by show us.length + 1 ≤ _; omega)
        refine ⟨c2, _, _, _, rfl, rfl, SqL.of h3, A0, ?_⟩
        refine ⟨_, rfl, _, rfl, _, _, rfl, rfl, q, _, _, _, rfl, rfl, (s2.trans s3).seq hQ1, Ba', _, rfl, b, _, rfl, .inl ((s2.trans s3).seq hB'), _, _, rfl, rfl, _, _, rfl, rfl, (by show (0 : Int) < _; omega), ?_⟩
        show gName 5 (V.int ((da : Int) % (((us.length : Nat) : Int) + 1))) _ _ _
        rw [en]
        refine ⟨fun σ H' => ∃ p, σ = [some (.ref b), some (.str (sgn c)), some (.ref q), some (.int (0 + (j : Int))), some (.str p), some (.int (n : Nat))] ∧ H' = H3 ∧ Asc p ∧ p.length ≤ 16 + j, ?_, ?_⟩
        · rcases E0.1 with ⟨p, _, e⟩ | ⟨t, e, _⟩ | ns
          · subst e
            exact ⟨_, rfl, _, _, _, _, _, rfl, .ty "str", .base (.str _), isStr, _, rfl, iteF ⟨p, rfl, rfl, E0.2.2 p rfl⟩⟩
          · subst e
            exact ⟨_, rfl, _, _, _, _, _, rfl, .ty "str", .base (.str _), isStr, _, rfl, iteF ⟨t, rfl, rfl, E0.2.2 t rfl⟩⟩
          · obtain ⟨ty, hty, hk⟩ := ns.same (s2.trans s3)
            exact ⟨_, rfl, _, _, _, _, _, rfl, .ty "str", hty, hk, _, rfl, iteT ⟨_, rfl, _, rfl, rfl, asc_sgn c126, by have := sgn_len c; omega⟩⟩
        rintro σ H4 ⟨p, rfl, rfl, pa, pl⟩
        have s23 := s2.trans s3
        refine ⟨_, rfl, _, rfl, _, rfl, b, _, rfl, s23.seq hB', fun c5 H5 n5 s5 h5 => ?_⟩
        rw [cutV_to] at h5
        have s25 := s23.trans s5
        refine ⟨_, rfl, _, rfl, _, rfl, _, rfl, _, _, rfl, rfl, q, _, _, _, rfl, rfl, s25.seq hQ1, Bb', z, rs, p, c, db, rfl, tk, pa, by omega, c126, nc, by omega, fun H6 v s6 ho ht => ⟨(by show 1 ≤ sizeLine; decide), fun c6 H7 n7 s7 h7 => ?_⟩⟩
        refine ⟨c5, c6, _, _, rfl, rfl, SqL.of ((s6.trans s7) _ _ h5), SqL.of h7, ?_, fun c7 H8 n8 s8 h8 => ?_⟩
        · rw [List.length_take]; exact sz (by show _ + 1 ≤ _; omega)
        have s28 := ((s25.trans s6).trans s7).trans s8
        refine ⟨_, rfl, _, rfl, _, rfl, b, _, rfl, s28.seq hB', fun c9 H9 n9 s9 h9 => ?_⟩
        rw [cutV_from] at h9
        refine ⟨c7, c9, _, _, rfl, rfl, SqL.of (s9 _ _ h8), SqL.of h9, ?_, fun ca Ha na sa ha => ?_⟩
        · rw [List.length_append, List.length_take, List.length_drop]; exact sz (by show _ + 1 + _ ≤ _; omega)
        have s2a := (s28.trans s9).trans sa
        have s6a := ((s7.trans s8).trans s9).trans sa
        have ho' := ho.same s6a
        refine ⟨ca, _, _, _, _, rfl, sm.trans s2a, ha, ?_, fun w hw => ?_, fun _ => ⟨v, by simp, ho'.1⟩⟩
        · rw [List.length_append, List.length_append, List.length_take, List.length_drop]
          show _ + 1 + _ ≤ _
          omega
        · have : w = v ∨ w ∈ us := by
            simp only [List.mem_append, List.mem_singleton] at hw
            rcases hw with (hw | hw) | hw
            · exact .inr (List.mem_of_mem_take hw)
            · exact .inl hw
            · exact .inr (List.mem_of_mem_drop hw)
          rcases this with rfl | hw
          · exact ⟨.inr ho'.1, ho'.2, fun t e => ⟨(ht t e).1, by have := (ht t e).2; omega⟩⟩
          · exact (mix w hw).same s2a (by omega)
      · rintro σ H1 ⟨b, us, u1, u2, u3, rfl, sm, hB, ul, mix, some1⟩
        have ed : ((d0 : Nat) : Int).toNat = d0 := by omega
        rw [ed] at ul some1 mix
        obtain ⟨i, fp⟩ := first_pc us (fun v hv => (mix v hv).1) (some1 n1)
        obtain ⟨dd, hdd⟩ := rq_all (K := K) (H := H1) (b := 300) (m := 2) us fun v hv => (mix v hv).2.1
        refine ⟨_, rfl, k _ _ (.int (i : Nat)) sm ⟨⟨_, (Rq.list (SqL.of hB) hdd).mono (by omega) (by decide)⟩, .inr ⟨b, us, i, rfl, hB, by omega, fun w hw => ?_, fp, rfl⟩⟩⟩
        rcases (mix w hw).1 with ⟨p, _, e⟩ | ⟨t, e, _⟩ | h
        · exact .inl ⟨p, e⟩
        · exact .inl ⟨t, e⟩
        · exact .inr h
/-- v is a piece -/
def pcB (ps : List Str) : V → Bool
  | .str t => decide (t ∈ ps)
  | _ => false
theorem pcB_no {z : Str} {rs : Rws} {v : V} (h : NoPc K H z rs v) : (!pcB (pcs z rs) v) = true := by
  rcases h with ⟨t, rfl, n⟩ | h
  · show (!decide (t ∈ pcs z rs)) = true
    rw [decide_eq_false n]; rfl
  · cases v with
    | str t =>
      obtain ⟨ty, a, b⟩ := h
      cases a with
      | base a => cases a; rw [isStr] at b; cases b
    | _ => rfl
theorem pcB_first {z : Str} {rs : Rws} {i : Nat} {us : List V} (h : FirstPc K H z rs us i) : us.findIdx? (fun v => !pcB (pcs z rs) v) = some i := by
  obtain ⟨v, hv, np⟩ := h.bad
  have il := (List.getElem?_eq_some_iff.mp hv).1
  rw [List.findIdx?_eq_some_iff_getElem]
  refine ⟨il, ?_, fun j hj => ?_⟩
  · rw [List.getElem?_eq_getElem il] at hv
    cases hv
    exact pcB_no np
  · obtain ⟨p, hp, e⟩ := h.good j _ hj (List.getElem?_eq_getElem (by omega))
    rw [e]
    show ¬ (!decide (p ∈ pcs z rs)) = true
    rw [decide_eq_true hp]; decide
theorem pcB_all {ps ys : List Str} (h : ∀ p ∈ ys, p ∈ ps) : (ys.map V.str).findIdx? (fun v => !pcB ps v) = none := by
  rw [List.findIdx?_eq_none_iff]
  intro v hv
  obtain ⟨p, hp, rfl⟩ := List.mem_map.mp hv
  show (!decide (p ∈ ps)) = false
  rw [decide_eq_true (h p hp)]; rfl
/-- the odd thing of a row, if there is one -/
inductive Judged (K : PySem.W.Frag) (H : Hp) (z : Str) (rs : Rws) (v : V) : List V → Prop where
  | bad {u : V} : Wrong24 K H z rs v u → Judged K H z rs v [u]
  | good {a : Addr} {ys : List Str} : v = .ref a → H a = some (.lst (ys.map V.str)) → ys.length ≤ 1000 → (∀ p ∈ ys, p ∈ pcs z rs) → Judged K H z rs v []
def spWrong24 (K : PySem.W.Frag) : Sp := fun vs H Q _ => ∃ (z : Str) (rs : Rws) (lp : Addr) (v : V) (js : List V), vs = [.ref lp, v] ∧ SqL K H lp ((pcs z rs).map V.str) ∧ Judged K H z rs v js ∧ ∀ H' q, Same H H' → H' q = some (.lst js) → Q (.ref q) H'
theorem cal__law_wrong (T : Tx K mg) : Cal P w K mg base CX0 1 "_law_wrong" (spWrong24 K) := by
  obtain ⟨fd, F⟩ := T.d__law_wrong
  refine ⟨_, fd, P__law_wrong, F.ok sc__law_wrong (fun vs H Q E h => ?_) (fun cdv A outer s H vs Q E hr h => ?_), T.g__law_wrong, F.kp, F.bindsN (ps := P__law_wrong) fun _ _ _ _ _ _ us hl => match us, hl with | [_, _], _ => rfl⟩
  · obtain ⟨z, rs, lp, v, js, rfl, _⟩ := h
    rfl
  · obtain ⟨z, rs, lp, v, js, rfl, hP, jd, k⟩ := h
    refine ⟨_, (PSs.nox (pss_cons (ps_if (pt_not (pt_val (pe_callB (id := "isinstance") call_isi (by rfl) T.n_isinstance (by decide +kernel) (pa_cons (pv 1) (pa_cons (pe_bltn (v := .ty "list") (by rfl) T.n_list (by decide +kernel) rfl) pa_nil))))) (pss_one (ps_ret (pe_lstG (pa_cons pe_non pa_nil)))) pss_nil)
      (pss_one (ps_ret (pe_slice sl_listG (pe_lc (own := [("_law_k", 2), ("_law_piece", 3)]) (g := gTup K 2 (gCons (gName 2) (gCons (gName 3) gNil))) (by rfl) sc__law_wrong.nd (pi_enum (by rfl) T.n_enumerate (pa_cons (pv 1) pa_nil)) (blkOk_by (own := [("_law_k", 2), ("_law_piece", 3)]) (N := N__law_wrong) (sc := defScope s__law_wrong) (by decide +kernel)) (fun _ _ _ _ _ => (pg_tup rfl (pgs_cons (pg_name (i := 2) sc__law_wrong.nd rfl (Or.inl rfl)) (pgs_cons (pg_name (i := 3) sc__law_wrong.nd rfl (Or.inl rfl)) pgs_nil)))) (fun _ _ _ _ _ => (pts_one (PW.pt (pw_or (pt_not (pt_val (pe_callB (id := "isinstance") (call_isiK' (K := K)) (by rfl) T.n_isinstance (by decide +kernel) (pa_cons (pv 3) (pa_cons (pe_bltn (v := .ty "str") (by rfl) T.n_str (by decide +kernel) rfl) pa_nil))))) (pw_or1 (pt_cmpR (op_notIn_seqK (K := K)) (pv 3) (pv 0) rfl)))))) (fun _ _ _ _ _ => (pv 2))) po_none (po_some pe_int)))))), ?_⟩
    have turn : ∀ (a : Addr) (us : List V), True := fun _ _ => trivial
    rcases jd with ⟨⟨⟨ty, hty, hk⟩, rfl⟩ | ⟨a, us, i, rfl, hA, ul, tx, fp, rfl⟩⟩ | @⟨a, ys, rfl, hA, yl, hin⟩
    · refine ⟨_, rfl, _, _, _, _, _, rfl, .ty "list", hty, hk, _, rfl, iteT ?_⟩
      exact ⟨(by show 1 ≤ sizeLine; decide), fun q H1 nq s1 hq => k _ q s1 hq⟩
    · refine ⟨_, rfl, _, _, _, _, _, rfl, .ty "list", .base (.lst hA), isLst, _, rfl, iteF ?_⟩
      refine ⟨_, rfl, a, _, rfl, SqL.of hA, fun D hD => lc_enumC (K := K) (item := id) (p := fun _ v => !pcB (pcs z rs) v) (f := fun k _ => V.int (k : Nat)) (l := us) (by rw [List.map_id]; exact SqL.of hA) hD (by omega) (fun j v hv H2 T s2 hT N M hM hN => ?_) (fun H2 s2 hL => ?_)⟩
      · refine ⟨T, _, rfl, SqT.of hT, rfl, _, _, rfl, _, _, rfl, rfl, rfl, ?_⟩
        rcases tx v (List.mem_of_getElem? hv) with ⟨t, rfl⟩ | ns
        · refine ⟨_, rfl, _, _, _, _, _, rfl, .ty "str", .base (.str _), isStr, _, rfl, iteF ⟨_, rfl, _, rfl, lp, _, rfl, .inl (s2.seq hP), rfl, flat_str _, _, rfl, ?_⟩⟩
          show (if (!inV (V.str t) ((pcs z rs).map V.str)) = true then _ else N H2)
          rw [inV_str]
          have key : ∀ b : Bool, (!pcB (pcs z rs) (V.str t)) = b → (!decide (t ∈ pcs z rs)) = b := fun b h => h
          by_cases c : (!decide (t ∈ pcs z rs)) = true
          · rw [if_pos c]
            exact ⟨_, rfl, hM c _ (Same.refl _)⟩
          · rw [if_neg c]
            exact hN (by
              show (!decide (t ∈ pcs z rs)) = false
              exact Bool.eq_false_iff.mpr c) _ (Same.refl _)
        · obtain ⟨ty, hty, hk⟩ := ns.same s2
          refine ⟨_, rfl, _, _, _, _, _, rfl, .ty "str", hty, hk, _, rfl, iteT ⟨_, rfl, hM (pcB_no (.inr ns)) _ (Same.refl _)⟩⟩
      · refine ⟨_, rfl, D, _, rfl, SqL.of hL, fun q H3 nq s3 hq => ?_⟩
        rw [show (some (1 : Int)) = some ((1 : Nat) : Int) from rfl, cutV_to, enV_first (P := fun v => !pcB (pcs z rs) v), pcB_first fp] at hq
        exact k _ q (s2.trans s3) hq
    · refine ⟨_, rfl, _, _, _, _, _, rfl, .ty "list", .base (.lst hA), isLst, _, rfl, iteF ?_⟩
      refine ⟨_, rfl, a, _, rfl, SqL.of hA, fun D hD => lc_enumC (K := K) (item := id) (p := fun _ v => !pcB (pcs z rs) v) (f := fun k _ => V.int (k : Nat)) (l := ys.map V.str) (by rw [List.map_id]; exact SqL.of hA) hD (by rw [List.length_map]; omega) (fun j v hv H2 T s2 hT N M hM hN => ?_) (fun H2 s2 hL => ?_)⟩
      · rw [List.getElem?_map] at hv
        cases ed : ys[j]? with
        | none => rw [ed] at hv; cases hv
        | some p =>
          rw [ed] at hv
          cases hv
          refine ⟨T, _, rfl, SqT.of hT, rfl, _, _, rfl, _, _, rfl, rfl, rfl, ?_⟩
          refine ⟨_, rfl, _, _, _, _, _, rfl, .ty "str", .base (.str _), isStr, _, rfl, iteF ⟨_, rfl, _, rfl, lp, _, rfl, .inl (s2.seq hP), rfl, flat_str _, _, rfl, ?_⟩⟩
          have hp := hin p (List.mem_of_getElem? ed)
          show (if (!inV (V.str p) ((pcs z rs).map V.str)) = true then _ else N H2)
          rw [inV_str, decide_eq_true hp, if_neg (by decide)]
          refine hN ?_ _ (Same.refl _)
          show (!decide (p ∈ pcs z rs)) = false
          rw [decide_eq_true hp]; rfl
      · refine ⟨_, rfl, D, _, rfl, SqL.of hL, fun q H3 nq s3 hq => ?_⟩
        rw [show (some (1 : Int)) = some ((1 : Nat) : Int) from rfl, cutV_to, enV_first (P := fun v => !pcB (pcs z rs) v), pcB_all hin] at hq
        exact k _ q (s2.trans s3) hq
end
end Jr
namespace Jr
open PySem PySem.Spec PyProof.Rows L2
theorem isInt {K : PySem.W.Frag} : PySem.W.kitOne K (.type "int") (.type "int") = some true := kit_ty (by decide +kernel)
theorem intBool {K : PySem.W.Frag} : PySem.W.kitOne K (.type "int") (.type "bool") = some false := kit_ty (by decide +kernel)
theorem boolInt {K : PySem.W.Frag} : PySem.W.kitOne K (.type "bool") (.type "int") = some true := kit_ty (by decide +kernel)
theorem boolBool {K : PySem.W.Frag} : PySem.W.kitOne K (.type "bool") (.type "bool") = some true := kit_ty (by decide +kernel)
/-- no int, no bool -/
def NoInt (K : PySem.W.Frag) (H : Hp) (v : V) : Prop := ∃ t, TyX K H v t ∧ PySem.W.kitOne K t (.type "int") = some false
/-- is_whole: of an int True, of a bool and all else False -/
def spWhole (K : PySem.W.Frag) : Sp := fun vs H Q _ => ∃ v : V, vs = [v] ∧ ((∃ n : Int, v = .int n ∧ Q (.bl true) H) ∨ (((∃ b : Bool, v = .bl b) ∨ NoInt K H v) ∧ Q (.bl false) H))
end Jr
namespace Jr
open PySem PySem.Spec PyProof.Rows L2
section
variable {P : Program} {w : World} {K : PySem.W.Frag} {mg : Str → Option Value} {base : Heap}
theorem cal__law_is_whole (T : Tx K mg) : Cal P w K mg base CX0 1 "_law_is_whole" (spWhole K) := by
  obtain ⟨fd, F⟩ := T.d__law_is_whole
  refine ⟨_, fd, P__law_is_whole, F.ok sc__law_is_whole (fun vs H Q E h => ?_) (fun cdv A outer s H vs Q E hr h => ?_), T.g__law_is_whole, F.kp, F.bindsN (ps := P__law_is_whole) fun _ _ _ _ _ _ us hl => match us, hl with | [_], _ => rfl⟩
  · obtain ⟨v, rfl, _⟩ := h
    rfl
  · obtain ⟨v, rfl, k⟩ := h
    refine ⟨_, (PSs.nox (pss_one (ps_ret (pe_and (pe_callB (id := "isinstance") call_isi (by rfl) T.n_isinstance (by decide +kernel) (pa_cons (pv 0) (pa_cons (pe_bltn (v := .ty "int") (by rfl) T.n_int (by decide +kernel) rfl) pa_nil))) (pe_one (pe_not (pe_callB (id := "isinstance") call_isi (by rfl) T.n_isinstance (by decide +kernel) (pa_cons (pv 0) (pa_cons (pe_bltn (v := .ty "bool") (by rfl) T.n_bool (by decide +kernel) rfl) pa_nil))))))))), ?_⟩
    rcases k with ⟨n, rfl, k⟩ | ⟨⟨b, rfl⟩ | ⟨t, ht, hk⟩, k⟩
    · exact ⟨_, rfl, _, _, _, _, _, rfl, .ty "int", .base (.int n), isInt, _, rfl, iteT ⟨_, rfl, _, _, _, _, _, rfl, .ty "bool", .base (.int n), intBool, _, rfl, k⟩⟩
    · exact ⟨_, rfl, _, _, _, _, _, rfl, .ty "int", .base (.bl b), boolInt, _, rfl, iteT ⟨_, rfl, _, _, _, _, _, rfl, .ty "bool", .base (.bl b), boolBool, _, rfl, k⟩⟩
    · exact ⟨_, rfl, _, _, _, _, _, rfl, .ty "int", ht, hk, _, rfl, iteF k⟩
end
end Jr
namespace Jr
open PySem PySem.Spec PyProof.Rows L2
/-! ### a call as the element of a comprehension: its reading by a name, so that it is found -/
def tCal (t : TA) (sp : Sp) : TE := fun σ H Q => t σ H fun vs H1 => sp vs H1 Q E0
theorem pe_calT {X : Cx} {k : Nat} {x : Str} {sp : Sp} {e : Expr} {es : List Expr} {t : TA} {p pos : Pos} (F : Cal X.prog X.w X.K X.mg X.base CX0 k x sp) (hr : Room k X.A) (hg : Gl X x) (ha : PA X (e :: es) t) (hdb : (x == ("__debug__" : Str)) = false := by decide)
    (he : starEach (e :: es) X.env = (false, eval e X.env) :: starEach es X.env := by rfl) (hpl : (backTo pos (starEach es X.env)).any (·.1) = false := by rfl) :
    PE X (.Call (.Name x p) (e :: es) [] pos) (tCal t sp) := pe_cal F hr hg ha hdb he hpl
/-! ### comprehensions without a test whose elements are objects of some kind, each by a rule of its own -/
section
variable {α β : Type} {item : α → V} {R : α → β → Prop} {o : β → HO} {g : TG} {tt : TT} {te : TE} {vs : List Nat} {σ : L2.St} {H1 : Hp} {D : Addr} {Qd : Hp → Prop}
def ObjE (R : α → β → Prop) (o : β → HO) (H : Hp) (a : Addr) (x : α) : Prop := ∃ y, R x y ∧ H a = some (o y)
theorem ObjE.same {H H' : Hp} (s : Same H H') {as : List Addr} {l : List α} (h : Paired (ObjE R o H) as l) : Paired (ObjE R o H') as l := L2.Paired.mapP h fun _ _ ⟨y, h1, h2⟩ => ⟨y, h1, s _ _ h2⟩
def LcTurnE (item : α → V) (R : α → β → Prop) (o : β → HO) (g : TG) (tt : TT) (te : TE) (vs : List Nat) (σ : L2.St) (H1 : Hp) (x : α) : Prop :=
  ∀ (H' : Hp), Same H1 H' → ∀ (N : Hp → Prop) (M : V → Hp → Prop), (∀ y q H2, R x y → Same H' H2 → H2 q = some (o y) → M (.ref q) H2) →
    g (item x) (wipe σ vs) H' fun σ2 H2 => wipe σ2 vs = wipe σ vs ∧ tt σ2 H2 fun b H3 => if b = true then te σ2 H3 M else N H3
theorem lc_stepE {l : List α} {i : Nat} {x : α} {H : Hp} (hk : ∀ y xs, o y ≠ .lst xs) (hD : H1 D = none) (hx : l[i]? = some x) (hlen : l.length ≤ 90000) (turn : LcTurnE item R o g tt te vs σ H1 x)
    (sm : Same H1 H) (hL : ∃ as, H D = some (.lst (as.map V.ref)) ∧ Paired (ObjE R o H) as (l.take i)) :
    g (item x) (wipe σ vs) H fun σ2 H2 => wipe σ2 vs = wipe σ vs ∧ tt σ2 H2 fun b H3 =>
      if b = true then te σ2 H3 fun y H4 => ∃ acc, H4 D = some (.lst acc) ∧ acc.length < sizeLine ∧ (fun H' => Same H1 H' ∧ ∃ as, H' D = some (.lst (as.map V.ref)) ∧ Paired (ObjE R o H') as (l.take (i + 1))) (upd H4 D (.lst (acc ++ [y])))
      else (fun H' => Same H1 H' ∧ ∃ as, H' D = some (.lst (as.map V.ref)) ∧ Paired (ObjE R o H') as (l.take (i + 1))) H3 := by
  have e : l.take (i + 1) = l.take i ++ [x] := by rw [List.take_add_one, hx]; rfl
  obtain ⟨as, hA, hP⟩ := hL
  refine turn H sm _ _ (fun y q H2 hR s2 hq => ?_)
  have hA2 := s2 _ _ hA
  refine ⟨_, hA2, ?_, Same.mut (sm.trans s2) hD, as ++ [q], ?_, ?_⟩
  · have h2 : (l.take i).length ≤ i := by rw [List.length_take]; omega
    have h3 : i < l.length := (List.getElem?_eq_some_iff.mp hx).1
    have h4 := Paired.len hP
    rw [List.length_map]
    exact szl (by omega)
  · rw [upd_same, List.map_append]; rfl
  · rw [e]
    have hP2 : Paired (ObjE R o H2) (as ++ [q]) (l.take i ++ [x]) := Paired.app (ObjE.same s2 hP) (.cons ⟨y, hR, hq⟩ .nil)
    refine L2.Paired.mapP hP2 fun b x' ⟨y', h1, h2⟩ => ⟨y', h1, ?_⟩
    have hne : b ≠ D := fun eb => by
      rw [eb, hA2] at h2
      exact hk y' _ (Option.some.inj h2).symm
    rw [upd_ne hne]; exact h2
theorem lc_listE {K : PySem.W.Frag} {a : Addr} {l : List α} (hk : ∀ y xs, o y ≠ .lst xs) (hS : SqL K H1 a (l.map item)) (hD : H1 D = none) (hlen : l.length ≤ 90000) (turn : ∀ x ∈ l, LcTurnE item R o g tt te vs σ H1 x)
    (hd : ∀ H as, Same H1 H → H D = some (.lst (as.map V.ref)) → Paired (ObjE R o H) as l → Qd H) :
    ∃ W : Nat → Nat → Hp → Prop, (∃ m, W 0 m (upd H1 D (.lst []))) ∧ ∀ i m H, W i m H →
      ((Itl K a).stop i H ∧ Qd H) ∨ ((Itl K a).go i H ∧ ∃ Nx : Hp → Prop, (∀ H', Nx H' → ∃ m', m' < m ∧ W (i + 1) m' H') ∧ ∀ x H', (Itl K a).yld i H x H' → g x (wipe σ vs) H' fun σ2 H2 => wipe σ2 vs = wipe σ vs ∧ tt σ2 H2 fun b H3 =>
        if b = true then te σ2 H3 fun y H4 => ∃ acc, H4 D = some (.lst acc) ∧ acc.length < sizeLine ∧ Nx (upd H4 D (.lst (acc ++ [y]))) else Nx H3) := by
  refine lc_list (K := K) (a := a) (xs := l.map item) (fun i H => Same H1 H ∧ ∃ as, H D = some (.lst (as.map V.ref)) ∧ Paired (ObjE R o H) as (l.take i)) ⟨Same.new hD, [], upd_same, .nil⟩ (fun i H _ ⟨s, _⟩ => s.seq hS) ?_ ?_
  · rintro i x H hx ⟨sm, hL⟩
    rw [List.getElem?_map] at hx
    cases e : l[i]? with
    | none => rw [e] at hx; cases hx
    | some y =>
      rw [e] at hx
      cases hx
      exact lc_stepE hk hD e hlen (turn y (List.mem_of_getElem? e)) sm hL
  · rintro H ⟨sm, as, hA, hP⟩
    rw [List.length_map, List.take_length] at hP
    exact hd H as sm hA hP
theorem lc_rangeE {lo : Int} {n : Nat} {R : Nat → β → Prop} (hk : ∀ y xs, o y ≠ .lst xs) (hD : H1 D = none) (hlen : n ≤ 90000) (turn : ∀ i, i < n → LcTurnE (fun i : Nat => V.int (lo + i)) R o g tt te vs σ H1 i)
    (hd : ∀ H as, Same H1 H → H D = some (.lst (as.map V.ref)) → Paired (ObjE R o H) as (List.range n) → Qd H) :
    ∃ W : Nat → Nat → Hp → Prop, (∃ m, W 0 m (upd H1 D (.lst []))) ∧ ∀ i m H, W i m H →
      ((Itr lo n).stop i H ∧ Qd H) ∨ ((Itr lo n).go i H ∧ ∃ Nx : Hp → Prop, (∀ H', Nx H' → ∃ m', m' < m ∧ W (i + 1) m' H') ∧ ∀ y H', (Itr lo n).yld i H y H' → g y (wipe σ vs) H' fun σ2 H2 => wipe σ2 vs = wipe σ vs ∧ tt σ2 H2 fun b H3 =>
        if b = true then te σ2 H3 fun y H4 => ∃ acc, H4 D = some (.lst acc) ∧ acc.length < sizeLine ∧ Nx (upd H4 D (.lst (acc ++ [y]))) else Nx H3) := by
  refine lc_range (lo := lo) (n := n) (fun i H => Same H1 H ∧ ∃ as, H D = some (.lst (as.map V.ref)) ∧ Paired (ObjE R o H) as ((List.range n).take i)) ⟨Same.new hD, [], upd_same, .nil⟩ ?_ ?_
  · rintro i H hi ⟨sm, hL⟩
    exact lc_stepE (l := List.range n) (item := fun i : Nat => V.int (lo + i)) hk hD (by rw [List.getElem?_range hi]) (by rw [List.length_range]; exact hlen) (turn i hi) sm hL
  · rintro H ⟨sm, as, hA, hP⟩
    have e : (List.range n).take n = List.range n := by
      have := List.take_length (l := List.range n)
      rw [List.length_range] at this
      exact this
    rw [e] at hP
    exact hd H as sm hA hP
end
end Jr
namespace Jr
open PySem PySem.Spec PyProof.Rows L2
/-! ### lists of flat things: == -/
def fdV : V → PyData
  | .bl b => .bool b
  | .int i => .int i
  | .str s => .str s
  | _ => .none
def Fl : V → Prop
  | .non => True
  | .bl _ => True
  | .int _ => True
  | .str s => Asc s
  | _ => False
section
variable {K : PySem.W.Frag} {H : Hp}
theorem dpFl {v : V} (h : Fl v) : Dp K H v (fdV v) := by
  cases v with
  | non => exact .non
  | bl b => exact .bl b
  | int i => exact .int i
  | str s => exact .str s
  | _ => exact h.elim
theorem dpAFl : ∀ {xs : List V}, (∀ x ∈ xs, Fl x) → DpAll K H xs (xs.map fdV)
  | [], _ => .nil
  | x :: xs, h => .cons (dpFl (h x List.mem_cons_self)) (dpAFl fun y hy => h y (List.mem_cons_of_mem _ hy))
theorem dpL {a : Addr} {xs : List V} (h : SqL K H a xs) (f : ∀ x ∈ xs, Fl x) : Dp K H (.ref a) (.list (xs.map fdV)) := .lst h (dpAFl f)
theorem dpT {a : Addr} {xs : List V} (h : SqT K H a xs) (f : ∀ x ∈ xs, Fl x) : Dp K H (.ref a) (.tuple (xs.map fdV)) := .tup h (dpAFl f)
end
theorem lay_fl {v : V} (h : Fl v) : PyData.canLay0 (fdV v) = true := by
  cases v with
  | str s => exact asc_ok h
  | non => rfl
  | bl b => rfl
  | int i => rfl
  | _ => exact h.elim
theorem layA_fl : ∀ {xs : List V}, (∀ x ∈ xs, Fl x) → PyData.canLayAll0 (xs.map fdV) = true
  | [], _ => by simp [PyData.canLayAll0]
  | x :: xs, h => by
    have h1 := lay_fl (h x List.mem_cons_self)
    have h2 := layA_fl fun y hy => h y (List.mem_cons_of_mem _ hy)
    simp [PyData.canLayAll0, h1, h2]
theorem dep_fl (v : V) : PyData.depth (fdV v) = 0 := by cases v <;> rfl
theorem depA_fl : ∀ xs : List V, PyData.depthAll (xs.map fdV) = 0
  | [] => by simp [PyData.depthAll]
  | x :: xs => by simp [PyData.depthAll, dep_fl, depA_fl xs]
theorem shL {xs : List V} (h : ∀ x ∈ xs, Fl x) : SeqAt.shaped (.list (xs.map fdV)) = true := by
  unfold SeqAt.shaped
  have h1 : PyData.canLay0 (.list (xs.map fdV)) = true := by simp [PyData.canLay0, layA_fl h]
  have h2 : PyData.depth (.list (xs.map fdV)) = 1 := by simp [PyData.depth, depA_fl]
  rw [h1, h2]; rfl
theorem shT {xs : List V} (h : ∀ x ∈ xs, Fl x) : SeqAt.shaped (.tuple (xs.map fdV)) = true := by
  unfold SeqAt.shaped
  have h1 : PyData.canLay0 (.tuple (xs.map fdV)) = true := by simp [PyData.canLay0, layA_fl h]
  have h2 : PyData.depth (.tuple (xs.map fdV)) = 1 := by simp [PyData.depth, depA_fl]
  rw [h1, h2]; rfl
theorem eqL {xs : List V} (h : ∀ x ∈ xs, Fl x) : PyData.eqv (.list (xs.map fdV)) (.list (xs.map fdV)) = true := SeqAt.eqv_refl _ (by simp [PyData.canLay0, layA_fl h])
theorem eqT {xs : List V} (h : ∀ x ∈ xs, Fl x) : PyData.eqv (.tuple (xs.map fdV)) (.tuple (xs.map fdV)) = true := SeqAt.eqv_refl _ (by simp [PyData.canLay0, layA_fl h])
/-! ### comprehensions over enumerate(text) -/
section
variable {g : TG} {tt : TT} {te : TE} {vs : List Nat} {σ : L2.St} {H1 : Hp} {D : Addr} {Qd : Hp → Prop}
def enL (x : Str) (p : Nat → Nat → Bool) (f : Nat → Nat → V) (n : Nat) : List V := ((x.cps.toList.zipIdx.take n).filter fun q => p q.2 q.1).map fun q => f q.2 q.1
theorem lc_enumSM {x : Str} {p : Nat → Nat → Bool} {f : Nat → Nat → V} (hD : H1 D = none) (hlen : x.cps.toList.length ≤ 100000)
    (turn : ∀ i c, x.cps.toList[i]? = some c → ∀ (H' : Hp) (T : Addr), Same H1 H' → H' T = some (.tup [.int (i : Nat), .str (sgn c)]) → ∀ (N : Hp → Prop) (M : V → Hp → Prop), (p i c = true → M (f i c) H') → (p i c = false → N H') →
      g (.ref T) (wipe σ vs) H' fun σ2 H2 => wipe σ2 vs = wipe σ vs ∧ tt σ2 H2 fun b H3 => if b = true then te σ2 H3 M else N H3)
    (hd : ∀ H, Same H1 H → H D = some (.lst (enL x p f x.cps.toList.length)) → Qd H) :
    ∃ W : Nat → Nat → Hp → Prop, (∃ m, W 0 m (upd H1 D (.lst []))) ∧ ∀ i m H, W i m H →
      ((Ites x).stop i H ∧ Qd H) ∨ ((Ites x).go i H ∧ ∃ Nx : Hp → Prop, (∀ H', Nx H' → ∃ m', m' < m ∧ W (i + 1) m' H') ∧ ∀ y H', (Ites x).yld i H y H' → g y (wipe σ vs) H' fun σ2 H2 => wipe σ2 vs = wipe σ vs ∧ tt σ2 H2 fun b H3 =>
        if b = true then te σ2 H3 fun y H4 => ∃ acc, H4 D = some (.lst acc) ∧ acc.length < sizeLine ∧ Nx (upd H4 D (.lst (acc ++ [y]))) else Nx H3) := by
  have es : x.cps.toList.length = x.cps.size := by simp
  refine ⟨fun i m H => m = x.cps.size - i ∧ i ≤ x.cps.size ∧ Same H1 H ∧ H D = some (.lst (enL x p f i)), ⟨x.cps.size, by simp, Nat.zero_le _, Same.new hD, upd_same⟩, ?_⟩
  rintro i m H ⟨rfl, hi, sm, hL⟩
  by_cases hlt : i < x.cps.size
  · refine .inr ⟨hlt, (fun H' => Same H1 H' ∧ H' D = some (.lst (enL x p f (i + 1)))), fun H' p' => ⟨x.cps.size - (i + 1), by omega, rfl, hlt, p'⟩, fun y H' z => ?_⟩
    obtain ⟨T, c, rfl, hT, hc, rfl⟩ := z
    have hc' : x.cps.toList[i]? = some c := by rw [Array.getElem?_toList]; exact hc
    have hz : x.cps.toList.zipIdx[i]? = some (c, i) := by rw [List.getElem?_zipIdx, hc']; simp
    have e : x.cps.toList.zipIdx.take (i + 1) = x.cps.toList.zipIdx.take i ++ [(c, i)] := by rw [List.take_add_one, hz]; rfl
    have tD : T ≠ D := fun z => by rw [z, hL] at hT; cases hT
    have hL2 := Same.new (o := .tup [.int (i : Nat), .str (sgn c)]) hT _ _ hL
    refine turn i c hc' _ T (Same.put sm hT) upd_same _ _ (fun hp => ⟨_, hL2, ?_, Same.mut (Same.put sm hT) hD, ?_⟩) (fun hp => ⟨Same.put sm hT, ?_⟩)
    · unfold enL
      have h1 : ((x.cps.toList.zipIdx.take i).filter fun q => p q.2 q.1).length ≤ (x.cps.toList.zipIdx.take i).length := List.length_filter_le ..
      have h2 : (x.cps.toList.zipIdx.take i).length ≤ i := by rw [List.length_take]; omega
      rw [List.length_map]
      exact szl (by omega)
    · rw [upd_same]
      unfold enL
      rw [e, List.filter_append, List.map_append]
      simp [hp]
    · rw [hL2]
      unfold enL
      rw [e, List.filter_append, List.map_append]
      simp [hp]
  · have e : i = x.cps.size := by omega
    subst e
    exact .inl ⟨Nat.le_refl _, hd H sm (by rw [es]; exact hL)⟩
theorem enL_first (x : Str) (P : Nat → Bool) : (enL x (fun _ c => P c) (fun i _ => V.int (i : Nat)) x.cps.toList.length).take 1 = (x.cps.toList.findIdx? P).toList.map fun i => V.int (i : Nat) := by
  unfold enL
  have e0 : x.cps.toList.zipIdx.take x.cps.toList.length = x.cps.toList.zipIdx := List.take_of_length_le (by rw [List.length_zipIdx]; exact Nat.le_refl _)
  rw [e0]
  have key : ∀ (l : List Nat) (k : Nat), (((l.zipIdx k).filter fun q => P q.1).map fun q => V.int ((q.2 : Nat) : Int)).take 1 = (l.findIdx? P).toList.map fun i => V.int ((i + k : Nat) : Int) := fun l => by
    induction l with
    | nil => intro k; rfl
    | cons c l ih =>
      intro k
      rw [List.zipIdx_cons, List.filter_cons, List.findIdx?_cons]
      by_cases h : P c = true
      · rw [if_pos h, if_pos h]
        simp
      · rw [if_neg h, if_neg h, ih (k + 1)]
        cases l.findIdx? P with
        | none => rfl
        | some j =>
          show [V.int ((j + (k + 1) : Nat) : Int)] = [V.int ((j + 1 + k : Nat) : Int)]
          rw [show j + (k + 1) = j + 1 + k by omega]
  have := key x.cps.toList 0
  simpa using this
end
end Jr
namespace Jr
open PySem PySem.Spec PyProof.Rows L2
/-! ### a comprehension over a range whose test and element may make new things -/
section
variable {g : TG} {tt : TT} {te : TE} {vs : List Nat} {σ : L2.St} {H1 : Hp} {D : Addr} {Qd : Hp → Prop}
theorem lc_rangeC {lo : Int} {n : Nat} {p : Nat → Bool} {f : Nat → V} (hD : H1 D = none) (hlen : n ≤ 100000) (turn : ∀ i, i < n → LcTurnC (fun i : Nat => V.int (lo + i)) p f g tt te vs σ H1 i)
    (hd : ∀ H, Same H1 H → H D = some (.lst (((List.range n).filter p).map f)) → Qd H) :
    ∃ W : Nat → Nat → Hp → Prop, (∃ m, W 0 m (upd H1 D (.lst []))) ∧ ∀ i m H, W i m H →
      ((Itr lo n).stop i H ∧ Qd H) ∨ ((Itr lo n).go i H ∧ ∃ Nx : Hp → Prop, (∀ H', Nx H' → ∃ m', m' < m ∧ W (i + 1) m' H') ∧ ∀ y H', (Itr lo n).yld i H y H' → g y (wipe σ vs) H' fun σ2 H2 => wipe σ2 vs = wipe σ vs ∧ tt σ2 H2 fun b H3 =>
        if b = true then te σ2 H3 fun y H4 => ∃ acc, H4 D = some (.lst acc) ∧ acc.length < sizeLine ∧ Nx (upd H4 D (.lst (acc ++ [y]))) else Nx H3) := by
  refine lc_range (lo := lo) (n := n) (fun i H => Same H1 H ∧ H D = some (.lst ((((List.range n).take i).filter p).map f))) ⟨Same.new hD, upd_same⟩ ?_ ?_
  · rintro i H hi ⟨sm, hL⟩
    exact lc_stepC (l := List.range n) (item := fun i : Nat => V.int (lo + i)) hD (by rw [List.getElem?_range hi]) (by rw [List.length_range]; exact hlen) (turn i hi) sm hL
  · rintro H ⟨sm, hL⟩
    have e : (List.range n).take n = List.range n := by
      have := List.take_length (l := List.range n)
      rw [List.length_range] at this
      exact this
    rw [e] at hL
    exact hd H sm hL
end
section
variable {g : TG} {tb : TS} {D : Ends} {σ : L2.St} {H : Hp}
theorem for_itc {lo c : Int} {n : Nat} (Pv : Nat → L2.St → Hp → Prop) (h0 : Pv 0 σ H)
    (hs : ∀ i σ H, i < n → Pv i σ H → g (.int (lo + (i : Nat) * c)) σ H fun σ2 H2 => tb { D with nx := Pv (i + 1), ct := Pv (i + 1), bk := D.nx } σ2 H2) (hd : ∀ σ H, Pv n σ H → D.nx σ H) :
    ∃ W : Nat → Nat → L2.St → Hp → Prop, (∃ m, W 0 m σ H) ∧ ∀ i m σ H, W i m σ H →
      ((Itc lo c n).stop i H ∧ D.nx σ H) ∨ ((Itc lo c n).go i H ∧ ∃ N : L2.St → Hp → Prop, (∀ σ' H', N σ' H' → ∃ m', m' < m ∧ W (i + 1) m' σ' H') ∧ ∀ x H', (Itc lo c n).yld i H x H' → g x σ H' fun σ2 H2 => tb { D with nx := N, ct := N, bk := D.nx } σ2 H2) := by
  refine ⟨fun i m σ H => m = n - i ∧ i ≤ n ∧ Pv i σ H, ⟨n, by simp, Nat.zero_le _, h0⟩, ?_⟩
  rintro i m σ H ⟨rfl, hi, p⟩
  by_cases hlt : i < n
  · refine .inr ⟨hlt, Pv (i + 1), fun σ' H' p' => ⟨n - (i + 1), by omega, rfl, hlt, p'⟩, fun x H' y => ?_⟩
    obtain ⟨e, y⟩ := y
    subst e y
    exact hs i σ _ hlt p
  · have e : i = n := by omega
    subst e
    exact .inl ⟨Nat.le_refl _, hd σ H p⟩
end
/-! ### lists of texts and None -/
def oS : Option Str → V
  | none => .non
  | some p => .str p
def oD : Option Str → PyData
  | none => .none
  | some p => .str p
def dO (xs : List (Option Str)) : PyData := .list (xs.map oD)
def AscO (o : Option Str) : Prop := ∀ p, o = some p → Asc p
theorem lay_opts : ∀ xs : List (Option Str), (∀ x ∈ xs, AscO x) → PyData.canLayAll0 (xs.map oD) = true
  | [], _ => by simp [PyData.canLayAll0]
  | none :: xs, h => by
    have h2 := lay_opts xs fun y hy => h y (List.mem_cons_of_mem _ hy)
    simp [PyData.canLayAll0, PyData.canLay0, oD, h2]
  | some x :: xs, h => by
    have h1 := asc_ok (h (some x) List.mem_cons_self x rfl)
    have h2 := lay_opts xs fun y hy => h y (List.mem_cons_of_mem _ hy)
    simp [PyData.canLayAll0, PyData.canLay0, oD, h1, h2]
theorem dep_opts : ∀ xs : List (Option Str), PyData.depthAll (xs.map oD) = 0
  | [] => by simp [PyData.depthAll]
  | none :: xs => by simp [PyData.depthAll, PyData.depth, oD, dep_opts xs]
  | some x :: xs => by simp [PyData.depthAll, PyData.depth, oD, dep_opts xs]
theorem shO {xs : List (Option Str)} (h : ∀ x ∈ xs, AscO x) : SeqAt.shaped (dO xs) = true := by
  unfold SeqAt.shaped dO
  have h1 : PyData.canLay0 (.list (xs.map oD)) = true := by simp [PyData.canLay0, lay_opts xs h]
  have h2 : PyData.depth (.list (xs.map oD)) = 1 := by simp [PyData.depth, dep_opts]
  rw [h1, h2]; rfl
theorem eqvA_refl : ∀ xs : List (Option Str), PyData.eqvAll (xs.map oD) (xs.map oD) = true
  | [] => by simp [PyData.eqvAll]
  | none :: xs => by simp [PyData.eqvAll, PyData.eqv, oD, eqvA_refl xs]
  | some x :: xs => by simp [PyData.eqvAll, PyData.eqv, oD, eqvA_refl xs]
theorem eqO (xs : List (Option Str)) : PyData.eqv (dO xs) (dO xs) = true := by
  unfold dO
  rw [PyData.eqv]
  exact eqvA_refl xs
theorem dpA_opts {K : PySem.W.Frag} {H : Hp} : ∀ xs : List (Option Str), DpAll K H (xs.map oS) (xs.map oD)
  | [] => .nil
  | none :: xs => .cons .non (dpA_opts xs)
  | some x :: xs => .cons (.str x) (dpA_opts xs)
theorem dpO {K : PySem.W.Frag} {H : Hp} {a : Addr} {xs : List (Option Str)} (h : SqL K H a (xs.map oS)) : Dp K H (.ref a) (dO xs) := .lst h (dpA_opts xs)
end Jr
namespace Jr
open PySem PySem.Spec PyProof.Rows L2
section
variable {P : Program} {w : World} {K : PySem.W.Frag} {mg : Str → Option Value} {base : Heap}
/-- what is told of a row of pieces -/
inductive Told24 (H H' : Hp) (z : Str) (rs : Rws) (ys : List Str) : Nat → V → Prop where
  | text : Told24 H H' z rs ys 0 (.str (Txt.join (Str.ofString "") ys))
  | nums {b : Addr} : H b = none → H' b = some (.lst (ys.map fun p => V.int (numOf z rs p : Nat))) → Told24 H H' z rs ys 1 (.ref b)
  | bord {b : Addr} : H b = none → H' b = some (.lst ((bordL ys).map (fun n : Nat => V.int (n : Nat)))) → Told24 H H' z rs ys 2 (.ref b)
theorem Told24.same {H H' H2 : Hp} {z : Str} {rs : Rws} {ys : List Str} {n : Nat} {v : V} (h : Told24 H H' z rs ys n v) (s : Same H' H2) : Told24 H H2 z rs ys n v := by
  cases h with
  | text => exact .text
  | nums a b => exact .nums a (s _ _ b)
  | bord a b => exact .bord a (s _ _ b)
theorem Told24.back {H0 H H' : Hp} {z : Str} {rs : Rws} {ys : List Str} {n : Nat} {v : V} (h : Told24 H H' z rs ys n v) (s : Same H0 H) : Told24 H0 H' z rs ys n v := by
  cases h with
  | text => exact .text
  | nums a b => exact .nums (s.free a) b
  | bord a b => exact .bord (s.free a) b
def spCall24 (K : PySem.W.Frag) : Sp := fun vs H Q E => ∃ (n : Nat) (x : Addr) (z : Str) (rs : Rws) (v : V), vs = [.int (n : Nat), .ref x, v] ∧ n < 3 ∧ TabAt (TC K) H x z rs ∧
  ((∃ u, WrongP K H z rs v u ∧ Rz (CPiece' K) "place" u H E) ∨ ∃ (a : Addr) (ys : List Str), v = .ref a ∧ H a = some (.lst (ys.map V.str)) ∧ (∀ p ∈ ys, p ∈ pcs z rs) ∧ ys.length ≤ 1000 ∧ ∀ H' r, Same H H' → Told24 H H' z rs ys n r → Q r H')
theorem calx__law_call (T : Tx K mg) : Cal P w K mg base (L2.CX P w) 6 "_law_call" (spCall24 K) := by
  have CX_text_of := calx_text_of (P := P) (w := w) (base := base) T
  have CX_numbers_of := calx_numbers_of (P := P) (w := w) (base := base) T
  have CX_borders_of := calx_borders_of (P := P) (w := w) (base := base) T
  obtain ⟨fd, F⟩ := T.d__law_call
  refine ⟨_, fd, P__law_call, F.ok sc__law_call (fun vs H Q E h => ?_) (fun cdv A outer s H vs Q E hr h => ?_), T.g__law_call, F.kp, F.bindsN (ps := P__law_call) fun _ _ _ _ _ _ us hl => match us, hl with | [_, _, _], _ => rfl⟩
  · obtain ⟨n, x, z, rs, v, rfl, _⟩ := h
    rfl
  · obtain ⟨n, x, z, rs, v, rfl, hn, ta, h⟩ := h
    refine ⟨_, (pss_cons (ps_if (pt_cmpR op_eq (pv 0) pe_int (nomark _)) (pss_one (ps_ret (pe_calX CX_text_of (by first | exact hr | exact hr.mono (by decide)) (by rfl) (takes_of rfl rfl rfl rfl) (pa_cons (pv 1) (pa_cons (pv 2) pa_nil))))) pss_nil)
      (pss_cons (ps_if (pt_cmpR op_eq (pv 0) pe_int (nomark _)) (pss_one (ps_ret (pe_calX CX_numbers_of (by first | exact hr | exact hr.mono (by decide)) (by rfl) (takes_of rfl rfl rfl rfl) (pa_cons (pv 1) (pa_cons (pv 2) pa_nil))))) pss_nil)
      (pss_one (ps_ret (pe_calX CX_borders_of (by first | exact hr | exact hr.mono (by decide)) (by rfl) (takes_of rfl rfl rfl rfl) (pa_cons (pv 1) (pa_cons (pv 2) pa_nil))))))), ?_⟩
    rcases (show n = 0 ∨ n = 1 ∨ n = 2 by omega) with rfl | rfl | rfl
    · refine ⟨_, rfl, rfl, _, rfl, iteT ⟨_, rfl, _, rfl, x, z, rs, v, rfl, ta, ?_⟩⟩
      rcases h with h | ⟨a, ys, rfl, hA, hin, yl, k⟩
      · exact .inl h
      · exact .inr ⟨a, ys, rfl, hA, hin, yl, fun H1 s1 => k _ _ s1 .text⟩
    · refine ⟨_, rfl, rfl, _, rfl, iteF ⟨_, rfl, rfl, _, rfl, iteT ⟨_, rfl, _, rfl, x, z, rs, v, rfl, ta, ?_⟩⟩⟩
      rcases h with h | ⟨a, ys, rfl, hA, hin, yl, k⟩
      · exact .inl h
      · exact .inr ⟨a, ys, rfl, hA, hin, yl, fun H1 b s1 nb hb => k _ _ s1 (.nums nb hb)⟩
    · refine ⟨_, rfl, rfl, _, rfl, iteF ⟨_, rfl, rfl, _, rfl, iteF ⟨_, rfl, _, rfl, x, z, rs, v, rfl, ta, ?_⟩⟩⟩
      rcases h with h | ⟨a, ys, rfl, hA, hin, yl, k⟩
      · exact .inl h
      · exact .inr ⟨a, ys, rfl, hA, hin, yl, fun H1 b s1 nb hb => k _ _ s1 (.bord nb hb)⟩
def spAsked24 (K : PySem.W.Frag) : Sp := fun vs H Q _ => ∃ (n : Nat) (x : Addr) (z : Str) (rs : Rws) (v : V), vs = [.int (n : Nat), .ref x, v] ∧ n < 3 ∧ TabAt (TC K) H x z rs ∧
  ((∃ u, WrongP K H z rs v u ∧ ∀ H' q, Same H H' → H' q = some (.lst [.bl false, u, .bl true, .bl false]) → Q (.ref q) H') ∨ ∃ (a : Addr) (ys : List Str), v = .ref a ∧ H a = some (.lst (ys.map V.str)) ∧ (∀ p ∈ ys, p ∈ pcs z rs) ∧ ys.length ≤ 1000 ∧ ∀ H' r q, Same H H' → Told24 H H' z rs ys n r → H q = none → H' q = some (.lst [.bl true, r]) → r ≠ .ref q → Q (.ref q) H')
theorem cal__law_asked (T : Tx K mg) : Cal P w K mg base CX0 7 "_law_asked" (spAsked24 K) := by
  have CX__law_call := calx__law_call (P := P) (w := w) (base := base) T
  obtain ⟨fd, F⟩ := T.d__law_asked
  refine ⟨_, fd, P__law_asked, F.ok sc__law_asked (fun vs H Q E h => ?_) (fun cdv A outer s H vs Q E hr h => ?_), T.g__law_asked, F.kp, F.bindsN (ps := P__law_asked) fun _ _ _ _ _ _ us hl => match us, hl with | [_, _, _], _ => rfl⟩
  · obtain ⟨n, x, z, rs, v, rfl, _⟩ := h
    rfl
  · obtain ⟨n, x, z, rs, v, rfl, hn, ta, h⟩ := h
    refine ⟨_, (PSs.nox (pss_cons (ps_set (i := 3) sc__law_asked.nd rfl (Or.inl rfl) (pe_lstG pa_nil))
      (pss_cons (ps_try_as (i := 4) rfl rfl sc__law_asked.nd rfl rfl ⟨rfl, by decide, .inl T.g_NoPiece⟩ takes0 (fun W pn xe tk _ => (pss_one (ps_set (i := 3) sc__law_asked.nd rfl (Or.inl rfl) (pe_lstG (pa_cons pe_bl (pa_cons (pe_calX CX__law_call (by first | exact hr | exact hr.mono (by decide)) (by rfl) tk (pa_cons (pv 0) (pa_cons (pv 1) (pa_cons (pv 2) pa_nil)))) pa_nil)))))) (fun a oe cls d pn hz hf => (pss_one (ps_set (i := 3) sc__law_asked.nd rfl (Or.inl rfl) (pe_lstG (pa_cons pe_bl (pa_cons (pe_xf T.xc_NoPiece.xf T.no_NoPiece_place hz hf (pv 4)) (pa_cons (pe_callB (id := "isinstance") (call_isD T.xc_NoPiece hz hf) (by rfl) T.n_isinstance (by decide +kernel) (pa_cons (pv 4) (pa_cons (pe_glob (v := .ref (He.ga K "JoinError")) (by rfl) T.g_JoinError rfl) pa_nil))) (pa_cons (pe_callB (id := "isinstance") (call_isD T.xc_NoPiece hz hf) (by rfl) T.n_isinstance (by decide +kernel) (pa_cons (pv 4) (pa_cons (pe_glob (v := .ref (He.ga K "NoNumber")) (by rfl) T.g_NoNumber rfl) pa_nil))) pa_nil)))))))))
      (pss_one (ps_ret (pv 3)))))), ?_⟩
    refine ⟨(by show 0 ≤ sizeLine; decide), fun q0 H0 n0 s0 h0 => ?_⟩
    refine ⟨_, rfl, _, rfl, _, rfl, n, x, z, rs, v, rfl, hn, ta.same s0, ?_⟩
    rcases h with ⟨u, wr, k⟩ | ⟨a, ys, rfl, hA, hin, yl, k⟩
    · refine .inl ⟨u, wr.same s0, fun H1 d s1 nd hd => ?_⟩
      refine ⟨true, T.exm_NoPiece_NoPiece, fun _ a na => ?_, fun q => nomatch q⟩
      refine ⟨_, rfl, rfl, rfl, d, _, _, rfl, hd, rfl, ?_⟩
      refine ⟨_, rfl, _, _, true, d, _, rfl, rfl, rfl, hd, fun _ r => r, T.kit_NoPiece_JoinError, ?_⟩
      refine ⟨_, rfl, _, _, false, d, _, rfl, rfl, rfl, hd, fun _ r => r, T.kit_NoPiece_NoNumber, ?_⟩
      exact ⟨(by show 4 ≤ sizeLine; decide), fun q2 H2 n2 s2 h2 => ⟨_, rfl, k _ q2 ((s0.trans s1).trans s2) h2⟩⟩
    · refine .inr ⟨a, ys, rfl, s0 _ _ hA, hin, yl, fun H1 r s1 td => ?_⟩
      refine ⟨(by show 2 ≤ sizeLine; decide), fun q2 H2 n2 s2 h2 => ?_⟩
      refine ⟨_, rfl, k _ r q2 ((s0.trans s1).trans s2) ((td.back s0).same s2) ((s0.trans s1).free n2) h2 (fun e => ?_)⟩
      cases td with
      | text => cases e
      | nums a b => cases e; rw [n2] at b; cases b
      | bord a b => cases e; rw [n2] at b; cases b
theorem shS1 {x : Str} (h : Asc x) : SeqAt.shaped (.str x) = true := by
  unfold SeqAt.shaped
  simp [PyData.canLay0, PyData.depth, asc_ok h]
theorem eqS1 {x : Str} (h : Asc x) : PyData.eqv (.str x) (.str x) = true := SeqAt.eqv_refl _ (by simp [PyData.canLay0, asc_ok h])
theorem nat_ints (ns : List Nat) : ns.map (fun n : Nat => V.int (n : Nat)) = (ns.map fun n : Nat => (n : Int)).map V.int := by rw [List.map_map]; rfl
/-- told is what is asked for -/
def spGood24 (K : PySem.W.Frag) : Sp := fun vs H Q _ => ∃ (n : Nat) (lp a : Addr) (z : Str) (rs : Rws) (ys : List Str) (r : V) (H0 : Hp), vs = [.int (n : Nat), .ref lp, .ref a, r] ∧ n < 3 ∧ SqL K H lp ((pcs z rs).map V.str) ∧ TabOk z rs ∧ SqL K H a (ys.map V.str) ∧ ys.length ≤ 1000 ∧ (∀ p ∈ ys, p ∈ pcs z rs) ∧ Told24 H0 H z rs ys n r ∧ ∀ H', Same H H' → Q (.bl true) H'
theorem cal__law_good (T : Tx K mg) : Cal P w K mg base CX0 2 "_law_good" (spGood24 K) := by
  have C__law_is_whole := cal__law_is_whole (P := P) (w := w) (base := base) T
  obtain ⟨fd, F⟩ := T.d__law_good
  refine ⟨_, fd, P__law_good, F.ok sc__law_good (fun vs H Q E h => ?_) (fun cdv A outer s H vs Q E hr h => ?_), T.g__law_good, F.kp, F.bindsN (ps := P__law_good) fun _ _ _ _ _ _ us hl => match us, hl with | [_, _, _, _], _ => rfl⟩
  · obtain ⟨n, lp, a, z, rs, ys, r, H0, rfl, _⟩ := h
    rfl
  · obtain ⟨n, lp, a, z, rs, ys, r, H0, rfl, hn, hP, tk, hA, yl, hin, td, k⟩ := h
    refine ⟨_, (PSs.nox (pss_cons (ps_if (pt_cmpR op_eq (pv 0) pe_int (nomark _)) (pss_one (ps_ret (pe_and (pe_callB (id := "isinstance") call_isi (by rfl) T.n_isinstance (by decide +kernel) (pa_cons (pv 3) (pa_cons (pe_bltn (v := .ty "str") (by rfl) T.n_str (by decide +kernel) rfl) pa_nil))) (pe_one (pe_cmpR (op_eqD hr.units) (pv 3) (pe_join pe_str (pv 2)) (nomark _)))))) pss_nil)
      (pss_cons (ps_if (PW.pt (pw_or (pt_not (pt_val (pe_callB (id := "isinstance") call_isi (by rfl) T.n_isinstance (by decide +kernel) (pa_cons (pv 3) (pa_cons (pe_bltn (v := .ty "list") (by rfl) T.n_list (by decide +kernel) rfl) pa_nil))))) (pw_or1 (pt_not (pt_val (pe_callB (id := "all") (cr_all rfl) (by rfl) T.n_all (by decide +kernel) (pa_cons (pe_lc (own := [("_law_one", 4)]) (g := gName 4) (by rfl) sc__law_good.nd (pi_list (pv 3)) (blkOk_by (own := [("_law_one", 4)]) (N := N__law_good) (sc := defScope s__law_good) (by decide +kernel)) (fun _ _ _ _ _ => (pg_name (i := 4) sc__law_good.nd rfl (Or.inl rfl))) (fun _ _ _ _ _ => pts_nil) (fun _ _ _ _ _ => (pe_calT C__law_is_whole (by first | exact hr | exact hr.mono (by decide)) (by rfl) (pa_cons (pv 4) pa_nil)))) pa_nil))))))) (pss_one (ps_ret pe_bl)) pss_nil)
      (pss_cons (ps_if (pt_cmpR op_eq (pv 0) pe_int (nomark _)) (pss_one (ps_ret (pe_cmpR (op_eqD hr.units) (pv 3) (pe_lc (own := [("_law_piece", 5)]) (g := gName 5) (by rfl) sc__law_good.nd (pi_list (pv 2)) (blkOk_by (own := [("_law_piece", 5)]) (N := N__law_good) (sc := defScope s__law_good) (by decide +kernel)) (fun _ _ _ _ _ => (pg_name (i := 5) sc__law_good.nd rfl (Or.inl rfl))) (fun _ _ _ _ _ => pts_nil) (fun _ _ _ _ _ => (pe_bmT (K0 := K) rfl PySem.F.plainAttrs_list PySem.F.slot_list_index PySem.F.type_list_index (mt_indexT (K0 := K) rfl) (pv 1) (pa_cons (pv 5) pa_nil)))) (nomark _)))) pss_nil)
      (pss_one (ps_ret (pe_cmpR (op_eqD hr.units) (pv 3) (pe_lc (own := [("_law_k", 6)]) (g := gName 6) (by rfl) sc__law_good.nd (pi_range2 (by rfl) T.n_range (pa_cons pe_int (pa_cons (pe_callB (id := "len") call_len_seq (by rfl) T.n_len (by decide +kernel) (pa_cons (pv 2) pa_nil)) pa_nil))) (blkOk_by (own := [("_law_k", 6)]) (N := N__law_good) (sc := defScope s__law_good) (by decide +kernel)) (fun _ _ _ _ _ => (pg_name (i := 6) sc__law_good.nd rfl (Or.inl rfl))) (fun _ _ _ _ _ => pts_nil) (fun _ _ _ _ _ => (pe_callB (id := "len") call_len_str (by rfl) T.n_len (by decide +kernel) (pa_cons (pe_joinT (K0 := K) rfl pe_str (pe_slice (sl_listGK (K := K)) (pv 2) po_none (po_some (pv 6)))) pa_nil)))) (nomark _)))))))), ?_⟩
    have asc : ∀ p ∈ ys, Asc p := fun p hp => tk.asc (hin p hp)
    have sl := sum_le ys 16 fun p hp => (tk.plen (hin p hp)).2
    have el0 : (Str.ofString "").length = 0 := by decide +kernel
    have aj := join_asc0 asc
    cases td with
    | text =>
      exact ⟨_, rfl, rfl, _, rfl, iteT ⟨_, rfl, _, _, _, _, _, rfl, .ty "str", .base (.str _), isStr, _, rfl, iteT ⟨_, rfl, ⟨_, rfl⟩, _, rfl, _, a, ys, rfl, rfl, .inl hA, by rw [el0]; omega, _, _, .str _, .str _, shS1 aj, shS1 aj, by rw [eqS1 aj]; exact k _ (Same.refl _)⟩⟩⟩
    | @nums b nb hb =>
      refine ⟨_, rfl, rfl, _, rfl, iteF ⟨_, rfl, _, _, _, _, _, rfl, .ty "list", .base (.lst hb), isLst, _, rfl, iteF ⟨_, rfl, b, rfl, ⟨_, SqL.of hb⟩, fun D hD => lc_listM (K := K) (item := fun p => V.int (numOf z rs p : Nat)) (p := fun _ => true) (f := fun _ => V.bl true) (l := ys) (SqL.of hb) hD (by omega) (fun x hx H2 s2 N M hM _ => ?_) (fun H2 s2 hL => ?_)⟩⟩⟩
      · exact ⟨rfl, _, rfl, _, rfl, .inl ⟨_, rfl, hM rfl⟩⟩
      · have ef : ys.filter (fun _ => true) = ys := List.filter_eq_self.mpr fun _ _ => rfl
        rw [ef] at hL
        refine ⟨D, List.replicate ys.length true, rfl, SqL.of ?_, ?_⟩
        · rw [hL, map_rep, List.map_const']
        · rw [show (List.replicate ys.length true).all id = true by simp]
          refine ⟨_, rfl, iteF ⟨_, rfl, rfl, _, rfl, iteT ⟨_, rfl, _, rfl, a, rfl, ⟨_, s2.seq hA⟩, fun D2 hD2 => lc_listM (K := K) (item := V.str) (p := fun _ => true) (f := fun p => V.int (numOf z rs p : Nat)) (l := ys) (s2.seq hA) hD2 (by omega) (fun p hp H3 s3 N M hM _ => ?_) (fun H3 s3 hL3 => ?_)⟩⟩⟩
          · obtain ⟨hz, _⟩ := num_of tk (hin p hp)
            refine ⟨rfl, _, rfl, .inl ⟨rfl, _, (s2.trans s3).seq hP⟩, _, rfl, lp, _, _, numOf z rs p, .str p, rfl, rfl, (s2.trans s3).seq hP, rfl, flat_str _, by rw [List.getElem?_map, hz]; rfl, (by show (p == p) = true; simp), fun m z' hm hz' => ?_, hM rfl⟩
            rw [List.getElem?_map] at hz'
            cases eq : (pcs z rs)[m]? with
            | none => rw [eq] at hz'; cases hz'
            | some q =>
              rw [eq] at hz'
              cases hz'
              show (q == p) = false
              refine Bool.eq_false_iff.mpr fun e => ?_
              have e2 : q = p := by simpa using e
              rw [e2, ← hz] at eq
              have ml : m < (pcs z rs).length := by
                have := (List.getElem?_eq_some_iff.mp hz).1
                omega
              have := (List.getElem?_inj ml tk.nodup).mp eq
              omega
          · have ef3 : ys.filter (fun _ => true) = ys := List.filter_eq_self.mpr fun _ _ => rfl
            have em : ys.map (fun p => V.int (numOf z rs p : Nat)) = (ys.map fun p => (numOf z rs p : Int)).map V.int := by rw [List.map_map]; rfl
            rw [ef3, em] at hL3
            rw [em] at hb
            refine ⟨_, _, dpI (SqL.of ((s2.trans s3) _ _ hb)), dpI (SqL.of hL3), shI _, shI _, ?_⟩
            rw [eqI, decide_eq_true rfl]
            exact k _ (s2.trans s3)
    | @bord b nb hb =>
      have bl : (bordL ys).length ≤ 1000 := by unfold bordL; rw [List.length_map, List.length_range]; omega
      refine ⟨_, rfl, rfl, _, rfl, iteF ⟨_, rfl, _, _, _, _, _, rfl, .ty "list", .base (.lst hb), isLst, _, rfl, iteF ⟨_, rfl, b, rfl, ⟨_, SqL.of hb⟩, fun D hD => lc_listM (K := K) (item := fun n : Nat => V.int (n : Nat)) (p := fun _ => true) (f := fun _ => V.bl true) (l := bordL ys) (SqL.of hb) hD (by omega) (fun x hx H2 s2 N M hM _ => ?_) (fun H2 s2 hL => ?_)⟩⟩⟩
      · exact ⟨rfl, _, rfl, _, rfl, .inl ⟨_, rfl, hM rfl⟩⟩
      · have ef : (bordL ys).filter (fun _ => true) = bordL ys := List.filter_eq_self.mpr fun _ _ => rfl
        rw [ef] at hL
        refine ⟨D, List.replicate (bordL ys).length true, rfl, SqL.of ?_, ?_⟩
        · rw [hL, map_rep, List.map_const']
        · rw [show (List.replicate (bordL ys).length true).all id = true by simp]
          refine ⟨_, rfl, iteF ⟨_, rfl, rfl, _, rfl, iteF ⟨_, rfl, _, rfl, a, _, rfl, .inl (s2.seq hA), 1, _, rfl, ⟨by decide, by decide, by omega, by rw [List.length_map]; omega⟩, fun D2 hD2 => ?_⟩⟩⟩
          have en : ((((ys.map V.str).length : Nat) : Int) - 1).toNat = ys.length - 1 := by rw [List.length_map]; omega
          rw [en]
          refine lc_rangeC (lo := 1) (n := ys.length - 1) (p := fun _ => true) (f := fun j => V.int ((flat (ys.take (j + 1))).length : Nat)) hD2 (by omega) (fun j hj H3 s3 N M hM hN => ?_) (fun H3 s3 hL3 => ?_)
          · refine ⟨rfl, ⟨_, rfl⟩, _, rfl, _, rfl, _, rfl, a, _, rfl, (s2.trans s3).seq hA, fun c H4 n4 s4 h4 => ?_⟩
            rw [show (1 : Int) + (j : Int) = ((j + 1 : Nat) : Int) by omega, cutV_to, ← List.map_take] at h4
            have sl2 := sum_le (ys.take (j + 1)) 16 fun p hp => (tk.plen (hin p (List.mem_of_mem_take hp))).2
            rw [List.length_take] at sl2
            have jl : (Txt.join (Str.ofString "") (ys.take (j + 1))).length = (flat (ys.take (j + 1))).length := by rw [← len_cps, join_cps]
            have fl : (flat (ys.take (j + 1))).length = ((ys.take (j + 1)).map (·.length)).sum := (flat_len _).symm
            refine ⟨_, c, _, rfl, rfl, .inl (SqL.of h4), by rw [el0, List.length_take]; omega, _, rfl, sz (by rw [jl, fl]; omega), ?_⟩
            rw [jl]
            exact hM rfl _ s4
          · have ef3 : (List.range (ys.length - 1)).filter (fun _ => true) = List.range (ys.length - 1) := List.filter_eq_self.mpr fun _ _ => rfl
            have em : (List.range (ys.length - 1)).map (fun j => V.int ((flat (ys.take (j + 1))).length : Nat)) = ((bordL ys).map fun n : Nat => (n : Int)).map V.int := by
              unfold bordL
              rw [List.map_map, List.map_map]; rfl
            rw [ef3, em] at hL3
            rw [nat_ints] at hb
            refine ⟨_, _, dpI (SqL.of ((s2.trans s3) _ _ hb)), dpI (SqL.of hL3), shI _, shI _, ?_⟩
            rw [eqI, decide_eq_true rfl]
            exact k _ (s2.trans s3)
end
end Jr
namespace Jr
open PySem PySem.Spec PyProof.Rows L2
def some94 : Str := Str.ofString " !\"#$&'()*+,-./0123456789:;<=>?@ABCDEFGHIJKLMNOPQRSTUVWXYZ[\\]^_`" ++ Str.ofString "abcdefghijklmnopqrstuvwxyz{|}~"
theorem some94_len : some94.cps.toList.length = 94 := by decide +kernel
theorem some94_nd : some94.cps.toList.Nodup := by decide +kernel
theorem some94_ok : ∀ c ∈ some94.cps.toList, 32 ≤ c ∧ c ≤ 126 ∧ c ≠ 37 := by decide +kernel
def spSigns (K : PySem.W.Frag) : Sp := fun vs H Q _ => ∃ (a : Addr) (ds : List Int), vs = [.ref a] ∧ SqL K H a (ds.map V.int) ∧ ds.length ≤ 40 ∧ (∀ d ∈ ds, 0 ≤ d ∧ d < 94) ∧
  ∀ H' z, Same H H' → SignsOk z → z.length = ds.length → Q (.str z) H'
section
variable {P : Program} {w : World} {K : PySem.W.Frag} {mg : Str → Option Value} {base : Heap}
theorem cal__law_signs (T : Tx K mg) : Cal P w K mg base CX0 1 "_law_signs" (spSigns K) := by
  obtain ⟨fd, F⟩ := T.d__law_signs
  refine ⟨_, fd, P__law_signs, F.ok sc__law_signs (fun vs H Q E h => ?_) (fun cdv A outer s H vs Q E hr h => ?_), T.g__law_signs, F.kp, F.bindsN (ps := P__law_signs) fun _ _ _ _ _ _ us hl => match us, hl with | [_], _ => rfl⟩
  · obtain ⟨a, ds, rfl, _⟩ := h
    rfl
  · obtain ⟨a, ds, rfl, hS, hlen, hds, k⟩ := h
    refine ⟨_, (PSs.nox (pss_cons (ps_set (i := 1) sc__law_signs.nd rfl (Or.inl rfl) pe_str)
      (pss_cons (ps_set (i := 1) sc__law_signs.nd rfl (Or.inl rfl) (pe_op op_add_str (pv 1) pe_str))
      (pss_cons (ps_set (i := 2) sc__law_signs.nd rfl (Or.inr rfl) pe_str)
      (pss_cons (ps_for PassesOwn.never rfl (pi_list (pv 0)) (pg_name (i := 3) sc__law_signs.nd rfl (Or.inl rfl)) (pss_cons (ps_set (i := 4) sc__law_signs.nd rfl (Or.inl rfl) (pe_op op_add_str (pe_slice sl_str (pv 1) (po_some (pv 3)) po_none) (pe_slice sl_str (pv 1) po_none (po_some (pv 3)))))
      (pss_one (ps_set (i := 2) sc__law_signs.nd rfl (Or.inr rfl) (pe_op op_add_str (pv 2) (pe_ix ix_list (pe_lc (own := [("_law_sign", 5)]) (g := gName 5) (by rfl) sc__law_signs.nd (pi_str (pv 4)) (blkOk_by (own := [("_law_sign", 5)]) (N := N__law_signs) (sc := defScope s__law_signs) (by decide +kernel)) (fun _ _ _ _ _ => (pg_name (i := 5) sc__law_signs.nd rfl (Or.inl rfl))) (fun _ _ _ _ _ => (pts_one (pt_cmpR op_notIn_sign (pv 5) (pv 2) rfl))) (fun _ _ _ _ _ => (pv 5))) pe_int (fun _ _ => rfl)))))))
      (pss_one (ps_ret (pv 2)))))))), ?_⟩
    refine ⟨_, rfl, _, _, rfl, rfl, (by decide +kernel), ?_⟩
    refine ⟨_, rfl, a, rfl, ⟨_, hS⟩, for_list (K := K) (a := a) (xs := ds.map V.int) (fun i σ H' => ∃ (z : Str) (u v x : Option V), σ = [some (.ref a), some (.str some94), some (.str z), u, v, x] ∧ Same H H' ∧ SignsOk z ∧ z.length = i)
      ⟨Str.ofString "", none, none, none, rfl, Same.refl H, ⟨by decide +kernel, by decide +kernel⟩, by decide +kernel⟩ (fun i σ H' _ ⟨_, _, _, _, _, s, _⟩ => s.seq hS) ?_ ?_⟩
    · rintro i y σ H' hi ⟨z, u, v, x, rfl, sm, ok, ez⟩
      have hi2 : i < ds.length := by
        have q := (List.getElem?_eq_some_iff.mp hi).1
        rw [List.length_map] at q
        exact q
      obtain ⟨d, hd, rfl⟩ : ∃ d, d ∈ ds ∧ y = V.int d := by
        rw [List.getElem?_map, List.getElem?_eq_getElem hi2] at hi
        exact ⟨_, List.getElem_mem hi2, (Option.some.inj hi).symm⟩
      obtain ⟨d0, d1⟩ := hds d hd
      obtain ⟨n, rfl⟩ := Int.eq_ofNat_of_zero_le d0
      have hz94 : some94.length ≤ sizeLine := by decide +kernel
      have l94 : some94.length = 94 := by decide +kernel
      have lt : (cutS some94 (some (n : Int)) none).length + (cutS some94 none (some (n : Int))).length = 94 := by
        have e1 := cut_from some94 n
        have e2 := cut_to some94 n
        have l1 := congrArg List.length e1
        have l2 := congrArg List.length e2
        rw [len_cps, List.length_drop, some94_len] at l1
        rw [len_cps, List.length_take, some94_len] at l2
        omega
      refine ⟨_, rfl, _, rfl, _, rfl, _, rfl, hz94, _, rfl, _, rfl, _, rfl, _, rfl, hz94, _, _, rfl, rfl, (by rw [lt]; decide), ?_⟩
      obtain ⟨t, et⟩ : ∃ t : Str, t = cutS some94 (some (n : Int)) none ++ cutS some94 none (some (n : Int)) := ⟨_, rfl⟩
      have tp : t.cps.toList.Perm some94.cps.toList := by
        rw [et, app_cps, cut_from, cut_to]
        exact List.perm_append_comm.trans (List.Perm.of_eq (List.take_append_drop _ _))
      have tl : t.cps.toList.length = 94 := by rw [tp.length_eq, some94_len]
      refine ⟨_, rfl, _, rfl, t, by rw [et], fun D hD => lc_strM (p := fun c => !decide (c ∈ z.cps.toList)) (f := fun c => V.str (sgn c)) hD (by rw [tl]; decide) (fun c _ H2 _ N M hM hN => ?_) (fun H2 sm2 hL => ?_)⟩
      · refine ⟨rfl, _, rfl, _, rfl, _, _, rfl, rfl, _, rfl, ?_⟩
        by_cases hc : c ∈ z.cps.toList
        · rw [decide_eq_true hc]
          exact iteF (hN (by simp [hc]))
        · rw [decide_eq_false hc]
          exact iteT ⟨_, rfl, hM (by simp [hc])⟩
      · have hne : ∃ c r, t.cps.toList.filter (fun c => !decide (c ∈ z.cps.toList)) = c :: r := by
          cases e : t.cps.toList.filter (fun c => !decide (c ∈ z.cps.toList)) with
          | cons c r => exact ⟨c, r, rfl⟩
          | nil =>
            exfalso
            have all : ∀ c ∈ t.cps.toList, c ∈ z.cps.toList := fun c hc => by
              have q := List.filter_eq_nil_iff.mp e c hc
              simpa using q
            have q := pigeon t.cps.toList z.cps.toList (tp.symm.nodup some94_nd) all
            rw [tl, len_cps, ez] at q
            omega
        obtain ⟨c, r, er⟩ := hne
        have hc : c ∈ t.cps.toList ∧ ¬ c ∈ z.cps.toList := by
          have q : c ∈ t.cps.toList.filter (fun c => !decide (c ∈ z.cps.toList)) := by rw [er]; exact List.mem_cons_self
          have q2 := List.mem_filter.mp q
          exact ⟨q2.1, by simpa using q2.2⟩
        rw [er] at hL
        refine ⟨D, _, _, _, rfl, rfl, SqL.of hL, (show atI _ ((0 : Nat) : Int) = _ from ats rfl), _, _, rfl, rfl, ?_, ?_⟩
        · show z.length + 1 ≤ sizeLine
          exact sz (by omega)
        · refine ⟨_, _, _, _, rfl, sm.trans sm2, ⟨?_, ?_⟩, ?_⟩
          · rw [app_cps]
            show (z.cps.toList ++ [c]).Nodup
            rw [List.nodup_append]
            refine ⟨ok.nd, by simp, fun x hx y hy => ?_⟩
            rw [List.mem_singleton] at hy
            rw [hy]
            exact fun e => hc.2 (e ▸ hx)
          · intro x hx
            rw [app_cps] at hx
            rcases List.mem_append.mp hx with hx | hx
            · exact ok.ok x hx
            · have e : x = c := by simpa [sgn] using hx
              rw [e]
              exact some94_ok c (tp.mem_iff.mp hc.1)
          · rw [app_len, ez]; rfl
    · rintro σ H' ⟨z, u, v, x, rfl, sm, ok, ez⟩
      rw [List.length_map] at ez
      exact ⟨_, rfl, k _ z sm ok ez⟩
end
end Jr
namespace Jr
open PySem PySem.Spec PyProof.Rows L2
theorem nl_sgn : V.str (Str.ofString "\n") = V.str (sgn 10) := by decide +kernel
theorem tab_sgn : V.str (Str.ofString "\t") = V.str (sgn 9) := by decide +kernel
section
variable {P : Program} {w : World} {K : PySem.W.Frag} {mg : Str → Option Value} {base : Heap}
/-- a sign that is none of these -/
def spStrange : Sp := fun vs H Q _ => ∃ (z : Str) (d : Nat), vs = [.str z, .int (d : Nat)] ∧ d < 94 ∧ z.length ≤ 12 ∧ SignsOk z ∧ ∀ H' c, Same H H' → ¬ c ∈ z.cps.toList → c ≤ 126 → Q (.str (sgn c)) H'
theorem cal__law_strange (T : Tx K mg) : Cal P w K mg base CX0 2 "_law_strange" spStrange := by
  have C__law_signs := cal__law_signs (P := P) (w := w) (base := base) T
  obtain ⟨fd, F⟩ := T.d__law_strange
  refine ⟨_, fd, P__law_strange, F.ok sc__law_strange (fun vs H Q E h => ?_) (fun cdv A outer s H vs Q E hr h => ?_), T.g__law_strange, F.kp, F.bindsN (ps := P__law_strange) fun _ _ _ _ _ _ us hl => match us, hl with | [_, _], _ => rfl⟩
  · obtain ⟨z, d, rfl, _⟩ := h
    rfl
  · obtain ⟨z, d, rfl, d94, z12, zok, k⟩ := h
    refine ⟨_, (PSs.nox (pss_cons (ps_if (pt_cmpR op_eq (pe_op op_mod (pv 1) pe_int) pe_int (nomark _)) (pss_one (ps_ret (pe_ix ix_list (pe_lstG (pa_cons pe_str (pa_cons pe_str pa_nil))) (pe_op op_mod (pe_op op_fdiv (pv 1) pe_int) pe_int) (fun _ _ => rfl)))) pss_nil)
      (pss_one (ps_ret (pe_ix ix_list (pe_lc (own := [("_law_sign", 2)]) (g := gName 2) (by rfl) sc__law_strange.nd (pi_str (pe_cal C__law_signs (by first | exact hr | exact hr.mono (by decide)) (by rfl) (pa_cons (pe_op op_repG (pe_lstG (pa_cons (pv 1) pa_nil)) pe_int) pa_nil))) (blkOk_by (own := [("_law_sign", 2)]) (N := N__law_strange) (sc := defScope s__law_strange) (by decide +kernel)) (fun _ _ _ _ _ => (pg_name (i := 2) sc__law_strange.nd rfl (Or.inl rfl))) (fun _ _ _ _ _ => (pts_one (pt_cmpR op_notIn_sign (pv 2) (pv 0) rfl))) (fun _ _ _ _ _ => (pv 2))) pe_int (fun _ _ => rfl)))))), ?_⟩
    refine ⟨_, rfl, _, _, rfl, rfl, (by show (0 : Int) < 5; decide), rfl, _, rfl, ite2 (fun _ => ?_) (fun _ => ?_)⟩
    · refine ⟨(by show 2 ≤ sizeLine; decide), fun q H1 nq s1 hq => ?_⟩
      obtain ⟨c, hc, A⟩ : ∃ c, (c = 10 ∨ c = 9) ∧ atI [V.str (Str.ofString "\n"), V.str (Str.ofString "\t")] (((d : Nat) : Int) / 5 % 2) = some (V.str (sgn c)) := by
        have h0 : ((d : Nat) : Int) / 5 % 2 = 0 ∨ ((d : Nat) : Int) / 5 % 2 = 1 := by omega
        rcases h0 with e | e
        · rw [e]
          exact ⟨10, .inl rfl, by rw [← nl_sgn]; exact (show atI _ ((0 : Nat) : Int) = _ from ats rfl)⟩
        · rw [e]
          exact ⟨9, .inr rfl, by rw [← tab_sgn]; exact (show atI _ ((1 : Nat) : Int) = _ from ats rfl)⟩
      refine ⟨_, rfl, _, _, rfl, rfl, ⟨by decide, by decide⟩, _, _, rfl, rfl, (by show (0 : Int) < 2; decide), q, _, _, _, rfl, rfl, SqL.of hq, A, k _ c s1 (fun hm => ?_) (by omega)⟩
      have := zok.ok c hm
      omega
    · refine ⟨_, rfl, (by show 1 ≤ sizeLine; decide), fun q H1 nq s1 hq => ?_⟩
      refine ⟨q, _, _, rfl, rfl, hq, by decide, by decide, (by show 1 * 13 ≤ sizeLine; decide), fun q2 H2 nq2 s2 hq2 => ?_⟩
      have e13 : (List.replicate (13 : Int).toNat [V.int (d : Int)]).flatten = (List.replicate 13 (d : Int)).map V.int := by rw [rep_one, map_rep]; rfl
      rw [e13] at hq2
      refine ⟨q2, List.replicate 13 (d : Int), rfl, SqL.of hq2, by simp, fun x hx => ?_, fun H3 t s3 tok tlen => ?_⟩
      · rw [(List.mem_replicate.mp hx).2]
        omega
      rw [List.length_replicate] at tlen
      have s13 := (s1.trans s2).trans s3
      refine ⟨t, rfl, fun D hD => lc_strM (p := fun c => !decide (c ∈ z.cps.toList)) (f := fun c => V.str (sgn c)) hD (by rw [len_cps, tlen]; decide) (fun c _ H4 _ N M hM hN => ?_) (fun H4 s4 hL => ?_)⟩
      · refine ⟨rfl, _, rfl, _, rfl, _, _, rfl, rfl, _, rfl, ?_⟩
        by_cases hc : c ∈ z.cps.toList
        · rw [decide_eq_true hc]
          exact iteF (hN (by simp [hc]))
        · rw [decide_eq_false hc]
          exact iteT ⟨_, rfl, hM (by simp [hc])⟩
      · obtain ⟨c, r, er⟩ : ∃ c r, t.cps.toList.filter (fun c => !decide (c ∈ z.cps.toList)) = c :: r := by
          cases e : t.cps.toList.filter (fun c => !decide (c ∈ z.cps.toList)) with
          | cons c r => exact ⟨c, r, rfl⟩
          | nil =>
            exfalso
            have all : ∀ c ∈ t.cps.toList, c ∈ z.cps.toList := fun c hc => by
              have q := List.filter_eq_nil_iff.mp e c hc
              simpa using q
            have q := pigeon t.cps.toList z.cps.toList tok.nd all
            rw [len_cps, len_cps, tlen] at q
            omega
        have hc : c ∈ t.cps.toList ∧ ¬ c ∈ z.cps.toList := by
          have q : c ∈ t.cps.toList.filter (fun c => !decide (c ∈ z.cps.toList)) := by rw [er]; exact List.mem_cons_self
          have q2 := List.mem_filter.mp q
          exact ⟨q2.1, by simpa using q2.2⟩
        rw [er] at hL
        have c126 := (tok.ok c hc.1).2.1
        exact ⟨D, _, _, _, rfl, rfl, SqL.of hL, (show atI _ ((0 : Nat) : Int) = _ from ats rfl), k _ c (s13.trans s4) hc.2 c126⟩
end
end Jr
namespace Jr
open PySem PySem.Spec PyProof.Rows L2
/-! ### text * number -/
theorem fold_mem (a : Array Nat) : ∀ (k : Nat) (acc : Array Nat) (c : Nat), c ∈ ((List.replicate k a).foldl (· ++ ·) acc).toList → c ∈ acc.toList ∨ c ∈ a.toList
  | 0, _, _, h => .inl h
  | k + 1, acc, c, h => by
    rw [List.replicate_succ, List.foldl_cons] at h
    rcases fold_mem a k (acc ++ a) c h with e | e
    · rw [Array.toList_append] at e
      exact List.mem_append.mp e
    · exact .inr e
theorem mul_mem (x : Str) (n : Int) (c : Nat) (h : c ∈ (Txt.mul x n).cps.toList) : c ∈ x.cps.toList := by
  unfold Txt.mul at h
  split at h
  · cases h
  · split at h
    · exact h
    · rcases fold_mem _ _ _ c h with e | e
      · cases e
      · exact e
theorem op_mul_str {X : Cx} : OpR X (binaryOp .Mult) (fun x y H Q => ∃ (a : Str) (n : Int), x = .str a ∧ y = .int n ∧ 1 ≤ n ∧ n ≤ 100 ∧ a.length ≤ 1000 ∧ ∀ t : Str, (∀ c ∈ t.cps.toList, c ∈ a.cps.toList) → t.length ≤ a.length * n.toNat → Q (.str t) H) := by
  intro pins s σ H x y v u Q I rx ry h
  obtain ⟨a, n, rfl, rfl, h1, h2, h3, q⟩ := h
  obtain ⟨t, rfl⟩ := rx
  obtain ⟨t', rfl⟩ := ry
  refine SB.mul ⟨?_, fun _ _ => ?_, fun _ _ => ?_⟩ (fun t' k => ⟨.str (Txt.mul a n), H, I.tok _, ⟨_, rfl⟩, q _ (mul_mem a n) ?_⟩)
  · have e1 : ¬ n < -(2 ^ 63 : Int) := by omega
    have e2 : ¬ n ≥ (2 ^ 63 : Int) := by omega
    rw [decide_eq_false e1, decide_eq_false e2]; rfl
  · have := Int.le_ediv_of_mul_le (show (0 : Int) < n by omega) (show (1000 : Int) * n ≤ 2 ^ 63 - 1 by omega)
    omega
  · have : a.length * n.toNat ≤ 1000 * 100 := Nat.mul_le_mul h3 (by omega)
    have z : a.length * n.toNat ≤ sizeLine := sz this
    show decide (a.length * n.toNat > sizeLine) = false
    exact decide_eq_false (by omega)
  · have e := len_mul a n
    rw [if_neg (by simp; omega)] at e
    obtain ⟨m, rfl⟩ := Int.eq_ofNat_of_zero_le (show (0 : Int) ≤ n by omega)
    rw [Int.toNat_natCast]
    have e2 : ((Txt.mul a (m : Int)).length : Int) = ((a.length * m : Nat) : Int) := by rw [e, Int.natCast_mul]
    omega
end Jr
namespace Jr
open PySem PySem.Spec PyProof.Rows L2
/-- digits by sizes: a new list, each digit from 0 to below its size -/
def spNumbers (K : PySem.W.Frag) : Sp := fun vs H Q _ => ∃ (c salt : Int) (a : Addr) (ns : List Int), vs = [.int c, .int salt, .ref a] ∧ 0 ≤ salt ∧ salt ≤ 100000 ∧ SqL K H a (ns.map V.int) ∧ ns.length ≤ 1000 ∧
  (∀ z ∈ ns, 0 < z ∧ z.natAbs.log2 < 9000) ∧ ∀ H' p ds, Same H H' → H p = none → H' p = some (.lst (ds.map V.int)) → Digs ns ds → Q (.ref p) H'
theorem Digs.snoc {ns ds : List Int} {i : Nat} {z d : Int} (h : Digs (ns.take i) ds) (hz : ns[i]? = some z) (h0 : 0 ≤ d) (h1 : d < z) : Digs (ns.take (i + 1)) (ds ++ [d]) := by
  have e : ns.take (i + 1) = ns.take i ++ [z] := by
    rw [List.take_add_one, hz]
    rfl
  rw [e]
  exact Paired.snoc h ⟨h0, h1⟩
theorem digs_end {H' : Hp} {p : Addr} {ns ds : List Int} {i : Nat} {z x : Int} (h : Digs (ns.take i) ds) (hz : ns[i]? = some z) (zp : 0 < z) :
    ∃ es : List Int, (upd H' p (.lst (ds.map V.int ++ [V.int (x % z)]))) p = some (.lst (es.map V.int)) ∧ Digs (ns.take (i + 1)) es :=
  ⟨ds ++ [x % z], by rw [upd_same, List.map_append]; rfl, h.snoc hz (Int.emod_nonneg _ (by omega)) (Int.emod_lt_of_pos _ zp)⟩
theorem nab {x m : Int} (h : 0 < m) (hm : m ≤ 2 ^ 62) : (x % m).natAbs < 2 ^ 64 := by
  have := Int.emod_nonneg x (show m ≠ 0 by omega)
  have := Int.emod_lt_of_pos x h
  omega
theorem mulb {x m : Int} (h : 0 < m) (hm : m ≤ 2 ^ 62) : -(2 ^ 64) < x % m ∧ x % m < 2 ^ 64 := by
  have := Int.emod_nonneg x (show m ≠ 0 by omega)
  have := Int.emod_lt_of_pos x h
  omega
theorem mulb2 {x : Int} {i : Nat} (hi : i ≤ 1000) : -(2 ^ 64) < x % 2147483647 + 104729 * (0 + (i : Int) + 1) ∧ x % 2147483647 + 104729 * (0 + (i : Int) + 1) < 2 ^ 64 := by
  have := Int.emod_nonneg x (show (2147483647 : Int) ≠ 0 by omega)
  have := Int.emod_lt_of_pos x (show (0 : Int) < 2147483647 by omega)
  omega
section
variable {P : Program} {w : World} {K : PySem.W.Frag} {mg : Str → Option Value} {base : Heap}
theorem cal__law_numbers (T : Tx K mg) : Cal P w K mg base CX0 1 "_law_numbers" (spNumbers K) := by
  obtain ⟨fd, F⟩ := T.d__law_numbers
  refine ⟨_, fd, P__law_numbers, F.ok sc__law_numbers (fun vs H Q E h => ?_) (fun cdv A outer s H vs Q E hr h => ?_), T.g__law_numbers, F.kp, F.bindsN (ps := P__law_numbers) fun _ _ _ _ _ _ us hl => match us, hl with | [_, _, _], _ => rfl⟩
  · obtain ⟨c, salt, a, ns, rfl, _⟩ := h
    rfl
  · obtain ⟨c, salt, a, ns, rfl, s0, s1, hS, hlen, hns, k⟩ := h
    refine ⟨_, (PSs.nox (pss_cons (ps_set (i := 3) sc__law_numbers.nd rfl (Or.inl rfl) (pe_callB (id := "max") (call_max2 rfl) (by rfl) T.n_max (by decide +kernel) (pa_cons (pv 0) (pa_cons (pe_op op_sub (pe_un un_neg pe_int) (pv 0)) pa_nil))))
      (pss_cons (ps_set (i := 4) sc__law_numbers.nd rfl (Or.inl rfl) (pv 3))
      (pss_cons (ps_set (i := 5) sc__law_numbers.nd rfl (Or.inl rfl) (pe_lst pa_nil))
      (pss_cons (ps_for PassesOwn.never rfl (pi_range1 (by rfl) T.n_range (pa_cons (pe_callB (id := "len") call_len_seq (by rfl) T.n_len (by decide +kernel) (pa_cons (pv 2) pa_nil)) pa_nil)) (pg_name (i := 6) sc__law_numbers.nd rfl (Or.inl rfl)) (pss_one (ps_if (PW.pt (pw_and (pt_cmpR op_ge (pv 3) (pe_op op_pow pe_int pe_int) (nomark _)) (pw_and1 (pt_cmpR op_gt (pv 4) pe_int (nomark _))))) (pss_cons (ps_expr (pe_bm PySem.F.plainAttrs_list PySem.F.slot_list_append PySem.F.type_list_append mt_append (pv 5) (pa_cons (pe_op op_mod (pv 4) (pe_ix ix_list (pv 2) (pv 6) (fun _ _ => rfl))) pa_nil)))
      (pss_one (ps_set (i := 4) sc__law_numbers.nd rfl (Or.inl rfl) (pe_op op_fdivW (pv 4) (pe_ix ix_list (pv 2) (pv 6) (fun _ _ => rfl)))))) (pss_cons (ps_set (i := 7) sc__law_numbers.nd rfl (Or.inl rfl) (pe_op op_mod (pe_op op_pow (pe_op op_add (pe_op op_add (pe_op op_mod (pv 3) pe_int) (pe_op op_mul pe_int (pv 1))) pe_int) pe_int) pe_int))
      (pss_cons (ps_set (i := 7) sc__law_numbers.nd rfl (Or.inl rfl) (pe_op op_mod (pe_op op_mul (pe_op op_add (pv 7) (pe_op op_mul pe_int (pe_op op_add (pv 6) pe_int))) (pe_op op_add (pv 6) pe_int)) pe_int))
      (pss_cons (ps_set (i := 7) sc__law_numbers.nd rfl (Or.inl rfl) (pe_op op_mod (pe_op op_mul (pe_op op_mod (pe_op op_pow (pv 7) pe_int) pe_int) pe_int) pe_int))
      (pss_one (ps_expr (pe_bm PySem.F.plainAttrs_list PySem.F.slot_list_append PySem.F.type_list_append mt_append (pv 5) (pa_cons (pe_op op_mod (pe_op op_fdiv (pv 7) pe_int) (pe_ix ix_list (pv 2) (pv 6) (fun _ _ => rfl))) pa_nil))))))))))
      (pss_one (ps_ret (pv 5)))))))), ?_⟩
    refine ⟨_, rfl, _, rfl, _, rfl, _, _, rfl, rfl, _, _, rfl, ?_⟩
    obtain ⟨nu, hnu⟩ : ∃ nu : Int, nu = (if -1 - c > c then -1 - c else c) := ⟨_, rfl⟩
    refine ⟨_, rfl, Nat.zero_le _, fun p hp => ?_⟩
    refine ⟨_, rfl, _, _, rfl, .inl ((Same.new hp).seq hS), _, rfl, ?_, ?_, ?_⟩
    · show -(2 ^ 62) ≤ (((ns.map V.int).length : Nat) : Int)
      omega
    · show (((ns.map V.int).length : Nat) : Int) < 2 ^ 62
      rw [List.length_map]
      omega
    have en : ((((ns.map V.int).length : Nat) : Int)).toNat = ns.length := by rw [List.length_map]; rfl
    rw [en]
    rw [← hnu]
    refine for_range (lo := 0) (n := ns.length) (fun i σ H' => ∃ (l : Int) (kk one : Option V), σ = [some (.int c), some (.int salt), some (.ref a), some (.int nu), some (.int l), some (.ref p), kk, one] ∧
      Same H H' ∧ ∃ ds : List Int, H' p = some (.lst (ds.map V.int)) ∧ Digs (ns.take i) ds) ⟨nu, none, none, rfl, Same.new hp, [], upd_same, .nil⟩ ?_ ?_
    · rintro i σ H' hi ⟨l, kk, one, rfl, sm, ds, hL, hD⟩
      have hz : ns[i]? = some ns[i] := List.getElem?_eq_getElem hi
      obtain ⟨z, ez⟩ : ∃ z, z = ns[i] := ⟨_, rfl⟩
      rw [← ez] at hz
      have zp : 0 < z ∧ z.natAbs.log2 < 9000 := hns z (by rw [ez]; exact List.getElem_mem hi)
      have hS' : SqL K H' a (ns.map V.int) := sm.seq hS
      have hat : atI (ns.map V.int) (0 + (i : Int)) = some (V.int z) := by
        rw [Int.zero_add]
        exact ats (by rw [List.getElem?_map, hz]; rfl)
      have hlen2 : (ds.map V.int).length < sizeLine := by
        rw [List.length_map, ← hD.length, List.length_take]
        exact szl (by omega)
      have keep : ∀ d : Int, Same H (upd H' p (.lst ((ds.map V.int) ++ [V.int d]))) := fun d => Same.mut sm hp
      have hnn : 0 ≤ nu := by
        rw [hnu]
        split <;> omega
      refine ⟨_, rfl, _, _, rfl, rfl, ⟨by decide, by decide, by decide⟩, _, _, rfl, rfl, _, rfl, ite2 (fun c1 => ⟨_, rfl, _, _, rfl, rfl, _, rfl, ite2 (fun c2 => ?A) (fun c2 => ?B1)⟩) (fun c1 => iteF ?B2)⟩
      case A =>
        refine ⟨_, rfl, .inl ⟨rfl, _, SqL.of hL⟩, _, rfl, _, rfl, _, rfl, _, _, _, _, rfl, rfl, hS', hat, _, _, rfl, rfl, zp.1, _, _, _, rfl, rfl, hL, hlen2, ?_⟩
        refine ⟨_, rfl, _, rfl, _, rfl, _, _, _, _, rfl, rfl, (keep _).seq hS, hat, _, _, rfl, rfl, zp, ?_⟩
        exact ⟨_, _, one, rfl, keep _, digs_end hD hz zp.1⟩
      all_goals
        have m1 : 0 ≤ nu % 2147483629 ∧ nu % 2147483629 < 2147483629 := ⟨Int.emod_nonneg _ (by decide), Int.emod_lt_of_pos _ (by decide)⟩
        refine ⟨_, rfl, _, _, rfl, rfl, (by show (0 : Int) < 2147483629; decide), _, rfl, _, _, rfl, rfl, .inl ⟨by decide, by decide⟩, _, _, rfl, rfl, _, _, rfl, rfl, _, _, rfl, rfl, ⟨by decide, by decide, ?_⟩, _, _, rfl, rfl, (by show (0 : Int) < 2147483647; decide), ?_⟩
        · show (nu % 2147483629 + 7919 * salt + 1).natAbs < 2 ^ 64
          omega
        refine ⟨_, rfl, _, rfl, _, _, rfl, rfl, _, _, rfl, rfl, .inl ⟨by decide, by decide⟩, _, _, rfl, rfl, _, rfl, _, _, rfl, rfl, _, _, rfl, rfl, .inl (mulb2 (by omega)), _, _, rfl, rfl, (by show (0 : Int) < 2147483629; decide), ?_⟩
        refine ⟨_, rfl, _, _, rfl, rfl, ⟨by decide, by decide, nab (by decide) (by decide)⟩, _, _, rfl, rfl, (by show (0 : Int) < 2147483647; decide), _, _, rfl, rfl, .inl (mulb (by decide) (by decide)), _, _, rfl, rfl, (by show (0 : Int) < 2147483629; decide), ?_⟩
        refine ⟨_, rfl, .inl ⟨rfl, _, SqL.of hL⟩, _, rfl, _, _, rfl, rfl, ⟨by decide, by decide⟩, _, rfl, _, rfl, _, _, _, _, rfl, rfl, hS', hat, _, _, rfl, rfl, zp.1, _, _, _, rfl, rfl, hL, hlen2, ?_⟩
        exact ⟨_, _, _, rfl, keep _, digs_end hD hz zp.1⟩
    · rintro σ H' ⟨l, kk, one, rfl, sm, ds, hL, hD⟩
      rw [List.take_length] at hD
      exact ⟨_, rfl, k _ p ds sm hp hL hD⟩
end
end Jr
namespace Jr
open PySem PySem.Spec PyProof.Rows L2
def spRows (K : PySem.W.Frag) : Sp := fun vs H Q _ => ∃ (z : Str) (a : Addr) (ds : List Int), vs = [.str z, .ref a] ∧ SqL K H a (ds.map V.int) ∧ ds.length ≤ 1000 ∧ SignsOk z ∧ 1 ≤ z.length ∧ z.length ≤ 12 ∧
  ∀ H' p rs, Same H H' → H p = none → RowsAt H' p rs → TabOk z rs → Q (.ref p) H'
section
variable {P : Program} {w : World} {K : PySem.W.Frag} {mg : Str → Option Value} {base : Heap}
theorem cal__law_rows (T : Tx K mg) : Cal P w K mg base CX0 1 "_law_rows" (spRows K) := by
  obtain ⟨fd, F⟩ := T.d__law_rows
  refine ⟨_, fd, P__law_rows, F.ok sc__law_rows (fun vs H Q E h => ?_) (fun cdv A outer s H vs Q E hr h => ?_), T.g__law_rows, F.kp, F.bindsN (ps := P__law_rows) fun _ _ _ _ _ _ us hl => match us, hl with | [_, _], _ => rfl⟩
  · obtain ⟨z, a, ds, rfl, _⟩ := h
    rfl
  · obtain ⟨z, a, ds, rfl, hS, hlen, so, z1, z12, k⟩ := h
    refine ⟨_, (PSs.nox (pss_cons (ps_set (i := 2) sc__law_rows.nd rfl (Or.inl rfl) (pe_callTy (T := "list") (call_list_str rfl) (by rfl) T.n_list (by decide +kernel) (pa_cons (pv 0) pa_nil)))
      (pss_cons (ps_set (i := 3) sc__law_rows.nd rfl (Or.inl rfl) (pe_lst pa_nil))
      (pss_cons (ps_for PassesOwn.never rfl (pi_range1 (by rfl) T.n_range (pa_cons (pe_op op_fdiv (pe_callB (id := "len") call_len_seq (by rfl) T.n_len (by decide +kernel) (pa_cons (pv 1) pa_nil)) pe_int) pa_nil)) (pg_name (i := 4) sc__law_rows.nd rfl (Or.inl rfl)) (pss_cons (ps_set (i := 5) sc__law_rows.nd rfl (Or.inl rfl) (pe_ix ix_list (pv 2) (pe_op op_mod (pe_ix ix_list (pv 1) (pe_op op_mul pe_int (pv 4)) (fun _ _ => rfl)) (pe_callB (id := "len") call_len_seq (by rfl) T.n_len (by decide +kernel) (pa_cons (pv 2) pa_nil))) (fun _ _ => rfl)))
      (pss_cons (ps_set (i := 6) sc__law_rows.nd rfl (Or.inl rfl) (pe_ix ix_list (pv 2) (pe_op op_mod (pe_ix ix_list (pv 1) (pe_op op_add (pe_op op_mul pe_int (pv 4)) pe_int) (fun _ _ => rfl)) (pe_callB (id := "len") call_len_seq (by rfl) T.n_len (by decide +kernel) (pa_cons (pv 2) pa_nil))) (fun _ _ => rfl)))
      (pss_one (ps_if (PW.pt (pw_and (pt_cmpR op_le (pe_callB (id := "len") call_len_str (by rfl) T.n_len (by decide +kernel) (pa_cons (pe_op op_add_str (pv 5) (pv 6)) pa_nil)) pe_int (nomark _)) (pw_and (pt_cmpR op_notIn_seq (pe_op op_add_str (pv 5) (pv 6)) (pv 2) rfl) (pw_and1 (pt_cmpR op_lt (pe_callB (id := "len") call_len_seq (by rfl) T.n_len (by decide +kernel) (pa_cons (pv 3) pa_nil)) pe_int (nomark _)))))) (pss_cons (ps_expr (pe_bm PySem.F.plainAttrs_list PySem.F.slot_list_append PySem.F.type_list_append mt_append (pv 3) (pa_cons (pe_tup (pa_cons (pv 5) (pa_cons (pv 6) pa_nil))) pa_nil)))
      (pss_one (ps_expr (pe_bm PySem.F.plainAttrs_list PySem.F.slot_list_append PySem.F.type_list_append mt_append (pv 2) (pa_cons (pe_op op_add_str (pv 5) (pv 6)) pa_nil))))) pss_nil)))))
      (pss_one (ps_ret (pv 3))))))), ?_⟩
    refine ⟨_, rfl, _, rfl, sz (by omega), fun q hq => ?_⟩
    refine ⟨Nat.zero_le _, fun p hp => ?_⟩
    have hpH : H p = none := by
      by_cases e : p = q
      · rw [e]; exact hq
      · rw [upd_ne e] at hp; exact hp
    have hqp : q ≠ p := fun e => by
      rw [← e, upd_same] at hp
      cases hp
    have s0 : Same H (upd (upd H q (.lst ((sgs z).map V.str))) p (.lst [])) := Same.mut (Same.new hq) hpH
    refine ⟨_, rfl, _, _, rfl, .inl (s0.seq hS), _, _, rfl, rfl, ⟨by decide, by decide⟩, _, rfl, ?_, ?_, ?_⟩
    · show -(2 ^ 62) ≤ (((ds.map V.int).length : Nat) : Int) / 2
      omega
    · show (((ds.map V.int).length : Nat) : Int) / 2 < 2 ^ 62
      rw [List.length_map]
      omega
    have en : ((((ds.map V.int).length : Nat) : Int) / 2).toNat = ds.length / 2 := by rw [List.length_map]; omega
    show ∃ W, _
    refine for_range (lo := 0) (n := ((((ds.map V.int).length : Nat) : Int) / 2).toNat) (fun i σ H' => ∃ (rs : Rws) (u v x : Option V), σ = [some (.str z), some (.ref a), some (.ref q), some (.ref p), u, v, x] ∧
      Same H H' ∧ H' q = some (.lst ((pcs z rs).map V.str)) ∧ RowsAt H' p rs ∧ TabOk z rs) ⟨[], none, none, none, rfl, s0, ?_, ⟨[], upd_same, .nil⟩, TabOk.nil so z1 z12⟩ ?_ ?_
    · rw [upd_ne hqp, upd_same]
      unfold pcs
      rw [List.map_nil, List.append_nil]
    · rintro i σ H' hi ⟨rs, u, v, x, rfl, sm, hq', ⟨as, hp', hrs⟩, tk⟩
      rw [en] at hi
      have hS' := sm.seq hS
      have pl : (pcs z rs).length = z.length + rs.length := pcs_len z rs
      have plm : ((pcs z rs).map V.str).length = z.length + rs.length := by rw [List.length_map, pl]
      have many := tk.many
      have dig : ∀ j : Nat, j < ds.length → ∃ d, atI (ds.map V.int) (j : Int) = some (V.int d) := fun j hj => ⟨ds[j], atm (List.getElem?_eq_getElem hj)⟩
      have pce : ∀ d : Int, ∃ x, x ∈ pcs z rs ∧ atI ((pcs z rs).map V.str) (d % (((pcs z rs).map V.str).length : Nat)) = some (V.str x) := fun d => by
        have h0 := Int.emod_nonneg d (show ((((pcs z rs).map V.str).length : Nat) : Int) ≠ 0 by omega)
        have h1 := Int.emod_lt_of_pos d (show (0 : Int) < (((pcs z rs).map V.str).length : Nat) by omega)
        obtain ⟨m, hm⟩ := Int.eq_ofNat_of_zero_le h0
        rw [hm]
        have hm2 : m < (pcs z rs).length := by omega
        exact ⟨(pcs z rs)[m], List.getElem_mem hm2, atm (List.getElem?_eq_getElem hm2)⟩
      have e1 : (2 : Int) * (0 + (i : Int)) = ((2 * i : Nat) : Int) := by omega
      have e2 : (2 : Int) * (0 + (i : Int)) + 1 = ((2 * i + 1 : Nat) : Int) := by omega
      obtain ⟨d1, hd1⟩ := dig (2 * i) (by omega)
      obtain ⟨d2, hd2⟩ := dig (2 * i + 1) (by omega)
      obtain ⟨x1, m1, a1⟩ := pce d1
      obtain ⟨x2, m2, a2⟩ := pce d2
      rw [← e1] at hd1
      rw [← e2] at hd2
      have pos : (0 : Int) < (((pcs z rs).map V.str).length : Nat) := by omega
      refine ⟨_, rfl, _, rfl, _, rfl, _, _, rfl, rfl, .inl ⟨by decide, by decide⟩, _, _, _, _, rfl, rfl, hS', hd1, _, rfl, _, _, rfl, .inl (SqL.of hq'), _, _, rfl, rfl, pos, _, _, _, _, rfl, rfl, SqL.of hq', a1, ?_⟩
      refine ⟨_, rfl, _, rfl, _, rfl, _, _, rfl, rfl, .inl ⟨by decide, by decide⟩, _, _, rfl, rfl, _, _, _, _, rfl, rfl, hS', hd2, _, rfl, _, _, rfl, .inl (SqL.of hq'), _, _, rfl, rfl, pos, _, _, _, _, rfl, rfl, SqL.of hq', a2, ?_⟩
      have l1 := tk.plen m1
      have l2 := tk.plen m2
      have la := app_len x1 x2
      have stay : ∀ {u' v' x' : Option V}, ∃ (rs : Rws) (u v x : Option V), [some (V.str z), some (.ref a), some (.ref q), some (.ref p), u', v', x'] = [some (.str z), some (.ref a), some (.ref q), some (.ref p), u, v, x] ∧
          Same H H' ∧ H' q = some (.lst ((pcs z rs).map V.str)) ∧ RowsAt H' p rs ∧ TabOk z rs := ⟨rs, _, _, _, rfl, sm, hq', ⟨as, hp', hrs⟩, tk⟩
      refine ⟨_, rfl, _, rfl, _, _, rfl, rfl, sz (by omega), _, rfl, sz (by omega), _, _, rfl, rfl, _, rfl, ite2 (fun c1 => ?_) (fun c1 => iteF stay)⟩
      refine ⟨_, rfl, _, rfl, _, _, rfl, rfl, sz (by omega), _, rfl, _, _, rfl, .inl (SqL.of hq'), rfl, flat_str _, _, rfl, ?_⟩
      show if (!inV (V.str (x1 ++ x2)) ((pcs z rs).map V.str)) = true then _ else _
      rw [inV_str]
      refine ite2 (fun c2 => ?_) (fun c2 => iteF stay)
      have c2' : ¬ (x1 ++ x2) ∈ pcs z rs := by simpa using c2
      refine ⟨_, rfl, _, _, rfl, .inl (SqL.of hp'), _, _, rfl, rfl, _, rfl, ite2 (fun c3 => ?_) (fun c3 => stay)⟩
      have c3' : rs.length < 24 := by
        have q1 := of_decide_eq_true c3
        rw [List.length_map, Paired.len hrs] at q1
        omega
      have c1' : (x1 ++ x2).length ≤ 16 := by
        have q1 := of_decide_eq_true c1
        omega
      refine ⟨_, rfl, .inl ⟨rfl, _, SqL.of hp'⟩, _, rfl, _, rfl, (by show 2 ≤ sizeLine; decide), fun t ht => ?_⟩
      have tp : t ≠ p := fun e => by rw [e, hp'] at ht; cases ht
      have tq : t ≠ q := fun e => by rw [e, hq'] at ht; cases ht
      have tH : H t = none := sm.free ht
      refine ⟨_, _, _, rfl, rfl, (by rw [upd_ne (Ne.symm tp)]; exact hp'), ?_, ?_⟩
      · rw [List.length_map, Paired.len hrs]
        exact szl (by omega)
      refine ⟨_, rfl, .inl ⟨rfl, _, SqL.of (show upd _ _ _ q = _ by rw [upd_ne hqp, upd_ne (Ne.symm tq)]; exact hq')⟩, _, rfl, _, rfl, _, _, rfl, rfl, sz (by omega), _, _, _, rfl, rfl, (by rw [upd_ne hqp, upd_ne (Ne.symm tq)]; exact hq'), szl (by omega), ?_⟩
      have ro : RowOk z rs (x1, x2) := ⟨m1, m2, c1', c2'⟩
      refine ⟨rs ++ [(x1, x2)], _, _, _, rfl, Same.mut (Same.mut (Same.put sm ht) hpH) hq, ?_, ⟨as ++ [t], ?_, ?_⟩, tk.snoc ro c3'⟩
      · rw [upd_same, pcs_snoc, List.map_append]
        rfl
      · rw [upd_ne (Ne.symm hqp), upd_same, List.map_append]
        rfl
      · refine Paired.snoc ?_ ?_
        · refine L2.Paired.mapP hrs fun b r hb => ?_
          show upd _ _ _ b = _
          have b1 : b ≠ q := fun e => by
            have hb2 : H' b = _ := hb
            rw [e, hq'] at hb2; cases hb2
          have b2 : b ≠ p := fun e => by
            have hb2 : H' b = _ := hb
            rw [e, hp'] at hb2; cases hb2
          rw [upd_ne b1, upd_ne b2, upd_ne (ne_of_none hb ht)]
          exact hb
        · show upd _ _ _ t = _
          rw [upd_ne tq, upd_ne tp, upd_same]
    · rintro σ H' ⟨rs, u, v, x, rfl, sm, hq', hp', tk⟩
      exact ⟨_, rfl, k _ p rs sm hpH hp' tk⟩
end
end Jr
namespace Jr
open PySem PySem.Spec PyProof.Rows L2
/-- a tuple of signs and rows -/
def spLTable (K : PySem.W.Frag) : Sp := fun vs H Q _ => ∃ (c salt : Int) (most : Nat), vs = [.int c, .int salt, .int most] ∧ 0 ≤ salt ∧ salt ≤ 100000 ∧ most ≤ 100 ∧
  ∀ H' t p z rs, Same H H' → H' t = some (.tup [.str z, .ref p]) → H p = none → RowsAt H' p rs → TabOk z rs → Q (.ref t) H'
def szs (most : Nat) : List Int := [4, 12, 3, 4, 4, (most : Int) + 1] ++ List.replicate 12 94 ++ List.replicate (2 * most) 36
theorem szs_ok (most : Nat) (h : most ≤ 100) : ∀ z ∈ szs most, 0 < z ∧ z.natAbs.log2 < 9000 := by
  have lg : ∀ z : Int, 0 < z → z ≤ 1000 → 0 < z ∧ z.natAbs.log2 < 9000 := fun z h0 h1 => ⟨h0, by
    have : z.natAbs.log2 < 10 := (Nat.log2_lt (by omega)).mpr (by omega)
    omega⟩
  intro z hz
  unfold szs at hz
  rcases List.mem_append.mp hz with hz | hz
  · rcases List.mem_append.mp hz with hz | hz
    · simp only [List.mem_cons, List.not_mem_nil, or_false] at hz
      rcases hz with rfl | rfl | rfl | rfl | rfl | rfl <;> exact lg _ (by omega) (by omega)
    · rw [(List.mem_replicate.mp hz).2]; exact lg _ (by omega) (by omega)
  · rw [(List.mem_replicate.mp hz).2]; exact lg _ (by omega) (by omega)
section
variable {P : Program} {w : World} {K : PySem.W.Frag} {mg : Str → Option Value} {base : Heap}
theorem cal__law_table (T : Tx K mg) : Cal P w K mg base CX0 2 "_law_table" (spLTable K) := by
  have C__law_numbers := cal__law_numbers (P := P) (w := w) (base := base) T
  have C__law_signs := cal__law_signs (P := P) (w := w) (base := base) T
  have C__law_rows := cal__law_rows (P := P) (w := w) (base := base) T
  obtain ⟨fd, F⟩ := T.d__law_table
  refine ⟨_, fd, P__law_table, F.ok sc__law_table (fun vs H Q E h => ?_) (fun cdv A outer s H vs Q E hr h => ?_), T.g__law_table, F.kp, F.bindsN (ps := P__law_table) fun _ _ _ _ _ _ us hl => match us, hl with | [_, _, _], _ => rfl⟩
  · obtain ⟨c, salt, most, rfl, _⟩ := h
    rfl
  · obtain ⟨c, salt, most, rfl, s0, s1, hm, k⟩ := h
    refine ⟨_, (PSs.nox (pss_cons (ps_set (i := 3) sc__law_table.nd rfl (Or.inl rfl) (pe_cal C__law_numbers (by first | exact hr | exact hr.mono (by decide)) (by rfl) (pa_cons (pv 0) (pa_cons (pv 1) (pa_cons (pe_op op_cat (pe_op op_cat (pe_lst (pa_cons pe_int (pa_cons pe_int (pa_cons pe_int (pa_cons pe_int (pa_cons pe_int (pa_cons (pe_op op_add (pv 2) pe_int) pa_nil))))))) (pe_op op_rep (pe_lst (pa_cons pe_int pa_nil)) pe_int)) (pe_op op_rep (pe_lst (pa_cons pe_int pa_nil)) (pe_op op_mul pe_int (pv 2)))) pa_nil)))))
      (pss_cons (ps_set (i := 4) sc__law_table.nd rfl (Or.inl rfl) (pe_op op_add pe_int (pe_ix ix_list (pe_lst (pa_cons (pe_ix ix_list (pv 3) pe_int (fun _ _ => rfl)) (pa_cons (pe_ix ix_list (pv 3) pe_int (fun _ _ => rfl)) (pa_cons (pe_ix ix_list (pv 3) pe_int (fun _ _ => rfl)) (pa_cons (pe_ix ix_list (pv 3) pe_int (fun _ _ => rfl)) pa_nil))))) (pe_ix ix_list (pv 3) pe_int (fun _ _ => rfl)) (fun _ _ => rfl))))
      (pss_cons (ps_set (i := 5) sc__law_table.nd rfl (Or.inl rfl) (pe_cal C__law_signs (by first | exact hr | exact hr.mono (by decide)) (by rfl) (pa_cons (pe_slice sl_list (pv 3) (po_some pe_int) (po_some (pe_op op_add pe_int (pv 4)))) pa_nil)))
      (pss_cons (ps_set (i := 6) sc__law_table.nd rfl (Or.inl rfl) (pe_cal C__law_rows (by first | exact hr | exact hr.mono (by decide)) (by rfl) (pa_cons (pv 5) (pa_cons (pe_slice sl_list (pv 3) (po_some pe_int) po_none) pa_nil))))
      (pss_cons (ps_if (pt_cmpR op_eq (pe_ix ix_list (pv 3) pe_int (fun _ _ => rfl)) pe_int (nomark _)) (pss_one (ps_set (i := 6) sc__law_table.nd rfl (Or.inl rfl) (pe_slice sl_list (pv 6) po_none (po_some (pe_ix ix_list (pv 3) pe_int (fun _ _ => rfl)))))) pss_nil)
      (pss_one (ps_ret (pe_tup (pa_cons (pv 5) (pa_cons (pv 6) pa_nil))))))))))), ?_⟩
    refine ⟨_, rfl, _, rfl, _, rfl, _, _, rfl, rfl, (by show 6 ≤ sizeLine; decide), fun p1 h1 => ?_⟩
    refine ⟨(by show 1 ≤ sizeLine; decide), fun p2 h2 => ⟨_, _, _, rfl, rfl, upd_same, by decide, by decide, by decide, fun p3 h3 => ?_⟩⟩
    have q1 := Same.new (o := .lst (List.replicate (12 : Int).toNat [V.int 94]).flatten) h3 _ _ (Same.new (o := .lst [V.int 94]) h2 p1 _ upd_same)
    refine ⟨_, _, _, _, rfl, rfl, q1, upd_same, ?_, fun p4 h4 => ?_⟩
    · rw [rep_one, List.length_replicate]
      show 6 + 12 ≤ sizeLine
      decide
    refine ⟨(by show 1 ≤ sizeLine; decide), fun p5 h5 => ⟨_, rfl, _, _, rfl, rfl, .inl ⟨by decide, by decide⟩, _, _, _, rfl, rfl, upd_same, ?_, ?_, ?_, fun p6 h6 => ?_⟩⟩
    · omega
    · omega
    · show 1 * ((2 : Int) * (most : Int)).toNat ≤ sizeLine
      exact sz (by omega)
    have em : ((2 : Int) * (most : Int)).toNat = 2 * most := by omega
    refine ⟨_, _, _, _, rfl, rfl, Same.new h6 _ _ (Same.new h5 _ _ upd_same), upd_same, ?_, fun p7 h7 => ?_⟩
    · rw [rep_one, rep_one, List.length_append, List.length_replicate, List.length_replicate, em]
      show 6 + 12 + 2 * most ≤ sizeLine
      exact sz (by omega)
    refine ⟨c, salt, p7, szs most, rfl, s0, s1, SqL.of ?_, ?_, szs_ok most hm, fun H1 p ds sm hp hL hD => ?_⟩
    · rw [upd_same]
      unfold szs
      rw [rep_one, rep_one, em, List.map_append, List.map_append, map_rep, map_rep]
      rfl
    · unfold szs
      rw [List.length_append, List.length_append, List.length_replicate, List.length_replicate]
      show 6 + 12 + 2 * most ≤ 1000
      omega
    have sH := (((((((Same.new h1).trans (Same.new h2)).trans (Same.new h3)).trans (Same.new h4)).trans (Same.new h5)).trans (Same.new h6)).trans (Same.new h7)).trans sm
    have dl : ds.length = 18 + 2 * most := by
      rw [← Paired.len hD]
      unfold szs
      rw [List.length_append, List.length_append, List.length_replicate, List.length_replicate]
      rfl
    obtain ⟨d0, e0, b0⟩ := Paired.get hD (i := 0) (x := 4) rfl
    obtain ⟨d1, e1, b1⟩ := Paired.get hD (i := 1) (x := 12) rfl
    obtain ⟨d2, e2, b2⟩ := Paired.get hD (i := 2) (x := 3) rfl
    obtain ⟨d3, e3, b3⟩ := Paired.get hD (i := 3) (x := 4) rfl
    obtain ⟨d4, e4, b4⟩ := Paired.get hD (i := 4) (x := 4) rfl
    obtain ⟨d5, e5, b5⟩ := Paired.get hD (i := 5) (x := (most : Int) + 1) rfl
    have hLq : SqL K H1 p (ds.map V.int) := SqL.of hL
    have A0 : atI (ds.map V.int) 0 = some (V.int d0) := atm (f := V.int) e0
    have A1 : atI (ds.map V.int) 1 = some (V.int d1) := atm (f := V.int) e1
    have A2 : atI (ds.map V.int) 2 = some (V.int d2) := atm (f := V.int) e2
    have A3 : atI (ds.map V.int) 3 = some (V.int d3) := atm (f := V.int) e3
    have A4 : atI (ds.map V.int) 4 = some (V.int d4) := atm (f := V.int) e4
    have A5 : atI (ds.map V.int) 5 = some (V.int d5) := atm (f := V.int) e5
    obtain ⟨m, hm1, hm12, Am⟩ : ∃ m : Nat, m < 12 ∧ True ∧ atI [V.int d2, V.int d2, V.int d3, V.int d1] d0 = some (V.int (m : Int)) := by
      obtain ⟨j, rfl⟩ := Int.eq_ofNat_of_zero_le b0.1
      obtain ⟨m1, rfl⟩ := Int.eq_ofNat_of_zero_le b1.1
      obtain ⟨m2, rfl⟩ := Int.eq_ofNat_of_zero_le b2.1
      obtain ⟨m3, rfl⟩ := Int.eq_ofNat_of_zero_le b3.1
      have hj : j = 0 ∨ j = 1 ∨ j = 2 ∨ j = 3 := by omega
      rcases hj with rfl | rfl | rfl | rfl
      · exact ⟨m2, by omega, trivial, ats rfl⟩
      · exact ⟨m2, by omega, trivial, ats rfl⟩
      · exact ⟨m3, by omega, trivial, ats rfl⟩
      · exact ⟨m1, by omega, trivial, ats rfl⟩
    refine ⟨_, rfl, _, _, _, _, rfl, rfl, hLq, A2, _, rfl, _, _, _, _, rfl, rfl, hLq, A2, _, rfl, _, _, _, _, rfl, rfl, hLq, A3, _, rfl, _, _, _, _, rfl, rfl, hLq, A1, (by show 4 ≤ sizeLine; decide), fun p8 h8 => ?_⟩
    have s8 := Same.new (o := .lst [V.int d2, V.int d2, V.int d3, V.int d1]) h8
    refine ⟨_, rfl, _, _, _, _, rfl, rfl, s8.seq hLq, A0, _, _, _, _, rfl, rfl, SqL.of upd_same, Am, _, _, rfl, rfl, ?_⟩
    refine ⟨_, rfl, _, rfl, _, rfl, _, _, rfl, rfl, _, rfl, _, _, rfl, s8.seq hLq, fun p9 h9 => ?_⟩
    have s9 := s8.trans (Same.new (o := .lst (cutV (ds.map V.int) (some 6) (some (6 + (1 + (m : Int)))))) h9)
    have ec : cutV (ds.map V.int) (some 6) (some (6 + (1 + (m : Int)))) = ((ds.drop 6).take (m + 1)).map V.int := by
      have z : (6 : Int) + (1 + (m : Int)) = ((7 + m : Nat) : Int) := by omega
      have z2 : 7 + m - 6 = m + 1 := by omega
      rw [z, show (some (6 : Int)) = some ((6 : Nat) : Int) from rfl, cutV_mid, z2, List.map_take, List.map_drop]
    refine ⟨p9, (ds.drop 6).take (m + 1), rfl, SqL.of (by rw [upd_same, ec]), ?_, ?_, fun H2 z sm2 ok ez => ?_⟩
    · rw [List.length_take]; omega
    · intro d hd
      have nsd : ((szs most).drop 6).take (m + 1) = List.replicate (m + 1) 94 := by
        unfold szs
        rw [List.append_assoc]
        show (List.replicate 12 (94 : Int) ++ List.replicate (2 * most) (36 : Int)).take (m + 1) = _
        rw [List.take_append_of_le_length (by rw [List.length_replicate]; omega), List.take_replicate, Nat.min_eq_left (by omega)]
      have hP := Paired.tk (m + 1) (Paired.dr 6 hD)
      rw [nsd] at hP
      obtain ⟨x, hx, b⟩ := Paired.mem2 hP hd
      rw [(List.mem_replicate.mp hx).2] at b
      exact b
    have z1 : z.length = m + 1 := by
      rw [ez, List.length_take, List.length_drop, dl]
      omega
    have s2 := s9.trans sm2
    refine ⟨_, rfl, _, rfl, _, rfl, _, _, rfl, s2.seq hLq, fun p10 h10 => ?_⟩
    have s10 := s2.trans (Same.new (o := .lst (cutV (ds.map V.int) (some 18) none)) h10)
    refine ⟨z, p10, ds.drop 18, rfl, SqL.of ?_, ?_, ok, by omega, by omega, fun H3 pr rs sm3 hpr hr3 tk => ?_⟩
    · rw [upd_same, show (some (18 : Int)) = some ((18 : Nat) : Int) from rfl, cutV_from, List.map_drop]
    · rw [List.length_drop]; omega
    have s3 := s10.trans sm3
    have sT := sH.trans s3
    refine ⟨_, rfl, _, _, _, _, rfl, rfl, s3.seq hLq, A4, rfl, _, rfl, ite2 (fun c1 => ?_) (fun c1 => ?_)⟩
    · refine ⟨_, rfl, _, rfl, _, _, _, _, rfl, rfl, s3.seq hLq, A5, _, rfl, ?_⟩
      obtain ⟨as, ha, hrs⟩ := hr3
      refine ⟨_, _, rfl, SqL.of ha, fun p11 h11 => ?_⟩
      obtain ⟨j, rfl⟩ := Int.eq_ofNat_of_zero_le b5.1
      have s11 := Same.new (o := .lst (cutV (as.map V.ref) none (some (j : Int)))) h11
      refine ⟨_, rfl, _, rfl, (by show 2 ≤ sizeLine; decide), fun t ht => ?_⟩
      have s12 := s11.trans (Same.new (o := .tup [V.str z, V.ref p11]) ht)
      refine k _ t p11 z (rs.take j) (sT.trans s12) upd_same (sT.free h11) ⟨as.take j, ?_, TupAt.same s12 (Paired.tk j hrs)⟩ (tk.take j)
      refine (Same.new ht) _ _ ?_
      rw [upd_same, cutV_to, List.map_take]
    · refine ⟨_, rfl, _, rfl, (by show 2 ≤ sizeLine; decide), fun t ht => ?_⟩
      refine k _ t pr z rs (sT.trans (Same.new ht)) upd_same ?_ (hr3.same (Same.new ht)) tk
      exact (sH.trans s10).free hpr
end
end Jr
namespace Jr
open PySem PySem.Spec PyProof.Rows L2
section
variable {P : Program} {w : World} {K : PySem.W.Frag} {mg : Str → Option Value} {base : Heap}
/-- the pieces, by their numbers -/
def spPieces (K : PySem.W.Frag) : Sp := fun vs H Q _ => ∃ (p : Addr) (z : Str) (rs : Rws), vs = [.str z, .ref p] ∧ RowsAt H p rs ∧ TabOk z rs ∧
  ∀ H' b, Same H H' → H b = none → H' b = some (.lst ((pcs z rs).map V.str)) → Q (.ref b) H'
theorem cal__law_pieces (T : Tx K mg) : Cal P w K mg base CX0 1 "_law_pieces" (spPieces K) := by
  obtain ⟨fd, F⟩ := T.d__law_pieces
  refine ⟨_, fd, P__law_pieces, F.ok sc__law_pieces (fun vs H Q E h => ?_) (fun cdv A outer s H vs Q E hr h => ?_), T.g__law_pieces, F.kp, F.bindsN (ps := P__law_pieces) fun _ _ _ _ _ _ us hl => match us, hl with | [_, _], _ => rfl⟩
  · obtain ⟨p, z, rs, rfl, _⟩ := h
    rfl
  · obtain ⟨p, z, rs, rfl, ⟨as, hp, hrs⟩, tk, k⟩ := h
    refine ⟨_, (PSs.nox (pss_one (ps_ret (pe_op op_cat (pe_callTy (T := "list") (call_list_str rfl) (by rfl) T.n_list (by decide +kernel) (pa_cons (pv 0) pa_nil)) (pe_lc (own := [("_law_left", 2), ("_law_right", 3)]) (g := gTup K 2 (gCons (gName 2) (gCons (gName 3) gNil))) (by rfl) sc__law_pieces.nd (pi_list (pv 1)) (blkOk_by (own := [("_law_left", 2), ("_law_right", 3)]) (N := N__law_pieces) (sc := defScope s__law_pieces) (by decide +kernel)) (fun _ _ _ _ _ => (pg_tup rfl (pgs_cons (pg_name (i := 2) sc__law_pieces.nd rfl (Or.inl rfl)) (pgs_cons (pg_name (i := 3) sc__law_pieces.nd rfl (Or.inl rfl)) pgs_nil)))) (fun _ _ _ _ _ => pts_nil) (fun _ _ _ _ _ => (pe_op op_add_str (pv 2) (pv 3)))))))), ?_⟩
    have n12 := tk.n12
    have many := tk.many
    refine ⟨_, rfl, z, rfl, sz (by omega), fun l hl => ?_⟩
    have s1 := Same.new (o := .lst ((sgs z).map V.str)) hl
    have hts := TupAt.same s1 hrs
    have hS : SqL K (upd H l (.lst ((sgs z).map V.str))) p ((as.zip rs).map fun x => V.ref x.1) := by
      rw [zip_fst V.ref hrs]
      exact SqL.of (s1 _ _ hp)
    refine ⟨_, rfl, p, rfl, ⟨_, hS⟩, fun D hD => lc_listM (K := K) (item := fun x : Addr × (Str × Str) => V.ref x.1) (p := fun _ => true) (f := fun x => V.str (jn x.2)) (l := as.zip rs) hS hD ?_ (fun x hx H2 s2 N M hM _ => ?_) (fun H2 s2 hL => ?_)⟩
    · rw [List.length_zip]
      omega
    · obtain ⟨hx1, hx2⟩ := zip_mem hts x hx
      obtain ⟨i, hi, ei⟩ := List.mem_iff_getElem.mp hx2
      have ro := tk.rows i x.2 (by rw [List.getElem?_eq_getElem hi, ei])
      have ll := ro.len
      have le : (jn x.2).length = x.2.1.length + x.2.2.length := app_len _ _
      exact ⟨x.1, _, rfl, SqT.of (s2 _ _ hx1), rfl, _, _, rfl, _, _, rfl, rfl, rfl, _, rfl, _, rfl, _, _, rfl, rfl, sz (by omega), hM rfl⟩
    · have ef : (as.zip rs).filter (fun _ => true) = as.zip rs := List.filter_eq_self.mpr fun _ _ => rfl
      rw [ef, zip_snd (fun r => V.str (jn r)) hrs] at hL
      have hl2 := s2 _ _ (show (upd H l (.lst ((sgs z).map V.str))) l = _ from upd_same)
      have sm := s1.trans s2
      have e : (sgs z).map V.str ++ rs.map (fun r => V.str (jn r)) = (pcs z rs).map V.str := by
        unfold pcs
        rw [List.map_append, List.map_map]; rfl
      refine ⟨l, D, _, _, rfl, rfl, hl2, hL, ?_, fun q hq => ?_⟩
      · rw [List.length_map, List.length_map, sgs_len]; exact sz (by omega)
      · rw [e]
        exact k _ q (Same.put sm hq) (sm.free hq) upd_same
end
end Jr
namespace Jr
open PySem PySem.Spec PyProof.Rows L2
section
variable {P : Program} {w : World} {K : PySem.W.Frag} {mg : Str → Option Value}
theorem fn_law (T : Tx K mg) : ∃ fd, FunD K "law" "law" (defArgs s_law) (defBody s_law) (defScope s_law) [] [] (He.fAd K ("law", none)) fd ∧ ∀ base : Heap, FnG P w K mg base CX0 9 (He.fAd K ("law", none)) fd P_law (spLaw K) := by
  obtain ⟨fd, F⟩ := T.d_law
  refine ⟨fd, F, fun base => ?_⟩
  have C__law_numbers := cal__law_numbers (P := P) (w := w) (base := base) T
  have C__law_table := cal__law_table (P := P) (w := w) (base := base) T
  have C__law_pieces := cal__law_pieces (P := P) (w := w) (base := base) T
  have C__law_spoilt := cal__law_spoilt (P := P) (w := w) (base := base) T
  have C__law_strange := cal__law_strange (P := P) (w := w) (base := base) T
  have C__law_wrong := cal__law_wrong (P := P) (w := w) (base := base) T
  have C__law_asked := cal__law_asked (P := P) (w := w) (base := base) T
  have C__law_good := cal__law_good (P := P) (w := w) (base := base) T
  have C_Table := mkc_Table (P := P) (w := w) (base := base) T
  refine fnG_of F sc_law (fun vs H Q E h => ?_) (fun cdv A gA outer s H vs Q E hr h => ?_)
  · obtain ⟨a, ns, rfl, _⟩ := h
    rfl
  · obtain ⟨a, ns, rfl, hS, hlen, k⟩ := h
    refine ⟨_, (PSs.nox (pss_cons (ps_set (i := 1) sc_law.nd rfl (Or.inl rfl) (pe_slice sl_listG (pe_op op_catG (pv 0) (pe_intsAs (ns := [7, 8]) (pe_litI (ns := [7, 8]) (pe_lst (pa_cons pe_int (pa_cons pe_int pa_nil))) (fun _ _ _ => rfl) (by decide)) (by decide))) po_none (po_some pe_int)))
      (pss_cons (ps_asg (pe_cal C__law_table (by first | exact hr | exact hr.mono (by decide)) (by rfl) (pa_cons (pe_ix ix_list (pv 1) pe_int (fun _ _ => rfl)) (pa_cons pe_int (pa_cons pe_int pa_nil)))) (pg_tup rfl (pgs_cons (pg_name (i := 2) sc_law.nd rfl (Or.inl rfl)) (pgs_cons (pg_name (i := 3) sc_law.nd rfl (Or.inl rfl)) pgs_nil))))
      (pss_cons (ps_set (i := 4) sc_law.nd rfl (Or.inl rfl) (pe_mk C_Table (by first | exact hr | exact hr.mono (by decide)) rfl (pa_cons (pv 2) (pa_cons (pe_callTy (T := "list") call_listG (by rfl) T.n_list (by decide +kernel) (pa_cons (pv 3) pa_nil)) pa_nil))))
      (pss_cons (ps_set (i := 5) sc_law.nd rfl (Or.inr rfl) (pe_cal C__law_pieces (by first | exact hr | exact hr.mono (by decide)) (by rfl) (pa_cons (pv 2) (pa_cons (pv 3) pa_nil))))
      (pss_cons (ps_for PassesOwn.never rfl (pi_enum (by rfl) T.n_enumerate (pa_cons (pe_slice sl_listG (pv 1) (po_some pe_int) po_none) pa_nil)) (pg_tup rfl (pgs_cons (pg_name (i := 6) sc_law.nd rfl (Or.inl rfl)) (pgs_cons (pg_name (i := 7) sc_law.nd rfl (Or.inl rfl)) pgs_nil))) (pss_cons (ps_set (i := 8) sc_law.nd rfl (Or.inl rfl) (pe_cal C__law_numbers (by first | exact hr | exact hr.mono (by decide)) (by rfl) (pa_cons (pv 7) (pa_cons (pe_op op_add pe_int (pv 6)) (pa_cons (pe_intsAs (ns := [9, 36, 36, 36, 36, 36, 36, 36, 36, 4, 3, 3, 97, 97, 10, 10, 94]) (pe_catI (pe_catI (pe_litI (ns := [9]) (pe_lst (pa_cons pe_int pa_nil)) (fun _ _ _ => rfl) (by decide)) (pe_repI (k := 8) (pe_litI (ns := [36]) (pe_lst (pa_cons pe_int pa_nil)) (fun _ _ _ => rfl) (by decide)) pe_int (by decide) (by decide)) (by decide)) (pe_litI (ns := [4, 3, 3, 97, 97, 10, 10, 94]) (pe_lst (pa_cons pe_int (pa_cons pe_int (pa_cons pe_int (pa_cons pe_int (pa_cons pe_int (pa_cons pe_int (pa_cons pe_int (pa_cons pe_int pa_nil))))))))) (fun _ _ _ => rfl) (by decide)) (by decide)) (by decide)) pa_nil)))))
      (pss_cons (ps_setLc (i := 9) (own := [("_law_digit", 14)]) (g := gName 14) (by rfl) sc_law.nd rfl rfl (sw_true rfl rfl rfl (by decide +kernel)) (pi_list (pe_slice sl_listG (pv 8) (po_some pe_int) (po_some (pe_op op_add pe_int (pe_ix ix_list (pv 8) pe_int (fun _ _ => rfl)))))) (blkOk_by (own := [("_law_digit", 14)]) (N := N_law) (sc := defScope s_law) (by decide +kernel)) (fun _ _ _ _ _ => (pg_name (i := 14) sc_law.nd rfl (Or.inl rfl))) (fun _ _ _ _ _ => pts_nil) (fun _ _ _ _ _ => (pe_ix (ix_listK (K := K)) (pv 5) (pe_op op_mod (pv 14) (pe_callB (id := "len") (call_len_seqK (K := K)) (by rfl) T.n_len (by decide +kernel) (pa_cons (pv 5) pa_nil))) (fun _ _ => rfl))))
      (C8.pss_cut (ps_if (pt_cmpR op_eq (pe_ix ix_list (pv 8) pe_int (fun _ _ => rfl)) pe_int (nomark _)) (pss_one (ps_set (i := 9) sc_law.nd rfl (Or.inl rfl) (pe_cal C__law_spoilt (by first | exact hr | exact hr.mono (by decide)) (by rfl) (pa_cons (pv 9) (pa_cons (pe_cal C__law_strange (by first | exact hr | exact hr.mono (by decide)) (by rfl) (pa_cons (pv 2) (pa_cons (pe_ix ix_list (pv 8) pe_int (fun _ _ => rfl)) pa_nil))) (pa_cons (pe_slice sl_listG (pv 8) (po_some pe_int) (po_some pe_int)) pa_nil)))))) pss_nil)
      (pss_cons (ps_set (i := 10) sc_law.nd rfl (Or.inl rfl) (pe_cal C__law_wrong (by first | exact hr | exact hr.mono (by decide)) (by rfl) (pa_cons (pv 5) (pa_cons (pv 9) pa_nil))))
      (pss_cons (ps_set (i := 11) sc_law.nd rfl (Or.inl rfl) (pe_callB (id := "repr") (cr_repr gA hr.units) (by rfl) T.n_repr (by decide +kernel) (pa_cons (pv 9) pa_nil)))
      (pss_one (ps_for PassesOwn.never rfl (pi_list (pe_intsAs (ns := [0, 1, 2, 1, 2]) (pe_litI (ns := [0, 1, 2, 1, 2]) (pe_lst (pa_cons pe_int (pa_cons pe_int (pa_cons pe_int (pa_cons pe_int (pa_cons pe_int pa_nil)))))) (fun _ _ _ => rfl) (by decide)) (by decide))) (pg_name (i := 12) sc_law.nd rfl (Or.inl rfl)) (pss_cons (ps_set (i := 13) sc_law.nd rfl (Or.inl rfl) (pe_cal C__law_asked (by first | exact hr | exact hr.mono (by decide)) (by rfl) (pa_cons (pv 12) (pa_cons (pv 4) (pa_cons (pv 9) pa_nil)))))
      (pss_cons (ps_if (PW.pt (pw_and (pt_cmpR (op_neD hr.units) (pv 10) (pe_lstG pa_nil) (nomark _)) (pw_and1 (pt_cmpR op_ne (pe_callB (id := "repr") (cr_repr gA hr.units) (by rfl) T.n_repr (by decide +kernel) (pa_cons (pv 13) pa_nil)) (pe_callB (id := "repr") (cr_repr gA hr.units) (by rfl) T.n_repr (by decide +kernel) (pa_cons (pe_lstG (pa_cons pe_bl (pa_cons (pe_ix ix_list (pv 10) pe_int (fun _ _ => rfl)) (pa_cons pe_bl (pa_cons pe_bl pa_nil))))) pa_nil)) (nomark _))))) (pss_one (ps_ret pe_bl)) pss_nil)
      (pss_cons (ps_if (PW.pt (pw_and (pt_cmpR (op_eqD hr.units) (pv 10) (pe_lstG pa_nil) (nomark _)) (pw_and1 (PW.pt (pw_or (pt_not (pt_val (pe_ix ix_list (pv 13) pe_int (fun _ _ => rfl)))) (pw_or1 (pt_not (pt_val (pe_cal C__law_good (by first | exact hr | exact hr.mono (by decide)) (by rfl) (pa_cons (pv 12) (pa_cons (pv 5) (pa_cons (pv 9) (pa_cons (pe_ix ix_list (pv 13) pe_int (fun _ _ => rfl)) pa_nil))))))))))))) (pss_one (ps_ret pe_bl)) pss_nil)
      (pss_cons (ps_if (PW.pt (pw_and (pt_cmpR (op_eqD hr.units) (pv 10) (pe_lstG pa_nil) (nomark _)) (pw_and1 (pt_cmpR op_gt (pv 12) pe_int (nomark _))))) (pss_one (ps_expr (pe_bm0 PySem.F.plainAttrs_list PySem.F.slot_list_clear PySem.F.type_list_clear mt_clear (pe_ix ix_list (pv 13) pe_int (fun _ _ => rfl))))) pss_nil)
      (pss_one (ps_if (pt_cmpR op_ne (pe_callB (id := "repr") (cr_repr gA hr.units) (by rfl) T.n_repr (by decide +kernel) (pa_cons (pv 9) pa_nil)) (pv 11) (nomark _)) (pss_one (ps_ret pe_bl)) pss_nil))))))))))))))
      (pss_one (ps_ret pe_bl)))))))), ?_⟩
    refine ⟨_, rfl, fun p1 H1 n1 s1 h1 => ?_⟩
    refine ⟨a, p1, _, _, rfl, rfl, s1.seq hS, SqL.of h1, ?_, fun p2 H2 n2 s2 h2 => ?_⟩
    · rw [List.length_map]
      show ns.length + 2 ≤ sizeLine
      exact sz (by omega)
    refine ⟨_, rfl, p2, _, rfl, SqL.of h2, fun pc H0 npc s3 hC => ?_⟩
    rw [cells_eq] at hC
    obtain ⟨cs, ecs⟩ : ∃ cs, cs = (ns ++ [7, 8]).take 63 := ⟨_, rfl⟩
    rw [← ecs] at hC
    have cl2 : 2 ≤ cs.length := by rw [ecs, List.length_take, List.length_append]; show 2 ≤ min 63 (ns.length + 2); omega
    have cl63 : cs.length ≤ 63 := by rw [ecs, List.length_take]; omega
    obtain ⟨c0, ec0⟩ : ∃ c0, cs[0]? = some c0 := ⟨_, List.getElem?_eq_getElem (by omega)⟩
    have A0 : atI (cs.map V.int) 0 = some (V.int c0) := atm (f := V.int) ec0
    refine ⟨_, rfl, pc, _, _, _, rfl, rfl, SqL.of hC, A0, c0, 2400, 24, rfl, by decide, by decide, by decide, fun H4 tt p z rs s5 htt hp hR tk => ?_⟩
    refine ⟨tt, _, rfl, SqT.of htt, rfl, _, _, rfl, _, _, rfl, rfl, ?_⟩
    have n12 := tk.n12
    have n1' := tk.n1
    have many := tk.many
    have pl := pcs_len z rs
    obtain ⟨as, hpa, hrs⟩ := id hR
    refine ⟨_, rfl, _, rfl, p, _, rfl, .inl (SqL.of hpa), fun l1 H5 nl1 s6 hl1 => ?_⟩
    intro x1 dx1 hx1 hdx1 ndx1
    refine ⟨_, x1, dx1, l1, z, rs, rfl, rfl, hx1, hdx1, ndx1, ⟨as, hl1, TupAt.same s6 hrs⟩, tk, fun H6 s7 ta => ⟨rfl, ?_⟩⟩
    have s46 := s6.trans s7
    refine ⟨_, rfl, _, rfl, p, z, rs, rfl, hR.same s46, tk, fun H8 lp s9 hlp hP => ?_⟩
    have ta8 := ta.same s9
    have hC8 := ((s5.trans s46).trans s9) _ _ hC
    refine ⟨_, rfl, _, rfl, pc, _, rfl, SqL.of hC8, fun pe H9 npe s10 hE => ?_⟩
    rw [rest_eq] at hE
    have ta9 := ta8.same s10
    have hP9 := s10 _ _ hP
    have ascP : ∀ p ∈ pcs z rs, Asc p ∧ p.length ≤ 20 := fun p hp => ⟨tk.asc hp, by have := (tk.plen hp).2; omega⟩
    refine ⟨pe, _, rfl, SqL.of hE, for_enum (K := K) (a := pe) (xs := (cs.drop 1).map V.int) (fun i σ H' => ∃ u1 u2 u3 u4 u5 u6 u7 u8 u9 : Option V, σ = [some (.ref a), some (.ref pc), some (.str z), some (.ref p), some (.ref x1), some (.ref lp), u1, u2, u3, u4, u5, u6, u7, u8, u9] ∧ Same H9 H')
      ⟨_, _, _, _, _, _, _, _, _, rfl, Same.refl _⟩ (fun i σ H' _ ⟨_, _, _, _, _, _, _, _, _, _, s⟩ => SqL.of (s _ _ hE)) ?_ (fun σ H' _ => k H')⟩
    rintro i y e σ H' hi he ⟨u1, u2, u3, u4, u5, u6, u7, u8, u9, rfl, sm⟩
    rw [List.getElem?_map] at hi
    cases ed : (cs.drop 1)[i]? with
    | none => rw [ed] at hi; cases hi
    | some c =>
      rw [ed] at hi
      cases hi
      have hi62 : i < 62 := by
        have := (List.getElem?_eq_some_iff.mp ed).1
        rw [List.length_drop] at this
        omega
      have sm1 := Same.put (o := .tup [.int (i : Nat), .int c]) sm he
      refine ⟨e, _, rfl, SqT.of upd_same, rfl, _, _, rfl, _, _, rfl, rfl, ?_⟩
      revert sm1
      generalize (upd H' e (.tup [.int (i : Nat), .int c])) = H10
      intro sm1
      refine ⟨_, rfl, _, rfl, _, _, rfl, rfl, fun q2 Hb nq2 sb hq2 => ?_⟩
      refine ⟨c, _, q2, _, rfl, ?_, ?_, SqL.of (xs := ([9, 36, 36, 36, 36, 36, 36, 36, 36, 4, 3, 3, 97, 97, 10, 10, 94] : List Int).map V.int) hq2, by decide, sizes_ok (by decide), fun H12 pd ds s12 hpd hDs hds => ?_⟩
      · show (0 : Int) ≤ 2401 + ((i : Nat) : Int)
        omega
      · show 2401 + ((i : Nat) : Int) ≤ 100000
        omega
      have sm2 := (sm1.trans sb).trans s12
      obtain ⟨d0, e0, b0, A0'⟩ := dig hds (j := 0) (z := 9) rfl
      obtain ⟨d9, e9, b9, A9⟩ := dig hds (j := 9) (z := 4) rfl
      obtain ⟨d16, e16, b16, A16⟩ := dig hds (j := 16) (z := 94) rfl
      have hP2 := sm2 _ _ hP9
      have posP : (0 : Int) < (((pcs z rs).map V.str).length : Nat) := by rw [List.length_map]; omega
      have hD := SqL.of (K := K) hDs
      refine ⟨_, rfl, _, rfl, _, rfl, pd, _, _, _, rfl, rfl, hD, A0', _, _, rfl, rfl, _, rfl, pd, _, rfl, hD, fun q H13 nq s13 hq => ?_⟩
      have ec : cutV (ds.map V.int) (some 1) (some (1 + (d0 : Int))) = ((ds.drop 1).take d0).map V.int := by
        rw [show (1 : Int) + (d0 : Int) = ((1 + d0 : Nat) : Int) by omega, show (some (1 : Int)) = some ((1 : Nat) : Int) from rfl, cutV_mid, show 1 + d0 - 1 = d0 by omega, List.map_take, List.map_drop]
      rw [ec] at hq
      have np : 0 < (pcs z rs).length := by omega
      obtain ⟨g, hg⟩ : ∃ g : Int → Str, ∀ d, g d ∈ pcs z rs ∧ atI ((pcs z rs).map V.str) (d % (((pcs z rs).map V.str).length : Nat)) = some (V.str (g d)) :=
        ⟨fun d => (mod_at V.str (pcs z rs) np d).choose, fun d => (mod_at V.str (pcs z rs) np d).choose_spec⟩
      have tl : ((ds.drop 1).take d0).length ≤ 8 := by rw [List.length_take]; omega
      refine ⟨q, rfl, ⟨_, SqL.of hq⟩, fun D2 hD2 => lc_listM (K := K) (item := V.int) (p := fun _ => true) (f := fun d => V.str (g d)) (l := (ds.drop 1).take d0) (SqL.of hq) hD2 (by omega) (fun d hd H2 s2 N M hM _ => ?_) (fun H14 s14 hL => ?_)⟩
      · have hP3 := (s13.trans s2) _ _ hP2
        exact ⟨rfl, _, rfl, _, rfl, _, rfl, lp, _, rfl, .inl (SqL.of hP3), _, _, rfl, rfl, posP, lp, _, _, _, rfl, rfl, SqL.of hP3, (hg d).2, hM rfl⟩
      have ef : ((ds.drop 1).take d0).filter (fun _ => true) = (ds.drop 1).take d0 := List.filter_eq_self.mpr fun _ _ => rfl
      have em : ((ds.drop 1).take d0).map (fun d => V.str (g d)) = (((ds.drop 1).take d0).map g).map V.str := by rw [List.map_map]; rfl
      rw [ef, em] at hL
      obtain ⟨ys, eys⟩ : ∃ ys, ys = ((ds.drop 1).take d0).map g := ⟨_, rfl⟩
      rw [← eys] at hL
      have yin : ∀ q ∈ ys, q ∈ pcs z rs := fun q hq => by
        rw [eys] at hq
        obtain ⟨d, _, rfl⟩ := List.mem_map.mp hq
        exact (hg d).1
      have yl : ys.length ≤ 8 := by rw [eys, List.length_map]; exact tl
      clear ef em eys ec hq tl
      have sde := s13.trans s14
      have hDe := sde _ _ hDs
      have hPe := sde _ _ hP2
      have sm3 := sm2.trans sde
      refine ⟨fun σ H' => ∃ (v : V) (u5 u6 u7 u8 u9 : Option V), σ = [some (.ref a), some (.ref pc), some (.str z), some (.ref p), some (.ref x1), some (.ref lp), some (.int (i : Nat)), some (.int c), some (.ref pd), some v, u5, u6, u7, u8, u9] ∧ Same H14 H' ∧ (∃ d, Rq K H' 1000000 4 v d) ∧ ∃ js, Judged K H' z rs v js, ?_, ?_⟩
      · refine ⟨_, rfl, pd, _, _, _, rfl, rfl, SqL.of hDe, A9, rfl, _, rfl, ite2 (fun _ => ?_) (fun _ => ⟨.ref D2, _, _, _, _, _, rfl, Same.refl _, ⟨_, (Rq.list (SqL.of hL) (Rq.strs fun q hq => ascP q (yin q hq))).mono (by rw [List.length_map]; omega) (by decide)⟩, _, .good rfl hL (by omega) yin⟩)⟩
        refine ⟨_, rfl, _, rfl, _, rfl, pd, _, _, _, rfl, rfl, SqL.of hDe, A16, z, d16, rfl, by omega, tk.n12, tk.sg, fun Hg sg sg' nsg sg126 => ?_⟩
        refine ⟨_, rfl, _, rfl, _, rfl, pd, _, rfl, SqL.of (sg' _ _ hDe), fun q3 Hh nq3 sh hq3 => ?_⟩
        have e8 : cutV (ds.map V.int) (some 10) (some 16) = ((ds.drop 10).take 6).map V.int := by
          rw [show (some (10 : Int)) = some ((10 : Nat) : Int) from rfl, show (some (16 : Int)) = some ((16 : Nat) : Int) from rfl, cut_mid]
        rw [e8] at hq3
        have dg : Digs [3, 3, 97, 97, 10, 10] ((ds.drop 10).take 6) := Paired.tk 6 (Paired.dr 10 hds)
        have sgh := sg'.trans sh
        exact ⟨z, rs, D2, ys, sg, q3, _, rfl, tk, sgh _ _ hL, yl, fun q hq => ⟨yin q hq, (ascP q (yin q hq)).1, (tk.plen (yin q hq)).2⟩, sg126, nsg, SqL.of hq3, dg, fun Hi v u si th => ⟨v, _, _, _, _, _, rfl, sgh.trans si, th.1, _, .bad th.2⟩⟩
      rintro σ Hf ⟨v, u5, u6, u7, u8, u9, rfl, sf, ⟨dv, rv⟩, js, jd⟩
      have sm4 := sm3.trans sf
      refine ⟨_, rfl, _, rfl, z, rs, lp, v, js, rfl, SqL.of (sm4 _ _ hP9), jd, fun Hg qw sg hqw => ?_⟩
      have rvg := rv.same sg
      have sm5 := sm4.trans sg
      refine ⟨_, rfl, _, _, rfl, rvg.rp, rvg.sz (by decide), rvg.dp (by decide), ?_⟩
      refine fun ql Hh nql sh hql => ?_
      refine ⟨ql, rfl, ⟨_, SqL.of hql⟩, for_list (K := K) (a := ql) (xs := ([0, 1, 2, 1, 2] : List Int).map V.int) (fun j σ H' => ∃ (u7 u8 u9 : Option V), σ = [some (.ref a), some (.ref pc), some (.str z), some (.ref p), some (.ref x1), some (.ref lp), some (.int (i : Nat)), some (.int c), some (.ref pd), some v, some (.ref qw), some (.str dv.shown), u7, u8, u9] ∧ Same Hh H')
        ⟨_, _, _, rfl, Same.refl _⟩ (fun j σ H' _ ⟨_, _, _, _, s⟩ => SqL.of (s _ _ hql)) ?_ ?_⟩
      · rintro j y σ Hi hj ⟨u7, u8, u9, rfl, si⟩
        obtain ⟨n, rfl, hn⟩ : ∃ n : Nat, y = .int (n : Nat) ∧ n < 3 := by
          have j5 : j < 5 := (List.getElem?_eq_some_iff.mp hj).1
          rcases (show j = 0 ∨ j = 1 ∨ j = 2 ∨ j = 3 ∨ j = 4 by omega) with rfl | rfl | rfl | rfl | rfl <;> cases hj
          · exact ⟨0, rfl, by decide⟩
          · exact ⟨1, rfl, by decide⟩
          · exact ⟨2, rfl, by decide⟩
          · exact ⟨1, rfl, by decide⟩
          · exact ⟨2, rfl, by decide⟩
        have sgi := sg.trans (sh.trans si)
        have rvi := rvg.same (sh.trans si)
        have hwi := (sh.trans si) _ _ hqw
        have tai := ta9.same ((sm4.trans sg).trans (sh.trans si))
        cases jd with
        | @bad u wr =>
          have wri := wr.same sgi
          refine ⟨_, rfl, _, rfl, _, rfl, n, x1, z, rs, v, rfl, hn, tai, .inl ⟨u, wri.wrong, fun Hj qt sj hqt => ?_⟩⟩
          obtain ⟨du, ru, dpu, shu, equ⟩ : ∃ du, (∀ H, Rq K H 50 0 u du) ∧ (∀ H, Dp K H u du) ∧ SeqAt.shaped (.list [du]) = true ∧ PyData.eqv (.list [du]) (dS []) = false := by
            rcases wr with ⟨_, rfl⟩ | ⟨a, us, i, rfl, hA, ul, tx, fp, rfl⟩
            · exact ⟨_, fun H => Rq.non.mono (by decide) (by decide), fun H => .non, by decide, by decide⟩
            · have := fp.lt
              exact ⟨_, fun H => (Rq.int (k := 4) (by decide) (by decide) (by show i < 10000; omega)).mono (by decide) (by decide), fun H => .int _, shI [(i : Int)], (by have := eqI [(i : Int)] []; rw [decide_eq_false (by simp)] at this; exact this)⟩
          have hwj := sj _ _ hwi
          refine ⟨_, rfl, (by show 0 ≤ sizeLine; decide), fun e0 Hk ne0 sk he0 => ?_⟩
          refine ⟨_, _, .lst (SqL.of (sk _ _ hwj)) (.cons (dpu Hk) .nil), dpS (xs := []) (SqL.of he0), shu, shS (fun y hy => by cases hy), _, rfl, ite2 (fun _ => ?_) (fun cc => absurd cc (by rw [equ]; decide))⟩
          have hqk := sk _ _ hqt
          have r4 : ∀ H, Paired (Rq K H 50 0) [V.bl false, u, V.bl true, V.bl false] [PyData.bool false, du, PyData.bool true, PyData.bool false] := fun H => .cons ((Rq.bl _).mono (by decide) (by decide)) (.cons (ru H) (.cons ((Rq.bl _).mono (by decide) (by decide)) (.cons ((Rq.bl _).mono (by decide) (by decide)) .nil)))
          have rq4 : ∀ (H : Hp) (q : Addr), H q = some (.lst [.bl false, u, .bl true, .bl false]) → Rq K H 300 1 (.ref q) (.list [PyData.bool false, du, PyData.bool true, PyData.bool false]) := fun H q h => (Rq.list (SqL.of h) (r4 H)).mono (by show 50 * 4 + 2 * 4 + 3 ≤ 300; decide) (by decide)
          have rtk := rq4 _ _ hqk
          refine ⟨_, rfl, _, _, rfl, rtk.rp, rtk.sz (by decide), rtk.dp (by decide), ?_⟩
          refine ⟨_, rfl, qw, _, _, _, rfl, rfl, SqL.of (sk _ _ hwj), (show atI _ ((0 : Nat) : Int) = _ from ats rfl), (by show 4 ≤ sizeLine; decide), fun q5 Hl n5 sl hq5 => ?_⟩
          have rtl := rq4 _ _ hq5
          refine ⟨_, _, rfl, rtl.rp, rtl.sz (by decide), rtl.dp (by decide), rfl, _, rfl, ite2 (fun cc => absurd cc (by simp)) (fun _ => ?_)⟩
          refine ⟨_, rfl, (by show 0 ≤ sizeLine; decide), fun e1 Hm ne1 sm' he1 => ?_⟩
          have s1' := (sk.trans sl).trans sm'
          refine ⟨_, _, .lst (SqL.of (s1' _ _ hwj)) (.cons (dpu Hm) .nil), dpS (xs := []) (SqL.of he1), shu, shS (fun y hy => by cases hy), _, rfl, ite2 (fun cc => absurd cc (by rw [equ]; decide)) (fun _ => ?_)⟩
          refine ⟨_, rfl, (by show 0 ≤ sizeLine; decide), fun e2 Hn ne2 sn he2 => ?_⟩
          have s2' := s1'.trans sn
          refine ⟨_, _, .lst (SqL.of (s2' _ _ hwj)) (.cons (dpu Hn) .nil), dpS (xs := []) (SqL.of he2), shu, shS (fun y hy => by cases hy), _, rfl, ite2 (fun cc => absurd cc (by rw [equ]; decide)) (fun _ => ?_)⟩
          have rvn := rvi.same (sj.trans s2')
          refine ⟨_, rfl, _, _, rfl, rvn.rp, rvn.sz (by decide), rvn.dp (by decide), _, rfl, rfl, _, rfl, ite2 (fun cc => absurd cc (by simp)) (fun _ => ?_)⟩
          exact ⟨_, _, _, rfl, si.trans (sj.trans s2')⟩
        | @good b zs ev hb zl zin =>
          subst ev
          have hbi := sgi _ _ hb
          refine ⟨_, rfl, _, rfl, _, rfl, n, x1, z, rs, _, rfl, hn, tai, .inr ⟨b, zs, rfl, hbi, zin, zl, fun Hj r qt sj td nqt hqt rq => ?_⟩⟩
          have hwj := sj _ _ hwi
          have eqn : PyData.eqv (dS []) (dS []) = true := by rw [eqS]; rfl
          have shn : SeqAt.shaped (dS []) = true := shS (fun y hy => by cases hy)
          refine ⟨_, rfl, (by show 0 ≤ sizeLine; decide), fun e0 Hk ne0 sk he0 => ?_⟩
          refine ⟨_, _, dpS (xs := []) (SqL.of (sk _ _ hwj)), dpS (xs := []) (SqL.of he0), shn, shn, _, rfl, ite2 (fun cc => absurd cc (by rw [eqn]; decide)) (fun _ => ?_)⟩
          refine ⟨_, rfl, (by show 0 ≤ sizeLine; decide), fun e1 Hl ne1 sl he1 => ?_⟩
          have s1' := sk.trans sl
          refine ⟨_, _, dpS (xs := []) (SqL.of (s1' _ _ hwj)), dpS (xs := []) (SqL.of he1), shn, shn, _, rfl, ite2 (fun _ => ?_) (fun cc => absurd cc (by rw [eqn]; decide))⟩
          have hql := s1' _ _ hqt
          refine ⟨_, rfl, qt, _, _, _, rfl, rfl, SqL.of hql, (show atI _ ((0 : Nat) : Int) = _ from ats rfl), ?_⟩
          have sil := sj.trans s1'
          refine ⟨_, rfl, iteF ⟨_, rfl, _, rfl, _, rfl, _, rfl, qt, _, _, _, rfl, rfl, SqL.of hql, (show atI _ ((1 : Nat) : Int) = _ from ats rfl), n, lp, b, z, rs, zs, r, Hi, rfl, hn, SqL.of (sil _ _ (((sm4.trans sg).trans (sh.trans si)) _ _ hP9)), tk, SqL.of (sil _ _ hbi), zl, zin, td.same s1', fun Hm s2 => ⟨_, rfl, iteF ?_⟩⟩⟩
          refine ⟨_, rfl, (by show 0 ≤ sizeLine; decide), fun e2 Hn ne2 sn he2 => ?_⟩
          have s2' := s1'.trans (s2.trans sn)
          refine ⟨_, _, dpS (xs := []) (SqL.of (s2' _ _ hwj)), dpS (xs := []) (SqL.of he2), shn, shn, _, rfl, ite2 (fun _ => ?_) (fun cc => absurd cc (by rw [eqn]; decide))⟩
          have sin := sj.trans s2'
          have hqn := s2' _ _ hqt
          refine ⟨_, rfl, _, _, rfl, rfl, _, rfl, ite2 (fun cw => ?_) (fun _ => ?_)⟩
          · obtain ⟨bb, xs, rfl, nb, hbb⟩ : ∃ bb xs, r = .ref bb ∧ Hi bb = none ∧ Hn bb = some (.lst xs) := by
              cases td with
              | text => exact absurd cw (by decide)
              | nums a b => exact ⟨_, _, rfl, a, s2' _ _ b⟩
              | bord a b => exact ⟨_, _, rfl, a, s2' _ _ b⟩
            refine ⟨_, rfl, qt, _, _, _, rfl, rfl, SqL.of hqn, (show atI _ ((1 : Nat) : Int) = _ from ats rfl), ?_⟩
            have sx := Same.mut (o := .lst []) sin nb
            have rvn := rvi.same sx
            refine ⟨.inl ⟨rfl, _, SqL.of hbb⟩, bb, xs, rfl, rfl, hbb, ?_⟩
            refine ⟨_, rfl, _, _, rfl, rvn.rp, rvn.sz (by decide), rvn.dp (by decide), _, rfl, rfl, _, rfl, ite2 (fun cc => absurd cc (by simp)) (fun _ => ?_)⟩
            exact ⟨_, _, _, rfl, si.trans sx⟩
          · have rvn := rvi.same sin
            refine ⟨_, rfl, _, _, rfl, rvn.rp, rvn.sz (by decide), rvn.dp (by decide), _, rfl, rfl, _, rfl, ite2 (fun cc => absurd cc (by simp)) (fun _ => ?_)⟩
            exact ⟨_, _, _, rfl, si.trans sin⟩
      · rintro σ Hi ⟨u7, u8, u9, rfl, si⟩
        exact ⟨_, _, _, _, _, _, _, _, _, rfl, (sm4.trans sg).trans (sh.trans si)⟩
end
end Jr
namespace Jr
open PySem PySem.Spec PyProof.Rows L2
theorem tx_of {K : PySem.W.Frag} {h : Heap} {mg : Str → Option Value} {w : World} (X : K.In h) (G : h.Ns mainGlobals mg) (c : SaysC fa fn (fun K => (exs K).all id) w K) : Tx K mg := {
    n_len := He.free_ok X G (c.t.d.fact 0 (f := .free "len") rfl)
    n_range := He.free_ok X G (c.t.d.fact 1 (f := .free "range") rfl)
    n_max := He.free_ok X G (c.t.d.fact 2 (f := .free "max") rfl)
    n_isinstance := He.free_ok X G (c.t.d.fact 3 (f := .free "isinstance") rfl)
    n_str := He.free_ok X G (c.t.d.fact 4 (f := .free "str") rfl)
    n_int := He.free_ok X G (c.t.d.fact 5 (f := .free "int") rfl)
    n_bool := He.free_ok X G (c.t.d.fact 6 (f := .free "bool") rfl)
    n_list := He.free_ok X G (c.t.d.fact 7 (f := .free "list") rfl)
    n_tuple := He.free_ok X G (c.t.d.fact 8 (f := .free "tuple") rfl)
    n_all := He.free_ok X G (c.t.d.fact 9 (f := .free "all") rfl)
    n_ord := He.free_ok X G (c.t.d.fact 10 (f := .free "ord") rfl)
    n_enumerate := He.free_ok X G (c.t.d.fact 11 (f := .free "enumerate") rfl)
    n_ValueError := He.free_ok X G (c.t.d.fact 12 (f := .free "ValueError") rfl)
    n_repr := He.free_ok X G (c.t.d.fact 13 (f := .free "repr") rfl)
    c_MOST_SIGNS := He.int_ok X G (c.t.d.fact 14 (f := .int "MOST_SIGNS" 12) rfl)
    c_MOST_ROWS := He.int_ok X G (c.t.d.fact 15 (f := .int "MOST_ROWS" 24) rfl)
    c_MOST_JOINED := He.int_ok X G (c.t.d.fact 16 (f := .int "MOST_JOINED" 16) rfl)
    c_BLANK_CODE := He.int_ok X G (c.t.d.fact 17 (f := .int "BLANK_CODE" 32) rfl)
    c_PERCENT_CODE := He.int_ok X G (c.t.d.fact 18 (f := .int "PERCENT_CODE" 37) rfl)
    c_TILDE_CODE := He.int_ok X G (c.t.d.fact 19 (f := .int "TILDE_CODE" 126) rfl)
    g_JoinError := He.glo_ok X G (c.t.d.fact 20 (f := .glo "JoinError") rfl)
    rd_JoinError := (exAt (i := 0) c.more rfl)
    ga_JoinError := of_decide_eq_true (exAt (i := 1) c.more rfl)
    fc_JoinError := fcB_ok (exAt (i := 2) c.more rfl)
    g_NoPiece := He.glo_ok X G (c.t.d.fact 21 (f := .glo "NoPiece") rfl)
    xc_NoPiece := xcB_ok (exAt (i := 3) c.more rfl)
    in_NoPiece := of_decide_eq_true (exAt (i := 4) c.more rfl)
    it_NoPiece := of_decide_eq_true (exAt (i := 5) c.more rfl)
    no_NoPiece_place := of_decide_eq_true (exAt (i := 6) c.more rfl)
    kit_NoPiece_JoinError := of_decide_eq_true (exAt (i := 7) c.more rfl)
    exm_NoPiece_NoPiece := of_decide_eq_true (exAt (i := 8) c.more rfl)
    kit_NoPiece_NoNumber := of_decide_eq_true (exAt (i := 9) c.more rfl)
    g_NoNumber := He.glo_ok X G (c.t.d.fact 22 (f := .glo "NoNumber") rfl)
    g_Table := He.glo_ok X G (c.t.d.fact 23 (f := .glo "Table") rfl)
    cl_Table := He.cls_ok (c.t.d.fact 24 (f := .cls "Table") rfl)
    no_Table_sign_text := He.noat_ok (c.t.d.fact 25 (f := .noat "Table" "sign_text") rfl)
    no_Table_row_list := He.noat_ok (c.t.d.fact 26 (f := .noat "Table" "row_list") rfl)
    no_Table_piece_list := He.noat_ok (c.t.d.fact 27 (f := .noat "Table" "piece_list") rfl)
    no_Table_number_by_piece := He.noat_ok (c.t.d.fact 28 (f := .noat "Table" "number_by_piece") rfl)
    no_Table_rank_by_row := He.noat_ok (c.t.d.fact 29 (f := .noat "Table" "rank_by_row") rfl)
    no_Table_most_signs := He.noat_ok (c.t.d.fact 30 (f := .noat "Table" "most_signs") rfl)
    mk_Table := He.mkr_ok (c.t.d.fact 31 (f := .mkr "Table") rfl)
    m_Table_take_piece := He.meth_ok (c.t.d.fact 32 (f := .meth "Table" "take_piece") rfl)
    m_Table_may_take_row := He.meth_ok (c.t.d.fact 33 (f := .meth "Table" "may_take_row") rfl)
    m_Table_take_row := He.meth_ok (c.t.d.fact 34 (f := .meth "Table" "take_row") rfl)
    m_Table_signs := He.meth_ok (c.t.d.fact 35 (f := .meth "Table" "signs") rfl)
    m_Table_rows := He.meth_ok (c.t.d.fact 36 (f := .meth "Table" "rows") rfl)
    m_Table_which := He.meth_ok (c.t.d.fact 37 (f := .meth "Table" "which") rfl)
    d_JoinError___init__ := c.t.d.def_ 0 (d := ⟨("JoinError", some "__init__"), "__init__", "JoinError.__init__", defArgs s_JoinError___init__, defBody s_JoinError___init__, defScope s_JoinError___init__, [], []⟩) rfl
    d_NoPiece___init__ := c.t.d.def_ 1 (d := ⟨("NoPiece", some "__init__"), "__init__", "NoPiece.__init__", defArgs s_NoPiece___init__, defBody s_NoPiece___init__, defScope s_NoPiece___init__, [], []⟩) rfl
    g_first_no_piece := He.glo_ok X G (c.t.d.fact 38 (f := .glo "first_no_piece") rfl)
    d_first_no_piece := c.t.d.def_ 2 (d := ⟨("first_no_piece", none), "first_no_piece", "first_no_piece", defArgs s_first_no_piece, defBody s_first_no_piece, defScope s_first_no_piece, [], []⟩) rfl
    g_check_row := He.glo_ok X G (c.t.d.fact 39 (f := .glo "check_row") rfl)
    d_check_row := c.t.d.def_ 3 (d := ⟨("check_row", none), "check_row", "check_row", defArgs s_check_row, defBody s_check_row, defScope s_check_row, [], []⟩) rfl
    g_text_of := He.glo_ok X G (c.t.d.fact 40 (f := .glo "text_of") rfl)
    d_text_of := c.t.d.def_ 4 (d := ⟨("text_of", none), "text_of", "text_of", defArgs s_text_of, defBody s_text_of, defScope s_text_of, [], []⟩) rfl
    g_numbers_of := He.glo_ok X G (c.t.d.fact 41 (f := .glo "numbers_of") rfl)
    d_numbers_of := c.t.d.def_ 5 (d := ⟨("numbers_of", none), "numbers_of", "numbers_of", defArgs s_numbers_of, defBody s_numbers_of, defScope s_numbers_of, [], []⟩) rfl
    g_borders_of := He.glo_ok X G (c.t.d.fact 42 (f := .glo "borders_of") rfl)
    d_borders_of := c.t.d.def_ 6 (d := ⟨("borders_of", none), "borders_of", "borders_of", defArgs s_borders_of, defBody s_borders_of, defScope s_borders_of, [], []⟩) rfl
    g_may_be_sign := He.glo_ok X G (c.t.d.fact 43 (f := .glo "may_be_sign") rfl)
    d_may_be_sign := c.t.d.def_ 7 (d := ⟨("may_be_sign", none), "may_be_sign", "may_be_sign", defArgs s_may_be_sign, defBody s_may_be_sign, defScope s_may_be_sign, [], []⟩) rfl
    g_check_signs := He.glo_ok X G (c.t.d.fact 44 (f := .glo "check_signs") rfl)
    d_check_signs := c.t.d.def_ 8 (d := ⟨("check_signs", none), "check_signs", "check_signs", defArgs s_check_signs, defBody s_check_signs, defScope s_check_signs, [], []⟩) rfl
    d_Table___init__ := c.t.d.def_ 9 (d := ⟨("Table", some "__init__"), "__init__", "Table.__init__", defArgs s_Table___init__, defBody s_Table___init__, defScope s_Table___init__, [], []⟩) rfl
    d_Table_take_piece := c.t.d.def_ 10 (d := ⟨("Table", some "take_piece"), "take_piece", "Table.take_piece", defArgs s_Table_take_piece, defBody s_Table_take_piece, defScope s_Table_take_piece, [], []⟩) rfl
    d_Table_may_take_row := c.t.d.def_ 11 (d := ⟨("Table", some "may_take_row"), "may_take_row", "Table.may_take_row", defArgs s_Table_may_take_row, defBody s_Table_may_take_row, defScope s_Table_may_take_row, [], []⟩) rfl
    d_Table_take_row := c.t.d.def_ 12 (d := ⟨("Table", some "take_row"), "take_row", "Table.take_row", defArgs s_Table_take_row, defBody s_Table_take_row, defScope s_Table_take_row, [], []⟩) rfl
    d_Table_signs := c.t.d.def_ 13 (d := ⟨("Table", some "signs"), "signs", "Table.signs", defArgs s_Table_signs, defBody s_Table_signs, defScope s_Table_signs, [], []⟩) rfl
    d_Table_rows := c.t.d.def_ 14 (d := ⟨("Table", some "rows"), "rows", "Table.rows", defArgs s_Table_rows, defBody s_Table_rows, defScope s_Table_rows, [], []⟩) rfl
    d_Table_which := c.t.d.def_ 15 (d := ⟨("Table", some "which"), "which", "Table.which", defArgs s_Table_which, defBody s_Table_which, defScope s_Table_which, [], []⟩) rfl
    g__law_numbers := He.glo_ok X G (c.t.d.fact 45 (f := .glo "_law_numbers") rfl)
    d__law_numbers := c.t.d.def_ 16 (d := ⟨("_law_numbers", none), "_law_numbers", "_law_numbers", defArgs s__law_numbers, defBody s__law_numbers, defScope s__law_numbers, [], []⟩) rfl
    g__law_signs := He.glo_ok X G (c.t.d.fact 46 (f := .glo "_law_signs") rfl)
    d__law_signs := c.t.d.def_ 17 (d := ⟨("_law_signs", none), "_law_signs", "_law_signs", defArgs s__law_signs, defBody s__law_signs, defScope s__law_signs, [], []⟩) rfl
    g__law_rows := He.glo_ok X G (c.t.d.fact 47 (f := .glo "_law_rows") rfl)
    d__law_rows := c.t.d.def_ 18 (d := ⟨("_law_rows", none), "_law_rows", "_law_rows", defArgs s__law_rows, defBody s__law_rows, defScope s__law_rows, [], []⟩) rfl
    g__law_table := He.glo_ok X G (c.t.d.fact 48 (f := .glo "_law_table") rfl)
    d__law_table := c.t.d.def_ 19 (d := ⟨("_law_table", none), "_law_table", "_law_table", defArgs s__law_table, defBody s__law_table, defScope s__law_table, [], []⟩) rfl
    g__law_pieces := He.glo_ok X G (c.t.d.fact 49 (f := .glo "_law_pieces") rfl)
    d__law_pieces := c.t.d.def_ 20 (d := ⟨("_law_pieces", none), "_law_pieces", "_law_pieces", defArgs s__law_pieces, defBody s__law_pieces, defScope s__law_pieces, [], []⟩) rfl
    g__law_is_whole := He.glo_ok X G (c.t.d.fact 50 (f := .glo "_law_is_whole") rfl)
    d__law_is_whole := c.t.d.def_ 21 (d := ⟨("_law_is_whole", none), "_law_is_whole", "_law_is_whole", defArgs s__law_is_whole, defBody s__law_is_whole, defScope s__law_is_whole, [], []⟩) rfl
    g__law_strange := He.glo_ok X G (c.t.d.fact 51 (f := .glo "_law_strange") rfl)
    d__law_strange := c.t.d.def_ 22 (d := ⟨("_law_strange", none), "_law_strange", "_law_strange", defArgs s__law_strange, defBody s__law_strange, defScope s__law_strange, [], []⟩) rfl
    g__law_odd := He.glo_ok X G (c.t.d.fact 52 (f := .glo "_law_odd") rfl)
    d__law_odd := c.t.d.def_ 23 (d := ⟨("_law_odd", none), "_law_odd", "_law_odd", defArgs s__law_odd, defBody s__law_odd, defScope s__law_odd, [], []⟩) rfl
    g__law_spoilt := He.glo_ok X G (c.t.d.fact 53 (f := .glo "_law_spoilt") rfl)
    d__law_spoilt := c.t.d.def_ 24 (d := ⟨("_law_spoilt", none), "_law_spoilt", "_law_spoilt", defArgs s__law_spoilt, defBody s__law_spoilt, defScope s__law_spoilt, [], []⟩) rfl
    g__law_wrong := He.glo_ok X G (c.t.d.fact 54 (f := .glo "_law_wrong") rfl)
    d__law_wrong := c.t.d.def_ 25 (d := ⟨("_law_wrong", none), "_law_wrong", "_law_wrong", defArgs s__law_wrong, defBody s__law_wrong, defScope s__law_wrong, [], []⟩) rfl
    g__law_call := He.glo_ok X G (c.t.d.fact 55 (f := .glo "_law_call") rfl)
    d__law_call := c.t.d.def_ 26 (d := ⟨("_law_call", none), "_law_call", "_law_call", defArgs s__law_call, defBody s__law_call, defScope s__law_call, [], []⟩) rfl
    g__law_asked := He.glo_ok X G (c.t.d.fact 56 (f := .glo "_law_asked") rfl)
    d__law_asked := c.t.d.def_ 27 (d := ⟨("_law_asked", none), "_law_asked", "_law_asked", defArgs s__law_asked, defBody s__law_asked, defScope s__law_asked, [], []⟩) rfl
    g__law_good := He.glo_ok X G (c.t.d.fact 57 (f := .glo "_law_good") rfl)
    d__law_good := c.t.d.def_ 28 (d := ⟨("_law_good", none), "_law_good", "_law_good", defArgs s__law_good, defBody s__law_good, defScope s__law_good, [], []⟩) rfl
    g_law := He.glo_ok X G (c.t.d.fact 58 (f := .glo "law") rfl)
    d_law := c.t.d.def_ 29 (d := ⟨("law", none), "law", "law", defArgs s_law, defBody s_law, defScope s_law, [], []⟩) rfl }
theorem law_fact {P : Program} {w : World} {K : PySem.W.Frag} {h : Heap} {mg : Str → Option Value} {f : Addr} (X : K.In h) (G : h.Ns mainGlobals mg) (hfa : mg ("law" : Str) = some (.ref f)) (c : SaysC fa fn (fun K => (exs K).all id) w K) :
    ∃ fd : FuncData, (∀ (s : Shared) (v : Value), BindsTo s fd ⟨[v], []⟩ [("_law_script", v)]) ∧ ∀ base : Heap, K.In base → base.Ns mainGlobals mg → FnG P w K mg base CX0 9 f fd ["_law_script"] (spLaw K) := by
  have T := tx_of X G c
  have e := hfa.symm.trans (He.glo_ok X G (c.t.d.fact 58 (f := .glo "law") rfl))
  cases e
  obtain ⟨fd, F, ok⟩ := fn_law (P := P) (w := w) T
  have b := FunD.bindsA (ps := ["_law_script"]) F fun _ _ _ _ _ _ us hl => match us, hl with | [_], _ => rfl
  exact ⟨fd, fun s v => b s [v] rfl, fun base _ _ => ok base⟩
end Jr
open PySem PySem.W PySem.Calls PyProof.Rows
set_option maxRecDepth 100000 in
set_option maxHeartbeats 0 in
theorem PySem.Challenge.cw_joinranks_k24_texts_numbers_borders_holds : PySem.Challenge.rw_joinranks_k24_texts_numbers_borders.Holds := by
  w_on; o_law
  refine HandSHeadRun.head_any (r := OpenLaw.row PySem.Challenge.rw_joinranks_k24_texts_numbers_borders) (q := view (OpenLaw.row PySem.Challenge.rw_joinranks_k24_texts_numbers_borders).prog [40]) (H := Jr.hk) (ob := Jr.ob) (M := 8000) (loose := Jr.loose) (d := HandSHeadRun.topDef (OpenLaw.row PySem.Challenge.rw_joinranks_k24_texts_numbers_borders).prog 40) (kwd := []) Jr.ob_eq
    (by kernel_rfl) (fun s => by kernel_rfl) Jr.run (by kernel_rfl) (by kernel_rfl) (by kernel_rfl) (by rfl) (by first | assumption | decide +kernel) (by decide +kernel) ⟨rfl, rfl, rfl, rfl, rfl, by decide +kernel⟩ ?hw ?hc
  case hw => w_witness2
  case hc =>
    refine Jr.walkG (l := PySem.Challenge.rw_joinranks_k24_texts_numbers_borders) (n := 63) (k := 9) (x := "_law_script") (CX := L2.CX0) rfl (by decide) (by kernel_rfl) ⟨rfl, by decide, by decide⟩ ?F (fun _ _ _ _ z => z)
    intro w mg fa h Y G hmg0
    obtain ⟨K, KX, c⟩ := Y
    have hmg : mg ("law" : PySem.Str) = some (.ref fa) := by
      have e : (HandSHeadRun.topDef (OpenLaw.row PySem.Challenge.rw_joinranks_k24_texts_numbers_borders).prog 40).name = ("law" : PySem.Str) := by kernel_rfl
      rw [← e]
      exact hmg0
    obtain ⟨fd, hb, hF⟩ := Jr.law_fact (P := (PySem.Challenge.rw_joinranks_k24_texts_numbers_borders).prog) (w := w) KX G hmg c
    exact ⟨K, fd, Jr.spLaw K, KX, hb, fun H a ns hl _ hS => ⟨a, ns, rfl, hS, hl, fun _ => rfl⟩, hF⟩
#print axioms PySem.Challenge.cw_joinranks_k24_texts_numbers_borders_holds

