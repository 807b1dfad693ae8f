import PyProof.Rows.All
import Wide.All
import OpenK.AllK
import Wide.FinOn
import KE.KStateDown
import Lean
import HandS.ForMost
import HandS.Exc
import HandS.TryOnly
import HandS.ExcOwn
import HandS.WordsExc
import HandS.ExcInit
import HandS.ExcField
import HandS.CallSlots
import KE.KExcIs
import HandS.ExcIs
import HandS.Conv
import HandS.SortKw
import KE.DataMinMax
import HandS.AnyAll
import HandS.IsInst
import HandS.Style
import HandS.Wide
import HandS.FStr
import HandS.Flow
import HandS.Codes
import HandS.Defaults
import HandS.More
import HandS.Head0
import HandS.Head1
import HandS.Head2
import HandS.HeadEnd
import HandS.HeadHook1
import HandS.HeadHook2
import HandS.HeadHook3
import HandS.HeadHook4
import HandS.EndBits
import HandS.EndTab
import HandS.HeadWalk
import HandS.RevRange
import KE.KDictZip
import HandS.TryMany
import HandS.ExcValue
import HandS.NoneIn
import HandS.Deep
import PySem.Challenge.RW_joinranks_k45_whole_patches_lead
set_option Elab.async false
set_option linter.all false
set_option maxRecDepth 100000
set_option maxHeartbeats 2000000
namespace Jr
open PySem PySem.Spec PyProof.Rows L2
/-! ### list(text) -/
/-- the signs of a text, each a text -/
def sgn (c : Nat) : Str := ⟨#[c]⟩
def sgs (z : Str) : List Str := z.cps.toList.map sgn
theorem sgs_len (z : Str) : (sgs z).length = z.length := by simp [sgs, Str.length]
section
variable {X : Cx}
def rListStr : List V → Hp → VK → Prop := fun xs H Q => ∃ z : Str, xs = [.str z] ∧ z.length ≤ sizeLine ∧ ∀ l, H l = none → Q (.ref l) (upd H l (.lst ((sgs z).map V.str)))
theorem call_list_str (hc : X.calm = true) : CallR X (.type "list") rListStr := by
  intro pins s σ H xs us Q I r h
  obtain ⟨z, rfl, hz, q⟩ := h
  cases r with
  | cons r rr =>
    cases rr
    obtain ⟨t, rfl⟩ := r
    refine PySem.call_list_str (I.ok.hd hc) z t (fun h' tk acc c' hk e hi => ?_) hz
    refine ⟨.ref s.heap.objs.size, upd H s.heap.objs.size (.lst ((sgs z).map V.str)), I.laid hk (Nat.le_refl _) ⟨by rw [List.length_map, sgs_len]; exact hz, acc.toList, c', ?_, by rw [Array.toArray_toList]; exact e⟩, rfl, q _ (I.hok.fresh (Nat.le_refl _))⟩
    refine vals_of_idx _ _ (by rw [List.length_map, sgs_len, Array.length_toList]; exact hi.1) fun j u hj => ?_
    obtain ⟨c, t', hcx, rfl⟩ := hi.2 j u (by rw [← Array.getElem?_toList]; exact hj)
    refine ⟨.str (sgn c), ?_, ⟨_, rfl⟩⟩
    have e1 : z.cps.toList[j]? = some c := by rw [Array.getElem?_toList]; exact hcx
    simp [sgs, e1]
end
/-! ### enumerate(text) -/
def Ites (x : Str) : It :=
  ⟨fun i _ => i < x.cps.size, fun i H v H' => ∃ T c, v = .ref T ∧ H T = none ∧ x.cps[i]? = some c ∧ H' = upd H T (.tup [.int (i : Nat), .str (sgn c)]), fun i _ => x.cps.size ≤ i⟩
theorem turn_enumS {P : Program} {w : World} {K : PySem.W.Frag} {elts : List Expr} {kk : Nat} {tpos : Pos} (x : Str) (t : Tok) (ty : String) (hty : ty = "str_ascii_iterator" ∨ ty = "str_iterator") (e it : Addr) :
    Turn P w K (.Tuple elts kk tpos) (Ites x) [e, it] e (fun i h => i ≤ x.cps.size ∧ (∃ old, IsEnum h e it ((i : Nat) : Int) old) ∧ h.IsStrIter it ty x t i ∧ e ≠ it) where
  mem := by simp
  obj := fun i h st b hb => by
    obtain ⟨_, ⟨old, he⟩, ⟨o, ho, hc, hd⟩, _⟩ := st
    have e' : b = e ∨ b = it := by simpa using hb
    rcases e' with z | z
    · rw [z]; exact ⟨_, he, fun v q => nomatch q⟩
    · rw [z]; exact ⟨o, ho, fun v q => by rw [hd] at q; cases q⟩
  keep := fun i h h' st k => let ⟨hl, ⟨old, he⟩, ⟨o, ho, r⟩, hne⟩ := st; ⟨hl, ⟨old, k e (by simp) _ he⟩, ⟨o, k it (by simp) o ho, r⟩, hne⟩
  item := by
    intro X hP hw hK hc i pins s σ H E I hf st hg
    subst hP hw hK
    obtain ⟨hl0, ⟨old, he⟩, hit, hne⟩ := st
    have D : Draws X.prog X.w X.A.in1 it [it] x.cps.size (fun i v => ∃ c u, x.cps[i]? = some c ∧ v = .str ⟨#[c]⟩ u) (fun i h => h.IsStrIter it ty x t i) := by
      rcases hty with z | z
      · rw [z]; exact Draws.strAscii (A := X.A.in1) (I.ok.hd hc) it x t
      · rw [z]; exact Draws.strWide (A := X.A.in1) (I.ok.hd hc) it x t
    have hel : e < s.heap.objs.size := Heap.lt_size he
    have hil : it < s.heap.objs.size := by obtain ⟨_, q, _⟩ := hit; exact Heap.lt_size q
    refine wpAny_pyNext_enum_itemD D he hit hg hne (by simpa using hne) fun u h' tk hu ho hit' hT hsz hk => ?_
    obtain ⟨c, tu, hcx, rfl⟩ := hu
    refine ⟨_, rfl, wpAny_letOwnedTupleGo_enum (s := { s with heap := h', toks := tk + 1 }) ho fun h'' he' sb => ?_⟩
    have hT2 : h''.get? s.heap.objs.size = some { cls := .type "tuple", data := .seq #[.int i tk, .str ⟨#[c]⟩ tu] } := (sb.2 _ (Nat.ne_of_gt hel)).trans hT
    have new : ObjOk X.prog X.w (upd H s.heap.objs.size (.tup [.int (i : Nat), .str (sgn c)])) h'' s.heap.objs.size (.tup [.int (i : Nat), .str (sgn c)]) :=
      ⟨by show 2 ≤ sizeLine; decide, [.int i tk, .str ⟨#[c]⟩ tu], .cons ⟨_, rfl⟩ (.cons ⟨_, rfl⟩ .nil), ⟨_, hT2, rfl, _, rfl⟩⟩
    have I1 : Inv X pins σ (upd H s.heap.objs.size (.tup [.int (i : Nat), .str (sgn c)])) { s with heap := h'', toks := tk + 1 } :=
      I.turnedNew (ch := [e, it]) (fun b ob hb q => (sb.2 b (fun z => hb (by simp [z]))).trans (hk b ob (fun z => hb (by simp [z])) (fun z => hb (by simp [z])) q)) hf (Nat.le_refl _) new
    refine ⟨.ref s.heap.objs.size, _, I1, rfl, ⟨_, c, rfl, I.hok.fresh (Nat.le_refl _), hcx, rfl⟩, ⟨hg, ⟨.str ⟨#[c]⟩ tu, ?_⟩, ?_, hne⟩, fun b hb => ?_⟩
    · have e1 : ((i + 1 : Nat) : Int) = (i : Int) + 1 := by omega
      rw [e1]; exact he'
    · obtain ⟨o, q, r⟩ := hit'
      exact ⟨o, (sb.2 it (Ne.symm hne)).trans q, r⟩
    · have hb' : b < s.heap.objs.size := by
        have e' : b = e ∨ b = it := by simpa using hb
        rcases e' with z | z
        · rw [z]; exact hel
        · rw [z]; exact hil
      rw [upd_ne (Nat.ne_of_lt hb')]
      exact (hf b hb).1
  done := by
    intro X hP hw hK hc i pins s σ H E I hf st hg
    subst hP hw hK
    obtain ⟨hl0, ⟨old, he⟩, hit, hne⟩ := st
    have ei : i = x.cps.size := Nat.le_antisymm hl0 hg
    subst ei
    have D : Draws X.prog X.w X.A.in1 it [it] x.cps.size (fun i v => ∃ c u, x.cps[i]? = some c ∧ v = .str ⟨#[c]⟩ u) (fun i h => h.IsStrIter it ty x t i) := by
      rcases hty with z | z
      · rw [z]; exact Draws.strAscii (A := X.A.in1) (I.ok.hd hc) it x t
      · rw [z]; exact Draws.strWide (A := X.A.in1) (I.ok.hd hc) it x t
    obtain ⟨f0, f1, f2, f3, f4, f5⟩ := hf it (by simp)
    exact wpAny_pyNext_enum_endD D he hit fun h' eb => ⟨rfl, I.turned (t' := s.toks) (fun b o hb q => eb b o hb q) f0 f1 f3 f4 f5⟩
  self := fun A i s Q E st h => let ⟨_, ⟨_, he⟩, _⟩ := st; wpAny_pyIter_enum he h
def iEnumS (ta : TA) : TI := fun σ H R => ta σ H fun vs H1 => ∃ x : Str, vs = [.str x] ∧ R (Ites x) H1
theorem pi_enumS {X : Cx} {e : Expr} {ta : TA} {p pos tpos : Pos} {elts : List Expr} {kk : Nat} (hg : Gl X "enumerate") (hm : X.mg "enumerate" = none) (ha : PA X [e] ta) (hs : starEach [e] X.env = [(false, eval e X.env)] := by rfl) :
    PI X (.Tuple elts kk tpos) (.Call (.Name "enumerate" p) [e] [] pos) (iEnumS ta) := by
  refine ⟨fun pins s σ H R I h => ?_⟩
  refine Call_ (ld_blt I hg hm boot_enumerate (PyProof.Rows.callWith_type1 (thn (ha.run pos pins s σ H _ I h) fun us s1 ⟨vs, H1, I1, r1, q1⟩ => ?_) hs rfl))
  obtain ⟨x, ex, q⟩ := q1
  subst ex
  cases r1 with
  | cons r rr =>
    cases rr
    obtain ⟨t, rfl⟩ := r
    refine call_enumerate_str fun h' he hit hsz hk => wpAny_pyIter_enum he ?_
    have I2 : Inv X pins σ H1 { s1 with heap := h' } := I1.kept (t' := s1.toks) hk
    have hty : strIterType x = "str_ascii_iterator" ∨ strIterType x = "str_iterator" := by
      unfold strIterType
      split
      · exact .inl rfl
      · exact .inr rfl
    refine ⟨s1.heap.objs.size + 1, [s1.heap.objs.size + 1, s1.heap.objs.size], _, _, H1, rfl, I2, turn_enumS x t (strIterType x) hty (s1.heap.objs.size + 1) s1.heap.objs.size, ⟨Nat.zero_le _, ⟨.none, he⟩, hit, Nat.succ_ne_self _⟩, fun b hb => ?_, q⟩
    have e' : b = s1.heap.objs.size + 1 ∨ b = s1.heap.objs.size := by simpa using hb
    have hle : s1.heap.objs.size ≤ b := by
      rcases e' with z | z
      · rw [z]; exact Nat.le_add_right _ _
      · rw [z]; exact Nat.le_refl _
    exact I1.fpOk hle (I1.hok.fresh hle)
/-! ### loops in short -/
section
variable {g : TG} {tb : TS} {D : Ends} {σ : L2.St} {H : Hp}
theorem for_enumS {x : Str} (Pv : Nat → L2.St → Hp → Prop) (h0 : Pv 0 σ H)
    (hs : ∀ i c T σ H, x.cps.toList[i]? = some c → H T = none → Pv i σ H → g (.ref T) σ (upd H T (.tup [.int (i : Nat), .str (sgn c)])) fun σ2 H2 => tb { D with nx := Pv (i + 1), ct := Pv (i + 1), bk := D.nx } σ2 H2) (hd : ∀ σ H, Pv x.cps.toList.length σ H → D.nx σ H) :
    ∃ W : Nat → Nat → L2.St → Hp → Prop, (∃ m, W 0 m σ H) ∧ ∀ i m σ H, W i m σ H →
      ((Ites x).stop i H ∧ D.nx σ H) ∨ ((Ites x).go i H ∧ ∃ N : L2.St → Hp → Prop, (∀ σ' H', N σ' H' → ∃ m', m' < m ∧ W (i + 1) m' σ' H') ∧ ∀ y H', (Ites x).yld i H y H' → g y σ H' fun σ2 H2 => tb { D with nx := N, ct := N, bk := D.nx } σ2 H2) := by
  have es : x.cps.toList.length = x.cps.size := by simp
  rw [es] at hd
  refine ⟨fun i m σ H => m = x.cps.size - i ∧ i ≤ x.cps.size ∧ Pv i σ H, ⟨x.cps.size, by simp, Nat.zero_le _, h0⟩, ?_⟩
  rintro i m σ H ⟨rfl, hi, p⟩
  by_cases hlt : i < x.cps.size
  · refine .inr ⟨hlt, Pv (i + 1), fun σ' H' p' => ⟨x.cps.size - (i + 1), by omega, rfl, hlt, p'⟩, fun y H' z => ?_⟩
    obtain ⟨T, c, rfl, hT, hc, rfl⟩ := z
    exact hs i c T σ H (by rw [Array.getElem?_toList]; exact hc) hT p
  · have e : i = x.cps.size := by omega
    subst e
    exact .inl ⟨Nat.le_refl _, hd σ H p⟩
theorem for_str {x : Str} (Pv : Nat → L2.St → Hp → Prop) (h0 : Pv 0 σ H)
    (hs : ∀ i c σ H, x.cps.toList[i]? = some c → Pv i σ H → g (.str (sgn c)) σ H fun σ2 H2 => tb { D with nx := Pv (i + 1), ct := Pv (i + 1), bk := D.nx } σ2 H2) (hd : ∀ σ H, Pv x.cps.toList.length σ H → D.nx σ H) :
    ∃ W : Nat → Nat → L2.St → Hp → Prop, (∃ m, W 0 m σ H) ∧ ∀ i m σ H, W i m σ H →
      ((Its x).stop i H ∧ D.nx σ H) ∨ ((Its x).go i H ∧ ∃ N : L2.St → Hp → Prop, (∀ σ' H', N σ' H' → ∃ m', m' < m ∧ W (i + 1) m' σ' H') ∧ ∀ y H', (Its x).yld i H y H' → g y σ H' fun σ2 H2 => tb { D with nx := N, ct := N, bk := D.nx } σ2 H2) := by
  have es : x.cps.toList.length = x.cps.size := by simp
  rw [es] at hd
  refine ⟨fun i m σ H => m = x.cps.size - i ∧ i ≤ x.cps.size ∧ Pv i σ H, ⟨x.cps.size, by simp, Nat.zero_le _, h0⟩, ?_⟩
  rintro i m σ H ⟨rfl, hi, p⟩
  by_cases hlt : i < x.cps.size
  · refine .inr ⟨hlt, Pv (i + 1), fun σ' H' p' => ⟨x.cps.size - (i + 1), by omega, rfl, hlt, p'⟩, fun y H' z => ?_⟩
    obtain ⟨e, c, hc, rfl⟩ := z
    subst e
    exact hs i c σ _ (by rw [Array.getElem?_toList]; exact hc) p
  · have e : i = x.cps.size := by omega
    subst e
    exact .inl ⟨Nat.le_refl _, hd σ H p⟩
theorem for_enum {K : PySem.W.Frag} {a : Addr} {xs : List V} (Pv : Nat → L2.St → Hp → Prop) (h0 : Pv 0 σ H) (hl : ∀ i σ H, i ≤ xs.length → Pv i σ H → SqL K H a xs)
    (hs : ∀ i x T σ H, xs[i]? = some x → H T = none → Pv i σ H → g (.ref T) σ (upd H T (.tup [.int (i : Nat), x])) fun σ2 H2 => tb { D with nx := Pv (i + 1), ct := Pv (i + 1), bk := D.nx } σ2 H2) (hd : ∀ σ H, Pv xs.length σ H → D.nx σ H) :
    ∃ W : Nat → Nat → L2.St → Hp → Prop, (∃ m, W 0 m σ H) ∧ ∀ i m σ H, W i m σ H →
      ((Ite K a).stop i H ∧ D.nx σ H) ∨ ((Ite K a).go i H ∧ ∃ N : L2.St → Hp → Prop, (∀ σ' H', N σ' H' → ∃ m', m' < m ∧ W (i + 1) m' σ' H') ∧ ∀ y H', (Ite K a).yld i H y H' → g y σ H' fun σ2 H2 => tb { D with nx := N, ct := N, bk := D.nx } σ2 H2) := by
  refine ⟨fun i m σ H => m = xs.length - i ∧ i ≤ xs.length ∧ Pv i σ H, ⟨xs.length, by simp, Nat.zero_le _, h0⟩, ?_⟩
  rintro i m σ H ⟨rfl, hi, p⟩
  have q := hl i σ H hi p
  by_cases hlt : i < xs.length
  · refine .inr ⟨⟨xs, xs[i], q, by simp [hlt]⟩, Pv (i + 1), fun σ' H' p' => ⟨xs.length - (i + 1), by omega, rfl, hlt, p'⟩, fun y H' z => ?_⟩
    obtain ⟨T, x, rfl, hT, rfl, hx⟩ := z
    exact hs i x T σ H (hx xs q) hT p
  · have e : i = xs.length := by omega
    subst e
    exact .inl ⟨⟨xs, q, Nat.le_refl _⟩, hd σ H p⟩
end
/-! ### defs and methods that keep a promise, by name -/
structure Cal (P : Program) (w : World) (K : PySem.W.Frag) (mg : Str → Option Value) (base : Heap) (CX : CXT) (k : Nat) (x : Str) (sp : Sp) : Prop where
  ex : ∃ (f : Addr) (fd : FuncData) (ps : List Str), FnOk P w K mg base CX k f fd ps sp ∧ mg x = some (.ref f) ∧ PySem.W.keepIn K (.ref f) = true ∧ Binds K fd ps []
structure Met (P : Program) (w : World) (K : PySem.W.Frag) (mg : Str → Option Value) (base : Heap) (CX : CXT) (k : Nat) (C : Addr) (m : Str) (sp : Sp) : Prop where
  cl : Cls K C
  ex : ∃ (f : Addr) (fd : FuncData) (ps : List Str), FnOk P w K mg base CX k f fd ps sp ∧ Meth K C m f ∧ Binds K fd ps []
structure Mkc (P : Program) (w : World) (K : PySem.W.Frag) (mg : Str → Option Value) (base : Heap) (CX : CXT) (k : Nat) (x : Str) (C : Addr) (sp : Sp) : Prop where
  ex : ∃ (f : Addr) (fd : FuncData) (ps : List Str), FnOk P w K mg base CX k f fd ps sp ∧ Mk K C f ∧ Binds K fd ps []
  g : mg x = some (.ref C)
section
variable {X : Cx} {k : Nat} {x : Str} {sp : Sp} {e : Expr} {es : List Expr} {t : TA} {p pos apos : Pos} {C : Addr} {m : Str} {o : Expr} {ta : TE}
theorem pe_cal (F : Cal X.prog X.w X.K X.mg X.base CX0 k x sp) (hr : Room k X.A) (hg : Gl X x) (ha : PA X (e :: es) t) (hdb : (x == ("__debug__" : Str)) = false := by decide)
    (he : starEach (e :: es) X.env = (false, eval e X.env) :: starEach es X.env := by rfl) (hpl : (backTo pos (starEach es X.env)).any (·.1) = false := by rfl) :
    PE X (.Call (.Name x p) (e :: es) [] pos) (fun σ H Q => t σ H fun vs H1 => sp vs H1 Q E0) := by
  obtain ⟨f, fd, ps, G, gm, kp, b⟩ := F.ex
  have z := pe_call (p := p) (pos := pos) (es := es) G hr hg gm kp b .nil pass0 ha hdb he hpl
  refine ⟨fun pins s σ H Q I h => z.run pins s σ H Q I ?_⟩
  show t σ H fun vs H1 => sp (vs ++ []) H1 Q E0
  simpa only [List.append_nil] using h
theorem pe_cal0 (F : Cal X.prog X.w X.K X.mg X.base CX0 k x sp) (hr : Room k X.A) (hg : Gl X x) (hdb : (x == ("__debug__" : Str)) = false := by decide) :
    PE X (.Call (.Name x p) [] [] pos) (fun _ H Q => sp [] H Q E0) := by
  obtain ⟨f, fd, ps, G, gm, kp, b⟩ := F.ex
  have z := pe_call0 (p := p) (pos := pos) G hr hg gm kp b .nil pass0 hdb
  exact ⟨fun pins s σ H Q I h => z.run pins s σ H Q I h⟩
theorem pe_met {pl : Sem Bool} (F : Met X.prog X.w X.K X.mg X.base CX0 k C m sp) (ho : PE X o ta) (hr : Room k X.A) (ha : PA X (e :: es) t)
    (hc : eval (.Call (.Attribute o m apos) (e :: es) [] pos) X.env = (do
      let ov ← eval o X.env
      standAt apos.atName
      let (f, first) ← holding [ov] (getMethod ov m pl)
      callWith pos f first (backTo pos (starEach (e :: es) X.env)) (backToKw pos (keywordEach [] X.env))) := by rfl)
    (he : starEach (e :: es) X.env = (false, eval e X.env) :: starEach es X.env := by rfl) (hpl : (backTo pos (starEach es X.env)).any (·.1) = false := by rfl) :
    PE X (.Call (.Attribute o m apos) (e :: es) [] pos) (fun σ H Q => ta σ H fun x H1 => ∃ a dx fs, x = .ref a ∧ H1 a = some (.ins C dx fs) ∧ fs.lookup m = none ∧ t σ H1 fun vs H2 => sp (x :: vs) H2 Q E0) := by
  obtain ⟨f, fd, ps, G, mt, b⟩ := F.ex
  have z := pe_meth (apos := apos) (pos := pos) ho F.cl mt G hr b .nil pass0 ha he hpl hc
  refine ⟨fun pins s σ H Q I h => z.run pins s σ H Q I ?_⟩
  show ta σ H fun x H1 => ∃ a dx fs, x = .ref a ∧ H1 a = some (.ins C dx fs) ∧ fs.lookup m = none ∧ t σ H1 fun vs H2 => sp (x :: (vs ++ [])) H2 Q E0
  simpa only [List.append_nil] using h
theorem pe_met0 {pl : Sem Bool} (F : Met X.prog X.w X.K X.mg X.base CX0 k C m sp) (ho : PE X o ta) (hr : Room k X.A)
    (hc : eval (.Call (.Attribute o m apos) [] [] pos) X.env = (do
      let ov ← eval o X.env
      standAt apos.atName
      let (f, first) ← holding [ov] (getMethod ov m pl)
      callWith pos f first (backTo pos (starEach [] X.env)) (backToKw pos (keywordEach [] X.env))) := by rfl) :
    PE X (.Call (.Attribute o m apos) [] [] pos) (fun σ H Q => ta σ H fun x H1 => ∃ a dx fs, x = .ref a ∧ H1 a = some (.ins C dx fs) ∧ fs.lookup m = none ∧ sp [x] H1 Q E0) := by
  obtain ⟨f, fd, ps, G, mt, b⟩ := F.ex
  have z := pe_meth0 (apos := apos) (pos := pos) ho F.cl mt G hr b .nil pass0 hc
  exact ⟨fun pins s σ H Q I h => z.run pins s σ H Q I h⟩
theorem pe_mk (F : Mkc X.prog X.w X.K X.mg X.base CX0 k x C sp) (hr : Room (k + 1) X.A) (hg : Gl X x) (ha : PA X (e :: es) t) (hdb : (x == ("__debug__" : Str)) = false := by decide)
    (he : starEach (e :: es) X.env = (false, eval e X.env) :: starEach es X.env := by rfl) (hpl : (backTo pos (starEach es X.env)).any (·.1) = false := by rfl) :
    PE X (.Call (.Name x p) (e :: es) [] pos) (fun σ H Q => t σ H fun vs H1 => ∀ x dx, H1 x = none → H1 dx = none → dx ≠ x →
      sp (.ref x :: vs) (upd (upd H1 dx (.own x)) x (.ins C dx [])) (fun v H2 => v = .non ∧ Q (.ref x) H2) E0) := by
  obtain ⟨f, fd, ps, G, mk, b⟩ := F.ex
  have z := pe_make (p := p) (pos := pos) (es := es) mk G hr hg F.g b .nil pass0 ha hdb he hpl
  refine ⟨fun pins s σ H Q I h => z.run pins s σ H Q I ?_⟩
  show t σ H fun vs H1 => ∀ x dx, H1 x = none → H1 dx = none → dx ≠ x → sp (.ref x :: (vs ++ [])) (upd (upd H1 dx (.own x)) x (.ins C dx [])) (fun v H2 => v = .non ∧ Q (.ref x) H2) E0
  simpa only [List.append_nil] using h
end
/-! ### heaps -/
theorem Same.new {H : Hp} {p : Addr} {o : HO} (h : H p = none) : Same H (upd H p o) := fun b x e => by
  rw [upd_ne (ne_of_none e h)]
  exact e
/-- an object that H does not know may change -/
theorem Same.mut {H H' : Hp} {p : Addr} {o : HO} (s : Same H H') (h : H p = none) : Same H (upd H' p o) := fun b x e => by
  rw [upd_ne (ne_of_none e h)]
  exact s b x e
theorem Same.put {H H' : Hp} {p : Addr} {o : HO} (s : Same H H') (h : H' p = none) : Same H (upd H' p o) := s.trans (Same.new h)
theorem sz {n : Nat} (h : n ≤ 100000) : n ≤ sizeLine := Nat.le_trans h (by decide)
theorem szl {n : Nat} (h : n < 100000) : n < sizeLine := Nat.lt_of_lt_of_le h (by decide)
theorem ats {α : Type} {xs : List α} {i : Nat} {x : α} (h : xs[i]? = some x) : atI xs (i : Int) = some x := by
  have hl : i < xs.length := (List.getElem?_eq_some_iff.mp h).1
  unfold atI ixN
  rw [if_pos (by omega), if_pos (by omega)]
  simpa using h
/-- digits below their sizes -/
abbrev Digs : List Int → List Int → Prop := Paired fun z d => 0 ≤ d ∧ d < z
end Jr
namespace Jr
open PySem PySem.Spec PyProof.Rows L2
/-! ### xs + ys, lists that may be locked -/
def rCatL (K : PySem.W.Frag) : R2 := fun x y H Q => ∃ l b xs zs, x = .ref l ∧ y = .ref b ∧ SqL K H l xs ∧ SqL K H b zs ∧ xs.length + zs.length ≤ sizeLine ∧ ∀ p, H p = none → Q (.ref p) (upd H p (.lst (xs ++ zs)))
theorem op_catL {X : Cx} : OpR X (binaryOp .Add) (rCatL X.K) := by
  intro pins s σ H x y v u Q I rx ry h
  obtain ⟨l, b, xs, zs, rfl, rfl, hH, hB, hz, q⟩ := h
  cases rx
  cases ry
  obtain ⟨its, r, ⟨o1, n1, g1, c1, d1, t1⟩, z1⟩ := I.list hH
  obtain ⟨its2, r2, ⟨o2, n2, g2, c2, d2, t2⟩, z2⟩ := I.list hB
  obtain ⟨k1, e1, dt1, sl1⟩ := o1
  obtain ⟨k2, e2, dt2, sl2⟩ := o2
  simp only at c1 d1 t1 c2 d2 t2
  subst c1 d1 t1 c2 d2 t2
  have l1 := r.length
  have l2 := r2.length
  have ea : its.toArray ++ its2.toArray = (its ++ its2).toArray := by simp
  have fin := I.lnew (t' := s.toks) (r.append r2) (by rw [List.length_append]; omega)
  rw [← ea] at fin
  exact concat_meets ⟨_, g1, rfl⟩ ⟨_, g2, rfl⟩ noFill_list_add seq_list_add F.slot_list_add F.entry_list_add (F.args_list_add_2 _ _)
    (list_addW l b its.toArray its2.toArray n1 n2 none none sl1 sl2 (by rw [List.size_toArray, List.size_toArray]; omega)) ⟨g1, g2, ⟨.ref _, _, fin, rfl, q _ I.fresh⟩⟩
end Jr
namespace Jr
open PySem PySem.Spec PyProof.Rows L2
/-! ### rules whose reading names the written part, for comprehensions -/
section
variable {X : Cx} {K : PySem.W.Frag}
theorem call_len_seqK (h : X.K = K := by rfl) : CallR X (.builtin "len") (fun xs H Q => ∃ p ys, xs = [.ref p] ∧ (SqL K H p ys ∨ SqT K H p ys) ∧ Q (.int ys.length) H) := by subst h; exact call_len_seq
theorem ix_listK (h : X.K = K := by rfl) : IxR X (rIxL K) := by subst h; exact ix_list
theorem ix_tupK (h : X.K = K := by rfl) : IxR X (rIxT K) := by subst h; exact ix_tup
theorem sl_listK (h : X.K = K := by rfl) : SlR X (rSlL K) := by subst h; exact sl_list
theorem op_in_seqK (h : X.K = K := by rfl) : OpR X (compareOp .In) (rIn K false) := by subst h; exact op_in_seq
theorem op_notIn_seqK (h : X.K = K := by rfl) : OpR X (compareOp .NotIn) (rIn K true) := by subst h; exact op_notIn_seq
theorem op_eqDK (hu : X.A.units + 64 < cLine) (h : X.K = K := by rfl) : OpR X (compareOp .Eq) (rEqD K) := by subst h; exact op_eqD hu
theorem op_neDK (hu : X.A.units + 64 < cLine) (h : X.K = K := by rfl) : OpR X (compareOp .NotEq) (rNeD K) := by subst h; exact op_neD hu
theorem call_isiK' (h : X.K = K := by rfl) : CallR X (.builtin "isinstance") (rIsi K) := by subst h; exact call_isi
theorem call_list_ofK (h : X.K = K := by rfl) : CallR X (.type "list") (fun xs H Q => ∃ p ys, xs = [.ref p] ∧ (SqL K H p ys ∨ SqT K H p ys) ∧ ∀ l, H l = none → Q (.ref l) (upd H l (.lst ys))) := by subst h; exact call_list_of
end
end Jr
namespace Jr
open PySem PySem.Spec PyProof.Rows L2
/-! ### comprehensions whose element and test change nothing: a filter and a map -/
section
variable {α : Type} {item : α → V} {p : α → Bool} {f : α → V} {g : TG} {tt : TT} {te : TE} {vs : List Nat} {σ : L2.St} {H1 : Hp} {D : Addr} {Qd : Hp → Prop}
/-- one turn of such a comprehension -/
def LcTurn (item : α → V) (p : α → Bool) (f : α → V) (g : TG) (tt : TT) (te : TE) (vs : List Nat) (σ : L2.St) (H1 : Hp) (x : α) : Prop :=
  ∀ (H' : Hp), Same H1 H' → ∀ (N : Hp → Prop) (M : V → Hp → Prop), (p x = true → M (f x) H') → (p x = false → N H') →
    g (item x) (wipe σ vs) H' fun σ2 H2 => wipe σ2 vs = wipe σ vs ∧ tt σ2 H2 fun b H3 => if b = true then te σ2 H3 M else N H3
theorem lc_step {l : List α} {i : Nat} {x : α} {H : Hp} (hD : H1 D = none) (hx : l[i]? = some x) (hlen : l.length ≤ 100000) (turn : LcTurn item p f g tt te vs σ H1 x)
    (sm : Same H1 H) (hL : H D = some (.lst (((l.take i).filter p).map f))) :
    g (item x) (wipe σ vs) H fun σ2 H2 => wipe σ2 vs = wipe σ vs ∧ tt σ2 H2 fun b H3 =>
      if b = true then te σ2 H3 fun y H4 => ∃ acc, H4 D = some (.lst acc) ∧ acc.length < sizeLine ∧ (fun H' => Same H1 H' ∧ H' D = some (.lst (((l.take (i + 1)).filter p).map f))) (upd H4 D (.lst (acc ++ [y])))
      else (fun H' => Same H1 H' ∧ H' D = some (.lst (((l.take (i + 1)).filter p).map f))) H3 := by
  have e : l.take (i + 1) = l.take i ++ [x] := by rw [List.take_add_one, hx]; rfl
  refine turn H sm _ _ (fun hp => ?_) (fun hp => ?_)
  · refine ⟨_, hL, ?_, Same.mut sm hD, ?_⟩
    · have h1 : ((l.take i).filter p).length ≤ (l.take i).length := List.length_filter_le ..
      have h2 : (l.take i).length ≤ i := by rw [List.length_take]; omega
      have h3 : i < l.length := (List.getElem?_eq_some_iff.mp hx).1
      rw [List.length_map]
      exact szl (by omega)
    · rw [upd_same, e, List.filter_append, List.map_append]
      simp [hp]
  · refine ⟨sm, ?_⟩
    rw [hL, e, List.filter_append, List.map_append]
    simp [hp]
theorem lc_listM {K : PySem.W.Frag} {a : Addr} {l : List α} (hS : SqL K H1 a (l.map item)) (hD : H1 D = none) (hlen : l.length ≤ 100000) (turn : ∀ x ∈ l, LcTurn item p f g tt te vs σ H1 x)
    (hd : ∀ H, Same H1 H → H D = some (.lst ((l.filter p).map f)) → Qd H) :
    ∃ W : Nat → Nat → Hp → Prop, (∃ m, W 0 m (upd H1 D (.lst []))) ∧ ∀ i m H, W i m H →
      ((Itl K a).stop i H ∧ Qd H) ∨ ((Itl K a).go i H ∧ ∃ Nx : Hp → Prop, (∀ H', Nx H' → ∃ m', m' < m ∧ W (i + 1) m' H') ∧ ∀ x H', (Itl K a).yld i H x H' → g x (wipe σ vs) H' fun σ2 H2 => wipe σ2 vs = wipe σ vs ∧ tt σ2 H2 fun b H3 =>
        if b = true then te σ2 H3 fun y H4 => ∃ acc, H4 D = some (.lst acc) ∧ acc.length < sizeLine ∧ Nx (upd H4 D (.lst (acc ++ [y]))) else Nx H3) := by
  refine lc_list (K := K) (a := a) (xs := l.map item) (fun i H => Same H1 H ∧ H D = some (.lst (((l.take i).filter p).map f))) ⟨Same.new hD, upd_same⟩ (fun i H _ ⟨s, _⟩ => s.seq hS) ?_ ?_
  · rintro i x H hx ⟨sm, hL⟩
    rw [List.getElem?_map] at hx
    cases e : l[i]? with
    | none => rw [e] at hx; cases hx
    | some y =>
      rw [e] at hx
      cases hx
      exact lc_step hD e hlen (turn y (List.mem_of_getElem? e)) sm hL
  · rintro H ⟨sm, hL⟩
    rw [List.length_map, List.take_length] at hL
    exact hd H sm hL
theorem lc_strM {x : Str} {p : Nat → Bool} {f : Nat → V} (hD : H1 D = none) (hlen : x.cps.toList.length ≤ 100000) (turn : ∀ c ∈ x.cps.toList, LcTurn (fun c => V.str (sgn c)) p f g tt te vs σ H1 c)
    (hd : ∀ H, Same H1 H → H D = some (.lst ((x.cps.toList.filter p).map f)) → Qd H) :
    ∃ W : Nat → Nat → Hp → Prop, (∃ m, W 0 m (upd H1 D (.lst []))) ∧ ∀ i m H, W i m H →
      ((Its x).stop i H ∧ Qd H) ∨ ((Its x).go i H ∧ ∃ Nx : Hp → Prop, (∀ H', Nx H' → ∃ m', m' < m ∧ W (i + 1) m' H') ∧ ∀ y H', (Its x).yld i H y H' → g y (wipe σ vs) H' fun σ2 H2 => wipe σ2 vs = wipe σ vs ∧ tt σ2 H2 fun b H3 =>
        if b = true then te σ2 H3 fun y H4 => ∃ acc, H4 D = some (.lst acc) ∧ acc.length < sizeLine ∧ Nx (upd H4 D (.lst (acc ++ [y]))) else Nx H3) := by
  have es : x.cps.toList.length = x.cps.size := by simp
  refine ⟨fun i m H => m = x.cps.size - i ∧ i ≤ x.cps.size ∧ Same H1 H ∧ H D = some (.lst (((x.cps.toList.take i).filter p).map f)), ⟨x.cps.size, by simp, Nat.zero_le _, Same.new hD, upd_same⟩, ?_⟩
  rintro i m H ⟨rfl, hi, sm, hL⟩
  by_cases hlt : i < x.cps.size
  · refine .inr ⟨hlt, (fun H' => Same H1 H' ∧ H' D = some (.lst (((x.cps.toList.take (i + 1)).filter p).map f))), fun H' p' => ⟨x.cps.size - (i + 1), by omega, rfl, hlt, p'⟩, fun y H' z => ?_⟩
    obtain ⟨e, c, hc, rfl⟩ := z
    subst e
    have hc' : x.cps.toList[i]? = some c := by rw [Array.getElem?_toList]; exact hc
    exact lc_step (item := fun c => V.str (sgn c)) hD hc' hlen (turn c (List.mem_of_getElem? hc')) sm hL
  · have e : i = x.cps.size := by omega
    subst e
    rw [← es, List.take_length] at hL
    exact .inl ⟨Nat.le_refl _, hd H sm hL⟩
theorem lc_rangeM {lo : Int} {n : Nat} {p : Nat → Bool} {f : Nat → V} (hD : H1 D = none) (hlen : n ≤ 100000) (turn : ∀ i, i < n → LcTurn (fun i : Nat => V.int (lo + i)) p f g tt te vs σ H1 i)
    (hd : ∀ H, Same H1 H → H D = some (.lst (((List.range n).filter p).map f)) → Qd H) :
    ∃ W : Nat → Nat → Hp → Prop, (∃ m, W 0 m (upd H1 D (.lst []))) ∧ ∀ i m H, W i m H →
      ((Itr lo n).stop i H ∧ Qd H) ∨ ((Itr lo n).go i H ∧ ∃ Nx : Hp → Prop, (∀ H', Nx H' → ∃ m', m' < m ∧ W (i + 1) m' H') ∧ ∀ y H', (Itr lo n).yld i H y H' → g y (wipe σ vs) H' fun σ2 H2 => wipe σ2 vs = wipe σ vs ∧ tt σ2 H2 fun b H3 =>
        if b = true then te σ2 H3 fun y H4 => ∃ acc, H4 D = some (.lst acc) ∧ acc.length < sizeLine ∧ Nx (upd H4 D (.lst (acc ++ [y]))) else Nx H3) := by
  refine lc_range (lo := lo) (n := n) (fun i H => Same H1 H ∧ H D = some (.lst ((((List.range n).take i).filter p).map f))) ⟨Same.new hD, upd_same⟩ ?_ ?_
  · rintro i H hi ⟨sm, hL⟩
    exact lc_step (l := List.range n) (item := fun i : Nat => V.int (lo + i)) hD (by rw [List.getElem?_range hi]) (by rw [List.length_range]; exact hlen) (turn i hi) sm hL
  · rintro H ⟨sm, hL⟩
    have e : (List.range n).take n = List.range n := by
      have := List.take_length (l := List.range n)
      rw [List.length_range] at this
      exact this
    rw [e] at hL
    exact hd H sm hL
end
/-! ### lists -/
theorem pigeon {α : Type} [DecidableEq α] : ∀ (l m : List α), l.Nodup → (∀ x ∈ l, x ∈ m) → l.length ≤ m.length
  | [], _, _, _ => Nat.zero_le _
  | x :: l, m, nd, h => by
    have hx : x ∈ m := h x List.mem_cons_self
    have nd' := List.nodup_cons.mp nd
    have ih := pigeon l (m.erase x) nd'.2 fun y hy => by
      have hne : y ≠ x := fun e => nd'.1 (e ▸ hy)
      exact (List.mem_erase_of_ne hne).mpr (h y (List.mem_cons_of_mem _ hy))
    have hl := List.length_erase_of_mem hx
    have hp : 0 < m.length := List.length_pos_of_mem hx
    rw [List.length_cons]
    omega
theorem Paired.get {α β : Type} {F : α → β → Prop} : ∀ {l : List α} {m : List β} {i : Nat} {x : α}, Paired F l m → l[i]? = some x → ∃ y, m[i]? = some y ∧ F x y
  | _, _, _, _, .nil, h => by simp at h
  | _, _, 0, _, .cons r _, h => ⟨_, rfl, by have e := Option.some.inj h; subst e; exact r⟩
  | _, _, i + 1, _, .cons _ q, h => Paired.get (i := i) q h
theorem Paired.get2 {α β : Type} {F : α → β → Prop} : ∀ {l : List α} {m : List β} {i : Nat} {y : β}, Paired F l m → m[i]? = some y → ∃ x, l[i]? = some x ∧ F x y
  | _, _, _, _, .nil, h => by simp at h
  | _, _, 0, _, .cons r _, h => ⟨_, rfl, by have e := Option.some.inj h; subst e; exact r⟩
  | _, _, i + 1, _, .cons _ q, h => Paired.get2 (i := i) q h
theorem Paired.mem2 {α β : Type} {F : α → β → Prop} {l : List α} {m : List β} {y : β} (h : Paired F l m) (hy : y ∈ m) : ∃ x ∈ l, F x y := by
  obtain ⟨i, hi, e⟩ := List.mem_iff_getElem.mp hy
  obtain ⟨x, hx, r⟩ := Paired.get2 h (i := i) (by rw [List.getElem?_eq_getElem hi, e])
  exact ⟨x, List.mem_of_getElem? hx, r⟩
theorem Paired.app {α β : Type} {F : α → β → Prop} : ∀ {l : List α} {m : List β} {l' : List α} {m' : List β}, Paired F l m → Paired F l' m' → Paired F (l ++ l') (m ++ m')
  | _, _, _, _, .nil, h => h
  | _, _, _, _, .cons r q, h => .cons r (Paired.app q h)
theorem Paired.tk {α β : Type} {F : α → β → Prop} : ∀ {l : List α} {m : List β} (n : Nat), Paired F l m → Paired F (l.take n) (m.take n)
  | _, _, _, .nil => by simp only [List.take_nil]; exact .nil
  | _, _, 0, .cons _ _ => .nil
  | _, _, n + 1, .cons r q => .cons r (Paired.tk n q)
theorem Paired.dr {α β : Type} {F : α → β → Prop} : ∀ {l : List α} {m : List β} (n : Nat), Paired F l m → Paired F (l.drop n) (m.drop n)
  | _, _, _, .nil => by simp only [List.drop_nil]; exact .nil
  | _, _, 0, .cons r q => .cons r q
  | _, _, n + 1, .cons _ q => Paired.dr n q
theorem Paired.len {α β : Type} {F : α → β → Prop} {l : List α} {m : List β} (h : Paired F l m) : l.length = m.length := Paired.length h
/-! ### texts -/
theorem app_cps (a b : Str) : (a ++ b).cps.toList = a.cps.toList ++ b.cps.toList := by
  show (a.cps ++ b.cps).toList = _
  simp
theorem app_len (a b : Str) : (a ++ b).length = a.length + b.length := by
  show (a.cps ++ b.cps).size = a.cps.size + b.cps.size
  simp
theorem str_ext {a b : Str} (h : a.cps.toList = b.cps.toList) : a = b := by
  cases a; cases b
  simp only at h
  congr
  exact Array.toList_inj.mp h
theorem len_cps (a : Str) : a.cps.toList.length = a.length := by simp [Str.length]
theorem app_assoc (a b c : Str) : a ++ b ++ c = a ++ (b ++ c) := str_ext (by simp only [app_cps, List.append_assoc])
theorem sgn_inj {c d : Nat} (h : sgn c = sgn d) : c = d := by
  have e : (sgn c).cps.toList = (sgn d).cps.toList := by rw [h]
  simpa [sgn] using e
theorem sgn_len (c : Nat) : (sgn c).length = 1 := rfl
theorem cut_from (z : Str) (d : Nat) : (cutS z (some (d : Int)) none).cps.toList = z.cps.toList.drop d := by
  show ((z.cps.toList.drop (HT.sIx z.length 0 (some (d : Int)))).take (HT.sIx z.length z.length none - HT.sIx z.length 0 (some (d : Int)))).toArray.toList = _
  rw [HT.sIx_nat, HT.sIx_none, List.toList_toArray]
  have e : z.cps.toList.length = z.length := len_cps z
  by_cases h : d ≤ z.length
  · rw [Nat.min_eq_left h, List.take_of_length_le (by rw [List.length_drop, e]; exact Nat.le_refl _)]
  · rw [Nat.min_eq_right (by omega), List.drop_of_length_le (by omega), List.drop_of_length_le (by omega)]
    simp
theorem cut_to (z : Str) (d : Nat) : (cutS z none (some (d : Int))).cps.toList = z.cps.toList.take d := by
  show ((z.cps.toList.drop (HT.sIx z.length 0 none)).take (HT.sIx z.length z.length (some (d : Int)) - HT.sIx z.length 0 none)).toArray.toList = _
  rw [HT.sIx_nat, HT.sIx_none, List.toList_toArray, List.drop_zero, Nat.sub_zero]
  have e : z.cps.toList.length = z.length := len_cps z
  by_cases h : d ≤ z.length
  · rw [Nat.min_eq_left h]
  · rw [Nat.min_eq_right (by omega), List.take_of_length_le (by omega), List.take_of_length_le (by omega)]
theorem cutV_from (xs : List V) (d : Nat) : cutV xs (some (d : Int)) none = xs.drop d := by
  show (xs.drop (HT.sIx xs.length 0 (some (d : Int)))).take (HT.sIx xs.length xs.length none - HT.sIx xs.length 0 (some (d : Int))) = _
  rw [HT.sIx_nat, HT.sIx_none]
  by_cases h : d ≤ xs.length
  · rw [Nat.min_eq_left h, List.take_of_length_le (by rw [List.length_drop]; exact Nat.le_refl _)]
  · rw [Nat.min_eq_right (by omega), List.drop_of_length_le (Nat.le_refl _), List.drop_of_length_le (by omega)]
    simp
theorem cutV_to (xs : List V) (d : Nat) : cutV xs none (some (d : Int)) = xs.take d := by
  show (xs.drop (HT.sIx xs.length 0 none)).take (HT.sIx xs.length xs.length (some (d : Int)) - HT.sIx xs.length 0 none) = _
  rw [HT.sIx_nat, HT.sIx_none, List.drop_zero, Nat.sub_zero]
  by_cases h : d ≤ xs.length
  · rw [Nat.min_eq_left h]
  · rw [Nat.min_eq_right (by omega), List.take_of_length_le (Nat.le_refl _), List.take_of_length_le (by omega)]
theorem cutV_mid (xs : List V) (a b : Nat) : cutV xs (some (a : Int)) (some (b : Int)) = (xs.drop a).take (b - a) := by
  show (xs.drop (HT.sIx xs.length 0 (some (a : Int)))).take (HT.sIx xs.length xs.length (some (b : Int)) - HT.sIx xs.length 0 (some (a : Int))) = _
  rw [HT.sIx_nat, HT.sIx_nat]
  by_cases h : a ≤ xs.length
  · rw [Nat.min_eq_left h]
    by_cases h2 : b ≤ xs.length
    · rw [Nat.min_eq_left h2]
    · rw [Nat.min_eq_right (by omega), List.take_of_length_le (by rw [List.length_drop]; exact Nat.le_refl _), List.take_of_length_le (by rw [List.length_drop]; omega)]
  · rw [Nat.min_eq_right (show xs.length ≤ a by omega), List.drop_of_length_le (Nat.le_refl _), List.drop_of_length_le (by omega)]
    simp
/-- an item of a list of a kind, by its place -/
theorem atm {α : Type} {f : α → V} {xs : List α} {i : Nat} {x : α} (h : xs[i]? = some x) : atI (xs.map f) (i : Int) = some (f x) := ats (by rw [List.getElem?_map, h]; rfl)
end Jr
namespace Jr
open PySem PySem.Spec PyProof.Rows L2
/-! ### tables as data -/
/-- what the signs of a table are: unlike, from the blank to ~ but the percent sign -/
structure SignsOk (z : Str) : Prop where
  nd : z.cps.toList.Nodup
  ok : ∀ c ∈ z.cps.toList, 32 ≤ c ∧ c ≤ 126 ∧ c ≠ 37
abbrev Rws := List (Str × Str)
def jn (r : Str × Str) : Str := r.1 ++ r.2
/-- the pieces, by their numbers -/
def pcs (z : Str) (rs : Rws) : List Str := sgs z ++ rs.map jn
/-- each row's parts are pieces ahead of it, its joined text is none of these and has at most 16 signs -/
structure RowOk (z : Str) (rs : Rws) (r : Str × Str) : Prop where
  lm : r.1 ∈ pcs z rs
  rm : r.2 ∈ pcs z rs
  len : (jn r).length ≤ 16
  new : ¬ jn r ∈ pcs z rs
structure TabOk (z : Str) (rs : Rws) : Prop where
  sg : SignsOk z
  n1 : 1 ≤ z.length
  n12 : z.length ≤ 12
  many : rs.length ≤ 24
  rows : ∀ i r, rs[i]? = some r → RowOk z (rs.take i) r
theorem TabOk.nil {z : Str} (s : SignsOk z) (h1 : 1 ≤ z.length) (h2 : z.length ≤ 12) : TabOk z [] := ⟨s, h1, h2, Nat.zero_le _, fun i r h => by simp at h⟩
theorem TabOk.take {z : Str} {rs : Rws} (T : TabOk z rs) (n : Nat) : TabOk z (rs.take n) := by
  refine ⟨T.sg, T.n1, T.n12, Nat.le_trans (by rw [List.length_take]; omega) T.many, fun i r h => ?_⟩
  rw [List.getElem?_take] at h
  split at h
  · rename_i hi
    have := T.rows i r h
    rw [List.take_take, Nat.min_eq_left (by omega)]
    exact this
  · cases h
theorem TabOk.snoc {z : Str} {rs : Rws} {r : Str × Str} (T : TabOk z rs) (h : RowOk z rs r) (hl : rs.length < 24) : TabOk z (rs ++ [r]) := by
  refine ⟨T.sg, T.n1, T.n12, by rw [List.length_append]; simp; omega, fun i q hq => ?_⟩
  by_cases hi : i < rs.length
  · rw [List.getElem?_append_left hi] at hq
    rw [List.take_append_of_le_length (by omega)]
    exact T.rows i q hq
  · rw [List.getElem?_append_right (by omega)] at hq
    have e : i = rs.length := by
      by_cases e : i - rs.length = 0
      · omega
      · rw [List.getElem?_eq_none (by simp; omega)] at hq
        cases hq
    subst e
    rw [Nat.sub_self] at hq
    have e2 : r = q := Option.some.inj hq
    subst e2
    rw [List.take_left']
    · exact h
    · rfl
theorem pcs_len (z : Str) (rs : Rws) : (pcs z rs).length = z.length + rs.length := by
  unfold pcs
  rw [List.length_append, sgs_len, List.length_map]
theorem pcs_snoc (z : Str) (rs : Rws) (r : Str × Str) : pcs z (rs ++ [r]) = pcs z rs ++ [jn r] := by
  unfold pcs
  rw [List.map_append, ← List.append_assoc]
  rfl
theorem sgs_nodup {z : Str} (h : z.cps.toList.Nodup) : (sgs z).Nodup := by
  unfold sgs
  exact List.Pairwise.map _ (fun a b hab e => hab (sgn_inj e)) h
theorem TabOk.nodup {z : Str} {rs : Rws} (T : TabOk z rs) : (pcs z rs).Nodup := by
  have key : ∀ n, n ≤ rs.length → (pcs z (rs.take n)).Nodup := fun n => by
    induction n with
    | zero =>
      intro _
      show (sgs z ++ []).Nodup
      rw [List.append_nil]
      exact sgs_nodup T.sg.nd
    | succ n ih =>
      intro hn
      have hx : rs[n]? = some rs[n] := List.getElem?_eq_getElem (by omega)
      rw [List.take_add_one, hx]
      show (pcs z (rs.take n ++ [rs[n]])).Nodup
      rw [pcs_snoc, List.nodup_append]
      refine ⟨ih (by omega), by simp, fun x hx2 y hy => ?_⟩
      rw [List.mem_singleton] at hy
      rw [hy]
      exact fun e => (T.rows n _ hx).new (e ▸ hx2)
  have := key rs.length (Nat.le_refl _)
  rw [List.take_length] at this
  exact this
theorem TabOk.plen {z : Str} {rs : Rws} (T : TabOk z rs) {p : Str} (h : p ∈ pcs z rs) : 1 ≤ p.length ∧ p.length ≤ 16 := by
  have key : ∀ n, n ≤ rs.length → ∀ p ∈ pcs z (rs.take n), 1 ≤ p.length ∧ p.length ≤ 16 := fun n => by
    induction n with
    | zero =>
      intro _ p hp
      have hp2 : p ∈ sgs z ++ [] := hp
      rw [List.append_nil] at hp2
      obtain ⟨c, _, rfl⟩ := List.mem_map.mp hp2
      exact ⟨Nat.le_refl _, by rw [sgn_len]; omega⟩
    | succ n ih =>
      intro hn p hp
      have hx : rs[n]? = some rs[n] := List.getElem?_eq_getElem (by omega)
      rw [List.take_add_one, hx] at hp
      have hp2 : p ∈ pcs z (rs.take n ++ [rs[n]]) := hp
      rw [pcs_snoc] at hp2
      rcases List.mem_append.mp hp2 with hp3 | hp3
      · exact ih (by omega) p hp3
      · rw [List.mem_singleton] at hp3
        rw [hp3]
        have o := T.rows n _ hx
        have := (ih (by omega) _ o.lm).1
        refine ⟨?_, o.len⟩
        show 1 ≤ (rs[n].1 ++ rs[n].2).length
        rw [app_len]
        omega
  have := key rs.length (Nat.le_refl _) p
  rw [List.take_length] at this
  exact this h
/-! ### a list of rows in the heap -/
def TupAt (H : Hp) (a : Addr) (r : Str × Str) : Prop := H a = some (.tup [.str r.1, .str r.2])
def RowsAt (H : Hp) (l : Addr) (rs : Rws) : Prop := ∃ as : List Addr, H l = some (.lst (as.map V.ref)) ∧ Paired (TupAt H) as rs
theorem TupAt.same {H H' : Hp} (s : Same H H') {as : List Addr} {rs : Rws} (h : Paired (TupAt H) as rs) : Paired (TupAt H') as rs := L2.Paired.mapP h fun _ _ q => s _ _ q
theorem RowsAt.same {H H' : Hp} {l : Addr} {rs : Rws} (h : RowsAt H l rs) (s : Same H H') : RowsAt H' l rs := by
  obtain ⟨as, e, p⟩ := h
  exact ⟨as, s _ _ e, TupAt.same s p⟩
theorem inV_str (x : Str) (ps : List Str) : inV (.str x) (ps.map V.str) = decide (x ∈ ps) := by
  unfold inV
  rw [List.any_map]
  have e : ((fun y => eqV y (V.str x)) ∘ V.str) = fun y : Str => y == x := by
    funext y
    show eqV (V.str y) (V.str x) = (y == x)
    rfl
  rw [e]
  by_cases h : x ∈ ps
  · rw [decide_eq_true h]
    exact List.any_eq_true.mpr ⟨x, h, by simp⟩
  · rw [decide_eq_false h]
    rw [List.any_eq_false]
    intro y hy
    simp only [beq_iff_eq]
    exact fun e => h (e ▸ hy)
theorem flat_str (ps : List Str) : (ps.map V.str).all flatV = true := by
  rw [List.all_map]
  exact List.all_eq_true.mpr fun _ _ => rfl
end Jr
namespace Jr
open PySem PySem.Spec PyProof.Rows L2
/-! ### what a table holds -/
def numD : Nat → List Str → List (Key × V)
  | _, [] => []
  | i, p :: ps => (Sum.inr p, V.int (i : Nat)) :: numD (i + 1) ps
def rankD : Nat → Rws → List (List Key × V)
  | _, [] => []
  | i, r :: rs => ([Sum.inr r.1, Sum.inr r.2], V.int (i : Nat)) :: rankD (i + 1) rs
theorem numD_len : ∀ (i : Nat) (ps : List Str), (numD i ps).length = ps.length
  | _, [] => rfl
  | i, p :: ps => by show (numD (i + 1) ps).length + 1 = _; rw [numD_len (i + 1) ps]; rfl
theorem rankD_len : ∀ (i : Nat) (rs : Rws), (rankD i rs).length = rs.length
  | _, [] => rfl
  | i, r :: rs => by show (rankD (i + 1) rs).length + 1 = _; rw [rankD_len (i + 1) rs]; rfl
theorem numD_snoc : ∀ (i : Nat) (ps : List Str) (p : Str), numD i (ps ++ [p]) = numD i ps ++ [(Sum.inr p, V.int ((i + ps.length : Nat)))]
  | i, [], p => rfl
  | i, q :: ps, p => by
    show _ :: numD (i + 1) (ps ++ [p]) = _ :: (numD (i + 1) ps ++ _)
    rw [numD_snoc (i + 1) ps p, List.length_cons, show i + 1 + ps.length = i + (ps.length + 1) by omega]
theorem rankD_snoc : ∀ (i : Nat) (rs : Rws) (r : Str × Str), rankD i (rs ++ [r]) = rankD i rs ++ [([Sum.inr r.1, Sum.inr r.2], V.int ((i + rs.length : Nat)))]
  | i, [], r => rfl
  | i, q :: rs, r => by
    show _ :: rankD (i + 1) (rs ++ [r]) = _ :: (rankD (i + 1) rs ++ _)
    rw [rankD_snoc (i + 1) rs r, List.length_cons, show i + 1 + rs.length = i + (rs.length + 1) by omega]
theorem numD_none : ∀ (i : Nat) (ps : List Str) (p : Str), ¬ p ∈ ps → valV (numD i ps) (Sum.inr p) = none
  | _, [], _, _ => rfl
  | i, q :: ps, p, h => by
    have hq : ¬ (Sum.inr q : Key) = Sum.inr p := fun e => h (by rw [Sum.inr.inj e]; exact List.mem_cons_self)
    exact (valV_neg (p := (Sum.inr q, V.int (i : Nat))) hq).trans (numD_none (i + 1) ps p fun z => h (List.mem_cons_of_mem _ z))
theorem numD_at : ∀ (i : Nat) (ps : List Str) (p : Str) (j : Nat), ps.Nodup → ps[j]? = some p → valV (numD i ps) (Sum.inr p) = some (V.int ((i + j : Nat)))
  | _, [], _, _, _, h => by simp at h
  | i, q :: ps, p, 0, _, h => by
    have e : q = p := Option.some.inj h
    rw [e]
    exact valV_pos (p := ((Sum.inr p : Key), V.int (i : Nat))) rfl
  | i, q :: ps, p, j + 1, nd, h => by
    have nd' := List.nodup_cons.mp nd
    have hm : p ∈ ps := List.mem_of_getElem? (show ps[j]? = some p from h)
    have hq : ¬ (Sum.inr q : Key) = Sum.inr p := fun e => nd'.1 (by rw [Sum.inr.inj e]; exact hm)
    refine (valV_neg (p := (Sum.inr q, V.int (i : Nat))) hq).trans ?_
    rw [numD_at (i + 1) ps p j nd'.2 h, show i + 1 + j = i + (j + 1) by omega]
theorem rankD_none : ∀ (i : Nat) (rs : Rws) (l r : Str), ¬ (l, r) ∈ rs → valV (rankD i rs) [Sum.inr l, Sum.inr r] = none
  | _, [], _, _, _ => rfl
  | i, q :: rs, l, r, h => by
    have hq : ¬ ([Sum.inr q.1, Sum.inr q.2] : List Key) = [Sum.inr l, Sum.inr r] := fun e => h (by
      have e1 := (List.cons.inj e).1
      have e2 := (List.cons.inj (List.cons.inj e).2).1
      have e3 : q = (l, r) := Prod.ext (Sum.inr.inj e1) (Sum.inr.inj e2)
      rw [e3]; exact List.mem_cons_self)
    exact (valV_neg (p := (([Sum.inr q.1, Sum.inr q.2] : List Key), V.int (i : Nat))) hq).trans (rankD_none (i + 1) rs l r fun z => h (List.mem_cons_of_mem _ z))
theorem rankD_at : ∀ (i : Nat) (rs : Rws) (r : Str × Str) (j : Nat), rs.Nodup → rs[j]? = some r → valV (rankD i rs) [Sum.inr r.1, Sum.inr r.2] = some (V.int ((i + j : Nat)))
  | _, [], _, _, _, h => by simp at h
  | i, q :: rs, r, 0, _, h => by
    have e : q = r := Option.some.inj h
    rw [e]
    exact valV_pos (p := (([Sum.inr r.1, Sum.inr r.2] : List Key), V.int (i : Nat))) rfl
  | i, q :: rs, r, j + 1, nd, h => by
    have nd' := List.nodup_cons.mp nd
    have hm : r ∈ rs := List.mem_of_getElem? (show rs[j]? = some r from h)
    have hq : ¬ ([Sum.inr q.1, Sum.inr q.2] : List Key) = [Sum.inr r.1, Sum.inr r.2] := fun e => nd'.1 (by
      have e1 := (List.cons.inj e).1
      have e2 := (List.cons.inj (List.cons.inj e).2).1
      have e3 : q = r := Prod.ext (Sum.inr.inj e1) (Sum.inr.inj e2)
      rw [e3]; exact hm)
    refine (valV_neg (p := (([Sum.inr q.1, Sum.inr q.2] : List Key), V.int (i : Nat))) hq).trans ?_
    rw [rankD_at (i + 1) rs r j nd'.2 h, show i + 1 + j = i + (j + 1) by omega]
theorem TabOk.rnodup {z : Str} {rs : Rws} (T : TabOk z rs) : rs.Nodup := by
  have h := (List.nodup_append.mp T.nodup).2.1
  have key : ∀ l : Rws, (l.map jn).Nodup → l.Nodup := fun l => by
    induction l with
    | nil => intro _; exact List.nodup_nil
    | cons x l ih =>
      intro hn
      have h2 := List.nodup_cons.mp hn
      exact List.nodup_cons.mpr ⟨fun hx => h2.1 (List.mem_map.mpr ⟨x, hx, rfl⟩), ih h2.2⟩
  exact key rs h
def tf5 (z : Str) (lr lp dn dr : Addr) : List (Str × V) := [("sign_text", .str z), ("row_list", .ref lr), ("piece_list", .ref lp), ("number_by_piece", .ref dn), ("rank_by_row", .ref dr)]
def tf6 (z : Str) (lr lp dn dr : Addr) (m : Int) : List (Str × V) := [("sign_text", .str z), ("row_list", .ref lr), ("piece_list", .ref lp), ("number_by_piece", .ref dn), ("rank_by_row", .ref dr), ("most_signs", .int m)]
/-- a made table -/
structure TabAt (C : Addr) (H : Hp) (x : Addr) (z : Str) (rs : Rws) : Prop where
  ex : ∃ (dx lr lp dn dr : Addr) (m : Nat), H x = some (.ins C dx (tf6 z lr lp dn dr (m : Int))) ∧ RowsAt H lr rs ∧ H lp = some (.lst ((pcs z rs).map V.str)) ∧ H dn = some (.dK (numD 0 (pcs z rs))) ∧ H dr = some (.dT (rankD 0 rs)) ∧
    (∃ p ∈ pcs z rs, p.length = m) ∧ ∀ p ∈ pcs z rs, p.length ≤ m
  ok : TabOk z rs
theorem TabAt.same {C : Addr} {H H' : Hp} {x : Addr} {z : Str} {rs : Rws} (T : TabAt C H x z rs) (s : Same H H') : TabAt C H' x z rs := by
  obtain ⟨dx, lr, lp, dn, dr, m, h1, h2, h3, h4, h5, h6⟩ := T.ex
  exact ⟨⟨dx, lr, lp, dn, dr, m, s _ _ h1, h2.same s, s _ _ h3, s _ _ h4, s _ _ h5, h6⟩, T.ok⟩
section
variable (z : Str) (lr lp dn dr : Addr) (m : Int)
theorem l5_num : (tf5 z lr lp dn dr).lookup ("number_by_piece" : Str) = some (V.ref dn) := by kernel_rfl
theorem l5_pl : (tf5 z lr lp dn dr).lookup ("piece_list" : Str) = some (V.ref lp) := by kernel_rfl
theorem l5_rl : (tf5 z lr lp dn dr).lookup ("row_list" : Str) = some (V.ref lr) := by kernel_rfl
theorem l5_rk : (tf5 z lr lp dn dr).lookup ("rank_by_row" : Str) = some (V.ref dr) := by kernel_rfl
theorem l5_which : (tf5 z lr lp dn dr).lookup ("which" : Str) = none := by kernel_rfl
theorem l5_tp : (tf5 z lr lp dn dr).lookup ("take_piece" : Str) = none := by kernel_rfl
theorem l5_tr : (tf5 z lr lp dn dr).lookup ("take_row" : Str) = none := by kernel_rfl
theorem l5_mt : (tf5 z lr lp dn dr).lookup ("may_take_row" : Str) = none := by kernel_rfl
theorem l5_most : putF "most_signs" (.int m) (tf5 z lr lp dn dr) = tf6 z lr lp dn dr m := by kernel_rfl
theorem l5_put : putF "rank_by_row" (.ref dr) (putF "number_by_piece" (.ref dn) (putF "piece_list" (.ref lp) (putF "row_list" (.ref lr) (putF "sign_text" (.str z) [])))) = tf5 z lr lp dn dr := by kernel_rfl
theorem l6_st : (tf6 z lr lp dn dr m).lookup ("sign_text" : Str) = some (V.str z) := by kernel_rfl
theorem l6_num : (tf6 z lr lp dn dr m).lookup ("number_by_piece" : Str) = some (V.ref dn) := by kernel_rfl
theorem l6_pl : (tf6 z lr lp dn dr m).lookup ("piece_list" : Str) = some (V.ref lp) := by kernel_rfl
theorem l6_rl : (tf6 z lr lp dn dr m).lookup ("row_list" : Str) = some (V.ref lr) := by kernel_rfl
theorem l6_rk : (tf6 z lr lp dn dr m).lookup ("rank_by_row" : Str) = some (V.ref dr) := by kernel_rfl
theorem l6_ms : (tf6 z lr lp dn dr m).lookup ("most_signs" : Str) = some (V.int m) := by kernel_rfl
theorem l6_mw : (tf6 z lr lp dn dr m).lookup ("which" : Str) = none := by kernel_rfl
theorem l6_ms_ : (tf6 z lr lp dn dr m).lookup ("signs" : Str) = none := by kernel_rfl
theorem l6_mr : (tf6 z lr lp dn dr m).lookup ("rows" : Str) = none := by kernel_rfl
theorem l6_mp : (tf6 z lr lp dn dr m).lookup ("pieces" : Str) = none := by kernel_rfl
theorem l6_mp1 : (tf6 z lr lp dn dr m).lookup ("piece" : Str) = none := by kernel_rfl
theorem l6_mpa : (tf6 z lr lp dn dr m).lookup ("parts" : Str) = none := by kernel_rfl
theorem l6_mrk : (tf6 z lr lp dn dr m).lookup ("rank" : Str) = none := by kernel_rfl
theorem l6_ml : (tf6 z lr lp dn dr m).lookup ("longest" : Str) = none := by kernel_rfl
end
/-- no text -/
def NoStr (K : PySem.W.Frag) (H : Hp) (v : V) : Prop := ∃ t, TyX K H v t ∧ PySem.W.kitOne K t (.type "str") = some false
theorem isStr {K : PySem.W.Frag} : PySem.W.kitOne K (.type "str") (.type "str") = some true := kit_ty (by decide +kernel)
theorem isLst {K : PySem.W.Frag} : PySem.W.kitOne K (.type "list") (.type "list") = some true := kit_ty (by decide +kernel)
theorem isTup {K : PySem.W.Frag} : PySem.W.kitOne K (.type "tuple") (.type "tuple") = some true := kit_ty (by decide +kernel)
end Jr
namespace Jr
open PySem PySem.Spec PyProof.Rows L2
/-! ### == of lists of texts, of ints, of rows -/
def dS (xs : List Str) : PyData := .list (xs.map PyData.str)
def dI (xs : List Int) : PyData := .list (xs.map PyData.int)
def dR (rs : Rws) : PyData := .list (rs.map fun r => PyData.tuple [.str r.1, .str r.2])
/-- a text of plain signs -/
def Asc (x : Str) : Prop := ∀ c ∈ x.cps.toList, c ≤ 126
theorem asc_ok {x : Str} (h : Asc x) : PyData.strOk x = true := by
  unfold PyData.strOk
  rw [← Array.all_toList, List.all_eq_true]
  intro c hc
  have := h c hc
  simp
  omega
theorem asc_app {a b : Str} (ha : Asc a) (hb : Asc b) : Asc (a ++ b) := fun c hc => by
  rw [app_cps] at hc
  rcases List.mem_append.mp hc with h | h
  · exact ha c h
  · exact hb c h
theorem asc_sgn {c : Nat} (h : c ≤ 126) : Asc (sgn c) := fun d hd => by
  have e : d = c := by simpa [sgn] using hd
  omega
theorem TabOk.asc {z : Str} {rs : Rws} (T : TabOk z rs) {p : Str} (h : p ∈ pcs z rs) : Asc p := by
  have key : ∀ n, n ≤ rs.length → ∀ p ∈ pcs z (rs.take n), Asc p := fun n => by
    induction n with
    | zero =>
      intro _ p hp
      have hp2 : p ∈ sgs z ++ [] := hp
      rw [List.append_nil] at hp2
      obtain ⟨c, hc, rfl⟩ := List.mem_map.mp hp2
      exact asc_sgn (T.sg.ok c hc).2.1
    | succ n ih =>
      intro hn p hp
      have hx : rs[n]? = some rs[n] := List.getElem?_eq_getElem (by omega)
      rw [List.take_add_one, hx] at hp
      have hp2 : p ∈ pcs z (rs.take n ++ [rs[n]]) := hp
      rw [pcs_snoc] at hp2
      rcases List.mem_append.mp hp2 with hp3 | hp3
      · exact ih (by omega) p hp3
      · rw [List.mem_singleton] at hp3
        rw [hp3]
        have o := T.rows n _ hx
        exact asc_app (ih (by omega) _ o.lm) (ih (by omega) _ o.rm)
  have := key rs.length (Nat.le_refl _) p
  rw [List.take_length] at this
  exact this h
theorem lay_strs : ∀ xs : List Str, (∀ x ∈ xs, Asc x) → PyData.canLayAll0 (xs.map PyData.str) = true
  | [], _ => by simp [PyData.canLayAll0]
  | x :: xs, h => by
    have h1 := asc_ok (h x List.mem_cons_self)
    have h2 := lay_strs xs fun y hy => h y (List.mem_cons_of_mem _ hy)
    simp [PyData.canLayAll0, PyData.canLay0, h1, h2]
theorem dep_strs : ∀ xs : List Str, PyData.depthAll (xs.map PyData.str) = 0
  | [] => by simp [PyData.depthAll]
  | x :: xs => by simp [PyData.depthAll, PyData.depth, dep_strs xs]
theorem shS {xs : List Str} (h : ∀ x ∈ xs, Asc x) : SeqAt.shaped (dS xs) = true := by
  unfold SeqAt.shaped dS
  have h1 : PyData.canLay0 (.list (xs.map PyData.str)) = true := by simp [PyData.canLay0, lay_strs xs h]
  have h2 : PyData.depth (.list (xs.map PyData.str)) = 1 := by simp [PyData.depth, dep_strs]
  rw [h1, h2]; rfl
theorem eqvA_strs : ∀ xs ys : List Str, PyData.eqvAll (xs.map PyData.str) (ys.map PyData.str) = decide (xs = ys)
  | [], [] => by simp [PyData.eqvAll]
  | [], y :: ys => by simp [PyData.eqvAll]
  | x :: xs, [] => by simp [PyData.eqvAll]
  | x :: xs, y :: ys => by
    have ih := eqvA_strs xs ys
    simp only [List.map_cons, PyData.eqvAll, PyData.eqv, ih]
    by_cases h : x = y
    · subst h; simp
    · simp [h]
theorem eqS (xs ys : List Str) : PyData.eqv (dS xs) (dS ys) = decide (xs = ys) := by
  unfold dS
  rw [PyData.eqv]
  exact eqvA_strs xs ys
theorem dpA_strs {K : PySem.W.Frag} {H : Hp} : ∀ xs : List Str, DpAll K H (xs.map V.str) (xs.map PyData.str)
  | [] => .nil
  | x :: xs => .cons (.str x) (dpA_strs xs)
theorem dpS {K : PySem.W.Frag} {H : Hp} {a : Addr} {xs : List Str} (h : SqL K H a (xs.map V.str)) : Dp K H (.ref a) (dS xs) := .lst h (dpA_strs xs)
theorem lay_ints : ∀ xs : List Int, PyData.canLayAll0 (xs.map PyData.int) = true
  | [] => by simp [PyData.canLayAll0]
  | x :: xs => by simp [PyData.canLayAll0, PyData.canLay0, lay_ints xs]
theorem dep_ints : ∀ xs : List Int, PyData.depthAll (xs.map PyData.int) = 0
  | [] => by simp [PyData.depthAll]
  | x :: xs => by simp [PyData.depthAll, PyData.depth, dep_ints xs]
theorem shI (xs : List Int) : SeqAt.shaped (dI xs) = true := by
  unfold SeqAt.shaped dI
  have h1 : PyData.canLay0 (.list (xs.map PyData.int)) = true := by simp [PyData.canLay0, lay_ints xs]
  have h2 : PyData.depth (.list (xs.map PyData.int)) = 1 := by simp [PyData.depth, dep_ints]
  rw [h1, h2]; rfl
theorem eqvA_ints : ∀ xs ys : List Int, PyData.eqvAll (xs.map PyData.int) (ys.map PyData.int) = decide (xs = ys)
  | [], [] => by simp [PyData.eqvAll]
  | [], y :: ys => by simp [PyData.eqvAll]
  | x :: xs, [] => by simp [PyData.eqvAll]
  | x :: xs, y :: ys => by
    have ih := eqvA_ints xs ys
    simp only [List.map_cons, PyData.eqvAll, PyData.eqv, ih]
    by_cases h : x = y
    · subst h; simp
    · simp [h]
theorem eqI (xs ys : List Int) : PyData.eqv (dI xs) (dI ys) = decide (xs = ys) := by
  unfold dI
  rw [PyData.eqv]
  exact eqvA_ints xs ys
theorem dpA_ints {K : PySem.W.Frag} {H : Hp} : ∀ xs : List Int, DpAll K H (xs.map V.int) (xs.map PyData.int)
  | [] => .nil
  | x :: xs => .cons (.int x) (dpA_ints xs)
theorem dpI {K : PySem.W.Frag} {H : Hp} {a : Addr} {xs : List Int} (h : SqL K H a (xs.map V.int)) : Dp K H (.ref a) (dI xs) := .lst h (dpA_ints xs)
theorem lay_rows : ∀ rs : Rws, (∀ r ∈ rs, Asc r.1 ∧ Asc r.2) → PyData.canLayAll0 (rs.map fun r => PyData.tuple [.str r.1, .str r.2]) = true
  | [], _ => by simp [PyData.canLayAll0]
  | r :: rs, h => by
    obtain ⟨h1, h2⟩ := h r List.mem_cons_self
    have h3 := lay_rows rs fun y hy => h y (List.mem_cons_of_mem _ hy)
    simp [PyData.canLayAll0, PyData.canLay0, asc_ok h1, asc_ok h2, h3]
theorem dep_rows : ∀ rs : Rws, PyData.depthAll (rs.map fun r => PyData.tuple [.str r.1, .str r.2]) ≤ 1
  | [] => by simp [PyData.depthAll]
  | r :: rs => by
    have := dep_rows rs
    simp only [List.map_cons, PyData.depthAll, PyData.depth]
    omega
theorem shR {rs : Rws} (h : ∀ r ∈ rs, Asc r.1 ∧ Asc r.2) : SeqAt.shaped (dR rs) = true := by
  unfold SeqAt.shaped dR
  have h1 : PyData.canLay0 (.list (rs.map fun r => PyData.tuple [.str r.1, .str r.2])) = true := by simp [PyData.canLay0, lay_rows rs h]
  have h2 : PyData.depth (.list (rs.map fun r => PyData.tuple [.str r.1, .str r.2])) ≤ 2 := by
    have := dep_rows rs
    simp only [PyData.depth]
    omega
  rw [h1, decide_eq_true (Nat.le_trans h2 (by decide))]; rfl
theorem eqvA_rows : ∀ xs ys : Rws, PyData.eqvAll (xs.map fun r => PyData.tuple [.str r.1, .str r.2]) (ys.map fun r => PyData.tuple [.str r.1, .str r.2]) = decide (xs = ys)
  | [], [] => by simp [PyData.eqvAll]
  | [], y :: ys => by simp [PyData.eqvAll]
  | x :: xs, [] => by simp [PyData.eqvAll]
  | x :: xs, y :: ys => by
    have ih := eqvA_rows xs ys
    simp only [List.map_cons, PyData.eqvAll, PyData.eqv, ih]
    obtain ⟨a, b⟩ := x
    obtain ⟨c, d⟩ := y
    by_cases h : a = c
    · subst h
      by_cases h2 : b = d
      · subst h2; simp
      · simp [h2]
    · simp [h]
theorem eqR (xs ys : Rws) : PyData.eqv (dR xs) (dR ys) = decide (xs = ys) := by
  unfold dR
  rw [PyData.eqv]
  exact eqvA_rows xs ys
theorem dpA_rows {K : PySem.W.Frag} {H : Hp} : ∀ {as : List Addr} {rs : Rws}, Paired (TupAt H) as rs → DpAll K H (as.map V.ref) (rs.map fun r => PyData.tuple [.str r.1, .str r.2])
  | _, _, .nil => .nil
  | _, _, .cons h q => .cons (.tup (SqT.of h) (.cons (.str _) (.cons (.str _) .nil))) (dpA_rows q)
theorem dpR {K : PySem.W.Frag} {H : Hp} {a : Addr} {rs : Rws} (h : RowsAt H a rs) : Dp K H (.ref a) (dR rs) := by
  obtain ⟨as, e, p⟩ := h
  exact .lst (SqL.of e) (dpA_rows p)
/-! ### the pass of a rank -/
def pass1 (l r : Str) : List Str → List Str
  | a :: b :: t => if a = l ∧ b = r then (l ++ r) :: pass1 l r t else a :: pass1 l r (b :: t)
  | t => t
/-- the places of the borders that fall; n signs stand ahead -/
def plc (l r : Str) : Nat → List Str → List Nat
  | n, a :: b :: t => if a = l ∧ b = r then (n + a.length) :: plc l r (n + a.length + b.length) t else plc l r (n + a.length) (b :: t)
  | _, _ => []
def passAll (rs : Rws) (xs : List Str) : List Str := rs.foldl (fun ys r => pass1 r.1 r.2 ys) xs
def sweep (rs : Rws) (t : Str) : List Str := passAll rs (sgs t)
theorem pass1_one (l r a : Str) : pass1 l r [a] = [a] := by unfold pass1; rfl
theorem pass1_nil (l r : Str) : pass1 l r [] = [] := by unfold pass1; rfl
theorem pass1_yes (l r : Str) (t : List Str) : pass1 l r (l :: r :: t) = (l ++ r) :: pass1 l r t := by
  rw [pass1]; exact if_pos ⟨rfl, rfl⟩
theorem pass1_no {l r a b : Str} (t : List Str) (h : ¬ (a = l ∧ b = r)) : pass1 l r (a :: b :: t) = a :: pass1 l r (b :: t) := by
  rw [pass1]; exact if_neg h
theorem pass1_mem (l r : Str) : ∀ (xs : List Str) (p : Str), p ∈ pass1 l r xs → p ∈ xs ∨ p = l ++ r
  | [], p, h => by rw [pass1_nil] at h; cases h
  | [a], p, h => by rw [pass1_one] at h; exact .inl h
  | a :: b :: t, p, h => by
    by_cases c : a = l ∧ b = r
    · obtain ⟨rfl, rfl⟩ := c
      rw [pass1_yes] at h
      rcases List.mem_cons.mp h with e | e
      · exact .inr e
      · rcases pass1_mem a b t p e with q | q
        · exact .inl (List.mem_cons_of_mem _ (List.mem_cons_of_mem _ q))
        · exact .inr q
    · rw [pass1_no t c] at h
      rcases List.mem_cons.mp h with e | e
      · exact .inl (e ▸ List.mem_cons_self)
      · rcases pass1_mem l r (b :: t) p e with q | q
        · exact .inl (List.mem_cons_of_mem _ q)
        · exact .inr q
termination_by xs => xs.length
theorem pass1_len (l r : Str) : ∀ xs : List Str, (pass1 l r xs).length ≤ xs.length
  | [] => by rw [pass1_nil]; exact Nat.le_refl _
  | [a] => by rw [pass1_one]; exact Nat.le_refl _
  | a :: b :: t => by
    by_cases c : a = l ∧ b = r
    · obtain ⟨rfl, rfl⟩ := c
      rw [pass1_yes]
      have := pass1_len a b t
      simp only [List.length_cons]
      omega
    · rw [pass1_no t c]
      have := pass1_len l r (b :: t)
      simp only [List.length_cons] at this ⊢
      omega
termination_by xs => xs.length
theorem plc_len (l r : Str) : ∀ (n : Nat) (xs : List Str), (plc l r n xs).length ≤ xs.length
  | n, [] => by unfold plc; exact Nat.zero_le _
  | n, [a] => by unfold plc; exact Nat.zero_le _
  | n, a :: b :: t => by
    rw [plc]
    by_cases c : a = l ∧ b = r
    · rw [if_pos c]
      have := plc_len l r (n + a.length + b.length) t
      simp only [List.length_cons]
      omega
    · rw [if_neg c]
      have := plc_len l r (n + a.length) (b :: t)
      simp only [List.length_cons] at this ⊢
      omega
termination_by _ xs => xs.length
end Jr
namespace Jr
open PySem PySem.Spec PyProof.Rows L2
/-! ### texts joined; passes keep the text -/
def flat (xs : List Str) : List Nat := xs.flatMap fun x => x.cps.toList
theorem joinL_nil : ∀ xs : List (List Nat), TL.joinL [] xs = xs.flatten
  | [] => rfl
  | [a] => by show a = _; simp
  | a :: b :: r => by
    show a ++ ([] ++ TL.joinL [] (b :: r)) = _
    rw [joinL_nil (b :: r)]
    simp
theorem join_cps (xs : List Str) : (Txt.join (Str.ofString "") xs).cps.toList = flat xs := by
  have e := TL.tl_join (Str.ofString "") xs
  rw [TL.join_eq]
  have e2 : TL.tl (Str.ofString "") = [] := by decide +kernel
  rw [e2, joinL_nil] at e
  refine Eq.trans e ?_
  unfold flat
  rw [List.flatMap_def]
theorem flat_sgs (t : Str) : flat (sgs t) = t.cps.toList := by
  unfold flat sgs
  rw [List.flatMap_map]
  have : ∀ l : List Nat, l.flatMap (fun c => (sgn c).cps.toList) = l := fun l => by
    induction l with
    | nil => rfl
    | cons c l ih => rw [List.flatMap_cons, ih]; rfl
  exact this _
theorem flat_cons (x : Str) (xs : List Str) : flat (x :: xs) = x.cps.toList ++ flat xs := List.flatMap_cons
theorem flat_app (xs ys : List Str) : flat (xs ++ ys) = flat xs ++ flat ys := List.flatMap_append
theorem pass1_flat (l r : Str) : ∀ xs : List Str, flat (pass1 l r xs) = flat xs
  | [] => by rw [pass1_nil]
  | [a] => by rw [pass1_one]
  | a :: b :: t => by
    by_cases c : a = l ∧ b = r
    · obtain ⟨rfl, rfl⟩ := c
      rw [pass1_yes, flat_cons, flat_cons, flat_cons, pass1_flat a b t, app_cps, List.append_assoc]
    · rw [pass1_no t c, flat_cons, flat_cons, pass1_flat l r (b :: t)]
termination_by xs => xs.length
theorem passAll_flat : ∀ (rs : Rws) (xs : List Str), flat (passAll rs xs) = flat xs
  | [], _ => rfl
  | r :: rs, xs => by
    show flat (passAll rs (pass1 r.1 r.2 xs)) = _
    rw [passAll_flat rs, pass1_flat]
theorem sweep_flat (rs : Rws) (t : Str) : flat (sweep rs t) = t.cps.toList := by
  unfold sweep
  rw [passAll_flat, flat_sgs]
theorem passAll_take {rs : Rws} {i : Nat} {r : Str × Str} (xs : List Str) (h : rs[i]? = some r) : passAll (rs.take (i + 1)) xs = pass1 r.1 r.2 (passAll (rs.take i) xs) := by
  unfold passAll
  rw [List.take_add_one, h]
  simp [List.foldl_append]
theorem passAll_len : ∀ (rs : Rws) (xs : List Str), (passAll rs xs).length ≤ xs.length
  | [], _ => Nat.le_refl _
  | r :: rs, xs => Nat.le_trans (passAll_len rs (pass1 r.1 r.2 xs)) (pass1_len ..)
theorem passAll_mem : ∀ (rs : Rws) (xs : List Str) (p : Str), p ∈ passAll rs xs → p ∈ xs ∨ ∃ r ∈ rs, p = jn r
  | [], _, _, h => .inl h
  | r :: rs, xs, p, h => by
    rcases passAll_mem rs (pass1 r.1 r.2 xs) p h with q | ⟨s, hs, e⟩
    · rcases pass1_mem r.1 r.2 xs p q with z | z
      · exact .inl z
      · exact .inr ⟨r, List.mem_cons_self, z⟩
    · exact .inr ⟨s, List.mem_cons_of_mem _ hs, e⟩
/-! ### the law's own pass: from the left, the last piece looked at -/
def stp (l r : Str) (f : List Str) (p : Str) : List Str := if p = r ∧ f.getLast? = some l then f.dropLast ++ [l ++ r] else f ++ [p]
theorem stp_cons {l r a : Str} {f : List Str} (p : Str) (h : f ≠ []) : stp l r (a :: f) p = a :: stp l r f p := by
  unfold stp
  have e : (a :: f).getLast? = f.getLast? := by
    cases f with
    | nil => exact absurd rfl h
    | cons b t => exact List.getLast?_cons_cons
  have e2 : (a :: f).dropLast = a :: f.dropLast := List.dropLast_cons_of_ne_nil h
  rw [e, e2]
  by_cases c : p = r ∧ f.getLast? = some l
  · rw [if_pos c, if_pos c]; rfl
  · rw [if_neg c, if_neg c]; rfl
theorem pass1_ne (l r : Str) : ∀ xs : List Str, xs ≠ [] → pass1 l r xs ≠ []
  | [], h => absurd rfl h
  | [a], _ => by rw [pass1_one]; simp
  | a :: b :: t, _ => by
    by_cases c : a = l ∧ b = r
    · obtain ⟨rfl, rfl⟩ := c
      rw [pass1_yes]; simp
    · rw [pass1_no t c]; simp
theorem app_ne {l r : Str} (h : 1 ≤ r.length) : ¬ l ++ r = l := fun e => by
  have := congrArg Str.length e
  rw [app_len] at this
  omega
theorem pass1_snoc {l r : Str} (hr : 1 ≤ r.length) : ∀ (xs : List Str) (p : Str), pass1 l r (xs ++ [p]) = stp l r (pass1 l r xs) p
  | [], p => by
    rw [pass1_nil, List.nil_append, pass1_one]
    unfold stp
    rw [if_neg (by simp)]
    rfl
  | [a], p => by
    rw [pass1_one]
    show pass1 l r [a, p] = _
    unfold stp
    by_cases c : a = l ∧ p = r
    · obtain ⟨rfl, rfl⟩ := c
      rw [pass1_yes, pass1_nil, if_pos ⟨rfl, rfl⟩]; rfl
    · rw [pass1_no [] c, pass1_one, if_neg (fun z => c ⟨Option.some.inj z.2, z.1⟩)]; rfl
  | a :: b :: t, p => by
    by_cases c : a = l ∧ b = r
    · obtain ⟨rfl, rfl⟩ := c
      show pass1 a b (a :: b :: (t ++ [p])) = _
      rw [pass1_yes, pass1_yes, pass1_snoc hr t p]
      by_cases e : t = []
      · subst e
        rw [pass1_nil]
        unfold stp
        rw [if_neg (by simp), if_neg (fun z => app_ne hr (Option.some.inj z.2))]; rfl
      · rw [stp_cons p (pass1_ne a b t e)]
    · show pass1 l r (a :: b :: (t ++ [p])) = _
      rw [pass1_no _ c, pass1_no _ c]
      have ih := pass1_snoc (l := l) hr (b :: t) p
      have ih2 : pass1 l r (b :: (t ++ [p])) = stp l r (pass1 l r (b :: t)) p := ih
      rw [ih2, stp_cons p (pass1_ne l r (b :: t) (by simp))]
termination_by xs => xs.length
theorem pass1_take {l r : Str} (hr : 1 ≤ r.length) {xs : List Str} {i : Nat} {p : Str} (h : xs[i]? = some p) : pass1 l r (xs.take (i + 1)) = stp l r (pass1 l r (xs.take i)) p := by
  rw [List.take_add_one, h]
  exact pass1_snoc hr _ _
end Jr
namespace Jr
open PySem PySem.Spec PyProof.Rows L2
/-- a text of the table's signs -/
def TextOf (z t : Str) : Prop := ∀ c ∈ t.cps.toList, c ∈ z.cps.toList
theorem sweep_in {z : Str} {rs : Rws} {t : Str} (tx : TextOf z t) {n : Nat} {p : Str} (h : p ∈ passAll (rs.take n) (sgs t)) : p ∈ pcs z rs := by
  rcases passAll_mem _ _ p h with q | ⟨r, hr, rfl⟩
  · obtain ⟨c, hc, rfl⟩ := List.mem_map.mp q
    exact List.mem_append_left _ (List.mem_map.mpr ⟨c, tx c hc, rfl⟩)
  · exact List.mem_append_right _ (List.mem_map.mpr ⟨r, List.mem_of_mem_take hr, rfl⟩)
theorem sweep_pc {z : Str} {rs : Rws} {t : Str} (tx : TextOf z t) {p : Str} (h : p ∈ sweep rs t) : p ∈ pcs z rs := by
  have h2 : p ∈ passAll (rs.take rs.length) (sgs t) := by rw [List.take_length]; exact h
  exact sweep_in tx h2
theorem at_last {α : Type} {xs : List α} {x : α} (h : xs.getLast? = some x) : atI xs (-1) = some x := by
  have hl : 0 < xs.length := by
    cases xs with
    | nil => cases h
    | cons a t => simp
  unfold atI ixN
  rw [if_neg (by omega), if_pos (by omega)]
  have e : ((-1 : Int) + (xs.length : Int)).toNat = xs.length - 1 := by omega
  rw [e]
  rw [List.getLast?_eq_getElem?] at h
  exact h
theorem ix_last {n : Nat} (h : 0 < n) : ixN n (-1) = some (n - 1) := by
  unfold ixN
  rw [if_neg (by omega), if_pos (by omega)]
  have e : ((-1 : Int) + (n : Int)).toNat = n - 1 := by omega
  rw [e]
theorem set_last {α : Type} (y : α) : ∀ xs : List α, xs ≠ [] → xs.set (xs.length - 1) y = xs.dropLast ++ [y]
  | [], h => absurd rfl h
  | [a], _ => rfl
  | a :: b :: t, _ => by
    have ih := set_last y (b :: t) (by simp)
    show a :: (b :: t).set ((b :: t).length - 1) y = a :: ((b :: t).dropLast ++ [y])
    rw [ih]
theorem rep_one {α : Type} (n : Nat) (x : α) : (List.replicate n [x]).flatten = List.replicate n x := by simp
theorem map_rep {α β : Type} (f : α → β) (n : Nat) (x : α) : (List.replicate n x).map f = List.replicate n (f x) := by simp
theorem text_app {z a b : Str} (ha : TextOf z a) (hb : TextOf z b) : TextOf z (a ++ b) := fun c hc => by
  rw [app_cps] at hc
  rcases List.mem_append.mp hc with h | h
  · exact ha c h
  · exact hb c h
theorem text_nil (z : Str) : TextOf z (Str.ofString "") := fun c hc => by
  have e : (Str.ofString "").cps.toList = [] := by decide +kernel
  rw [e] at hc; cases hc
theorem text_to {z t : Str} (h : TextOf z t) (n : Nat) : TextOf z (cutS t none (some (n : Int))) := fun c hc => by
  rw [cut_to] at hc; exact h c (List.mem_of_mem_take hc)
theorem text_from {z t : Str} (h : TextOf z t) (n : Nat) : TextOf z (cutS t (some (n : Int)) none) := fun c hc => by
  rw [cut_from] at hc; exact h c (List.mem_of_mem_drop hc)
theorem RowsAt.copy {H : Hp} {p q : Addr} {rs : Rws} {as : List Addr} (h : Paired (TupAt H) as rs) (hq : H q = none) : RowsAt (upd H q (.lst (as.map V.ref))) q rs := ⟨as, upd_same, TupAt.same (Same.new hq) h⟩
/-- texts that a sweeping tells are the text -/
theorem join_sweep (rs : Rws) (t : Str) : Txt.join (Str.ofString "") (sweep rs t) = t := str_ext (by rw [join_cps, sweep_flat])
theorem flat_len : ∀ xs : List Str, (xs.map (·.length)).sum = (flat xs).length
  | [] => rfl
  | x :: xs => by rw [List.map_cons, List.sum_cons, flat_cons, List.length_append, flat_len xs, len_cps]
theorem zip_fst {α β γ : Type} {F : α → β → Prop} (f : α → γ) : ∀ {l : List α} {m : List β}, Paired F l m → (l.zip m).map (fun x => f x.1) = l.map f
  | _, _, .nil => rfl
  | _, _, .cons _ q => by rw [List.zip_cons_cons, List.map_cons, List.map_cons, zip_fst f q]
theorem zip_snd {α β γ : Type} {F : α → β → Prop} (f : β → γ) : ∀ {l : List α} {m : List β}, Paired F l m → (l.zip m).map (fun x => f x.2) = m.map f
  | _, _, .nil => rfl
  | _, _, .cons _ q => by rw [List.zip_cons_cons, List.map_cons, List.map_cons, zip_snd f q]
theorem zip_mem {α β : Type} {F : α → β → Prop} : ∀ {l : List α} {m : List β}, Paired F l m → ∀ x ∈ l.zip m, F x.1 x.2 ∧ x.2 ∈ m
  | _, _, .nil, x, h => by cases h
  | _, _, .cons r q, x, h => by
    rw [List.zip_cons_cons] at h
    rcases List.mem_cons.mp h with e | e
    · rw [e]; exact ⟨r, List.mem_cons_self⟩
    · obtain ⟨a, b⟩ := zip_mem q x e
      exact ⟨a, List.mem_cons_of_mem _ b⟩
theorem TabOk.rlen {z : Str} {rs : Rws} (T : TabOk z rs) : ∀ r ∈ rs, r.1.length + r.2.length ≤ 1000 := fun r hr => by
  obtain ⟨i, hi, e⟩ := List.mem_iff_getElem.mp hr
  have o := T.rows i r (by rw [List.getElem?_eq_getElem hi, e])
  have := o.len
  have q : (jn r).length = r.1.length + r.2.length := app_len _ _
  omega
def spLaw (K : PySem.W.Frag) : Sp := fun vs H Q _ => ∃ (a : Addr) (ns : List Int), vs = [.ref a] ∧ SqL K H a (ns.map V.int) ∧ ns.length ≤ 63 ∧ ∀ H', Q (.bl true) H'
theorem mod_at {α : Type} (f : α → V) (xs : List α) (h : 0 < xs.length) (d : Int) : ∃ x ∈ xs, atI (xs.map f) (d % ((xs.map f).length : Nat)) = some (f x) := by
  have h0 := Int.emod_nonneg d (show (((xs.map f).length : Nat) : Int) ≠ 0 by rw [List.length_map]; omega)
  have h1 := Int.emod_lt_of_pos d (show (0 : Int) < ((xs.map f).length : Nat) by rw [List.length_map]; omega)
  obtain ⟨m, hm⟩ := Int.eq_ofNat_of_zero_le h0
  rw [hm]
  rw [hm, List.length_map] at h1
  have hm2 : m < xs.length := by omega
  exact ⟨xs[m], List.getElem_mem hm2, atm (List.getElem?_eq_getElem hm2)⟩
end Jr
namespace Jr
open PySem PySem.Spec PyProof.Rows L2
/-! ### the text -/
def top (i : Nat) : Stmt := PySem.Challenge.pw_joinranks_k45_whole_patches_lead.main.body.getD i (.Pass ⟨0, 0, 0, 0⟩)
abbrev s__wall : Stmt := (top 0)
abbrev N__wall : List Str := ["k"]
abbrev P__wall : List Str := ["k"]
theorem sc__wall : FnScope N__wall P__wall (defScope s__wall) := ⟨rfl, rfl, rfl, by decide +kernel, rfl, by decide +kernel, by decide +kernel⟩
abbrev s_JoinError___init__ : Stmt := (inClass (top 2) 0)
abbrev N_JoinError___init__ : List Str := ["self", "words"]
abbrev P_JoinError___init__ : List Str := ["self", "words"]
theorem sc_JoinError___init__ : FnScope N_JoinError___init__ P_JoinError___init__ (defScope s_JoinError___init__) := ⟨rfl, rfl, rfl, by decide +kernel, rfl, by decide +kernel, by decide +kernel⟩
abbrev s_NoTable___init__ : Stmt := (inClass (top 3) 0)
abbrev N_NoTable___init__ : List Str := ["self", "part", "number"]
abbrev P_NoTable___init__ : List Str := ["self", "part", "number"]
theorem sc_NoTable___init__ : FnScope N_NoTable___init__ P_NoTable___init__ (defScope s_NoTable___init__) := ⟨rfl, rfl, rfl, by decide +kernel, rfl, by decide +kernel, by decide +kernel⟩
abbrev s_NoCutting___init__ : Stmt := (inClass (top 4) 0)
abbrev N_NoCutting___init__ : List Str := ["self", "kind", "place"]
abbrev P_NoCutting___init__ : List Str := ["self", "kind", "place"]
theorem sc_NoCutting___init__ : FnScope N_NoCutting___init__ P_NoCutting___init__ (defScope s_NoCutting___init__) := ⟨rfl, rfl, rfl, by decide +kernel, rfl, by decide +kernel, by decide +kernel⟩
abbrev s_NoSign___init__ : Stmt := (inClass (top 5) 0)
abbrev N_NoSign___init__ : List Str := ["self", "place"]
abbrev P_NoSign___init__ : List Str := ["self", "place"]
theorem sc_NoSign___init__ : FnScope N_NoSign___init__ P_NoSign___init__ (defScope s_NoSign___init__) := ⟨rfl, rfl, rfl, by decide +kernel, rfl, by decide +kernel, by decide +kernel⟩
abbrev s_NoPiece___init__ : Stmt := (inClass (top 6) 0)
abbrev N_NoPiece___init__ : List Str := ["self", "place"]
abbrev P_NoPiece___init__ : List Str := ["self", "place"]
theorem sc_NoPiece___init__ : FnScope N_NoPiece___init__ P_NoPiece___init__ (defScope s_NoPiece___init__) := ⟨rfl, rfl, rfl, by decide +kernel, rfl, by decide +kernel, by decide +kernel⟩
abbrev s_NoNumber___init__ : Stmt := (inClass (top 7) 0)
abbrev N_NoNumber___init__ : List Str := ["self", "place"]
abbrev P_NoNumber___init__ : List Str := ["self", "place"]
theorem sc_NoNumber___init__ : FnScope N_NoNumber___init__ P_NoNumber___init__ (defScope s_NoNumber___init__) := ⟨rfl, rfl, rfl, by decide +kernel, rfl, by decide +kernel, by decide +kernel⟩
abbrev s_is_whole : Stmt := (top 10)
abbrev N_is_whole : List Str := ["thing"]
abbrev P_is_whole : List Str := ["thing"]
theorem sc_is_whole : FnScope N_is_whole P_is_whole (defScope s_is_whole) := ⟨rfl, rfl, rfl, by decide +kernel, rfl, by decide +kernel, by decide +kernel⟩
abbrev s_is_up_to : Stmt := (top 11)
abbrev N_is_up_to : List Str := ["thing", "most"]
abbrev P_is_up_to : List Str := ["thing", "most"]
theorem sc_is_up_to : FnScope N_is_up_to P_is_up_to (defScope s_is_up_to) := ⟨rfl, rfl, rfl, by decide +kernel, rfl, by decide +kernel, by decide +kernel⟩
abbrev s_check_text : Stmt := (top 13)
abbrev N_check_text : List Str := ["table", "text", "signs", "place", "sign"]
abbrev P_check_text : List Str := ["table", "text"]
theorem sc_check_text : FnScope N_check_text P_check_text (defScope s_check_text) := ⟨rfl, rfl, rfl, by decide +kernel, rfl, by decide +kernel, by decide +kernel⟩
abbrev s_first_no_piece : Stmt := (top 14)
abbrev N_first_no_piece : List Str := ["table", "things", "number", "thing"]
abbrev P_first_no_piece : List Str := ["table", "things"]
theorem sc_first_no_piece : FnScope N_first_no_piece P_first_no_piece (defScope s_first_no_piece) := ⟨rfl, rfl, rfl, by decide +kernel, rfl, by decide +kernel, by decide +kernel⟩
abbrev s_check_piece : Stmt := (top 15)
abbrev N_check_piece : List Str := ["table", "piece"]
abbrev P_check_piece : List Str := ["table", "piece"]
theorem sc_check_piece : FnScope N_check_piece P_check_piece (defScope s_check_piece) := ⟨rfl, rfl, rfl, by decide +kernel, rfl, by decide +kernel, by decide +kernel⟩
abbrev s_check_place : Stmt := (top 16)
abbrev N_check_place : List Str := ["place", "most"]
abbrev P_check_place : List Str := ["place", "most"]
theorem sc_check_place : FnScope N_check_place P_check_place (defScope s_check_place) := ⟨rfl, rfl, rfl, by decide +kernel, rfl, by decide +kernel, by decide +kernel⟩
abbrev s_what_is_wrong : Stmt := (top 18)
abbrev N_what_is_wrong : List Str := ["follows", "thing", "strange", "number", "piece", "pair"]
abbrev P_what_is_wrong : List Str := ["follows", "thing"]
theorem sc_what_is_wrong : FnScope N_what_is_wrong P_what_is_wrong (defScope s_what_is_wrong) := ⟨rfl, rfl, rfl, by decide +kernel, rfl, by decide +kernel, by decide +kernel⟩
abbrev s_check_cutting : Stmt := (top 19)
abbrev N_check_cutting : List Str := ["follows", "thing", "wrong"]
abbrev P_check_cutting : List Str := ["follows", "thing"]
theorem sc_check_cutting : FnScope N_check_cutting P_check_cutting (defScope s_check_cutting) := ⟨rfl, rfl, rfl, by decide +kernel, rfl, by decide +kernel, by decide +kernel⟩
abbrev s_may_begin_there : Stmt := (top 21)
abbrev N_may_begin_there : List Str := ["follows", "piece", "first"]
abbrev P_may_begin_there : List Str := ["follows", "piece", "first"]
theorem sc_may_begin_there : FnScope N_may_begin_there P_may_begin_there (defScope s_may_begin_there) := ⟨rfl, rfl, rfl, by decide +kernel, rfl, by decide +kernel, by decide +kernel⟩
abbrev s_first_of : Stmt := (top 22)
abbrev N_first_of : List Str := ["follows", "text", "told", "begin", "most", "fit", "size"]
abbrev P_first_of : List Str := ["follows", "text", "told", "begin"]
theorem sc_first_of : FnScope N_first_of P_first_of (defScope s_first_of) := ⟨rfl, rfl, rfl, by decide +kernel, rfl, by decide +kernel, by decide +kernel⟩
abbrev s_firsts : Stmt := (top 23)
abbrev N_firsts : List Str := ["follows", "text", "told", "begin"]
abbrev P_firsts : List Str := ["follows", "text"]
theorem sc_firsts : FnScope N_firsts P_firsts (defScope s_firsts) := ⟨rfl, rfl, rfl, by decide +kernel, rfl, by decide +kernel, by decide +kernel⟩
abbrev s_read_on : Stmt := (top 24)
abbrev N_read_on : List Str := ["follows", "text", "told", "row", "place"]
abbrev P_read_on : List Str := ["follows", "text"]
theorem sc_read_on : FnScope N_read_on P_read_on (defScope s_read_on) := ⟨rfl, rfl, rfl, by decide +kernel, rfl, by decide +kernel, by decide +kernel⟩
abbrev s_changed_text : Stmt := (top 26)
abbrev N_changed_text : List Str := ["text", "place", "gone", "put"]
abbrev P_changed_text : List Str := ["text", "place", "gone", "put"]
theorem sc_changed_text : FnScope N_changed_text P_changed_text (defScope s_changed_text) := ⟨rfl, rfl, rfl, by decide +kernel, rfl, by decide +kernel, by decide +kernel⟩
abbrev s_check_change : Stmt := (top 27)
abbrev N_check_change : List Str := ["table", "text", "place", "gone", "put"]
abbrev P_check_change : List Str := ["table", "text", "place", "gone", "put"]
theorem sc_check_change : FnScope N_check_change P_check_change (defScope s_check_change) := ⟨rfl, rfl, rfl, by decide +kernel, rfl, by decide +kernel, by decide +kernel⟩
abbrev s_same_ahead : Stmt := (top 28)
abbrev N_same_ahead : List Str := ["old", "new", "most", "many", "one", "other"]
abbrev P_same_ahead : List Str := ["old", "new", "most"]
theorem sc_same_ahead : FnScope N_same_ahead P_same_ahead (defScope s_same_ahead) := ⟨rfl, rfl, rfl, by decide +kernel, rfl, by decide +kernel, by decide +kernel⟩
abbrev s_patch_between : Stmt := (top 29)
abbrev N_patch_between : List Str := ["old", "new", "place", "behind", "first", "old_left", "new_left", "last"]
abbrev P_patch_between : List Str := ["old", "new", "place", "behind"]
theorem sc_patch_between : FnScope N_patch_between P_patch_between (defScope s_patch_between) := ⟨rfl, rfl, rfl, by decide +kernel, rfl, by decide +kernel, by decide +kernel⟩
abbrev s_patch_of : Stmt := (top 30)
abbrev N_patch_of : List Str := ["follows", "row", "place", "gone", "put", "text", "new"]
abbrev P_patch_of : List Str := ["follows", "row", "place", "gone", "put"]
theorem sc_patch_of : FnScope N_patch_of P_patch_of (defScope s_patch_of) := ⟨rfl, rfl, rfl, by decide +kernel, rfl, by decide +kernel, by decide +kernel⟩
abbrev s_recut : Stmt := (top 31)
abbrev N_recut : List Str := ["follows", "row", "place", "gone", "put"]
abbrev P_recut : List Str := ["follows", "row", "place", "gone", "put"]
theorem sc_recut : FnScope N_recut P_recut (defScope s_recut) := ⟨rfl, rfl, rfl, by decide +kernel, rfl, by decide +kernel, by decide +kernel⟩
abbrev s_patched : Stmt := (top 32)
abbrev N_patched : List Str := ["row", "patch", "first", "out", "into"]
abbrev P_patched : List Str := ["row", "patch"]
theorem sc_patched : FnScope N_patched P_patched (defScope s_patched) := ⟨rfl, rfl, rfl, by decide +kernel, rfl, by decide +kernel, by decide +kernel⟩
abbrev s_edge : Stmt := (top 34)
abbrev N_edge : List Str := ["table", "piece", "side", "told", "parts"]
abbrev P_edge : List Str := ["table", "piece", "side"]
theorem sc_edge : FnScope N_edge P_edge (defScope s_edge) := ⟨rfl, rfl, rfl, by decide +kernel, rfl, by decide +kernel, by decide +kernel⟩
abbrev s_right_edge : Stmt := (top 35)
abbrev N_right_edge : List Str := ["table", "piece"]
abbrev P_right_edge : List Str := ["table", "piece"]
theorem sc_right_edge : FnScope N_right_edge P_right_edge (defScope s_right_edge) := ⟨rfl, rfl, rfl, by decide +kernel, rfl, by decide +kernel, by decide +kernel⟩
abbrev s_left_edge : Stmt := (top 36)
abbrev N_left_edge : List Str := ["table", "piece"]
abbrev P_left_edge : List Str := ["table", "piece"]
theorem sc_left_edge : FnScope N_left_edge P_left_edge (defScope s_left_edge) := ⟨rfl, rfl, rfl, by decide +kernel, rfl, by decide +kernel, by decide +kernel⟩
abbrev s_with_ends : Stmt := (top 37)
abbrev N_with_ends : List Str := ["table", "pieces", "told", "end", "piece", "parts"]
abbrev P_with_ends : List Str := ["table", "pieces"]
theorem sc_with_ends : FnScope N_with_ends P_with_ends (defScope s_with_ends) := ⟨rfl, rfl, rfl, by decide +kernel, rfl, by decide +kernel, by decide +kernel⟩
abbrev s_edges_meet : Stmt := (top 38)
abbrev N_edges_meet : List Str := ["table", "right_edge_ends", "left_edge_ends", "least", "left", "left_end", "right", "right_end", "rank"]
abbrev P_edges_meet : List Str := ["table", "right_edge_ends", "left_edge_ends"]
theorem sc_edges_meet : FnScope N_edges_meet P_edges_meet (defScope s_edges_meet) := ⟨rfl, rfl, rfl, by decide +kernel, rfl, by decide +kernel, by decide +kernel⟩
abbrev s_Follows___init__ : Stmt := (inClass (top 40) 0)
abbrev N_Follows___init__ : List Str := ["self", "table", "piece"]
abbrev P_Follows___init__ : List Str := ["self", "table"]
theorem sc_Follows___init__ : FnScope N_Follows___init__ P_Follows___init__ (defScope s_Follows___init__) := ⟨rfl, rfl, rfl, by decide +kernel, rfl, by decide +kernel, by decide +kernel⟩
abbrev s_Follows_is_alone : Stmt := (inClass (top 40) 1)
abbrev N_Follows_is_alone : List Str := ["self", "piece", "parts", "left", "right"]
abbrev P_Follows_is_alone : List Str := ["self", "piece"]
theorem sc_Follows_is_alone : FnScope N_Follows_is_alone P_Follows_is_alone (defScope s_Follows_is_alone) := ⟨rfl, rfl, rfl, by decide +kernel, rfl, by decide +kernel, by decide +kernel⟩
abbrev s_Follows_first_rank : Stmt := (inClass (top 40) 2)
abbrev N_Follows_first_rank : List Str := ["self", "left", "right"]
abbrev P_Follows_first_rank : List Str := ["self", "left", "right"]
theorem sc_Follows_first_rank : FnScope N_Follows_first_rank P_Follows_first_rank (defScope s_Follows_first_rank) := ⟨rfl, rfl, rfl, by decide +kernel, rfl, by decide +kernel, by decide +kernel⟩
abbrev s_Follows_pair_all : Stmt := (inClass (top 40) 3)
abbrev N_Follows_pair_all : List Str := ["self", "alone", "left", "right"]
abbrev P_Follows_pair_all : List Str := ["self"]
theorem sc_Follows_pair_all : FnScope N_Follows_pair_all P_Follows_pair_all (defScope s_Follows_pair_all) := ⟨rfl, rfl, rfl, by decide +kernel, rfl, by decide +kernel, by decide +kernel⟩
abbrev s_Follows_table : Stmt := (inClass (top 40) 4)
abbrev N_Follows_table : List Str := ["self"]
abbrev P_Follows_table : List Str := ["self"]
theorem sc_Follows_table : FnScope N_Follows_table P_Follows_table (defScope s_Follows_table) := ⟨rfl, rfl, rfl, by decide +kernel, rfl, by decide +kernel, by decide +kernel⟩
abbrev s_Follows_alone : Stmt := (inClass (top 40) 5)
abbrev N_Follows_alone : List Str := ["self"]
abbrev P_Follows_alone : List Str := ["self"]
theorem sc_Follows_alone : FnScope N_Follows_alone P_Follows_alone (defScope s_Follows_alone) := ⟨rfl, rfl, rfl, by decide +kernel, rfl, by decide +kernel, by decide +kernel⟩
abbrev s_Follows_has_alone : Stmt := (inClass (top 40) 6)
abbrev N_Follows_has_alone : List Str := ["self", "thing"]
abbrev P_Follows_has_alone : List Str := ["self", "thing"]
theorem sc_Follows_has_alone : FnScope N_Follows_has_alone P_Follows_has_alone (defScope s_Follows_has_alone) := ⟨rfl, rfl, rfl, by decide +kernel, rfl, by decide +kernel, by decide +kernel⟩
abbrev s_Follows_after : Stmt := (inClass (top 40) 7)
abbrev N_Follows_after : List Str := ["self", "piece"]
abbrev P_Follows_after : List Str := ["self", "piece"]
theorem sc_Follows_after : FnScope N_Follows_after P_Follows_after (defScope s_Follows_after) := ⟨rfl, rfl, rfl, by decide +kernel, rfl, by decide +kernel, by decide +kernel⟩
abbrev s_Follows_ahead : Stmt := (inClass (top 40) 8)
abbrev N_Follows_ahead : List Str := ["self", "piece"]
abbrev P_Follows_ahead : List Str := ["self", "piece"]
theorem sc_Follows_ahead : FnScope N_Follows_ahead P_Follows_ahead (defScope s_Follows_ahead) := ⟨rfl, rfl, rfl, by decide +kernel, rfl, by decide +kernel, by decide +kernel⟩
abbrev s_Follows_may : Stmt := (inClass (top 40) 9)
abbrev N_Follows_may : List Str := ["self", "left", "right"]
abbrev P_Follows_may : List Str := ["self", "left", "right"]
theorem sc_Follows_may : FnScope N_Follows_may P_Follows_may (defScope s_Follows_may) := ⟨rfl, rfl, rfl, by decide +kernel, rfl, by decide +kernel, by decide +kernel⟩
abbrev s_may_be_sign : Stmt := (top 48)
abbrev N_may_be_sign : List Str := ["sign", "code"]
abbrev P_may_be_sign : List Str := ["sign"]
theorem sc_may_be_sign : FnScope N_may_be_sign P_may_be_sign (defScope s_may_be_sign) := ⟨rfl, rfl, rfl, by decide +kernel, rfl, by decide +kernel, by decide +kernel⟩
abbrev s_check_signs : Stmt := (top 49)
abbrev N_check_signs : List Str := ["signs", "place", "sign"]
abbrev P_check_signs : List Str := ["signs"]
theorem sc_check_signs : FnScope N_check_signs P_check_signs (defScope s_check_signs) := ⟨rfl, rfl, rfl, by decide +kernel, rfl, by decide +kernel, by decide +kernel⟩
abbrev s_Table___init__ : Stmt := (inClass (top 50) 0)
abbrev N_Table___init__ : List Str := ["self", "signs", "rows", "sign", "number", "row", "piece"]
abbrev P_Table___init__ : List Str := ["self", "signs", "rows"]
theorem sc_Table___init__ : FnScope N_Table___init__ P_Table___init__ (defScope s_Table___init__) := ⟨rfl, rfl, rfl, by decide +kernel, rfl, by decide +kernel, by decide +kernel⟩
abbrev s_Table_take_piece : Stmt := (inClass (top 50) 1)
abbrev N_Table_take_piece : List Str := ["self", "piece"]
abbrev P_Table_take_piece : List Str := ["self", "piece"]
theorem sc_Table_take_piece : FnScope N_Table_take_piece P_Table_take_piece (defScope s_Table_take_piece) := ⟨rfl, rfl, rfl, by decide +kernel, rfl, by decide +kernel, by decide +kernel⟩
abbrev s_Table_may_take_row : Stmt := (inClass (top 50) 2)
abbrev N_Table_may_take_row : List Str := ["self", "row", "left", "right", "joined"]
abbrev P_Table_may_take_row : List Str := ["self", "row"]
theorem sc_Table_may_take_row : FnScope N_Table_may_take_row P_Table_may_take_row (defScope s_Table_may_take_row) := ⟨rfl, rfl, rfl, by decide +kernel, rfl, by decide +kernel, by decide +kernel⟩
abbrev s_Table_take_row : Stmt := (inClass (top 50) 3)
abbrev N_Table_take_row : List Str := ["self", "row", "left", "right"]
abbrev P_Table_take_row : List Str := ["self", "row"]
theorem sc_Table_take_row : FnScope N_Table_take_row P_Table_take_row (defScope s_Table_take_row) := ⟨rfl, rfl, rfl, by decide +kernel, rfl, by decide +kernel, by decide +kernel⟩
abbrev s_Table_signs : Stmt := (inClass (top 50) 4)
abbrev N_Table_signs : List Str := ["self"]
abbrev P_Table_signs : List Str := ["self"]
theorem sc_Table_signs : FnScope N_Table_signs P_Table_signs (defScope s_Table_signs) := ⟨rfl, rfl, rfl, by decide +kernel, rfl, by decide +kernel, by decide +kernel⟩
abbrev s_Table_rows : Stmt := (inClass (top 50) 5)
abbrev N_Table_rows : List Str := ["self"]
abbrev P_Table_rows : List Str := ["self"]
theorem sc_Table_rows : FnScope N_Table_rows P_Table_rows (defScope s_Table_rows) := ⟨rfl, rfl, rfl, by decide +kernel, rfl, by decide +kernel, by decide +kernel⟩
abbrev s_Table_pieces : Stmt := (inClass (top 50) 6)
abbrev N_Table_pieces : List Str := ["self"]
abbrev P_Table_pieces : List Str := ["self"]
theorem sc_Table_pieces : FnScope N_Table_pieces P_Table_pieces (defScope s_Table_pieces) := ⟨rfl, rfl, rfl, by decide +kernel, rfl, by decide +kernel, by decide +kernel⟩
abbrev s_Table_which : Stmt := (inClass (top 50) 7)
abbrev N_Table_which : List Str := ["self", "thing"]
abbrev P_Table_which : List Str := ["self", "thing"]
theorem sc_Table_which : FnScope N_Table_which P_Table_which (defScope s_Table_which) := ⟨rfl, rfl, rfl, by decide +kernel, rfl, by decide +kernel, by decide +kernel⟩
abbrev s_Table_piece : Stmt := (inClass (top 50) 8)
abbrev N_Table_piece : List Str := ["self", "number"]
abbrev P_Table_piece : List Str := ["self", "number"]
theorem sc_Table_piece : FnScope N_Table_piece P_Table_piece (defScope s_Table_piece) := ⟨rfl, rfl, rfl, by decide +kernel, rfl, by decide +kernel, by decide +kernel⟩
abbrev s_Table_parts : Stmt := (inClass (top 50) 9)
abbrev N_Table_parts : List Str := ["self", "piece", "number"]
abbrev P_Table_parts : List Str := ["self", "piece"]
theorem sc_Table_parts : FnScope N_Table_parts P_Table_parts (defScope s_Table_parts) := ⟨rfl, rfl, rfl, by decide +kernel, rfl, by decide +kernel, by decide +kernel⟩
abbrev s_Table_rank : Stmt := (inClass (top 50) 10)
abbrev N_Table_rank : List Str := ["self", "left", "right"]
abbrev P_Table_rank : List Str := ["self", "left", "right"]
theorem sc_Table_rank : FnScope N_Table_rank P_Table_rank (defScope s_Table_rank) := ⟨rfl, rfl, rfl, by decide +kernel, rfl, by decide +kernel, by decide +kernel⟩
abbrev s_Table_longest : Stmt := (inClass (top 50) 11)
abbrev N_Table_longest : List Str := ["self"]
abbrev P_Table_longest : List Str := ["self"]
theorem sc_Table_longest : FnScope N_Table_longest P_Table_longest (defScope s_Table_longest) := ⟨rfl, rfl, rfl, by decide +kernel, rfl, by decide +kernel, by decide +kernel⟩
abbrev s__law_cell_at : Stmt := (top 52)
abbrev N__law_cell_at : List Str := ["_law_script", "_law_k"]
abbrev P__law_cell_at : List Str := ["_law_script", "_law_k"]
theorem sc__law_cell_at : FnScope N__law_cell_at P__law_cell_at (defScope s__law_cell_at) := ⟨rfl, rfl, rfl, by decide +kernel, rfl, by decide +kernel, by decide +kernel⟩
abbrev s__law_numbers : Stmt := (top 53)
abbrev N__law_numbers : List Str := ["_law_cell", "_law_salt", "_law_sizes", "_law_number", "_law_left", "_law_found", "_law_k", "_law_one"]
abbrev P__law_numbers : List Str := ["_law_cell", "_law_salt", "_law_sizes"]
theorem sc__law_numbers : FnScope N__law_numbers P__law_numbers (defScope s__law_numbers) := ⟨rfl, rfl, rfl, by decide +kernel, rfl, by decide +kernel, by decide +kernel⟩
abbrev s__law_signs : Stmt := (top 54)
abbrev N__law_signs : List Str := ["_law_digits", "_law_some", "_law_signs_here", "_law_digit", "_law_turned", "_law_sign"]
abbrev P__law_signs : List Str := ["_law_digits"]
theorem sc__law_signs : FnScope N__law_signs P__law_signs (defScope s__law_signs) := ⟨rfl, rfl, rfl, by decide +kernel, rfl, by decide +kernel, by decide +kernel⟩
abbrev s__law_rows : Stmt := (top 55)
abbrev N__law_rows : List Str := ["_law_signs_here", "_law_digits", "_law_pieces_here", "_law_rows_here", "_law_k", "_law_one", "_law_other"]
abbrev P__law_rows : List Str := ["_law_signs_here", "_law_digits"]
theorem sc__law_rows : FnScope N__law_rows P__law_rows (defScope s__law_rows) := ⟨rfl, rfl, rfl, by decide +kernel, rfl, by decide +kernel, by decide +kernel⟩
abbrev s__law_table : Stmt := (top 56)
abbrev N__law_table : List Str := ["_law_cell", "_law_salt", "_law_most", "_law_head", "_law_many", "_law_signs_here", "_law_rows_here"]
abbrev P__law_table : List Str := ["_law_cell", "_law_salt", "_law_most"]
theorem sc__law_table : FnScope N__law_table P__law_table (defScope s__law_table) := ⟨rfl, rfl, rfl, by decide +kernel, rfl, by decide +kernel, by decide +kernel⟩
abbrev s__law_cut : Stmt := (top 57)
abbrev N__law_cut : List Str := ["_law_rows_here", "_law_text", "_law_row", "_law_left", "_law_right", "_law_found", "_law_piece"]
abbrev P__law_cut : List Str := ["_law_rows_here", "_law_text"]
theorem sc__law_cut : FnScope N__law_cut P__law_cut (defScope s__law_cut) := ⟨rfl, rfl, rfl, by decide +kernel, rfl, by decide +kernel, by decide +kernel⟩
abbrev s__law_pieces : Stmt := (top 58)
abbrev N__law_pieces : List Str := ["_law_table_here", "_law_left", "_law_right"]
abbrev P__law_pieces : List Str := ["_law_table_here"]
theorem sc__law_pieces : FnScope N__law_pieces P__law_pieces (defScope s__law_pieces) := ⟨rfl, rfl, rfl, by decide +kernel, rfl, by decide +kernel, by decide +kernel⟩
abbrev s__law_words : Stmt := (top 59)
abbrev N__law_words : List Str := ["_law_cell", "_law_salt", "_law_pieces_here", "_law_most", "_law_digits", "_law_digit"]
abbrev P__law_words : List Str := ["_law_cell", "_law_salt", "_law_pieces_here", "_law_most"]
theorem sc__law_words : FnScope N__law_words P__law_words (defScope s__law_words) := ⟨rfl, rfl, rfl, by decide +kernel, rfl, by decide +kernel, by decide +kernel⟩
abbrev s__law_whole : Stmt := (top 60)
abbrev N__law_whole : List Str := ["_law_thing"]
abbrev P__law_whole : List Str := ["_law_thing"]
theorem sc__law_whole : FnScope N__law_whole P__law_whole (defScope s__law_whole) := ⟨rfl, rfl, rfl, by decide +kernel, rfl, by decide +kernel, by decide +kernel⟩
abbrev s__law_fits : Stmt := (top 61)
abbrev N__law_fits : List Str := ["_law_rows_here", "_law_kept", "_law_left", "_law_right"]
abbrev P__law_fits : List Str := ["_law_rows_here", "_law_kept", "_law_left", "_law_right"]
theorem sc__law_fits : FnScope N__law_fits P__law_fits (defScope s__law_fits) := ⟨rfl, rfl, rfl, by decide +kernel, rfl, by decide +kernel, by decide +kernel⟩
abbrev s__law_long : Stmt := (top 62)
abbrev N__law_long : List Str := ["_law_cells", "_law_salt", "_law_pieces_here", "_law_most", "_law_text", "_law_k", "_law_cell"]
abbrev P__law_long : List Str := ["_law_cells", "_law_salt", "_law_pieces_here", "_law_most"]
theorem sc__law_long : FnScope N__law_long P__law_long (defScope s__law_long) := ⟨rfl, rfl, rfl, by decide +kernel, rfl, by decide +kernel, by decide +kernel⟩
abbrev s__law_is_cutting : Stmt := (top 63)
abbrev N__law_is_cutting : List Str := ["_law_rows_here", "_law_kept", "_law_row", "_law_text", "_law_piece", "_law_left", "_law_right"]
abbrev P__law_is_cutting : List Str := ["_law_rows_here", "_law_kept", "_law_row", "_law_text"]
theorem sc__law_is_cutting : FnScope N__law_is_cutting P__law_is_cutting (defScope s__law_is_cutting) := ⟨rfl, rfl, rfl, by decide +kernel, rfl, by decide +kernel, by decide +kernel⟩
abbrev s__law_from_end : Stmt := (top 64)
abbrev N__law_from_end : List Str := ["_law_row", "_law_far", "_law_places", "_law_size", "_law_piece"]
abbrev P__law_from_end : List Str := ["_law_row", "_law_far"]
theorem sc__law_from_end : FnScope N__law_from_end P__law_from_end (defScope s__law_from_end) := ⟨rfl, rfl, rfl, by decide +kernel, rfl, by decide +kernel, by decide +kernel⟩
abbrev s__law_parts : Stmt := (top 65)
abbrev N__law_parts : List Str := ["_law_found", "_law_old"]
abbrev P__law_parts : List Str := ["_law_found", "_law_old"]
theorem sc__law_parts : FnScope N__law_parts P__law_parts (defScope s__law_parts) := ⟨rfl, rfl, rfl, by decide +kernel, rfl, by decide +kernel, by decide +kernel⟩
abbrev s__law_good_ends : Stmt := (top 66)
abbrev N__law_good_ends : List Str := ["_law_found", "_law_old", "_law_new", "_law_place", "_law_far", "_law_first", "_law_out", "_law_into", "_law_last", "_law_shared", "_law_size"]
abbrev P__law_good_ends : List Str := ["_law_found", "_law_old", "_law_new", "_law_place", "_law_far"]
theorem sc__law_good_ends : FnScope N__law_good_ends P__law_good_ends (defScope s__law_good_ends) := ⟨rfl, rfl, rfl, by decide +kernel, rfl, by decide +kernel, by decide +kernel⟩
abbrev s__law_led : Stmt := (top 67)
abbrev N__law_led : List Str := ["_law_follows", "_law_rows_here", "_law_kept", "_law_row", "_law_change", "_law_place", "_law_gone", "_law_put", "_law_text", "_law_handed", "_law_found", "_law_copy", "_law_new", "_law_by_hand", "_law_told"]
abbrev P__law_led : List Str := ["_law_follows", "_law_rows_here", "_law_kept", "_law_row", "_law_change"]
theorem sc__law_led : FnScope N__law_led P__law_led (defScope s__law_led) := ⟨rfl, rfl, rfl, by decide +kernel, rfl, by decide +kernel, by decide +kernel⟩
abbrev s_law : Stmt := (top 68)
abbrev N_law : List Str := ["_law_script", "_law_table_here", "_law_pieces_here", "_law_times", "_law_text", "_law_digits", "_law_place", "_law_gone", "_law_put", "_law_follows", "_law_kept", "_law_old", "_law_new", "_law_digit"]
abbrev P_law : List Str := ["_law_script"]
theorem sc_law : FnScope N_law P_law (defScope s_law) := ⟨rfl, rfl, rfl, by decide +kernel, rfl, by decide +kernel, by decide +kernel⟩
/-- what the top has written -/
structure Tx (K : PySem.W.Frag) (mg : Str → Option Value) : Prop where
  n_len : mg "len" = none
  n_range : mg "range" = none
  n_max : mg "max" = none
  n_min : mg "min" = none
  n_isinstance : mg "isinstance" = none
  n_str : mg "str" = none
  n_int : mg "int" = none
  n_bool : mg "bool" = none
  n_list : mg "list" = none
  n_tuple : mg "tuple" = none
  n_all : mg "all" = none
  n_ord : mg "ord" = none
  n_enumerate : mg "enumerate" = none
  n_zip : mg "zip" = none
  n_reversed : mg "reversed" = none
  c_MOST_SIGNS : ∃ t, mg "MOST_SIGNS" = some (.int 12 t)
  c_MOST_ROWS : ∃ t, mg "MOST_ROWS" = some (.int 24 t)
  c_MOST_JOINED : ∃ t, mg "MOST_JOINED" = some (.int 16 t)
  c_BLANK_CODE : ∃ t, mg "BLANK_CODE" = some (.int 32 t)
  c_PERCENT_CODE : ∃ t, mg "PERCENT_CODE" = some (.int 37 t)
  c_TILDE_CODE : ∃ t, mg "TILDE_CODE" = some (.int 126 t)
  g_Follows : mg "Follows" = some (.ref (He.ga K "Follows"))
  cl_Follows : Cls K (He.ga K "Follows")
  no_Follows_held_table : NoAttr K (He.ga K "Follows") "held_table"
  no_Follows_right_edges : NoAttr K (He.ga K "Follows") "right_edges"
  no_Follows_left_edges : NoAttr K (He.ga K "Follows") "left_edges"
  no_Follows_alone_pieces : NoAttr K (He.ga K "Follows") "alone_pieces"
  no_Follows_pieces_after : NoAttr K (He.ga K "Follows") "pieces_after"
  no_Follows_pieces_ahead : NoAttr K (He.ga K "Follows") "pieces_ahead"
  no_Follows_pairs : NoAttr K (He.ga K "Follows") "pairs"
  mk_Follows : Mk K (He.ga K "Follows") (He.fAd K ("Follows", some "__init__"))
  m_Follows_is_alone : Meth K (He.ga K "Follows") "is_alone" (He.fAd K ("Follows", some "is_alone"))
  m_Follows_first_rank : Meth K (He.ga K "Follows") "first_rank" (He.fAd K ("Follows", some "first_rank"))
  m_Follows_pair_all : Meth K (He.ga K "Follows") "pair_all" (He.fAd K ("Follows", some "pair_all"))
  m_Follows_table : Meth K (He.ga K "Follows") "table" (He.fAd K ("Follows", some "table"))
  m_Follows_alone : Meth K (He.ga K "Follows") "alone" (He.fAd K ("Follows", some "alone"))
  m_Follows_has_alone : Meth K (He.ga K "Follows") "has_alone" (He.fAd K ("Follows", some "has_alone"))
  m_Follows_may : Meth K (He.ga K "Follows") "may" (He.fAd K ("Follows", some "may"))
  g_Table : mg "Table" = some (.ref (He.ga K "Table"))
  cl_Table : Cls K (He.ga K "Table")
  no_Table_sign_text : NoAttr K (He.ga K "Table") "sign_text"
  no_Table_row_list : NoAttr K (He.ga K "Table") "row_list"
  no_Table_piece_list : NoAttr K (He.ga K "Table") "piece_list"
  no_Table_number_by_piece : NoAttr K (He.ga K "Table") "number_by_piece"
  no_Table_rank_by_row : NoAttr K (He.ga K "Table") "rank_by_row"
  no_Table_most_signs : NoAttr K (He.ga K "Table") "most_signs"
  mk_Table : Mk K (He.ga K "Table") (He.fAd K ("Table", some "__init__"))
  m_Table_take_piece : Meth K (He.ga K "Table") "take_piece" (He.fAd K ("Table", some "take_piece"))
  m_Table_may_take_row : Meth K (He.ga K "Table") "may_take_row" (He.fAd K ("Table", some "may_take_row"))
  m_Table_take_row : Meth K (He.ga K "Table") "take_row" (He.fAd K ("Table", some "take_row"))
  m_Table_signs : Meth K (He.ga K "Table") "signs" (He.fAd K ("Table", some "signs"))
  m_Table_rows : Meth K (He.ga K "Table") "rows" (He.fAd K ("Table", some "rows"))
  m_Table_pieces : Meth K (He.ga K "Table") "pieces" (He.fAd K ("Table", some "pieces"))
  m_Table_which : Meth K (He.ga K "Table") "which" (He.fAd K ("Table", some "which"))
  m_Table_parts : Meth K (He.ga K "Table") "parts" (He.fAd K ("Table", some "parts"))
  m_Table_rank : Meth K (He.ga K "Table") "rank" (He.fAd K ("Table", some "rank"))
  m_Table_longest : Meth K (He.ga K "Table") "longest" (He.fAd K ("Table", some "longest"))
  g_is_whole : mg "is_whole" = some (.ref (He.fAd K ("is_whole", none)))
  d_is_whole : ∃ fd, FunD K "is_whole" "is_whole" (defArgs s_is_whole) (defBody s_is_whole) (defScope s_is_whole) [] [] (He.fAd K ("is_whole", none)) fd
  g_is_up_to : mg "is_up_to" = some (.ref (He.fAd K ("is_up_to", none)))
  d_is_up_to : ∃ fd, FunD K "is_up_to" "is_up_to" (defArgs s_is_up_to) (defBody s_is_up_to) (defScope s_is_up_to) [] [] (He.fAd K ("is_up_to", none)) fd
  g_check_text : mg "check_text" = some (.ref (He.fAd K ("check_text", none)))
  d_check_text : ∃ fd, FunD K "check_text" "check_text" (defArgs s_check_text) (defBody s_check_text) (defScope s_check_text) [] [] (He.fAd K ("check_text", none)) fd
  g_first_no_piece : mg "first_no_piece" = some (.ref (He.fAd K ("first_no_piece", none)))
  d_first_no_piece : ∃ fd, FunD K "first_no_piece" "first_no_piece" (defArgs s_first_no_piece) (defBody s_first_no_piece) (defScope s_first_no_piece) [] [] (He.fAd K ("first_no_piece", none)) fd
  g_check_piece : mg "check_piece" = some (.ref (He.fAd K ("check_piece", none)))
  d_check_piece : ∃ fd, FunD K "check_piece" "check_piece" (defArgs s_check_piece) (defBody s_check_piece) (defScope s_check_piece) [] [] (He.fAd K ("check_piece", none)) fd
  g_check_place : mg "check_place" = some (.ref (He.fAd K ("check_place", none)))
  d_check_place : ∃ fd, FunD K "check_place" "check_place" (defArgs s_check_place) (defBody s_check_place) (defScope s_check_place) [] [] (He.fAd K ("check_place", none)) fd
  g_what_is_wrong : mg "what_is_wrong" = some (.ref (He.fAd K ("what_is_wrong", none)))
  d_what_is_wrong : ∃ fd, FunD K "what_is_wrong" "what_is_wrong" (defArgs s_what_is_wrong) (defBody s_what_is_wrong) (defScope s_what_is_wrong) [] [] (He.fAd K ("what_is_wrong", none)) fd
  g_check_cutting : mg "check_cutting" = some (.ref (He.fAd K ("check_cutting", none)))
  d_check_cutting : ∃ fd, FunD K "check_cutting" "check_cutting" (defArgs s_check_cutting) (defBody s_check_cutting) (defScope s_check_cutting) [] [] (He.fAd K ("check_cutting", none)) fd
  g_may_begin_there : mg "may_begin_there" = some (.ref (He.fAd K ("may_begin_there", none)))
  d_may_begin_there : ∃ fd, FunD K "may_begin_there" "may_begin_there" (defArgs s_may_begin_there) (defBody s_may_begin_there) (defScope s_may_begin_there) [] [] (He.fAd K ("may_begin_there", none)) fd
  g_first_of : mg "first_of" = some (.ref (He.fAd K ("first_of", none)))
  d_first_of : ∃ fd, FunD K "first_of" "first_of" (defArgs s_first_of) (defBody s_first_of) (defScope s_first_of) [] [] (He.fAd K ("first_of", none)) fd
  g_firsts : mg "firsts" = some (.ref (He.fAd K ("firsts", none)))
  d_firsts : ∃ fd, FunD K "firsts" "firsts" (defArgs s_firsts) (defBody s_firsts) (defScope s_firsts) [] [] (He.fAd K ("firsts", none)) fd
  g_read_on : mg "read_on" = some (.ref (He.fAd K ("read_on", none)))
  d_read_on : ∃ fd, FunD K "read_on" "read_on" (defArgs s_read_on) (defBody s_read_on) (defScope s_read_on) [] [] (He.fAd K ("read_on", none)) fd
  g_changed_text : mg "changed_text" = some (.ref (He.fAd K ("changed_text", none)))
  d_changed_text : ∃ fd, FunD K "changed_text" "changed_text" (defArgs s_changed_text) (defBody s_changed_text) (defScope s_changed_text) [] [] (He.fAd K ("changed_text", none)) fd
  g_check_change : mg "check_change" = some (.ref (He.fAd K ("check_change", none)))
  d_check_change : ∃ fd, FunD K "check_change" "check_change" (defArgs s_check_change) (defBody s_check_change) (defScope s_check_change) [] [] (He.fAd K ("check_change", none)) fd
  g_same_ahead : mg "same_ahead" = some (.ref (He.fAd K ("same_ahead", none)))
  d_same_ahead : ∃ fd, FunD K "same_ahead" "same_ahead" (defArgs s_same_ahead) (defBody s_same_ahead) (defScope s_same_ahead) [] [] (He.fAd K ("same_ahead", none)) fd
  g_patch_between : mg "patch_between" = some (.ref (He.fAd K ("patch_between", none)))
  d_patch_between : ∃ fd, FunD K "patch_between" "patch_between" (defArgs s_patch_between) (defBody s_patch_between) (defScope s_patch_between) [] [] (He.fAd K ("patch_between", none)) fd
  g_patch_of : mg "patch_of" = some (.ref (He.fAd K ("patch_of", none)))
  d_patch_of : ∃ fd, FunD K "patch_of" "patch_of" (defArgs s_patch_of) (defBody s_patch_of) (defScope s_patch_of) [] [] (He.fAd K ("patch_of", none)) fd
  g_recut : mg "recut" = some (.ref (He.fAd K ("recut", none)))
  d_recut : ∃ fd, FunD K "recut" "recut" (defArgs s_recut) (defBody s_recut) (defScope s_recut) [] [] (He.fAd K ("recut", none)) fd
  g_patched : mg "patched" = some (.ref (He.fAd K ("patched", none)))
  d_patched : ∃ fd, FunD K "patched" "patched" (defArgs s_patched) (defBody s_patched) (defScope s_patched) [] [] (He.fAd K ("patched", none)) fd
  g_edge : mg "edge" = some (.ref (He.fAd K ("edge", none)))
  d_edge : ∃ fd, FunD K "edge" "edge" (defArgs s_edge) (defBody s_edge) (defScope s_edge) [] [] (He.fAd K ("edge", none)) fd
  g_right_edge : mg "right_edge" = some (.ref (He.fAd K ("right_edge", none)))
  d_right_edge : ∃ fd, FunD K "right_edge" "right_edge" (defArgs s_right_edge) (defBody s_right_edge) (defScope s_right_edge) [] [] (He.fAd K ("right_edge", none)) fd
  g_left_edge : mg "left_edge" = some (.ref (He.fAd K ("left_edge", none)))
  d_left_edge : ∃ fd, FunD K "left_edge" "left_edge" (defArgs s_left_edge) (defBody s_left_edge) (defScope s_left_edge) [] [] (He.fAd K ("left_edge", none)) fd
  g_with_ends : mg "with_ends" = some (.ref (He.fAd K ("with_ends", none)))
  d_with_ends : ∃ fd, FunD K "with_ends" "with_ends" (defArgs s_with_ends) (defBody s_with_ends) (defScope s_with_ends) [] [] (He.fAd K ("with_ends", none)) fd
  g_edges_meet : mg "edges_meet" = some (.ref (He.fAd K ("edges_meet", none)))
  d_edges_meet : ∃ fd, FunD K "edges_meet" "edges_meet" (defArgs s_edges_meet) (defBody s_edges_meet) (defScope s_edges_meet) [] [] (He.fAd K ("edges_meet", none)) fd
  d_Follows___init__ : ∃ fd, FunD K "__init__" "Follows.__init__" (defArgs s_Follows___init__) (defBody s_Follows___init__) (defScope s_Follows___init__) [] [] (He.fAd K ("Follows", some "__init__")) fd
  d_Follows_is_alone : ∃ fd, FunD K "is_alone" "Follows.is_alone" (defArgs s_Follows_is_alone) (defBody s_Follows_is_alone) (defScope s_Follows_is_alone) [] [] (He.fAd K ("Follows", some "is_alone")) fd
  d_Follows_first_rank : ∃ fd, FunD K "first_rank" "Follows.first_rank" (defArgs s_Follows_first_rank) (defBody s_Follows_first_rank) (defScope s_Follows_first_rank) [] [] (He.fAd K ("Follows", some "first_rank")) fd
  d_Follows_pair_all : ∃ fd, FunD K "pair_all" "Follows.pair_all" (defArgs s_Follows_pair_all) (defBody s_Follows_pair_all) (defScope s_Follows_pair_all) [] [] (He.fAd K ("Follows", some "pair_all")) fd
  d_Follows_table : ∃ fd, FunD K "table" "Follows.table" (defArgs s_Follows_table) (defBody s_Follows_table) (defScope s_Follows_table) [] [] (He.fAd K ("Follows", some "table")) fd
  d_Follows_alone : ∃ fd, FunD K "alone" "Follows.alone" (defArgs s_Follows_alone) (defBody s_Follows_alone) (defScope s_Follows_alone) [] [] (He.fAd K ("Follows", some "alone")) fd
  d_Follows_has_alone : ∃ fd, FunD K "has_alone" "Follows.has_alone" (defArgs s_Follows_has_alone) (defBody s_Follows_has_alone) (defScope s_Follows_has_alone) [] [] (He.fAd K ("Follows", some "has_alone")) fd
  d_Follows_may : ∃ fd, FunD K "may" "Follows.may" (defArgs s_Follows_may) (defBody s_Follows_may) (defScope s_Follows_may) [] [] (He.fAd K ("Follows", some "may")) fd
  g_may_be_sign : mg "may_be_sign" = some (.ref (He.fAd K ("may_be_sign", none)))
  d_may_be_sign : ∃ fd, FunD K "may_be_sign" "may_be_sign" (defArgs s_may_be_sign) (defBody s_may_be_sign) (defScope s_may_be_sign) [] [] (He.fAd K ("may_be_sign", none)) fd
  g_check_signs : mg "check_signs" = some (.ref (He.fAd K ("check_signs", none)))
  d_check_signs : ∃ fd, FunD K "check_signs" "check_signs" (defArgs s_check_signs) (defBody s_check_signs) (defScope s_check_signs) [] [] (He.fAd K ("check_signs", none)) fd
  d_Table___init__ : ∃ fd, FunD K "__init__" "Table.__init__" (defArgs s_Table___init__) (defBody s_Table___init__) (defScope s_Table___init__) [] [] (He.fAd K ("Table", some "__init__")) fd
  d_Table_take_piece : ∃ fd, FunD K "take_piece" "Table.take_piece" (defArgs s_Table_take_piece) (defBody s_Table_take_piece) (defScope s_Table_take_piece) [] [] (He.fAd K ("Table", some "take_piece")) fd
  d_Table_may_take_row : ∃ fd, FunD K "may_take_row" "Table.may_take_row" (defArgs s_Table_may_take_row) (defBody s_Table_may_take_row) (defScope s_Table_may_take_row) [] [] (He.fAd K ("Table", some "may_take_row")) fd
  d_Table_take_row : ∃ fd, FunD K "take_row" "Table.take_row" (defArgs s_Table_take_row) (defBody s_Table_take_row) (defScope s_Table_take_row) [] [] (He.fAd K ("Table", some "take_row")) fd
  d_Table_signs : ∃ fd, FunD K "signs" "Table.signs" (defArgs s_Table_signs) (defBody s_Table_signs) (defScope s_Table_signs) [] [] (He.fAd K ("Table", some "signs")) fd
  d_Table_rows : ∃ fd, FunD K "rows" "Table.rows" (defArgs s_Table_rows) (defBody s_Table_rows) (defScope s_Table_rows) [] [] (He.fAd K ("Table", some "rows")) fd
  d_Table_pieces : ∃ fd, FunD K "pieces" "Table.pieces" (defArgs s_Table_pieces) (defBody s_Table_pieces) (defScope s_Table_pieces) [] [] (He.fAd K ("Table", some "pieces")) fd
  d_Table_which : ∃ fd, FunD K "which" "Table.which" (defArgs s_Table_which) (defBody s_Table_which) (defScope s_Table_which) [] [] (He.fAd K ("Table", some "which")) fd
  d_Table_parts : ∃ fd, FunD K "parts" "Table.parts" (defArgs s_Table_parts) (defBody s_Table_parts) (defScope s_Table_parts) [] [] (He.fAd K ("Table", some "parts")) fd
  d_Table_rank : ∃ fd, FunD K "rank" "Table.rank" (defArgs s_Table_rank) (defBody s_Table_rank) (defScope s_Table_rank) [] [] (He.fAd K ("Table", some "rank")) fd
  d_Table_longest : ∃ fd, FunD K "longest" "Table.longest" (defArgs s_Table_longest) (defBody s_Table_longest) (defScope s_Table_longest) [] [] (He.fAd K ("Table", some "longest")) fd
  g__law_cell_at : mg "_law_cell_at" = some (.ref (He.fAd K ("_law_cell_at", none)))
  d__law_cell_at : ∃ fd, FunD K "_law_cell_at" "_law_cell_at" (defArgs s__law_cell_at) (defBody s__law_cell_at) (defScope s__law_cell_at) [] [] (He.fAd K ("_law_cell_at", none)) fd
  g__law_numbers : mg "_law_numbers" = some (.ref (He.fAd K ("_law_numbers", none)))
  d__law_numbers : ∃ fd, FunD K "_law_numbers" "_law_numbers" (defArgs s__law_numbers) (defBody s__law_numbers) (defScope s__law_numbers) [] [] (He.fAd K ("_law_numbers", none)) fd
  g__law_signs : mg "_law_signs" = some (.ref (He.fAd K ("_law_signs", none)))
  d__law_signs : ∃ fd, FunD K "_law_signs" "_law_signs" (defArgs s__law_signs) (defBody s__law_signs) (defScope s__law_signs) [] [] (He.fAd K ("_law_signs", none)) fd
  g__law_rows : mg "_law_rows" = some (.ref (He.fAd K ("_law_rows", none)))
  d__law_rows : ∃ fd, FunD K "_law_rows" "_law_rows" (defArgs s__law_rows) (defBody s__law_rows) (defScope s__law_rows) [] [] (He.fAd K ("_law_rows", none)) fd
  g__law_table : mg "_law_table" = some (.ref (He.fAd K ("_law_table", none)))
  d__law_table : ∃ fd, FunD K "_law_table" "_law_table" (defArgs s__law_table) (defBody s__law_table) (defScope s__law_table) [] [] (He.fAd K ("_law_table", none)) fd
  g__law_cut : mg "_law_cut" = some (.ref (He.fAd K ("_law_cut", none)))
  d__law_cut : ∃ fd, FunD K "_law_cut" "_law_cut" (defArgs s__law_cut) (defBody s__law_cut) (defScope s__law_cut) [] [] (He.fAd K ("_law_cut", none)) fd
  g__law_pieces : mg "_law_pieces" = some (.ref (He.fAd K ("_law_pieces", none)))
  d__law_pieces : ∃ fd, FunD K "_law_pieces" "_law_pieces" (defArgs s__law_pieces) (defBody s__law_pieces) (defScope s__law_pieces) [] [] (He.fAd K ("_law_pieces", none)) fd
  g__law_words : mg "_law_words" = some (.ref (He.fAd K ("_law_words", none)))
  d__law_words : ∃ fd, FunD K "_law_words" "_law_words" (defArgs s__law_words) (defBody s__law_words) (defScope s__law_words) [] [] (He.fAd K ("_law_words", none)) fd
  g__law_whole : mg "_law_whole" = some (.ref (He.fAd K ("_law_whole", none)))
  d__law_whole : ∃ fd, FunD K "_law_whole" "_law_whole" (defArgs s__law_whole) (defBody s__law_whole) (defScope s__law_whole) [] [] (He.fAd K ("_law_whole", none)) fd
  g__law_fits : mg "_law_fits" = some (.ref (He.fAd K ("_law_fits", none)))
  d__law_fits : ∃ fd, FunD K "_law_fits" "_law_fits" (defArgs s__law_fits) (defBody s__law_fits) (defScope s__law_fits) [] [] (He.fAd K ("_law_fits", none)) fd
  g__law_long : mg "_law_long" = some (.ref (He.fAd K ("_law_long", none)))
  d__law_long : ∃ fd, FunD K "_law_long" "_law_long" (defArgs s__law_long) (defBody s__law_long) (defScope s__law_long) [] [] (He.fAd K ("_law_long", none)) fd
  g__law_is_cutting : mg "_law_is_cutting" = some (.ref (He.fAd K ("_law_is_cutting", none)))
  d__law_is_cutting : ∃ fd, FunD K "_law_is_cutting" "_law_is_cutting" (defArgs s__law_is_cutting) (defBody s__law_is_cutting) (defScope s__law_is_cutting) [] [] (He.fAd K ("_law_is_cutting", none)) fd
  g__law_from_end : mg "_law_from_end" = some (.ref (He.fAd K ("_law_from_end", none)))
  d__law_from_end : ∃ fd, FunD K "_law_from_end" "_law_from_end" (defArgs s__law_from_end) (defBody s__law_from_end) (defScope s__law_from_end) [] [] (He.fAd K ("_law_from_end", none)) fd
  g__law_parts : mg "_law_parts" = some (.ref (He.fAd K ("_law_parts", none)))
  d__law_parts : ∃ fd, FunD K "_law_parts" "_law_parts" (defArgs s__law_parts) (defBody s__law_parts) (defScope s__law_parts) [] [] (He.fAd K ("_law_parts", none)) fd
  g__law_good_ends : mg "_law_good_ends" = some (.ref (He.fAd K ("_law_good_ends", none)))
  d__law_good_ends : ∃ fd, FunD K "_law_good_ends" "_law_good_ends" (defArgs s__law_good_ends) (defBody s__law_good_ends) (defScope s__law_good_ends) [] [] (He.fAd K ("_law_good_ends", none)) fd
  g__law_led : mg "_law_led" = some (.ref (He.fAd K ("_law_led", none)))
  d__law_led : ∃ fd, FunD K "_law_led" "_law_led" (defArgs s__law_led) (defBody s__law_led) (defScope s__law_led) [] [] (He.fAd K ("_law_led", none)) fd
  g_law : mg "law" = some (.ref (He.fAd K ("law", none)))
  d_law : ∃ fd, FunD K "law" "law" (defArgs s_law) (defBody s_law) (defScope s_law) [] [] (He.fAd K ("law", none)) fd
end Jr
namespace Jr
open PySem PySem.Spec PyProof.Rows L2
def exs (K : PySem.W.Frag) : List Bool := []
theorem exAt {l : List Bool} {i : Nat} {b : Bool} (h : l.all id = true) (e : l[i]? = some b) : b = true := List.all_eq_true.mp h b (List.mem_of_getElem? e)
def fa : List He.Fa := [.free "len",
  .free "range",
  .free "max",
  .free "min",
  .free "isinstance",
  .free "str",
  .free "int",
  .free "bool",
  .free "list",
  .free "tuple",
  .free "all",
  .free "ord",
  .free "enumerate",
  .free "zip",
  .free "reversed",
  .int "MOST_SIGNS" 12,
  .int "MOST_ROWS" 24,
  .int "MOST_JOINED" 16,
  .int "BLANK_CODE" 32,
  .int "PERCENT_CODE" 37,
  .int "TILDE_CODE" 126,
  .glo "Follows",
  .cls "Follows",
  .noat "Follows" "held_table",
  .noat "Follows" "right_edges",
  .noat "Follows" "left_edges",
  .noat "Follows" "alone_pieces",
  .noat "Follows" "pieces_after",
  .noat "Follows" "pieces_ahead",
  .noat "Follows" "pairs",
  .mkr "Follows",
  .meth "Follows" "is_alone",
  .meth "Follows" "first_rank",
  .meth "Follows" "pair_all",
  .meth "Follows" "table",
  .meth "Follows" "alone",
  .meth "Follows" "has_alone",
  .meth "Follows" "may",
  .glo "Table",
  .cls "Table",
  .noat "Table" "sign_text",
  .noat "Table" "row_list",
  .noat "Table" "piece_list",
  .noat "Table" "number_by_piece",
  .noat "Table" "rank_by_row",
  .noat "Table" "most_signs",
  .mkr "Table",
  .meth "Table" "take_piece",
  .meth "Table" "may_take_row",
  .meth "Table" "take_row",
  .meth "Table" "signs",
  .meth "Table" "rows",
  .meth "Table" "pieces",
  .meth "Table" "which",
  .meth "Table" "parts",
  .meth "Table" "rank",
  .meth "Table" "longest",
  .glo "is_whole",
  .glo "is_up_to",
  .glo "check_text",
  .glo "first_no_piece",
  .glo "check_piece",
  .glo "check_place",
  .glo "what_is_wrong",
  .glo "check_cutting",
  .glo "may_begin_there",
  .glo "first_of",
  .glo "firsts",
  .glo "read_on",
  .glo "changed_text",
  .glo "check_change",
  .glo "same_ahead",
  .glo "patch_between",
  .glo "patch_of",
  .glo "recut",
  .glo "patched",
  .glo "edge",
  .glo "right_edge",
  .glo "left_edge",
  .glo "with_ends",
  .glo "edges_meet",
  .glo "may_be_sign",
  .glo "check_signs",
  .glo "_law_cell_at",
  .glo "_law_numbers",
  .glo "_law_signs",
  .glo "_law_rows",
  .glo "_law_table",
  .glo "_law_cut",
  .glo "_law_pieces",
  .glo "_law_words",
  .glo "_law_whole",
  .glo "_law_fits",
  .glo "_law_long",
  .glo "_law_is_cutting",
  .glo "_law_from_end",
  .glo "_law_parts",
  .glo "_law_good_ends",
  .glo "_law_led",
  .glo "law"]
def fn : List He.DefD := [⟨("is_whole", none), "is_whole", "is_whole", defArgs s_is_whole, defBody s_is_whole, defScope s_is_whole, [], []⟩,
  ⟨("is_up_to", none), "is_up_to", "is_up_to", defArgs s_is_up_to, defBody s_is_up_to, defScope s_is_up_to, [], []⟩,
  ⟨("check_text", none), "check_text", "check_text", defArgs s_check_text, defBody s_check_text, defScope s_check_text, [], []⟩,
  ⟨("first_no_piece", none), "first_no_piece", "first_no_piece", defArgs s_first_no_piece, defBody s_first_no_piece, defScope s_first_no_piece, [], []⟩,
  ⟨("check_piece", none), "check_piece", "check_piece", defArgs s_check_piece, defBody s_check_piece, defScope s_check_piece, [], []⟩,
  ⟨("check_place", none), "check_place", "check_place", defArgs s_check_place, defBody s_check_place, defScope s_check_place, [], []⟩,
  ⟨("what_is_wrong", none), "what_is_wrong", "what_is_wrong", defArgs s_what_is_wrong, defBody s_what_is_wrong, defScope s_what_is_wrong, [], []⟩,
  ⟨("check_cutting", none), "check_cutting", "check_cutting", defArgs s_check_cutting, defBody s_check_cutting, defScope s_check_cutting, [], []⟩,
  ⟨("may_begin_there", none), "may_begin_there", "may_begin_there", defArgs s_may_begin_there, defBody s_may_begin_there, defScope s_may_begin_there, [], []⟩,
  ⟨("first_of", none), "first_of", "first_of", defArgs s_first_of, defBody s_first_of, defScope s_first_of, [], []⟩,
  ⟨("firsts", none), "firsts", "firsts", defArgs s_firsts, defBody s_firsts, defScope s_firsts, [], []⟩,
  ⟨("read_on", none), "read_on", "read_on", defArgs s_read_on, defBody s_read_on, defScope s_read_on, [], []⟩,
  ⟨("changed_text", none), "changed_text", "changed_text", defArgs s_changed_text, defBody s_changed_text, defScope s_changed_text, [], []⟩,
  ⟨("check_change", none), "check_change", "check_change", defArgs s_check_change, defBody s_check_change, defScope s_check_change, [], []⟩,
  ⟨("same_ahead", none), "same_ahead", "same_ahead", defArgs s_same_ahead, defBody s_same_ahead, defScope s_same_ahead, [], []⟩,
  ⟨("patch_between", none), "patch_between", "patch_between", defArgs s_patch_between, defBody s_patch_between, defScope s_patch_between, [], []⟩,
  ⟨("patch_of", none), "patch_of", "patch_of", defArgs s_patch_of, defBody s_patch_of, defScope s_patch_of, [], []⟩,
  ⟨("recut", none), "recut", "recut", defArgs s_recut, defBody s_recut, defScope s_recut, [], []⟩,
  ⟨("patched", none), "patched", "patched", defArgs s_patched, defBody s_patched, defScope s_patched, [], []⟩,
  ⟨("edge", none), "edge", "edge", defArgs s_edge, defBody s_edge, defScope s_edge, [], []⟩,
  ⟨("right_edge", none), "right_edge", "right_edge", defArgs s_right_edge, defBody s_right_edge, defScope s_right_edge, [], []⟩,
  ⟨("left_edge", none), "left_edge", "left_edge", defArgs s_left_edge, defBody s_left_edge, defScope s_left_edge, [], []⟩,
  ⟨("with_ends", none), "with_ends", "with_ends", defArgs s_with_ends, defBody s_with_ends, defScope s_with_ends, [], []⟩,
  ⟨("edges_meet", none), "edges_meet", "edges_meet", defArgs s_edges_meet, defBody s_edges_meet, defScope s_edges_meet, [], []⟩,
  ⟨("Follows", some "__init__"), "__init__", "Follows.__init__", defArgs s_Follows___init__, defBody s_Follows___init__, defScope s_Follows___init__, [], []⟩,
  ⟨("Follows", some "is_alone"), "is_alone", "Follows.is_alone", defArgs s_Follows_is_alone, defBody s_Follows_is_alone, defScope s_Follows_is_alone, [], []⟩,
  ⟨("Follows", some "first_rank"), "first_rank", "Follows.first_rank", defArgs s_Follows_first_rank, defBody s_Follows_first_rank, defScope s_Follows_first_rank, [], []⟩,
  ⟨("Follows", some "pair_all"), "pair_all", "Follows.pair_all", defArgs s_Follows_pair_all, defBody s_Follows_pair_all, defScope s_Follows_pair_all, [], []⟩,
  ⟨("Follows", some "table"), "table", "Follows.table", defArgs s_Follows_table, defBody s_Follows_table, defScope s_Follows_table, [], []⟩,
  ⟨("Follows", some "alone"), "alone", "Follows.alone", defArgs s_Follows_alone, defBody s_Follows_alone, defScope s_Follows_alone, [], []⟩,
  ⟨("Follows", some "has_alone"), "has_alone", "Follows.has_alone", defArgs s_Follows_has_alone, defBody s_Follows_has_alone, defScope s_Follows_has_alone, [], []⟩,
  ⟨("Follows", some "may"), "may", "Follows.may", defArgs s_Follows_may, defBody s_Follows_may, defScope s_Follows_may, [], []⟩,
  ⟨("may_be_sign", none), "may_be_sign", "may_be_sign", defArgs s_may_be_sign, defBody s_may_be_sign, defScope s_may_be_sign, [], []⟩,
  ⟨("check_signs", none), "check_signs", "check_signs", defArgs s_check_signs, defBody s_check_signs, defScope s_check_signs, [], []⟩,
  ⟨("Table", some "__init__"), "__init__", "Table.__init__", defArgs s_Table___init__, defBody s_Table___init__, defScope s_Table___init__, [], []⟩,
  ⟨("Table", some "take_piece"), "take_piece", "Table.take_piece", defArgs s_Table_take_piece, defBody s_Table_take_piece, defScope s_Table_take_piece, [], []⟩,
  ⟨("Table", some "may_take_row"), "may_take_row", "Table.may_take_row", defArgs s_Table_may_take_row, defBody s_Table_may_take_row, defScope s_Table_may_take_row, [], []⟩,
  ⟨("Table", some "take_row"), "take_row", "Table.take_row", defArgs s_Table_take_row, defBody s_Table_take_row, defScope s_Table_take_row, [], []⟩,
  ⟨("Table", some "signs"), "signs", "Table.signs", defArgs s_Table_signs, defBody s_Table_signs, defScope s_Table_signs, [], []⟩,
  ⟨("Table", some "rows"), "rows", "Table.rows", defArgs s_Table_rows, defBody s_Table_rows, defScope s_Table_rows, [], []⟩,
  ⟨("Table", some "pieces"), "pieces", "Table.pieces", defArgs s_Table_pieces, defBody s_Table_pieces, defScope s_Table_pieces, [], []⟩,
  ⟨("Table", some "which"), "which", "Table.which", defArgs s_Table_which, defBody s_Table_which, defScope s_Table_which, [], []⟩,
  ⟨("Table", some "parts"), "parts", "Table.parts", defArgs s_Table_parts, defBody s_Table_parts, defScope s_Table_parts, [], []⟩,
  ⟨("Table", some "rank"), "rank", "Table.rank", defArgs s_Table_rank, defBody s_Table_rank, defScope s_Table_rank, [], []⟩,
  ⟨("Table", some "longest"), "longest", "Table.longest", defArgs s_Table_longest, defBody s_Table_longest, defScope s_Table_longest, [], []⟩,
  ⟨("_law_cell_at", none), "_law_cell_at", "_law_cell_at", defArgs s__law_cell_at, defBody s__law_cell_at, defScope s__law_cell_at, [], []⟩,
  ⟨("_law_numbers", none), "_law_numbers", "_law_numbers", defArgs s__law_numbers, defBody s__law_numbers, defScope s__law_numbers, [], []⟩,
  ⟨("_law_signs", none), "_law_signs", "_law_signs", defArgs s__law_signs, defBody s__law_signs, defScope s__law_signs, [], []⟩,
  ⟨("_law_rows", none), "_law_rows", "_law_rows", defArgs s__law_rows, defBody s__law_rows, defScope s__law_rows, [], []⟩,
  ⟨("_law_table", none), "_law_table", "_law_table", defArgs s__law_table, defBody s__law_table, defScope s__law_table, [], []⟩,
  ⟨("_law_cut", none), "_law_cut", "_law_cut", defArgs s__law_cut, defBody s__law_cut, defScope s__law_cut, [], []⟩,
  ⟨("_law_pieces", none), "_law_pieces", "_law_pieces", defArgs s__law_pieces, defBody s__law_pieces, defScope s__law_pieces, [], []⟩,
  ⟨("_law_words", none), "_law_words", "_law_words", defArgs s__law_words, defBody s__law_words, defScope s__law_words, [], []⟩,
  ⟨("_law_whole", none), "_law_whole", "_law_whole", defArgs s__law_whole, defBody s__law_whole, defScope s__law_whole, [], []⟩,
  ⟨("_law_fits", none), "_law_fits", "_law_fits", defArgs s__law_fits, defBody s__law_fits, defScope s__law_fits, [], []⟩,
  ⟨("_law_long", none), "_law_long", "_law_long", defArgs s__law_long, defBody s__law_long, defScope s__law_long, [], []⟩,
  ⟨("_law_is_cutting", none), "_law_is_cutting", "_law_is_cutting", defArgs s__law_is_cutting, defBody s__law_is_cutting, defScope s__law_is_cutting, [], []⟩,
  ⟨("_law_from_end", none), "_law_from_end", "_law_from_end", defArgs s__law_from_end, defBody s__law_from_end, defScope s__law_from_end, [], []⟩,
  ⟨("_law_parts", none), "_law_parts", "_law_parts", defArgs s__law_parts, defBody s__law_parts, defScope s__law_parts, [], []⟩,
  ⟨("_law_good_ends", none), "_law_good_ends", "_law_good_ends", defArgs s__law_good_ends, defBody s__law_good_ends, defScope s__law_good_ends, [], []⟩,
  ⟨("_law_led", none), "_law_led", "_law_led", defArgs s__law_led, defBody s__law_led, defScope s__law_led, [], []⟩,
  ⟨("law", none), "law", "law", defArgs s_law, defBody s_law, defScope s_law, [], []⟩]

abbrev RR : PySem.W.OpenRow := PySem.W.OpenLaw.row PySem.Challenge.rw_joinranks_k45_whole_patches_lead
def loose : List PySem.Str := (["_wall", "JoinError", "NoTable", "NoCutting", "NoSign", "NoPiece", "NoNumber", "NoPlace", "is_whole", "is_up_to", "check_text", "first_no_piece", "check_piece", "check_place", "what_is_wrong", "check_cutting", "may_begin_there", "first_of", "firsts", "read_on", "changed_text", "check_change", "same_ahead", "patch_between", "patch_of", "recut", "patched", "edge", "right_edge", "left_edge"] : List PySem.Str) ++ (["with_ends", "edges_meet", "Follows", "MOST_SIGNS", "MOST_ROWS", "MOST_JOINED", "BLANK_CODE", "PERCENT_CODE", "TILDE_CODE", "may_be_sign", "check_signs", "Table", "_law_cell_at", "_law_numbers", "_law_signs", "_law_rows", "_law_table", "_law_cut", "_law_pieces", "_law_words", "_law_whole", "_law_fits", "_law_long", "_law_is_cutting", "_law_from_end", "_law_parts", "_law_good_ends", "_law_led"] : List PySem.Str)
abbrev hk : PySem.W.Hook := He.hookX 6 fa fn [] [] (fun K => (exs K).all id)
def ob (s : PySem.W.SharedT) : He.AlX := He.obsX 6 fa fn [] [] (fun K => (exs K).all id) (HandSHeadRun.getT s)
theorem ob_eq (s : PySem.W.SharedT) : ob s = hk.obs s.abs := He.obsX_eq (HandSHeadRun.getT_eq s)
theorem run (w : World) : HandSHeadRun.RunEq RR (PySem.W.view RR.prog [68]) hk ob 8000 loose w := by
  intro os
  kernel_rfl
end Jr
namespace Jr
open PySem PySem.Spec PyProof.Rows L2
/-! ### what stands in a row on the way was made of its own signs alone -/
theorem pass1_split (l r : Str) : ∀ (xs A B : List Str), pass1 l r xs = A ++ B → ∃ XA XB, xs = XA ++ XB ∧ pass1 l r XA = A ∧ pass1 l r XB = B
  | xs, [], B, h => ⟨[], xs, rfl, pass1_nil l r, h⟩
  | [], a :: A, B, h => by rw [pass1_nil] at h; cases h
  | [x], a :: A, B, h => by
    rw [pass1_one] at h
    have h1 : x = a ∧ [] = A ++ B := by simpa using h
    obtain ⟨rfl, h2⟩ := h1
    obtain ⟨rfl, rfl⟩ := List.append_eq_nil_iff.mp h2.symm
    exact ⟨[x], [], rfl, pass1_one l r x, pass1_nil l r⟩
  | x :: y :: t, a :: A, B, h => by
    by_cases c : x = l ∧ y = r
    · obtain ⟨rfl, rfl⟩ := c
      rw [pass1_yes, List.cons_append] at h
      obtain ⟨e1, e2⟩ := List.cons.inj h
      obtain ⟨XA, XB, e3, e4, e5⟩ := pass1_split x y t A B e2
      exact ⟨x :: y :: XA, XB, by rw [e3]; rfl, by rw [pass1_yes, e4, e1], e5⟩
    · rw [pass1_no t c, List.cons_append] at h
      obtain ⟨e1, e2⟩ := List.cons.inj h
      obtain ⟨XA, XB, e3, e4, e5⟩ := pass1_split l r (y :: t) A B e2
      refine ⟨x :: XA, XB, by rw [e3]; rfl, ?_, e5⟩
      cases XA with
      | nil => rw [pass1_nil] at e4; rw [pass1_one, ← e4, e1]
      | cons y' t' =>
        rw [List.cons_append] at e3
        obtain ⟨e6, _⟩ := List.cons.inj e3
        rw [pass1_no t' (fun z => c ⟨z.1, e6.trans z.2⟩), e4, e1]
termination_by xs => xs.length
theorem passAll_split : ∀ (rs : Rws) (xs A B : List Str), passAll rs xs = A ++ B → ∃ XA XB, xs = XA ++ XB ∧ passAll rs XA = A ∧ passAll rs XB = B
  | [], _, A, B, h => ⟨A, B, h, rfl, rfl⟩
  | r :: rs, xs, A, B, h => by
    obtain ⟨YA, YB, e1, e2, e3⟩ := passAll_split rs (pass1 r.1 r.2 xs) A B h
    obtain ⟨XA, XB, e4, e5, e6⟩ := pass1_split r.1 r.2 xs YA YB e1
    refine ⟨XA, XB, e4, ?_, ?_⟩
    · show passAll rs (pass1 r.1 r.2 XA) = A
      rw [e5, e2]
    · show passAll rs (pass1 r.1 r.2 XB) = B
      rw [e6, e3]
theorem passAll_one : ∀ (rs : Rws) (p : Str), passAll rs [p] = [p]
  | [], _ => rfl
  | r :: rs, p => by
    show passAll rs (pass1 r.1 r.2 [p]) = _
    rw [pass1_one, passAll_one rs p]
theorem passAll_app (a b : Rws) (xs : List Str) : passAll (a ++ b) xs = passAll b (passAll a xs) := List.foldl_append
theorem passAll_cut (rs : Rws) (n : Nat) (xs : List Str) : passAll rs xs = passAll (rs.drop n) (passAll (rs.take n) xs) := by
  rw [← passAll_app, List.take_append_drop]
theorem flat_map_sgn (cs : List Nat) : flat (cs.map sgn) = cs := by
  unfold flat
  rw [List.flatMap_map]
  induction cs with
  | nil => rfl
  | cons c l ih => rw [List.flatMap_cons, ih]; rfl
/-- signs that a row of passes makes into p are p's signs -/
theorem sgs_back {rs : Rws} {cs : List Nat} {p : Str} (h : passAll rs (cs.map sgn) = [p]) : cs.map sgn = sgs p := by
  have e := passAll_flat rs (cs.map sgn)
  rw [h, flat_map_sgn] at e
  have e2 : flat [p] = p.cps.toList := by rw [flat_cons]; simp [flat]
  rw [e2] at e
  unfold sgs
  rw [e]
theorem way_split {rs : Rws} {t : Str} {A B : List Str} (h : passAll rs (sgs t) = A ++ B) : ∃ ca cb : List Nat, t.cps.toList = ca ++ cb ∧ passAll rs (ca.map sgn) = A ∧ passAll rs (cb.map sgn) = B := by
  obtain ⟨XA, XB, e1, e2, e3⟩ := passAll_split rs _ A B h
  unfold sgs at e1
  obtain ⟨ca, cb, e4, e5, e6⟩ := List.map_eq_append_iff.mp e1
  exact ⟨ca, cb, e4, by rw [e5, e2], by rw [e6, e3]⟩
theorem way_alone {rs : Rws} {t p : Str} (h : p ∈ passAll rs (sgs t)) : passAll rs (sgs p) = [p] := by
  obtain ⟨A, B, e⟩ := List.append_of_mem h
  obtain ⟨XA, X, e1, _, e2⟩ := passAll_split rs _ A (p :: B) e
  obtain ⟨XP, XB, e3, e4, _⟩ := passAll_split rs X [p] B e2
  rw [e3] at e1
  unfold sgs at e1
  obtain ⟨c1, c2, _, _, e5⟩ := List.map_eq_append_iff.mp e1
  obtain ⟨c3, c4, _, e6, _⟩ := List.map_eq_append_iff.mp e5
  rw [← e6] at e4
  rw [← sgs_back e4, e4]
theorem on_way_alone {rs : Rws} {t p : Str} {n : Nat} (h : p ∈ passAll (rs.take n) (sgs t)) : sweep rs p = [p] := by
  unfold sweep
  rw [passAll_cut rs n, way_alone h, passAll_one]
/-- a piece that stands alone and is no sign was made by a row, of its two parts -/
theorem made_by {rs : Rws} {t : Str} (ht : 2 ≤ t.length) : ∀ n, n ≤ rs.length → passAll (rs.take n) (sgs t) = [t] → ∃ j r, rs[j]? = some r ∧ j < n ∧ passAll (rs.take j) (sgs t) = [r.1, r.2] ∧ jn r = t := fun n => by
  induction n with
  | zero =>
    intro _ h
    have h2 : sgs t = [t] := h
    have := congrArg List.length h2
    rw [sgs_len] at this
    simp at this
    omega
  | succ n ih =>
    intro hn h
    have hx : rs[n]? = some rs[n] := List.getElem?_eq_getElem (by omega)
    rw [passAll_take _ hx] at h
    generalize hX : passAll (rs.take n) (sgs t) = X at h
    match X, h with
    | [], h => rw [pass1_nil] at h; cases h
    | [x], h =>
      rw [pass1_one] at h
      rw [h] at hX
      obtain ⟨j, r, h1, h2, h3⟩ := ih (by omega) hX
      exact ⟨j, r, h1, by omega, h3⟩
    | x :: y :: u, h =>
      by_cases c : x = rs[n].1 ∧ y = rs[n].2
      · obtain ⟨rfl, rfl⟩ := c
        rw [pass1_yes] at h
        obtain ⟨e1, e2⟩ := List.cons.inj h
        have e3 : u = [] := by
          by_cases c : u = []
          · exact c
          · exact absurd e2 (pass1_ne _ _ u c)
        subst e3
        exact ⟨n, rs[n], hx, by omega, hX, e1⟩
      · rw [pass1_no u c] at h
        obtain ⟨e1, e2⟩ := List.cons.inj h
        exact absurd e2 (pass1_ne _ _ (y :: u) (by simp))
theorem TabOk.jn_inj {z : Str} {rs : Rws} (T : TabOk z rs) {i j : Nat} {a b : Str × Str} (ha : rs[i]? = some a) (hb : rs[j]? = some b) (e : jn a = jn b) : i = j := by
  have key : ∀ {i j : Nat} {a b : Str × Str}, rs[i]? = some a → rs[j]? = some b → jn a = jn b → ¬ i < j := fun {i j a b} ha hb e h => by
    refine (T.rows j b hb).new ?_
    rw [← e]
    refine List.mem_append_right _ (List.mem_map.mpr ⟨a, ?_, rfl⟩)
    have : (rs.take j)[i]? = some a := by rw [List.getElem?_take, if_pos h, ha]
    exact List.mem_of_getElem? this
  have h1 := key ha hb e
  have h2 := key hb ha e.symm
  omega
theorem parts_alone {z : Str} {rs : Rws} (T : TabOk z rs) {i : Nat} {l r : Str} (hi : rs[i]? = some (l, r)) (h : sweep rs (l ++ r) = [l ++ r]) : sweep rs l = [l] ∧ sweep rs r = [r] := by
  have ro := T.rows i _ hi
  have l1 := ((T.take i).plen ro.lm).1
  have l2 := ((T.take i).plen ro.rm).1
  have l1 : 1 ≤ l.length := l1
  have l2 : 1 ≤ r.length := l2
  have la := app_len l r
  have h' : passAll (rs.take rs.length) (sgs (l ++ r)) = [l ++ r] := by rw [List.take_length]; exact h
  obtain ⟨j, q, h1, _, h2, h3⟩ := made_by (by omega) rs.length (Nat.le_refl _) h'
  have e : i = j := T.jn_inj hi h1 (show l ++ r = jn q from h3.symm)
  subst e
  rw [hi] at h1
  cases h1
  refine ⟨on_way_alone (n := i) (t := l ++ r) ?_, on_way_alone (n := i) (t := l ++ r) ?_⟩
  · rw [h2]; exact List.mem_cons_self
  · rw [h2]; exact List.mem_cons_of_mem _ List.mem_cons_self
end Jr
namespace Jr
open PySem PySem.Spec PyProof.Rows L2
/-! ### what falls at a border, and when -/
theorem getLast_cons {α : Type} {a : α} : ∀ {xs : List α}, xs ≠ [] → (a :: xs).getLast? = xs.getLast?
  | [], h => absurd rfl h
  | _ :: _, _ => List.getLast?_cons_cons
/-- a pass over two rows side by side: the border falls just where the pass of the first leaves l last and the second begins with r -/
theorem pass1_app {l r : Str} (hr : 1 ≤ r.length) : ∀ (A B : List Str), A ≠ [] →
    pass1 l r (A ++ B) = if (pass1 l r A).getLast? = some l ∧ B.head? = some r then (pass1 l r A).dropLast ++ (l ++ r) :: pass1 l r B.tail else pass1 l r A ++ pass1 l r B
  | [], _, h => absurd rfl h
  | [a], [], _ => by
    rw [List.append_nil, pass1_one, if_neg (by simp), pass1_nil, List.append_nil]
  | [a], b :: B, _ => by
    show pass1 l r (a :: b :: B) = _
    rw [pass1_one]
    by_cases c : a = l ∧ b = r
    · obtain ⟨rfl, rfl⟩ := c
      rw [pass1_yes, if_pos ⟨rfl, rfl⟩]; rfl
    · rw [pass1_no B c, if_neg (fun z => c ⟨Option.some.inj z.1, Option.some.inj z.2⟩)]; rfl
  | a :: b :: t, B, _ => by
    by_cases c : a = l ∧ b = r
    · obtain ⟨rfl, rfl⟩ := c
      show pass1 a b (a :: b :: (t ++ B)) = _
      rw [pass1_yes, pass1_yes]
      by_cases e : t = []
      · subst e
        rw [pass1_nil, if_neg (fun z => app_ne hr (Option.some.inj z.1))]; rfl
      · have ne := pass1_ne a b t e
        rw [pass1_app hr t B e, getLast_cons ne, List.dropLast_cons_of_ne_nil ne]
        by_cases c2 : (pass1 a b t).getLast? = some a ∧ B.head? = some b
        · rw [if_pos c2, if_pos c2]; rfl
        · rw [if_neg c2, if_neg c2]; rfl
    · show pass1 l r (a :: b :: (t ++ B)) = _
      rw [pass1_no _ c, pass1_no _ c]
      have ne := pass1_ne l r (b :: t) (by simp)
      have ih := pass1_app (l := l) hr (b :: t) B (by simp)
      rw [List.cons_append] at ih
      rw [ih, getLast_cons ne, List.dropLast_cons_of_ne_nil ne]
      by_cases c2 : (pass1 l r (b :: t)).getLast? = some l ∧ B.head? = some r
      · rw [if_pos c2, if_pos c2]; rfl
      · rw [if_neg c2, if_neg c2]; rfl
termination_by A => A.length
theorem plc_ge (l r : Str) : ∀ (n : Nat) (X : List Str) (m : Nat), m ∈ plc l r n X → n + l.length ≤ m
  | n, [], m, h => by unfold plc at h; cases h
  | n, [a], m, h => by unfold plc at h; cases h
  | n, a :: b :: t, m, h => by
    rw [plc] at h
    by_cases c : a = l ∧ b = r
    · rw [if_pos c] at h
      rcases List.mem_cons.mp h with e | e
      · rw [e, c.1]; exact Nat.le_refl _
      · have := plc_ge l r _ t m e
        omega
    · rw [if_neg c] at h
      have := plc_ge l r _ (b :: t) m h
      omega
termination_by _ X => X.length
theorem flat_clen (x : Str) (xs : List Str) : (flat (x :: xs)).length = x.length + (flat xs).length := by
  rw [flat_cons, List.length_append, len_cps]
theorem plc_app {l r : Str} (hl : 1 ≤ l.length) (hr : 1 ≤ r.length) : ∀ (n : Nat) (A B : List Str), A ≠ [] →
    (n + (flat A).length ∈ plc l r n (A ++ B) ↔ (pass1 l r A).getLast? = some l ∧ B.head? = some r)
  | _, [], _, h => absurd rfl h
  | n, [a], [], _ => by
    rw [List.append_nil]
    unfold plc
    simp
  | n, [a], b :: B, _ => by
    show _ ∈ plc l r n (a :: b :: B) ↔ _
    rw [pass1_one, plc, flat_clen]
    have f0 : (flat ([] : List Str)).length = 0 := rfl
    rw [f0]
    by_cases c : a = l ∧ b = r
    · obtain ⟨rfl, rfl⟩ := c
      rw [if_pos ⟨rfl, rfl⟩]
      exact ⟨fun _ => ⟨rfl, rfl⟩, fun _ => List.mem_cons_self⟩
    · rw [if_neg c]
      refine ⟨fun h => ?_, fun z => absurd ⟨Option.some.inj z.1, Option.some.inj z.2⟩ c⟩
      have := plc_ge l r _ _ _ h
      omega
  | n, a :: b :: t, B, _ => by
    by_cases c : a = l ∧ b = r
    · obtain ⟨rfl, rfl⟩ := c
      show _ ∈ plc a b n (a :: b :: (t ++ B)) ↔ _
      rw [plc, if_pos ⟨rfl, rfl⟩, pass1_yes, flat_clen, flat_clen]
      have e1 : n + (a.length + (b.length + (flat t).length)) = n + a.length + b.length + (flat t).length := by omega
      have ne1 : ¬ n + a.length + b.length + (flat t).length = n + a.length := by omega
      rw [e1]
      by_cases e : t = []
      · subst e
        rw [pass1_nil]
        refine ⟨fun h => ?_, fun z => absurd (Option.some.inj z.1) (app_ne hr)⟩
        rcases List.mem_cons.mp h with h | h
        · exact absurd h ne1
        · have := plc_ge a b _ _ _ h
          have f0 : (flat ([] : List Str)).length = 0 := rfl
          rw [f0] at this
          omega
      · rw [getLast_cons (pass1_ne a b t e), ← plc_app hl hr (n + a.length + b.length) t B e]
        exact ⟨fun h => (List.mem_cons.mp h).resolve_left ne1, fun h => List.mem_cons_of_mem _ h⟩
    · show _ ∈ plc l r n (a :: b :: (t ++ B)) ↔ _
      rw [plc, if_neg c, pass1_no t c, getLast_cons (pass1_ne l r (b :: t) (by simp)), ← plc_app hl hr (n + a.length) (b :: t) B (by simp), flat_clen]
      have e1 : n + (a.length + (flat (b :: t)).length) = n + a.length + (flat (b :: t)).length := by omega
      rw [e1]
      exact Iff.rfl
termination_by _ A => A.length
/-- where a border falls it is gone -/
theorem gone {l r : Str} (hl : 1 ≤ l.length) (hr : 1 ≤ r.length) {A B : List Str} (hA : A ≠ []) (h : (flat A).length ∈ plc l r 0 (A ++ B)) {Y Z : List Str} (e : pass1 l r (A ++ B) = Y ++ Z) : (flat Y).length ≠ (flat A).length := fun el => by
  obtain ⟨XA, XB, e1, e2, e3⟩ := pass1_split l r _ Y Z e
  have eA : (flat XA).length = (flat A).length := by rw [← el, ← e2, pass1_flat]
  have nX : XA ≠ [] := fun z => by
    have h2 := plc_ge l r 0 _ _ h
    rw [z] at eA
    have f0 : (flat ([] : List Str)).length = 0 := rfl
    rw [f0] at eA
    omega
  have h1 : 0 + (flat XA).length ∈ plc l r 0 (XA ++ XB) := by rw [Nat.zero_add, eA, ← e1]; exact h
  have c := (plc_app hl hr 0 XA XB nX).mp h1
  have p := pass1_app hr XA XB nX (l := l)
  rw [if_pos c, ← e1, e, ← e2, ← e3] at p
  have ne := pass1_ne l r XA nX
  have pl : 0 < (pass1 l r XA).length := List.length_pos_iff.mpr ne
  have z1 := congrArg (fun L : List Str => L[(pass1 l r XA).length - 1]?) p
  rw [List.getElem?_append_left (by omega), List.getElem?_append_right (by rw [List.length_dropLast]; omega), List.length_dropLast, Nat.sub_self] at z1
  rw [← List.getLast?_eq_getElem?, c.1] at z1
  have z2 : l = l ++ r := by simpa using z1
  exact app_ne hr z2.symm
/-- what is not fallen stays two rows side by side -/
theorem stays {l r : Str} (hl : 1 ≤ l.length) (hr : 1 ≤ r.length) {A B : List Str} (hA : A ≠ []) (h : ¬ (flat A).length ∈ plc l r 0 (A ++ B)) : pass1 l r (A ++ B) = pass1 l r A ++ pass1 l r B := by
  have e := plc_app hl hr 0 A B hA
  rw [Nat.zero_add] at e
  rw [pass1_app hr A B hA, if_neg (fun z => h (e.mpr z))]
/-- the rank at which the border at m falls -/
def metR : Nat → Rws → List Str → Nat → Option Nat
  | _, [], _, _ => none
  | k, q :: rs, X, m => if m ∈ plc q.1 q.2 0 X then some k else metR (k + 1) rs (pass1 q.1 q.2 X) m
def PosR (rs : Rws) : Prop := ∀ q ∈ rs, 1 ≤ q.1.length ∧ 1 ≤ q.2.length
theorem split_back {q : Str × Str} {rs : Rws} (hl : 1 ≤ q.1.length) (hr : 1 ≤ q.2.length) {A B : List Str} (hA : A ≠ []) (h : passAll (q :: rs) (A ++ B) = passAll (q :: rs) A ++ passAll (q :: rs) B) :
    ¬ (flat A).length ∈ plc q.1 q.2 0 (A ++ B) := fun c => by
  have h2 : passAll rs (pass1 q.1 q.2 (A ++ B)) = passAll rs (pass1 q.1 q.2 A) ++ passAll rs (pass1 q.1 q.2 B) := h
  obtain ⟨Y, Z, e1, e2, _⟩ := passAll_split rs _ _ _ h2
  refine gone hl hr hA c e1 ?_
  rw [← passAll_flat rs Y, e2, passAll_flat, pass1_flat]
theorem metR_none : ∀ (rs : Rws) (k : Nat) (A B : List Str), PosR rs → A ≠ [] → (metR k rs (A ++ B) (flat A).length = none ↔ passAll rs (A ++ B) = passAll rs A ++ passAll rs B)
  | [], _, A, B, _, _ => ⟨fun _ => rfl, fun _ => rfl⟩
  | q :: rs, k, A, B, hp, hA => by
    obtain ⟨hl, hr⟩ := hp q List.mem_cons_self
    unfold metR
    by_cases c : (flat A).length ∈ plc q.1 q.2 0 (A ++ B)
    · rw [if_pos c]
      exact ⟨fun z => (by cases z), fun z => absurd c (split_back hl hr hA z)⟩
    · rw [if_neg c, stays hl hr hA c]
      have ih := metR_none rs (k + 1) (pass1 q.1 q.2 A) (pass1 q.1 q.2 B) (fun x hx => hp x (List.mem_cons_of_mem _ hx)) (pass1_ne _ _ A hA)
      rw [pass1_flat] at ih
      rw [ih]
      show _ ↔ passAll rs (pass1 q.1 q.2 (A ++ B)) = _
      rw [stays hl hr hA c]
      exact Iff.rfl
/-- it falls by the neighbours alone -/
theorem metR_near : ∀ (rs : Rws) (k : Nat) (A1 A2 B1 B2 : List Str), PosR rs → A2 ≠ [] → B1 ≠ [] → passAll rs (A1 ++ A2) = passAll rs A1 ++ passAll rs A2 → passAll rs (B1 ++ B2) = passAll rs B1 ++ passAll rs B2 →
    metR k rs ((A1 ++ A2) ++ (B1 ++ B2)) (flat (A1 ++ A2)).length = metR k rs (A2 ++ B1) (flat A2).length
  | [], _, _, _, _, _, _, _, _, _, _ => rfl
  | q :: rs, k, A1, A2, B1, B2, hp, hA, hB, eA, eB => by
    obtain ⟨hl, hr⟩ := hp q List.mem_cons_self
    have sp : ∀ X Y : List Str, passAll (q :: rs) (X ++ Y) = passAll (q :: rs) X ++ passAll (q :: rs) Y → pass1 q.1 q.2 (X ++ Y) = pass1 q.1 q.2 X ++ pass1 q.1 q.2 Y := fun X Y e => by
      by_cases hX : X = []
      · subst hX
        rw [pass1_nil]; rfl
      · exact stays hl hr hX (split_back hl hr hX e)
    have e1 := sp A1 A2 eA
    have e2 := sp B1 B2 eB
    have n12 : A1 ++ A2 ≠ [] := fun z => hA (List.append_eq_nil_iff.mp z).2
    have cA := plc_app hl hr 0 (A1 ++ A2) (B1 ++ B2) n12
    have cB := plc_app hl hr 0 A2 B1 hA
    rw [Nat.zero_add] at cA cB
    have neA := pass1_ne q.1 q.2 A2 hA
    have gl : (pass1 q.1 q.2 (A1 ++ A2)).getLast? = (pass1 q.1 q.2 A2).getLast? := by
      rw [e1, List.getLast?_append]
      cases e : (pass1 q.1 q.2 A2).getLast? with
      | none => exact absurd (List.getLast?_eq_none_iff.mp e) neA
      | some x => rfl
    have hd : (B1 ++ B2).head? = B1.head? := by
      cases B1 with
      | nil => exact absurd rfl hB
      | cons x t => rfl
    rw [gl, hd, ← cB] at cA
    unfold metR
    by_cases c : (flat A2).length ∈ plc q.1 q.2 0 (A2 ++ B1)
    · rw [if_pos c, if_pos (cA.mpr c)]
    · have c2 := fun z => c (cA.mp z)
      rw [if_neg c, if_neg c2, stays hl hr n12 c2, stays hl hr hA c, e1, e2]
      have ih := metR_near rs (k + 1) (pass1 q.1 q.2 A1) (pass1 q.1 q.2 A2) (pass1 q.1 q.2 B1) (pass1 q.1 q.2 B2) (fun x hx => hp x (List.mem_cons_of_mem _ hx)) neA (pass1_ne _ _ B1 hB) (by rw [← e1]; exact eA) (by rw [← e2]; exact eB)
      rw [pass1_flat, ← e1, pass1_flat] at ih
      rw [← ih, e1]
/-- the joinings: rank and place of each border that falls -/
def jls : Nat → Rws → List Str → List (Nat × Nat)
  | _, [], _ => []
  | k, q :: rs, X => (plc q.1 q.2 0 X).map (fun m => (k, m)) ++ jls (k + 1) rs (pass1 q.1 q.2 X)
theorem metR_find : ∀ (rs : Rws) (k : Nat) (X : List Str) (m : Nat), metR k rs X m = ((jls k rs X).find? fun x => x.2 == m).map (·.1)
  | [], _, _, _ => rfl
  | q :: rs, k, X, m => by
    unfold metR jls
    rw [List.find?_append]
    by_cases c : m ∈ plc q.1 q.2 0 X
    · rw [if_pos c]
      have : ((plc q.1 q.2 0 X).map (fun m => (k, m))).find? (fun x => x.2 == m) = some (k, m) := by
        rw [List.find?_map]
        have : (plc q.1 q.2 0 X).find? ((fun x : Nat × Nat => x.2 == m) ∘ fun m => (k, m)) = some m := by
          generalize plc q.1 q.2 0 X = L at c
          induction L with
          | nil => cases c
          | cons a t ih =>
            by_cases e : a = m
            · subst e; simp
            · rw [List.find?_cons_of_neg (by simpa using e)]
              exact ih ((List.mem_cons.mp c).resolve_left (fun z => e z.symm))
        rw [this]; rfl
      rw [this]; rfl
    · rw [if_neg c]
      have : ((plc q.1 q.2 0 X).map (fun m => (k, m))).find? (fun x => x.2 == m) = none := by
        rw [List.find?_eq_none]
        intro x hx
        obtain ⟨y, hy, rfl⟩ := List.mem_map.mp hx
        simp only [beq_iff_eq]
        exact fun z => c (z ▸ hy)
      rw [this, metR_find rs (k + 1) _ m]; rfl
end Jr
namespace Jr
open PySem PySem.Spec PyProof.Rows L2
theorem jls_take : ∀ (rs : Rws) (k i : Nat) (X : List Str) (q : Str × Str), rs[i]? = some q → jls k (rs.take (i + 1)) X = jls k (rs.take i) X ++ (plc q.1 q.2 0 (passAll (rs.take i) X)).map (fun m => (k + i, m))
  | [], _, _, _, _, h => by simp at h
  | p :: rs, k, 0, X, q, h => by
    have e : p = q := Option.some.inj h
    subst e
    show (plc p.1 p.2 0 X).map (fun m => (k, m)) ++ jls (k + 1) (rs.take 0) _ = _
    rw [List.take_zero]
    show (plc p.1 p.2 0 X).map (fun m => (k, m)) ++ [] = [] ++ _
    rw [List.append_nil, List.nil_append]; rfl
  | p :: rs, k, i + 1, X, q, h => by
    have h2 : rs[i]? = some q := h
    have ih := jls_take rs (k + 1) i (pass1 p.1 p.2 X) q h2
    show (plc p.1 p.2 0 X).map (fun m => (k, m)) ++ jls (k + 1) (rs.take (i + 1)) (pass1 p.1 p.2 X) = ((plc p.1 p.2 0 X).map (fun m => (k, m)) ++ jls (k + 1) (rs.take i) (pass1 p.1 p.2 X)) ++ _
    rw [ih, List.append_assoc]
    have e : k + 1 + i = k + (i + 1) := by omega
    rw [e]; rfl
theorem plc_lt (l r : Str) : ∀ (n : Nat) (X : List Str) (m : Nat), m ∈ plc l r n X → m ≤ n + (flat X).length
  | n, [], m, h => by unfold plc at h; cases h
  | n, [a], m, h => by unfold plc at h; cases h
  | n, a :: b :: t, m, h => by
    rw [plc] at h
    rw [flat_clen, flat_clen]
    by_cases c : a = l ∧ b = r
    · rw [if_pos c] at h
      rcases List.mem_cons.mp h with e | e
      · omega
      · have := plc_lt l r _ t m e
        omega
    · rw [if_neg c] at h
      have := plc_lt l r _ (b :: t) m h
      rw [flat_clen] at this
      omega
termination_by _ X => X.length
/-- all borders that fall are as many as the pieces become less -/
theorem plc_count (l r : Str) : ∀ (n : Nat) (X : List Str), (plc l r n X).length + (pass1 l r X).length = X.length
  | n, [] => by rw [pass1_nil]; unfold plc; rfl
  | n, [a] => by rw [pass1_one]; unfold plc; rfl
  | n, a :: b :: t => by
    rw [plc]
    by_cases c : a = l ∧ b = r
    · rw [if_pos c]
      obtain ⟨rfl, rfl⟩ := c
      rw [pass1_yes]
      have := plc_count a b (n + a.length + b.length) t
      simp only [List.length_cons]
      omega
    · rw [if_neg c, pass1_no t c]
      have := plc_count l r (n + a.length) (b :: t)
      simp only [List.length_cons] at this ⊢
      omega
termination_by _ X => X.length
theorem jls_count : ∀ (rs : Rws) (k : Nat) (X : List Str), (jls k rs X).length + (passAll rs X).length = X.length
  | [], _, X => by show 0 + X.length = X.length; omega
  | q :: rs, k, X => by
    have h1 := plc_count q.1 q.2 0 X
    have h2 := jls_count rs (k + 1) (pass1 q.1 q.2 X)
    show ((plc q.1 q.2 0 X).map (fun m => (k, m)) ++ jls (k + 1) rs (pass1 q.1 q.2 X)).length + (passAll rs (pass1 q.1 q.2 X)).length = X.length
    rw [List.length_append, List.length_map]
    omega
end Jr
namespace Jr
open PySem PySem.Spec PyProof.Rows L2
/-! ### meets, of texts -/
theorem sgs_app (a b : Str) : sgs (a ++ b) = sgs a ++ sgs b := by
  unfold sgs
  rw [app_cps, List.map_append]
theorem flat_sgs_len (a : Str) : (flat (sgs a)).length = a.length := by rw [flat_sgs, len_cps]
theorem TabOk.pos {z : Str} {rs : Rws} (T : TabOk z rs) : PosR rs := fun q hq => by
  obtain ⟨i, hi, e⟩ := List.mem_iff_getElem.mp hq
  have ro := T.rows i q (by rw [List.getElem?_eq_getElem hi, e])
  exact ⟨((T.take i).plen ro.lm).1, ((T.take i).plen ro.rm).1⟩
theorem metR_zero : ∀ (rs : Rws) (k : Nat) (X : List Str), PosR rs → metR k rs X 0 = none
  | [], _, _, _ => rfl
  | q :: rs, k, X, hp => by
    unfold metR
    rw [if_neg, metR_zero rs (k + 1) _ fun x hx => hp x (List.mem_cons_of_mem _ hx)]
    intro h
    have := plc_ge q.1 q.2 0 X 0 h
    have := (hp q List.mem_cons_self).1
    omega
theorem sgs_nil {a : Str} (h : sgs a = []) : a.length = 0 := by rw [← sgs_len, h]; rfl
theorem meet_iff {z : Str} {rs : Rws} (T : TabOk z rs) (a b : Str) : metR 0 rs (sgs (a ++ b)) a.length = none ↔ sweep rs (a ++ b) = sweep rs a ++ sweep rs b := by
  unfold sweep
  rw [sgs_app]
  by_cases h : sgs a = []
  · rw [sgs_nil h, h, metR_zero rs 0 _ T.pos]
    refine ⟨fun _ => ?_, fun _ => rfl⟩
    have : ∀ rs : Rws, passAll rs [] = [] := fun rs => by
      have := passAll_len rs []
      exact List.eq_nil_of_length_eq_zero (by simpa using this)
    rw [this]; rfl
  · rw [← flat_sgs_len a]
    exact metR_none rs 0 (sgs a) (sgs b) T.pos h
theorem meet_near {z : Str} {rs : Rws} (T : TabOk z rs) {o1 o2 a b : Str} (ha : (sweep rs o1).getLast? = some a) (hb : (sweep rs o2).head? = some b) :
    metR 0 rs (sgs (a ++ b)) a.length = metR 0 rs (sgs (o1 ++ o2)) o1.length := by
  obtain ⟨A', eA⟩ : ∃ A', sweep rs o1 = A' ++ [a] := by
    obtain ⟨ys, e⟩ := List.getLast?_eq_some_iff.mp ha
    exact ⟨ys, e⟩
  obtain ⟨B', eB⟩ : ∃ B', sweep rs o2 = [b] ++ B' := by
    cases e : sweep rs o2 with
    | nil => rw [e] at hb; cases hb
    | cons x t =>
      rw [e] at hb
      have : x = b := Option.some.inj hb
      rw [this]
      exact ⟨t, rfl⟩
  obtain ⟨ca, cb, e1, e2, e3⟩ := way_split eA
  obtain ⟨da, db, f1, f2, f3⟩ := way_split eB
  have g1 : sgs o1 = ca.map sgn ++ sgs a := by
    rw [← sgs_back e3]
    unfold sgs
    rw [e1, List.map_append]
  have g2 : sgs o2 = sgs b ++ db.map sgn := by
    rw [← sgs_back f2]
    unfold sgs
    rw [f1, List.map_append]
  rw [sgs_back e3] at e3
  rw [sgs_back f2] at f2
  have na : sgs a ≠ [] := fun z => by
    have := passAll_len rs (sgs a)
    rw [e3, z] at this
    simp at this
  have nb : sgs b ≠ [] := fun z => by
    have := passAll_len rs (sgs b)
    rw [f2, z] at this
    simp at this
  have k1 : passAll rs (ca.map sgn ++ sgs a) = passAll rs (ca.map sgn) ++ passAll rs (sgs a) := by
    rw [← g1, e2, e3]; exact eA
  have k2 : passAll rs (sgs b ++ db.map sgn) = passAll rs (sgs b) ++ passAll rs (db.map sgn) := by
    rw [← g2, f2, f3]; exact eB
  have m := metR_near rs 0 (ca.map sgn) (sgs a) (sgs b) (db.map sgn) T.pos na nb k1 k2
  rw [← g1, ← g2, flat_sgs_len, flat_sgs_len, ← sgs_app, ← sgs_app] at m
  exact m.symm
end Jr
namespace Jr
open PySem PySem.Spec PyProof.Rows L2
/-! ### edges -/
def sdr (side : Nat) (r : Str × Str) : Str := if side = 0 then r.1 else r.2
inductive Edge (rs : Rws) (side : Nat) : Str → List Str → Prop
  | one {p : Str} : (∀ r ∈ rs, ¬ jn r = p) → Edge rs side p [p]
  | more {p : Str} {r : Str × Str} {es : List Str} : r ∈ rs → jn r = p → Edge rs side (sdr side r) es → Edge rs side p (p :: es)
theorem jn_inj {z : Str} {rs : Rws} (T : TabOk z rs) {r s : Str × Str} (hr : r ∈ rs) (hs : s ∈ rs) (e : jn r = jn s) : r = s := by
  have nd := (List.nodup_append.mp T.nodup).2.1
  obtain ⟨i, hi, ei⟩ := List.mem_iff_getElem.mp hr
  obtain ⟨j, hj, ej⟩ := List.mem_iff_getElem.mp hs
  have hij : i = j := by
    have h1 : i < (rs.map jn).length := by rw [List.length_map]; exact hi
    have h2 : j < (rs.map jn).length := by rw [List.length_map]; exact hj
    have ee : (rs.map jn)[i] = (rs.map jn)[j] := by rw [List.getElem_map, List.getElem_map, ei, ej, e]
    rcases Nat.lt_trichotomy i j with h | h | h
    · exact absurd ee (List.pairwise_iff_getElem.mp nd i j h1 h2 h)
    · exact h
    · exact absurd ee.symm (List.pairwise_iff_getElem.mp nd j i h2 h1 h)
  subst hij
  rw [← ei, ← ej]
theorem Edge.unique {z : Str} {rs : Rws} (T : TabOk z rs) {side : Nat} {p : Str} {es fs : List Str} (h : Edge rs side p es) : Edge rs side p fs → es = fs := by
  induction h generalizing fs with
  | one n =>
    intro h2
    cases h2 with
    | one _ => rfl
    | more hr e _ => exact absurd e (n _ hr)
  | more hr e _ ih =>
    intro h2
    cases h2 with
    | one n => exact absurd e (n _ hr)
    | more hr2 e2 q =>
      have := jn_inj T hr hr2 (e.trans e2.symm)
      subst this
      rw [ih q]
theorem Edge.asc {z : Str} {rs : Rws} (T : TabOk z rs) {side : Nat} {p : Str} {es : List Str} (h : Edge rs side p es) (hp : p ∈ pcs z rs) : ∀ x ∈ es, Asc x := by
  induction h with
  | one _ =>
    intro x hx
    rw [List.mem_singleton.mp hx]
    exact T.asc hp
  | @more p r es hr e _ ih =>
    have hs : sdr side r ∈ pcs z rs := by
      obtain ⟨i, hi, ei⟩ := List.mem_iff_getElem.mp hr
      have ro := T.rows i r (by rw [List.getElem?_eq_getElem hi, ei])
      have up : ∀ q, q ∈ pcs z (rs.take i) → q ∈ pcs z rs := fun q hq => by
        unfold pcs at hq ⊢
        rcases List.mem_append.mp hq with h | h
        · exact List.mem_append_left _ h
        · obtain ⟨s, hs, rfl⟩ := List.mem_map.mp h
          exact List.mem_append_right _ (List.mem_map.mpr ⟨s, List.mem_of_mem_take hs, rfl⟩)
      unfold sdr
      split
      · exact up _ ro.lm
      · exact up _ ro.rm
    intro x hx
    rcases List.mem_cons.mp hx with e2 | e2
    · rw [e2]; exact T.asc hp
    · exact ih hs x e2
theorem part_in {z : Str} {rs : Rws} (T : TabOk z rs) {side : Nat} {r : Str × Str} (hr : r ∈ rs) : sdr side r ∈ pcs z rs ∧ (sdr side r).length < (jn r).length := by
  obtain ⟨i, hi, ei⟩ := List.mem_iff_getElem.mp hr
  have ro := T.rows i r (by rw [List.getElem?_eq_getElem hi, ei])
  have up : ∀ q, q ∈ pcs z (rs.take i) → q ∈ pcs z rs := fun q hq => by
    unfold pcs at hq ⊢
    rcases List.mem_append.mp hq with h | h
    · exact List.mem_append_left _ h
    · obtain ⟨s, hs, rfl⟩ := List.mem_map.mp h
      exact List.mem_append_right _ (List.mem_map.mpr ⟨s, List.mem_of_mem_take hs, rfl⟩)
  have l1 := (T.take i).plen ro.lm
  have l2 := (T.take i).plen ro.rm
  have le : (jn r).length = r.1.length + r.2.length := app_len _ _
  unfold sdr
  split
  · exact ⟨up _ ro.lm, by omega⟩
  · exact ⟨up _ ro.rm, by omega⟩
theorem no_row {z : Str} {rs : Rws} (T : TabOk z rs) {p : Str} (h : p ∈ sgs z) : ∀ r ∈ rs, ¬ jn r = p := fun r hr e => by
  have nd := (List.nodup_append.mp T.nodup).2.2
  exact nd p h (jn r) (List.mem_map.mpr ⟨r, hr, rfl⟩) e.symm
theorem row_of {z : Str} {rs : Rws} {p : Str} (h : p ∈ pcs z rs) : p ∈ sgs z ∨ ∃ (j : Nat) (r : Str × Str), rs[j]? = some r ∧ jn r = p := by
  rcases List.mem_append.mp h with h | h
  · exact .inl h
  · obtain ⟨r, hr, e⟩ := List.mem_map.mp h
    obtain ⟨j, hj, ej⟩ := List.mem_iff_getElem.mp hr
    exact .inr ⟨j, r, by rw [List.getElem?_eq_getElem hj, ej], e⟩
/-! ### the law's dict of the rows by what they make -/
def madeD : List Addr → Rws → List (Key × V)
  | a :: as, r :: rs => (Sum.inr (jn r), V.ref a) :: madeD as rs
  | _, _ => []
theorem made_none : ∀ {as : List Addr} {rs : Rws} {p : Str}, (∀ r ∈ rs, ¬ jn r = p) → valV (madeD as rs) (Sum.inr p) = none
  | [], _, _, _ => by unfold madeD; rfl
  | _ :: _, [], _, _ => by unfold madeD; rfl
  | a :: as, r :: rs, p, h => by
    have h1 : ¬ (Sum.inr (jn r) : Key) = Sum.inr p := fun e => h r List.mem_cons_self (Sum.inr.inj e)
    exact (valV_neg (p := (Sum.inr (jn r), V.ref a)) h1).trans (made_none fun s hs => h s (List.mem_cons_of_mem _ hs))
theorem made_at {F : Addr → Str × Str → Prop} : ∀ {as : List Addr} {rs : Rws} {j : Nat} {r : Str × Str}, Paired F as rs → (rs.map jn).Nodup → rs[j]? = some r → ∃ a, valV (madeD as rs) (Sum.inr (jn r)) = some (V.ref a) ∧ F a r
  | _, _, _, _, .nil, _, h => by simp at h
  | a :: as, q :: rs, 0, r, .cons hF _, _, h => by
    have e : q = r := Option.some.inj h
    subst e
    exact ⟨a, valV_pos (p := ((Sum.inr (jn q) : Key), V.ref a)) rfl, hF⟩
  | a :: as, q :: rs, j + 1, r, .cons _ hq, nd, h => by
    have nd' := List.nodup_cons.mp nd
    have hm : r ∈ rs := List.mem_of_getElem? (show rs[j]? = some r from h)
    have h1 : ¬ (Sum.inr (jn q) : Key) = Sum.inr (jn r) := fun e => nd'.1 (by
      have e2 : jn q = jn r := Sum.inr.inj e
      show jn q ∈ rs.map jn
      rw [e2]; exact List.mem_map.mpr ⟨r, hm, rfl⟩)
    obtain ⟨b, hb, hF⟩ := made_at (j := j) hq nd'.2 h
    exact ⟨b, (valV_neg (p := (Sum.inr (jn q), V.ref a)) h1).trans hb, hF⟩
theorem madeD_snoc : ∀ {as : List Addr} {rs : Rws} {a : Addr} {r : Str × Str}, as.length = rs.length → madeD (as ++ [a]) (rs ++ [r]) = madeD as rs ++ [(Sum.inr (jn r), V.ref a)]
  | [], [], _, _, _ => rfl
  | [], _ :: _, _, _, h => by simp at h
  | _ :: _, [], _, _, h => by simp at h
  | b :: as, q :: rs, a, r, h => by
    show _ :: madeD (as ++ [a]) (rs ++ [r]) = _ :: (madeD as rs ++ _)
    rw [madeD_snoc (by simpa using h)]
theorem madeD_len : ∀ {as : List Addr} {rs : Rws}, as.length = rs.length → (madeD as rs).length = rs.length
  | [], [], _ => rfl
  | [], _ :: _, h => by simp at h
  | _ :: _, [], h => by simp at h
  | b :: as, q :: rs, h => by show (madeD as rs).length + 1 = _; rw [madeD_len (by simpa using h)]; rfl
def MadeAt (H : Hp) (d : Addr) (rs : Rws) : Prop := ∃ as : List Addr, H d = some (.dK (madeD as rs)) ∧ Paired (TupAt H) as rs
theorem MadeAt.same {H H' : Hp} {d : Addr} {rs : Rws} (h : MadeAt H d rs) (s : Same H H') : MadeAt H' d rs := by
  obtain ⟨as, e, p⟩ := h
  exact ⟨as, s _ _ e, TupAt.same s p⟩
theorem at_side {l r : Str} {side : Nat} (h : side < 2) : atI [V.str l, V.str r] (side : Int) = some (V.str (sdr side (l, r))) := by
  have hs : side = 0 ∨ side = 1 := by omega
  rcases hs with rfl | rfl
  · exact ats rfl
  · exact ats rfl
end Jr
namespace Jr
open PySem PySem.Spec PyProof.Rows L2
/-! ### edges with their ends, and what meets by them -/
/-- the edge of a piece, each piece with the rank by which it goes into the piece ahead of it; the first one's is told -/
inductive EdgeE (rs : Rws) (side : Nat) : Nat → Str → List (Str × Nat) → Prop
  | one {e : Nat} {p : Str} : (∀ r ∈ rs, ¬ jn r = p) → EdgeE rs side e p [(p, e)]
  | more {e j : Nat} {p : Str} {r : Str × Str} {es : List (Str × Nat)} : rs[j]? = some r → jn r = p → EdgeE rs side j (sdr side r) es → EdgeE rs side e p ((p, e) :: es)
theorem pcs_take {z : Str} {rs : Rws} {i j : Nat} (h : i ≤ j) {p : Str} (hp : p ∈ pcs z (rs.take i)) : p ∈ pcs z (rs.take j) := by
  unfold pcs at hp ⊢
  rcases List.mem_append.mp hp with h1 | h1
  · exact List.mem_append_left _ h1
  · obtain ⟨s, hs, rfl⟩ := List.mem_map.mp h1
    refine List.mem_append_right _ (List.mem_map.mpr ⟨s, ?_, rfl⟩)
    have e : rs.take i = (rs.take j).take i := by rw [List.take_take, Nat.min_eq_left h]
    rw [e] at hs
    exact List.mem_of_mem_take hs
theorem pcs_take_all {z : Str} {rs : Rws} {i : Nat} {p : Str} (hp : p ∈ pcs z (rs.take i)) : p ∈ pcs z rs := by
  have := pcs_take (j := max i rs.length) (Nat.le_max_left ..) hp
  rw [List.take_of_length_le (Nat.le_max_right ..)] at this
  exact this
theorem pcs_row {z : Str} {rs : Rws} {j k : Nat} {r : Str × Str} (h : rs[j]? = some r) (hk : j < k) : jn r ∈ pcs z (rs.take k) :=
  List.mem_append_right _ (List.mem_map.mpr ⟨r, List.mem_of_getElem? (show (rs.take k)[j]? = some r by rw [List.getElem?_take, if_pos hk, h]), rfl⟩)
/-- where a piece that a row makes is a piece already, the row is ahead -/
theorem row_lt {z : Str} {rs : Rws} (T : TabOk z rs) {j k : Nat} {r : Str × Str} (h : rs[j]? = some r) (hp : jn r ∈ pcs z (rs.take k)) : j < k := by
  by_cases c : j < k
  · exact c
  · exact absurd (pcs_take (show k ≤ j by omega) hp) (T.rows j r h).new
theorem sdr_in {z : Str} {rs : Rws} (T : TabOk z rs) {side j : Nat} {r : Str × Str} (h : rs[j]? = some r) : sdr side r ∈ pcs z (rs.take j) := by
  have ro := T.rows j r h
  unfold sdr
  split
  · exact ro.lm
  · exact ro.rm
theorem EdgeE.le {z : Str} {rs : Rws} (T : TabOk z rs) {side e : Nat} {p : Str} {es : List (Str × Nat)} (h : EdgeE rs side e p es) : p ∈ pcs z (rs.take e) → ∀ x ∈ es, x.2 ≤ e := by
  induction h with
  | one _ =>
    intro _ x hx
    rw [List.mem_singleton.mp hx]
    exact Nat.le_refl _
  | @more e j p r es hj ej _ ih =>
    intro hp x hx
    have lt : j < e := row_lt T hj (by rw [ej]; exact hp)
    rcases List.mem_cons.mp hx with e2 | e2
    · rw [e2]; exact Nat.le_refl _
    · exact Nat.le_trans (ih (sdr_in T hj) x e2) (Nat.le_of_lt lt)
/-- ahead of the row that makes it, a piece that stands alone is its two parts, each by itself -/
theorem alone_parts {z : Str} {rs : Rws} (T : TabOk z rs) {j : Nat} {r : Str × Str} (hj : rs[j]? = some r) (ha : sweep rs (jn r) = [jn r]) :
    passAll (rs.take j) (sgs (jn r)) = [r.1, r.2] := by
  have ro := T.rows j _ hj
  have l1 := ((T.take j).plen ro.lm).1
  have l2 := ((T.take j).plen ro.rm).1
  have la : (jn r).length = r.1.length + r.2.length := app_len _ _
  have h' : passAll (rs.take rs.length) (sgs (jn r)) = [jn r] := by rw [List.take_length]; exact ha
  obtain ⟨i, q, h1, _, h2, h3⟩ := made_by (by omega) rs.length (Nat.le_refl _) h'
  have e : j = i := T.jn_inj hj h1 h3.symm
  subst e
  rw [hj] at h1
  cases h1
  exact h2
theorem alone_ahead {z : Str} {rs : Rws} (T : TabOk z rs) {j k : Nat} {r : Str × Str} (hj : rs[j]? = some r) (ha : sweep rs (jn r) = [jn r]) (hk : k ≤ j) :
    passAll (rs.take k) (sgs (jn r)) = passAll (rs.take k) (sgs r.1) ++ passAll (rs.take k) (sgs r.2) := by
  have h := alone_parts T hj ha
  rw [passAll_cut (rs.take j) k, List.take_take, Nat.min_eq_left hk] at h
  obtain ⟨YA, YB, e1, e2, e3⟩ := passAll_split _ _ [r.1] [r.2] h
  obtain ⟨ca, cb, f1, f2, f3⟩ := way_split e1
  have g1 : passAll (rs.take j) (ca.map sgn) = [r.1] := by rw [passAll_cut (rs.take j) k, List.take_take, Nat.min_eq_left hk, f2, e2]
  have g2 : passAll (rs.take j) (cb.map sgn) = [r.2] := by rw [passAll_cut (rs.take j) k, List.take_take, Nat.min_eq_left hk, f3, e3]
  rw [e1, ← sgs_back g1, ← sgs_back g2, f2, f3]
theorem alone_behind {z : Str} {rs : Rws} (T : TabOk z rs) {j k : Nat} {r : Str × Str} (hj : rs[j]? = some r) (ha : sweep rs (jn r) = [jn r]) (hk : j < k) :
    passAll (rs.take k) (sgs (jn r)) = [jn r] := by
  have h := passAll_take (sgs (jn r)) hj
  rw [alone_parts T hj ha, pass1_yes, pass1_nil] at h
  have e : rs.take (j + 1) = (rs.take k).take (j + 1) := by rw [List.take_take, Nat.min_eq_left hk]
  rw [passAll_cut (rs.take k) (j + 1), ← e, h]
  exact passAll_one _ _
def endOf (side : Nat) (xs : List Str) : Option Str := if side = 0 then xs.head? else xs.getLast?
theorem endOf_one (side : Nat) (x : Str) : endOf side [x] = some x := by unfold endOf; split <;> rfl
theorem passAll_ne' : ∀ (rs : Rws) (xs : List Str), xs ≠ [] → passAll rs xs ≠ []
  | [], _, h => h
  | r :: rs, xs, h => passAll_ne' rs _ (pass1_ne r.1 r.2 xs h)
theorem endOf_app (side : Nat) {A B : List Str} (hA : A ≠ []) (hB : B ≠ []) : endOf side (A ++ B) = endOf side (if side = 0 then A else B) := by
  unfold endOf
  by_cases c : side = 0
  · rw [if_pos c, if_pos c, if_pos c]
    cases A with
    | nil => exact absurd rfl hA
    | cons x t => rfl
  · rw [if_neg c, if_neg c, if_neg c, List.getLast?_append]
    cases e : B.getLast? with
    | none => exact absurd (List.getLast?_eq_none_iff.mp e) hB
    | some x => rfl
theorem sgs_ne {p : Str} (h : 1 ≤ p.length) : sgs p ≠ [] := fun e => by
  have := sgs_len p
  rw [e] at this
  simp at this
  omega
theorem sgs_sign {z p : Str} (h : p ∈ sgs z) : sgs p = [p] := by
  obtain ⟨c, _, rfl⟩ := List.mem_map.mp h
  rfl
/-- what stands at the edge on the way -/
theorem edge_at {z : Str} {rs : Rws} (T : TabOk z rs) {side e : Nat} {p : Str} {es : List (Str × Nat)} (h : EdgeE rs side e p es) : sweep rs p = [p] → p ∈ pcs z (rs.take e) → e ≤ rs.length →
    ∀ k, k ≤ e → ∀ x, endOf side (passAll (rs.take k) (sgs p)) = some x ↔ ∃ e', (x, e') ∈ es ∧ k ≤ e' ∧ x ∈ pcs z (rs.take k) := by
  induction h with
  | @one e p hn =>
    intro _ hp he k hk x
    have hs : p ∈ sgs z := by
      rcases List.mem_append.mp hp with h | h
      · exact h
      · obtain ⟨r, hr, e2⟩ := List.mem_map.mp h
        exact absurd e2 (hn r (List.mem_of_mem_take hr))
    rw [sgs_sign hs, passAll_one, endOf_one]
    constructor
    · intro h2
      cases h2
      exact ⟨e, List.mem_singleton.mpr rfl, hk, List.mem_append_left _ hs⟩
    · rintro ⟨e', h2, _, _⟩
      have := List.mem_singleton.mp h2
      rw [(Prod.mk.inj this).1]
  | @more e j p r es hj ej he ih =>
    intro ha hp hle k hk x
    subst ej
    have lt : j < e := row_lt T hj hp
    have ro := T.rows j r hj
    obtain ⟨a1, a2⟩ := parts_alone T (l := r.1) (r := r.2) hj ha
    have hsd : sdr side r ∈ pcs z (rs.take j) := sdr_in T hj
    have asd : sweep rs (sdr side r) = [sdr side r] := by
      unfold sdr
      split
      · exact a1
      · exact a2
    have ih' := ih asd hsd (by omega)
    by_cases c : k ≤ j
    · rw [alone_ahead T hj ha c, endOf_app side (passAll_ne' _ _ (sgs_ne ((T.take j).plen ro.lm).1)) (passAll_ne' _ _ (sgs_ne ((T.take j).plen ro.rm).1))]
      have e2 : (if side = 0 then passAll (rs.take k) (sgs r.1) else passAll (rs.take k) (sgs r.2)) = passAll (rs.take k) (sgs (sdr side r)) := by
        unfold sdr
        by_cases c2 : side = 0
        · rw [if_pos c2, if_pos c2]
        · rw [if_neg c2, if_neg c2]
      rw [e2, ih' k c x]
      constructor
      · rintro ⟨e', h1, h2, h3⟩
        exact ⟨e', List.mem_cons_of_mem _ h1, h2, h3⟩
      · rintro ⟨e', h1, h2, h3⟩
        rcases List.mem_cons.mp h1 with h4 | h4
        · rw [(Prod.mk.inj h4).1] at h3
          exact absurd (pcs_take c h3) ro.new
        · exact ⟨e', h4, h2, h3⟩
    · rw [alone_behind T hj ha (by omega), endOf_one]
      constructor
      · intro h2
        cases h2
        exact ⟨e, List.mem_cons_self, hk, pcs_row hj (by omega)⟩
      · rintro ⟨e', h1, h2, h3⟩
        rcases List.mem_cons.mp h1 with h4 | h4
        · rw [(Prod.mk.inj h4).1]
        · have := he.le T hsd _ h4
          have : e' ≤ j := this
          omega
/-- the border falls by rank k -/
def fallsAt (rs : Rws) (es fs : List (Str × Nat)) (k : Nat) : Bool :=
  match rs[k]? with
  | some q => es.any (fun x => decide (x.1 = q.1) && decide (k < x.2)) && fs.any (fun x => decide (x.1 = q.2) && decide (k ≤ x.2))
  | none => false
theorem any_edge {es : List (Str × Nat)} {l : Str} {k : Nat} : (es.any (fun x => decide (x.1 = l) && decide (k ≤ x.2)) = true) ↔ ∃ e, (l, e) ∈ es ∧ k ≤ e := by
  rw [List.any_eq_true]
  constructor
  · rintro ⟨⟨x, e⟩, h1, h2⟩
    rw [Bool.and_eq_true, decide_eq_true_eq, decide_eq_true_eq] at h2
    obtain ⟨h3, h4⟩ := h2
    have h3 : x = l := h3
    subst h3
    exact ⟨e, h1, h4⟩
  · rintro ⟨e, h1, h2⟩
    exact ⟨(l, e), h1, by rw [Bool.and_eq_true, decide_eq_true_eq, decide_eq_true_eq]; exact ⟨rfl, h2⟩⟩
theorem meet_from {z : Str} {rs : Rws} (T : TabOk z rs) {a b : Str} {es fs : List (Str × Nat)} (ha : sweep rs a = [a]) (hb : sweep rs b = [b]) (pa : a ∈ pcs z rs) (pb : b ∈ pcs z rs)
    (hes : EdgeE rs 1 rs.length a es) (hfs : EdgeE rs 0 rs.length b fs) : ∀ n k, k + n = rs.length →
    metR k (rs.drop k) (passAll (rs.take k) (sgs a) ++ passAll (rs.take k) (sgs b)) a.length = (List.range' k n).find? (fallsAt rs es fs)
  | 0, k, h => by
    rw [List.drop_of_length_le (by omega)]
    rfl
  | n + 1, k, h => by
    have hk : k < rs.length := by omega
    have hx : rs[k]? = some rs[k] := List.getElem?_eq_getElem hk
    have ro := T.rows k _ hx
    have l1 := ((T.take k).plen ro.lm).1
    have l2 := ((T.take k).plen ro.rm).1
    have nA : passAll (rs.take k) (sgs a) ≠ [] := passAll_ne' _ _ (sgs_ne (T.plen pa).1)
    have fA : (flat (passAll (rs.take k) (sgs a))).length = a.length := by rw [passAll_flat, flat_sgs_len]
    rw [List.drop_eq_getElem_cons hk]
    unfold metR
    have pc := plc_app l1 l2 0 (passAll (rs.take k) (sgs a)) (passAll (rs.take k) (sgs b)) nA
    rw [Nat.zero_add, fA, ← passAll_take _ hx] at pc
    have tk : rs.take rs.length = rs := List.take_length
    have E1 := edge_at T hes ha (by rw [tk]; exact pa) (Nat.le_refl _) (k + 1) (by omega) rs[k].1
    have E2 := edge_at T hfs hb (by rw [tk]; exact pb) (Nat.le_refl _) k (by omega) rs[k].2
    have E1' : endOf 1 (passAll (rs.take (k + 1)) (sgs a)) = (passAll (rs.take (k + 1)) (sgs a)).getLast? := rfl
    have E2' : endOf 0 (passAll (rs.take k) (sgs b)) = (passAll (rs.take k) (sgs b)).head? := rfl
    rw [E1'] at E1
    rw [E2'] at E2
    have F : (a.length ∈ plc rs[k].1 rs[k].2 0 (passAll (rs.take k) (sgs a) ++ passAll (rs.take k) (sgs b))) ↔ fallsAt rs es fs k = true := by
      rw [pc, E1, E2]
      unfold fallsAt
      rw [hx]
      simp only []
      rw [Bool.and_eq_true]
      have q1 := any_edge (es := es) (l := rs[k].1) (k := k + 1)
      have q2 := any_edge (es := fs) (l := rs[k].2) (k := k)
      refine and_congr ?_ ?_
      · refine Iff.trans ?_ q1.symm
        exact ⟨fun ⟨e, h1, h2, _⟩ => ⟨e, h1, h2⟩, fun ⟨e, h1, h2⟩ => ⟨e, h1, h2, pcs_take (Nat.le_succ k) ro.lm⟩⟩
      · refine Iff.trans ?_ q2.symm
        exact ⟨fun ⟨e, h1, h2, _⟩ => ⟨e, h1, h2⟩, fun ⟨e, h1, h2⟩ => ⟨e, h1, h2, ro.rm⟩⟩
    rw [List.range'_succ]
    by_cases c : a.length ∈ plc rs[k].1 rs[k].2 0 (passAll (rs.take k) (sgs a) ++ passAll (rs.take k) (sgs b))
    · rw [if_pos c, List.find?_cons_of_pos (F.mp c)]
    · rw [if_neg c, List.find?_cons_of_neg (fun q => c (F.mpr q))]
      have st := stays l1 l2 nA (by rw [fA]; exact c)
      rw [st, ← passAll_take _ hx, ← passAll_take _ hx]
      exact meet_from T ha hb pa pb hes hfs n (k + 1) (by omega)
/-- meets, by the edges -/
theorem meet_edges {z : Str} {rs : Rws} (T : TabOk z rs) {a b : Str} {es fs : List (Str × Nat)} (ha : sweep rs a = [a]) (hb : sweep rs b = [b]) (pa : a ∈ pcs z rs) (pb : b ∈ pcs z rs)
    (hes : EdgeE rs 1 rs.length a es) (hfs : EdgeE rs 0 rs.length b fs) : metR 0 rs (sgs (a ++ b)) a.length = (List.range rs.length).find? (fallsAt rs es fs) := by
  have h := meet_from T ha hb pa pb hes hfs rs.length 0 (by omega)
  rw [List.drop_zero, List.take_zero] at h
  rw [sgs_app, List.range_eq_range']
  exact h
theorem metR_cons (r : Str × Str) (p : Rws) (k : Nat) (X : List Str) (m : Nat) : metR k (r :: p) X m = if m ∈ plc r.1 r.2 0 X then some k else metR (k + 1) p (pass1 r.1 r.2 X) m := rfl
theorem metR_app : ∀ (p q : Rws) (k : Nat) (X : List Str) (m : Nat), metR k (p ++ q) X m = (metR k p X m).or (metR (k + p.length) q (passAll p X) m)
  | [], q, k, X, m => rfl
  | r :: p, q, k, X, m => by
    show metR k (r :: (p ++ q)) X m = _
    rw [metR_cons, metR_cons]
    by_cases c : m ∈ plc r.1 r.2 0 X
    · rw [if_pos c, if_pos c]; rfl
    · rw [if_neg c, if_neg c, metR_app p q (k + 1), List.length_cons, show k + 1 + p.length = k + (p.length + 1) by omega]
      rfl
theorem metR_lt : ∀ (p : Rws) (k : Nat) (X : List Str) (m i : Nat), metR k p X m = some i → k ≤ i ∧ i < k + p.length
  | [], _, _, _, _, h => by cases h
  | r :: p, k, X, m, i, h => by
    unfold metR at h
    rw [List.length_cons]
    by_cases c : m ∈ plc r.1 r.2 0 X
    · rw [if_pos c] at h
      cases h
      omega
    · rw [if_neg c] at h
      have := metR_lt p (k + 1) _ m i h
      omega
/-- a piece that stands alone does so from its row on -/
theorem alone_from {z : Str} {rs : Rws} (T : TabOk z rs) {p : Str} {k : Nat} (h : sweep rs p = [p]) (hp : p ∈ pcs z (rs.take k)) : passAll (rs.take k) (sgs p) = [p] := by
  rcases List.mem_append.mp hp with h1 | h1
  · rw [sgs_sign h1, passAll_one]
  · obtain ⟨r, hr, rfl⟩ := List.mem_map.mp h1
    obtain ⟨i, hi, ei⟩ := List.mem_iff_getElem.mp hr
    have hx : (rs.take k)[i]? = some r := by rw [List.getElem?_eq_getElem hi, ei]
    rw [List.getElem?_take] at hx
    by_cases c : i < k
    · rw [if_pos c] at hx
      exact alone_behind T hx h c
    · rw [if_neg c] at hx
      cases hx
/-- a piece that is made of two that stand alone does so just where its own rank is the first over their border -/
theorem alone_iff {z : Str} {rs : Rws} (T : TabOk z rs) {j : Nat} {r : Str × Str} (hj : rs[j]? = some r) (h1 : sweep rs r.1 = [r.1]) (h2 : sweep rs r.2 = [r.2]) :
    sweep rs (jn r) = [jn r] ↔ metR 0 rs (sgs (r.1 ++ r.2)) r.1.length = some j := by
  have ro := T.rows j _ hj
  have l1 := ((T.take j).plen ro.lm).1
  have l2 := ((T.take j).plen ro.rm).1
  have hjl : j < rs.length := (List.getElem?_eq_some_iff.mp hj).1
  have p1 := alone_from T h1 ro.lm
  have p2 := alone_from T h2 ro.rm
  have mn := metR_none (rs.take j) 0 (sgs r.1) (sgs r.2) (T.take j).pos (sgs_ne l1)
  rw [flat_sgs_len, ← sgs_app, p1, p2] at mn
  have ma := metR_app (rs.take j) (rs.drop j) 0 (sgs (r.1 ++ r.2)) r.1.length
  rw [List.take_append_drop, List.length_take, Nat.min_eq_left (by omega), Nat.zero_add] at ma
  constructor
  · intro h
    have h3 := alone_parts T hj h
    have h4 := mn.mpr h3
    have h5 : passAll (rs.take j) (sgs (r.1 ++ r.2)) = [r.1, r.2] := h3
    rw [ma, h4, h5, List.drop_eq_getElem_cons hjl]
    have e : rs[j] = r := by
      rw [List.getElem?_eq_getElem hjl] at hj
      exact Option.some.inj hj
    rw [e]
    unfold metR
    have c : r.1.length ∈ plc r.1 r.2 0 [r.1, r.2] := by
      unfold plc
      rw [if_pos ⟨rfl, rfl⟩, Nat.zero_add]
      exact List.mem_cons_self
    rw [if_pos c]
    rfl
  · intro h
    have h4 : metR 0 (rs.take j) (sgs (r.1 ++ r.2)) r.1.length = none := by
      cases e : metR 0 (rs.take j) (sgs (r.1 ++ r.2)) r.1.length with
      | none => rfl
      | some i =>
        rw [ma, e] at h
        cases h
        have := metR_lt _ _ _ _ _ e
        rw [List.length_take] at this
        omega
    have h5 := mn.mp h4
    have h6 := passAll_take (sgs (jn r)) hj
    have h7 : passAll (rs.take j) (sgs (jn r)) = [r.1, r.2] := h5
    rw [h7, pass1_yes, pass1_nil] at h6
    unfold sweep
    rw [passAll_cut rs (j + 1), h6]
    exact passAll_one _ _
end Jr
namespace Jr
open PySem PySem.Spec PyProof.Rows L2
/-! ### edges with their ends in the heap; the least rank over a border -/
def PEAt (H : Hp) (a : Addr) (x : Str × Nat) : Prop := H a = some (.tup [.str x.1, .int (x.2 : Nat)])
def EndsL (H : Hp) (q : Addr) (fs : List (Str × Nat)) : Prop := ∃ as : List Addr, H q = some (.lst (as.map V.ref)) ∧ Paired (PEAt H) as fs
theorem PEAt.same {H H' : Hp} (s : Same H H') {as : List Addr} {fs : List (Str × Nat)} (h : Paired (PEAt H) as fs) : Paired (PEAt H') as fs := L2.Paired.mapP h fun _ _ q => s _ _ q
theorem EndsL.same {H H' : Hp} {q : Addr} {fs : List (Str × Nat)} (h : EndsL H q fs) (s : Same H H') : EndsL H' q fs := by
  obtain ⟨as, e, p⟩ := h
  exact ⟨as, s _ _ e, PEAt.same s p⟩
theorem Edge.in {z : Str} {rs : Rws} (T : TabOk z rs) {side : Nat} {p : Str} {es : List Str} (h : Edge rs side p es) (hp : p ∈ pcs z rs) : ∀ x ∈ es, x ∈ pcs z rs := by
  induction h with
  | one _ =>
    intro x hx
    rw [List.mem_singleton.mp hx]
    exact hp
  | @more p r es hr e _ ih =>
    intro x hx
    rcases List.mem_cons.mp hx with e2 | e2
    · rw [e2]; exact hp
    · exact ih (part_in T hr).1 x e2
theorem EdgeE.in {z : Str} {rs : Rws} (T : TabOk z rs) {side e : Nat} {p : Str} {es : List (Str × Nat)} (h : EdgeE rs side e p es) : p ∈ pcs z rs → ∀ x ∈ es, x.1 ∈ pcs z rs := by
  induction h with
  | one _ =>
    intro hp x hx
    rw [List.mem_singleton.mp hx]
    exact hp
  | @more e j p r es hj ej _ ih =>
    intro hp x hx
    rcases List.mem_cons.mp hx with e2 | e2
    · rw [e2]; exact hp
    · exact ih (pcs_take_all (sdr_in T hj)) x e2
theorem EdgeE.len {z : Str} {rs : Rws} (T : TabOk z rs) {side e : Nat} {p : Str} {es : List (Str × Nat)} (h : EdgeE rs side e p es) : p ∈ pcs z rs → es.length ≤ p.length := by
  induction h with
  | one _ =>
    intro hp
    exact (T.plen hp).1
  | @more e j p r es hj ej _ ih =>
    intro hp
    have := ih (pcs_take_all (sdr_in T hj))
    have l := (part_in (side := side) T (List.mem_of_getElem? hj)).2
    rw [ej] at l
    rw [List.length_cons]
    omega
theorem Edge.head {rs : Rws} {side : Nat} {p : Str} {es : List Str} (h : Edge rs side p es) : ∃ r, es = p :: r ∧ ((r = [] ∧ ∀ q ∈ rs, ¬ jn q = p) ∨ ∃ q ∈ rs, jn q = p ∧ Edge rs side (sdr side q) r) := by
  cases h with
  | one n => exact ⟨[], rfl, .inl ⟨rfl, n⟩⟩
  | more hr e h => exact ⟨_, rfl, .inr ⟨_, hr, e, h⟩⟩
theorem Edge.len {z : Str} {rs : Rws} (T : TabOk z rs) {side : Nat} {p : Str} {es : List Str} (h : Edge rs side p es) : p ∈ pcs z rs → es.length ≤ p.length := by
  induction h with
  | one _ =>
    intro hp
    exact (T.plen hp).1
  | @more p r es hr e _ ih =>
    intro hp
    have q := part_in (side := side) T hr
    have := ih q.1
    rw [e] at q
    rw [List.length_cons]
    omega
/-- a rank by which the border may fall -/
def Cand (rs : Rws) (es fs : List (Str × Nat)) (k : Nat) : Prop := ∃ x ∈ es, ∃ y ∈ fs, rs[k]? = some (x.1, y.1) ∧ k < x.2 ∧ k ≤ y.2
theorem falls_cand {rs : Rws} {es fs : List (Str × Nat)} {k : Nat} : fallsAt rs es fs k = true ↔ Cand rs es fs k := by
  unfold fallsAt Cand
  cases e : rs[k]? with
  | none =>
    constructor
    · intro h; cases h
    · rintro ⟨x, _, y, _, h, _⟩; cases h
  | some q =>
    simp only [Bool.and_eq_true, List.any_eq_true, decide_eq_true_eq]
    constructor
    · rintro ⟨⟨x, hx, e1, l1⟩, y, hy, e2, l2⟩
      exact ⟨x, hx, y, hy, by rw [e1, e2], l1, l2⟩
    · rintro ⟨x, hx, y, hy, h, l1, l2⟩
      have h := Option.some.inj h
      rw [h]
      exact ⟨⟨x, hx, rfl, l1⟩, y, hy, rfl, l2⟩
/-- the least of those looked at so far -/
structure Least (rs : Rws) (L : List ((Str × Nat) × (Str × Nat))) (m : Option Nat) : Prop where
  is : ∀ k, m = some k → ∃ q ∈ L, rs[k]? = some (q.1.1, q.2.1) ∧ k < q.1.2 ∧ k ≤ q.2.2
  le : ∀ q ∈ L, ∀ k, rs[k]? = some (q.1.1, q.2.1) → k < q.1.2 → k ≤ q.2.2 → ∃ j, m = some j ∧ j ≤ k
theorem Least.nil (rs : Rws) : Least rs [] none := ⟨fun k h => (by cases h), fun q h => (by cases h)⟩
theorem Least.find {rs : Rws} {es fs : List (Str × Nat)} {m : Option Nat} {L : List ((Str × Nat) × (Str × Nat))} (h : Least rs L m) (hL : ∀ q, q ∈ L ↔ q.1 ∈ es ∧ q.2 ∈ fs) : m = (List.range rs.length).find? (fallsAt rs es fs) := by
  cases m with
  | none =>
    symm
    rw [List.find?_eq_none]
    intro k _ hk
    obtain ⟨x, hx, y, hy, e, l1, l2⟩ := falls_cand.mp hk
    obtain ⟨j, ej, _⟩ := h.le (x, y) ((hL _).mpr ⟨hx, hy⟩) k e l1 l2
    cases ej
  | some k =>
    obtain ⟨q, hq, e, l1, l2⟩ := h.is k rfl
    have hm := (hL q).mp hq
    have hk : fallsAt rs es fs k = true := falls_cand.mpr ⟨q.1, hm.1, q.2, hm.2, e, l1, l2⟩
    have hkl : k < rs.length := (List.getElem?_eq_some_iff.mp e).1
    symm
    rw [List.find?_range_eq_some]
    refine ⟨hk, List.mem_range.mpr hkl, fun j hj => ?_⟩
    cases e2 : fallsAt rs es fs j with
    | false => rfl
    | true =>
      obtain ⟨x, hx, y, hy, e, l1, l2⟩ := falls_cand.mp e2
      obtain ⟨i, ei, li⟩ := h.le (x, y) ((hL _).mpr ⟨hx, hy⟩) j e l1 l2
      cases ei
      omega
/-- one more is looked at -/
theorem Least.skip {rs : Rws} {L : List ((Str × Nat) × (Str × Nat))} {m : Option Nat} {q : (Str × Nat) × (Str × Nat)} (h : Least rs L m) (hq : ∀ k, rs[k]? = some (q.1.1, q.2.1) → k < q.1.2 → k ≤ q.2.2 → ∃ j, m = some j ∧ j ≤ k) : Least rs (L ++ [q]) m := by
  refine ⟨fun k e => ?_, fun p hp k e l1 l2 => ?_⟩
  · obtain ⟨p, hp, r⟩ := h.is k e
    exact ⟨p, List.mem_append_left _ hp, r⟩
  · rcases List.mem_append.mp hp with hp | hp
    · exact h.le p hp k e l1 l2
    · rw [List.mem_singleton.mp hp] at e l1 l2
      exact hq k e l1 l2
theorem Least.take {rs : Rws} {L : List ((Str × Nat) × (Str × Nat))} {m : Option Nat} {q : (Str × Nat) × (Str × Nat)} {k : Nat} (T : rs.Nodup) (h : Least rs L m) (e : rs[k]? = some (q.1.1, q.2.1)) (l1 : k < q.1.2) (l2 : k ≤ q.2.2) (hm : ∀ j, m = some j → k < j) : Least rs (L ++ [q]) (some k) := by
  have inj : ∀ {i j : Nat} {r : Str × Str}, rs[i]? = some r → rs[j]? = some r → i = j := fun {i j r} h1 h2 => by
    obtain ⟨a1, b1⟩ := List.getElem?_eq_some_iff.mp h1
    obtain ⟨a2, b2⟩ := List.getElem?_eq_some_iff.mp h2
    rcases Nat.lt_trichotomy i j with c | c | c
    · exact absurd (b1.trans b2.symm) (List.pairwise_iff_getElem.mp T i j a1 a2 c)
    · exact c
    · exact absurd (b2.trans b1.symm) (List.pairwise_iff_getElem.mp T j i a2 a1 c)
  refine ⟨fun i ei => ?_, fun p hp i ei l3 l4 => ⟨k, rfl, ?_⟩⟩
  · cases ei
    exact ⟨q, List.mem_append_right _ (List.mem_singleton.mpr rfl), e, l1, l2⟩
  · rcases List.mem_append.mp hp with hp | hp
    · obtain ⟨j, ej, lj⟩ := h.le p hp i ei l3 l4
      have := hm j ej
      omega
    · rw [List.mem_singleton.mp hp] at ei
      have := inj e ei
      omega
end Jr
namespace Jr
open PySem PySem.Spec PyProof.Rows L2
section
variable {P : Program} {w : World} {K : PySem.W.Frag} {mg : Str → Option Value} {base : Heap}
def spMayBe : Sp := fun vs H Q _ => ∃ c : Nat, vs = [.str (sgn c)] ∧ Q (.bl (decide (32 ≤ c ∧ c ≤ 126 ∧ c ≠ 37))) H
theorem cal_may_be_sign (T : Tx K mg) : Cal P w K mg base CX0 1 "may_be_sign" spMayBe := by
  obtain ⟨fd, F⟩ := T.d_may_be_sign
  refine ⟨_, fd, P_may_be_sign, F.ok sc_may_be_sign (fun vs H Q E h => ?_) (fun cdv A outer s H vs Q E hr h => ?_), T.g_may_be_sign, F.kp, F.bindsN (ps := P_may_be_sign) fun _ _ _ _ _ _ us hl => match us, hl with | [_], _ => rfl⟩
  · obtain ⟨c, rfl, _⟩ := h
    rfl
  · obtain ⟨c, rfl, k⟩ := h
    refine ⟨_, (PSs.nox (pss_cons (ps_set (i := 1) sc_may_be_sign.nd rfl (Or.inl rfl) (pe_callB (id := "ord") call_ord (by rfl) T.n_ord (by decide +kernel) (pa_cons (pv 0) pa_nil)))
      (pss_one (ps_ret (pe_and (pe_chain op_le op_le (pe_glob (v := .int 32) (by rfl) T.c_BLANK_CODE.choose_spec ⟨_, rfl⟩) (pv 1) (pe_glob (v := .int 126) (by rfl) T.c_TILDE_CODE.choose_spec ⟨_, rfl⟩)) (pe_one (pe_cmpR op_ne (pv 1) (pe_glob (v := .int 37) (by rfl) T.c_PERCENT_CODE.choose_spec ⟨_, rfl⟩) (nomark _)))))))), ?_⟩
    refine ⟨_, rfl, _, rfl, rfl, ?_⟩
    have ec : (((sgn c).cps.getD 0 0 : Nat) : Int) = (c : Int) := rfl
    rw [ec]
    refine ⟨_, rfl, _, _, rfl, rfl, _, rfl, ite2 (fun c1 => ⟨_, _, rfl, rfl, _, rfl, ite2 (fun c2 => ⟨_, rfl, rfl, ?_⟩) (fun c2 => ?_)⟩) (fun c1 => ⟨_, rfl, iteF ?_⟩)⟩
    · have h1 : (32 : Int) ≤ c := of_decide_eq_true c1
      have h2 : (c : Int) ≤ 126 := of_decide_eq_true c2
      have e : (!decide (V.int (c : Int) = V.int 37)) = decide (32 ≤ c ∧ c ≤ 126 ∧ c ≠ 37) := by
        by_cases h3 : c = 37
        · subst h3; decide
        · have h4 : ¬ V.int (c : Int) = V.int 37 := fun z => h3 (by have := V.int.inj z; omega)
          rw [decide_eq_false h4, decide_eq_true ⟨by omega, by omega, h3⟩]; rfl
      show Q (V.bl (!decide (V.int (c : Int) = V.int 37))) H
      rw [e]
      exact k
    · have h2 : ¬ (c : Int) ≤ 126 := of_decide_eq_false (by simpa using c2)
      have e : decide (32 ≤ c ∧ c ≤ 126 ∧ c ≠ 37) = false := decide_eq_false (by omega)
      rw [e] at k
      exact k
    · have h1 : ¬ (32 : Int) ≤ c := of_decide_eq_false (by simpa using c1)
      have e : decide (32 ≤ c ∧ c ≤ 126 ∧ c ≠ 37) = false := decide_eq_false (by omega)
      rw [e] at k
      exact k
end
end Jr
namespace Jr
open PySem PySem.Spec PyProof.Rows L2
section
variable {P : Program} {w : World} {K : PySem.W.Frag} {mg : Str → Option Value} {base : Heap}
/-! ### may_be_sign, check_signs -/
def spCheckSigns : Sp := fun vs H Q _ => ∃ z : Str, vs = [.str z] ∧ SignsOk z ∧ 1 ≤ z.length ∧ z.length ≤ 12 ∧ ∀ H', Same H H' → Q .non H'
theorem cal_check_signs (T : Tx K mg) : Cal P w K mg base CX0 2 "check_signs" spCheckSigns := by
  have C_may_be_sign := cal_may_be_sign (P := P) (w := w) (base := base) T
  obtain ⟨fd, F⟩ := T.d_check_signs
  refine ⟨_, fd, P_check_signs, F.ok sc_check_signs (fun vs H Q E h => ?_) (fun cdv A outer s H vs Q E hr h => ?_), T.g_check_signs, F.kp, F.bindsN (ps := P_check_signs) fun _ _ _ _ _ _ us hl => match us, hl with | [_], _ => rfl⟩
  · obtain ⟨z, rfl, _⟩ := h
    rfl
  · obtain ⟨z, rfl, ok, z1, z12, k⟩ := h
    refine ⟨_, (PSs.nox (pss_cons (ps_if (PW.pt (pw_or (pt_not (pt_val (pe_callB (id := "isinstance") call_isi (by rfl) T.n_isinstance (by decide +kernel) (pa_cons (pv 0) (pa_cons (pe_bltn (v := .ty "str") (by rfl) T.n_str (by decide +kernel) rfl) pa_nil))))) (pw_or1 (pt_not (pt_chain op_le op_le pe_int (pe_callB (id := "len") call_len_str (by rfl) T.n_len (by decide +kernel) (pa_cons (pv 0) pa_nil)) (pe_glob (v := .int 12) (by rfl) T.c_MOST_SIGNS.choose_spec ⟨_, rfl⟩)))))) (pss_one ps_never) pss_nil)
      (pss_one (ps_for PassesOwn.never rfl (pi_enumS (by rfl) T.n_enumerate (pa_cons (pv 0) pa_nil)) (pg_tup rfl (pgs_cons (pg_name (i := 1) sc_check_signs.nd rfl (Or.inl rfl)) (pgs_cons (pg_name (i := 2) sc_check_signs.nd rfl (Or.inl rfl)) pgs_nil))) (pss_one (ps_if (PW.pt (pw_or (pt_not (pt_val (pe_cal C_may_be_sign (by first | exact hr | exact hr.mono (by decide)) (by rfl) (pa_cons (pv 2) pa_nil)))) (pw_or1 (pt_cmpR op_in_sign (pv 2) (pe_slice sl_str (pv 0) po_none (po_some (pv 1))) rfl)))) (pss_one ps_never) pss_nil)))))), ?_⟩
    have hz : z.length ≤ sizeLine := sz (by omega)
    refine ⟨_, rfl, _, _, _, _, _, rfl, .ty "str", .base (.str z), isStr, _, rfl, iteF ?_⟩
    refine ⟨_, rfl, _, rfl, hz, _, _, rfl, rfl, _, rfl, ?_⟩
    rw [decide_eq_true (show (1 : Int) ≤ (z.length : Int) by omega)]
    refine iteT ⟨_, _, rfl, rfl, _, rfl, ?_⟩
    rw [decide_eq_true (show (z.length : Int) ≤ 12 by omega)]
    refine iteF ?_
    refine ⟨_, rfl, z, rfl, for_enumS (x := z) (fun i σ H' => ∃ u v : Option V, σ = [some (.str z), u, v] ∧ Same H H') ⟨none, none, rfl, Same.refl H⟩ ?_ ?_⟩
    · rintro i c t σ H' hi ht ⟨u, v, rfl, sm⟩
      have oc := ok.ok c (List.mem_of_getElem? hi)
      have s2 := Same.put (o := .tup [.int (i : Nat), .str (sgn c)]) sm ht
      refine ⟨t, _, rfl, SqT.of upd_same, rfl, _, _, rfl, _, _, rfl, rfl, ?_⟩
      refine ⟨_, rfl, c, rfl, _, rfl, ?_⟩
      rw [decide_eq_true oc]
      refine iteF ⟨_, rfl, _, rfl, _, rfl, _, rfl, _, rfl, hz, c, _, rfl, rfl, _, rfl, ?_⟩
      have hn : ¬ c ∈ (cutS z none (some (i : Int))).cps.toList := by
        rw [cut_to]
        intro hm
        have e : z.cps.toList = z.cps.toList.take i ++ z.cps.toList.drop i := (List.take_append_drop _ _).symm
        have nd := ok.nd
        rw [e, List.nodup_append] at nd
        have hd : c ∈ z.cps.toList.drop i := by
          refine List.mem_of_getElem? (i := 0) ?_
          rw [List.getElem?_drop]
          exact hi
        exact nd.2.2 c hm c hd rfl
      rw [decide_eq_false hn]
      exact iteF ⟨_, _, rfl, s2⟩
    · rintro σ H' ⟨u, v, rfl, sm⟩
      exact k _ sm
/-! ### methods, while the table is being made -/
abbrev TC (K : PySem.W.Frag) : Addr := He.ga K "Table"
def spTakePiece (K : PySem.W.Frag) : Sp := fun vs H Q _ => ∃ (x dx : Addr) (z : Str) (lr lp dn dr : Addr) (ps : List Str) (p : Str), vs = [.ref x, .str p] ∧ H x = some (.ins (TC K) dx (tf5 z lr lp dn dr)) ∧ H lp = some (.lst (ps.map V.str)) ∧ H dn = some (.dK (numD 0 ps)) ∧
  ¬ p ∈ ps ∧ ps.length ≤ 1000 ∧ Q .non (upd (upd H dn (.dK (numD 0 (ps ++ [p])))) lp (.lst ((ps ++ [p]).map V.str)))
theorem met_take_piece (T : Tx K mg) : Met P w K mg base CX0 1 (TC K) "take_piece" (spTakePiece K) := by
  obtain ⟨fd, F⟩ := T.d_Table_take_piece
  refine ⟨T.cl_Table, _, fd, P_Table_take_piece, F.ok sc_Table_take_piece (fun vs H Q E h => ?_) (fun cdv A outer s H vs Q E hr h => ?_), T.m_Table_take_piece, F.bindsN (ps := P_Table_take_piece) fun _ _ _ _ _ _ us hl => match us, hl with | [_, _], _ => rfl⟩
  · obtain ⟨x, dx, z, lr, lp, dn, dr, ps, p, rfl, _⟩ := h
    rfl
  · obtain ⟨x, dx, z, lr, lp, dn, dr, ps, p, rfl, hx, hp, hn, np, hl, k⟩ := h
    refine ⟨_, (PSs.nox (pss_cons (ps_dput (hu_of hr) (pe_fld (pv 0) rfl) (pv 1) (pe_callB (id := "len") call_len_seq (by rfl) T.n_len (by decide +kernel) (pa_cons (pe_fld (pv 0) rfl) pa_nil)) rfl)
      (pss_one (ps_expr (pe_bm PySem.F.plainAttrs_list PySem.F.slot_list_append PySem.F.type_list_append mt_append (pe_fld (pv 0) rfl) (pa_cons (pv 1) pa_nil)))))), ?_⟩
    have nxn : x ≠ dn := ne_of hx hn (by intro q; cases q)
    have npn : lp ≠ dn := ne_of hp hn (by intro q; cases q)
    refine ⟨_, rfl, x, _, dx, _, _, rfl, hx, T.cl_Table, T.no_Table_piece_list, l5_pl _ _ _ _ _, _, _, rfl, .inl (SqL.of hp), _, rfl, x, _, dx, _, _, rfl, hx, T.cl_Table, T.no_Table_number_by_piece, l5_num _ _ _ _ _, _, rfl, dn, _, rfl, DPut.k (k := Sum.inr p) hn ?_, ?_⟩
    · rw [numD_len]; exact szl (by omega)
    rw [putK_new _ (numD_none 0 ps p np), List.length_map]
    have e : numD 0 ps ++ [(Sum.inr p, V.int ((ps.length : Nat) : Int))] = numD 0 (ps ++ [p]) := by rw [numD_snoc, Nat.zero_add]
    rw [e]
    refine ⟨_, rfl, x, _, dx, _, _, rfl, (by rw [upd_ne nxn]; exact hx), T.cl_Table, T.no_Table_piece_list, l5_pl _ _ _ _ _, .inl ⟨rfl, _, SqL.of (by rw [upd_ne npn]; exact hp)⟩, _, rfl, lp, _, _, rfl, rfl, (by rw [upd_ne npn]; exact hp), ?_, ?_⟩
    · rw [List.length_map]; exact szl (by omega)
    · have e2 : ps.map V.str ++ [V.str p] = (ps ++ [p]).map V.str := by rw [List.map_append]; rfl
      rw [e2]
      exact k
/-- which: of a text its number, of all else None -/
def spWhich (K : PySem.W.Frag) : Sp := fun vs H Q _ => ∃ (x dx : Addr) (fs : List (Str × V)) (dn : Addr) (ps : List Str) (v : V), vs = [.ref x, v] ∧ H x = some (.ins (TC K) dx fs) ∧ fs.lookup ("number_by_piece" : Str) = some (.ref dn) ∧ H dn = some (.dK (numD 0 ps)) ∧
  ((∃ p : Str, v = .str p ∧ Q ((valV (numD 0 ps) (Sum.inr p)).getD .non) H) ∨ (NoStr K H v ∧ Q .non H))
theorem met_which (T : Tx K mg) : Met P w K mg base CX0 1 (TC K) "which" (spWhich K) := by
  obtain ⟨fd, F⟩ := T.d_Table_which
  refine ⟨T.cl_Table, _, fd, P_Table_which, F.ok sc_Table_which (fun vs H Q E h => ?_) (fun cdv A outer s H vs Q E hr h => ?_), T.m_Table_which, F.bindsN (ps := P_Table_which) fun _ _ _ _ _ _ us hl => match us, hl with | [_, _], _ => rfl⟩
  · obtain ⟨x, dx, fs, dn, ps, v, rfl, _⟩ := h
    rfl
  · obtain ⟨x, dx, fs, dn, ps, v, rfl, hx, hf, hn, k⟩ := h
    refine ⟨_, (PSs.nox (pss_cons (ps_if (pt_not (pt_val (pe_callB (id := "isinstance") call_isi (by rfl) T.n_isinstance (by decide +kernel) (pa_cons (pv 1) (pa_cons (pe_bltn (v := .ty "str") (by rfl) T.n_str (by decide +kernel) rfl) pa_nil))))) (pss_one (ps_ret pe_non)) pss_nil)
      (pss_one (ps_ret (pe_dget1 (hu_of hr) (pe_fld (pv 0) rfl) (pv 1) ⟨by rfl, by rfl, by rfl, by rfl⟩))))), ?_⟩
    rcases k with ⟨p, rfl, k⟩ | ⟨⟨t, ht, hk⟩, k⟩
    · refine ⟨_, rfl, _, _, _, _, _, rfl, .ty "str", .base (.str p), isStr, _, rfl, iteF ?_⟩
      exact ⟨_, rfl, x, _, dx, _, _, rfl, hx, T.cl_Table, T.no_Table_number_by_piece, hf, dn, rfl, .inl ⟨_, .inl hn⟩, _, rfl, _, DGet.k (k := Sum.inr p) hn, k⟩
    · exact ⟨_, rfl, _, _, _, _, _, rfl, .ty "str", ht, hk, _, rfl, iteT k⟩
def spMayTake (K : PySem.W.Frag) : Sp := fun vs H Q _ => ∃ (x dx : Addr) (z : Str) (lr lp dn dr : Addr) (ps : List Str) (a : Addr) (l r : Str), vs = [.ref x, .ref a] ∧ H x = some (.ins (TC K) dx (tf5 z lr lp dn dr)) ∧ H dn = some (.dK (numD 0 ps)) ∧ ps.Nodup ∧
  H a = some (.tup [.str l, .str r]) ∧ l ∈ ps ∧ r ∈ ps ∧ (l ++ r).length ≤ 16 ∧ ¬ (l ++ r) ∈ ps ∧ Q (.bl true) H
theorem num_some {ps : List Str} {p : Str} (nd : ps.Nodup) (h : p ∈ ps) : ∃ i : Nat, ps[i]? = some p ∧ valV (numD 0 ps) (Sum.inr p) = some (V.int (i : Nat)) := by
  obtain ⟨i, hi, e⟩ := List.mem_iff_getElem.mp h
  have e2 : ps[i]? = some p := by rw [List.getElem?_eq_getElem hi, e]
  have e3 := numD_at 0 ps p i nd e2
  rw [Nat.zero_add] at e3
  exact ⟨i, e2, e3⟩
theorem met_may_take_row (T : Tx K mg) : Met P w K mg base CX0 2 (TC K) "may_take_row" (spMayTake K) := by
  have M_Table_which := met_which (P := P) (w := w) (base := base) T
  obtain ⟨fd, F⟩ := T.d_Table_may_take_row
  refine ⟨T.cl_Table, _, fd, P_Table_may_take_row, F.ok sc_Table_may_take_row (fun vs H Q E h => ?_) (fun cdv A outer s H vs Q E hr h => ?_), T.m_Table_may_take_row, F.bindsN (ps := P_Table_may_take_row) fun _ _ _ _ _ _ us hl => match us, hl with | [_, _], _ => rfl⟩
  · obtain ⟨x, dx, z, lr, lp, dn, dr, ps, a, l, r, rfl, _⟩ := h
    rfl
  · obtain ⟨x, dx, z, lr, lp, dn, dr, ps, a, l, r, rfl, hx, hn, nd, ha, hl, hr', hlen, hnew, k⟩ := h
    refine ⟨_, (PSs.nox (pss_cons (ps_if (PW.pt (pw_or (pt_not (pt_val (pe_callB (id := "isinstance") call_isi (by rfl) T.n_isinstance (by decide +kernel) (pa_cons (pv 1) (pa_cons (pe_bltn (v := .ty "tuple") (by rfl) T.n_tuple (by decide +kernel) rfl) pa_nil))))) (pw_or1 (pt_cmpR op_ne (pe_callB (id := "len") call_len_seq (by rfl) T.n_len (by decide +kernel) (pa_cons (pv 1) pa_nil)) pe_int (nomark _))))) (pss_one (ps_ret pe_bl)) pss_nil)
      (pss_cons (ps_asg (pv 1) (pg_tup rfl (pgs_cons (pg_name (i := 2) sc_Table_may_take_row.nd rfl (Or.inl rfl)) (pgs_cons (pg_name (i := 3) sc_Table_may_take_row.nd rfl (Or.inl rfl)) pgs_nil))))
      (pss_cons (ps_if (PW.pt (pw_or (pt_cmpR op_isN (pe_met M_Table_which (pv 0) (by first | exact hr | exact hr.mono (by decide)) (pa_cons (pv 2) pa_nil)) pe_non (nomark _)) (pw_or1 (pt_cmpR op_isN (pe_met M_Table_which (pv 0) (by first | exact hr | exact hr.mono (by decide)) (pa_cons (pv 3) pa_nil)) pe_non (nomark _))))) (pss_one (ps_ret pe_bl)) pss_nil)
      (pss_cons (ps_set (i := 4) sc_Table_may_take_row.nd rfl (Or.inl rfl) (pe_op op_add_str (pv 2) (pv 3)))
      (pss_one (ps_ret (pe_and (pe_cmpR op_le (pe_callB (id := "len") call_len_str (by rfl) T.n_len (by decide +kernel) (pa_cons (pv 4) pa_nil)) (pe_glob (v := .int 16) (by rfl) T.c_MOST_JOINED.choose_spec ⟨_, rfl⟩) (nomark _)) (pe_one (pe_cmpR op_isN (pe_met M_Table_which (pv 0) (by first | exact hr | exact hr.mono (by decide)) (pa_cons (pv 4) pa_nil)) pe_non (nomark _))))))))))), ?_⟩
    obtain ⟨i, _, ei⟩ := num_some nd hl
    obtain ⟨j, _, ej⟩ := num_some nd hr'
    have la := app_len l r
    refine ⟨_, rfl, _, _, _, _, _, rfl, .ty "tuple", .base (.tup ha), isTup, _, rfl, iteF ⟨_, rfl, a, _, rfl, .inr (SqT.of ha), rfl, _, rfl, iteF ?_⟩⟩
    refine ⟨_, rfl, a, _, rfl, SqT.of ha, rfl, _, _, rfl, _, _, rfl, rfl, ?_⟩
    refine ⟨_, rfl, x, dx, _, rfl, hx, l5_which _ _ _ _ _, _, rfl, x, dx, _, dn, ps, _, rfl, hx, l5_num _ _ _ _ _, hn, .inl ⟨l, rfl, ?_⟩⟩
    rw [ei]
    refine ⟨rfl, _, rfl, iteF ?_⟩
    refine ⟨_, rfl, x, dx, _, rfl, hx, l5_which _ _ _ _ _, _, rfl, x, dx, _, dn, ps, _, rfl, hx, l5_num _ _ _ _ _, hn, .inl ⟨r, rfl, ?_⟩⟩
    rw [ej]
    refine ⟨rfl, _, rfl, iteF ?_⟩
    refine ⟨_, rfl, _, rfl, _, _, rfl, rfl, sz (by omega), ?_⟩
    refine ⟨_, rfl, _, rfl, sz (by omega), _, _, rfl, rfl, _, rfl, ?_⟩
    rw [decide_eq_true (show ((l ++ r).length : Int) ≤ 16 by omega)]
    refine iteT ⟨_, rfl, x, dx, _, rfl, hx, l5_which _ _ _ _ _, _, rfl, x, dx, _, dn, ps, _, rfl, hx, l5_num _ _ _ _ _, hn, .inl ⟨l ++ r, rfl, ?_⟩⟩
    rw [numD_none 0 ps _ hnew]
    exact ⟨rfl, k⟩
def spTakeRow (K : PySem.W.Frag) : Sp := fun vs H Q _ => ∃ (x dx : Addr) (z : Str) (lr lp dn dr : Addr) (ps : List Str) (as : List Addr) (rs : Rws) (a : Addr) (l r : Str), vs = [.ref x, .ref a] ∧ H x = some (.ins (TC K) dx (tf5 z lr lp dn dr)) ∧
  H lr = some (.lst (as.map V.ref)) ∧ lr ≠ lp ∧ H lp = some (.lst (ps.map V.str)) ∧ H dn = some (.dK (numD 0 ps)) ∧ H dr = some (.dT (rankD 0 rs)) ∧ as.length = rs.length ∧ rs.length ≤ 1000 ∧ ps.length ≤ 1000 ∧
  H a = some (.tup [.str l, .str r]) ∧ ¬ (l ++ r) ∈ ps ∧ (l ++ r).length ≤ 1000 ∧ ¬ (l, r) ∈ rs ∧
  ∀ H' t, (∀ b o, b ≠ lr → b ≠ lp → b ≠ dn → b ≠ dr → H b = some o → H' b = some o) → H t = none → H' t = some (.tup [.str l, .str r]) → H' lr = some (.lst ((as ++ [t]).map V.ref)) → H' lp = some (.lst ((ps ++ [l ++ r]).map V.str)) →
    H' dn = some (.dK (numD 0 (ps ++ [l ++ r]))) → H' dr = some (.dT (rankD 0 (rs ++ [(l, r)]))) → Q .non H'
theorem met_take_row (T : Tx K mg) : Met P w K mg base CX0 2 (TC K) "take_row" (spTakeRow K) := by
  have M_Table_take_piece := met_take_piece (P := P) (w := w) (base := base) T
  obtain ⟨fd, F⟩ := T.d_Table_take_row
  refine ⟨T.cl_Table, _, fd, P_Table_take_row, F.ok sc_Table_take_row (fun vs H Q E h => ?_) (fun cdv A outer s H vs Q E hr h => ?_), T.m_Table_take_row, F.bindsN (ps := P_Table_take_row) fun _ _ _ _ _ _ us hl => match us, hl with | [_, _], _ => rfl⟩
  · obtain ⟨x, dx, z, lr, lp, dn, dr, ps, as, rs, a, l, r, rfl, _⟩ := h
    rfl
  · obtain ⟨x, dx, z, lr, lp, dn, dr, ps, as, rs, a, l, r, rfl, hx, hlr, nrp, hlp, hdn, hdr, hl1, hl2, hl3, ha, hnew, hlen, hnr, k⟩ := h
    refine ⟨_, (PSs.nox (pss_cons (ps_asg (pv 1) (pg_tup rfl (pgs_cons (pg_name (i := 2) sc_Table_take_row.nd rfl (Or.inl rfl)) (pgs_cons (pg_name (i := 3) sc_Table_take_row.nd rfl (Or.inl rfl)) pgs_nil))))
      (pss_cons (ps_dput (hu_of hr) (pe_fld (pv 0) rfl) (pe_tup (pa_cons (pv 2) (pa_cons (pv 3) pa_nil))) (pe_callB (id := "len") call_len_seq (by rfl) T.n_len (by decide +kernel) (pa_cons (pe_fld (pv 0) rfl) pa_nil)) rfl)
      (pss_cons (ps_expr (pe_bm PySem.F.plainAttrs_list PySem.F.slot_list_append PySem.F.type_list_append mt_append (pe_fld (pv 0) rfl) (pa_cons (pe_tup (pa_cons (pv 2) (pa_cons (pv 3) pa_nil))) pa_nil)))
      (pss_one (ps_expr (pe_met M_Table_take_piece (pv 0) (by first | exact hr | exact hr.mono (by decide)) (pa_cons (pe_op op_add_str (pv 2) (pv 3)) pa_nil)))))))), ?_⟩
    have la := app_len l r
    have x1 : x ≠ lr := ne_of hx hlr (by intro q; cases q)
    have x2 : x ≠ lp := ne_of hx hlp (by intro q; cases q)
    have x3 : x ≠ dn := ne_of hx hdn (by intro q; cases q)
    have x4 : x ≠ dr := ne_of hx hdr (by intro q; cases q)
    have r1 : lr ≠ dn := ne_of hlr hdn (by intro q; cases q)
    have r2 : lr ≠ dr := ne_of hlr hdr (by intro q; cases q)
    have p1 : lp ≠ dn := ne_of hlp hdn (by intro q; cases q)
    have p2 : lp ≠ dr := ne_of hlp hdr (by intro q; cases q)
    have d1 : dn ≠ dr := ne_of hdn hdr (by intro q; cases q)
    refine ⟨_, rfl, a, _, rfl, SqT.of ha, rfl, _, _, rfl, _, _, rfl, rfl, ?_⟩
    refine ⟨_, rfl, x, _, dx, _, _, rfl, hx, T.cl_Table, T.no_Table_row_list, l5_rl _ _ _ _ _, _, _, rfl, .inl (SqL.of hlr), _, rfl, x, _, dx, _, _, rfl, hx, T.cl_Table, T.no_Table_rank_by_row, l5_rk _ _ _ _ _, ?_⟩
    refine ⟨_, rfl, _, rfl, (by show 2 ≤ sizeLine; decide), fun t ht => ?_⟩
    have tr : t ≠ dr := fun e => by rw [e, hdr] at ht; cases ht
    have s1 := Same.new (o := .tup [V.str l, V.str r]) ht
    refine ⟨dr, _, rfl, DPut.t (k := [Sum.inr l, Sum.inr r]) (s1 _ _ hdr) upd_same ?_, ?_⟩
    · rw [rankD_len]; exact szl (by omega)
    rw [putK_new _ (rankD_none 0 rs l r hnr), List.length_map, hl1]
    have e : rankD 0 rs ++ [([Sum.inr l, Sum.inr r], V.int ((rs.length : Nat) : Int))] = rankD 0 (rs ++ [(l, r)]) := by rw [rankD_snoc, Nat.zero_add]
    rw [e]
    refine ⟨_, rfl, x, _, dx, _, _, rfl, (by rw [upd_ne x4]; exact s1 _ _ hx), T.cl_Table, T.no_Table_row_list, l5_rl _ _ _ _ _, .inl ⟨rfl, _, SqL.of (by rw [upd_ne r2]; exact s1 _ _ hlr)⟩, _, rfl, _, rfl, (by show 2 ≤ sizeLine; decide), fun u hu => ?_⟩
    have hu1 : (upd H t (.tup [V.str l, V.str r])) u = none := by
      by_cases e1 : u = dr
      · rw [e1, upd_same] at hu; cases hu
      · rw [upd_ne e1] at hu; exact hu
    have huH : H u = none := s1.free hu1
    have ut : u ≠ t := fun e1 => by rw [e1, upd_same] at hu1; cases hu1
    have ur : u ≠ lr := fun e1 => by rw [e1, hlr] at huH; cases huH
    have up : u ≠ lp := fun e1 => by rw [e1, hlp] at huH; cases huH
    have un : u ≠ dn := fun e1 => by rw [e1, hdn] at huH; cases huH
    have ud : u ≠ dr := fun e1 => by rw [e1, hdr] at huH; cases huH
    have ux : u ≠ x := fun e1 => by rw [e1, hx] at huH; cases huH
    refine ⟨lr, _, _, rfl, rfl, (by rw [upd_ne (Ne.symm ur), upd_ne r2]; exact s1 _ _ hlr), ?_, ?_⟩
    · rw [List.length_map, hl1]; exact szl (by omega)
    have hx2 : (upd (upd (upd (upd H t (.tup [V.str l, V.str r])) dr (.dT (rankD 0 (rs ++ [(l, r)])))) u (.tup [V.str l, V.str r])) lr (.lst (as.map V.ref ++ [V.ref u]))) x = some (.ins (TC K) dx (tf5 z lr lp dn dr)) := by
      rw [upd_ne x1, upd_ne (Ne.symm ux), upd_ne x4]; exact s1 _ _ hx
    refine ⟨_, rfl, x, dx, _, rfl, hx2, l5_tp _ _ _ _ _, _, rfl, _, rfl, _, _, rfl, rfl, sz (by omega), x, dx, z, lr, lp, dn, dr, ps, l ++ r, rfl, hx2, ?_, ?_, hnew, hl3, ?_⟩
    · rw [upd_ne (Ne.symm nrp), upd_ne (Ne.symm up), upd_ne p2]; exact s1 _ _ hlp
    · rw [upd_ne (Ne.symm r1), upd_ne (Ne.symm un), upd_ne d1]; exact s1 _ _ hdn
    · refine k _ u (fun b o b1 b2 b3 b4 hb => ?_) huH ?_ ?_ upd_same ?_ ?_
      · have bu : b ≠ u := ne_of_none hb huH
        rw [upd_ne b2, upd_ne b3, upd_ne b1, upd_ne bu, upd_ne b4]; exact s1 _ _ hb
      · rw [upd_ne up, upd_ne un, upd_ne ur, upd_same]
      · rw [upd_ne nrp, upd_ne r1, upd_same, List.map_append]; rfl
      · rw [upd_ne (Ne.symm p1), upd_same]
      · rw [upd_ne (Ne.symm p2), upd_ne (Ne.symm d1), upd_ne (Ne.symm r2), upd_ne (Ne.symm ud), upd_same]
end
end Jr
namespace Jr
open PySem PySem.Spec PyProof.Rows L2
/-- a table that is being made -/
structure Mid (K : PySem.W.Frag) (H0 H : Hp) (x dx : Addr) (z : Str) (lr lp dn dr : Addr) (as : List Addr) (ps : List Str) (rs : Rws) : Prop where
  hx : H x = some (.ins (TC K) dx (tf5 z lr lp dn dr))
  hlr : H lr = some (.lst (as.map V.ref))
  hts : Paired (TupAt H) as rs
  hlp : H lp = some (.lst (ps.map V.str))
  hdn : H dn = some (.dK (numD 0 ps))
  hdr : H dr = some (.dT (rankD 0 rs))
  sm : Same H0 H
  fra : ∀ a ∈ as, H0 a = none
structure Fre (H0 : Hp) (x lr lp dn dr : Addr) : Prop where
  fx : H0 x = none
  flr : H0 lr = none
  flp : H0 lp = none
  fdn : H0 dn = none
  fdr : H0 dr = none
  rp : lr ≠ lp
theorem Mid.new {K : PySem.W.Frag} {H0 H : Hp} {x dx : Addr} {z : Str} {lr lp dn dr t : Addr} {as : List Addr} {ps : List Str} {rs : Rws} {o : HO} (M : Mid K H0 H x dx z lr lp dn dr as ps rs) (ht : H t = none) : Mid K H0 (upd H t o) x dx z lr lp dn dr as ps rs :=
  ⟨Same.new ht _ _ M.hx, Same.new ht _ _ M.hlr, TupAt.same (Same.new ht) M.hts, Same.new ht _ _ M.hlp, Same.new ht _ _ M.hdn, Same.new ht _ _ M.hdr, Same.put M.sm ht, M.fra⟩
theorem Mid.piece {K : PySem.W.Frag} {H0 H : Hp} {x dx : Addr} {z : Str} {lr lp dn dr : Addr} {as : List Addr} {ps : List Str} {rs : Rws} {p : Str} (F : Fre H0 x lr lp dn dr) (M : Mid K H0 H x dx z lr lp dn dr as ps rs) :
    Mid K H0 (upd (upd H dn (.dK (numD 0 (ps ++ [p])))) lp (.lst ((ps ++ [p]).map V.str))) x dx z lr lp dn dr as (ps ++ [p]) rs := by
  have x2 : x ≠ lp := ne_of M.hx M.hlp (by intro q; cases q)
  have x3 : x ≠ dn := ne_of M.hx M.hdn (by intro q; cases q)
  have r1 : lr ≠ dn := ne_of M.hlr M.hdn (by intro q; cases q)
  have p1 : lp ≠ dn := ne_of M.hlp M.hdn (by intro q; cases q)
  have p2 : lp ≠ dr := ne_of M.hlp M.hdr (by intro q; cases q)
  have d1 : dn ≠ dr := ne_of M.hdn M.hdr (by intro q; cases q)
  refine ⟨?_, ?_, ?_, upd_same, ?_, ?_, ?_, M.fra⟩
  · rw [upd_ne x2, upd_ne x3]; exact M.hx
  · rw [upd_ne F.rp, upd_ne r1]; exact M.hlr
  · refine L2.Paired.mapP M.hts fun b r hb => ?_
    show upd _ _ _ b = _
    have hb2 : H b = _ := hb
    have b1 : b ≠ lp := ne_of hb2 M.hlp (by intro q; cases q)
    have b2 : b ≠ dn := ne_of hb2 M.hdn (by intro q; cases q)
    rw [upd_ne b1, upd_ne b2]
    exact hb
  · rw [upd_ne (Ne.symm p1), upd_same]
  · rw [upd_ne (Ne.symm p2), upd_ne (Ne.symm d1)]; exact M.hdr
  · exact Same.mut (Same.mut M.sm F.fdn) F.flp
/-- a made table, all of it new behind H0 -/
def TabFr (C : Addr) (H0 H : Hp) (x : Addr) (z : Str) (rs : Rws) : Prop := ∃ (dx lr lp dn dr : Addr) (m : Nat) (as : List Addr), H x = some (.ins C dx (tf6 z lr lp dn dr (m : Int))) ∧ H lr = some (.lst (as.map V.ref)) ∧ Paired (TupAt H) as rs ∧ H lp = some (.lst ((pcs z rs).map V.str)) ∧ H dn = some (.dK (numD 0 (pcs z rs))) ∧ H dr = some (.dT (rankD 0 rs)) ∧
  (∃ p ∈ pcs z rs, p.length = m) ∧ (∀ p ∈ pcs z rs, p.length ≤ m) ∧ TabOk z rs ∧ H0 x = none ∧ H0 lr = none ∧ H0 lp = none ∧ H0 dn = none ∧ H0 dr = none ∧ ∀ a ∈ as, H0 a = none
theorem TabFr.tab {C : Addr} {H0 H : Hp} {x : Addr} {z : Str} {rs : Rws} (h : TabFr C H0 H x z rs) : TabAt C H x z rs := by
  obtain ⟨dx, lr, lp, dn, dr, m, as, h1, h2, h2', h3, h4, h5, h6, h7, ok, _⟩ := h
  exact ⟨⟨dx, lr, lp, dn, dr, m, h1, ⟨as, h2, h2'⟩, h3, h4, h5, h6, h7⟩, ok⟩
/-- what is done to objects that stood ahead leaves the table -/
theorem TabFr.keep {C : Addr} {H0 H H' : Hp} {x : Addr} {z : Str} {rs : Rws} (h : TabFr C H0 H x z rs) (k : ∀ b o, H0 b = none → H b = some o → H' b = some o) : TabFr C H0 H' x z rs := by
  obtain ⟨dx, lr, lp, dn, dr, m, as, h1, h2, h2', h3, h4, h5, h6, h7, ok, f1, f2, f3, f4, f5, f6⟩ := h
  refine ⟨dx, lr, lp, dn, dr, m, as, k _ _ f1 h1, k _ _ f2 h2, ?_, k _ _ f3 h3, k _ _ f4 h4, k _ _ f5 h5, h6, h7, ok, f1, f2, f3, f4, f5, f6⟩
  have key : ∀ {l : List Addr} {r : Rws}, Paired (TupAt H) l r → (∀ a ∈ l, H0 a = none) → Paired (TupAt H') l r := fun {l r} hp => by
    induction hp with
    | nil => intro _; exact .nil
    | cons q _ ih => intro hf; exact .cons (k _ _ (hf _ List.mem_cons_self) q) (ih fun a ha => hf a (List.mem_cons_of_mem _ ha))
  exact key h2' f6
theorem TabFr.same {C : Addr} {H0 H H' : Hp} {x : Addr} {z : Str} {rs : Rws} (h : TabFr C H0 H x z rs) (s : Same H H') : TabFr C H0 H' x z rs := h.keep fun b o _ e => s b o e
def spTInit2 (K : PySem.W.Frag) : Sp := fun vs H Q _ => ∃ (H0 : Hp) (x dx pr : Addr) (z : Str) (rs : Rws), vs = [.ref x, .str z, .ref pr] ∧ H = upd (upd H0 dx (.own x)) x (.ins (TC K) dx []) ∧ H0 x = none ∧ H0 dx = none ∧ dx ≠ x ∧ RowsAt H0 pr rs ∧ TabOk z rs ∧
  ∀ H', Same H0 H' → TabFr (TC K) H0 H' x z rs → Q .non H'
def spTInit (K : PySem.W.Frag) : Sp := fun vs H Q _ => ∃ (H0 : Hp) (x dx pr : Addr) (z : Str) (rs : Rws), vs = [.ref x, .str z, .ref pr] ∧ H = upd (upd H0 dx (.own x)) x (.ins (TC K) dx []) ∧ H0 x = none ∧ H0 dx = none ∧ dx ≠ x ∧ RowsAt H0 pr rs ∧ TabOk z rs ∧
  ∀ H', Same H0 H' → TabAt (TC K) H' x z rs → Q .non H'
theorem list_max : ∀ (l : List Str), l ≠ [] → ∃ p ∈ l, ∀ q ∈ l, q.length ≤ p.length
  | [], h => absurd rfl h
  | [a], _ => ⟨a, List.mem_cons_self, fun q hq => by rw [List.mem_singleton.mp hq]; exact Nat.le_refl _⟩
  | a :: b :: l, _ => by
    obtain ⟨p, hp, hm⟩ := list_max (b :: l) (by simp)
    by_cases h : p.length ≤ a.length
    · exact ⟨a, List.mem_cons_self, fun q hq => by
        rcases List.mem_cons.mp hq with e | e
        · rw [e]; exact Nat.le_refl _
        · exact Nat.le_trans (hm q e) h⟩
    · exact ⟨p, List.mem_cons_of_mem _ hp, fun q hq => by
        rcases List.mem_cons.mp hq with e | e
        · rw [e]; omega
        · exact hm q e⟩
section
variable {P : Program} {w : World} {K : PySem.W.Frag} {mg : Str → Option Value} {base : Heap}
theorem mkc_Table2 (T : Tx K mg) : Mkc P w K mg base CX0 3 "Table" (TC K) (spTInit2 K) := by
  have C_check_signs := cal_check_signs (P := P) (w := w) (base := base) T
  have M_Table_take_piece := met_take_piece (P := P) (w := w) (base := base) T
  have M_Table_may_take_row := met_may_take_row (P := P) (w := w) (base := base) T
  have M_Table_take_row := met_take_row (P := P) (w := w) (base := base) T
  obtain ⟨fd, F⟩ := T.d_Table___init__
  refine ⟨⟨_, fd, P_Table___init__, F.ok sc_Table___init__ (fun vs H Q E h => ?_) (fun cdv A outer s H vs Q E hr h => ?_), T.mk_Table, F.bindsN (ps := P_Table___init__) fun _ _ _ _ _ _ us hl => match us, hl with | [_, _, _], _ => rfl⟩, T.g_Table⟩
  · obtain ⟨H0, x, dx, pr, z, rs, rfl, _⟩ := h
    rfl
  · obtain ⟨H0, x, dx, pr, z, rs, rfl, rfl, x0, dx0, ndx, ⟨as0, hpr, hts0⟩, tk, k⟩ := h
    refine ⟨_, (PSs.nox (pss_cons (ps_expr (pe_cal C_check_signs (by first | exact hr | exact hr.mono (by decide)) (by rfl) (pa_cons (pv 1) pa_nil)))
      (pss_cons (ps_if (PW.pt (pw_or (pt_not (pt_val (pe_callB (id := "isinstance") call_isi (by rfl) T.n_isinstance (by decide +kernel) (pa_cons (pv 2) (pa_cons (pe_bltn (v := .ty "list") (by rfl) T.n_list (by decide +kernel) rfl) pa_nil))))) (pw_or1 (pt_cmpR op_gt (pe_callB (id := "len") call_len_seq (by rfl) T.n_len (by decide +kernel) (pa_cons (pv 2) pa_nil)) (pe_glob (v := .int 24) (by rfl) T.c_MOST_ROWS.choose_spec ⟨_, rfl⟩) (nomark _))))) (pss_one ps_never) pss_nil)
      (pss_cons (ps_fld (pv 0) (pv 1) rfl)
      (pss_cons (ps_fld (pv 0) (pe_lst pa_nil) rfl)
      (pss_cons (ps_fld (pv 0) (pe_lst pa_nil) rfl)
      (pss_cons (ps_fld (pv 0) pe_dnewK rfl)
      (pss_cons (ps_fld (pv 0) pe_dnewT rfl)
      (pss_cons (ps_for PassesOwn.never rfl (pi_str (pv 1)) (pg_name (i := 3) sc_Table___init__.nd rfl (Or.inl rfl)) (pss_one (ps_expr (pe_met M_Table_take_piece (pv 0) (by first | exact hr | exact hr.mono (by decide)) (pa_cons (pv 3) pa_nil)))))
      (pss_cons (ps_for PassesOwn.never rfl (pi_enum (by rfl) T.n_enumerate (pa_cons (pv 2) pa_nil)) (pg_tup rfl (pgs_cons (pg_name (i := 4) sc_Table___init__.nd rfl (Or.inl rfl)) (pgs_cons (pg_name (i := 5) sc_Table___init__.nd rfl (Or.inl rfl)) pgs_nil))) (pss_cons (ps_if (pt_not (pt_val (pe_met M_Table_may_take_row (pv 0) (by first | exact hr | exact hr.mono (by decide)) (pa_cons (pv 5) pa_nil)))) (pss_one ps_never) pss_nil)
      (pss_one (ps_expr (pe_met M_Table_take_row (pv 0) (by first | exact hr | exact hr.mono (by decide)) (pa_cons (pv 5) pa_nil))))))
      (pss_one (ps_fld (pv 0) (pe_callB (id := "max") (cr_max rfl) (by rfl) T.n_max (by decide +kernel) (pa_cons (pe_lc (own := [("piece", 6)]) (g := gName 6) (by rfl) sc_Table___init__.nd (pi_list (pe_fld (pv 0) rfl)) (blkOk_by (own := [("piece", 6)]) (N := N_Table___init__) (sc := defScope s_Table___init__) (by decide +kernel)) (fun _ _ _ _ _ => (pg_name (i := 6) sc_Table___init__.nd rfl (Or.inl rfl))) (fun _ _ _ _ _ => pts_nil) (fun _ _ _ _ _ => (pe_callB (id := "len") call_len_str (by rfl) T.n_len (by decide +kernel) (pa_cons (pv 6) pa_nil)))) pa_nil)) rfl)))))))))))), ?_⟩
    have n12 := tk.n12
    have n1 := tk.n1
    have many := tk.many
    have s00 : Same H0 (upd (upd H0 dx (.own x)) x (.ins (TC K) dx [])) := Same.mut (Same.new dx0) x0
    refine ⟨_, rfl, z, rfl, tk.sg, tk.n1, tk.n12, fun H1 s1 => ?_⟩
    have hx1 : H1 x = some (.ins (TC K) dx []) := s1 _ _ upd_same
    have s01 := s00.trans s1
    have hpr1 : H1 pr = some (.lst (as0.map V.ref)) := s01 _ _ hpr
    refine ⟨_, rfl, _, _, _, _, _, rfl, .ty "list", .base (.lst hpr1), isLst, _, rfl, iteF ⟨_, rfl, _, _, rfl, .inl (SqL.of hpr1), _, _, rfl, rfl, _, rfl, ?_⟩⟩
    rw [decide_eq_false (show ¬ (24 : Int) < ((as0.map V.ref).length : Nat) by rw [List.length_map, Paired.len hts0]; omega)]
    refine iteF ⟨_, rfl, _, rfl, x, _, dx, _, rfl, hx1, T.cl_Table, T.no_Table_sign_text, (by show 0 < 1000; decide), ?_⟩
    have s02 := Same.mut (o := .ins (TC K) dx (putF "sign_text" (.str z) [])) s01 x0
    refine ⟨Nat.zero_le _, fun lr hlr => ⟨_, rfl, x, _, dx, _, rfl, Same.new hlr _ _ upd_same, T.cl_Table, T.no_Table_row_list, (by show 1 < 1000; decide), ?_⟩⟩
    have s03 := Same.mut (o := .ins (TC K) dx (putF "row_list" (.ref lr) (putF "sign_text" (.str z) []))) (Same.put (o := .lst []) s02 hlr) x0
    refine ⟨Nat.zero_le _, fun lp hlp => ⟨_, rfl, x, _, dx, _, rfl, Same.new hlp _ _ upd_same, T.cl_Table, T.no_Table_piece_list, (by show 2 < 1000; decide), ?_⟩⟩
    have s04 := Same.mut (o := .ins (TC K) dx (putF "piece_list" (.ref lp) (putF "row_list" (.ref lr) (putF "sign_text" (.str z) [])))) (Same.put (o := .lst []) s03 hlp) x0
    intro dn hdn
    refine ⟨_, rfl, x, _, dx, _, rfl, Same.new hdn _ _ upd_same, T.cl_Table, T.no_Table_number_by_piece, (by show 3 < 1000; decide), ?_⟩
    have s05 := Same.mut (o := .ins (TC K) dx (putF "number_by_piece" (.ref dn) (putF "piece_list" (.ref lp) (putF "row_list" (.ref lr) (putF "sign_text" (.str z) []))))) (Same.put (o := .dK []) s04 hdn) x0
    intro dr hdr
    refine ⟨_, rfl, x, _, dx, _, rfl, Same.new hdr _ _ upd_same, T.cl_Table, T.no_Table_rank_by_row, (by show 4 < 1000; decide), ?_⟩
    rw [l5_put]
    have s06 := Same.mut (o := .ins (TC K) dx (tf5 z lr lp dn dr)) (Same.put (o := .dT []) s05 hdr) x0
    have fr : Fre H0 x lr lp dn dr := ⟨x0, s02.free hlr, s03.free hlp, s04.free hdn, s05.free hdr, fun e => by
      rw [← e] at hlp
      have xl : lr ≠ x := fun e2 => by rw [e2, upd_same] at hlr; cases hlr
      rw [upd_ne xl, upd_same] at hlp
      cases hlp⟩
    have xlr : lr ≠ x := fun e2 => by rw [e2, upd_same] at hlr; cases hlr
    have xlp : lp ≠ x := fun e2 => by rw [e2, upd_same] at hlp; cases hlp
    have xdn : dn ≠ x := fun e2 => by rw [e2, upd_same] at hdn; cases hdn
    have xdr : dr ≠ x := fun e2 => by rw [e2, upd_same] at hdr; cases hdr
    have q1 := hlp
    have q2 := hdn
    have q3 := hdr
    have a1 : lr ≠ dn := fun e => by
      rw [← e, upd_ne xlr, upd_ne fr.rp, upd_ne xlr, upd_same] at q2; cases q2
    have a2 : lp ≠ dn := fun e => by
      rw [← e, upd_ne xlp, upd_same] at q2; cases q2
    have a3 : lr ≠ dr := fun e => by
      rw [← e, upd_ne xlr, upd_ne a1, upd_ne xlr, upd_ne fr.rp, upd_ne xlr, upd_same] at q3; cases q3
    have a4 : lp ≠ dr := fun e => by
      rw [← e, upd_ne xlp, upd_ne a2, upd_ne xlp, upd_same] at q3; cases q3
    have a5 : dn ≠ dr := fun e => by
      rw [← e, upd_ne xdn, upd_same] at q3; cases q3
    have mid0 : Mid K H0 (upd (upd (upd (upd (upd (upd (upd (upd (upd H1 x (.ins (TC K) dx (putF "sign_text" (.str z) []))) lr (.lst [])) x (.ins (TC K) dx (putF "row_list" (.ref lr) (putF "sign_text" (.str z) [])))) lp (.lst [])) x (.ins (TC K) dx (putF "piece_list" (.ref lp) (putF "row_list" (.ref lr) (putF "sign_text" (.str z) []))))) dn (.dK [])) x (.ins (TC K) dx (putF "number_by_piece" (.ref dn) (putF "piece_list" (.ref lp) (putF "row_list" (.ref lr) (putF "sign_text" (.str z) [])))))) dr (.dT [])) x (.ins (TC K) dx (tf5 z lr lp dn dr))) x dx z lr lp dn dr [] [] [] := by
      refine ⟨upd_same, ?_, .nil, ?_, ?_, ?_, s06, fun a ha => by cases ha⟩
      · rw [upd_ne xlr, upd_ne a3, upd_ne xlr, upd_ne a1, upd_ne xlr, upd_ne fr.rp, upd_ne xlr, upd_same]; rfl
      · rw [upd_ne xlp, upd_ne a4, upd_ne xlp, upd_ne a2, upd_ne xlp, upd_same]; rfl
      · rw [upd_ne xdn, upd_ne a5, upd_ne xdn, upd_same]; rfl
      · rw [upd_ne xdr, upd_same]; rfl
    revert mid0
    generalize (upd (upd (upd (upd (upd (upd (upd (upd (upd H1 x (.ins (TC K) dx (putF "sign_text" (.str z) []))) lr (.lst [])) x (.ins (TC K) dx (putF "row_list" (.ref lr) (putF "sign_text" (.str z) [])))) lp (.lst [])) x (.ins (TC K) dx (putF "piece_list" (.ref lp) (putF "row_list" (.ref lr) (putF "sign_text" (.str z) []))))) dn (.dK [])) x (.ins (TC K) dx (putF "number_by_piece" (.ref dn) (putF "piece_list" (.ref lp) (putF "row_list" (.ref lr) (putF "sign_text" (.str z) [])))))) dr (.dT [])) x (.ins (TC K) dx (tf5 z lr lp dn dr))) = H6
    intro mid0
    refine ⟨_, rfl, z, rfl, for_str (x := z) (fun i σ H' => ∃ u, σ = [some (.ref x), some (.str z), some (.ref pr), u, none, none, none] ∧ Mid K H0 H' x dx z lr lp dn dr [] ((sgs z).take i) []) ⟨none, rfl, mid0⟩ ?_ ?_⟩
    · rintro i c σ H' hi ⟨u, rfl, M⟩
      have hsg : (sgs z)[i]? = some (sgn c) := by unfold sgs; rw [List.getElem?_map, hi]; rfl
      have hnew : ¬ sgn c ∈ (sgs z).take i := fun hm => by
        have nd := sgs_nodup tk.sg.nd
        rw [← List.take_append_drop i (sgs z), List.nodup_append] at nd
        refine nd.2.2 _ hm (sgn c) (List.mem_of_getElem? (i := 0) ?_) rfl
        rw [List.getElem?_drop]; exact hsg
      refine ⟨_, rfl, x, dx, _, rfl, M.hx, l5_tp _ _ _ _ _, _, rfl, x, dx, z, lr, lp, dn, dr, (sgs z).take i, sgn c, rfl, M.hx, M.hlp, M.hdn, hnew, ?_, ?_⟩
      · rw [List.length_take]; have := sgs_len z; omega
      · refine ⟨_, rfl, ?_⟩
        have e : (sgs z).take (i + 1) = (sgs z).take i ++ [sgn c] := by rw [List.take_add_one, hsg]; rfl
        rw [e]
        exact M.piece fr
    · rintro σ H' ⟨u, rfl, M⟩
      have e0 : (sgs z).take z.cps.toList.length = sgs z := by
        rw [List.take_of_length_le]; unfold sgs; rw [List.length_map]; exact Nat.le_refl _
      rw [e0] at M
      have ep : sgs z = pcs z [] := by unfold pcs; rw [List.map_nil, List.append_nil]
      rw [ep] at M
      refine ⟨_, rfl, pr, _, rfl, SqL.of (M.sm _ _ hpr), for_enum (K := K) (a := pr) (xs := as0.map V.ref) (fun i σ H' => ∃ (u v y : Option V) (as : List Addr), σ = [some (.ref x), some (.str z), some (.ref pr), u, v, y, none] ∧ Mid K H0 H' x dx z lr lp dn dr as (pcs z (rs.take i)) (rs.take i))
        ⟨u, none, none, [], rfl, M⟩ (fun i σ H' _ ⟨_, _, _, _, _, M⟩ => SqL.of (M.sm _ _ hpr)) ?_ ?_⟩
      · rintro i y t σ H' hi ht ⟨u, v, y', as, rfl, M0⟩
        have M := M0.new (o := .tup [.int (i : Nat), y]) ht
        rw [List.getElem?_map] at hi
        cases ea : as0[i]? with
        | none => rw [ea] at hi; cases hi
        | some a =>
          rw [ea] at hi
          cases hi
          obtain ⟨r, hri, hta⟩ := Paired.get hts0 ea
          obtain ⟨l, r⟩ := r
          have ro := tk.rows i _ hri
          have ha : upd H' t (.tup [.int (i : Nat), .ref a]) a = some (.tup [.str l, .str r]) := M.sm _ _ hta
          have tki := tk.take i
          have pln : (pcs z (rs.take i)).length ≤ 1000 := by rw [pcs_len, List.length_take]; omega
          refine ⟨t, _, rfl, SqT.of upd_same, rfl, _, _, rfl, _, _, rfl, rfl, ?_⟩
          refine ⟨_, rfl, x, dx, _, rfl, M.hx, l5_mt _ _ _ _ _, _, rfl, x, dx, z, lr, lp, dn, dr, pcs z (rs.take i), a, l, r, rfl, M.hx, M.hdn, tki.nodup, ha, ro.lm, ro.rm, ro.len, ro.new, _, rfl, iteF ?_⟩
          have hnr : ¬ (l, r) ∈ rs.take i := fun hm => ro.new (by unfold pcs; exact List.mem_append_right _ (List.mem_map.mpr ⟨_, hm, rfl⟩))
          have rlen : (rs.take i).length ≤ 1000 := by rw [List.length_take]; omega
          refine ⟨_, rfl, x, dx, _, rfl, M.hx, l5_tr _ _ _ _ _, _, rfl, x, dx, z, lr, lp, dn, dr, pcs z (rs.take i), as, rs.take i, a, l, r, rfl, M.hx, M.hlr, fr.rp, M.hlp, M.hdn, M.hdr, Paired.len M.hts, rlen, pln, ha, ro.new, Nat.le_trans ro.len (by decide), hnr, ?_⟩
          intro H7 t7 keep ht7 h7t h7r h7p h7n h7d
          have x1 : x ≠ lr := ne_of M.hx M.hlr (by intro q; cases q)
          have x2 : x ≠ lp := ne_of M.hx M.hlp (by intro q; cases q)
          have x3 : x ≠ dn := ne_of M.hx M.hdn (by intro q; cases q)
          have x4 : x ≠ dr := ne_of M.hx M.hdr (by intro q; cases q)
          have et : rs.take (i + 1) = rs.take i ++ [(l, r)] := by rw [List.take_add_one, hri]; rfl
          refine ⟨_, _, _, as ++ [t7], rfl, ?_⟩
          rw [et, pcs_snoc]
          refine ⟨keep _ _ x1 x2 x3 x4 M.hx, h7r, Paired.snoc (L2.Paired.mapP M.hts fun b q hb => ?_) h7t, h7p, h7n, h7d, fun b o hb => ?_, fun b hb => ?_⟩
          · have hb2 : upd H' t (.tup [.int (i : Nat), .ref a]) b = _ := hb
            exact keep _ _ (ne_of hb2 M.hlr (by intro q; cases q)) (ne_of hb2 M.hlp (by intro q; cases q)) (ne_of hb2 M.hdn (by intro q; cases q)) (ne_of hb2 M.hdr (by intro q; cases q)) hb2
          · exact keep _ _ (ne_of_none hb fr.flr) (ne_of_none hb fr.flp) (ne_of_none hb fr.fdn) (ne_of_none hb fr.fdr) (M.sm _ _ hb)
          · rcases List.mem_append.mp hb with hb | hb
            · exact M.fra b hb
            · rw [List.mem_singleton.mp hb]; exact M.sm.free ht7
      · rintro σ H' ⟨u, v, y, as, rfl, M⟩
        have e1 : rs.take (as0.map V.ref).length = rs := by rw [List.length_map, Paired.len hts0, List.take_length]
        rw [e1] at M
        refine ⟨_, rfl, x, _, dx, _, _, rfl, M.hx, T.cl_Table, T.no_Table_piece_list, l5_pl _ _ _ _ _, lp, rfl, ⟨_, SqL.of M.hlp⟩, fun D hD => lc_listM (K := K) (item := V.str) (p := fun _ => true) (f := fun q => V.int (q.length : Nat)) (l := pcs z rs) (SqL.of M.hlp) hD ?_ (fun q hq H2 _ N Mm hM _ => ?_) (fun H2 s2 hL => ?_)⟩
        · rw [pcs_len]; omega
        · exact ⟨rfl, _, rfl, _, rfl, sz (by have := (tk.plen hq).2; omega), hM rfl⟩
        · have ef : (pcs z rs).filter (fun _ => true) = pcs z rs := List.filter_eq_self.mpr fun _ _ => rfl
          rw [ef] at hL
          obtain ⟨p, hp, hmx⟩ := list_max (pcs z rs) (fun e => by have := congrArg List.length e; rw [pcs_len] at this; simp at this; omega)
          refine ⟨D, (pcs z rs).map fun q => ((q.length : Nat) : Int), rfl, SqL.of ?_, ?_, ?_⟩
          · rw [hL, List.map_map]; rfl
          · rw [List.length_map, pcs_len]; omega
          · intro m hm hmm
            obtain ⟨pm, hpm, rfl⟩ := List.mem_map.mp hm
            have M2hx := s2 _ _ M.hx
            refine ⟨_, rfl, x, _, dx, _, rfl, M2hx, T.cl_Table, T.no_Table_most_signs, (by show 5 < 1000; decide), ?_⟩
            rw [l5_most]
            have x1 : x ≠ lr := ne_of M.hx M.hlr (by intro q; cases q)
            have x2 : x ≠ lp := ne_of M.hx M.hlp (by intro q; cases q)
            have x3 : x ≠ dn := ne_of M.hx M.hdn (by intro q; cases q)
            have x4 : x ≠ dr := ne_of M.hx M.hdr (by intro q; cases q)
            refine k _ (Same.mut (M.sm.trans s2) x0) ⟨dx, lr, lp, dn, dr, pm.length, as, upd_same, ?_, ?_, ?_, ?_, ?_, ⟨pm, hpm, rfl⟩, fun q hq => ?_, tk, fr.fx, fr.flr, fr.flp, fr.fdn, fr.fdr, M.fra⟩
            · rw [upd_ne (Ne.symm x1)]; exact s2 _ _ M.hlr
            · refine L2.Paired.mapP M.hts fun b q hb => ?_
              have hb2 : H' b = _ := hb
              show upd H2 x _ b = _
              rw [upd_ne (ne_of hb2 M.hx (by intro q; cases q))]
              exact s2 _ _ hb2
            · rw [upd_ne (Ne.symm x2)]; exact s2 _ _ M.hlp
            · rw [upd_ne (Ne.symm x3)]; exact s2 _ _ M.hdn
            · rw [upd_ne (Ne.symm x4)]; exact s2 _ _ M.hdr
            · have := hmm _ (List.mem_map.mpr ⟨q, hq, rfl⟩)
              omega
theorem mkc_Table (T : Tx K mg) : Mkc P w K mg base CX0 3 "Table" (TC K) (spTInit K) := by
  obtain ⟨⟨f, fd, ps, G, mk, b⟩, g⟩ := mkc_Table2 (P := P) (w := w) (base := base) T
  refine ⟨⟨f, fd, ps, G.imp fun vs H Q E h => ?_, mk, b⟩, g⟩
  obtain ⟨H0, x, dx, pr, z, rs, e1, e2, e3, e4, e5, e6, e7, k⟩ := h
  exact ⟨H0, x, dx, pr, z, rs, e1, e2, e3, e4, e5, e6, e7, fun H' s t => k H' s t.tab⟩
end
end Jr
namespace Jr
open PySem PySem.Spec PyProof.Rows L2
/-! ### what a made table tells -/
def spTSigns (K : PySem.W.Frag) : Sp := fun vs H Q _ => ∃ (x : Addr) (z : Str) (rs : Rws), vs = [.ref x] ∧ TabAt (TC K) H x z rs ∧ Q (.str z) H
def spTRows (K : PySem.W.Frag) : Sp := fun vs H Q _ => ∃ (x : Addr) (z : Str) (rs : Rws), vs = [.ref x] ∧ TabAt (TC K) H x z rs ∧ ∀ H' p, Same H H' → H p = none → RowsAt H' p rs → Q (.ref p) H'
def spTPieces (K : PySem.W.Frag) : Sp := fun vs H Q _ => ∃ (x : Addr) (z : Str) (rs : Rws), vs = [.ref x] ∧ TabAt (TC K) H x z rs ∧ ∀ H' p, Same H H' → H p = none → H' p = some (.lst ((pcs z rs).map V.str)) → Q (.ref p) H'
section
variable {P : Program} {w : World} {K : PySem.W.Frag} {mg : Str → Option Value} {base : Heap}
theorem met_signs (T : Tx K mg) : Met P w K mg base CX0 1 (TC K) "signs" (spTSigns K) := by
  obtain ⟨fd, F⟩ := T.d_Table_signs
  refine ⟨T.cl_Table, _, fd, P_Table_signs, F.ok sc_Table_signs (fun vs H Q E h => ?_) (fun cdv A outer s H vs Q E hr h => ?_), T.m_Table_signs, F.bindsN (ps := P_Table_signs) fun _ _ _ _ _ _ us hl => match us, hl with | [_], _ => rfl⟩
  · obtain ⟨x, z, rs, rfl, _⟩ := h
    rfl
  · obtain ⟨x, z, rs, rfl, ta, k⟩ := h
    obtain ⟨dx, lr, lp, dn, dr, m, h1, _⟩ := ta.ex
    refine ⟨_, (PSs.nox (pss_one (ps_ret (pe_fld (pv 0) rfl)))), ?_⟩
    exact ⟨_, rfl, x, _, dx, _, _, rfl, h1, T.cl_Table, T.no_Table_sign_text, l6_st _ _ _ _ _ _, k⟩
theorem met_rows (T : Tx K mg) : Met P w K mg base CX0 1 (TC K) "rows" (spTRows K) := by
  obtain ⟨fd, F⟩ := T.d_Table_rows
  refine ⟨T.cl_Table, _, fd, P_Table_rows, F.ok sc_Table_rows (fun vs H Q E h => ?_) (fun cdv A outer s H vs Q E hr h => ?_), T.m_Table_rows, F.bindsN (ps := P_Table_rows) fun _ _ _ _ _ _ us hl => match us, hl with | [_], _ => rfl⟩
  · obtain ⟨x, z, rs, rfl, _⟩ := h
    rfl
  · obtain ⟨x, z, rs, rfl, ta, k⟩ := h
    obtain ⟨dx, lr, lp, dn, dr, m, h1, ⟨as, h2, h2'⟩, _⟩ := ta.ex
    refine ⟨_, (PSs.nox (pss_one (ps_ret (pe_callTy (T := "list") call_list_of (by rfl) T.n_list (by decide +kernel) (pa_cons (pe_fld (pv 0) rfl) pa_nil))))), ?_⟩
    exact ⟨_, rfl, x, _, dx, _, _, rfl, h1, T.cl_Table, T.no_Table_row_list, l6_rl _ _ _ _ _ _, lr, _, rfl, .inl (SqL.of h2), fun l hl => k _ l (Same.new hl) hl ⟨as, upd_same, TupAt.same (Same.new hl) h2'⟩⟩
end
end Jr
namespace Jr
open PySem PySem.Spec PyProof.Rows L2
/-- the rank of two texts as a value -/
def rankV (rs : Rws) (l r : Str) : V := (valV (rankD 0 rs) [Sum.inr l, Sum.inr r]).getD .non
theorem rankD_int : ∀ (i : Nat) (rs : Rws) (l r : Str), valV (rankD i rs) [Sum.inr l, Sum.inr r] = none ∨ ∃ n : Int, valV (rankD i rs) [Sum.inr l, Sum.inr r] = some (.int n)
  | _, [], _, _ => .inl rfl
  | i, q :: rs, l, r => by
    by_cases h : ([Sum.inr q.1, Sum.inr q.2] : List Key) = [Sum.inr l, Sum.inr r]
    · exact .inr ⟨_, valV_pos (p := (([Sum.inr q.1, Sum.inr q.2] : List Key), V.int (i : Nat))) h⟩
    · rcases rankD_int (i + 1) rs l r with e | ⟨n, e⟩
      · exact .inl ((valV_neg (p := (([Sum.inr q.1, Sum.inr q.2] : List Key), V.int (i : Nat))) h).trans e)
      · exact .inr ⟨n, (valV_neg (p := (([Sum.inr q.1, Sum.inr q.2] : List Key), V.int (i : Nat))) h).trans e⟩
theorem rankV_or (rs : Rws) (l r : Str) : rankV rs l r = .non ∨ ∃ n : Int, rankV rs l r = .int n := by
  unfold rankV
  rcases rankD_int 0 rs l r with e | ⟨n, e⟩
  · rw [e]; exact .inl rfl
  · rw [e]; exact .inr ⟨n, rfl⟩
theorem rankV_at {z : Str} {rs : Rws} (T : TabOk z rs) {j : Nat} {r : Str × Str} (h : rs[j]? = some r) : rankV rs r.1 r.2 = .int (j : Nat) := by
  unfold rankV
  rw [rankD_at 0 rs r j T.rnodup h, Nat.zero_add]
  rfl
theorem rankV_none {rs : Rws} {l r : Str} (h : ¬ (l, r) ∈ rs) : rankV rs l r = .non := by
  unfold rankV
  rw [rankD_none 0 rs l r h]
  rfl
end Jr
namespace Jr
open PySem PySem.Spec PyProof.Rows L2
section
variable {P : Program} {w : World} {K : PySem.W.Frag} {mg : Str → Option Value} {base : Heap}
def spRank (K : PySem.W.Frag) : Sp := fun vs H Q _ => ∃ (x : Addr) (z : Str) (rs : Rws) (l r : Str), vs = [.ref x, .str l, .str r] ∧ TabAt (TC K) H x z rs ∧ ∀ H', Same H H' → Q (rankV rs l r) H'
theorem met_rank (T : Tx K mg) : Met P w K mg base CX0 1 (TC K) "rank" (spRank K) := by
  obtain ⟨fd, F⟩ := T.d_Table_rank
  refine ⟨T.cl_Table, _, fd, P_Table_rank, F.ok sc_Table_rank (fun vs H Q E h => ?_) (fun cdv A outer s H vs Q E hr h => ?_), T.m_Table_rank, F.bindsN (ps := P_Table_rank) fun _ _ _ _ _ _ us hl => match us, hl with | [_, _, _], _ => rfl⟩
  · obtain ⟨x, z, rs, l, r, rfl, _⟩ := h
    rfl
  · obtain ⟨x, z, rs, l, r, rfl, ta, k⟩ := h
    refine ⟨_, (PSs.nox (pss_cons (ps_if (PW.pt (pw_or (pt_not (pt_val (pe_callB (id := "isinstance") call_isi (by rfl) T.n_isinstance (by decide +kernel) (pa_cons (pv 1) (pa_cons (pe_bltn (v := .ty "str") (by rfl) T.n_str (by decide +kernel) rfl) pa_nil))))) (pw_or1 (pt_not (pt_val (pe_callB (id := "isinstance") call_isi (by rfl) T.n_isinstance (by decide +kernel) (pa_cons (pv 2) (pa_cons (pe_bltn (v := .ty "str") (by rfl) T.n_str (by decide +kernel) rfl) pa_nil)))))))) (pss_one (ps_ret pe_non)) pss_nil)
      (pss_one (ps_ret (pe_dget1 (hu_of hr) (pe_fld (pv 0) rfl) (pe_tup (pa_cons (pv 1) (pa_cons (pv 2) pa_nil))) ⟨by rfl, by rfl, by rfl, by rfl⟩))))), ?_⟩
    obtain ⟨dx, lr, lp, dn, dr, m, h1, _, _, _, h5, _⟩ := ta.ex
    refine ⟨_, rfl, _, _, _, _, _, rfl, .ty "str", .base (.str l), isStr, _, rfl, iteF ⟨_, rfl, _, _, _, _, _, rfl, .ty "str", .base (.str r), isStr, _, rfl, iteF ?_⟩⟩
    refine ⟨_, rfl, x, _, dx, _, _, rfl, h1, T.cl_Table, T.no_Table_rank_by_row, l6_rk _ _ _ _ _ _, dr, rfl, .inr ⟨_, .inl h5⟩, _, rfl, _, rfl, (by show 2 ≤ sizeLine; decide), fun t ht => ?_⟩
    exact ⟨_, DGet.t (k := [Sum.inr l, Sum.inr r]) (Same.new ht _ _ h5) upd_same, k _ (Same.new ht)⟩
end
end Jr
namespace Jr
open PySem PySem.Spec PyProof.Rows L2
section
variable {P : Program} {w : World} {K : PySem.W.Frag} {mg : Str → Option Value} {base : Heap}
/-- what parts tells of a piece -/
def PartV (H : Hp) (z : Str) (rs : Rws) (p : Str) (v : V) : Prop := (p ∈ sgs z ∧ v = .non) ∨ ∃ (r : Str × Str) (a : Addr), r ∈ rs ∧ jn r = p ∧ TupAt H a r ∧ v = .ref a
/-- parts: of a sign None, of a made piece its row's tuple -/
def spParts (K : PySem.W.Frag) : Sp := fun vs H Q _ => ∃ (x : Addr) (z : Str) (rs : Rws) (p : Str), vs = [.ref x, .str p] ∧ TabAt (TC K) H x z rs ∧ p ∈ pcs z rs ∧ ∀ v : V, PartV H z rs p v → Q v H
theorem met_parts (T : Tx K mg) : Met P w K mg base CX0 2 (TC K) "parts" (spParts K) := by
  have M_Table_which := met_which (P := P) (w := w) (base := base) T
  obtain ⟨fd, F⟩ := T.d_Table_parts
  refine ⟨T.cl_Table, _, fd, P_Table_parts, F.ok sc_Table_parts (fun vs H Q E h => ?_) (fun cdv A outer s H vs Q E hr h => ?_), T.m_Table_parts, F.bindsN (ps := P_Table_parts) fun _ _ _ _ _ _ us hl => match us, hl with | [_, _], _ => rfl⟩
  · obtain ⟨x, z, rs, p, rfl, _⟩ := h
    rfl
  · obtain ⟨x, z, rs, p, rfl, ta, hp, k⟩ := h
    refine ⟨_, (PSs.nox (pss_cons (ps_set (i := 2) sc_Table_parts.nd rfl (Or.inl rfl) (pe_met M_Table_which (pv 0) (by first | exact hr | exact hr.mono (by decide)) (pa_cons (pv 1) pa_nil)))
      (pss_cons (ps_if (pt_cmpR op_isN (pv 2) pe_non (nomark _)) (pss_one ps_never) pss_nil)
      (pss_cons (ps_if (pt_cmpR op_lt (pv 2) (pe_callB (id := "len") call_len_str (by rfl) T.n_len (by decide +kernel) (pa_cons (pe_fld (pv 0) rfl) pa_nil)) (nomark _)) (pss_one (ps_ret pe_non)) pss_nil)
      (pss_one (ps_ret (pe_ix ix_list (pe_fld (pv 0) rfl) (pe_op op_sub (pv 2) (pe_callB (id := "len") call_len_str (by rfl) T.n_len (by decide +kernel) (pa_cons (pe_fld (pv 0) rfl) pa_nil))) (fun _ _ => rfl)))))))), ?_⟩
    obtain ⟨dx, lr, lp, dn, dr, m, h1, ⟨as, h2, h2'⟩, _, h4, _⟩ := ta.ex
    obtain ⟨i, hi, ei⟩ := num_some ta.ok.nodup hp
    have n12 := ta.ok.n12
    refine ⟨_, rfl, x, dx, _, rfl, h1, l6_mw _ _ _ _ _ _, _, rfl, x, dx, _, dn, _, _, rfl, h1, l6_num _ _ _ _ _ _, h4, .inl ⟨p, rfl, ?_⟩⟩
    rw [ei]
    refine ⟨_, rfl, rfl, _, rfl, iteF ?_⟩
    refine ⟨_, rfl, _, rfl, x, _, dx, _, _, rfl, h1, T.cl_Table, T.no_Table_sign_text, l6_st _ _ _ _ _ _, _, rfl, sz (by omega), _, _, rfl, rfl, _, rfl, ite2 (fun c => ?_) (fun c => ?_)⟩
    · have c' : i < z.length := by
        have := of_decide_eq_true c
        omega
      unfold pcs at hi
      rw [List.getElem?_append_left (by rw [sgs_len]; exact c')] at hi
      exact k _ (.inl ⟨List.mem_of_getElem? hi, rfl⟩)
    · have c' : ¬ i < z.length := by
        have : ¬ ((i : Int) < (z.length : Int)) := of_decide_eq_false (by simpa using c)
        omega
      unfold pcs at hi
      rw [List.getElem?_append_right (by rw [sgs_len]; omega), sgs_len, List.getElem?_map] at hi
      cases er : rs[i - z.length]? with
      | none => rw [er] at hi; cases hi
      | some r =>
        rw [er] at hi
        have e : jn r = p := Option.some.inj hi
        obtain ⟨a, ha, ht⟩ := Paired.get2 h2' er
        have ej : ((i : Int) - (z.length : Int)) = ((i - z.length : Nat) : Int) := by omega
        refine ⟨_, rfl, x, _, dx, _, _, rfl, h1, T.cl_Table, T.no_Table_row_list, l6_rl _ _ _ _ _ _, _, rfl, _, rfl, x, _, dx, _, _, rfl, h1, T.cl_Table, T.no_Table_sign_text, l6_st _ _ _ _ _ _, _, rfl, sz (by omega), _, _, rfl, rfl, lr, _, _, _, rfl, rfl, SqL.of h2, (by rw [ej]; exact atm ha), k _ (.inr ⟨r, a, List.mem_of_getElem? er, e, ht, rfl⟩)⟩
end
end Jr
namespace Jr
open PySem PySem.Spec PyProof.Rows L2
/-! ### new objects, told by Same: nothing of the heap but what is known stays in a question -/
section
variable {X : Cx}
theorem pe_mono {e : Expr} {t t' : TE} (h : PE X e t) (m : ∀ σ H Q, t' σ H Q → t σ H Q) : PE X e t' := ⟨fun pins s σ H Q I q => h.run pins s σ H Q I (m σ H Q q)⟩
theorem ps_mono {e : Stmt} {t t' : TS} (h : PS X e t) (m : ∀ D σ H, t' D σ H → t D σ H) : PS X e t' := ⟨fun pins s σ H D I q => h.run pins s σ H D I (m D σ H q)⟩
theorem op_mono {f : Value → Value → Sem Value} {r r' : R2} (h : OpR X f r) (m : ∀ x y H Q, r' x y H Q → r x y H Q) : OpR X f r' := fun pins s σ H x y v u Q I rx ry q => h pins s σ H x y v u Q I rx ry (m x y H Q q)
theorem call_mono {f : Value} {r r' : List V → Hp → VK → Prop} (h : CallR X f r) (m : ∀ x H Q, r' x H Q → r x H Q) : CallR X f r' := fun pins s σ H x v Q I rx q => h pins s σ H x v Q I rx (m x H Q q)
theorem sl_mono {r r' : V → Option Int → Option Int → Hp → VK → Prop} (h : SlR X r) (m : ∀ x lo hi H Q, r' x lo hi H Q → r x lo hi H Q) : SlR X r' :=
  fun pins s σ H x v vl vu lo hi sl Q I rx hs pl pu q => h pins s σ H x v vl vu lo hi sl Q I rx hs pl pu (m x lo hi H Q q)
/-- a new object -/
def New (H : Hp) (o : HO) (Q : VK) : Prop := ∀ p H', H p = none → Same H H' → H' p = some o → Q (.ref p) H'
theorem New.of {H : Hp} {o : HO} {Q : VK} (h : New H o Q) : ∀ p, H p = none → Q (.ref p) (upd H p o) := fun p hp => h p _ hp (Same.new hp) upd_same
/-- arguments, what follows weakened -/
def clA (t : TA) : TA := fun σ H Q => ∃ Q', (∀ vs H, Q' vs H → Q vs H) ∧ t σ H Q'
def clE (t : TE) : TE := fun σ H Q => ∃ Q', (∀ v H, Q' v H → Q v H) ∧ t σ H Q'
theorem pa_cl {es : List Expr} {t : TA} (h : PA X es t) : PA X es (clA t) := ⟨fun pos pins s σ H Q I ⟨Q', m, q⟩ => thn (h.run pos pins s σ H Q' I q) fun _ _ ⟨vs, H', I', r, z⟩ => ⟨vs, H', I', r, m _ _ z⟩⟩
theorem pe_cl {e : Expr} {t : TE} (h : PE X e t) : PE X e (clE t) := ⟨fun pins s σ H Q I ⟨Q', m, q⟩ => thn (h.run pins s σ H Q' I q) fun _ _ ⟨v, H', I', r, z⟩ => ⟨v, H', I', r, m _ _ z⟩⟩
/-- a test, its answer told ahead -/
def clT (t : TT) : TT := fun σ H Q => ∃ Q' : Bool → Hp → Prop, t σ H Q' ∧ ∀ b H, Q' b H → Q b H
theorem pt_cl {e : Expr} {t : TT} (h : PT X e t) : PT X e (clT t) := ⟨fun pins s σ H Q I ⟨Q', q, m⟩ => thn (h.run pins s σ H Q' I q) fun _ _ ⟨H', I', z⟩ => ⟨H', I', m _ _ z⟩⟩
def tLstG (t : TA) : TE := fun σ H Q => t σ H fun xs H1 => xs.length ≤ sizeLine ∧ New H1 (.lst xs) Q
def tTupG (t : TA) : TE := fun σ H Q => t σ H fun xs H1 => xs.length ≤ sizeLine ∧ New H1 (.tup xs) Q
theorem pe_lstG {es : List Expr} {t : TA} {pos : Pos} (h : PA X es t) : PE X (.List es pos) (tLstG t) := pe_mono (pe_lst (pa_cl h)) fun _ _ _ q => ⟨_, fun _ _ ⟨z, n⟩ => ⟨z, n.of⟩, q⟩
theorem pe_tupG {es : List Expr} {t : TA} {pos : Pos} {x1} (h : PA X es t) : PE X (.Tuple es x1 pos) (tTupG t) := pe_mono (pe_tup (pa_cl h)) fun _ _ _ q => ⟨_, fun _ _ ⟨z, n⟩ => ⟨z, n.of⟩, q⟩
def rCatG (K : PySem.W.Frag) : R2 := fun x y H Q => ∃ l b xs zs, x = .ref l ∧ y = .ref b ∧ SqL K H l xs ∧ SqL K H b zs ∧ xs.length + zs.length ≤ sizeLine ∧ New H (.lst (xs ++ zs)) Q
theorem op_catG : OpR X (binaryOp .Add) (rCatG X.K) := op_mono op_catL fun _ _ _ _ ⟨l, b, xs, zs, e1, e2, h1, h2, z, n⟩ => ⟨l, b, xs, zs, e1, e2, h1, h2, z, n.of⟩
theorem sl_listG : SlR X (fun x lo hi H Q => ∃ a xs, x = .ref a ∧ SqL X.K H a xs ∧ New H (.lst (cutV xs lo hi)) Q) := sl_mono sl_list fun _ _ _ _ _ ⟨a, xs, e, h, n⟩ => ⟨a, xs, e, h, n.of⟩
theorem call_listG : CallR X (.type "list") (fun xs H Q => ∃ p ys, xs = [.ref p] ∧ (SqL X.K H p ys ∨ SqT X.K H p ys) ∧ New H (.lst ys) Q) := call_mono call_list_of fun _ _ _ ⟨p, ys, e, h, n⟩ => ⟨p, ys, e, h, n.of⟩
theorem call_listSG (hc : X.calm = true) : CallR X (.type "list") (fun xs H Q => ∃ z : Str, xs = [.str z] ∧ z.length ≤ sizeLine ∧ New H (.lst ((sgs z).map V.str)) Q) := call_mono (call_list_str hc) fun _ _ _ ⟨z, e, h, n⟩ => ⟨z, e, h, n.of⟩
theorem op_catGK {K : PySem.W.Frag} (h : X.K = K := by rfl) : OpR X (binaryOp .Add) (rCatG K) := by subst h; exact op_catG
theorem sl_listGK {K : PySem.W.Frag} (h : X.K = K := by rfl) : SlR X (fun x lo hi H Q => ∃ a xs, x = .ref a ∧ SqL K H a xs ∧ New H (.lst (cutV xs lo hi)) Q) := by subst h; exact sl_listG
theorem call_listGK {K : PySem.W.Frag} (h : X.K = K := by rfl) : CallR X (.type "list") (fun xs H Q => ∃ p ys, xs = [.ref p] ∧ (SqL K H p ys ∨ SqT K H p ys) ∧ New H (.lst ys) Q) := by subst h; exact call_listG
theorem op_repG : OpR X (binaryOp .Mult) (fun x y H Q => ∃ l k xs, x = .ref l ∧ y = .int k ∧ H l = some (.lst xs) ∧ -(2 ^ 63) ≤ k ∧ k < 2 ^ 63 ∧ xs.length * k.toNat ≤ sizeLine ∧ New H (.lst (List.replicate k.toNat xs).flatten) Q) :=
  op_mono op_rep fun _ _ _ _ ⟨l, k, xs, e1, e2, h, a, b, c, n⟩ => ⟨l, k, xs, e1, e2, h, a, b, c, n.of⟩
/-! ### a written list of ints -/
def tInts (ns : List Int) : TE := fun _ H Q => New H (.lst (ns.map V.int)) Q
theorem pe_litI {e : Expr} {t : TA} {ns : List Int} (h : PE X e (tLst t)) (ht : ∀ σ H Q, t σ H Q = Q (ns.map V.int) H) (hl : ns.length ≤ 1000) : PE X e (tInts ns) := pe_mono h fun σ H Q n => by
  show t σ H _
  rw [ht]
  exact ⟨by rw [List.length_map]; exact sz (by omega), n.of⟩
theorem pe_catI {a b : Expr} {ms ns : List Int} {pos : Pos} (ha : PE X a (tInts ms)) (hb : PE X b (tInts ns)) (hl : ms.length + ns.length ≤ 1000) : PE X (.BinOp a .Add b pos) (tInts (ms ++ ns)) :=
  pe_mono (pe_op op_catG ha hb) fun _ _ _ n p H1 np s1 h1 q H2 nq s2 h2 =>
    ⟨p, q, _, _, rfl, rfl, SqL.of (s2 _ _ h1), SqL.of h2, by rw [List.length_map, List.length_map]; exact sz (by omega), fun r H3 nr s3 h3 =>
      n r H3 (s1.free (s2.free nr)) ((s1.trans s2).trans s3) (by rw [h3, List.map_append])⟩
theorem pe_repI {a b : Expr} {ms : List Int} {k : Nat} {pos : Pos} (ha : PE X a (tInts ms)) (hb : PE X b (tC (.int (k : Int)))) (hl : ms.length * k ≤ 1000) (hk : k ≤ 1000) : PE X (.BinOp a .Mult b pos) (tInts (List.replicate k ms).flatten) :=
  pe_mono (pe_op op_rep ha hb) fun _ _ _ n p H1 np s1 h1 => by
    refine ⟨p, _, _, rfl, rfl, h1, ?_, ?_, ?_, fun q nq => n q _ (s1.free nq) (s1.trans (Same.new nq)) ?_⟩
    · omega
    · omega
    · rw [List.length_map, Int.toNat_natCast]; exact sz (by omega)
    · rw [upd_same, Int.toNat_natCast]
      congr 2
      rw [List.map_flatten, List.map_replicate]
theorem pe_intsAs {e : Expr} {ms ns : List Int} (h : PE X e (tInts ms)) (q : ms = ns) : PE X e (tInts ns) := q ▸ h
end
end Jr
namespace Jr
open PySem PySem.Spec PyProof.Rows L2
def optV : Option Nat → V
  | none => .non
  | some k => .int (k : Nat)
end Jr
namespace Jr
open PySem PySem.Spec PyProof.Rows L2
section
variable {P : Program} {w : World} {K : PySem.W.Frag} {mg : Str → Option Value} {base : Heap}
def spWithEnds (K : PySem.W.Frag) : Sp := fun vs H Q _ => ∃ (x q : Addr) (z : Str) (rs : Rws) (side : Nat) (p : Str) (es : List Str), vs = [.ref x, .ref q] ∧ TabAt (TC K) H x z rs ∧ H q = some (.lst (es.map V.str)) ∧ Edge rs side p es ∧ p ∈ pcs z rs ∧
  ∀ H' t fs, Same H H' → H t = none → EndsL H' t fs → EdgeE rs side rs.length p fs → Q (.ref t) H'
theorem cal_with_ends (T : Tx K mg) : Cal P w K mg base CX0 3 "with_ends" (spWithEnds K) := by
  have M_Table_rows := met_rows (P := P) (w := w) (base := base) T
  have M_Table_parts := met_parts (P := P) (w := w) (base := base) T
  have M_Table_rank := met_rank (P := P) (w := w) (base := base) T
  obtain ⟨fd, F⟩ := T.d_with_ends
  refine ⟨_, fd, P_with_ends, F.ok sc_with_ends (fun vs H Q E h => ?_) (fun cdv A outer s H vs Q E hr h => ?_), T.g_with_ends, F.kp, F.bindsN (ps := P_with_ends) fun _ _ _ _ _ _ us hl => match us, hl with | [_, _], _ => rfl⟩
  · obtain ⟨x, q, z, rs, side, p, es, rfl, _⟩ := h
    rfl
  · obtain ⟨x, q, z, rs, side, p, es, rfl, ta, hq, hE, hp, k⟩ := h
    refine ⟨_, (PSs.nox (pss_cons (ps_set (i := 2) sc_with_ends.nd rfl (Or.inl rfl) (pe_lstG pa_nil))
      (pss_cons (ps_set (i := 3) sc_with_ends.nd rfl (Or.inl rfl) (pe_callB (id := "len") call_len_seq (by rfl) T.n_len (by decide +kernel) (pa_cons (pe_met0 M_Table_rows (pv 0) (by first | exact hr | exact hr.mono (by decide))) pa_nil)))
      (pss_cons (ps_for PassesOwn.never rfl (pi_list (pv 1)) (pg_name (i := 4) sc_with_ends.nd rfl (Or.inl rfl)) (pss_cons (ps_expr (pe_bm PySem.F.plainAttrs_list PySem.F.slot_list_append PySem.F.type_list_append mt_append (pv 2) (pa_cons (pe_tupG (pa_cons (pv 4) (pa_cons (pv 3) pa_nil))) pa_nil)))
      (pss_cons (ps_set (i := 5) sc_with_ends.nd rfl (Or.inl rfl) (pe_met M_Table_parts (pv 0) (by first | exact hr | exact hr.mono (by decide)) (pa_cons (pv 4) pa_nil)))
      (pss_one (ps_if (pt_cmpR op_notN (pv 5) pe_non (nomark _)) (pss_one (ps_set (i := 3) sc_with_ends.nd rfl (Or.inl rfl) (pe_met M_Table_rank (pv 0) (by first | exact hr | exact hr.mono (by decide)) (pa_cons (pe_ix ix_tup (pv 5) pe_int (fun _ _ => rfl)) (pa_cons (pe_ix ix_tup (pv 5) pe_int (fun _ _ => rfl)) pa_nil))))) pss_nil)))))
      (pss_one (ps_ret (pv 2))))))), ?_⟩
    have many := ta.ok.many
    have esl := hE.len ta.ok hp
    have pl16 := ta.ok.plen hp
    refine ⟨(by show 0 ≤ sizeLine; decide), fun t H1 nt s1 ht => ?_⟩
    have ta1 := ta.same s1
    obtain ⟨dx, lr, lp, dn, dr, m, h1, _⟩ := ta1.ex
    refine ⟨_, rfl, x, dx, _, rfl, h1, l6_mr _ _ _ _ _ _, x, z, rs, rfl, ta1, fun H2 pr s2 npr ⟨as, hpr, hrs⟩ => ?_⟩
    refine ⟨pr, _, rfl, .inl (SqL.of hpr), ?_⟩
    have al : (as.map V.ref).length = rs.length := by rw [List.length_map, Paired.len hrs]
    rw [al]
    have s12 := s1.trans s2
    have hq2 := s12 _ _ hq
    have ht2 := s2 _ _ ht
    have tq : t ≠ q := fun e => by rw [e, hq] at nt; cases nt
    refine ⟨_, rfl, q, rfl, ⟨_, SqL.of hq2⟩, for_list (K := K) (a := q) (xs := es.map V.str) (fun i σ H' => ∃ (e : Nat) (u1 u2 : Option V) (done : List (Str × Nat)), σ = [some (.ref x), some (.ref q), some (.ref t), some (.int (e : Nat)), u1, u2] ∧ Same H H' ∧ EndsL H' t done ∧ done.length = i ∧
        ((∃ cur, Edge rs side cur (es.drop i) ∧ cur ∈ pcs z rs ∧ ∀ gs, EdgeE rs side e cur gs → EdgeE rs side rs.length p (done ++ gs)) ∨ (i = es.length ∧ EdgeE rs side rs.length p done)))
      ⟨rs.length, _, _, [], rfl, s12, ⟨[], ht2, .nil⟩, rfl, .inl ⟨p, hE, hp, fun gs h => h⟩⟩ (fun i σ H' _ ⟨_, _, _, _, _, s, _⟩ => SqL.of (s _ _ hq)) ?_ ?_⟩
    · rintro i y σ H' hi ⟨e, u1, u2, done, rfl, sm, ⟨bs, hT, hbs⟩, dl, hc⟩
      rw [List.getElem?_map] at hi
      cases ei : es[i]? with
      | none => rw [ei] at hi; cases hi
      | some pc =>
        rw [ei] at hi
        cases hi
        have il : i < es.length := (List.getElem?_eq_some_iff.mp ei).1
        rcases hc with ⟨cur, hEd, hcp, hgo⟩ | ⟨e2, _⟩
        rotate_left
        · omega
        obtain ⟨rest, er, hrest⟩ := hEd.head
        have ecur : pc = cur := by
          have h0 : (es.drop i)[0]? = some pc := by rw [List.getElem?_drop, Nat.add_zero, ei]
          rw [er] at h0
          exact (Option.some.inj h0).symm
        subst ecur
        have er1 : es.drop (i + 1) = rest := by
          have : es.drop (i + 1) = (es.drop i).drop 1 := by rw [List.drop_drop]
          rw [this, er]; rfl
        have ta' := ta.same sm
        have bl := Paired.len hbs
        refine ⟨_, rfl, .inl ⟨rfl, _, SqL.of hT⟩, _, rfl, _, rfl, (by show 2 ≤ sizeLine; decide), fun tq1 H3 ntq s3 htq => ?_⟩
        have hT3 := s3 _ _ hT
        refine ⟨t, _, _, rfl, rfl, hT3, (by rw [List.length_map]; exact szl (by omega)), ?_⟩
        have tt : tq1 ≠ t := fun e => by rw [e, hT] at ntq; cases ntq
        have s4 : Same H (upd H3 t (.lst (bs.map V.ref ++ [V.ref tq1]))) := Same.mut (sm.trans s3) nt
        have ends : EndsL (upd H3 t (.lst (bs.map V.ref ++ [V.ref tq1]))) t (done ++ [(pc, e)]) := by
          refine ⟨bs ++ [tq1], by rw [upd_same, List.map_append]; rfl, Paired.snoc (L2.Paired.mapP hbs fun b f hb => ?_) ?_⟩
          · have hb2 : H' b = _ := hb
            show upd _ _ _ b = _
            rw [upd_ne (ne_of hb2 hT (by intro q; cases q))]
            exact s3 _ _ hb2
          · show upd _ _ _ tq1 = _
            rw [upd_ne tt]
            exact htq
        revert s4 ends
        generalize (upd H3 t (.lst (bs.map V.ref ++ [V.ref tq1]))) = H4
        intro s4 ends
        have ta4 := ta.same s4
        obtain ⟨dx4, lr4, lp4, dn4, dr4, m4, h14, _⟩ := ta4.ex
        refine ⟨_, rfl, x, dx4, _, rfl, h14, l6_mpa _ _ _ _ _ _, _, rfl, x, z, rs, pc, rfl, ta4, hcp, fun v hv => ?_⟩
        have dl1 : (done ++ [(pc, e)]).length = i + 1 := by rw [List.length_append, dl]; rfl
        rcases hv with ⟨hsg, rfl⟩ | ⟨r, a, hr', ejr, hta, rfl⟩
        · refine ⟨_, rfl, rfl, _, rfl, iteF ?_⟩
          rcases hrest with ⟨e0, nr⟩ | ⟨q2, hq2, e2, _⟩
          · refine ⟨e, _, _, _, rfl, s4, ends, dl1, .inr ⟨?_, hgo _ (.one nr)⟩⟩
            have := congrArg List.length er1
            rw [e0, List.length_drop] at this
            simp at this
            omega
          · exact absurd e2 (no_row ta.ok hsg q2 hq2)
        · obtain ⟨j, hj, ej⟩ := List.mem_iff_getElem.mp hr'
          have hjr : rs[j]? = some r := by rw [List.getElem?_eq_getElem hj, ej]
          have hta : H4 a = some (.tup [.str r.1, .str r.2]) := hta
          refine ⟨_, rfl, rfl, _, rfl, iteT ?_⟩
          refine ⟨_, rfl, x, dx4, _, rfl, h14, l6_mrk _ _ _ _ _ _, _, rfl, a, _, _, _, rfl, rfl, SqT.of hta, (show atI _ ((0 : Nat) : Int) = _ from ats rfl), _, rfl, a, _, _, _, rfl, rfl, SqT.of hta, (show atI _ ((1 : Nat) : Int) = _ from ats rfl), ?_⟩
          refine ⟨x, z, rs, r.1, r.2, rfl, ta4, fun H5 s5 => ?_⟩
          rw [rankV_at ta.ok hjr]
          rcases hrest with ⟨e0, nr⟩ | ⟨q2, hq2, e2, hE2⟩
          · exact absurd ejr (nr r hr')
          · have e3 := jn_inj ta.ok hr' hq2 (ejr.trans e2.symm)
            subst e3
            refine ⟨j, _, _, _, rfl, s4.trans s5, ends.same s5, dl1, .inl ⟨_, by rw [er1]; exact hE2, (part_in ta.ok hr').1, fun gs hg => ?_⟩⟩
            rw [List.append_assoc]
            exact hgo _ (.more hjr ejr hg)
    · rintro σ H' ⟨e, u1, u2, done, rfl, sm, ends, dl, hc⟩
      rw [List.length_map] at dl hc
      rcases hc with ⟨cur, hEd, _, _⟩ | ⟨_, h⟩
      · obtain ⟨rest, er, _⟩ := hEd.head
        rw [List.drop_length] at er
        cases er
      · exact ⟨_, rfl, k _ t done sm nt ends h⟩
def spEdgesMeet (K : PySem.W.Frag) : Sp := fun vs H Q _ => ∃ (x q1 q2 : Addr) (z : Str) (rs : Rws) (es fs : List (Str × Nat)), vs = [.ref x, .ref q1, .ref q2] ∧ TabAt (TC K) H x z rs ∧ EndsL H q1 es ∧ EndsL H q2 fs ∧
  ∀ H', Same H H' → Q (optV ((List.range rs.length).find? (fallsAt rs es fs))) H'
theorem cal_edges_meet (T : Tx K mg) : Cal P w K mg base CX0 2 "edges_meet" (spEdgesMeet K) := by
  have M_Table_rank := met_rank (P := P) (w := w) (base := base) T
  obtain ⟨fd, F⟩ := T.d_edges_meet
  refine ⟨_, fd, P_edges_meet, F.ok sc_edges_meet (fun vs H Q E h => ?_) (fun cdv A outer s H vs Q E hr h => ?_), T.g_edges_meet, F.kp, F.bindsN (ps := P_edges_meet) fun _ _ _ _ _ _ us hl => match us, hl with | [_, _, _], _ => rfl⟩
  · obtain ⟨x, q1, q2, z, rs, es, fs, rfl, _⟩ := h
    rfl
  · obtain ⟨x, q1, q2, z, rs, es, fs, rfl, ta, ⟨as, ha, hes⟩, ⟨bs, hb, hfs⟩, k⟩ := h
    refine ⟨_, (PSs.nox (pss_cons (ps_set (i := 3) sc_edges_meet.nd rfl (Or.inl rfl) pe_non)
      (pss_cons (ps_for PassesOwn.never rfl (pi_list (pv 1)) (pg_tup rfl (pgs_cons (pg_name (i := 4) sc_edges_meet.nd rfl (Or.inl rfl)) (pgs_cons (pg_name (i := 5) sc_edges_meet.nd rfl (Or.inl rfl)) pgs_nil))) (pss_one (ps_for PassesOwn.never rfl (pi_list (pv 2)) (pg_tup rfl (pgs_cons (pg_name (i := 6) sc_edges_meet.nd rfl (Or.inl rfl)) (pgs_cons (pg_name (i := 7) sc_edges_meet.nd rfl (Or.inl rfl)) pgs_nil))) (pss_cons (ps_set (i := 8) sc_edges_meet.nd rfl (Or.inl rfl) (pe_met M_Table_rank (pv 0) (by first | exact hr | exact hr.mono (by decide)) (pa_cons (pv 4) (pa_cons (pv 6) pa_nil))))
      (pss_one (ps_if (PW.pt (pw_and (pt_cmpR op_notN (pv 8) pe_non (nomark _)) (pw_and (pt_cmpR op_lt (pv 8) (pv 5) (nomark _)) (pw_and (pt_cmpR op_le (pv 8) (pv 7) (nomark _)) (pw_and1 (PW.pt (pw_or (pt_cmpR op_isN (pv 3) pe_non (nomark _)) (pw_or1 (pt_cmpR op_lt (pv 8) (pv 3) (nomark _)))))))))) (pss_one (ps_set (i := 3) sc_edges_meet.nd rfl (Or.inl rfl) (pv 8))) pss_nil))))))
      (pss_one (ps_ret (pv 3)))))), ?_⟩
    refine ⟨_, rfl, q1, rfl, ⟨_, SqL.of ha⟩, for_list (K := K) (a := q1) (xs := as.map V.ref) (fun i σ H' => ∃ (m : Option Nat) (u1 u2 u3 u4 u5 : Option V) (L : List ((Str × Nat) × (Str × Nat))), σ = [some (.ref x), some (.ref q1), some (.ref q2), some (optV m), u1, u2, u3, u4, u5] ∧ Same H H' ∧ Least rs L m ∧ ∀ q, q ∈ L ↔ q.1 ∈ es.take i ∧ q.2 ∈ fs)
      ⟨none, _, _, _, _, _, [], rfl, Same.refl _, Least.nil rs, fun q => ⟨fun h => (by cases h), fun h => (by cases h.1)⟩⟩ (fun i σ H' _ ⟨_, _, _, _, _, _, _, _, s, _⟩ => SqL.of (s _ _ ha)) ?_ ?_⟩
    · rintro i y σ H' hi ⟨m, u1, u2, u3, u4, u5, L, rfl, sm, hle, hL⟩
      rw [List.getElem?_map] at hi
      cases ea : as[i]? with
      | none => rw [ea] at hi; cases hi
      | some qa =>
        rw [ea] at hi
        cases hi
        obtain ⟨⟨xl, xe⟩, hxi, hqa⟩ := Paired.get hes ea
        have hqa : H qa = some (.tup [.str xl, .int (xe : Nat)]) := hqa
        refine ⟨qa, _, rfl, SqT.of (sm _ _ hqa), rfl, _, _, rfl, _, _, rfl, rfl, ?_⟩
        refine ⟨_, rfl, q2, rfl, ⟨_, SqL.of (sm _ _ hb)⟩, for_list (K := K) (a := q2) (xs := bs.map V.ref) (fun j σ H' => ∃ (m : Option Nat) (u3 u4 u5 : Option V) (M : List ((Str × Nat) × (Str × Nat))), σ = [some (.ref x), some (.ref q1), some (.ref q2), some (optV m), some (.str xl), some (.int (xe : Nat)), u3, u4, u5] ∧ Same H H' ∧ Least rs (L ++ M) m ∧ ∀ q, q ∈ M ↔ q.1 = (xl, xe) ∧ q.2 ∈ fs.take j)
          ⟨m, _, _, _, [], rfl, sm, by rw [List.append_nil]; exact hle, fun q => ⟨fun h => (by cases h), fun h => (by cases h.2)⟩⟩ (fun j σ H' _ ⟨_, _, _, _, _, _, s, _⟩ => SqL.of (s _ _ hb)) ?_ ?_⟩
        · rintro j y σ H2 hj ⟨m, u3, u4, u5, M, rfl, sm2, hle2, hM⟩
          rw [List.getElem?_map] at hj
          cases eb : bs[j]? with
          | none => rw [eb] at hj; cases hj
          | some qb =>
            rw [eb] at hj
            cases hj
            obtain ⟨⟨yr, ye⟩, hyj, hqb⟩ := Paired.get hfs eb
            have hqb : H qb = some (.tup [.str yr, .int (ye : Nat)]) := hqb
            have et : fs.take (j + 1) = fs.take j ++ [(yr, ye)] := by rw [List.take_add_one, hyj]; rfl
            have hM1 : ∀ q, q ∈ M ++ [((xl, xe), (yr, ye))] ↔ q.1 = (xl, xe) ∧ q.2 ∈ fs.take (j + 1) := fun q => by
              rw [List.mem_append, List.mem_singleton, hM q, et, List.mem_append, List.mem_singleton]
              constructor
              · rintro (⟨h1, h2⟩ | h)
                · exact ⟨h1, .inl h2⟩
                · rw [h]; exact ⟨rfl, .inr rfl⟩
              · rintro ⟨h1, h2 | h2⟩
                · exact .inl ⟨h1, h2⟩
                · exact .inr (Prod.ext h1 h2)
            have skip : ∀ m, Least rs (L ++ M) m → (∀ k, rs[k]? = some (xl, yr) → k < xe → k ≤ ye → ∃ j, m = some j ∧ j ≤ k) → Least rs (L ++ (M ++ [((xl, xe), (yr, ye))])) m := fun m h1 h2 => by
              rw [← List.append_assoc]
              exact h1.skip h2
            refine ⟨qb, _, rfl, SqT.of (sm2 _ _ hqb), rfl, _, _, rfl, _, _, rfl, rfl, ?_⟩
            have ta2 := ta.same sm2
            obtain ⟨dx, lr, lp, dn, dr, mm, h1, _⟩ := ta2.ex
            refine ⟨_, rfl, x, dx, _, rfl, h1, l6_mrk _ _ _ _ _ _, _, rfl, _, rfl, x, z, rs, xl, yr, rfl, ta2, fun H3 s3 => ?_⟩
            have sm3 := sm2.trans s3
            by_cases hmem : (xl, yr) ∈ rs
            · obtain ⟨kk, hkk, ek⟩ := List.mem_iff_getElem.mp hmem
              have hk : rs[kk]? = some (xl, yr) := by rw [List.getElem?_eq_getElem hkk, ek]
              have uniq : ∀ k, rs[k]? = some (xl, yr) → k = kk := fun k h => by
                have r1 := rankV_at ta.ok h
                have r2 := rankV_at ta.ok hk
                have r3 := r1.symm.trans r2
                have := V.int.inj r3
                omega
              rw [rankV_at ta.ok hk]
              refine ⟨_, rfl, rfl, _, rfl, iteT ⟨_, rfl, _, rfl, _, _, rfl, rfl, _, rfl, ?_⟩⟩
              by_cases c1 : kk < xe
              · have c1' : ((kk : Nat) : Int) < ((xe : Nat) : Int) := by omega
                rw [decide_eq_true c1']
                refine iteT ⟨_, rfl, _, rfl, _, _, rfl, rfl, _, rfl, ?_⟩
                by_cases c2 : kk ≤ ye
                · have c2' : ((kk : Nat) : Int) ≤ ((ye : Nat) : Int) := by omega
                  rw [decide_eq_true c2']
                  have tk : (∀ j, m = some j → kk < j) → Least rs (L ++ (M ++ [((xl, xe), (yr, ye))])) (some kk) := fun h => by
                    rw [← List.append_assoc]
                    exact hle2.take ta.ok.rnodup hk c1 c2 h
                  cases m with
                  | none =>
                    refine iteT ⟨_, rfl, rfl, _, rfl, iteT (iteT ?_)⟩
                    exact ⟨_, rfl, some kk, _, _, _, _, rfl, sm3, tk (fun j e => by cases e), hM1⟩
                  | some m0 =>
                    refine iteT ⟨_, rfl, rfl, _, rfl, iteF ⟨_, rfl, _, rfl, _, _, rfl, rfl, _, rfl, ?_⟩⟩
                    by_cases c3 : kk < m0
                    · have c3' : ((kk : Nat) : Int) < ((m0 : Nat) : Int) := by omega
                      rw [decide_eq_true c3']
                      refine iteT ?_
                      exact ⟨_, rfl, some kk, _, _, _, _, rfl, sm3, tk (fun j e => by cases e; exact c3), hM1⟩
                    · have c3' : ¬ ((kk : Nat) : Int) < ((m0 : Nat) : Int) := by omega
                      rw [decide_eq_false c3']
                      refine iteF ⟨some m0, _, _, _, _, rfl, sm3, skip _ hle2 (fun k h _ _ => ⟨m0, rfl, by have := uniq k h; omega⟩), hM1⟩
                · have c2' : ¬ ((kk : Nat) : Int) ≤ ((ye : Nat) : Int) := by omega
                  rw [decide_eq_false c2']
                  exact iteF (iteF ⟨m, _, _, _, _, rfl, sm3, skip _ hle2 (fun k h _ h2 => by have := uniq k h; omega), hM1⟩)
              · have c1' : ¬ ((kk : Nat) : Int) < ((xe : Nat) : Int) := by omega
                rw [decide_eq_false c1']
                exact iteF (iteF ⟨m, _, _, _, _, rfl, sm3, skip _ hle2 (fun k h h1 _ => by have := uniq k h; omega), hM1⟩)
            · rw [rankV_none hmem]
              exact ⟨_, rfl, rfl, _, rfl, iteF (iteF ⟨m, _, _, _, _, rfl, sm3, skip _ hle2 (fun k h _ _ => absurd (List.mem_of_getElem? h) hmem), hM1⟩)⟩
        · rintro σ H2 ⟨m, u3, u4, u5, M, rfl, sm2, hle2, hM⟩
          rw [List.length_map, Paired.len hfs, List.take_length] at hM
          have et : es.take (i + 1) = es.take i ++ [(xl, xe)] := by rw [List.take_add_one, hxi]; rfl
          refine ⟨m, _, _, _, _, _, L ++ M, rfl, sm2, hle2, fun q => ?_⟩
          rw [List.mem_append, hL q, hM q, et, List.mem_append, List.mem_singleton]
          constructor
          · rintro (⟨h1, h2⟩ | ⟨h1, h2⟩)
            · exact ⟨.inl h1, h2⟩
            · exact ⟨.inr h1, h2⟩
          · rintro ⟨h1 | h1, h2⟩
            · exact .inl ⟨h1, h2⟩
            · exact .inr ⟨h1, h2⟩
    · rintro σ H' ⟨m, u1, u2, u3, u4, u5, L, rfl, sm, hle, hL⟩
      rw [List.length_map, Paired.len hes, List.take_length] at hL
      rw [← hle.find hL] at k
      exact ⟨_, rfl, k _ sm⟩
end
end Jr
namespace Jr
open PySem PySem.Spec PyProof.Rows L2
/-! ### a region of objects that change, beside what stays -/
structure Reg (S H : Hp) (L : List (Addr × HO)) : Prop where
  same : Same S H
  off : ∀ q ∈ L, S q.1 = none
  nd : (L.map (·.1)).Nodup
  at_ : ∀ q ∈ L, H q.1 = some q.2
def out (H : Hp) (L : List (Addr × HO)) : Hp := fun b => if b ∈ L.map (·.1) then none else H b
section
variable {S H H' : Hp} {L : List (Addr × HO)} {a p : Addr} {o o' : HO} {i : Nat}
theorem out_of (h : H a = some o) (n : ¬ a ∈ L.map (·.1)) : out H L a = some o := by
  unfold out
  rw [if_neg n]
  exact h
theorem Reg.nil (H : Hp) : Reg H H [] := ⟨Same.refl _, fun q h => (by cases h), List.nodup_nil, fun q h => (by cases h)⟩
theorem Reg.get (r : Reg S H L) (h : L[i]? = some (a, o)) : H a = some o := r.at_ (a, o) (List.mem_of_getElem? h)
theorem Reg.step (r : Reg S H L) (s : Same H H') : Reg S H' L := ⟨r.same.trans s, r.off, r.nd, fun q hq => s _ _ (r.at_ q hq)⟩
theorem Reg.free (r : Reg S H L) (h : H p = none) : ¬ p ∈ L.map (·.1) := fun hm => by
  obtain ⟨q, hq, e⟩ := List.mem_map.mp hm
  have := r.at_ q hq
  rw [e, h] at this
  cases this
theorem Reg.kind (r : Reg S H L) (h : H p = some o) (n : ∀ q ∈ L, q.2 ≠ o) : ¬ p ∈ L.map (·.1) := fun hm => by
  obtain ⟨q, hq, e⟩ := List.mem_map.mp hm
  have := r.at_ q hq
  rw [e, h] at this
  exact n q hq (Option.some.inj this).symm
theorem Reg.new (r : Reg S H L) (n : H p = none) (s : Same H H') (h : H' p = some o) : Reg S H' (L ++ [(p, o)]) := by
  have r' := r.step s
  refine ⟨r'.same, fun q hq => ?_, ?_, fun q hq => ?_⟩
  · rcases List.mem_append.mp hq with hq | hq
    · exact r.off q hq
    · rw [List.mem_singleton.mp hq]
      exact r.same.free n
  · rw [List.map_append, List.nodup_append]
    refine ⟨r.nd, by simp, fun x hx y hy => ?_⟩
    have e : y = p := by simpa using hy
    rw [e]
    exact fun e2 => r.free n (e2 ▸ hx)
  · rcases List.mem_append.mp hq with hq | hq
    · exact r'.at_ q hq
    · rw [List.mem_singleton.mp hq]
      exact h
theorem map_set_fst : ∀ (L : List (Addr × HO)) (i : Nat), L[i]? = some (a, o) → (L.set i (a, o')).map (·.1) = L.map (·.1)
  | [], _, h => by simp at h
  | q :: L, 0, h => by
    have e : q = (a, o) := Option.some.inj h
    subst e
    rfl
  | q :: L, i + 1, h => by
    show q.1 :: (L.set i (a, o')).map (·.1) = _
    rw [map_set_fst L i h]
    rfl
theorem Reg.set (r : Reg S H L) (h : L[i]? = some (a, o)) : Reg S (upd H a o') (L.set i (a, o')) := by
  have hm := List.mem_of_getElem? h
  have hi : i < L.length := (List.getElem?_eq_some_iff.mp h).1
  have ea := map_set_fst (o' := o') L i h
  have key : ∀ (j : Nat) (q : Addr × HO), (L.set i (a, o'))[j]? = some q → q = (a, o') ∨ (q ∈ L ∧ q.1 ≠ a) := fun j q hj => by
    by_cases c : j = i
    · subst c
      rw [List.getElem?_set_self hi] at hj
      exact .inl (Option.some.inj hj).symm
    · rw [List.getElem?_set_ne (fun e => c e.symm)] at hj
      refine .inr ⟨List.mem_of_getElem? hj, fun e => c ?_⟩
      have h1 : (L.map (·.1))[j]? = some q.1 := by rw [List.getElem?_map, hj]; rfl
      have h2 : (L.map (·.1))[i]? = some a := by rw [List.getElem?_map, h]; rfl
      obtain ⟨a1, b1⟩ := List.getElem?_eq_some_iff.mp h1
      obtain ⟨a2, b2⟩ := List.getElem?_eq_some_iff.mp h2
      rcases Nat.lt_trichotomy j i with c | c | c
      · exact absurd (b1.trans (e.trans b2.symm)) (List.pairwise_iff_getElem.mp r.nd j i a1 a2 c)
      · exact c
      · exact absurd (b2.trans (e.symm.trans b1.symm)) (List.pairwise_iff_getElem.mp r.nd i j a2 a1 c)
  refine ⟨Same.mut r.same (r.off _ hm), fun q hq => ?_, by rw [ea]; exact r.nd, fun q hq => ?_⟩
  · obtain ⟨j, hj, e⟩ := List.mem_iff_getElem.mp hq
    rcases key j q (by rw [List.getElem?_eq_getElem hj, e]) with e2 | ⟨h2, _⟩
    · rw [e2]; exact r.off (a, o) hm
    · exact r.off q h2
  · obtain ⟨j, hj, e⟩ := List.mem_iff_getElem.mp hq
    rcases key j q (by rw [List.getElem?_eq_getElem hj, e]) with e2 | ⟨h2, n2⟩
    · rw [e2, upd_same]
    · rw [upd_ne n2]; exact r.at_ q h2
theorem Reg.grow (r : Reg S H L) (s : Same H H') : Reg (out H' L) H' L ∧ Same S (out H' L) := by
  have r' := r.step s
  refine ⟨⟨fun b o hb => ?_, fun q hq => ?_, r.nd, r'.at_⟩, fun b o hb => ?_⟩
  · unfold out at hb
    split at hb
    · cases hb
    · exact hb
  · unfold out
    rw [if_pos (List.mem_map.mpr ⟨q, hq, rfl⟩)]
  · refine out_of (r'.same _ _ hb) fun hm => ?_
    obtain ⟨q, hq, e⟩ := List.mem_map.mp hm
    have := r.off q hq
    rw [e, hb] at this
    cases this
theorem Reg.perm {L' : List (Addr × HO)} (r : Reg S H L) (h : L.Perm L') : Reg S H L' := ⟨r.same, fun q hq => r.off q (h.mem_iff.mpr hq), (h.map (·.1)).nodup_iff.mp r.nd, fun q hq => r.at_ q (h.mem_iff.mpr hq)⟩
/-- some of the objects change no more -/
theorem Reg.freeze {L1 L2 : List (Addr × HO)} (r : Reg S H (L1 ++ L2)) : Reg (out H L2) H L2 ∧ Same S (out H L2) ∧ ∀ q ∈ L1, out H L2 q.1 = some q.2 := by
  have nd := r.nd
  rw [List.map_append, List.nodup_append] at nd
  have r2 : Reg S H L2 := ⟨r.same, fun q hq => r.off q (List.mem_append_right _ hq), nd.2.1, fun q hq => r.at_ q (List.mem_append_right _ hq)⟩
  obtain ⟨a, b⟩ := r2.grow (Same.refl H)
  exact ⟨a, b, fun q hq => out_of (r.at_ q (List.mem_append_left _ hq)) fun hm => nd.2.2 _ (List.mem_map.mpr ⟨q, hq, rfl⟩) _ hm rfl⟩
/-- a list of tuples that a call has laid stays outside -/
theorem Reg.outs (r : Reg S H L) (s : Same H H') (n : H p = none) {as : List Addr} {fs : List (Str × Nat)} (hp : H' p = some (.lst (as.map V.ref))) (ha : Paired (fun a x => H' a = some (.tup [.str x.1, .int ((x.2 : Nat) : Int)])) as fs) (nt : ∀ q ∈ L, ∀ xs, q.2 ≠ .tup xs) :
    out H' L p = some (.lst (as.map V.ref)) ∧ Paired (fun a x => out H' L a = some (.tup [.str x.1, .int ((x.2 : Nat) : Int)])) as fs :=
  ⟨out_of hp (r.free n), L2.Paired.mapP ha fun a x h => out_of h ((r.step s).kind h fun q hq => nt q hq _)⟩
end
end Jr
namespace Jr
open PySem PySem.Spec PyProof.Rows L2
abbrev FC (K : PySem.W.Frag) : Addr := He.ga K "Follows"
def fg7 (t re le al af ah pr : Addr) : List (Str × V) := [("held_table", .ref t), ("right_edges", .ref re), ("left_edges", .ref le), ("alone_pieces", .ref al), ("pieces_after", .ref af), ("pieces_ahead", .ref ah), ("pairs", .ref pr)]
section
variable (t re le al af ah pr : Addr)
theorem g7_t : (fg7 t re le al af ah pr).lookup ("held_table" : Str) = some (V.ref t) := by kernel_rfl
theorem g7_re : (fg7 t re le al af ah pr).lookup ("right_edges" : Str) = some (V.ref re) := by kernel_rfl
theorem g7_le : (fg7 t re le al af ah pr).lookup ("left_edges" : Str) = some (V.ref le) := by kernel_rfl
theorem g7_al : (fg7 t re le al af ah pr).lookup ("alone_pieces" : Str) = some (V.ref al) := by kernel_rfl
theorem g7_af : (fg7 t re le al af ah pr).lookup ("pieces_after" : Str) = some (V.ref af) := by kernel_rfl
theorem g7_ah : (fg7 t re le al af ah pr).lookup ("pieces_ahead" : Str) = some (V.ref ah) := by kernel_rfl
theorem g7_pr : (fg7 t re le al af ah pr).lookup ("pairs" : Str) = some (V.ref pr) := by kernel_rfl
theorem g7_mfr : (fg7 t re le al af ah pr).lookup ("first_rank" : Str) = none := by kernel_rfl
theorem g7_mia : (fg7 t re le al af ah pr).lookup ("is_alone" : Str) = none := by kernel_rfl
theorem g7_mpa : (fg7 t re le al af ah pr).lookup ("pair_all" : Str) = none := by kernel_rfl
theorem g7_mt : (fg7 t re le al af ah pr).lookup ("table" : Str) = none := by kernel_rfl
theorem g7_mal : (fg7 t re le al af ah pr).lookup ("alone" : Str) = none := by kernel_rfl
theorem g7_maf : (fg7 t re le al af ah pr).lookup ("after" : Str) = none := by kernel_rfl
theorem g7_mah : (fg7 t re le al af ah pr).lookup ("ahead" : Str) = none := by kernel_rfl
theorem g7_may : (fg7 t re le al af ah pr).lookup ("may" : Str) = none := by kernel_rfl
theorem g7_put : putF "pairs" (.ref pr) (putF "pieces_ahead" (.ref ah) (putF "pieces_after" (.ref af) (putF "alone_pieces" (.ref al) (putF "left_edges" (.ref le) (putF "right_edges" (.ref re) (putF "held_table" (.ref t) [])))))) = fg7 t re le al af ah pr := by kernel_rfl
end
/-- the edges of all pieces, by a dict -/
def Eds (H : Hp) (A : List (Key × V)) (z : Str) (rs : Rws) (side : Nat) : Prop := ∀ q ∈ pcs z rs, ∃ a fs, valV A (Sum.inr q) = some (.ref a) ∧ EndsL H a fs ∧ EdgeE rs side rs.length q fs
theorem Eds.same {H H' : Hp} {A : List (Key × V)} {z : Str} {rs : Rws} {side : Nat} (h : Eds H A z rs side) (s : Same H H') : Eds H' A z rs side := fun q hq => by
  obtain ⟨a, fs, h1, h2, h3⟩ := h q hq
  exact ⟨a, fs, h1, h2.same s, h3⟩
section
variable {P : Program} {w : World} {K : PySem.W.Frag} {mg : Str → Option Value} {base : Heap}
/-- a Follows that has its edges -/
structure FolE (K : PySem.W.Frag) (H : Hp) (x dx t re le al af ah pr : Addr) (z : Str) (rs : Rws) : Prop where
  hx : H x = some (.ins (FC K) dx (fg7 t re le al af ah pr))
  ta : TabAt (TC K) H t z rs
  ed : ∃ A B, H re = some (.dK A) ∧ H le = some (.dK B) ∧ Eds H A z rs 1 ∧ Eds H B z rs 0
theorem FolE.same {H H' : Hp} {x dx t re le al af ah pr : Addr} {z : Str} {rs : Rws} (h : FolE K H x dx t re le al af ah pr z rs) (s : Same H H') : FolE K H' x dx t re le al af ah pr z rs := by
  obtain ⟨A, B, h1, h2, h3, h4⟩ := h.ed
  exact ⟨s _ _ h.hx, h.ta.same s, A, B, s _ _ h1, s _ _ h2, h3.same s, h4.same s⟩
def spFirst (K : PySem.W.Frag) : Sp := fun vs H Q _ => ∃ (x dx t re le al af ah pr : Addr) (z : Str) (rs : Rws) (l r : Str), vs = [.ref x, .str l, .str r] ∧ FolE K H x dx t re le al af ah pr z rs ∧ l ∈ pcs z rs ∧ r ∈ pcs z rs ∧ sweep rs l = [l] ∧ sweep rs r = [r] ∧
  ∀ H', Same H H' → Q (optV (metR 0 rs (sgs (l ++ r)) l.length)) H'
theorem met_first_rank (T : Tx K mg) : Met P w K mg base CX0 3 (FC K) "first_rank" (spFirst K) := by
  have C_edges_meet := cal_edges_meet (P := P) (w := w) (base := base) T
  obtain ⟨fd, F⟩ := T.d_Follows_first_rank
  refine ⟨T.cl_Follows, _, fd, P_Follows_first_rank, F.ok sc_Follows_first_rank (fun vs H Q E h => ?_) (fun cdv A outer s H vs Q E hr h => ?_), T.m_Follows_first_rank, F.bindsN (ps := P_Follows_first_rank) fun _ _ _ _ _ _ us hl => match us, hl with | [_, _, _], _ => rfl⟩
  · obtain ⟨x, dx, t, re, le, al, af, ah, pr, z, rs, l, r, rfl, _⟩ := h
    rfl
  · obtain ⟨x, dx, t, re, le, al, af, ah, pr, z, rs, l, r, rfl, fe, hl, hr', al1, al2, k⟩ := h
    refine ⟨_, (PSs.nox (pss_one (ps_ret (pe_cal C_edges_meet (by first | exact hr | exact hr.mono (by decide)) (by rfl) (pa_cons (pe_fld (pv 0) rfl) (pa_cons (pe_dget (hu_of hr) (pe_fld (pv 0) rfl) (pv 1) (fun _ _ => rfl)) (pa_cons (pe_dget (hu_of hr) (pe_fld (pv 0) rfl) (pv 2) (fun _ _ => rfl)) pa_nil))))))), ?_⟩
    obtain ⟨A, B, h1, h2, h3, h4⟩ := fe.ed
    obtain ⟨q1, es, v1, e1, E1⟩ := h3 l hl
    obtain ⟨q2, fs, v2, e2, E2⟩ := h4 r hr'
    rw [meet_edges fe.ta.ok al1 al2 hl hr' E1 E2] at k
    refine ⟨_, rfl, x, _, dx, _, _, rfl, fe.hx, T.cl_Follows, T.no_Follows_held_table, g7_t _ _ _ _ _ _ _, ?_⟩
    refine ⟨_, rfl, x, _, dx, _, _, rfl, fe.hx, T.cl_Follows, T.no_Follows_right_edges, g7_re _ _ _ _ _ _ _, _, rfl, re, _, rfl, v1 ▸ DGet.k (k := Sum.inr l) h1, ?_⟩
    refine ⟨_, rfl, x, _, dx, _, _, rfl, fe.hx, T.cl_Follows, T.no_Follows_left_edges, g7_le _ _ _ _ _ _ _, _, rfl, le, _, rfl, v2 ▸ DGet.k (k := Sum.inr r) h2, ?_⟩
    exact ⟨t, q1, q2, z, rs, es, fs, rfl, fe.ta, e1, e2, k⟩
/-- is_alone, where the pieces ahead are known -/
def spIsAlone (K : PySem.W.Frag) : Sp := fun vs H Q _ => ∃ (x dx t re le al af ah pr : Addr) (z : Str) (rs : Rws) (p : Str) (D : List (Key × V)), vs = [.ref x, .str p] ∧ FolE K H x dx t re le al af ah pr z rs ∧ p ∈ pcs z rs ∧ H al = some (.dK D) ∧
  (∀ j r, rs[j]? = some r → jn r = p → ∀ q ∈ pcs z (rs.take j), valV D (Sum.inr q) = if sweep rs q = [q] then some (.bl true) else none) ∧
  ∀ H', Same H H' → Q (.bl (decide (sweep rs p = [p]))) H'
theorem met_is_alone (T : Tx K mg) : Met P w K mg base CX0 4 (FC K) "is_alone" (spIsAlone K) := by
  have M_Table_parts := met_parts (P := P) (w := w) (base := base) T
  have M_Table_rank := met_rank (P := P) (w := w) (base := base) T
  have M_Follows_first_rank := met_first_rank (P := P) (w := w) (base := base) T
  obtain ⟨fd, F⟩ := T.d_Follows_is_alone
  refine ⟨T.cl_Follows, _, fd, P_Follows_is_alone, F.ok sc_Follows_is_alone (fun vs H Q E h => ?_) (fun cdv A outer s H vs Q E hr h => ?_), T.m_Follows_is_alone, F.bindsN (ps := P_Follows_is_alone) fun _ _ _ _ _ _ us hl => match us, hl with | [_, _], _ => rfl⟩
  · obtain ⟨x, dx, t, re, le, al, af, ah, pr, z, rs, p, D, rfl, _⟩ := h
    rfl
  · obtain ⟨x, dx, t, re, le, al, af, ah, pr, z, rs, p, D, rfl, fe, hp, hD, hA, k⟩ := h
    refine ⟨_, (PSs.nox (pss_cons (ps_set (i := 2) sc_Follows_is_alone.nd rfl (Or.inl rfl) (pe_met M_Table_parts (pe_fld (pv 0) rfl) (by first | exact hr | exact hr.mono (by decide)) (pa_cons (pv 1) pa_nil)))
      (pss_cons (ps_if (pt_cmpR op_isN (pv 2) pe_non (nomark _)) (pss_one (ps_ret pe_bl)) pss_nil)
      (pss_cons (ps_asg (pv 2) (pg_tup rfl (pgs_cons (pg_name (i := 3) sc_Follows_is_alone.nd rfl (Or.inl rfl)) (pgs_cons (pg_name (i := 4) sc_Follows_is_alone.nd rfl (Or.inl rfl)) pgs_nil))))
      (pss_cons (ps_if (PW.pt (pw_or (pt_cmp (pc_dnotin (hu_of hr) (pv 3) (pe_fld (pv 0) rfl))) (pw_or1 (pt_cmp (pc_dnotin (hu_of hr) (pv 4) (pe_fld (pv 0) rfl)))))) (pss_one (ps_ret pe_bl)) pss_nil)
      (pss_one (ps_ret (pe_cmpR op_eq (pe_met M_Follows_first_rank (pv 0) (by first | exact hr | exact hr.mono (by decide)) (pa_cons (pv 3) (pa_cons (pv 4) pa_nil))) (pe_met M_Table_rank (pe_fld (pv 0) rfl) (by first | exact hr | exact hr.mono (by decide)) (pa_cons (pv 3) (pa_cons (pv 4) pa_nil))) (nomark _))))))))), ?_⟩
    obtain ⟨dxt, lr, lp, dn, dr, m, ht, _⟩ := fe.ta.ex
    refine ⟨_, rfl, x, _, dx, _, _, rfl, fe.hx, T.cl_Follows, T.no_Follows_held_table, g7_t _ _ _ _ _ _ _, t, dxt, _, rfl, ht, l6_mpa _ _ _ _ _ _, _, rfl, t, z, rs, p, rfl, fe.ta, hp, fun v hv => ?_⟩
    rcases hv with ⟨hsg, rfl⟩ | ⟨r, a, hr', ejr, hta, rfl⟩
    · have e : sweep rs p = [p] := by
        unfold sweep
        rw [sgs_sign hsg, passAll_one]
      rw [decide_eq_true e] at k
      exact ⟨_, rfl, rfl, _, rfl, iteT (k _ (Same.refl _))⟩
    · obtain ⟨j, hj, ej⟩ := List.mem_iff_getElem.mp hr'
      have hjr : rs[j]? = some r := by rw [List.getElem?_eq_getElem hj, ej]
      have ro := fe.ta.ok.rows j r hjr
      have hta : H a = some (.tup [.str r.1, .str r.2]) := hta
      have h1 := hA j r hjr ejr r.1 ro.lm
      have h2 := hA j r hjr ejr r.2 ro.rm
      refine ⟨_, rfl, rfl, _, rfl, iteF ?_⟩
      refine ⟨_, rfl, a, _, rfl, SqT.of hta, rfl, _, _, rfl, _, _, rfl, rfl, ?_⟩
      refine ⟨_, rfl, _, rfl, x, _, dx, _, _, rfl, fe.hx, T.cl_Follows, T.no_Follows_alone_pieces, g7_al _ _ _ _ _ _ _, al, _, rfl, DGet.k (k := Sum.inr r.1) hD, _, rfl, ?_⟩
      have pa := parts_alone fe.ta.ok (l := r.1) (r := r.2) hjr
      rw [h1]
      by_cases c1 : sweep rs r.1 = [r.1]
      · rw [if_pos c1]
        refine iteF ⟨_, rfl, _, rfl, x, _, dx, _, _, rfl, fe.hx, T.cl_Follows, T.no_Follows_alone_pieces, g7_al _ _ _ _ _ _ _, al, _, rfl, DGet.k (k := Sum.inr r.2) hD, _, rfl, ?_⟩
        rw [h2]
        by_cases c2 : sweep rs r.2 = [r.2]
        · rw [if_pos c2]
          refine iteF ?_
          refine ⟨_, rfl, x, dx, _, rfl, fe.hx, g7_mfr _ _ _ _ _ _ _, _, rfl, _, rfl, x, dx, t, re, le, al, af, ah, pr, z, rs, r.1, r.2, rfl, fe, pcs_take_all ro.lm, pcs_take_all ro.rm, c1, c2, fun H1 s1 => ?_⟩
          have fe1 := fe.same s1
          obtain ⟨dxt1, lr1, lp1, dn1, dr1, m1, ht1, _⟩ := fe1.ta.ex
          refine ⟨_, rfl, x, _, dx, _, _, rfl, fe1.hx, T.cl_Follows, T.no_Follows_held_table, g7_t _ _ _ _ _ _ _, t, dxt1, _, rfl, ht1, l6_mrk _ _ _ _ _ _, _, rfl, _, rfl, t, z, rs, r.1, r.2, rfl, fe1.ta, fun H2 s2 => ?_⟩
          have ai := alone_iff fe.ta.ok hjr c1 c2
          rw [ejr] at ai
          rw [rankV_at fe.ta.ok hjr]
          have ed : decide (optV (metR 0 rs (sgs (r.1 ++ r.2)) r.1.length) = V.int (j : Nat)) = decide (sweep rs p = [p]) := by
            by_cases c3 : sweep rs p = [p]
            · rw [decide_eq_true c3, ai.mp c3]
              exact decide_eq_true rfl
            · rw [decide_eq_false c3]
              refine decide_eq_false fun e => c3 (ai.mpr ?_)
              cases em : metR 0 rs (sgs (r.1 ++ r.2)) r.1.length with
              | none => rw [em] at e; cases e
              | some i =>
                rw [em] at e
                have := V.int.inj e
                have e2 : i = j := by omega
                rw [e2]
          have kk := k _ (s1.trans s2)
          rw [← ed] at kk
          cases em : metR 0 rs (sgs (r.1 ++ r.2)) r.1.length with
          | none => rw [em] at kk; exact ⟨rfl, kk⟩
          | some i => rw [em] at kk; exact ⟨rfl, kk⟩
        · rw [if_neg c2]
          have e : ¬ sweep rs p = [p] := fun e => c2 (pa (by rw [← ejr] at e; exact e)).2
          rw [decide_eq_false e] at k
          exact iteT (k _ (Same.refl _))
      · rw [if_neg c1]
        have e : ¬ sweep rs p = [p] := fun e => c1 (pa (by rw [← ejr] at e; exact e)).1
        rw [decide_eq_false e] at k
        exact iteT (iteT (k _ (Same.refl _)))
end
end Jr
namespace Jr
open PySem PySem.Spec PyProof.Rows L2
theorem call_list_dKG {X : Cx} (hc : X.calm = true) : CallR X (.type "list") (fun xs H Q => ∃ p kvs, xs = [.ref p] ∧ H p = some (.dK kvs) ∧ New H (.lst (kvs.map fun kv => kV kv.1)) Q) := call_mono (call_list_dK hc) fun _ _ _ ⟨p, kvs, e, h, n⟩ => ⟨p, kvs, e, h, n.of⟩
/-! ### who may follow whom, gathered pair by pair -/
def fitB (rs : Rws) (q : Str × Str) : Bool := decide (sweep rs (q.1 ++ q.2) = [q.1, q.2])
def aft (rs : Rws) (PL : List (Str × Str)) (p : Str) : List Str := (PL.filter fun q => decide (q.1 = p) && fitB rs q).map (·.2)
def ahd (rs : Rws) (PL : List (Str × Str)) (p : Str) : List Str := (PL.filter fun q => decide (q.2 = p) && fitB rs q).map (·.1)
def AL (z : Str) (rs : Rws) : List Str := (pcs z rs).filter fun p => decide (sweep rs p = [p])
theorem aft_snoc (rs : Rws) (PL : List (Str × Str)) (q : Str × Str) (p : Str) : aft rs (PL ++ [q]) p = aft rs PL p ++ (if q.1 = p ∧ fitB rs q = true then [q.2] else []) := by
  unfold aft
  rw [List.filter_append, List.map_append]
  congr 1
  by_cases c : q.1 = p ∧ fitB rs q = true
  · rw [if_pos c]; simp [c.1, c.2]
  · rw [if_neg c]
    have : (decide (q.1 = p) && fitB rs q) = false := by
      cases h : decide (q.1 = p) && fitB rs q with
      | false => rfl
      | true =>
        rw [Bool.and_eq_true, decide_eq_true_eq] at h
        exact absurd h c
    simp [this]
theorem ahd_snoc (rs : Rws) (PL : List (Str × Str)) (q : Str × Str) (p : Str) : ahd rs (PL ++ [q]) p = ahd rs PL p ++ (if q.2 = p ∧ fitB rs q = true then [q.1] else []) := by
  unfold ahd
  rw [List.filter_append, List.map_append]
  congr 1
  by_cases c : q.2 = p ∧ fitB rs q = true
  · rw [if_pos c]; simp [c.1, c.2]
  · rw [if_neg c]
    have : (decide (q.2 = p) && fitB rs q) = false := by
      cases h : decide (q.2 = p) && fitB rs q with
      | false => rfl
      | true =>
        rw [Bool.and_eq_true, decide_eq_true_eq] at h
        exact absurd h c
    simp [this]
theorem aft_len (rs : Rws) (PL : List (Str × Str)) (p : Str) : (aft rs PL p).length ≤ PL.length := by unfold aft; rw [List.length_map]; exact List.length_filter_le ..
theorem ahd_len (rs : Rws) (PL : List (Str × Str)) (p : Str) : (ahd rs PL p).length ≤ PL.length := by unfold ahd; rw [List.length_map]; exact List.length_filter_le ..
/-- the lists by pieces, as they stand -/
def lstsZ (as : List Addr) (ps : List Str) (f : Str → List Str) : List (Addr × HO) := (as.zip ps).map fun q => (q.1, HO.lst ((f q.2).map V.str))
def kvsZ (as : List Addr) (ps : List Str) : List (Key × V) := (as.zip ps).map fun q => (Sum.inr q.2, V.ref q.1)
theorem lstsZ_at {as : List Addr} {ps : List Str} {f : Str → List Str} {i : Nat} {a : Addr} {p : Str} (ha : as[i]? = some a) (hp : ps[i]? = some p) : (lstsZ as ps f)[i]? = some (a, HO.lst ((f p).map V.str)) := by
  unfold lstsZ
  have : (as.zip ps)[i]? = some (a, p) := List.getElem?_zip_eq_some.mpr ⟨ha, hp⟩
  rw [List.getElem?_map, this]
  rfl
theorem lstsZ_len {as : List Addr} {ps : List Str} (f : Str → List Str) (h : as.length = ps.length) : (lstsZ as ps f).length = ps.length := by
  unfold lstsZ
  rw [List.length_map, List.length_zip, h, Nat.min_self]
theorem lstsZ_ext (as : List Addr) {ps : List Str} {f g : Str → List Str} (h : ∀ p ∈ ps, f p = g p) : lstsZ as ps f = lstsZ as ps g := by
  unfold lstsZ
  refine List.map_congr_left fun q hq => ?_
  rw [h q.2 (List.of_mem_zip hq).2]
theorem nd_at {ps : List Str} (nd : ps.Nodup) {i j : Nat} {p : Str} (hi : ps[i]? = some p) (hj : ps[j]? = some p) : i = j := by
  obtain ⟨a1, b1⟩ := List.getElem?_eq_some_iff.mp hi
  obtain ⟨a2, b2⟩ := List.getElem?_eq_some_iff.mp hj
  rcases Nat.lt_trichotomy i j with c | c | c
  · exact absurd (b1.trans b2.symm) (List.pairwise_iff_getElem.mp nd i j a1 a2 c)
  · exact c
  · exact absurd (b2.trans b1.symm) (List.pairwise_iff_getElem.mp nd j i a2 a1 c)
theorem lstsZ_set {as : List Addr} {ps : List Str} {f : Str → List Str} {i : Nat} {a : Addr} {p : Str} (xs : List Str) (nd : ps.Nodup) (hl : as.length = ps.length) (ha : as[i]? = some a) (hp : ps[i]? = some p) :
    (lstsZ as ps f).set i (a, HO.lst (xs.map V.str)) = lstsZ as ps fun q => if q = p then xs else f q := by
  have hi : i < ps.length := (List.getElem?_eq_some_iff.mp hp).1
  refine List.ext_getElem? fun j => ?_
  by_cases c : j = i
  · subst c
    rw [List.getElem?_set_self (by rw [lstsZ_len f hl]; exact hi), lstsZ_at ha hp, if_pos rfl]
  · rw [List.getElem?_set_ne (fun e => c e.symm)]
    by_cases hj : j < ps.length
    · have hpj : ps[j]? = some ps[j] := List.getElem?_eq_getElem hj
      have haj : as[j]? = some (as[j]'(by omega)) := List.getElem?_eq_getElem (by omega)
      rw [lstsZ_at haj hpj, lstsZ_at haj hpj, if_neg (fun e => c (nd_at nd hpj (by rw [e]; exact hp)))]
    · rw [List.getElem?_eq_none (by rw [lstsZ_len f hl]; omega), List.getElem?_eq_none (by rw [lstsZ_len _ hl]; omega)]
theorem kvsZ_at : ∀ {as : List Addr} {ps : List Str} {i : Nat} {a : Addr} {p : Str}, ps.Nodup → as[i]? = some a → ps[i]? = some p → valV (kvsZ as ps) (Sum.inr p) = some (V.ref a)
  | [], _, _, _, _, _, h, _ => by simp at h
  | _ :: _, [], _, _, _, _, _, h => by simp at h
  | b :: as, q :: ps, 0, a, p, _, ha, hp => by
    have e1 : b = a := Option.some.inj ha
    have e2 : q = p := Option.some.inj hp
    subst e1 e2
    exact valV_pos (p := ((Sum.inr q : Key), V.ref b)) rfl
  | b :: as, q :: ps, i + 1, a, p, nd, ha, hp => by
    have nd' := List.nodup_cons.mp nd
    have h1 : ¬ (Sum.inr q : Key) = Sum.inr p := fun e => nd'.1 (by rw [Sum.inr.inj e]; exact List.mem_of_getElem? (show ps[i]? = some p from hp))
    exact (valV_neg (p := ((Sum.inr q : Key), V.ref b)) h1).trans (kvsZ_at (i := i) nd'.2 ha hp)
theorem put_len {κ : Type} [DecidableEq κ] (c : List (κ × V)) (k : κ) (x : V) : (putK c k x).length ≤ c.length + 1 := by
  unfold putK
  split
  · rw [List.length_map]; omega
  · rw [List.length_append]; exact Nat.le_refl _
theorem fit_alone {rs : Rws} {l r : Str} (h : sweep rs (l ++ r) = [l, r]) : sweep rs l = [l] ∧ sweep rs r = [r] := by
  refine ⟨way_alone (t := l ++ r) ?_, way_alone (t := l ++ r) ?_⟩
  · show l ∈ sweep rs (l ++ r)
    rw [h]; exact List.mem_cons_self
  · show r ∈ sweep rs (l ++ r)
    rw [h]; exact List.mem_cons_of_mem _ List.mem_cons_self
theorem fit_iff {z : Str} {rs : Rws} (T : TabOk z rs) {l r : Str} (h1 : sweep rs l = [l]) (h2 : sweep rs r = [r]) : metR 0 rs (sgs (l ++ r)) l.length = none ↔ fitB rs (l, r) = true := by
  unfold fitB
  rw [meet_iff T, h1, h2, decide_eq_true_eq]
  exact Iff.rfl
/-- all pairs -/
def PLs (z : Str) (rs : Rws) (n : Nat) : List (Str × Str) := ((AL z rs).take n).flatMap fun l => (AL z rs).map fun r => (l, r)
def ALD (z : Str) (rs : Rws) : List (Key × V) := (AL z rs).map fun p => (Sum.inr p, V.bl true)
theorem al_in {z : Str} {rs : Rws} {p : Str} (h : p ∈ AL z rs) : p ∈ pcs z rs ∧ sweep rs p = [p] := by
  have := List.mem_filter.mp h
  exact ⟨this.1, by simpa using this.2⟩
theorem al_len {z : Str} {rs : Rws} (T : TabOk z rs) : (AL z rs).length ≤ 36 := by
  have : (AL z rs).length ≤ (pcs z rs).length := List.length_filter_le ..
  have h1 := T.n12
  have h2 := T.many
  rw [pcs_len] at this
  omega
theorem pls_len {z : Str} {rs : Rws} (T : TabOk z rs) (n : Nat) : (PLs z rs n).length ≤ 1296 := by
  have h := al_len T
  have key : ∀ l : List Str, (l.flatMap fun a => (AL z rs).map fun r => (a, r)).length = l.length * (AL z rs).length := fun l => by
    induction l with
    | nil => simp
    | cons a l ih => rw [List.flatMap_cons, List.length_append, ih, List.length_map, List.length_cons, Nat.succ_mul]; omega
  unfold PLs
  rw [key, List.length_take]
  exact Nat.le_trans (Nat.mul_le_mul (show min n (AL z rs).length ≤ 36 by omega) h) (by decide)
/-- the pairs dict -/
structure PairD (rs : Rws) (PL : List (Str × Str)) (G : List (List Key × V)) : Prop where
  val : ∀ l r : Str, valV G [Sum.inr l, Sum.inr r] = if (l, r) ∈ PL ∧ fitB rs (l, r) = true then some (.bl true) else none
  len : G.length ≤ PL.length
theorem PairD.skip {rs : Rws} {PL : List (Str × Str)} {G : List (List Key × V)} {q : Str × Str} (h : PairD rs PL G) (n : ¬ fitB rs q = true) : PairD rs (PL ++ [q]) G := by
  refine ⟨fun l r => ?_, Nat.le_trans h.len (by rw [List.length_append]; omega)⟩
  rw [h.val]
  by_cases c : (l, r) ∈ PL ∧ fitB rs (l, r) = true
  · rw [if_pos c, if_pos ⟨List.mem_append_left _ c.1, c.2⟩]
  · rw [if_neg c, if_neg]
    rintro ⟨h1, h2⟩
    rcases List.mem_append.mp h1 with h3 | h3
    · exact c ⟨h3, h2⟩
    · rw [List.mem_singleton.mp h3] at h2
      exact n h2
theorem PairD.put {rs : Rws} {PL : List (Str × Str)} {G : List (List Key × V)} {l r : Str} (h : PairD rs PL G) (n : fitB rs (l, r) = true) : PairD rs (PL ++ [(l, r)]) (putK G [Sum.inr l, Sum.inr r] (.bl true)) := by
  refine ⟨fun a b => ?_, Nat.le_trans (put_len ..) (by rw [List.length_append]; have := h.len; simp; omega)⟩
  rw [valV_put]
  by_cases c : ([Sum.inr a, Sum.inr b] : List Key) = [Sum.inr l, Sum.inr r]
  · have e1 := Sum.inr.inj (List.cons.inj c).1
    have e2 := Sum.inr.inj (List.cons.inj (List.cons.inj c).2).1
    rw [if_pos c, e1, e2, if_pos ⟨List.mem_append_right _ (List.mem_singleton.mpr rfl), n⟩]
  · rw [if_neg c, h.val]
    by_cases c2 : (a, b) ∈ PL ∧ fitB rs (a, b) = true
    · rw [if_pos c2, if_pos ⟨List.mem_append_left _ c2.1, c2.2⟩]
    · rw [if_neg c2, if_neg]
      rintro ⟨h1, h2⟩
      rcases List.mem_append.mp h1 with h3 | h3
      · exact c2 ⟨h3, h2⟩
      · have e := List.mem_singleton.mp h3
        rw [(Prod.mk.inj e).1, (Prod.mk.inj e).2] at c
        exact c rfl
/-- the region while pairs are gathered -/
def PReg (S H : Hp) (pr : Addr) (asA asH : List Addr) (z : Str) (rs : Rws) (PL : List (Str × Str)) : Prop := ∃ G, Reg S H ((pr, HO.dT G) :: (lstsZ asA (pcs z rs) (aft rs PL) ++ lstsZ asH (pcs z rs) (ahd rs PL))) ∧ PairD rs PL G
section
variable {P : Program} {w : World} {K : PySem.W.Frag} {mg : Str → Option Value} {base : Heap}
/-- what stays while pairs are gathered -/
structure FolS (K : PySem.W.Frag) (S : Hp) (x dx t re le al af ah pr : Addr) (asA asH : List Addr) (z : Str) (rs : Rws) : Prop where
  fe : FolE K S x dx t re le al af ah pr z rs
  hal : S al = some (.dK (ALD z rs))
  haf : S af = some (.dK (kvsZ asA (pcs z rs)))
  hah : S ah = some (.dK (kvsZ asH (pcs z rs)))
  lA : asA.length = (pcs z rs).length
  lH : asH.length = (pcs z rs).length
theorem FolS.same {S S' : Hp} {x dx t re le al af ah pr : Addr} {asA asH : List Addr} {z : Str} {rs : Rws} (h : FolS K S x dx t re le al af ah pr asA asH z rs) (s : Same S S') : FolS K S' x dx t re le al af ah pr asA asH z rs :=
  ⟨h.fe.same s, s _ _ h.hal, s _ _ h.haf, s _ _ h.hah, h.lA, h.lH⟩
def spPairAll (K : PySem.W.Frag) : Sp := fun vs H Q _ => ∃ (S : Hp) (x dx t re le al af ah pr : Addr) (asA asH : List Addr) (z : Str) (rs : Rws), vs = [.ref x] ∧ FolS K S x dx t re le al af ah pr asA asH z rs ∧ PReg S H pr asA asH z rs [] ∧
  ∀ S' H', Same S S' → PReg S' H' pr asA asH z rs (PLs z rs (AL z rs).length) → Q .non H'
theorem met_pair_all (T : Tx K mg) : Met P w K mg base CX0 4 (FC K) "pair_all" (spPairAll K) := by
  have M_Follows_first_rank := met_first_rank (P := P) (w := w) (base := base) T
  obtain ⟨fd, F⟩ := T.d_Follows_pair_all
  refine ⟨T.cl_Follows, _, fd, P_Follows_pair_all, F.ok sc_Follows_pair_all (fun vs H Q E h => ?_) (fun cdv A outer s H vs Q E hr h => ?_), T.m_Follows_pair_all, F.bindsN (ps := P_Follows_pair_all) fun _ _ _ _ _ _ us hl => match us, hl with | [_], _ => rfl⟩
  · obtain ⟨S, x, dx, t, re, le, al, af, ah, pr, asA, asH, z, rs, rfl, _⟩ := h
    rfl
  · obtain ⟨S, x, dx, t, re, le, al, af, ah, pr, asA, asH, z, rs, rfl, fs, rg, k⟩ := h
    refine ⟨_, (PSs.nox (pss_cons (ps_set (i := 1) sc_Follows_pair_all.nd rfl (Or.inl rfl) (pe_callTy (T := "list") (call_list_dKG rfl) (by rfl) T.n_list (by decide +kernel) (pa_cons (pe_fld (pv 0) rfl) pa_nil)))
      (pss_one (ps_for PassesOwn.never rfl (pi_list (pv 1)) (pg_name (i := 2) sc_Follows_pair_all.nd rfl (Or.inl rfl)) (pss_one (ps_for PassesOwn.never rfl (pi_list (pv 1)) (pg_name (i := 3) sc_Follows_pair_all.nd rfl (Or.inl rfl)) (pss_one (ps_if (pt_cmpR op_isN (pe_met M_Follows_first_rank (pv 0) (by first | exact hr | exact hr.mono (by decide)) (pa_cons (pv 2) (pa_cons (pv 3) pa_nil))) pe_non (nomark _)) (pss_cons (ps_dput (hu_of hr) (pe_fld (pv 0) rfl) (pe_tupG (pa_cons (pv 2) (pa_cons (pv 3) pa_nil))) pe_bl rfl)
      (pss_cons (ps_expr (pe_bm PySem.F.plainAttrs_list PySem.F.slot_list_append PySem.F.type_list_append mt_append (pe_dget (hu_of hr) (pe_fld (pv 0) rfl) (pv 2) (fun _ _ => rfl)) (pa_cons (pv 3) pa_nil)))
      (pss_one (ps_expr (pe_bm PySem.F.plainAttrs_list PySem.F.slot_list_append PySem.F.type_list_append mt_append (pe_dget (hu_of hr) (pe_fld (pv 0) rfl) (pv 3) (fun _ _ => rfl)) (pa_cons (pv 2) pa_nil)))))) pss_nil)))))))), ?_⟩
    obtain ⟨G, r0, pd⟩ := rg
    have nd := fs.fe.ta.ok.nodup
    have all := al_len fs.fe.ta.ok
    have hxH := r0.same _ _ fs.fe.hx
    refine ⟨_, rfl, x, _, dx, _, _, rfl, hxH, T.cl_Follows, T.no_Follows_alone_pieces, g7_al _ _ _ _ _ _ _, al, _, rfl, r0.same _ _ fs.hal, fun q H1 nq s1 hq => ?_⟩
    have eq1 : (ALD z rs).map (fun kv => kV kv.1) = (AL z rs).map V.str := by
      unfold ALD
      rw [List.map_map]
      rfl
    rw [eq1] at hq
    obtain ⟨r1, sS⟩ := r0.grow s1
    have hqS := out_of (L := ((pr, HO.dT G) :: (lstsZ asA (pcs z rs) (aft rs []) ++ lstsZ asH (pcs z rs) (ahd rs [])))) hq (r0.free nq)
    have fs1 := fs.same sS
    revert r1 sS hqS fs1
    generalize (out H1 ((pr, HO.dT G) :: (lstsZ asA (pcs z rs) (aft rs []) ++ lstsZ asH (pcs z rs) (ahd rs [])))) = S1
    intro r1 sS hqS fs1
    refine ⟨_, rfl, q, rfl, ⟨_, SqL.of hq⟩, for_list (K := K) (a := q) (xs := (AL z rs).map V.str) (fun i σ H' => ∃ (S' : Hp) (u v : Option V), σ = [some (.ref x), some (.ref q), u, v] ∧ Same S1 S' ∧ PReg S' H' pr asA asH z rs (PLs z rs i))
      ⟨S1, _, _, rfl, Same.refl _, G, r1, pd⟩ (fun i σ H' _ ⟨S', _, _, _, s, G', r, _⟩ => SqL.of (r.same _ _ (s _ _ hqS))) ?_ ?_⟩
    · rintro i y σ H' hi ⟨S2, u, v, rfl, s2, rg2⟩
      rw [List.getElem?_map] at hi
      cases el : (AL z rs)[i]? with
      | none => rw [el] at hi; cases hi
      | some l =>
        rw [el] at hi
        cases hi
        obtain ⟨lp, la⟩ := al_in (List.mem_of_getElem? el)
        have hq2 : H' q = some (.lst ((AL z rs).map V.str)) := by
          obtain ⟨G', r, _⟩ := rg2
          exact r.same _ _ (s2 _ _ hqS)
        have eP : ∀ j, PLs z rs i ++ ((AL z rs).take j).map (fun r => (l, r)) = PLs z rs i ++ ((AL z rs).take j).map (fun r => (l, r)) := fun _ => rfl
        refine ⟨_, rfl, q, rfl, ⟨_, SqL.of hq2⟩, for_list (K := K) (a := q) (xs := (AL z rs).map V.str) (fun j σ H' => ∃ (S' : Hp) (v : Option V), σ = [some (.ref x), some (.ref q), some (.str l), v] ∧ Same S1 S' ∧ PReg S' H' pr asA asH z rs (PLs z rs i ++ ((AL z rs).take j).map fun r => (l, r)))
          ⟨S2, _, rfl, s2, by rw [List.take_zero, List.map_nil, List.append_nil]; exact rg2⟩ (fun j σ H' _ ⟨S', _, _, s, G', r, _⟩ => SqL.of (r.same _ _ (s _ _ hqS))) ?_ ?_⟩
        · rintro j y σ H3 hj ⟨S3, v, rfl, s3, G3, r3, pd3⟩
          rw [List.getElem?_map] at hj
          cases er : (AL z rs)[j]? with
          | none => rw [er] at hj; cases hj
          | some r =>
            rw [er] at hj
            cases hj
            obtain ⟨rp, ra⟩ := al_in (List.mem_of_getElem? er)
            obtain ⟨PL, ePL⟩ : ∃ PL, PL = PLs z rs i ++ ((AL z rs).take j).map (fun r => (l, r)) := ⟨_, rfl⟩
            have ePL1 : PLs z rs i ++ ((AL z rs).take (j + 1)).map (fun r => (l, r)) = PL ++ [(l, r)] := by
              rw [List.take_add_one, er, ePL, List.append_assoc]
              simp
            rw [← ePL] at r3 pd3
            rw [ePL1]
            have pll : PL.length ≤ 2000 := by
              have h1 := pls_len fs.fe.ta.ok i
              rw [ePL, List.length_append, List.length_map, List.length_take]
              omega
            have fs3 := fs1.same s3
            have fe3 := fs3.fe.same r3.same
            refine ⟨_, rfl, x, dx, _, rfl, fe3.hx, g7_mfr _ _ _ _ _ _ _, _, rfl, _, rfl, x, dx, t, re, le, al, af, ah, pr, z, rs, l, r, rfl, fe3, lp, rp, la, ra, fun H4 s4 => ?_⟩
            have fi := fit_iff fs.fe.ta.ok la ra
            by_cases c : fitB rs (l, r) = true
            · rw [fi.mpr c]
              refine ⟨rfl, _, rfl, iteT ?_⟩
              have r4 := r3.step s4
              have fe4 := fe3.same s4
              refine ⟨_, rfl, x, _, dx, _, _, rfl, fe4.hx, T.cl_Follows, T.no_Follows_pairs, g7_pr _ _ _ _ _ _ _, _, rfl, _, rfl, (by show 2 ≤ sizeLine; decide), fun tq H5 ntq s5 htq => ?_⟩
              obtain ⟨r5, sS5⟩ := r4.grow s5
              have r5' := r4.step s5
              have hpr : H5 pr = some (.dT G3) := r5'.get (i := 0) rfl
              refine ⟨pr, _, rfl, DPut.t (k := [Sum.inr l, Sum.inr r]) hpr htq (szl (by have := pd3.len; omega)), ?_⟩
              have r6 := r5'.set (i := 0) (a := pr) (o := .dT G3) (o' := .dT (putK G3 [Sum.inr l, Sum.inr r] (.bl true))) rfl
              have pd6 := pd3.put c
              obtain ⟨il, hil⟩ := List.getElem?_of_mem lp
              obtain ⟨ir, hir⟩ := List.getElem?_of_mem rp
              have hil' : il < (pcs z rs).length := (List.getElem?_eq_some_iff.mp hil).1
              have hir' : ir < (pcs z rs).length := (List.getElem?_eq_some_iff.mp hir).1
              obtain ⟨aa, haa⟩ : ∃ aa, asA[il]? = some aa := ⟨_, List.getElem?_eq_getElem (by rw [fs.lA]; exact hil')⟩
              obtain ⟨ab, hab⟩ : ∃ ab, asH[ir]? = some ab := ⟨_, List.getElem?_eq_getElem (by rw [fs.lH]; exact hir')⟩
              have lzA := lstsZ_len (aft rs PL) fs.lA
              have g1 : ((pr, HO.dT (putK G3 [Sum.inr l, Sum.inr r] (.bl true))) :: (lstsZ asA (pcs z rs) (aft rs PL) ++ lstsZ asH (pcs z rs) (ahd rs PL)))[il + 1]? = some (aa, HO.lst ((aft rs PL l).map V.str)) := by
                rw [List.getElem?_cons_succ, List.getElem?_append_left (by rw [lzA]; exact hil')]
                exact lstsZ_at haa hil
              have r6' : Reg S3 (upd H5 pr (.dT (putK G3 [Sum.inr l, Sum.inr r] (.bl true)))) ((pr, HO.dT (putK G3 [Sum.inr l, Sum.inr r] (.bl true))) :: (lstsZ asA (pcs z rs) (aft rs PL) ++ lstsZ asH (pcs z rs) (ahd rs PL))) := r6
              revert r6'
              generalize (upd H5 pr (.dT (putK G3 [Sum.inr l, Sum.inr r] (.bl true)))) = H6
              intro r6'
              have hxx := r6'.same _ _ fs3.fe.hx
              have haf6 := r6'.same _ _ fs3.haf
              have v1 := kvsZ_at nd haa hil
              have hA6 := r6'.get g1
              have l1 := aft_len rs PL l
              refine ⟨_, rfl, x, _, dx, _, _, rfl, hxx, T.cl_Follows, T.no_Follows_pieces_after, g7_af _ _ _ _ _ _ _, _, rfl, af, .ref aa, rfl, v1 ▸ DGet.k (k := Sum.inr l) haf6, .inl ⟨rfl, _, SqL.of hA6⟩, _, rfl, aa, _, _, rfl, rfl, hA6, (by rw [List.length_map]; exact szl (by omega)), ?_⟩
              have r7 := r6'.set (o' := .lst ((aft rs PL l).map V.str ++ [V.str r])) g1
              have eA : ((pr, HO.dT (putK G3 [Sum.inr l, Sum.inr r] (.bl true))) :: (lstsZ asA (pcs z rs) (aft rs PL) ++ lstsZ asH (pcs z rs) (ahd rs PL))).set (il + 1) (aa, HO.lst ((aft rs PL l).map V.str ++ [V.str r])) = (pr, HO.dT (putK G3 [Sum.inr l, Sum.inr r] (.bl true))) :: (lstsZ asA (pcs z rs) (aft rs (PL ++ [(l, r)])) ++ lstsZ asH (pcs z rs) (ahd rs PL)) := by
                rw [List.set_cons_succ, List.set_append_left _ _ (by rw [lzA]; exact hil')]
                have e2 : (aft rs PL l).map V.str ++ [V.str r] = (aft rs PL l ++ [r]).map V.str := by rw [List.map_append]; rfl
                rw [e2, lstsZ_set _ nd fs.lA haa hil]
                congr 2
                refine lstsZ_ext _ fun p hp => ?_
                rw [aft_snoc]
                by_cases cp : p = l
                · rw [if_pos cp, cp, if_pos ⟨rfl, c⟩]
                · rw [if_neg cp, if_neg (fun h => cp h.1.symm), List.append_nil]
              rw [eA] at r7
              revert r7
              generalize (upd H6 aa (.lst ((aft rs PL l).map V.str ++ [V.str r]))) = H7
              intro r7
              have lzA7 := lstsZ_len (aft rs (PL ++ [(l, r)])) fs.lA
              have g2 : ((pr, HO.dT (putK G3 [Sum.inr l, Sum.inr r] (.bl true))) :: (lstsZ asA (pcs z rs) (aft rs (PL ++ [(l, r)])) ++ lstsZ asH (pcs z rs) (ahd rs PL)))[((pcs z rs).length + ir) + 1]? = some (ab, HO.lst ((ahd rs PL r).map V.str)) := by
                rw [List.getElem?_cons_succ, List.getElem?_append_right (by rw [lzA7]; omega), lzA7, Nat.add_sub_cancel_left]
                exact lstsZ_at hab hir
              have hxx7 := r7.same _ _ fs3.fe.hx
              have hah7 := r7.same _ _ fs3.hah
              have v2 := kvsZ_at nd hab hir
              have hH7 := r7.get g2
              have l2 := ahd_len rs PL r
              refine ⟨_, rfl, x, _, dx, _, _, rfl, hxx7, T.cl_Follows, T.no_Follows_pieces_ahead, g7_ah _ _ _ _ _ _ _, _, rfl, ah, .ref ab, rfl, v2 ▸ DGet.k (k := Sum.inr r) hah7, .inl ⟨rfl, _, SqL.of hH7⟩, _, rfl, ab, _, _, rfl, rfl, hH7, (by rw [List.length_map]; exact szl (by omega)), ?_⟩
              have r8 := r7.set (o' := .lst ((ahd rs PL r).map V.str ++ [V.str l])) g2
              have eH : ((pr, HO.dT (putK G3 [Sum.inr l, Sum.inr r] (.bl true))) :: (lstsZ asA (pcs z rs) (aft rs (PL ++ [(l, r)])) ++ lstsZ asH (pcs z rs) (ahd rs PL))).set (((pcs z rs).length + ir) + 1) (ab, HO.lst ((ahd rs PL r).map V.str ++ [V.str l])) = (pr, HO.dT (putK G3 [Sum.inr l, Sum.inr r] (.bl true))) :: (lstsZ asA (pcs z rs) (aft rs (PL ++ [(l, r)])) ++ lstsZ asH (pcs z rs) (ahd rs (PL ++ [(l, r)]))) := by
                rw [List.set_cons_succ, List.set_append_right _ _ (by rw [lzA7]; omega), lzA7, Nat.add_sub_cancel_left]
                have e2 : (ahd rs PL r).map V.str ++ [V.str l] = (ahd rs PL r ++ [l]).map V.str := by rw [List.map_append]; rfl
                rw [e2, lstsZ_set _ nd fs.lH hab hir]
                congr 2
                refine lstsZ_ext _ fun p hp => ?_
                rw [ahd_snoc]
                by_cases cp : p = r
                · rw [if_pos cp, cp, if_pos ⟨rfl, c⟩]
                · rw [if_neg cp, if_neg (fun h => cp h.1.symm), List.append_nil]
              rw [eH] at r8
              exact ⟨S3, _, rfl, s3, _, r8, pd6⟩
            · have hn : metR 0 rs (sgs (l ++ r)) l.length ≠ none := fun e => c (fi.mp e)
              have e1 : lstsZ asA (pcs z rs) (aft rs PL) = lstsZ asA (pcs z rs) (aft rs (PL ++ [(l, r)])) := lstsZ_ext _ fun p hp => by rw [aft_snoc, if_neg (fun h => c h.2), List.append_nil]
              have e2 : lstsZ asH (pcs z rs) (ahd rs PL) = lstsZ asH (pcs z rs) (ahd rs (PL ++ [(l, r)])) := lstsZ_ext _ fun p hp => by rw [ahd_snoc, if_neg (fun h => c h.2), List.append_nil]
              have r4 := r3.step s4
              rw [e1, e2] at r4
              cases em : metR 0 rs (sgs (l ++ r)) l.length with
              | none => exact absurd em hn
              | some kk => exact ⟨rfl, _, rfl, iteF ⟨S3, _, rfl, s3, G3, r4, pd3.skip c⟩⟩
        · rintro σ H3 ⟨S3, v, rfl, s3, rg3⟩
          refine ⟨S3, _, _, rfl, s3, ?_⟩
          rw [List.length_map, List.take_length] at rg3
          have e : PLs z rs (i + 1) = PLs z rs i ++ (AL z rs).map fun r => (l, r) := by
            unfold PLs
            rw [List.take_add_one, el]
            simp
          rw [e]
          exact rg3
    · rintro σ H' ⟨S', u, v, rfl, s', rg'⟩
      rw [List.length_map] at rg'
      exact k S' H' (sS.trans s') rg'
end
end Jr
namespace Jr
open PySem PySem.Spec PyProof.Rows L2
section
variable {P : Program} {w : World} {K : PySem.W.Frag} {mg : Str → Option Value} {base : Heap}
def spCut (K : PySem.W.Frag) : Sp := fun vs H Q _ => ∃ (p : Addr) (z : Str) (rs : Rws) (t : Str), vs = [.ref p, .str t] ∧ RowsAt H p rs ∧ TabOk z rs ∧ TextOf z t ∧ t.length ≤ 10000 ∧
  ∀ H' b, Same H H' → H b = none → H' b = some (.lst ((sweep rs t).map V.str)) → Q (.ref b) H'
theorem cal__law_cut (T : Tx K mg) : Cal P w K mg base CX0 1 "_law_cut" (spCut K) := by
  obtain ⟨fd, F⟩ := T.d__law_cut
  refine ⟨_, fd, P__law_cut, F.ok sc__law_cut (fun vs H Q E h => ?_) (fun cdv A outer s H vs Q E hr h => ?_), T.g__law_cut, F.kp, F.bindsN (ps := P__law_cut) fun _ _ _ _ _ _ us hl => match us, hl with | [_, _], _ => rfl⟩
  · obtain ⟨p, z, rs, t, rfl, _⟩ := h
    rfl
  · obtain ⟨p, z, rs, t, rfl, ⟨as, hp, hrs⟩, tk, tx, tl, k⟩ := h
    refine ⟨_, (PSs.nox (pss_cons (ps_set (i := 2) sc__law_cut.nd rfl (Or.inl rfl) (pe_callTy (T := "list") (call_list_str rfl) (by rfl) T.n_list (by decide +kernel) (pa_cons (pv 1) pa_nil)))
      (pss_cons (ps_for PassesOwn.never rfl (pi_list (pv 0)) (pg_tup rfl (pgs_cons (pg_name (i := 3) sc__law_cut.nd rfl (Or.inl rfl)) (pgs_cons (pg_name (i := 4) sc__law_cut.nd rfl (Or.inl rfl)) pgs_nil))) (pss_cons (ps_set (i := 5) sc__law_cut.nd rfl (Or.inl rfl) (pe_lst pa_nil))
      (pss_cons (ps_for PassesOwn.never rfl (pi_list (pv 2)) (pg_name (i := 6) sc__law_cut.nd rfl (Or.inl rfl)) (pss_one (ps_if (PW.pt (pw_and (pt_cmpR op_eq (pv 6) (pv 4) (nomark _)) (pw_and (pt_cmpR (op_neD hr.units) (pv 5) (pe_lst pa_nil) (nomark _)) (pw_and1 (pt_cmpR op_eq (pe_ix ix_list (pv 5) (pe_un un_neg pe_int) (fun _ _ => rfl)) (pv 3) (nomark _)))))) (pss_one (ps_asg (pe_op op_add_str (pv 3) (pv 4)) (pg_sub (pv 5) (pe_un un_neg pe_int) set_list))) (pss_one (ps_expr (pe_bm PySem.F.plainAttrs_list PySem.F.slot_list_append PySem.F.type_list_append mt_append (pv 5) (pa_cons (pv 6) pa_nil)))))))
      (pss_one (ps_set (i := 2) sc__law_cut.nd rfl (Or.inl rfl) (pv 5))))))
      (pss_one (ps_ret (pv 2)))))), ?_⟩
    refine ⟨_, rfl, t, rfl, sz (by omega), fun b0 hb0 => ?_⟩
    refine ⟨_, rfl, p, rfl, ⟨_, SqL.of (Same.new hb0 _ _ hp)⟩, for_list (K := K) (a := p) (xs := as.map V.ref) (fun i σ H' => ∃ (b : Addr) (u v x y : Option V), σ = [some (.ref p), some (.str t), some (.ref b), u, v, x, y] ∧ Same H H' ∧ H b = none ∧ H' b = some (.lst ((passAll (rs.take i) (sgs t)).map V.str)))
      ⟨b0, none, none, none, none, rfl, Same.new hb0, hb0, upd_same⟩ (fun i σ H' _ ⟨_, _, _, _, _, _, s, _⟩ => SqL.of (s _ _ hp)) ?_ ?_⟩
    · rintro i y σ H' hi ⟨b, u, v, x, y', rfl, sm, hb, hB⟩
      rw [List.getElem?_map] at hi
      cases ea : as[i]? with
      | none => rw [ea] at hi; cases hi
      | some q =>
        rw [ea] at hi
        cases hi
        obtain ⟨⟨l, r⟩, hri, hq⟩ := Paired.get hrs ea
        have ro := tk.rows i _ hri
        have tki := tk.take i
        have hl1 : 1 ≤ l.length ∧ l.length ≤ 16 := tki.plen ro.lm
        have hr1 : 1 ≤ r.length ∧ r.length ≤ 16 := tki.plen ro.rm
        have la := app_len l r
        refine ⟨q, _, rfl, SqT.of (sm _ _ hq), rfl, _, _, rfl, _, _, rfl, rfl, ?_⟩
        refine ⟨Nat.zero_le _, fun f hf => ?_⟩
        have hfH : H f = none := sm.free hf
        have hB1 := Same.new (o := .lst []) hf _ _ hB
        obtain ⟨ys, ey⟩ : ∃ ys, ys = passAll (rs.take i) (sgs t) := ⟨_, rfl⟩
        rw [← ey] at hB1
        have yl : ys.length ≤ 10000 := by
          rw [ey]
          have := passAll_len (rs.take i) (sgs t)
          rw [sgs_len] at this
          omega
        have yin : ∀ p ∈ ys, p ∈ pcs z rs := fun p hp => by rw [ey] at hp; exact sweep_in tx hp
        have jin : l ++ r ∈ pcs z rs := List.mem_append_right _ (List.mem_map.mpr ⟨(l, r), List.mem_of_getElem? hri, rfl⟩)
        have bf : b ≠ f := fun e => by rw [e, hf] at hB; cases hB
        refine ⟨_, rfl, b, rfl, ⟨_, SqL.of hB1⟩, for_list (K := K) (a := b) (xs := ys.map V.str) (fun j σ H2 => ∃ (y2 : Option V), σ = [some (.ref p), some (.str t), some (.ref b), some (.str l), some (.str r), some (.ref f), y2] ∧ Same H H2 ∧ H2 b = some (.lst (ys.map V.str)) ∧ H2 f = some (.lst ((pass1 l r (ys.take j)).map V.str)))
          ⟨_, rfl, Same.put sm hf, hB1, ?_⟩ (fun j σ H2 _ ⟨_, _, _, q, _⟩ => SqL.of q) ?_ ?_⟩
        · rw [List.take_zero, pass1_nil, upd_same]; rfl
        · rintro j y2 σ H2 hj ⟨y3, rfl, sm2, hB2, hF⟩
          rw [List.getElem?_map] at hj
          cases ep : ys[j]? with
          | none => rw [ep] at hj; cases hj
          | some pc =>
            rw [ep] at hj
            cases hj
            have st := pass1_take (l := l) (r := r) hr1.1 ep
            obtain ⟨fs, efs⟩ : ∃ fs, fs = pass1 l r (ys.take j) := ⟨_, rfl⟩
            rw [← efs] at hF st
            have fin : ∀ p ∈ fs, p ∈ pcs z rs := fun p hp => by
              rw [efs] at hp
              rcases pass1_mem l r _ p hp with q | q
              · exact yin p (List.mem_of_mem_take q)
              · rw [q]; exact jin
            have fl : fs.length ≤ 10000 := by
              rw [efs]
              have := pass1_len l r (ys.take j)
              rw [List.length_take] at this
              omega
            have app : stp l r fs pc = fs ++ [pc] → ∃ (y2 : Option V), [some (V.ref p), some (.str t), some (.ref b), some (.str l), some (.str r), some (.ref f), some (.str pc)] = [some (.ref p), some (.str t), some (.ref b), some (.str l), some (.str r), some (.ref f), y2] ∧ Same H (upd H2 f (.lst (fs.map V.str ++ [V.str pc]))) ∧ (upd H2 f (.lst (fs.map V.str ++ [V.str pc]))) b = some (.lst (ys.map V.str)) ∧ (upd H2 f (.lst (fs.map V.str ++ [V.str pc]))) f = some (.lst ((pass1 l r (ys.take (j + 1))).map V.str)) := fun e => by
              refine ⟨_, rfl, Same.mut sm2 hfH, by rw [upd_ne bf]; exact hB2, ?_⟩
              rw [upd_same, st, e, List.map_append]; rfl
            by_cases c1 : pc = r
            · subst c1
              refine ⟨_, rfl, _, rfl, rfl, _, rfl, ?_⟩
              rw [decide_eq_true (rfl : V.str pc = V.str pc)]
              refine iteT ⟨_, rfl, Nat.zero_le _, fun e he => ?_⟩
              have hF1 := Same.new (o := .lst []) he _ _ hF
              refine ⟨_, _, dpS (SqL.of hF1), dpS (xs := []) (SqL.of upd_same), shS (fun p hp => tk.asc (fin p hp)), shS (fun p hp => by cases hp), _, rfl, ?_⟩
              rw [eqS]
              have sm3 := Same.put (o := .lst []) sm2 he
              by_cases c2 : fs = []
              · rw [decide_eq_true c2]
                refine iteF (iteF ?_)
                refine ⟨_, rfl, .inl ⟨rfl, _, SqL.of hF1⟩, _, rfl, f, _, _, rfl, rfl, hF1, (by rw [List.length_map]; exact szl (by omega)), ?_⟩
                refine ⟨_, rfl, Same.mut sm3 hfH, ?_, ?_⟩
                · rw [upd_ne bf]; exact Same.new he _ _ hB2
                · have e2 : stp l pc fs pc = fs ++ [pc] := by unfold stp; rw [c2]; exact if_neg (by simp)
                  rw [upd_same, st, e2, List.map_append]; rfl
              · rw [decide_eq_false c2]
                obtain ⟨la1, hla⟩ : ∃ x, fs.getLast? = some x := by
                  cases e5 : fs.getLast? with
                  | none => exact absurd (List.getLast?_eq_none_iff.mp e5) c2
                  | some x => exact ⟨x, rfl⟩
                have hla2 : (fs.map V.str).getLast? = some (V.str la1) := by rw [List.getLast?_map, hla]; rfl
                refine iteT ⟨_, rfl, _, rfl, _, _, _, _, rfl, rfl, SqL.of hF1, at_last hla2, _, rfl, rfl, _, rfl, ?_⟩
                by_cases c3 : la1 = l
                · subst c3
                  rw [decide_eq_true (rfl : V.str la1 = V.str la1)]
                  refine iteT ⟨_, rfl, _, rfl, _, _, rfl, rfl, sz (by omega), _, rfl, _, rfl, f, _, _, _, rfl, rfl, hF1, ix_last (by rw [List.length_map]; exact List.length_pos_iff.mpr c2), ?_⟩
                  refine ⟨_, rfl, Same.mut sm3 hfH, ?_, ?_⟩
                  · rw [upd_ne bf]; exact Same.new he _ _ hB2
                  · have e2 : stp la1 pc fs pc = fs.dropLast ++ [la1 ++ pc] := by unfold stp; exact if_pos ⟨rfl, hla⟩
                    rw [upd_same, st, e2, set_last _ _ (fun z => c2 (List.map_eq_nil_iff.mp z)), List.map_append, List.map_dropLast]; rfl
                · have c3' : ¬ V.str la1 = V.str l := fun e => c3 (V.str.inj e)
                  rw [decide_eq_false c3']
                  refine iteF ?_
                  refine ⟨_, rfl, .inl ⟨rfl, _, SqL.of hF1⟩, _, rfl, f, _, _, rfl, rfl, hF1, (by rw [List.length_map]; exact szl (by omega)), ?_⟩
                  refine ⟨_, rfl, Same.mut sm3 hfH, ?_, ?_⟩
                  · rw [upd_ne bf]; exact Same.new he _ _ hB2
                  · have e2 : stp l pc fs pc = fs ++ [pc] := by
                      unfold stp
                      exact if_neg fun z => c3 (Option.some.inj (hla.symm.trans z.2))
                    rw [upd_same, st, e2, List.map_append]; rfl
            · have c1' : ¬ V.str pc = V.str r := fun e => c1 (V.str.inj e)
              refine ⟨_, rfl, _, rfl, rfl, _, rfl, ?_⟩
              rw [decide_eq_false c1']
              refine iteF (iteF ?_)
              refine ⟨_, rfl, .inl ⟨rfl, _, SqL.of hF⟩, _, rfl, f, _, _, rfl, rfl, hF, (by rw [List.length_map]; exact szl (by omega)), ?_⟩
              exact app (by unfold stp; exact if_neg fun z => c1 z.1)
        · rintro σ H2 ⟨y3, rfl, sm2, hB2, hF⟩
          rw [List.length_map, List.take_length] at hF
          refine ⟨_, rfl, f, _, _, _, _, rfl, sm2, hfH, ?_⟩
          rw [passAll_take _ hri, ← ey]
          exact hF
    · rintro σ H' ⟨b, u, v, x, y, rfl, sm, hb, hB⟩
      have e : rs.take (as.map V.ref).length = rs := by rw [List.length_map, Paired.len hrs, List.take_length]
      rw [e] at hB
      exact ⟨_, rfl, k _ b sm hb hB⟩
end
end Jr
namespace Jr
open PySem PySem.Spec PyProof.Rows L2
theorem pc_text {z : Str} {rs : Rws} (T : TabOk z rs) {p : Str} (h : p ∈ pcs z rs) : TextOf z p := by
  have key : ∀ n, n ≤ rs.length → ∀ p ∈ pcs z (rs.take n), TextOf z p := fun n => by
    induction n with
    | zero =>
      intro _ p hp
      have hp2 : p ∈ sgs z ++ [] := hp
      rw [List.append_nil] at hp2
      obtain ⟨c, hc, rfl⟩ := List.mem_map.mp hp2
      intro d hd
      have e : d = c := by simpa [sgn] using hd
      rw [e]; exact hc
    | succ n ih =>
      intro hn p hp
      have hx : rs[n]? = some rs[n] := List.getElem?_eq_getElem (by omega)
      rw [List.take_add_one, hx] at hp
      have hp2 : p ∈ pcs z (rs.take n ++ [rs[n]]) := hp
      rw [pcs_snoc] at hp2
      rcases List.mem_append.mp hp2 with hp3 | hp3
      · exact ih (by omega) p hp3
      · rw [List.mem_singleton] at hp3
        rw [hp3]
        have o := T.rows n _ hx
        exact text_app (ih (by omega) _ o.lm) (ih (by omega) _ o.rm)
  have := key rs.length (Nat.le_refl _) p
  rw [List.take_length] at this
  exact this h
end Jr
namespace Jr
open PySem PySem.Spec PyProof.Rows L2
/-! ### a tuple in a list of tuples -/
theorem u65 {A : Around} {k : Nat} (hr : Room k A) : A.units + 65 < cLine := by have := hr.un; omega
def dP (r : Str × Str) : PyData := .tuple [.str r.1, .str r.2]
theorem dpP {K : PySem.W.Frag} {H : Hp} {a : Addr} {r : Str × Str} (h : TupAt H a r) : Dp K H (.ref a) (dP r) := .tup (SqT.of h) (.cons (.str _) (.cons (.str _) .nil))
theorem shP {r : Str × Str} (h : Asc r.1 ∧ Asc r.2) : SeqAt.shaped (dP r) = true := by
  unfold SeqAt.shaped dP
  have h1 := asc_ok h.1
  have h2 := asc_ok h.2
  have e1 : PyData.canLay0 (.tuple [.str r.1, .str r.2]) = true := by simp [PyData.canLay0, PyData.canLayAll0, h1, h2]
  have e2 : PyData.depth (.tuple [.str r.1, .str r.2]) = 1 := by simp [PyData.depth, PyData.depthAll]
  rw [e1, e2]; rfl
theorem anyP (rs : Rws) (r : Str × Str) : (rs.map fun r => PyData.tuple [.str r.1, .str r.2]).any (fun z => PyData.eqv z (dP r)) = decide (r ∈ rs) := by
  rw [List.any_map]
  have e : ∀ q : Str × Str, PyData.eqv (.tuple [.str q.1, .str q.2]) (dP r) = decide (q = r) := fun q => by
    obtain ⟨a, b⟩ := q
    obtain ⟨c, d⟩ := r
    simp only [dP, PyData.eqv, PyData.eqvAll]
    by_cases h : a = c
    · subst h
      by_cases h2 : b = d
      · subst h2; simp
      · simp [h2]
    · simp [h]
  by_cases h : r ∈ rs
  · rw [decide_eq_true h, List.any_eq_true]
    exact ⟨r, h, by show PyData.eqv _ _ = true; rw [e r]; simp⟩
  · rw [decide_eq_false h, List.any_eq_false]
    intro q hq hh
    have : PyData.eqv (.tuple [.str q.1, .str q.2]) (dP r) = true := hh
    rw [e q, decide_eq_true_eq] at this
    exact h (this ▸ hq)
end Jr
namespace Jr
open PySem PySem.Spec PyProof.Rows L2
/-- what a dict tells of pairs is so -/
def Memo45 (rs : Rws) (d : List (List Key × V)) : Prop := ∀ l r v, valV d [Sum.inr l, Sum.inr r] = some v → v = .bl (fitB rs (l, r))
theorem Memo45.put {rs : Rws} {d : List (List Key × V)} (h : Memo45 rs d) (l r : Str) : Memo45 rs (putK d [Sum.inr l, Sum.inr r] (.bl (fitB rs (l, r)))) := fun l' r' v e => by
  rw [valV_put] at e
  by_cases c : ([Sum.inr l', Sum.inr r'] : List Key) = [Sum.inr l, Sum.inr r]
  · rw [if_pos c] at e
    have e1 := Sum.inr.inj (List.cons.inj c).1
    have e2 := Sum.inr.inj (List.cons.inj (List.cons.inj c).2).1
    rw [← Option.some.inj e, e1, e2]
  · rw [if_neg c] at e
    exact h l' r' v e
section
variable {P : Program} {w : World} {K : PySem.W.Frag} {mg : Str → Option Value} {base : Heap}
def spFits45 (K : PySem.W.Frag) : Sp := fun vs H Q _ => ∃ (p kp : Addr) (z : Str) (rs : Rws) (l r : Str) (S : Hp) (L : List (Addr × HO)) (d : List (List Key × V)), vs = [.ref p, .ref kp, .str l, .str r] ∧ RowsAt S p rs ∧ TabOk z rs ∧ l ∈ pcs z rs ∧ r ∈ pcs z rs ∧ Reg S H ((kp, .dT d) :: L) ∧ Memo45 rs d ∧ d.length ≤ 90000 ∧
  ∀ H' d', Reg S H' ((kp, .dT d') :: L) → Memo45 rs d' → d'.length ≤ d.length + 1 → Q (.bl (fitB rs (l, r))) H'
theorem cal__law_fits45 (T : Tx K mg) : Cal P w K mg base CX0 3 "_law_fits" (spFits45 K) := by
  have C__law_cut := cal__law_cut (P := P) (w := w) (base := base) T
  obtain ⟨fd, F⟩ := T.d__law_fits
  refine ⟨_, fd, P__law_fits, F.ok sc__law_fits (fun vs H Q E h => ?_) (fun cdv A outer s H vs Q E hr h => ?_), T.g__law_fits, F.kp, F.bindsN (ps := P__law_fits) fun _ _ _ _ _ _ us hl => match us, hl with | [_, _, _, _], _ => rfl⟩
  · obtain ⟨p, kp, z, rs, l, r, S, L, d, rfl, _⟩ := h
    rfl
  · obtain ⟨p, kp, z, rs, l, r, S, L, d, rfl, hR, tk, lp, rp, rg, mm, dl, k⟩ := h
    refine ⟨_, (PSs.nox (pss_cons (ps_if (pt_cmp (pc_dnotin (hu_of hr) (pe_tupG (pa_cons (pv 2) (pa_cons (pv 3) pa_nil))) (pv 1))) (pss_one (ps_dput (hu_of hr) (pv 1) (pe_tupG (pa_cons (pv 2) (pa_cons (pv 3) pa_nil))) (pe_cmpR (op_eqD hr.units) (pe_cal C__law_cut (by first | exact hr | exact hr.mono (by decide)) (by rfl) (pa_cons (pv 0) (pa_cons (pe_op op_add_str (pv 2) (pv 3)) pa_nil))) (pe_lstG (pa_cons (pv 2) (pa_cons (pv 3) pa_nil))) (nomark _)) rfl)) pss_nil)
      (pss_one (ps_ret (pe_dget (hu_of hr) (pv 1) (pe_tupG (pa_cons (pv 2) (pa_cons (pv 3) pa_nil))) (fun _ _ => rfl)))))), ?_⟩
    have l1 := tk.plen lp
    have l2 := tk.plen rp
    have le : (l ++ r).length = l.length + r.length := app_len _ _
    have tail : ∀ {H' : Hp} {d' : List (List Key × V)}, Reg S H' ((kp, .dT d') :: L) → Memo45 rs d' → d'.length ≤ d.length + 1 → valV d' [Sum.inr l, Sum.inr r] = some (.bl (fitB rs (l, r))) → ∀ tq H2, H' tq = none → Same H' H2 → H2 tq = some (.tup [.str l, .str r]) → DGet H2 kp (.ref tq) (some (.bl (fitB rs (l, r)))) ∧ Q (.bl (fitB rs (l, r))) H2 := fun {H' d'} rg' mm' dl' ev tq H2 nt s2 ht => by
      have rg2 := rg'.step s2
      refine ⟨ev ▸ DGet.t (k := [Sum.inr l, Sum.inr r]) (rg2.get (i := 0) rfl) ht, k _ _ rg2 mm' dl'⟩
    refine ⟨_, rfl, _, rfl, (by show 2 ≤ sizeLine; decide), fun tq H1 ntq s1 htq => ?_⟩
    have rg1 := rg.step s1
    refine ⟨_, rfl, kp, _, rfl, DGet.t (k := [Sum.inr l, Sum.inr r]) (rg1.get (i := 0) rfl) htq, ?_⟩
    cases ev : valV d [Sum.inr l, Sum.inr r] with
    | some v =>
      have e := mm l r v ev
      subst e
      refine ⟨_, rfl, iteF ?_⟩
      refine ⟨_, rfl, _, rfl, _, rfl, (by show 2 ≤ sizeLine; decide), fun t2 H2 n2 s2 h2 => ?_⟩
      obtain ⟨g1, g2⟩ := tail rg1 mm (by omega) ev t2 H2 n2 s2 h2
      exact ⟨kp, _, rfl, g1, g2⟩
    | none =>
      refine ⟨_, rfl, iteT ?_⟩
      refine ⟨_, rfl, _, rfl, _, rfl, _, _, rfl, rfl, sz (by omega), p, z, rs, l ++ r, rfl, hR.same rg1.same, tk, text_app (pc_text tk lp) (pc_text tk rp), by omega, fun H3 b s3 nb hb => ?_⟩
      refine ⟨_, rfl, _, rfl, (by show 2 ≤ sizeLine; decide), fun b4 H4 nb4 s4 hb4 => ?_⟩
      refine ⟨_, _, dpS (SqL.of (s4 _ _ hb)), dpS (xs := [l, r]) (SqL.of hb4), shS (fun y hy => tk.asc (sweep_pc (text_app (pc_text tk lp) (pc_text tk rp)) hy)), shS (fun y hy => ?_), ?_⟩
      · rcases List.mem_cons.mp hy with h | h
        · rw [h]; exact tk.asc lp
        · rw [List.mem_singleton.mp h]; exact tk.asc rp
      rw [eqS, show decide (sweep rs (l ++ r) = [l, r]) = fitB rs (l, r) from rfl]
      have rg4 := (rg1.step s3).step s4
      refine ⟨_, rfl, _, rfl, _, rfl, (by show 2 ≤ sizeLine; decide), fun t5 H5 nt5 s5 ht5 => ?_⟩
      have rg5 := rg4.step s5
      refine ⟨kp, _, rfl, DPut.t (k := [Sum.inr l, Sum.inr r]) (rg5.get (i := 0) rfl) ht5 (szl (by omega)), ?_⟩
      have rg6 := rg5.set (i := 0) (a := kp) (o' := .dT (putK d [Sum.inr l, Sum.inr r] (.bl (fitB rs (l, r))))) rfl
      revert rg6
      generalize upd H5 kp (.dT (putK d [Sum.inr l, Sum.inr r] (.bl (fitB rs (l, r))))) = H6
      intro rg6
      refine ⟨_, rfl, _, rfl, _, rfl, (by show 2 ≤ sizeLine; decide), fun t2 H7 n2 s7 h2 => ?_⟩
      obtain ⟨g1, g2⟩ := tail rg6 (mm.put l r) (put_len _ _ _) (by rw [valV_put, if_pos rfl]) t2 H7 n2 s7 h2
      exact ⟨kp, _, rfl, g1, g2⟩
end
end Jr
namespace Jr
open PySem PySem.Spec PyProof.Rows L2
/-! ### comprehensions whose test and element may make new things: a filter and a map -/
section
variable {α : Type} {item : α → V} {p : α → Bool} {f : α → V} {g : TG} {tt : TT} {te : TE} {vs : List Nat} {σ : L2.St} {H1 : Hp} {D : Addr} {Qd : Hp → Prop}
/-- one turn of such a comprehension -/
def LcTurnC (item : α → V) (p : α → Bool) (f : α → V) (g : TG) (tt : TT) (te : TE) (vs : List Nat) (σ : L2.St) (H1 : Hp) (x : α) : Prop :=
  ∀ (H' : Hp), Same H1 H' → ∀ (N : Hp → Prop) (M : V → Hp → Prop), (p x = true → ∀ H2, Same H' H2 → M (f x) H2) → (p x = false → ∀ H2, Same H' H2 → N H2) →
    g (item x) (wipe σ vs) H' fun σ2 H2 => wipe σ2 vs = wipe σ vs ∧ tt σ2 H2 fun b H3 => if b = true then te σ2 H3 M else N H3
theorem lc_stepC {l : List α} {i : Nat} {x : α} {H : Hp} (hD : H1 D = none) (hx : l[i]? = some x) (hlen : l.length ≤ 100000) (turn : LcTurnC item p f g tt te vs σ H1 x)
    (sm : Same H1 H) (hL : H D = some (.lst (((l.take i).filter p).map f))) :
    g (item x) (wipe σ vs) H fun σ2 H2 => wipe σ2 vs = wipe σ vs ∧ tt σ2 H2 fun b H3 =>
      if b = true then te σ2 H3 fun y H4 => ∃ acc, H4 D = some (.lst acc) ∧ acc.length < sizeLine ∧ (fun H' => Same H1 H' ∧ H' D = some (.lst (((l.take (i + 1)).filter p).map f))) (upd H4 D (.lst (acc ++ [y])))
      else (fun H' => Same H1 H' ∧ H' D = some (.lst (((l.take (i + 1)).filter p).map f))) H3 := by
  have e : l.take (i + 1) = l.take i ++ [x] := by rw [List.take_add_one, hx]; rfl
  refine turn H sm _ _ (fun hp H2 s2 => ?_) (fun hp H2 s2 => ?_)
  · refine ⟨_, s2 _ _ hL, ?_, Same.mut (sm.trans s2) hD, ?_⟩
    · have h1 : ((l.take i).filter p).length ≤ (l.take i).length := List.length_filter_le ..
      have h2 : (l.take i).length ≤ i := by rw [List.length_take]; omega
      have h3 : i < l.length := (List.getElem?_eq_some_iff.mp hx).1
      rw [List.length_map]
      exact szl (by omega)
    · rw [upd_same, e, List.filter_append, List.map_append]
      simp [hp]
  · refine ⟨sm.trans s2, ?_⟩
    rw [s2 _ _ hL, e, List.filter_append, List.map_append]
    simp [hp]
theorem lc_listC {K : PySem.W.Frag} {a : Addr} {l : List α} (hS : SqL K H1 a (l.map item)) (hD : H1 D = none) (hlen : l.length ≤ 100000) (turn : ∀ x ∈ l, LcTurnC item p f g tt te vs σ H1 x)
    (hd : ∀ H, Same H1 H → H D = some (.lst ((l.filter p).map f)) → Qd H) :
    ∃ W : Nat → Nat → Hp → Prop, (∃ m, W 0 m (upd H1 D (.lst []))) ∧ ∀ i m H, W i m H →
      ((Itl K a).stop i H ∧ Qd H) ∨ ((Itl K a).go i H ∧ ∃ Nx : Hp → Prop, (∀ H', Nx H' → ∃ m', m' < m ∧ W (i + 1) m' H') ∧ ∀ x H', (Itl K a).yld i H x H' → g x (wipe σ vs) H' fun σ2 H2 => wipe σ2 vs = wipe σ vs ∧ tt σ2 H2 fun b H3 =>
        if b = true then te σ2 H3 fun y H4 => ∃ acc, H4 D = some (.lst acc) ∧ acc.length < sizeLine ∧ Nx (upd H4 D (.lst (acc ++ [y]))) else Nx H3) := by
  refine lc_list (K := K) (a := a) (xs := l.map item) (fun i H => Same H1 H ∧ H D = some (.lst (((l.take i).filter p).map f))) ⟨Same.new hD, upd_same⟩ (fun i H _ ⟨s, _⟩ => s.seq hS) ?_ ?_
  · rintro i x H hx ⟨sm, hL⟩
    rw [List.getElem?_map] at hx
    cases e : l[i]? with
    | none => rw [e] at hx; cases hx
    | some y =>
      rw [e] at hx
      cases hx
      exact lc_stepC hD e hlen (turn y (List.mem_of_getElem? e)) sm hL
  · rintro H ⟨sm, hL⟩
    rw [List.length_map, List.take_length] at hL
    exact hd H sm hL
end
end Jr
namespace Jr
open PySem PySem.Spec PyProof.Rows L2
/-! ### a call as the element of a comprehension: its reading by a name, so that it is found -/
def tCal (t : TA) (sp : Sp) : TE := fun σ H Q => t σ H fun vs H1 => sp vs H1 Q E0
theorem pe_calT {X : Cx} {k : Nat} {x : Str} {sp : Sp} {e : Expr} {es : List Expr} {t : TA} {p pos : Pos} (F : Cal X.prog X.w X.K X.mg X.base CX0 k x sp) (hr : Room k X.A) (hg : Gl X x) (ha : PA X (e :: es) t) (hdb : (x == ("__debug__" : Str)) = false := by decide)
    (he : starEach (e :: es) X.env = (false, eval e X.env) :: starEach es X.env := by rfl) (hpl : (backTo pos (starEach es X.env)).any (·.1) = false := by rfl) :
    PE X (.Call (.Name x p) (e :: es) [] pos) (tCal t sp) := pe_cal F hr hg ha hdb he hpl
/-! ### comprehensions without a test whose elements are objects of some kind, each by a rule of its own -/
section
variable {α β : Type} {item : α → V} {R : α → β → Prop} {o : β → HO} {g : TG} {tt : TT} {te : TE} {vs : List Nat} {σ : L2.St} {H1 : Hp} {D : Addr} {Qd : Hp → Prop}
def ObjE (R : α → β → Prop) (o : β → HO) (H : Hp) (a : Addr) (x : α) : Prop := ∃ y, R x y ∧ H a = some (o y)
theorem ObjE.same {H H' : Hp} (s : Same H H') {as : List Addr} {l : List α} (h : Paired (ObjE R o H) as l) : Paired (ObjE R o H') as l := L2.Paired.mapP h fun _ _ ⟨y, h1, h2⟩ => ⟨y, h1, s _ _ h2⟩
def LcTurnE (item : α → V) (R : α → β → Prop) (o : β → HO) (g : TG) (tt : TT) (te : TE) (vs : List Nat) (σ : L2.St) (H1 : Hp) (x : α) : Prop :=
  ∀ (H' : Hp), Same H1 H' → ∀ (N : Hp → Prop) (M : V → Hp → Prop), (∀ y q H2, R x y → Same H' H2 → H2 q = some (o y) → M (.ref q) H2) →
    g (item x) (wipe σ vs) H' fun σ2 H2 => wipe σ2 vs = wipe σ vs ∧ tt σ2 H2 fun b H3 => if b = true then te σ2 H3 M else N H3
theorem lc_stepE {l : List α} {i : Nat} {x : α} {H : Hp} (hk : ∀ y xs, o y ≠ .lst xs) (hD : H1 D = none) (hx : l[i]? = some x) (hlen : l.length ≤ 90000) (turn : LcTurnE item R o g tt te vs σ H1 x)
    (sm : Same H1 H) (hL : ∃ as, H D = some (.lst (as.map V.ref)) ∧ Paired (ObjE R o H) as (l.take i)) :
    g (item x) (wipe σ vs) H fun σ2 H2 => wipe σ2 vs = wipe σ vs ∧ tt σ2 H2 fun b H3 =>
      if b = true then te σ2 H3 fun y H4 => ∃ acc, H4 D = some (.lst acc) ∧ acc.length < sizeLine ∧ (fun H' => Same H1 H' ∧ ∃ as, H' D = some (.lst (as.map V.ref)) ∧ Paired (ObjE R o H') as (l.take (i + 1))) (upd H4 D (.lst (acc ++ [y])))
      else (fun H' => Same H1 H' ∧ ∃ as, H' D = some (.lst (as.map V.ref)) ∧ Paired (ObjE R o H') as (l.take (i + 1))) H3 := by
  have e : l.take (i + 1) = l.take i ++ [x] := by rw [List.take_add_one, hx]; rfl
  obtain ⟨as, hA, hP⟩ := hL
  refine turn H sm _ _ (fun y q H2 hR s2 hq => ?_)
  have hA2 := s2 _ _ hA
  refine ⟨_, hA2, ?_, Same.mut (sm.trans s2) hD, as ++ [q], ?_, ?_⟩
  · have h2 : (l.take i).length ≤ i := by rw [List.length_take]; omega
    have h3 : i < l.length := (List.getElem?_eq_some_iff.mp hx).1
    have h4 := Paired.len hP
    rw [List.length_map]
    exact szl (by omega)
  · rw [upd_same, List.map_append]; rfl
  · rw [e]
    have hP2 : Paired (ObjE R o H2) (as ++ [q]) (l.take i ++ [x]) := Paired.app (ObjE.same s2 hP) (.cons ⟨y, hR, hq⟩ .nil)
    refine L2.Paired.mapP hP2 fun b x' ⟨y', h1, h2⟩ => ⟨y', h1, ?_⟩
    have hne : b ≠ D := fun eb => by
      rw [eb, hA2] at h2
      exact hk y' _ (Option.some.inj h2).symm
    rw [upd_ne hne]; exact h2
theorem lc_listE {K : PySem.W.Frag} {a : Addr} {l : List α} (hk : ∀ y xs, o y ≠ .lst xs) (hS : SqL K H1 a (l.map item)) (hD : H1 D = none) (hlen : l.length ≤ 90000) (turn : ∀ x ∈ l, LcTurnE item R o g tt te vs σ H1 x)
    (hd : ∀ H as, Same H1 H → H D = some (.lst (as.map V.ref)) → Paired (ObjE R o H) as l → Qd H) :
    ∃ W : Nat → Nat → Hp → Prop, (∃ m, W 0 m (upd H1 D (.lst []))) ∧ ∀ i m H, W i m H →
      ((Itl K a).stop i H ∧ Qd H) ∨ ((Itl K a).go i H ∧ ∃ Nx : Hp → Prop, (∀ H', Nx H' → ∃ m', m' < m ∧ W (i + 1) m' H') ∧ ∀ x H', (Itl K a).yld i H x H' → g x (wipe σ vs) H' fun σ2 H2 => wipe σ2 vs = wipe σ vs ∧ tt σ2 H2 fun b H3 =>
        if b = true then te σ2 H3 fun y H4 => ∃ acc, H4 D = some (.lst acc) ∧ acc.length < sizeLine ∧ Nx (upd H4 D (.lst (acc ++ [y]))) else Nx H3) := by
  refine lc_list (K := K) (a := a) (xs := l.map item) (fun i H => Same H1 H ∧ ∃ as, H D = some (.lst (as.map V.ref)) ∧ Paired (ObjE R o H) as (l.take i)) ⟨Same.new hD, [], upd_same, .nil⟩ (fun i H _ ⟨s, _⟩ => s.seq hS) ?_ ?_
  · rintro i x H hx ⟨sm, hL⟩
    rw [List.getElem?_map] at hx
    cases e : l[i]? with
    | none => rw [e] at hx; cases hx
    | some y =>
      rw [e] at hx
      cases hx
      exact lc_stepE hk hD e hlen (turn y (List.mem_of_getElem? e)) sm hL
  · rintro H ⟨sm, as, hA, hP⟩
    rw [List.length_map, List.take_length] at hP
    exact hd H as sm hA hP
theorem lc_rangeE {lo : Int} {n : Nat} {R : Nat → β → Prop} (hk : ∀ y xs, o y ≠ .lst xs) (hD : H1 D = none) (hlen : n ≤ 90000) (turn : ∀ i, i < n → LcTurnE (fun i : Nat => V.int (lo + i)) R o g tt te vs σ H1 i)
    (hd : ∀ H as, Same H1 H → H D = some (.lst (as.map V.ref)) → Paired (ObjE R o H) as (List.range n) → Qd H) :
    ∃ W : Nat → Nat → Hp → Prop, (∃ m, W 0 m (upd H1 D (.lst []))) ∧ ∀ i m H, W i m H →
      ((Itr lo n).stop i H ∧ Qd H) ∨ ((Itr lo n).go i H ∧ ∃ Nx : Hp → Prop, (∀ H', Nx H' → ∃ m', m' < m ∧ W (i + 1) m' H') ∧ ∀ y H', (Itr lo n).yld i H y H' → g y (wipe σ vs) H' fun σ2 H2 => wipe σ2 vs = wipe σ vs ∧ tt σ2 H2 fun b H3 =>
        if b = true then te σ2 H3 fun y H4 => ∃ acc, H4 D = some (.lst acc) ∧ acc.length < sizeLine ∧ Nx (upd H4 D (.lst (acc ++ [y]))) else Nx H3) := by
  refine lc_range (lo := lo) (n := n) (fun i H => Same H1 H ∧ ∃ as, H D = some (.lst (as.map V.ref)) ∧ Paired (ObjE R o H) as ((List.range n).take i)) ⟨Same.new hD, [], upd_same, .nil⟩ ?_ ?_
  · rintro i H hi ⟨sm, hL⟩
    exact lc_stepE (l := List.range n) (item := fun i : Nat => V.int (lo + i)) hk hD (by rw [List.getElem?_range hi]) (by rw [List.length_range]; exact hlen) (turn i hi) sm hL
  · rintro H ⟨sm, as, hA, hP⟩
    have e : (List.range n).take n = List.range n := by
      have := List.take_length (l := List.range n)
      rw [List.length_range] at this
      exact this
    rw [e] at hP
    exact hd H as sm hA hP
end
end Jr
namespace Jr
open PySem PySem.Spec PyProof.Rows L2
/-! ### the last and the first piece of a cutting; beginnings and ends of a text -/
def mkS (cs : List Nat) : Str := ⟨cs.toArray⟩
theorem mkS_cps (cs : List Nat) : (mkS cs).cps.toList = cs := by simp [mkS]
theorem mkS_len (cs : List Nat) : (mkS cs).length = cs.length := by rw [← len_cps, mkS_cps]
theorem mkS_of (t : Str) : mkS t.cps.toList = t := str_ext (mkS_cps _)
theorem mkS_app (a b : List Nat) : mkS (a ++ b) = mkS a ++ mkS b := str_ext (by rw [app_cps, mkS_cps, mkS_cps, mkS_cps])
theorem sweep_mkS (rs : Rws) (cs : List Nat) : sweep rs (mkS cs) = passAll rs (cs.map sgn) := by
  unfold sweep sgs
  rw [mkS_cps]
def preS (t : Str) (n : Nat) : Str := mkS (t.cps.toList.take n)
def sufS (t : Str) (n : Nat) : Str := mkS (t.cps.toList.drop n)
theorem preS_cps (t : Str) (n : Nat) : (preS t n).cps.toList = t.cps.toList.take n := mkS_cps _
theorem sufS_cps (t : Str) (n : Nat) : (sufS t n).cps.toList = t.cps.toList.drop n := mkS_cps _
theorem preS_len (t : Str) {n : Nat} (h : n ≤ t.length) : (preS t n).length = n := by
  rw [← len_cps, preS_cps, List.length_take, len_cps]; omega
theorem sufS_len (t : Str) (n : Nat) : (sufS t n).length = t.length - n := by
  rw [← len_cps, sufS_cps, List.length_drop, len_cps]
theorem preS_all (t : Str) {n : Nat} (h : t.length ≤ n) : preS t n = t := str_ext (by rw [preS_cps, List.take_of_length_le (by rw [len_cps]; exact h)])
theorem sufS_zero (t : Str) : sufS t 0 = t := str_ext (by rw [sufS_cps, List.drop_zero])
theorem pre_suf (t : Str) (n : Nat) : preS t n ++ sufS t n = t := str_ext (by rw [app_cps, preS_cps, sufS_cps, List.take_append_drop])
theorem cutS_pre (t : Str) (n : Nat) : cutS t none (some (n : Int)) = preS t n := str_ext (by rw [cut_to, preS_cps])
theorem cutS_suf (t : Str) (n : Nat) : cutS t (some (n : Int)) none = sufS t n := str_ext (by rw [cut_from, sufS_cps])
theorem text_mk {z t : Str} {cs : List Nat} (h : TextOf z t) (hs : ∀ c ∈ cs, c ∈ t.cps.toList) : TextOf z (mkS cs) := fun c hc => by
  rw [mkS_cps] at hc
  exact h c (hs c hc)
theorem text_pre {z t : Str} (h : TextOf z t) (n : Nat) : TextOf z (preS t n) := text_mk h fun _ hc => List.mem_of_mem_take hc
theorem text_suf {z t : Str} (h : TextOf z t) (n : Nat) : TextOf z (sufS t n) := text_mk h fun _ hc => List.mem_of_mem_drop hc
theorem map_sgn_inj {a b : List Nat} (h : a.map sgn = b.map sgn) : a = b := by
  have e := congrArg flat h
  rwa [flat_map_sgn, flat_map_sgn] at e
theorem sweep_app_ne {rs : Rws} {t : Str} (h : 1 ≤ t.length) : sweep rs t ≠ [] := passAll_ne' rs _ (sgs_ne h)
theorem sweep_zero {rs : Rws} {t : Str} (h : t.length = 0) : sweep rs t = [] := by
  have := passAll_len rs (sgs t)
  rw [sgs_len, h] at this
  exact List.eq_nil_of_length_eq_zero (by unfold sweep; omega)
/-- a text whose cutting is put together of two rows is put together of their texts -/
theorem sweep_split {rs : Rws} {t : Str} {A B : List Str} (h : sweep rs t = A ++ B) : sweep rs (preS t (flat A).length) = A ∧ sweep rs (sufS t (flat A).length) = B := by
  obtain ⟨ca, cb, e1, e2, e3⟩ := way_split h
  have f1 : flat A = ca := by rw [← e2, passAll_flat, flat_map_sgn]
  have p1 : t.cps.toList.take (flat A).length = ca := by rw [e1, f1]; simp
  have p2 : t.cps.toList.drop (flat A).length = cb := by rw [e1, f1]; simp
  constructor
  · unfold preS; rw [p1, sweep_mkS, e2]
  · unfold sufS; rw [p2, sweep_mkS, e3]
theorem flat_one (p : Str) : (flat [p]).length = p.length := by rw [flat_cons, List.length_append, len_cps]; rfl
theorem sweep_len (rs : Rws) (t : Str) : (flat (sweep rs t)).length = t.length := by rw [sweep_flat, len_cps]
theorem flat_len_app (A B : List Str) : (flat (A ++ B)).length = (flat A).length + (flat B).length := by rw [flat_app, List.length_append]
theorem sweep_first {rs : Rws} {t p : Str} {B : List Str} (h : sweep rs t = p :: B) : preS t p.length = p ∧ sweep rs p = [p] ∧ B = sweep rs (sufS t p.length) := by
  have h' : sweep rs t = [p] ++ B := h
  obtain ⟨e1, e2⟩ := sweep_split h'
  rw [flat_one] at e1 e2
  have e3 : flat (sweep rs (preS t p.length)) = flat [p] := by rw [e1]
  rw [sweep_flat] at e3
  have e4 : preS t p.length = p := str_ext (by rw [e3, flat_cons]; simp [flat])
  rw [e4] at e1
  exact ⟨e4, e1, e2.symm⟩
theorem sweep_last {rs : Rws} {t p : Str} {A : List Str} (h : sweep rs t = A ++ [p]) : sufS t (t.length - p.length) = p ∧ sweep rs p = [p] ∧ A = sweep rs (preS t (t.length - p.length)) ∧ p.length ≤ t.length := by
  obtain ⟨e1, e2⟩ := sweep_split h
  have hl := sweep_len rs t
  rw [h, flat_len_app, flat_one] at hl
  have el : (flat A).length = t.length - p.length := by omega
  rw [el] at e1 e2
  have e3 : flat (sweep rs (sufS t (t.length - p.length))) = flat [p] := by rw [e2]
  rw [sweep_flat] at e3
  have e4 : sufS t (t.length - p.length) = p := str_ext (by rw [e3, flat_cons]; simp [flat])
  rw [e4] at e2
  exact ⟨e4, e2, e1.symm, by omega⟩
/-- two texts are cut one behind the other just where their neighbours stand side by side -/
theorem split_near {z : Str} {rs : Rws} (T : TabOk z rs) {a b l r : Str} (ha : (sweep rs a).getLast? = some l) (hb : (sweep rs b).head? = some r) :
    sweep rs (a ++ b) = sweep rs a ++ sweep rs b ↔ sweep rs (l ++ r) = [l, r] := by
  have m := meet_near T ha hb
  have al : sweep rs l = [l] := way_alone (List.mem_of_getLast? ha)
  have ar : sweep rs r = [r] := way_alone (List.mem_of_mem_head? hb)
  rw [← meet_iff T a b, ← m, meet_iff T l r, al, ar]
  exact Iff.rfl
/-- which piece is the last one -/
theorem last_iff {z : Str} {rs : Rws} (T : TabOk z rs) {a p : Str} : (sweep rs (a ++ p)).getLast? = some p ↔ sweep rs p = [p] ∧ (a.length = 0 ∨ ∃ l, (sweep rs a).getLast? = some l ∧ sweep rs (l ++ p) = [l, p]) := by
  constructor
  · intro h
    obtain ⟨A, eA⟩ := List.getLast?_eq_some_iff.mp h
    obtain ⟨e1, e2, e3, e4⟩ := sweep_last eA
    have el : (a ++ p).length - p.length = a.length := by rw [app_len]; omega
    rw [el] at e3
    have ea : preS (a ++ p) a.length = a := str_ext (by rw [preS_cps, app_cps, ← len_cps a]; simp)
    rw [ea] at e3
    refine ⟨e2, ?_⟩
    by_cases c : a.length = 0
    · exact .inl c
    · right
      obtain ⟨l, hl⟩ : ∃ l, (sweep rs a).getLast? = some l := by
        cases h5 : (sweep rs a).getLast? with
        | none => exact absurd (List.getLast?_eq_none_iff.mp h5) (sweep_app_ne (by omega))
        | some x => exact ⟨x, rfl⟩
      refine ⟨l, hl, (split_near T hl (r := p) (by rw [e2]; rfl)).mp ?_⟩
      rw [eA, e3, e2]
  · rintro ⟨e2, h | ⟨l, hl, h⟩⟩
    · have e : a ++ p = p := str_ext (by
        rw [app_cps]
        have : a.cps.toList = [] := List.eq_nil_of_length_eq_zero (by rw [len_cps]; exact h)
        rw [this]; rfl)
      rw [e, e2]; rfl
    · have := (split_near T hl (r := p) (by rw [e2]; rfl)).mpr h
      rw [this, e2]
      exact List.getLast?_concat
theorem first_iff {z : Str} {rs : Rws} (T : TabOk z rs) {p b : Str} : (sweep rs (p ++ b)).head? = some p ↔ sweep rs p = [p] ∧ (b.length = 0 ∨ ∃ r, (sweep rs b).head? = some r ∧ sweep rs (p ++ r) = [p, r]) := by
  constructor
  · intro h
    obtain ⟨B, eB⟩ := List.head?_eq_some_iff.mp h
    obtain ⟨e1, e2, e3⟩ := sweep_first eB
    have eb : sufS (p ++ b) p.length = b := str_ext (by rw [sufS_cps, app_cps, ← len_cps p]; simp)
    rw [eb] at e3
    refine ⟨e2, ?_⟩
    by_cases c : b.length = 0
    · exact .inl c
    · right
      obtain ⟨r, hr⟩ : ∃ r, (sweep rs b).head? = some r := by
        cases h5 : (sweep rs b).head? with
        | none => exact absurd (List.head?_eq_none_iff.mp h5) (sweep_app_ne (by omega))
        | some x => exact ⟨x, rfl⟩
      refine ⟨r, hr, (split_near T (l := p) (by rw [e2]; rfl) hr).mp ?_⟩
      rw [eB, e3, e2]; rfl
  · rintro ⟨e2, h | ⟨r, hr, h⟩⟩
    · have e : p ++ b = p := str_ext (by
        rw [app_cps]
        have : b.cps.toList = [] := List.eq_nil_of_length_eq_zero (by rw [len_cps]; exact h)
        rw [this]; simp)
      rw [e, e2]; rfl
    · have := (split_near T (l := p) (by rw [e2]; rfl) hr).mpr h
      rw [this, e2]; rfl
/-! ### the lasts and the firsts of a text -/
def lastO (rs : Rws) (t : Str) (n : Nat) : Option Str := (sweep rs (preS t n)).getLast?
def firstO (rs : Rws) (t : Str) (n : Nat) : Option Str := (sweep rs (sufS t n)).head?
/-- the first so many lasts -/
def lastsL (rs : Rws) (t : Str) (n : Nat) : List (Option Str) := (List.range n).map (lastO rs t)
theorem lastsL_len (rs : Rws) (t : Str) (n : Nat) : (lastsL rs t n).length = n := by simp [lastsL]
theorem lastsL_get {rs : Rws} {t : Str} {n i : Nat} (h : i < n) : (lastsL rs t n)[i]? = some (lastO rs t i) := by
  unfold lastsL
  rw [List.getElem?_map, List.getElem?_range h]; rfl
theorem lastsL_succ (rs : Rws) (t : Str) (n : Nat) : lastsL rs t (n + 1) = lastsL rs t n ++ [lastO rs t n] := by
  unfold lastsL
  rw [List.range_succ, List.map_append]; rfl
theorem lastO_zero (rs : Rws) (t : Str) : lastO rs t 0 = none := by
  unfold lastO
  rw [sweep_zero (by rw [preS_len t (Nat.zero_le _)])]; rfl
theorem lastsL_one (rs : Rws) (t : Str) : lastsL rs t 1 = [none] := by
  show [lastO rs t 0] = _
  rw [lastO_zero]
theorem lastO_some {rs : Rws} {t : Str} {n : Nat} (h1 : 1 ≤ n) (h2 : n ≤ t.length) : ∃ p, lastO rs t n = some p := by
  unfold lastO
  cases h5 : (sweep rs (preS t n)).getLast? with
  | none => exact absurd (List.getLast?_eq_none_iff.mp h5) (sweep_app_ne (by rw [preS_len t h2]; exact h1))
  | some x => exact ⟨x, rfl⟩
theorem firstO_some {rs : Rws} {t : Str} {n : Nat} (h2 : n < t.length) : ∃ p, firstO rs t n = some p := by
  unfold firstO
  cases h5 : (sweep rs (sufS t n)).head? with
  | none => exact absurd (List.head?_eq_none_iff.mp h5) (sweep_app_ne (by rw [sufS_len]; omega))
  | some x => exact ⟨x, rfl⟩
theorem firstO_end {rs : Rws} {t : Str} {n : Nat} (h : t.length ≤ n) : firstO rs t n = none := by
  unfold firstO
  rw [sweep_zero (by rw [sufS_len]; omega)]; rfl
theorem lastO_in {z : Str} {rs : Rws} {t p : Str} {n : Nat} (tx : TextOf z t) (h : lastO rs t n = some p) : p ∈ pcs z rs ∧ sweep rs p = [p] := by
  have hm := List.mem_of_getLast? h
  exact ⟨sweep_pc (text_pre tx n) hm, way_alone hm⟩
theorem firstO_in {z : Str} {rs : Rws} {t p : Str} {n : Nat} (tx : TextOf z t) (h : firstO rs t n = some p) : p ∈ pcs z rs ∧ sweep rs p = [p] := by
  have hm := List.mem_of_mem_head? h
  exact ⟨sweep_pc (text_suf tx n) hm, way_alone hm⟩
/-- the text between two places -/
def midS (t : Str) (a b : Nat) : Str := mkS ((t.cps.toList.drop a).take (b - a))
theorem midS_len (t : Str) {a b : Nat} (h1 : a ≤ b) (h2 : b ≤ t.length) : (midS t a b).length = b - a := by
  unfold midS
  rw [mkS_len, List.length_take, List.length_drop, len_cps]; omega
theorem pre_mid (t : Str) {a b : Nat} (h : a ≤ b) : preS t b = preS t a ++ midS t a b := str_ext (by
  rw [app_cps, preS_cps, preS_cps]
  unfold midS
  rw [mkS_cps]
  have e : b = a + (b - a) := by omega
  conv => lhs; rw [e]
  rw [List.take_add])
theorem mid_suf (t : Str) {a b : Nat} (h : a ≤ b) : sufS t a = midS t a b ++ sufS t b := str_ext (by
  rw [app_cps, sufS_cps, sufS_cps]
  unfold midS
  rw [mkS_cps]
  have e : b = a + (b - a) := by omega
  conv => rhs; rw [e]
  rw [Nat.add_sub_cancel_left, ← List.drop_drop, List.take_append_drop])
theorem cutS_mid (t : Str) (a b : Nat) : cutS t (some (a : Int)) (some (b : Int)) = midS t a b := str_ext (by
  unfold midS
  rw [mkS_cps]
  show ((t.cps.toList.drop (HT.sIx t.length 0 (some (a : Int)))).take (HT.sIx t.length t.length (some (b : Int)) - HT.sIx t.length 0 (some (a : Int)))).toArray.toList = _
  rw [HT.sIx_nat, HT.sIx_nat, List.toList_toArray]
  have e : t.cps.toList.length = t.length := len_cps t
  by_cases h : a ≤ t.length
  · rw [Nat.min_eq_left h]
    by_cases h2 : b ≤ t.length
    · rw [Nat.min_eq_left h2]
    · rw [Nat.min_eq_right (by omega), List.take_of_length_le (by rw [List.length_drop]; omega), List.take_of_length_le (by rw [List.length_drop]; omega)]
  · rw [Nat.min_eq_right (show t.length ≤ a by omega), List.drop_of_length_le (by omega), List.drop_of_length_le (by omega)]
    simp)
/-- the piece of so many signs that ends at n is the last one there -/
theorem lastO_iff {z : Str} {rs : Rws} (T : TabOk z rs) {t : Str} {n s : Nat} (h1 : 1 ≤ s) (h2 : s ≤ n) (h3 : n ≤ t.length) :
    lastO rs t n = some (midS t (n - s) n) ↔ sweep rs (midS t (n - s) n) = [midS t (n - s) n] ∧ (n - s = 0 ∨ ∃ l, lastO rs t (n - s) = some l ∧ sweep rs (l ++ midS t (n - s) n) = [l, midS t (n - s) n]) := by
  unfold lastO
  rw [pre_mid t (show n - s ≤ n by omega), last_iff T, preS_len t (by omega)]
theorem firstO_iff {z : Str} {rs : Rws} (T : TabOk z rs) {t : Str} {n s : Nat} (h1 : 1 ≤ s) (h3 : n + s ≤ t.length) :
    firstO rs t n = some (midS t n (n + s)) ↔ sweep rs (midS t n (n + s)) = [midS t n (n + s)] ∧ (n + s = t.length ∨ ∃ l, firstO rs t (n + s) = some l ∧ sweep rs (midS t n (n + s) ++ l) = [midS t n (n + s), l]) := by
  unfold firstO
  rw [mid_suf t (show n ≤ n + s by omega), first_iff T, sufS_len]
  constructor
  · rintro ⟨a, b | b⟩
    · exact ⟨a, .inl (by omega)⟩
    · exact ⟨a, .inr b⟩
  · rintro ⟨a, b | b⟩
    · exact ⟨a, .inl (by omega)⟩
    · exact ⟨a, .inr b⟩
theorem lastO_mid {rs : Rws} {t p : Str} {n : Nat} (h : n ≤ t.length) (e : lastO rs t n = some p) : p = midS t (n - p.length) n ∧ p.length ≤ n := by
  obtain ⟨A, eA⟩ := List.getLast?_eq_some_iff.mp e
  obtain ⟨e1, _, _, e4⟩ := sweep_last eA
  rw [preS_len t h] at e1 e4
  refine ⟨?_, e4⟩
  rw [← e1]
  have e5 : (sufS (preS t n) (n - p.length)).length = p.length := by rw [e1]
  refine str_ext ?_
  unfold midS
  rw [mkS_cps, sufS_cps, preS_cps, e5, List.drop_take]
theorem firstO_mid {rs : Rws} {t p : Str} {n : Nat} (h : n ≤ t.length) (e : firstO rs t n = some p) : p = midS t n (n + p.length) ∧ n + p.length ≤ t.length := by
  obtain ⟨B, eB⟩ := List.head?_eq_some_iff.mp e
  obtain ⟨e1, _, _⟩ := sweep_first eB
  have l := sweep_len rs (sufS t n)
  rw [eB, flat_clen, sufS_len] at l
  refine ⟨?_, by omega⟩
  have e5 : (preS (sufS t n) p.length).length = p.length := by rw [e1]
  rw [← e1]
  refine str_ext ?_
  unfold midS
  rw [mkS_cps, preS_cps, sufS_cps, e5, Nat.add_sub_cancel_left]
/-- the sizes that fit: just the last piece's -/
theorem fit_head {P : Nat → Bool} {n m : Nat} (hm : m < n) (h : ∀ i, i < n → (P i = true ↔ i = m)) : (List.range n).filter P = [m] := by
  have e : (List.range n).filter P = (List.range n).filter (fun i => i == m) := List.filter_congr fun i hi => by
    have := h i (List.mem_range.mp hi)
    cases hp : P i with
    | true => simp [this.mp hp]
    | false =>
      have : i ≠ m := fun e => by rw [this.mpr e] at hp; cases hp
      simp [this]
  rw [e]
  have key : ∀ n, m < n → (List.range n).filter (fun i => i == m) = [m] := fun n => by
    induction n with
    | zero => intro h; omega
    | succ n ih =>
      intro h
      rw [List.range_succ, List.filter_append]
      by_cases c : m < n
      · rw [ih c]
        have : ¬ n = m := by omega
        simp [this]
      · have e2 : m = n := by omega
        subst e2
        have e3 : (List.range m).filter (fun i => i == m) = [] := by
          rw [List.filter_eq_nil_iff]
          intro x hx
          have := List.mem_range.mp hx
          simp; omega
        rw [e3]; simp
  exact key n hm
/-! ### read from the left and from the end -/
theorem read_step {rs : Rws} {t p : Str} {n : Nat} (h : n ≤ t.length) (e : firstO rs t n = some p) : sweep rs (sufS t n) = p :: sweep rs (sufS t (n + p.length)) := by
  obtain ⟨B, eB⟩ := List.head?_eq_some_iff.mp e
  obtain ⟨_, _, e3⟩ := sweep_first eB
  rw [eB, e3]
  congr 2
  refine str_ext ?_
  rw [sufS_cps, sufS_cps, sufS_cps, List.drop_drop]
theorem back_step {rs : Rws} {t p : Str} {n : Nat} (h : n ≤ t.length) (e : lastO rs t n = some p) : sweep rs (preS t n) = sweep rs (preS t (n - p.length)) ++ [p] := by
  obtain ⟨A, eA⟩ := List.getLast?_eq_some_iff.mp e
  obtain ⟨_, _, e3, e4⟩ := sweep_last eA
  rw [eA, e3, preS_len t h]
  congr 2
  refine str_ext ?_
  rw [preS_cps, preS_cps, preS_cps, List.take_take]
  congr 1
  omega
end Jr
namespace Jr
open PySem PySem.Spec PyProof.Rows L2
/-! ### texts of texts -/
theorem join_text {z : Str} {ps : List Str} (h : ∀ p ∈ ps, TextOf z p) : TextOf z (Txt.join (Str.ofString "") ps) := fun c hc => by
  rw [join_cps] at hc
  obtain ⟨y, hy, hxy⟩ := List.mem_flatMap.mp hc
  exact h y hy c hxy
theorem sum_le : ∀ (ps : List Str) (n : Nat), (∀ p ∈ ps, p.length ≤ n) → (ps.map (·.length)).sum ≤ ps.length * n
  | [], n, _ => by simp
  | p :: ps, n, h => by
    have h1 := h p List.mem_cons_self
    have h2 := sum_le ps n fun q hq => h q (List.mem_cons_of_mem _ hq)
    rw [List.map_cons, List.sum_cons, List.length_cons, Nat.succ_mul]
    omega
theorem join_len {ps : List Str} : (Txt.join (Str.ofString "") ps).length = (ps.map (·.length)).sum := by
  rw [← len_cps, join_cps, flat_len]
end Jr
namespace Jr
open PySem PySem.Spec PyProof.Rows L2
/-! ### a comprehension over zip(xs, ys) -/
section
variable {g : TG} {tt : TT} {te : TE} {vs : List Nat} {σ : L2.St} {H1 : Hp} {D : Addr} {Qd : Hp → Prop}
theorem lc_zip {K : PySem.W.Frag} {a b : Addr} {xs ys : List V} (Pv : Nat → Hp → Prop) (h0 : Pv 0 (upd H1 D (.lst []))) (hq : ∀ i H, Pv i H → SqL K H a xs ∧ SqL K H b ys)
    (hs : ∀ (i : Nat) (x y : V) (T : Addr) (H : Hp), xs[i]? = some x → ys[i]? = some y → Pv i H → H T = none → g (.ref T) (wipe σ vs) (upd H T (.tup [x, y])) fun σ2 H2 => wipe σ2 vs = wipe σ vs ∧ tt σ2 H2 fun b H3 =>
      if b = true then te σ2 H3 fun y H4 => ∃ acc, H4 D = some (.lst acc) ∧ acc.length < sizeLine ∧ Pv (i + 1) (upd H4 D (.lst (acc ++ [y]))) else Pv (i + 1) H3)
    (hd : ∀ i H, (i = xs.length ∨ i = ys.length) → i ≤ xs.length → i ≤ ys.length → Pv i H → Qd H) :
    ∃ W : Nat → Nat → Hp → Prop, (∃ m, W 0 m (upd H1 D (.lst []))) ∧ ∀ i m H, W i m H →
      ((Itz K a b).stop i H ∧ Qd H) ∨ ((Itz K a b).go i H ∧ ∃ Nx : Hp → Prop, (∀ H', Nx H' → ∃ m', m' < m ∧ W (i + 1) m' H') ∧ ∀ y H', (Itz K a b).yld i H y H' → g y (wipe σ vs) H' fun σ2 H2 => wipe σ2 vs = wipe σ vs ∧ tt σ2 H2 fun b H3 =>
        if b = true then te σ2 H3 fun y H4 => ∃ acc, H4 D = some (.lst acc) ∧ acc.length < sizeLine ∧ Nx (upd H4 D (.lst (acc ++ [y]))) else Nx H3) := by
  refine ⟨fun i m H => m = xs.length - i ∧ i ≤ xs.length ∧ i ≤ ys.length ∧ Pv i H, ⟨xs.length, by simp, Nat.zero_le _, Nat.zero_le _, h0⟩, ?_⟩
  rintro i m H ⟨rfl, hi, hi2, p⟩
  obtain ⟨qx, qy⟩ := hq i H p
  by_cases hlt : i < xs.length ∧ i < ys.length
  · have hx : xs[i]? = some xs[i] := List.getElem?_eq_getElem hlt.1
    have hy : ys[i]? = some ys[i] := List.getElem?_eq_getElem hlt.2
    refine .inr ⟨⟨xs, ys, xs[i], ys[i], qx, qy, hx, hy⟩, Pv (i + 1), fun H' p' => ⟨xs.length - (i + 1), by omega, rfl, hlt.1, hlt.2, p'⟩, fun v H' z => ?_⟩
    obtain ⟨T, x, y, rfl, hT, rfl, h1, h2⟩ := z
    exact hs i x y T H (h1 xs qx) (h2 ys qy) p hT
  · refine .inl ⟨⟨xs, ys, qx, qy, ?_⟩, hd i H ?_ hi hi2 p⟩
    · omega
    · omega
end
theorem Reg.part {S H : Hp} {L L' : List (Addr × HO)} (r : Reg S H L) (h : L'.Sublist L) : Reg S H L' :=
  ⟨r.same, fun q hq => r.off q (h.subset hq), r.nd.sublist (h.map _), fun q hq => r.at_ q (h.subset hq)⟩
theorem sweep_whole {rs : Rws} {t x : Str} {A B : List Str} (h : sweep rs t = A ++ x :: B) : sweep rs x = [x] := by
  have h1 := (sweep_split h).2
  exact (sweep_first h1).2.1
theorem sweep_near {rs : Rws} {t x y : Str} {A B : List Str} (h : sweep rs t = A ++ x :: y :: B) : sweep rs (x ++ y) = [x, y] := by
  have h1 := (sweep_split h).2
  have h2 := (sweep_split (A := [x, y]) (B := B) h1).1
  rw [← h2]
  refine congrArg (sweep rs) (str_ext ?_)
  have f1 : (sufS t (flat A).length).cps.toList = flat (x :: y :: B) := by rw [← sweep_flat rs, h1]
  rw [preS_cps, f1, flat_cons, flat_cons, app_cps, flat_cons, flat_cons, show flat ([] : List Str) = [] from rfl, List.append_nil, ← List.append_assoc, List.take_left']
  rfl
theorem all_true (n : Nat) : (List.replicate n true).all id = true := by simp
section
variable {P : Program} {w : World} {K : PySem.W.Frag} {mg : Str → Option Value} {base : Heap}
def spIsCut45 (K : PySem.W.Frag) : Sp := fun vs H Q _ => ∃ (p kp ro : Addr) (z : Str) (rs : Rws) (t : Str) (S : Hp) (L : List (Addr × HO)) (d : List (List Key × V)), vs = [.ref p, .ref kp, .ref ro, .str t] ∧ RowsAt S p rs ∧ TabOk z rs ∧ TextOf z t ∧ t.length ≤ 1000 ∧ Reg S H ((kp, .dT d) :: L) ∧ S ro = some (.lst ((sweep rs t).map V.str)) ∧ Memo45 rs d ∧ d.length ≤ 80000 ∧
  ∀ H' d', Reg S H' ((kp, .dT d') :: L) → Memo45 rs d' → d'.length ≤ d.length + t.length → Q (.bl true) H'
theorem cal__law_is_cutting45 (T : Tx K mg) : Cal P w K mg base CX0 4 "_law_is_cutting" (spIsCut45 K) := by
  have C__law_cut := cal__law_cut (P := P) (w := w) (base := base) T
  have C__law_fits := cal__law_fits45 (P := P) (w := w) (base := base) T
  obtain ⟨fd, F⟩ := T.d__law_is_cutting
  refine ⟨_, fd, P__law_is_cutting, F.ok sc__law_is_cutting (fun vs H Q E h => ?_) (fun cdv A outer s H vs Q E hr h => ?_), T.g__law_is_cutting, F.kp, F.bindsN (ps := P__law_is_cutting) fun _ _ _ _ _ _ us hl => match us, hl with | [_, _, _, _], _ => rfl⟩
  · obtain ⟨p, kp, ro, z, rs, t, S, L, d, rfl, _⟩ := h
    rfl
  · obtain ⟨p, kp, ro, z, rs, t, S, L, d, rfl, hR, tk, tx, tl, rg, hro, mm, dl, k⟩ := h
    refine ⟨_, (PSs.nox (pss_cons (ps_if (PW.pt (pw_or (pt_not (pt_val (pe_callB (id := "isinstance") call_isi (by rfl) T.n_isinstance (by decide +kernel) (pa_cons (pv 2) (pa_cons (pe_bltn (v := .ty "list") (by rfl) T.n_list (by decide +kernel) rfl) pa_nil))))) (pw_or1 (pt_not (pt_val (pe_callB (id := "all") (cr_all rfl) (by rfl) T.n_all (by decide +kernel) (pa_cons (pe_lc (own := [("_law_piece", 4)]) (g := gName 4) (by rfl) sc__law_is_cutting.nd (pi_list (pv 2)) (blkOk_by (own := [("_law_piece", 4)]) (N := N__law_is_cutting) (sc := defScope s__law_is_cutting) (by decide +kernel)) (fun _ _ _ _ _ => (pg_name (i := 4) sc__law_is_cutting.nd rfl (Or.inl rfl))) (fun _ _ _ _ _ => pts_nil) (fun _ _ _ _ _ => (pe_callB (id := "isinstance") (call_isiK' (K := K)) (by rfl) T.n_isinstance (by decide +kernel) (pa_cons (pv 4) (pa_cons (pe_bltn (v := .ty "str") (by rfl) T.n_str (by decide +kernel) rfl) pa_nil))))) pa_nil))))))) (pss_one (ps_ret pe_bl)) pss_nil)
      (pss_cons (ps_if (PW.pt (pw_or (pt_cmpR op_ne (pe_join pe_str (pv 2)) (pv 3) (nomark _)) (pw_or1 (pt_not (pt_val (pe_callB (id := "all") (cr_all rfl) (by rfl) T.n_all (by decide +kernel) (pa_cons (pe_lc (own := [("_law_piece", 4)]) (g := gName 4) (by rfl) sc__law_is_cutting.nd (pi_list (pv 2)) (blkOk_by (own := [("_law_piece", 4)]) (N := N__law_is_cutting) (sc := defScope s__law_is_cutting) (by decide +kernel)) (fun _ _ _ _ _ => (pg_name (i := 4) sc__law_is_cutting.nd rfl (Or.inl rfl))) (fun _ _ _ _ _ => pts_nil) (fun _ _ _ _ _ => (pe_cmpR (op_eqDK (K := K) hr.units) (pe_cal C__law_cut (by first | exact hr | exact hr.mono (by decide)) (by rfl) (pa_cons (pv 0) (pa_cons (pv 4) pa_nil))) (pe_lstG (pa_cons (pv 4) pa_nil)) (nomark _)))) pa_nil))))))) (pss_one (ps_ret pe_bl)) pss_nil)
      (pss_one (ps_ret (pe_callB (id := "all") (cr_all rfl) (by rfl) T.n_all (by decide +kernel) (pa_cons (pe_lc (own := [("_law_left", 5), ("_law_right", 6)]) (g := gTup K 2 (gCons (gName 5) (gCons (gName 6) gNil))) (by rfl) sc__law_is_cutting.nd (pi_zip (by rfl) T.n_zip (pa_cons (pv 2) (pa_cons (pe_slice sl_listG (pv 2) (po_some pe_int) po_none) pa_nil))) (blkOk_by (own := [("_law_left", 5), ("_law_right", 6)]) (N := N__law_is_cutting) (sc := defScope s__law_is_cutting) (by decide +kernel)) (fun _ _ _ _ _ => (pg_tup rfl (pgs_cons (pg_name (i := 5) sc__law_is_cutting.nd rfl (Or.inl rfl)) (pgs_cons (pg_name (i := 6) sc__law_is_cutting.nd rfl (Or.inl rfl)) pgs_nil)))) (fun _ _ _ _ _ => pts_nil) (fun _ _ _ _ _ => (pe_calT C__law_fits (by first | exact hr | exact hr.mono (by decide)) (by rfl) (pa_cons (pv 0) (pa_cons (pv 1) (pa_cons (pv 5) (pa_cons (pv 6) pa_nil))))))) pa_nil))))))), ?_⟩
    have rt := sweep_len rs t
    have lent : (sweep rs t).length ≤ t.length := by
      have := passAll_len rs (sgs t)
      rw [sgs_len] at this
      exact this
    have hin : ∀ y ∈ sweep rs t, y ∈ pcs z rs := fun y hy => sweep_pc tx hy
    obtain ⟨ys, eys⟩ : ∃ ys, ys = sweep rs t := ⟨_, rfl⟩
    have ejo : Txt.join (Str.ofString "") ys = t := by rw [eys]; exact join_sweep rs t
    have hw : ∀ y ∈ ys, sweep rs y = [y] := fun y hy => by
      obtain ⟨A, B, e⟩ := List.append_of_mem hy
      rw [eys] at e
      exact sweep_whole e
    have hnear : ∀ i l r, ys[i]? = some l → ys[i + 1]? = some r → fitB rs (l, r) = true := fun i l r hl hr => by
      have i1 := (List.getElem?_eq_some_iff.mp hl).1
      have i2 := (List.getElem?_eq_some_iff.mp hr).1
      have e : ys = ys.take i ++ l :: r :: ys.drop (i + 2) := by
        conv => lhs; rw [← List.take_append_drop i ys]
        rw [List.drop_eq_getElem_cons i1, List.drop_eq_getElem_cons i2]
        rw [List.getElem?_eq_getElem i1] at hl
        rw [List.getElem?_eq_getElem i2] at hr
        rw [Option.some.inj hl, Option.some.inj hr]
      rw [eys] at e
      exact decide_eq_true (sweep_near e)
    rw [← eys] at hro hin lent rt
    have hroH := rg.same _ _ hro
    refine ⟨_, rfl, _, _, _, _, _, rfl, .ty "list", .base (.lst hroH), isLst, _, rfl, iteF ?_⟩
    refine ⟨_, rfl, ro, rfl, ⟨_, SqL.of hroH⟩, fun D hD => lc_listM (K := K) (item := V.str) (p := fun _ => true) (f := fun _ => V.bl true) (l := ys) (SqL.of hroH) hD (by omega) (fun x hx H2 s2 N M hM _ => ?_) (fun H2 s2 hL => ?_)⟩
    · exact ⟨rfl, _, rfl, _, _, _, _, _, rfl, .ty "str", .base (.str x), isStr, hM rfl⟩
    have ef : ys.filter (fun _ => true) = ys := List.filter_eq_self.mpr fun _ _ => rfl
    rw [ef] at hL
    refine ⟨D, List.replicate ys.length true, rfl, SqL.of (by rw [hL, map_rep, List.map_const']), _, rfl, ?_⟩
    rw [all_true]
    refine iteF ?_
    have rg2 := rg.step s2
    have hro2 := s2 _ _ hroH
    have el0 : (Str.ofString "").length = 0 := by decide +kernel
    have sl := sum_le ys 16 fun p hp => (tk.plen (hin p hp)).2
    refine ⟨⟨_, rfl⟩, _, rfl, _, ro, ys, rfl, rfl, .inl (SqL.of hro2), (by rw [el0]; omega), ?_⟩
    rw [ejo]
    refine ⟨_, rfl, rfl, _, rfl, ?_⟩
    rw [decide_eq_true (rfl : V.str t = V.str t)]
    refine iteF ?_
    refine ⟨_, rfl, ro, rfl, ⟨_, SqL.of hro2⟩, fun D2 hD2 => lc_listC (K := K) (item := V.str) (p := fun _ => true) (f := fun _ => V.bl true) (l := ys) (SqL.of hro2) hD2 (by omega) (fun y hy H3 s3 N M hM hN => ?_) (fun H3 s3 hL3 => ?_)⟩
    · have yp := hin y hy
      refine ⟨rfl, _, rfl, _, rfl, p, z, rs, y, rfl, hR.same (rg2.same.trans s3), tk, pc_text tk yp, by have := tk.plen yp; omega, fun H4 b s4 nb hb => ⟨_, rfl, (by show 1 ≤ sizeLine; decide), fun b5 H5 n5 s5 hb5 => ?_⟩⟩
      rw [hw y hy] at hb
      refine ⟨_, _, dpS (xs := [y]) (SqL.of (s5 _ _ hb)), dpS (xs := [y]) (SqL.of hb5), shS (fun v hv => by rw [List.mem_singleton.mp hv]; exact tk.asc yp), shS (fun v hv => by rw [List.mem_singleton.mp hv]; exact tk.asc yp), ?_⟩
      rw [eqS, decide_eq_true rfl]
      exact hM rfl _ (s4.trans s5)
    rw [ef] at hL3
    refine ⟨D2, List.replicate ys.length true, rfl, SqL.of (by rw [hL3, map_rep, List.map_const']), _, rfl, ?_⟩
    rw [all_true]
    refine iteF ?_
    have rg3 := rg2.step s3
    have hro3 := s3 _ _ hro2
    refine ⟨_, rfl, _, rfl, _, rfl, ro, _, rfl, SqL.of hro3, fun c1 H4 nc1 s4 hc1 => ?_⟩
    rw [show (some (1 : Int)) = some ((1 : Nat) : Int) from rfl, cutV_from, ← List.map_drop] at hc1
    have rg4 := rg3.new nc1 s4 hc1
    have hro4 := s4 _ _ hro3
    refine ⟨ro, c1, _, _, rfl, SqL.of hro4, SqL.of hc1, fun D3 hD3 => lc_zip (K := K) (a := ro) (b := c1) (xs := ys.map V.str) (ys := (ys.drop 1).map V.str)
      (fun i H' => ∃ d', Reg S H' ((D3, .lst (List.replicate i (.bl true))) :: (kp, .dT d') :: (L ++ [(c1, .lst ((ys.drop 1).map V.str))])) ∧ Memo45 rs d' ∧ d'.length ≤ d.length + i) ?_ ?_ ?_ ?_⟩
    · have r5 := rg4.new hD3 (Same.new hD3) (upd_same (o := HO.lst []))
      exact ⟨d, r5.perm (List.perm_append_comm (l₂ := [(D3, HO.lst [])])), mm, by omega⟩
    · rintro i H' ⟨d', r, _⟩
      refine ⟨SqL.of (r.same _ _ hro), SqL.of (r.at_ (c1, _) (by simp))⟩
    · rintro i x y Tt H' hx hy ⟨d', r, mm', dl'⟩ hTt
      rw [List.getElem?_map] at hx hy
      rw [List.getElem?_drop] at hy
      cases el : ys[i]? with
      | none => rw [el] at hx; cases hx
      | some l =>
      rw [el] at hx
      cases hx
      cases er : ys[1 + i]? with
      | none => rw [er] at hy; cases hy
      | some rr =>
      rw [er] at hy
      cases hy
      have fit := hnear i l rr el (by rw [Nat.add_comm]; exact er)
      have il := (List.getElem?_eq_some_iff.mp el).1
      have r1 := (r.step (Same.new (o := .tup [.str l, .str rr]) hTt)).perm (List.Perm.swap _ _ _)
      refine ⟨Tt, _, rfl, SqT.of upd_same, rfl, _, _, rfl, _, _, rfl, rfl, rfl, _, rfl, _, rfl, _, rfl, _, rfl, p, kp, z, rs, l, rr, S, _, d', rfl, hR, tk, hin _ (List.mem_of_getElem? el), hin _ (List.mem_of_getElem? er), r1, mm', by omega, fun H5 d5 r5 mm5 dl5 => ?_⟩
      have r6 := (r5.perm (List.Perm.swap _ _ _)).set (i := 0) (a := D3) (o' := .lst (List.replicate i (.bl true) ++ [.bl true])) rfl
      rw [fit]
      refine ⟨_, r5.get (i := 1) rfl, (by rw [List.length_replicate]; exact szl (by omega)), d5, ?_, mm5, by omega⟩
      rw [List.replicate_succ']
      exact r6
    · rintro i H' he h1 h2 ⟨d', r, mm', dl'⟩
      rw [List.length_map, List.length_drop] at h2
      refine ⟨D3, List.replicate i true, rfl, SqL.of (by rw [map_rep]; exact r.get (i := 0) rfl), ?_⟩
      rw [all_true]
      exact k _ d' (r.part (by
        refine List.Sublist.cons _ (List.Sublist.cons₂ _ ?_)
        exact List.sublist_append_left _ _)) mm' (by omega)
end
end Jr
namespace Jr
open PySem PySem.Spec PyProof.Rows L2
/-! ### patches between two rows -/
/-- how many pieces ahead two rows have alike, within so many signs -/
def sameN : List Str → List Str → Int → Nat
  | a :: xs, b :: ys, m => if a = b ∧ (a.length : Int) ≤ m then sameN xs ys (m - a.length) + 1 else 0
  | _, _, _ => 0
theorem sameN_nil1 (ys : List Str) (m : Int) : sameN [] ys m = 0 := by cases ys <;> rfl
theorem sameN_nil2 (xs : List Str) (m : Int) : sameN xs [] m = 0 := by cases xs <;> rfl
theorem sameN_yes {a : Str} {xs ys : List Str} {m : Int} (h : (a.length : Int) ≤ m) : sameN (a :: xs) (a :: ys) m = sameN xs ys (m - a.length) + 1 := by
  rw [sameN, if_pos ⟨rfl, h⟩]
theorem sameN_no {a b : Str} {xs ys : List Str} {m : Int} (h : ¬ (a = b ∧ (a.length : Int) ≤ m)) : sameN (a :: xs) (b :: ys) m = 0 := by
  rw [sameN, if_neg h]
theorem sameN_le : ∀ (xs ys : List Str) (m : Int), sameN xs ys m ≤ xs.length ∧ sameN xs ys m ≤ ys.length
  | [], ys, m => by rw [sameN_nil1]; exact ⟨Nat.zero_le _, Nat.zero_le _⟩
  | a :: xs, [], m => by rw [sameN_nil2]; exact ⟨Nat.zero_le _, Nat.zero_le _⟩
  | a :: xs, b :: ys, m => by
    by_cases c : a = b ∧ (a.length : Int) ≤ m
    · obtain ⟨rfl, h⟩ := c
      rw [sameN_yes h]
      have := sameN_le xs ys (m - a.length)
      simp only [List.length_cons]
      omega
    · rw [sameN_no c]; exact ⟨Nat.zero_le _, Nat.zero_le _⟩
theorem sameN_take : ∀ (xs ys : List Str) (m : Int), xs.take (sameN xs ys m) = ys.take (sameN xs ys m)
  | [], ys, m => by rw [sameN_nil1]; rfl
  | a :: xs, [], m => by rw [sameN_nil2]; rfl
  | a :: xs, b :: ys, m => by
    by_cases c : a = b ∧ (a.length : Int) ≤ m
    · obtain ⟨rfl, h⟩ := c
      rw [sameN_yes h, List.take_succ_cons, List.take_succ_cons, sameN_take xs ys]
    · rw [sameN_no c]; rfl
/-- by steps: at i pieces alike, so many signs are left -/
theorem sameN_step (xs ys : List Str) (m : Int) (i : Nat) (h1 : xs.take i = ys.take i) (hi : i ≤ xs.length) (hi2 : i ≤ ys.length) (hf : i = 0 ∨ ((flat (xs.take i)).length : Int) ≤ m) :
    sameN xs ys m = i + sameN (xs.drop i) (ys.drop i) (m - (flat (xs.take i)).length) := by
  induction i generalizing xs ys m with
  | zero =>
    have : (flat (xs.take 0)).length = 0 := rfl
    rw [this, List.drop_zero, List.drop_zero]
    simp
  | succ i ih =>
    cases xs with
    | nil => simp at hi
    | cons a xs =>
      cases ys with
      | nil => simp at hi2
      | cons b ys =>
        rw [List.take_succ_cons, List.take_succ_cons] at h1
        obtain ⟨rfl, h2⟩ := List.cons.inj h1
        rw [List.take_succ_cons, flat_cons, List.length_append, len_cps] at hf
        have hm : (a.length : Int) ≤ m := by
          rcases hf with h | h
          · omega
          · omega
        simp only [List.length_cons] at hi hi2
        rw [sameN_yes hm, ih xs ys (m - a.length) h2 (by omega) (by omega) (by rcases hf with h | h; omega; right; omega)]
        rw [List.take_succ_cons, flat_cons, List.length_append, len_cps, List.drop_succ_cons, List.drop_succ_cons]
        have : m - (a.length : Int) - ((flat (xs.take i)).length : Int) = m - ((a.length + (flat (xs.take i)).length : Nat) : Int) := by omega
        rw [this]
        omega
theorem sameN_stop (xs ys : List Str) (m : Int) (i : Nat) (h1 : xs.take i = ys.take i) (hi : i ≤ xs.length) (hi2 : i ≤ ys.length) (hf : i = 0 ∨ ((flat (xs.take i)).length : Int) ≤ m)
    (hs : i = xs.length ∨ i = ys.length ∨ ∃ a b, xs[i]? = some a ∧ ys[i]? = some b ∧ ¬ (a = b ∧ ((flat (xs.take i)).length : Int) + a.length ≤ m)) : sameN xs ys m = i := by
  rw [sameN_step xs ys m i h1 hi hi2 hf]
  rcases hs with e | e | ⟨a, b, ha, hb, hn⟩
  · rw [List.drop_of_length_le (by omega), sameN_nil1]; rfl
  · rw [List.drop_of_length_le (l := ys) (by omega), sameN_nil2]; rfl
  · have la := (List.getElem?_eq_some_iff.mp ha).1
    have lb := (List.getElem?_eq_some_iff.mp hb).1
    rw [List.getElem?_eq_getElem la] at ha
    rw [List.getElem?_eq_getElem lb] at hb
    rw [List.drop_eq_getElem_cons la, List.drop_eq_getElem_cons lb, Option.some.inj ha, Option.some.inj hb, sameN_no]
    · rfl
    · rintro ⟨e1, e2⟩
      exact hn ⟨e1, by omega⟩
structure Patch where
  first : Nat
  out : List Str
  into : List Str
def patchF (old new : List Str) (place behind : Int) : Patch :=
  let f := sameN old new place
  let l := sameN (old.drop f).reverse (new.drop f).reverse behind
  ⟨f, (old.drop f).take ((old.drop f).length - l), (new.drop f).take ((new.drop f).length - l)⟩
/-- a patch told -/
def PatchAt (H : Hp) (t : Addr) (p : Patch) : Prop := ∃ a b : Addr, H t = some (.tup [.int ((p.first : Nat) : Int), .ref a, .ref b]) ∧ H a = some (.lst (p.out.map V.str)) ∧ H b = some (.lst (p.into.map V.str))
theorem PatchAt.same {H H' : Hp} {t : Addr} {p : Patch} (h : PatchAt H t p) (s : Same H H') : PatchAt H' t p := by
  obtain ⟨a, b, h1, h2, h3⟩ := h
  exact ⟨a, b, s _ _ h1, s _ _ h2, s _ _ h3⟩
theorem patchF_out {old new : List Str} {place behind : Int} {p : Str} (h : p ∈ (patchF old new place behind).out) : p ∈ old := List.mem_of_mem_drop (List.mem_of_mem_take h)
theorem patchF_into {old new : List Str} {place behind : Int} {p : Str} (h : p ∈ (patchF old new place behind).into) : p ∈ new := List.mem_of_mem_drop (List.mem_of_mem_take h)
/-- the patch leads from the old row to the new one -/
theorem patchF_leads (old new : List Str) (place behind : Int) : old.take (patchF old new place behind).first ++ (patchF old new place behind).into ++ old.drop ((patchF old new place behind).first + (patchF old new place behind).out.length) = new := by
  obtain ⟨f, ef⟩ : ∃ f, f = sameN old new place := ⟨_, rfl⟩
  obtain ⟨l, el⟩ : ∃ l, l = sameN (old.drop f).reverse (new.drop f).reverse behind := ⟨_, rfl⟩
  have hf := sameN_le old new place
  have hl := sameN_le (old.drop f).reverse (new.drop f).reverse behind
  have tf := sameN_take old new place
  have tl := sameN_take (old.drop f).reverse (new.drop f).reverse behind
  rw [← ef] at hf tf
  rw [← el] at hl tl
  rw [List.length_reverse, List.length_reverse] at hl
  rw [List.take_reverse, List.take_reverse] at tl
  have tl' := List.reverse_inj.mp tl
  have e1 : (patchF old new place behind).first = f := by rw [ef]; rfl
  have e2 : (patchF old new place behind).out = (old.drop f).take ((old.drop f).length - l) := by rw [el, ef]; rfl
  have e3 : (patchF old new place behind).into = (new.drop f).take ((new.drop f).length - l) := by rw [el, ef]; rfl
  rw [e1, e2, e3, List.length_take, Nat.min_eq_left (by omega), ← List.drop_drop, tl', tf, List.append_assoc, List.take_append_drop, List.take_append_drop]
section
variable {g : TG} {tb : TS} {D : Ends} {σ : L2.St} {H : Hp}
theorem for_zip {K : PySem.W.Frag} {a b : Addr} {xs ys : List V} (Pv : Nat → L2.St → Hp → Prop) (h0 : Pv 0 σ H) (hq : ∀ i σ H, Pv i σ H → SqL K H a xs ∧ SqL K H b ys)
    (hs : ∀ (i : Nat) (x y : V) (T : Addr) (σ : L2.St) (H : Hp), xs[i]? = some x → ys[i]? = some y → Pv i σ H → H T = none → g (.ref T) σ (upd H T (.tup [x, y])) fun σ2 H2 => tb { D with nx := Pv (i + 1), ct := Pv (i + 1), bk := D.nx } σ2 H2)
    (hd : ∀ i σ H, (i = xs.length ∨ i = ys.length) → i ≤ xs.length → i ≤ ys.length → Pv i σ H → D.nx σ H) :
    ∃ W : Nat → Nat → L2.St → Hp → Prop, (∃ m, W 0 m σ H) ∧ ∀ i m σ H, W i m σ H →
      ((Itz K a b).stop i H ∧ D.nx σ H) ∨ ((Itz K a b).go i H ∧ ∃ N : L2.St → Hp → Prop, (∀ σ' H', N σ' H' → ∃ m', m' < m ∧ W (i + 1) m' σ' H') ∧ ∀ v H', (Itz K a b).yld i H v H' → g v σ H' fun σ2 H2 => tb { D with nx := N, ct := N, bk := D.nx } σ2 H2) := by
  refine ⟨fun i m σ H => m = xs.length - i ∧ i ≤ xs.length ∧ i ≤ ys.length ∧ Pv i σ H, ⟨xs.length, by simp, Nat.zero_le _, Nat.zero_le _, h0⟩, ?_⟩
  rintro i m σ H ⟨rfl, hi, hi2, p⟩
  obtain ⟨qx, qy⟩ := hq i σ H p
  by_cases hlt : i < xs.length ∧ i < ys.length
  · have hx : xs[i]? = some xs[i] := List.getElem?_eq_getElem hlt.1
    have hy : ys[i]? = some ys[i] := List.getElem?_eq_getElem hlt.2
    refine .inr ⟨⟨xs, ys, xs[i], ys[i], qx, qy, hx, hy⟩, Pv (i + 1), fun σ' H' p' => ⟨xs.length - (i + 1), by omega, rfl, hlt.1, hlt.2, p'⟩, fun v H' z => ?_⟩
    obtain ⟨T, x, y, rfl, hT, rfl, h1, h2⟩ := z
    exact hs i x y T σ H (h1 xs qx) (h2 ys qy) p hT
  · refine .inl ⟨⟨xs, ys, qx, qy, ?_⟩, hd i σ H ?_ hi hi2 p⟩
    · omega
    · omega
end
end Jr
namespace Jr
open PySem PySem.Spec PyProof.Rows L2
section
variable {P : Program} {w : World} {K : PySem.W.Frag} {mg : Str → Option Value} {base : Heap}
def spCheckPiece (K : PySem.W.Frag) : Sp := fun vs H Q _ => ∃ (x : Addr) (z : Str) (rs : Rws) (p : Str), vs = [.ref x, .str p] ∧ TabAt (TC K) H x z rs ∧ p ∈ pcs z rs ∧ Q .non H
theorem cal_check_piece (T : Tx K mg) : Cal P w K mg base CX0 2 "check_piece" (spCheckPiece K) := by
  have M_Table_which := met_which (P := P) (w := w) (base := base) T
  obtain ⟨fd, F⟩ := T.d_check_piece
  refine ⟨_, fd, P_check_piece, F.ok sc_check_piece (fun vs H Q E h => ?_) (fun cdv A outer s H vs Q E hr h => ?_), T.g_check_piece, F.kp, F.bindsN (ps := P_check_piece) fun _ _ _ _ _ _ us hl => match us, hl with | [_, _], _ => rfl⟩
  · obtain ⟨x, z, rs, p, rfl, _⟩ := h
    rfl
  · obtain ⟨x, z, rs, p, rfl, ta, hp, k⟩ := h
    refine ⟨_, (PSs.nox (pss_one (ps_if (pt_cmpR op_isN (pe_met M_Table_which (pv 0) (by first | exact hr | exact hr.mono (by decide)) (pa_cons (pv 1) pa_nil)) pe_non (nomark _)) (pss_one ps_never) pss_nil))), ?_⟩
    obtain ⟨dx, lr, lp, dn, dr, m, h1, _, _, h4, _⟩ := ta.ex
    obtain ⟨i, _, ei⟩ := num_some ta.ok.nodup hp
    refine ⟨_, rfl, x, dx, _, rfl, h1, l6_mw _ _ _ _ _ _, _, rfl, x, dx, _, dn, _, _, rfl, h1, l6_num _ _ _ _ _ _, h4, .inl ⟨p, rfl, ?_⟩⟩
    rw [ei]
    exact ⟨rfl, _, rfl, iteF k⟩
end
end Jr
namespace Jr
open PySem PySem.Spec PyProof.Rows L2
section
variable {P : Program} {w : World} {K : PySem.W.Frag} {mg : Str → Option Value} {base : Heap}
def spEdge (K : PySem.W.Frag) : Sp := fun vs H Q _ => ∃ (x : Addr) (z : Str) (rs : Rws) (p : Str) (side : Nat), vs = [.ref x, .str p, .int (side : Nat)] ∧ side < 2 ∧ TabAt (TC K) H x z rs ∧ p ∈ pcs z rs ∧
  ∀ H' q es, Same H H' → H q = none → H' q = some (.lst (es.map V.str)) → Edge rs side p es → Q (.ref q) H'
theorem cal_edge (T : Tx K mg) : Cal P w K mg base CX0 3 "edge" (spEdge K) := by
  have M_Table_parts := met_parts (P := P) (w := w) (base := base) T
  obtain ⟨fd, F⟩ := T.d_edge
  refine ⟨_, fd, P_edge, F.ok sc_edge (fun vs H Q E h => ?_) (fun cdv A outer s H vs Q E hr h => ?_), T.g_edge, F.kp, F.bindsN (ps := P_edge) fun _ _ _ _ _ _ us hl => match us, hl with | [_, _, _], _ => rfl⟩
  · obtain ⟨x, z, rs, p, side, rfl, _⟩ := h
    rfl
  · obtain ⟨x, z, rs, p, side, rfl, hsd, ta, hp, k⟩ := h
    refine ⟨_, (PSs.nox (pss_cons (ps_set (i := 3) sc_edge.nd rfl (Or.inl rfl) (pe_lst (pa_cons (pv 1) pa_nil)))
      (pss_cons (ps_set (i := 4) sc_edge.nd rfl (Or.inl rfl) (pe_met M_Table_parts (pv 0) (by first | exact hr | exact hr.mono (by decide)) (pa_cons (pv 1) pa_nil)))
      (pss_cons (ps_while PassesOwn.never (pt_cmpR op_notN (pv 4) pe_non (nomark _)) (pss_cons (ps_expr (pe_bm PySem.F.plainAttrs_list PySem.F.slot_list_append PySem.F.type_list_append mt_append (pv 3) (pa_cons (pe_ix ix_tup (pv 4) (pv 2) (fun _ _ => rfl)) pa_nil)))
      (pss_one (ps_set (i := 4) sc_edge.nd rfl (Or.inl rfl) (pe_met M_Table_parts (pv 0) (by first | exact hr | exact hr.mono (by decide)) (pa_cons (pe_ix ix_tup (pv 4) (pv 2) (fun _ _ => rfl)) pa_nil))))))
      (pss_one (ps_ret (pv 3))))))), ?_⟩
    refine ⟨_, rfl, (by show 1 ≤ sizeLine; decide), fun q hq => ?_⟩
    have ta1 := ta.same (Same.new (o := .lst [V.str p]) hq)
    obtain ⟨dx, lr, lp, dn, dr, m, h1, _⟩ := ta1.ex
    have pl := ta.ok.plen hp
    refine ⟨_, rfl, x, dx, _, rfl, h1, l6_mpa _ _ _ _ _ _, _, rfl, x, z, rs, p, rfl, ta1, hp, fun v hv => ?_⟩
    refine ⟨fun n σ H2 => ∃ (v : V) (cur : Str) (done : List Str), n = 16 - done.length ∧ σ = [some (.ref x), some (.str p), some (.int (side : Nat)), some (.ref q), some v] ∧ Same H H2 ∧ cur ∈ pcs z rs ∧ H2 q = some (.lst ((done ++ [cur]).map V.str)) ∧ done.length + cur.length ≤ 16 ∧
      (∀ es, Edge rs side cur es → Edge rs side p (done ++ es)) ∧ PartV H2 z rs cur v, ⟨16, v, p, [], rfl, rfl, Same.new hq, hp, upd_same, by simp; omega, fun es h => h, hv⟩, ?_⟩
    rintro n σ H2 ⟨v, cur, done, rfl, rfl, sm, hc, hQ, hl, hE, hv⟩
    have cl := ta.ok.plen hc
    refine ⟨_, rfl, rfl, _, rfl, ?_⟩
    rcases hv with ⟨hsg, rfl⟩ | ⟨r, a, hr', er, hta, rfl⟩
    · refine iteF ⟨_, rfl, k _ q (done ++ [cur]) sm hq hQ (hE _ (.one (no_row ta.ok hsg)))⟩
    · obtain ⟨hn1, hn2⟩ := part_in (side := side) ta.ok hr'
      rw [er] at hn2
      have qa : a ≠ q := fun e => by
        have h := hta
        unfold TupAt at h
        rw [e, hQ] at h; cases h
      refine iteT ⟨fun σ' H' => ∃ m', m' < 16 - done.length ∧ ∃ (v : V) (cur : Str) (done : List Str), m' = 16 - done.length ∧ σ' = [some (.ref x), some (.str p), some (.int (side : Nat)), some (.ref q), some v] ∧ Same H H' ∧ cur ∈ pcs z rs ∧ H' q = some (.lst ((done ++ [cur]).map V.str)) ∧ done.length + cur.length ≤ 16 ∧
        (∀ es, Edge rs side cur es → Edge rs side p (done ++ es)) ∧ PartV H' z rs cur v, fun _ _ h => h, ?_⟩
      refine ⟨_, rfl, .inl ⟨rfl, _, SqL.of hQ⟩, _, rfl, _, rfl, a, _, _, _, rfl, rfl, SqT.of hta, at_side hsd, q, _, _, rfl, rfl, hQ, ?_, ?_⟩
      · rw [List.length_map, List.length_append]
        exact szl (by show done.length + 1 < 100000; omega)
      have sm3 := Same.mut (o := .lst ((done ++ [cur]).map V.str ++ [V.str (sdr side r)])) sm hq
      have ta3 := ta.same sm3
      obtain ⟨dx3, lr3, lp3, dn3, dr3, m3, h13, _⟩ := ta3.ex
      have hta3 : (upd H2 q (.lst ((done ++ [cur]).map V.str ++ [V.str (sdr side r)]))) a = some (.tup [.str r.1, .str r.2]) := by rw [upd_ne qa]; exact hta
      refine ⟨_, rfl, x, dx3, _, rfl, h13, l6_mpa _ _ _ _ _ _, _, rfl, _, rfl, a, _, _, _, rfl, rfl, SqT.of hta3, at_side hsd, x, z, rs, sdr side r, rfl, ta3, hn1, fun v2 hv2 => ?_⟩
      refine ⟨16 - (done ++ [cur]).length, ?_, v2, sdr side r, done ++ [cur], rfl, rfl, sm3, hn1, ?_, ?_, ?_, hv2⟩
      · rw [List.length_append]
        show 16 - (done.length + 1) < 16 - done.length
        omega
      · rw [upd_same, List.map_append (l₁ := done ++ [cur])]; rfl
      · rw [List.length_append]
        show done.length + 1 + _ ≤ 16
        omega
      · intro es he
        rw [List.append_assoc]
        exact hE _ (.more hr' er he)
def spSideEdge (K : PySem.W.Frag) (side : Nat) : Sp := fun vs H Q _ => ∃ (x : Addr) (z : Str) (rs : Rws) (p : Str), vs = [.ref x, .str p] ∧ TabAt (TC K) H x z rs ∧ p ∈ pcs z rs ∧
  ∀ H' q es, Same H H' → H q = none → H' q = some (.lst (es.map V.str)) → Edge rs side p es → Q (.ref q) H'
theorem cal_right_edge (T : Tx K mg) : Cal P w K mg base CX0 4 "right_edge" (spSideEdge K 1) := by
  have C_edge := cal_edge (P := P) (w := w) (base := base) T
  obtain ⟨fd, F⟩ := T.d_right_edge
  refine ⟨_, fd, P_right_edge, F.ok sc_right_edge (fun vs H Q E h => ?_) (fun cdv A outer s H vs Q E hr h => ?_), T.g_right_edge, F.kp, F.bindsN (ps := P_right_edge) fun _ _ _ _ _ _ us hl => match us, hl with | [_, _], _ => rfl⟩
  · obtain ⟨x, z, rs, p, rfl, _⟩ := h
    rfl
  · obtain ⟨x, z, rs, p, rfl, ta, hp, k⟩ := h
    refine ⟨_, (PSs.nox (pss_one (ps_ret (pe_cal C_edge (by first | exact hr | exact hr.mono (by decide)) (by rfl) (pa_cons (pv 0) (pa_cons (pv 1) (pa_cons pe_int pa_nil))))))), ?_⟩
    exact ⟨_, rfl, _, rfl, x, z, rs, p, 1, rfl, by decide, ta, hp, k⟩
theorem cal_left_edge (T : Tx K mg) : Cal P w K mg base CX0 4 "left_edge" (spSideEdge K 0) := by
  have C_edge := cal_edge (P := P) (w := w) (base := base) T
  obtain ⟨fd, F⟩ := T.d_left_edge
  refine ⟨_, fd, P_left_edge, F.ok sc_left_edge (fun vs H Q E h => ?_) (fun cdv A outer s H vs Q E hr h => ?_), T.g_left_edge, F.kp, F.bindsN (ps := P_left_edge) fun _ _ _ _ _ _ us hl => match us, hl with | [_, _], _ => rfl⟩
  · obtain ⟨x, z, rs, p, rfl, _⟩ := h
    rfl
  · obtain ⟨x, z, rs, p, rfl, ta, hp, k⟩ := h
    refine ⟨_, (PSs.nox (pss_one (ps_ret (pe_cal C_edge (by first | exact hr | exact hr.mono (by decide)) (by rfl) (pa_cons (pv 0) (pa_cons (pv 1) (pa_cons pe_int pa_nil))))))), ?_⟩
    exact ⟨_, rfl, _, rfl, x, z, rs, p, 0, rfl, by decide, ta, hp, k⟩
end
end Jr
namespace Jr
open PySem PySem.Spec PyProof.Rows L2
section
variable {P : Program} {w : World} {K : PySem.W.Frag} {mg : Str → Option Value} {base : Heap}
theorem met_pieces (T : Tx K mg) : Met P w K mg base CX0 1 (TC K) "pieces" (spTPieces K) := by
  obtain ⟨fd, F⟩ := T.d_Table_pieces
  refine ⟨T.cl_Table, _, fd, P_Table_pieces, F.ok sc_Table_pieces (fun vs H Q E h => ?_) (fun cdv A outer s H vs Q E hr h => ?_), T.m_Table_pieces, F.bindsN (ps := P_Table_pieces) fun _ _ _ _ _ _ us hl => match us, hl with | [_], _ => rfl⟩
  · obtain ⟨x, z, rs, rfl, _⟩ := h
    rfl
  · obtain ⟨x, z, rs, rfl, ta, k⟩ := h
    obtain ⟨dx, lr, lp, dn, dr, m, h1, _, h3, _⟩ := ta.ex
    refine ⟨_, (PSs.nox (pss_one (ps_ret (pe_callTy (T := "list") call_list_of (by rfl) T.n_list (by decide +kernel) (pa_cons (pe_fld (pv 0) rfl) pa_nil))))), ?_⟩
    exact ⟨_, rfl, x, _, dx, _, _, rfl, h1, T.cl_Table, T.no_Table_piece_list, l6_pl _ _ _ _ _ _, lp, _, rfl, .inl (SqL.of h3), fun l hl => k _ l (Same.new hl) hl upd_same⟩
end
end Jr
namespace Jr
open PySem PySem.Spec PyProof.Rows L2
/-- the seven -/
def R7 (K : PySem.W.Frag) (x dx t re le al af ah pr : Addr) (A B D E F : List (Key × V)) : List (Addr × HO) :=
  [(x, .ins (FC K) dx (fg7 t re le al af ah pr)), (re, .dK A), (le, .dK B), (al, .dK D), (af, .dK E), (ah, .dK F), (pr, .dT [])]
theorem kvsZ_snoc {as : List Addr} {ps : List Str} {a : Addr} {p : Str} (h : as.length = ps.length) : kvsZ (as ++ [a]) (ps ++ [p]) = kvsZ as ps ++ [(Sum.inr p, V.ref a)] := by
  unfold kvsZ
  rw [List.zip_append h, List.map_append]
  rfl
theorem lstsZ_snoc {as : List Addr} {ps : List Str} {a : Addr} {p : Str} (f : Str → List Str) (h : as.length = ps.length) : lstsZ (as ++ [a]) (ps ++ [p]) f = lstsZ as ps f ++ [(a, .lst ((f p).map V.str))] := by
  unfold lstsZ
  rw [List.zip_append h, List.map_append]
  rfl
theorem kvsZ_none : ∀ {as : List Addr} {ps : List Str} {p : Str}, ¬ p ∈ ps → valV (kvsZ as ps) (Sum.inr p) = none
  | [], _, _, _ => by unfold kvsZ; rfl
  | _ :: _, [], _, _ => by unfold kvsZ; rfl
  | a :: as, q :: ps, p, h => by
    have h1 : ¬ (Sum.inr q : Key) = Sum.inr p := fun e => h (by rw [Sum.inr.inj e]; exact List.mem_cons_self)
    exact (valV_neg (p := ((Sum.inr q : Key), V.ref a)) h1).trans (kvsZ_none fun z => h (List.mem_cons_of_mem _ z))
theorem kvsZ_len {as : List Addr} {ps : List Str} (h : as.length = ps.length) : (kvsZ as ps).length = ps.length := by
  unfold kvsZ
  rw [List.length_map, List.length_zip, h, Nat.min_self]
theorem aldT (L : List Str) (p : Str) : valV (L.map fun q => ((Sum.inr q : Key), V.bl true)) (Sum.inr p) = if p ∈ L then some (V.bl true) else none := by
  induction L with
  | nil => rfl
  | cons q L ih =>
    by_cases c : q = p
    · subst c
      rw [if_pos List.mem_cons_self]
      exact valV_pos (p := ((Sum.inr q : Key), V.bl true)) rfl
    · have h1 : ¬ (Sum.inr q : Key) = Sum.inr p := fun e => c (Sum.inr.inj e)
      refine (valV_neg (p := ((Sum.inr q : Key), V.bl true)) h1).trans ?_
      rw [ih]
      by_cases c2 : p ∈ L
      · rw [if_pos c2, if_pos (List.mem_cons_of_mem _ c2)]
      · rw [if_neg c2, if_neg (fun h => c2 ((List.mem_cons.mp h).resolve_left fun e => c e.symm))]
theorem notup_lsts {as : List Addr} {ps : List Str} {f : Str → List Str} : ∀ q ∈ lstsZ as ps f, ∀ xs, q.2 ≠ HO.tup xs := fun q hq xs e => by
  obtain ⟨y, _, rfl⟩ := List.mem_map.mp hq
  cases e
theorem notup_R7 {K : PySem.W.Frag} {x dx t re le al af ah pr : Addr} {A B D E F : List (Key × V)} : ∀ q ∈ R7 K x dx t re le al af ah pr A B D E F, ∀ xs, q.2 ≠ HO.tup xs := fun q hq xs e => by
  unfold R7 at hq
  simp only [List.mem_cons, List.not_mem_nil, or_false] at hq
  rcases hq with rfl | rfl | rfl | rfl | rfl | rfl | rfl <;> cases e
theorem notup_app {L M : List (Addr × HO)} (h1 : ∀ q ∈ L, ∀ xs, q.2 ≠ HO.tup xs) (h2 : ∀ q ∈ M, ∀ xs, q.2 ≠ HO.tup xs) : ∀ q ∈ L ++ M, ∀ xs, q.2 ≠ HO.tup xs := fun q hq => by
  rcases List.mem_append.mp hq with h | h
  · exact h1 q h
  · exact h2 q h
/-- the edges of the first pieces -/
def Eds1 (S : Hp) (rs : Rws) (side : Nat) (ra : List Addr) (ps : List Str) : Prop := Paired (fun a p => ∃ fs, EndsL S a fs ∧ EdgeE rs side rs.length p fs) ra ps
theorem Eds1.same {S S' : Hp} {rs : Rws} {side : Nat} {ra : List Addr} {ps : List Str} (h : Eds1 S rs side ra ps) (s : Same S S') : Eds1 S' rs side ra ps := L2.Paired.mapP h fun a p ⟨fs, e, g⟩ => ⟨fs, e.same s, g⟩
theorem Eds1.eds {S : Hp} {z : Str} {rs : Rws} {side : Nat} {ra : List Addr} (h : Eds1 S rs side ra (pcs z rs)) (nd : (pcs z rs).Nodup) : Eds S (kvsZ ra (pcs z rs)) z rs side := fun q hq => by
  obtain ⟨i, hi⟩ := List.getElem?_of_mem hq
  obtain ⟨a, ha, fs, e, g⟩ := Paired.get2 h hi
  exact ⟨a, fs, kvsZ_at nd ha hi, e, g⟩
/-- a Follows -/
def FolAt (K : PySem.W.Frag) (H : Hp) (x : Addr) (z : Str) (rs : Rws) : Prop := ∃ (dx t re le al af ah pr : Addr) (asA asH : List Addr) (G : List (List Key × V)), FolS K H x dx t re le al af ah pr asA asH z rs ∧ H pr = some (.dT G) ∧ PairD rs (PLs z rs (AL z rs).length) G ∧
  (∀ (i : Nat) (a : Addr) (p : Str), asA[i]? = some a → (pcs z rs)[i]? = some p → H a = some (.lst ((aft rs (PLs z rs (AL z rs).length) p).map V.str))) ∧
  (∀ (i : Nat) (a : Addr) (p : Str), asH[i]? = some a → (pcs z rs)[i]? = some p → H a = some (.lst ((ahd rs (PLs z rs (AL z rs).length) p).map V.str)))
theorem FolAt.same {K : PySem.W.Frag} {H H' : Hp} {x : Addr} {z : Str} {rs : Rws} (h : FolAt K H x z rs) (s : Same H H') : FolAt K H' x z rs := by
  obtain ⟨dx, t, re, le, al, af, ah, pr, asA, asH, G, fs, hp, pd, h1, h2⟩ := h
  exact ⟨dx, t, re, le, al, af, ah, pr, asA, asH, G, fs.same s, s _ _ hp, pd, fun i a p ha hp => s _ _ (h1 i a p ha hp), fun i a p ha hp => s _ _ (h2 i a p ha hp)⟩
theorem FolAt.ins {K : PySem.W.Frag} {H : Hp} {x : Addr} {z : Str} {rs : Rws} (h : FolAt K H x z rs) : ∃ dx t re le al af ah pr, H x = some (.ins (FC K) dx (fg7 t re le al af ah pr)) := by
  obtain ⟨dx, t, re, le, al, af, ah, pr, asA, asH, G, fs, _⟩ := h
  exact ⟨dx, t, re, le, al, af, ah, pr, fs.fe.hx⟩
theorem fol_of {K : PySem.W.Frag} {S H : Hp} {x dx t re le al af ah pr : Addr} {asA asH : List Addr} {z : Str} {rs : Rws} (fs : FolS K S x dx t re le al af ah pr asA asH z rs) (rg : PReg S H pr asA asH z rs (PLs z rs (AL z rs).length)) : FolAt K H x z rs := by
  obtain ⟨G, r, pd⟩ := rg
  have lzA := lstsZ_len (aft rs (PLs z rs (AL z rs).length)) fs.lA
  refine ⟨dx, t, re, le, al, af, ah, pr, asA, asH, G, fs.same r.same, r.get (i := 0) rfl, pd, fun i a p ha hp => ?_, fun i a p ha hp => ?_⟩
  · have hi : i < (pcs z rs).length := (List.getElem?_eq_some_iff.mp hp).1
    refine r.get (i := i + 1) ?_
    rw [List.getElem?_cons_succ, List.getElem?_append_left (by rw [lzA]; exact hi)]
    exact lstsZ_at ha hp
  · refine r.get (i := ((pcs z rs).length + i) + 1) ?_
    rw [List.getElem?_cons_succ, List.getElem?_append_right (by rw [lzA]; omega), lzA, Nat.add_sub_cancel_left]
    exact lstsZ_at ha hp
theorem mem_pls {z : Str} {rs : Rws} {l r : Str} : (l, r) ∈ PLs z rs (AL z rs).length ↔ l ∈ AL z rs ∧ r ∈ AL z rs := by
  unfold PLs
  rw [List.take_length, List.mem_flatMap]
  constructor
  · rintro ⟨a, ha, h⟩
    obtain ⟨b, hb, e⟩ := List.mem_map.mp h
    rw [← (Prod.mk.inj e).1, ← (Prod.mk.inj e).2]
    exact ⟨ha, hb⟩
  · rintro ⟨h1, h2⟩
    exact ⟨l, h1, List.mem_map.mpr ⟨r, h2, rfl⟩⟩
section
variable {P : Program} {w : World} {K : PySem.W.Frag} {mg : Str → Option Value} {base : Heap}
def spFTable (K : PySem.W.Frag) : Sp := fun vs H Q _ => ∃ (x : Addr) (z : Str) (rs : Rws), vs = [.ref x] ∧ FolAt K H x z rs ∧ ∀ t, TabAt (TC K) H t z rs → Q (.ref t) H
theorem met_ftable (T : Tx K mg) : Met P w K mg base CX0 1 (FC K) "table" (spFTable K) := by
  obtain ⟨fd, F⟩ := T.d_Follows_table
  refine ⟨T.cl_Follows, _, fd, P_Follows_table, F.ok sc_Follows_table (fun vs H Q E h => ?_) (fun cdv A outer s H vs Q E hr h => ?_), T.m_Follows_table, F.bindsN (ps := P_Follows_table) fun _ _ _ _ _ _ us hl => match us, hl with | [_], _ => rfl⟩
  · obtain ⟨x, z, rs, rfl, _⟩ := h
    rfl
  · obtain ⟨x, z, rs, rfl, ⟨dx, t, re, le, al, af, ah, pr, asA, asH, G, fs, _⟩, k⟩ := h
    refine ⟨_, (PSs.nox (pss_one (ps_ret (pe_fld (pv 0) rfl)))), ?_⟩
    exact ⟨_, rfl, x, _, dx, _, _, rfl, fs.fe.hx, T.cl_Follows, T.no_Follows_held_table, g7_t _ _ _ _ _ _ _, k t fs.fe.ta⟩
def spFAlone (K : PySem.W.Frag) : Sp := fun vs H Q _ => ∃ (x : Addr) (z : Str) (rs : Rws), vs = [.ref x] ∧ FolAt K H x z rs ∧ ∀ H' q, Same H H' → H q = none → H' q = some (.lst ((AL z rs).map V.str)) → Q (.ref q) H'
theorem met_falone (T : Tx K mg) : Met P w K mg base CX0 1 (FC K) "alone" (spFAlone K) := by
  obtain ⟨fd, F⟩ := T.d_Follows_alone
  refine ⟨T.cl_Follows, _, fd, P_Follows_alone, F.ok sc_Follows_alone (fun vs H Q E h => ?_) (fun cdv A outer s H vs Q E hr h => ?_), T.m_Follows_alone, F.bindsN (ps := P_Follows_alone) fun _ _ _ _ _ _ us hl => match us, hl with | [_], _ => rfl⟩
  · obtain ⟨x, z, rs, rfl, _⟩ := h
    rfl
  · obtain ⟨x, z, rs, rfl, ⟨dx, t, re, le, al, af, ah, pr, asA, asH, G, fs, _⟩, k⟩ := h
    refine ⟨_, (PSs.nox (pss_one (ps_ret (pe_callTy (T := "list") (call_list_dKG rfl) (by rfl) T.n_list (by decide +kernel) (pa_cons (pe_fld (pv 0) rfl) pa_nil))))), ?_⟩
    refine ⟨_, rfl, x, _, dx, _, _, rfl, fs.fe.hx, T.cl_Follows, T.no_Follows_alone_pieces, g7_al _ _ _ _ _ _ _, al, _, rfl, fs.hal, fun q H1 nq s1 hq => k H1 q s1 nq ?_⟩
    rw [hq]
    unfold ALD
    rw [List.map_map]
    rfl
def spFMay (K : PySem.W.Frag) : Sp := fun vs H Q _ => ∃ (x : Addr) (z : Str) (rs : Rws) (l r : Str), vs = [.ref x, .str l, .str r] ∧ FolAt K H x z rs ∧ l ∈ pcs z rs ∧ r ∈ pcs z rs ∧ ∀ H', Same H H' → Q (.bl (fitB rs (l, r))) H'
theorem met_fmay (T : Tx K mg) : Met P w K mg base CX0 3 (FC K) "may" (spFMay K) := by
  have C_check_piece := cal_check_piece (P := P) (w := w) (base := base) T
  obtain ⟨fd, F⟩ := T.d_Follows_may
  refine ⟨T.cl_Follows, _, fd, P_Follows_may, F.ok sc_Follows_may (fun vs H Q E h => ?_) (fun cdv A outer s H vs Q E hr h => ?_), T.m_Follows_may, F.bindsN (ps := P_Follows_may) fun _ _ _ _ _ _ us hl => match us, hl with | [_, _, _], _ => rfl⟩
  · obtain ⟨x, z, rs, l, r, rfl, _⟩ := h
    rfl
  · obtain ⟨x, z, rs, l, r, rfl, ⟨dx, t, re, le, al, af, ah, pr, asA, asH, G, fs, hpr, pd, _⟩, hl, hr', k⟩ := h
    refine ⟨_, (PSs.nox (pss_cons (ps_expr (pe_cal C_check_piece (by first | exact hr | exact hr.mono (by decide)) (by rfl) (pa_cons (pe_fld (pv 0) rfl) (pa_cons (pv 1) pa_nil))))
      (pss_cons (ps_expr (pe_cal C_check_piece (by first | exact hr | exact hr.mono (by decide)) (by rfl) (pa_cons (pe_fld (pv 0) rfl) (pa_cons (pv 2) pa_nil))))
      (pss_one (ps_ret (pe_cmp (pc_din (hu_of hr) (pe_tupG (pa_cons (pv 1) (pa_cons (pv 2) pa_nil))) (pe_fld (pv 0) rfl)) rfl)))))), ?_⟩
    refine ⟨_, rfl, x, _, dx, _, _, rfl, fs.fe.hx, T.cl_Follows, T.no_Follows_held_table, g7_t _ _ _ _ _ _ _, _, rfl, t, z, rs, l, rfl, fs.fe.ta, hl, ?_⟩
    refine ⟨_, rfl, x, _, dx, _, _, rfl, fs.fe.hx, T.cl_Follows, T.no_Follows_held_table, g7_t _ _ _ _ _ _ _, _, rfl, t, z, rs, r, rfl, fs.fe.ta, hr', ?_⟩
    refine ⟨_, rfl, _, rfl, (by show 2 ≤ sizeLine; decide), fun tq H1 ntq s1 htq => ?_⟩
    refine ⟨_, rfl, x, _, dx, _, _, rfl, s1 _ _ fs.fe.hx, T.cl_Follows, T.no_Follows_pairs, g7_pr _ _ _ _ _ _ _, pr, _, rfl, DGet.t (k := [Sum.inr l, Sum.inr r]) (s1 _ _ hpr) htq, ?_⟩
    rw [pd.val]
    have kk := k _ s1
    by_cases c : fitB rs (l, r) = true
    · have fa := fit_alone (of_decide_eq_true (show decide (sweep rs (l ++ r) = [l, r]) = true from c))
      have m1 : l ∈ AL z rs := List.mem_filter.mpr ⟨hl, by simpa using fa.1⟩
      have m2 : r ∈ AL z rs := List.mem_filter.mpr ⟨hr', by simpa using fa.2⟩
      rw [if_pos ⟨mem_pls.mpr ⟨m1, m2⟩, c⟩]
      rw [c] at kk
      exact kk
    · have c' : fitB rs (l, r) = false := by
        cases h : fitB rs (l, r) with
        | false => rfl
        | true => exact absurd h c
      rw [if_neg (fun h => c h.2)]
      rw [c'] at kk
      exact kk
end
end Jr
namespace Jr
open PySem PySem.Spec PyProof.Rows L2
theorem g7_mha (t re le al af ah pr : Addr) : (fg7 t re le al af ah pr).lookup ("has_alone" : Str) = none := by kernel_rfl
theorem ald_has (z : Str) (rs : Rws) (p : Str) : (valV (ALD z rs) (Sum.inr p)).isSome = decide (p ∈ AL z rs) := by
  unfold ALD
  rw [aldT]
  by_cases c : p ∈ AL z rs
  · rw [if_pos c, decide_eq_true c]; rfl
  · rw [if_neg c, decide_eq_false c]; rfl
theorem al_iff0 {z : Str} {rs : Rws} {p : Str} : p ∈ AL z rs ↔ p ∈ pcs z rs ∧ sweep rs p = [p] := by
  unfold AL
  rw [List.mem_filter, decide_eq_true_eq]
section
variable {P : Program} {w : World} {K : PySem.W.Frag} {mg : Str → Option Value} {base : Heap}
def spFHas (K : PySem.W.Frag) : Sp := fun vs H Q _ => ∃ (x : Addr) (z : Str) (rs : Rws) (p : Str), vs = [.ref x, .str p] ∧ FolAt K H x z rs ∧ Q (.bl (decide (p ∈ AL z rs))) H
theorem met_fhas (T : Tx K mg) : Met P w K mg base CX0 1 (FC K) "has_alone" (spFHas K) := by
  obtain ⟨fd, F⟩ := T.d_Follows_has_alone
  refine ⟨T.cl_Follows, _, fd, P_Follows_has_alone, F.ok sc_Follows_has_alone (fun vs H Q E h => ?_) (fun cdv A outer s H vs Q E hr h => ?_), T.m_Follows_has_alone, F.bindsN (ps := P_Follows_has_alone) fun _ _ _ _ _ _ us hl => match us, hl with | [_, _], _ => rfl⟩
  · obtain ⟨x, z, rs, p, rfl, _⟩ := h
    rfl
  · obtain ⟨x, z, rs, p, rfl, ⟨dx, t, re, le, al, af, ah, pr, asA, asH, G, fs, _⟩, k⟩ := h
    refine ⟨_, (PSs.nox (pss_one (ps_ret (pe_and (pe_callB (id := "isinstance") call_isi (by rfl) T.n_isinstance (by decide +kernel) (pa_cons (pv 1) (pa_cons (pe_bltn (v := .ty "str") (by rfl) T.n_str (by decide +kernel) rfl) pa_nil))) (pe_one (pe_cmp (pc_din (hu_of hr) (pv 1) (pe_fld (pv 0) rfl)) rfl)))))), ?_⟩
    refine ⟨_, rfl, _, _, _, _, _, rfl, .ty "str", .base (.str p), isStr, _, rfl, iteT ?_⟩
    refine ⟨_, rfl, _, rfl, x, _, dx, _, _, rfl, fs.fe.hx, T.cl_Follows, T.no_Follows_alone_pieces, g7_al _ _ _ _ _ _ _, al, _, rfl, DGet.k (k := Sum.inr p) fs.hal, ?_⟩
    rw [ald_has]
    exact k
end
end Jr
namespace Jr
open PySem PySem.Spec PyProof.Rows L2
/-! ### a comprehension over a range whose test and element may make new things -/
section
variable {g : TG} {tt : TT} {te : TE} {vs : List Nat} {σ : L2.St} {H1 : Hp} {D : Addr} {Qd : Hp → Prop}
theorem lc_rangeC {lo : Int} {n : Nat} {p : Nat → Bool} {f : Nat → V} (hD : H1 D = none) (hlen : n ≤ 100000) (turn : ∀ i, i < n → LcTurnC (fun i : Nat => V.int (lo + i)) p f g tt te vs σ H1 i)
    (hd : ∀ H, Same H1 H → H D = some (.lst (((List.range n).filter p).map f)) → Qd H) :
    ∃ W : Nat → Nat → Hp → Prop, (∃ m, W 0 m (upd H1 D (.lst []))) ∧ ∀ i m H, W i m H →
      ((Itr lo n).stop i H ∧ Qd H) ∨ ((Itr lo n).go i H ∧ ∃ Nx : Hp → Prop, (∀ H', Nx H' → ∃ m', m' < m ∧ W (i + 1) m' H') ∧ ∀ y H', (Itr lo n).yld i H y H' → g y (wipe σ vs) H' fun σ2 H2 => wipe σ2 vs = wipe σ vs ∧ tt σ2 H2 fun b H3 =>
        if b = true then te σ2 H3 fun y H4 => ∃ acc, H4 D = some (.lst acc) ∧ acc.length < sizeLine ∧ Nx (upd H4 D (.lst (acc ++ [y]))) else Nx H3) := by
  refine lc_range (lo := lo) (n := n) (fun i H => Same H1 H ∧ H D = some (.lst ((((List.range n).take i).filter p).map f))) ⟨Same.new hD, upd_same⟩ ?_ ?_
  · rintro i H hi ⟨sm, hL⟩
    exact lc_stepC (l := List.range n) (item := fun i : Nat => V.int (lo + i)) hD (by rw [List.getElem?_range hi]) (by rw [List.length_range]; exact hlen) (turn i hi) sm hL
  · rintro H ⟨sm, hL⟩
    have e : (List.range n).take n = List.range n := by
      have := List.take_length (l := List.range n)
      rw [List.length_range] at this
      exact this
    rw [e] at hL
    exact hd H sm hL
end
section
variable {g : TG} {tb : TS} {D : Ends} {σ : L2.St} {H : Hp}
theorem for_itc {lo c : Int} {n : Nat} (Pv : Nat → L2.St → Hp → Prop) (h0 : Pv 0 σ H)
    (hs : ∀ i σ H, i < n → Pv i σ H → g (.int (lo + (i : Nat) * c)) σ H fun σ2 H2 => tb { D with nx := Pv (i + 1), ct := Pv (i + 1), bk := D.nx } σ2 H2) (hd : ∀ σ H, Pv n σ H → D.nx σ H) :
    ∃ W : Nat → Nat → L2.St → Hp → Prop, (∃ m, W 0 m σ H) ∧ ∀ i m σ H, W i m σ H →
      ((Itc lo c n).stop i H ∧ D.nx σ H) ∨ ((Itc lo c n).go i H ∧ ∃ N : L2.St → Hp → Prop, (∀ σ' H', N σ' H' → ∃ m', m' < m ∧ W (i + 1) m' σ' H') ∧ ∀ x H', (Itc lo c n).yld i H x H' → g x σ H' fun σ2 H2 => tb { D with nx := N, ct := N, bk := D.nx } σ2 H2) := by
  refine ⟨fun i m σ H => m = n - i ∧ i ≤ n ∧ Pv i σ H, ⟨n, by simp, Nat.zero_le _, h0⟩, ?_⟩
  rintro i m σ H ⟨rfl, hi, p⟩
  by_cases hlt : i < n
  · refine .inr ⟨hlt, Pv (i + 1), fun σ' H' p' => ⟨n - (i + 1), by omega, rfl, hlt, p'⟩, fun x H' y => ?_⟩
    obtain ⟨e, y⟩ := y
    subst e y
    exact hs i σ _ hlt p
  · have e : i = n := by omega
    subst e
    exact .inl ⟨Nat.le_refl _, hd σ H p⟩
end
/-! ### lists of texts and None -/
def oS : Option Str → V
  | none => .non
  | some p => .str p
def oD : Option Str → PyData
  | none => .none
  | some p => .str p
def dO (xs : List (Option Str)) : PyData := .list (xs.map oD)
def AscO (o : Option Str) : Prop := ∀ p, o = some p → Asc p
theorem lay_opts : ∀ xs : List (Option Str), (∀ x ∈ xs, AscO x) → PyData.canLayAll0 (xs.map oD) = true
  | [], _ => by simp [PyData.canLayAll0]
  | none :: xs, h => by
    have h2 := lay_opts xs fun y hy => h y (List.mem_cons_of_mem _ hy)
    simp [PyData.canLayAll0, PyData.canLay0, oD, h2]
  | some x :: xs, h => by
    have h1 := asc_ok (h (some x) List.mem_cons_self x rfl)
    have h2 := lay_opts xs fun y hy => h y (List.mem_cons_of_mem _ hy)
    simp [PyData.canLayAll0, PyData.canLay0, oD, h1, h2]
theorem dep_opts : ∀ xs : List (Option Str), PyData.depthAll (xs.map oD) = 0
  | [] => by simp [PyData.depthAll]
  | none :: xs => by simp [PyData.depthAll, PyData.depth, oD, dep_opts xs]
  | some x :: xs => by simp [PyData.depthAll, PyData.depth, oD, dep_opts xs]
theorem shO {xs : List (Option Str)} (h : ∀ x ∈ xs, AscO x) : SeqAt.shaped (dO xs) = true := by
  unfold SeqAt.shaped dO
  have h1 : PyData.canLay0 (.list (xs.map oD)) = true := by simp [PyData.canLay0, lay_opts xs h]
  have h2 : PyData.depth (.list (xs.map oD)) = 1 := by simp [PyData.depth, dep_opts]
  rw [h1, h2]; rfl
theorem eqvA_refl : ∀ xs : List (Option Str), PyData.eqvAll (xs.map oD) (xs.map oD) = true
  | [] => by simp [PyData.eqvAll]
  | none :: xs => by simp [PyData.eqvAll, PyData.eqv, oD, eqvA_refl xs]
  | some x :: xs => by simp [PyData.eqvAll, PyData.eqv, oD, eqvA_refl xs]
theorem eqO (xs : List (Option Str)) : PyData.eqv (dO xs) (dO xs) = true := by
  unfold dO
  rw [PyData.eqv]
  exact eqvA_refl xs
theorem dpA_opts {K : PySem.W.Frag} {H : Hp} : ∀ xs : List (Option Str), DpAll K H (xs.map oS) (xs.map oD)
  | [] => .nil
  | none :: xs => .cons .non (dpA_opts xs)
  | some x :: xs => .cons (.str x) (dpA_opts xs)
theorem dpO {K : PySem.W.Frag} {H : Hp} {a : Addr} {xs : List (Option Str)} (h : SqL K H a (xs.map oS)) : Dp K H (.ref a) (dO xs) := .lst h (dpA_opts xs)
end Jr
namespace Jr
open PySem PySem.Spec PyProof.Rows L2
/-- whether a piece may stand behind a last one -/
def endB (z : Str) (rs : Rws) (o : Option Str) (p : Str) : Bool := decide (p ∈ AL z rs) && (match o with | none => true | some l => fitB rs (l, p))
def begB (z : Str) (rs : Rws) (p : Str) (o : Option Str) : Bool := decide (p ∈ AL z rs) && (match o with | none => true | some r => fitB rs (p, r))
theorem al_iff {z : Str} {rs : Rws} {p : Str} : p ∈ AL z rs ↔ p ∈ pcs z rs ∧ sweep rs p = [p] := by
  unfold AL
  rw [List.mem_filter, decide_eq_true_eq]
theorem FolAt.ok {K : PySem.W.Frag} {H : Hp} {x : Addr} {z : Str} {rs : Rws} (h : FolAt K H x z rs) : TabOk z rs := by
  obtain ⟨dx, t, re, le, al, af, ah, pr, asA, asH, G, fs, _⟩ := h
  exact fs.fe.ta.ok
/-- the sizes that may end at n -/
theorem end_iff {z : Str} {rs : Rws} (T : TabOk z rs) {t : Str} (tx : TextOf z t) {n s : Nat} {p : Str} (h1 : 1 ≤ s) (h2 : s ≤ n) (h3 : n ≤ t.length) (e : lastO rs t n = some p) :
    endB z rs (lastO rs t (n - s)) (midS t (n - s) n) = true ↔ s = p.length := by
  have hm := midS_len t (a := n - s) (b := n) (by omega) h3
  have key := lastO_iff T (t := t) (n := n) (s := s) h1 h2 h3
  have al : sweep rs (midS t (n - s) n) = [midS t (n - s) n] → midS t (n - s) n ∈ AL z rs := fun h => al_iff.mpr ⟨sweep_pc (t := midS t (n - s) n) (text_mk tx fun c hc => List.mem_of_mem_drop (List.mem_of_mem_take hc)) (by rw [h]; exact List.mem_cons_self), h⟩
  unfold endB
  rw [Bool.and_eq_true, decide_eq_true_eq]
  constructor
  · rintro ⟨a, b⟩
    have h0 : lastO rs t n = some (midS t (n - s) n) := key.mpr ⟨(al_iff.mp a).2, by
      by_cases c : n - s = 0
      · exact .inl c
      · obtain ⟨l, hl⟩ := lastO_some (rs := rs) (t := t) (n := n - s) (by omega) (by omega)
        rw [hl] at b
        exact .inr ⟨l, hl, of_decide_eq_true b⟩⟩
    rw [e] at h0
    rw [Option.some.inj h0, hm]
    omega
  · intro hs
    have hp := (lastO_mid h3 e).1
    rw [← hs] at hp
    rw [hp] at e
    obtain ⟨a, b⟩ := key.mp e
    refine ⟨al a, ?_⟩
    rcases b with b | ⟨l, hl, b⟩
    · rw [b, lastO_zero]
    · rw [hl]
      exact decide_eq_true b
theorem beg_iff {z : Str} {rs : Rws} (T : TabOk z rs) {t : Str} (tx : TextOf z t) {n s : Nat} {p : Str} (h1 : 1 ≤ s) (h3 : n + s ≤ t.length) (e : firstO rs t n = some p) :
    begB z rs (midS t n (n + s)) (firstO rs t (n + s)) = true ↔ s = p.length := by
  have hm := midS_len t (a := n) (b := n + s) (by omega) h3
  have key := firstO_iff T (t := t) (n := n) (s := s) h1 h3
  have al : sweep rs (midS t n (n + s)) = [midS t n (n + s)] → midS t n (n + s) ∈ AL z rs := fun h => al_iff.mpr ⟨sweep_pc (t := midS t n (n + s)) (text_mk tx fun c hc => List.mem_of_mem_drop (List.mem_of_mem_take hc)) (by rw [h]; exact List.mem_cons_self), h⟩
  unfold begB
  rw [Bool.and_eq_true, decide_eq_true_eq]
  constructor
  · rintro ⟨a, b⟩
    have h0 : firstO rs t n = some (midS t n (n + s)) := key.mpr ⟨(al_iff.mp a).2, by
      by_cases c : n + s = t.length
      · exact .inl c
      · obtain ⟨l, hl⟩ := firstO_some (rs := rs) (t := t) (n := n + s) (by omega)
        rw [hl] at b
        exact .inr ⟨l, hl, of_decide_eq_true b⟩⟩
    rw [e] at h0
    rw [Option.some.inj h0, hm]
    omega
  · intro hs
    have hp := (firstO_mid (by omega) e).1
    rw [← hs] at hp
    rw [hp] at e
    obtain ⟨a, b⟩ := key.mp e
    refine ⟨al a, ?_⟩
    rcases b with b | ⟨l, hl, b⟩
    · rw [firstO_end (by omega)]
    · rw [hl]
      exact decide_eq_true b
def lenAt (H : Hp) (a : Addr) : Nat := match H a with | some (.lst l) => l.length | _ => 0
theorem lenAt_of {H : Hp} {a : Addr} {l : List V} (h : H a = some (.lst l)) : lenAt H a = l.length := by unfold lenAt; rw [h]
/-- what changes one object alone -/
def Keep1 (a : Addr) (H H' : Hp) : Prop := ∀ b o, b ≠ a → H b = some o → H' b = some o
theorem Keep1.same {a : Addr} {S H H' : Hp} (h : Keep1 a H H') (s : Same S H) (n : S a = none) : Same S H' := fun b o hb => h b o (fun e => by rw [e, n] at hb; cases hb) (s _ _ hb)
theorem Keep1.put {a : Addr} {H H' H2 : Hp} {o : HO} (h : Keep1 a H H') (s : Same H' H2) : Keep1 a H (upd H2 a o) := fun b o' hn hb => by rw [upd_ne hn]; exact s _ _ (h b o' hn hb)
end Jr
namespace Jr
open PySem PySem.Spec PyProof.Rows L2
section
variable {P : Program} {w : World} {K : PySem.W.Frag} {mg : Str → Option Value} {base : Heap}
def spLongest (K : PySem.W.Frag) : Sp := fun vs H Q _ => ∃ (x : Addr) (z : Str) (rs : Rws), vs = [.ref x] ∧ TabAt (TC K) H x z rs ∧ ∀ m : Nat, (∃ p ∈ pcs z rs, p.length = m) → (∀ p ∈ pcs z rs, p.length ≤ m) → Q (.int (m : Nat)) H
theorem met_longest (T : Tx K mg) : Met P w K mg base CX0 1 (TC K) "longest" (spLongest K) := by
  obtain ⟨fd, F⟩ := T.d_Table_longest
  refine ⟨T.cl_Table, _, fd, P_Table_longest, F.ok sc_Table_longest (fun vs H Q E h => ?_) (fun cdv A outer s H vs Q E hr h => ?_), T.m_Table_longest, F.bindsN (ps := P_Table_longest) fun _ _ _ _ _ _ us hl => match us, hl with | [_], _ => rfl⟩
  · obtain ⟨x, z, rs, rfl, _⟩ := h
    rfl
  · obtain ⟨x, z, rs, rfl, ta, k⟩ := h
    refine ⟨_, (PSs.nox (pss_one (ps_ret (pe_fld (pv 0) rfl)))), ?_⟩
    obtain ⟨dx, lr, lp, dn, dr, m, h1, _, _, _, _, h6, h7⟩ := ta.ex
    exact ⟨_, rfl, x, _, dx, _, _, rfl, h1, T.cl_Table, T.no_Table_most_signs, l6_ms _ _ _ _ _ _, k m h6 h7⟩
end
end Jr
namespace Jr
open PySem PySem.Spec PyProof.Rows L2
section
variable {P : Program} {w : World} {K : PySem.W.Frag} {mg : Str → Option Value} {base : Heap}
def spCheckText (K : PySem.W.Frag) : Sp := fun vs H Q _ => ∃ (x : Addr) (z : Str) (rs : Rws) (t : Str), vs = [.ref x, .str t] ∧ TabAt (TC K) H x z rs ∧ TextOf z t ∧ ∀ H', Same H H' → Q .non H'
theorem cal_check_text (T : Tx K mg) : Cal P w K mg base CX0 2 "check_text" (spCheckText K) := by
  have M_Table_signs := met_signs (P := P) (w := w) (base := base) T
  obtain ⟨fd, F⟩ := T.d_check_text
  refine ⟨_, fd, P_check_text, F.ok sc_check_text (fun vs H Q E h => ?_) (fun cdv A outer s H vs Q E hr h => ?_), T.g_check_text, F.kp, F.bindsN (ps := P_check_text) fun _ _ _ _ _ _ us hl => match us, hl with | [_, _], _ => rfl⟩
  · obtain ⟨x, z, rs, t, rfl, _⟩ := h
    rfl
  · obtain ⟨x, z, rs, t, rfl, ta, tx, k⟩ := h
    refine ⟨_, (PSs.nox (pss_cons (ps_if (pt_not (pt_val (pe_callB (id := "isinstance") call_isi (by rfl) T.n_isinstance (by decide +kernel) (pa_cons (pv 1) (pa_cons (pe_bltn (v := .ty "str") (by rfl) T.n_str (by decide +kernel) rfl) pa_nil))))) (pss_one ps_never) pss_nil)
      (pss_cons (ps_set (i := 2) sc_check_text.nd rfl (Or.inl rfl) (pe_met0 M_Table_signs (pv 0) (by first | exact hr | exact hr.mono (by decide))))
      (pss_one (ps_for PassesOwn.never rfl (pi_enumS (by rfl) T.n_enumerate (pa_cons (pv 1) pa_nil)) (pg_tup rfl (pgs_cons (pg_name (i := 3) sc_check_text.nd rfl (Or.inl rfl)) (pgs_cons (pg_name (i := 4) sc_check_text.nd rfl (Or.inl rfl)) pgs_nil))) (pss_one (ps_if (pt_cmpR op_notIn_sign (pv 4) (pv 2) rfl) (pss_one ps_never) pss_nil))))))), ?_⟩
    obtain ⟨dx, lr, lp, dn, dr, m, h1, _⟩ := ta.ex
    refine ⟨_, rfl, _, _, _, _, _, rfl, .ty "str", .base (.str t), isStr, _, rfl, iteF ?_⟩
    refine ⟨_, rfl, x, dx, _, rfl, h1, l6_ms_ _ _ _ _ _ _, x, z, rs, rfl, ta, ?_⟩
    refine ⟨_, rfl, t, rfl, for_enumS (x := t) (fun i σ H' => ∃ u v : Option V, σ = [some (.ref x), some (.str t), some (.str z), u, v] ∧ Same H H') ⟨none, none, rfl, Same.refl H⟩ ?_ ?_⟩
    · rintro i c q σ H' hi hq ⟨u, v, rfl, sm⟩
      have hc := tx c (List.mem_of_getElem? hi)
      have s2 := Same.put (o := .tup [.int (i : Nat), .str (sgn c)]) sm hq
      refine ⟨q, _, rfl, SqT.of upd_same, rfl, _, _, rfl, _, _, rfl, rfl, ?_⟩
      refine ⟨_, rfl, _, rfl, c, _, rfl, rfl, _, rfl, ?_⟩
      rw [decide_eq_true hc]
      exact iteF ⟨_, _, rfl, s2⟩
    · rintro σ H' ⟨u, v, rfl, sm⟩
      exact k _ sm
end
end Jr
namespace Jr
open PySem PySem.Spec PyProof.Rows L2
/-- the firsts from a begin on -/
def firstsL (rs : Rws) (t : Str) (n : Nat) : List (Option Str) := (List.range (t.length + 1)).map fun i => if n ≤ i then firstO rs t i else none
theorem firstsL_len (rs : Rws) (t : Str) (n : Nat) : (firstsL rs t n).length = t.length + 1 := by simp [firstsL]
theorem firstsL_get {rs : Rws} {t : Str} {n i : Nat} (h1 : n ≤ i) (h2 : i ≤ t.length) : (firstsL rs t n)[i]? = some (firstO rs t i) := by
  unfold firstsL
  rw [List.getElem?_map, List.getElem?_range (by omega)]
  show some (if n ≤ i then firstO rs t i else none) = _
  rw [if_pos h1]
theorem firstsL_top (rs : Rws) (t : Str) : firstsL rs t t.length = List.replicate (t.length + 1) none := by
  refine List.eq_replicate_iff.mpr ⟨firstsL_len rs t _, fun o ho => ?_⟩
  obtain ⟨i, _, e⟩ := List.mem_map.mp ho
  by_cases c : t.length ≤ i
  · rw [if_pos c, firstO_end c] at e; exact e.symm
  · rw [if_neg c] at e; exact e.symm
theorem firstsL_set (rs : Rws) (t : Str) {n : Nat} (h : n < t.length) : (firstsL rs t (n + 1)).set n (firstO rs t n) = firstsL rs t n := by
  refine List.ext_getElem? fun i => ?_
  by_cases c : i = n
  · subst c
    rw [List.getElem?_set_self (by rw [firstsL_len]; omega), firstsL_get (Nat.le_refl _) (by omega)]
  · rw [List.getElem?_set_ne (fun e => c e.symm)]
    unfold firstsL
    rw [List.getElem?_map, List.getElem?_map]
    by_cases c2 : i < t.length + 1
    · rw [List.getElem?_range c2]
      show some (if n + 1 ≤ i then firstO rs t i else none) = some (if n ≤ i then firstO rs t i else none)
      by_cases c3 : n ≤ i
      · rw [if_pos c3, if_pos (by omega)]
      · rw [if_neg c3, if_neg (by omega)]
    · rw [List.getElem?_eq_none (by rw [List.length_range]; omega)]; rfl
section
variable {P : Program} {w : World} {K : PySem.W.Frag} {mg : Str → Option Value} {base : Heap}
def spMayBegin (K : PySem.W.Frag) : Sp := fun vs H Q _ => ∃ (x : Addr) (z : Str) (rs : Rws) (o : Option Str) (p : Str), vs = [.ref x, .str p, oS o] ∧ FolAt K H x z rs ∧ (∀ l, o = some l → l ∈ pcs z rs) ∧ ∀ H', Same H H' → Q (.bl (begB z rs p o)) H'
theorem cal_may_begin_there (T : Tx K mg) : Cal P w K mg base CX0 4 "may_begin_there" (spMayBegin K) := by
  have M_Follows_has_alone := met_fhas (P := P) (w := w) (base := base) T
  have M_Follows_may := met_fmay (P := P) (w := w) (base := base) T
  obtain ⟨fd, F⟩ := T.d_may_begin_there
  refine ⟨_, fd, P_may_begin_there, F.ok sc_may_begin_there (fun vs H Q E h => ?_) (fun cdv A outer s H vs Q E hr h => ?_), T.g_may_begin_there, F.kp, F.bindsN (ps := P_may_begin_there) fun _ _ _ _ _ _ us hl => match us, hl with | [_, _, _], _ => rfl⟩
  · obtain ⟨x, z, rs, o, p, rfl, _⟩ := h
    rfl
  · obtain ⟨x, z, rs, o, p, rfl, fo, ho, k⟩ := h
    refine ⟨_, (PSs.nox (pss_one (ps_ret (pe_and (pe_met M_Follows_has_alone (pv 0) (by first | exact hr | exact hr.mono (by decide)) (pa_cons (pv 1) pa_nil)) (pe_one (pe_or (pe_cmpR op_isN (pv 2) pe_non (nomark _)) (pe_one (pe_met M_Follows_may (pv 0) (by first | exact hr | exact hr.mono (by decide)) (pa_cons (pv 1) (pa_cons (pv 2) pa_nil)))))))))), ?_⟩
    obtain ⟨dx, t, re, le, al, af, ah, pr, hx⟩ := fo.ins
    refine ⟨_, rfl, x, dx, _, rfl, hx, g7_mha _ _ _ _ _ _ _, _, rfl, x, z, rs, p, rfl, fo, _, rfl, ?_⟩
    unfold begB at k
    by_cases c : p ∈ AL z rs
    · rw [decide_eq_true c] at k ⊢
      refine iteT ?_
      cases o with
      | none => exact ⟨_, rfl, rfl, _, rfl, iteT (k H (Same.refl _))⟩
      | some l => exact ⟨_, rfl, rfl, _, rfl, iteF ⟨_, rfl, x, dx, _, rfl, hx, g7_may _ _ _ _ _ _ _, _, rfl, _, rfl, x, z, rs, p, l, rfl, fo, (al_iff.mp c).1, ho l rfl, fun H' s => k H' s⟩⟩
    · rw [decide_eq_false c] at k ⊢
      exact iteF (k H (Same.refl _))
def spFirstOf (K : PySem.W.Frag) : Sp := fun vs H Q _ => ∃ (x a : Addr) (z : Str) (rs : Rws) (t : Str) (n : Nat), vs = [.ref x, .str t, .ref a, .int (n : Nat)] ∧ FolAt K H x z rs ∧ TextOf z t ∧ t.length ≤ 10000 ∧ H a = some (.lst ((firstsL rs t (n + 1)).map oS)) ∧ n < t.length ∧
  ∀ H' p, Same H H' → firstO rs t n = some p → Q (.str p) H'
theorem cal_first_of (T : Tx K mg) : Cal P w K mg base CX0 5 "first_of" (spFirstOf K) := by
  have C_may_begin_there := cal_may_begin_there (P := P) (w := w) (base := base) T
  have M_Follows_table := met_ftable (P := P) (w := w) (base := base) T
  have M_Table_longest := met_longest (P := P) (w := w) (base := base) T
  obtain ⟨fd, F⟩ := T.d_first_of
  refine ⟨_, fd, P_first_of, F.ok sc_first_of (fun vs H Q E h => ?_) (fun cdv A outer s H vs Q E hr h => ?_), T.g_first_of, F.kp, F.bindsN (ps := P_first_of) fun _ _ _ _ _ _ us hl => match us, hl with | [_, _, _, _], _ => rfl⟩
  · obtain ⟨x, a, z, rs, t, n, rfl, _⟩ := h
    rfl
  · obtain ⟨x, a, z, rs, t, n, rfl, fo, tx, tl, hL, n2, k⟩ := h
    refine ⟨_, (PSs.nox (pss_cons (ps_set (i := 4) sc_first_of.nd rfl (Or.inl rfl) (pe_callB (id := "min") (call_min2 rfl) (by rfl) T.n_min (by decide +kernel) (pa_cons (pe_op op_sub (pe_callB (id := "len") call_len_str (by rfl) T.n_len (by decide +kernel) (pa_cons (pv 1) pa_nil)) (pv 3)) (pa_cons (pe_met0 M_Table_longest (pe_met0 M_Follows_table (pv 0) (by first | exact hr | exact hr.mono (by decide))) (by first | exact hr | exact hr.mono (by decide))) pa_nil))))
      (pss_cons (ps_setLc (i := 5) (own := [("size", 6)]) (g := gName 6) (by rfl) sc_first_of.nd rfl rfl (sw_true rfl rfl rfl (by decide +kernel)) (pi_range2 (by rfl) T.n_range (pa_cons pe_int (pa_cons (pe_op op_add (pv 4) pe_int) pa_nil))) (blkOk_by (own := [("size", 6)]) (N := N_first_of) (sc := defScope s_first_of) (by decide +kernel)) (fun _ _ _ _ _ => (pg_name (i := 6) sc_first_of.nd rfl (Or.inl rfl))) (fun _ _ _ _ _ => (pts_one (pt_val (pe_cal C_may_begin_there (by first | exact hr | exact hr.mono (by decide)) (by rfl) (pa_cons (pv 0) (pa_cons (pe_slice sl_str (pv 1) (po_some (pv 3)) (po_some (pe_op op_add (pv 3) (pv 6)))) (pa_cons (pe_ix (ix_listK (K := K)) (pv 2) (pe_op op_add (pv 3) (pv 6)) (fun _ _ => rfl)) pa_nil))))))) (fun _ _ _ _ _ => (pv 6)))
      (pss_one (ps_ret (pe_slice sl_str (pv 1) (po_some (pv 3)) (po_some (pe_op op_add (pv 3) (pe_ix ix_list (pv 5) pe_int (fun _ _ => rfl)))))))))), ?_⟩
    obtain ⟨p, hp⟩ := firstO_some (rs := rs) n2
    have pin := firstO_in tx hp
    obtain ⟨pm, pl⟩ := firstO_mid (by omega) hp
    have p1 := (fo.ok.plen pin.1).1
    obtain ⟨dx, t', re, le, al, af, ah, pr, hx⟩ := fo.ins
    refine ⟨_, rfl, t, rfl, sz (by omega), _, rfl, _, _, rfl, rfl, _, rfl, x, dx, _, rfl, hx, g7_mt _ _ _ _ _ _ _, x, z, rs, rfl, fo, fun tt ta => ?_⟩
    obtain ⟨dx2, lr, lp, dn, dr, m', h1, _⟩ := ta.ex
    refine ⟨tt, dx2, _, rfl, h1, l6_ml _ _ _ _ _ _, tt, z, rs, rfl, ta, fun m hm1 hm2 => ?_⟩
    refine ⟨_, _, rfl, ?_⟩
    have hmost : (if (m : Int) < (t.length : Int) - (n : Int) then (m : Int) else (t.length : Int) - (n : Int)) = ((min (t.length - n) m : Nat) : Int) := by
      split <;> omega
    rw [hmost]
    have em : (((min (t.length - n) m : Nat) : Int) + 1 - 1).toNat = min (t.length - n) m := by omega
    refine ⟨_, rfl, _, _, rfl, rfl, _, _, rfl, (by omega), fun D hD => ?_⟩
    rw [em]
    have pin' : p.length ≤ m := hm2 p pin.1
    refine lc_rangeC (lo := 1) (n := min (t.length - n) m) (p := fun i => decide (i = p.length - 1)) (f := fun i => V.int (1 + (i : Int))) hD (by omega) (fun i hi H2 s2 N M hM hN => ?_) (fun H2 s2 hL2 => ?_)
    · have e1 : (n : Int) + (1 + (i : Int)) = ((n + (i + 1) : Nat) : Int) := by omega
      have A1 : atI ((firstsL rs t (n + 1)).map oS) ((n : Int) + (1 + (i : Int))) = some (oS (firstO rs t (n + (i + 1)))) := by rw [e1]; exact atm (firstsL_get (by omega) (by omega))
      have ei := beg_iff fo.ok tx (s := i + 1) (by omega) (by omega) hp
      refine ⟨rfl, _, rfl, _, rfl, _, rfl, _, rfl, _, rfl, _, rfl, _, _, rfl, rfl, _, rfl, t, rfl, sz (by omega), _, rfl, _, rfl, _, rfl, _, _, rfl, rfl, a, _, _, _, rfl, rfl, SqL.of (s2 _ _ hL), A1, ?_⟩
      refine ⟨x, z, rs, firstO rs t (n + (i + 1)), midS t n (n + (i + 1)), (by rw [e1, cutS_mid]), fo.same s2, fun l hl => (firstO_in tx hl).1, fun H3 s3 => ⟨_, rfl, ?_⟩⟩
      by_cases c : i + 1 = p.length
      · rw [ei.mpr c]
        exact iteT ⟨_, rfl, hM (by simp; omega) _ s3⟩
      · have c' : begB z rs (midS t n (n + (i + 1))) (firstO rs t (n + (i + 1))) = false := by
          cases hb : begB z rs (midS t n (n + (i + 1))) (firstO rs t (n + (i + 1))) with
          | false => rfl
          | true => exact absurd (ei.mp hb) c
        rw [c']
        exact iteF (hN (by simp; omega) _ s3)
    · rw [fit_head (m := p.length - 1) (by omega) (fun i _ => by simp)] at hL2
      have e2 : (n : Int) + (1 + ((p.length - 1 : Nat) : Int)) = ((n + p.length : Nat) : Int) := by omega
      refine ⟨_, rfl, _, rfl, _, rfl, _, rfl, _, rfl, D, _, _, _, rfl, rfl, SqL.of hL2, rfl, _, _, rfl, rfl, _, rfl, t, rfl, sz (by omega), ?_⟩
      rw [e2, cutS_mid, ← pm]
      exact k H2 p s2 hp
def spFirsts (K : PySem.W.Frag) : Sp := fun vs H Q _ => ∃ (x : Addr) (z : Str) (rs : Rws) (t : Str), vs = [.ref x, .str t] ∧ FolAt K H x z rs ∧ TextOf z t ∧ t.length ≤ 10000 ∧ ∀ H' q, Same H H' → H q = none → H' q = some (.lst ((firstsL rs t 0).map oS)) → Q (.ref q) H'
theorem cal_firsts (T : Tx K mg) : Cal P w K mg base CX0 6 "firsts" (spFirsts K) := by
  have C_first_of := cal_first_of (P := P) (w := w) (base := base) T
  have C_check_text := cal_check_text (P := P) (w := w) (base := base) T
  have M_Follows_table := met_ftable (P := P) (w := w) (base := base) T
  obtain ⟨fd, F⟩ := T.d_firsts
  refine ⟨_, fd, P_firsts, F.ok sc_firsts (fun vs H Q E h => ?_) (fun cdv A outer s H vs Q E hr h => ?_), T.g_firsts, F.kp, F.bindsN (ps := P_firsts) fun _ _ _ _ _ _ us hl => match us, hl with | [_, _], _ => rfl⟩
  · obtain ⟨x, z, rs, t, rfl, _⟩ := h
    rfl
  · obtain ⟨x, z, rs, t, rfl, fo, tx, tl, k⟩ := h
    refine ⟨_, (PSs.nox (pss_cons (ps_expr (pe_cal C_check_text (by first | exact hr | exact hr.mono (by decide)) (by rfl) (pa_cons (pe_met0 M_Follows_table (pv 0) (by first | exact hr | exact hr.mono (by decide))) (pa_cons (pv 1) pa_nil))))
      (pss_cons (ps_set (i := 2) sc_firsts.nd rfl (Or.inl rfl) (pe_op op_repG (pe_lstG (pa_cons pe_non pa_nil)) (pe_op op_add (pe_callB (id := "len") call_len_str (by rfl) T.n_len (by decide +kernel) (pa_cons (pv 1) pa_nil)) pe_int)))
      (pss_cons (ps_for PassesOwn.never rfl (pi_revR (by rfl) T.n_reversed (prg_1 (by rfl) T.n_range (pe_callB (id := "len") call_len_str (by rfl) T.n_len (by decide +kernel) (pa_cons (pv 1) pa_nil)))) (pg_name (i := 3) sc_firsts.nd rfl (Or.inl rfl)) (pss_one (ps_asg (pe_cal C_first_of (by first | exact hr | exact hr.mono (by decide)) (by rfl) (pa_cons (pv 0) (pa_cons (pv 1) (pa_cons (pv 2) (pa_cons (pv 3) pa_nil))))) (pg_sub (pv 2) (pv 3) set_list))))
      (pss_one (ps_ret (pv 2))))))), ?_⟩
    obtain ⟨dx, t', re, le, al, af, ah, pr, hx⟩ := fo.ins
    refine ⟨_, rfl, x, dx, _, rfl, hx, g7_mt _ _ _ _ _ _ _, x, z, rs, rfl, fo, fun tt ta => ?_⟩
    refine ⟨_, rfl, tt, z, rs, t, rfl, ta, tx, fun H1 s1 => ?_⟩
    refine ⟨(by show 1 ≤ sizeLine; decide), fun a0 H2 na0 s2 h0 => ?_⟩
    have er : ((t.length : Int) + 1).toNat = t.length + 1 := by omega
    refine ⟨_, rfl, t, rfl, sz (by omega), _, _, rfl, rfl, a0, _, _, rfl, rfl, h0, (by omega), (by omega), ?_, fun a H3 na s3 hL => ?_⟩
    · show 1 * ((t.length : Int) + 1).toNat ≤ sizeLine
      exact sz (by omega)
    have hL' : H3 a = some (.lst ((firstsL rs t t.length).map oS)) := by
      rw [hL, er, firstsL_top, rep_one, map_rep]; rfl
    refine ⟨_, rfl, t, rfl, sz (by omega), _, rfl, by omega, by omega, by omega, by omega, ?_⟩
    have en : ((t.length : Int) - 0).toNat = t.length := by omega
    rw [en]
    have na1 : H1 a = none := s2.free na
    refine for_itc (n := t.length) (fun i σ H' => ∃ u : Option V, σ = [some (.ref x), some (.str t), some (.ref a), u] ∧ Same H1 H' ∧ H' a = some (.lst ((firstsL rs t (t.length - i)).map oS))) ⟨none, rfl, s2.trans s3, hL'⟩ ?_ ?_
    · rintro i σ H' hi ⟨u, rfl, sm, hA⟩
      have eb : (0 : Int) + (t.length : Int) - 1 + (i : Nat) * (-1) = ((t.length - 1 - i : Nat) : Int) := by omega
      rw [eb]
      have e1 : t.length - i = (t.length - 1 - i) + 1 := by omega
      rw [e1] at hA
      have hn : t.length - 1 - i < t.length := by omega
      revert hA hn
      have e3 : t.length - (i + 1) = t.length - 1 - i := by omega
      rw [e3]
      generalize t.length - 1 - i = n
      intro hA hn
      refine ⟨_, rfl, _, rfl, _, rfl, _, rfl, x, a, z, rs, t, n, rfl, (fo.same s1).same sm, tx, tl, hA, hn, fun H4 p s4 hp => ?_⟩
      refine ⟨_, rfl, _, rfl, a, _, _, n, rfl, rfl, s4 _ _ hA, ?_, ⟨_, rfl, Same.mut (sm.trans s4) na1, ?_⟩⟩
      · unfold ixN
        rw [List.length_map, firstsL_len]
        simp
        omega
      · rw [upd_same, ← firstsL_set rs t hn, hp, List.map_set]; rfl
    · rintro σ H' ⟨u, rfl, sm, hA⟩
      rw [Nat.sub_self] at hA
      exact ⟨_, rfl, k H' a (s1.trans sm) (s1.free na1) hA⟩
end
end Jr
namespace Jr
open PySem PySem.Spec PyProof.Rows L2
section
variable {P : Program} {w : World} {K : PySem.W.Frag} {mg : Str → Option Value} {base : Heap}
def spReadOn (K : PySem.W.Frag) : Sp := fun vs H Q _ => ∃ (x : Addr) (z : Str) (rs : Rws) (t : Str), vs = [.ref x, .str t] ∧ FolAt K H x z rs ∧ TextOf z t ∧ t.length ≤ 10000 ∧ ∀ H' q, Same H H' → H q = none → H' q = some (.lst ((sweep rs t).map V.str)) → Q (.ref q) H'
theorem cal_read_on (T : Tx K mg) : Cal P w K mg base CX0 7 "read_on" (spReadOn K) := by
  have C_firsts := cal_firsts (P := P) (w := w) (base := base) T
  obtain ⟨fd, F⟩ := T.d_read_on
  refine ⟨_, fd, P_read_on, F.ok sc_read_on (fun vs H Q E h => ?_) (fun cdv A outer s H vs Q E hr h => ?_), T.g_read_on, F.kp, F.bindsN (ps := P_read_on) fun _ _ _ _ _ _ us hl => match us, hl with | [_, _], _ => rfl⟩
  · obtain ⟨x, z, rs, t, rfl, _⟩ := h
    rfl
  · obtain ⟨x, z, rs, t, rfl, fo, tx, tl, k⟩ := h
    refine ⟨_, (PSs.nox (pss_cons (ps_set (i := 2) sc_read_on.nd rfl (Or.inl rfl) (pe_cal C_firsts (by first | exact hr | exact hr.mono (by decide)) (by rfl) (pa_cons (pv 0) (pa_cons (pv 1) pa_nil))))
      (pss_cons (ps_set (i := 3) sc_read_on.nd rfl (Or.inl rfl) (pe_lstG pa_nil))
      (pss_cons (ps_set (i := 4) sc_read_on.nd rfl (Or.inl rfl) pe_int)
      (pss_cons (ps_while PassesOwn.never (pt_cmpR op_lt (pv 4) (pe_callB (id := "len") call_len_str (by rfl) T.n_len (by decide +kernel) (pa_cons (pv 1) pa_nil)) (nomark _)) (pss_cons (ps_expr (pe_bm PySem.F.plainAttrs_list PySem.F.slot_list_append PySem.F.type_list_append mt_append (pv 3) (pa_cons (pe_ix ix_list (pv 2) (pv 4) (fun _ _ => rfl)) pa_nil)))
      (pss_one (ps_aug (i := 4) sc_read_on.nd rfl (Or.inl rfl) (pe_callB (id := "len") call_len_str (by rfl) T.n_len (by decide +kernel) (pa_cons (pe_ix ix_list (pv 2) (pv 4) (fun _ _ => rfl)) pa_nil)) ip_add))))
      (pss_one (ps_ret (pv 3)))))))), ?_⟩
    refine ⟨_, rfl, _, rfl, x, z, rs, t, rfl, fo, tx, tl, fun H1 q s1 nq hq => ?_⟩
    refine ⟨(by show 0 ≤ sizeLine; decide), fun r H2 nr s2 hr' => ?_⟩
    refine while_by (fun σ H' => ∃ (n : Nat) (ys : List Str), σ = [some (.ref x), some (.str t), some (.ref q), some (.ref r), some (.int (n : Nat))] ∧ Same H1 H' ∧ H' r = some (.lst (ys.map V.str)) ∧ n ≤ t.length ∧ ys ++ sweep rs (sufS t n) = sweep rs t)
      (fun σ _ => match σ with | [_, _, _, _, some (.int i)] => t.length - i.toNat | _ => 0) ⟨0, [], rfl, s2, hr', Nat.zero_le _, by rw [sufS_zero]; rfl⟩ ?_ ?_
    · rintro σ H' ⟨n, ys, rfl, sm, hR, hn, e⟩
      have yl : ys.length ≤ 10000 := by
        have h1 := congrArg List.length e
        have h2 := passAll_len rs (sgs t)
        rw [sgs_len] at h2
        rw [List.length_append] at h1
        unfold sweep at h1
        omega
      refine ⟨_, rfl, _, rfl, t, rfl, sz (by omega), _, _, rfl, rfl, _, rfl, ite2 (fun c => ?_) (fun c => ?_)⟩
      · have c' : n < t.length := by
          have := of_decide_eq_true c
          omega
        obtain ⟨p, hp⟩ := firstO_some (rs := rs) c'
        have A1 : atI ((firstsL rs t 0).map oS) ((n : Nat) : Int) = some (V.str p) := by
          have := atm (f := oS) (firstsL_get (rs := rs) (t := t) (Nat.zero_le n) hn)
          rw [hp] at this
          exact this
        obtain ⟨_, pl⟩ := firstO_mid hn hp
        have p1 := (fo.ok.plen (firstO_in tx hp).1).1
        have hqr : r ≠ q := fun h => by rw [h, hq] at nr; cases nr
        have hq' := sm _ _ hq
        refine ⟨_, rfl, .inl ⟨rfl, _, SqL.of hR⟩, _, rfl, _, rfl, q, _, _, _, rfl, rfl, SqL.of hq', A1, r, _, _, rfl, rfl, hR, (by rw [List.length_map]; exact szl (by omega)), ?_⟩
        have hq2 : (upd H' r (.lst (ys.map V.str ++ [V.str p]))) q = some (.lst ((firstsL rs t 0).map oS)) := by rw [upd_ne (Ne.symm hqr)]; exact hq'
        refine ⟨_, rfl, _, rfl, _, rfl, q, _, _, _, rfl, rfl, SqL.of hq2, A1, p, rfl, sz (by omega), _, _, rfl, rfl, ⟨n + p.length, ys ++ [p], rfl, Same.mut sm nr, ?_, pl, ?_⟩, ?_⟩
        · rw [upd_same, List.map_append]; rfl
        · rw [← e, read_step hn hp, List.append_assoc]; rfl
        · show t.length - ((n : Int) + (p.length : Int)).toNat < t.length - ((n : Int)).toNat
          omega
      · have c' : n = t.length := by
          have : ¬ ((n : Int) < (t.length : Int)) := fun h => c (decide_eq_true h)
          omega
        rw [c', sweep_zero (by rw [sufS_len]; omega), List.append_nil] at e
        rw [e] at hR
        exact ⟨_, rfl, k H' r (s1.trans sm) (s1.free nr) hR⟩
    · intro σ H' Q1 Q2 himp hh
      obtain ⟨v1, g1, v2, g2, v3, h3, v4, g4, v5, g5, v6, v7, v8, v9⟩ := hh
      exact ⟨v1, g1, v2, g2, v3, h3, v4, g4, v5, g5, v6, v7, v8, himp _ _ v9⟩
end
end Jr
namespace Jr
open PySem PySem.Spec PyProof.Rows L2
theorem isInt {K : PySem.W.Frag} : PySem.W.kitOne K (.type "int") (.type "int") = some true := kit_ty (by decide +kernel)
theorem intBool {K : PySem.W.Frag} : PySem.W.kitOne K (.type "int") (.type "bool") = some false := kit_ty (by decide +kernel)
theorem boolInt {K : PySem.W.Frag} : PySem.W.kitOne K (.type "bool") (.type "int") = some true := kit_ty (by decide +kernel)
theorem boolBool {K : PySem.W.Frag} : PySem.W.kitOne K (.type "bool") (.type "bool") = some true := kit_ty (by decide +kernel)
/-- no int, no bool -/
def NoInt (K : PySem.W.Frag) (H : Hp) (v : V) : Prop := ∃ t, TyX K H v t ∧ PySem.W.kitOne K t (.type "int") = some false
/-- is_whole: of an int True, of a bool and all else False -/
def spWhole (K : PySem.W.Frag) : Sp := fun vs H Q _ => ∃ v : V, vs = [v] ∧ ((∃ n : Int, v = .int n ∧ Q (.bl true) H) ∨ (((∃ b : Bool, v = .bl b) ∨ NoInt K H v) ∧ Q (.bl false) H))
end Jr
namespace Jr
open PySem PySem.Spec PyProof.Rows L2
section
variable {P : Program} {w : World} {K : PySem.W.Frag} {mg : Str → Option Value} {base : Heap}
theorem cal_is_whole (T : Tx K mg) : Cal P w K mg base CX0 1 "is_whole" (spWhole K) := by
  obtain ⟨fd, F⟩ := T.d_is_whole
  refine ⟨_, fd, P_is_whole, F.ok sc_is_whole (fun vs H Q E h => ?_) (fun cdv A outer s H vs Q E hr h => ?_), T.g_is_whole, F.kp, F.bindsN (ps := P_is_whole) fun _ _ _ _ _ _ us hl => match us, hl with | [_], _ => rfl⟩
  · obtain ⟨v, rfl, _⟩ := h
    rfl
  · obtain ⟨v, rfl, k⟩ := h
    refine ⟨_, (PSs.nox (pss_one (ps_ret (pe_and (pe_callB (id := "isinstance") call_isi (by rfl) T.n_isinstance (by decide +kernel) (pa_cons (pv 0) (pa_cons (pe_bltn (v := .ty "int") (by rfl) T.n_int (by decide +kernel) rfl) pa_nil))) (pe_one (pe_not (pe_callB (id := "isinstance") call_isi (by rfl) T.n_isinstance (by decide +kernel) (pa_cons (pv 0) (pa_cons (pe_bltn (v := .ty "bool") (by rfl) T.n_bool (by decide +kernel) rfl) pa_nil))))))))), ?_⟩
    rcases k with ⟨n, rfl, k⟩ | ⟨⟨b, rfl⟩ | ⟨t, ht, hk⟩, k⟩
    · exact ⟨_, rfl, _, _, _, _, _, rfl, .ty "int", .base (.int n), isInt, _, rfl, iteT ⟨_, rfl, _, _, _, _, _, rfl, .ty "bool", .base (.int n), intBool, _, rfl, k⟩⟩
    · exact ⟨_, rfl, _, _, _, _, _, rfl, .ty "int", .base (.bl b), boolInt, _, rfl, iteT ⟨_, rfl, _, _, _, _, _, rfl, .ty "bool", .base (.bl b), boolBool, _, rfl, k⟩⟩
    · exact ⟨_, rfl, _, _, _, _, _, rfl, .ty "int", ht, hk, _, rfl, iteF k⟩
/-- is_up_to of a whole number -/
def spUpTo : Sp := fun vs H Q _ => ∃ n m : Int, vs = [.int n, .int m] ∧ Q (.bl (decide (0 ≤ n ∧ n ≤ m))) H
theorem cal_is_up_to (T : Tx K mg) : Cal P w K mg base CX0 2 "is_up_to" spUpTo := by
  have C_is_whole := cal_is_whole (P := P) (w := w) (base := base) T
  obtain ⟨fd, F⟩ := T.d_is_up_to
  refine ⟨_, fd, P_is_up_to, F.ok sc_is_up_to (fun vs H Q E h => ?_) (fun cdv A outer s H vs Q E hr h => ?_), T.g_is_up_to, F.kp, F.bindsN (ps := P_is_up_to) fun _ _ _ _ _ _ us hl => match us, hl with | [_, _], _ => rfl⟩
  · obtain ⟨n, m, rfl, _⟩ := h
    rfl
  · obtain ⟨n, m, rfl, k⟩ := h
    refine ⟨_, (PSs.nox (pss_one (ps_ret (pe_and (pe_cal C_is_whole (by first | exact hr | exact hr.mono (by decide)) (by rfl) (pa_cons (pv 0) pa_nil)) (pe_one (pe_chain op_le op_le pe_int (pv 0) (pv 1))))))), ?_⟩
    refine ⟨_, rfl, .int n, rfl, .inl ⟨n, rfl, _, rfl, iteT ⟨_, rfl, _, _, rfl, rfl, _, rfl, ite2 (fun c => ⟨_, rfl, _, _, rfl, rfl, ?_⟩) (fun c => ?_)⟩⟩⟩
    · have c' : (0 : Int) ≤ n := of_decide_eq_true c
      have e : decide (n ≤ m) = decide (0 ≤ n ∧ n ≤ m) := by
        by_cases c2 : n ≤ m
        · rw [decide_eq_true c2, decide_eq_true ⟨c', c2⟩]
        · rw [decide_eq_false c2, decide_eq_false (fun z => c2 z.2)]
      show Q (V.bl (decide (n ≤ m))) H
      rw [e]
      exact k
    · have c' : ¬ (0 : Int) ≤ n := of_decide_eq_false (by simpa using c)
      rw [decide_eq_false (fun z => c' z.1)] at k
      exact k
end
end Jr
namespace Jr
open PySem PySem.Spec PyProof.Rows L2
section
variable {P : Program} {w : World} {K : PySem.W.Frag} {mg : Str → Option Value} {base : Heap}
def spCheckPlace : Sp := fun vs H Q _ => ∃ n m : Int, vs = [.int n, .int m] ∧ 0 ≤ n ∧ n ≤ m ∧ Q .non H
theorem cal_check_place (T : Tx K mg) : Cal P w K mg base CX0 3 "check_place" spCheckPlace := by
  have C_is_up_to := cal_is_up_to (P := P) (w := w) (base := base) T
  obtain ⟨fd, F⟩ := T.d_check_place
  refine ⟨_, fd, P_check_place, F.ok sc_check_place (fun vs H Q E h => ?_) (fun cdv A outer s H vs Q E hr h => ?_), T.g_check_place, F.kp, F.bindsN (ps := P_check_place) fun _ _ _ _ _ _ us hl => match us, hl with | [_, _], _ => rfl⟩
  · obtain ⟨n, m, rfl, _⟩ := h
    rfl
  · obtain ⟨n, m, rfl, h1, h2, k⟩ := h
    refine ⟨_, (PSs.nox (pss_one (ps_if (pt_not (pt_val (pe_cal C_is_up_to (by first | exact hr | exact hr.mono (by decide)) (by rfl) (pa_cons (pv 0) (pa_cons (pv 1) pa_nil))))) (pss_one ps_never) pss_nil))), ?_⟩
    refine ⟨_, rfl, _, rfl, n, m, rfl, ?_⟩
    rw [decide_eq_true ⟨h1, h2⟩]
    exact ⟨_, rfl, iteF k⟩
end
end Jr
namespace Jr
open PySem PySem.Spec PyProof.Rows L2
/-! ### zip within enumerate: the pairs given out stay -/
section
variable {prog : Program} {w : World} {A : Around} {E : Value → Shared → Prop} {s : Shared}
/-- what zip has: nothing given out yet, or a tuple that is still there -/
def ZSt (h : Heap) (z TI TO : Addr) (T : Option Addr) : Prop := match T with
  | none => IsZip h z TI TO .none ∧ ∃ x y, IsPair h TO x y
  | some t => ∃ f, IsZipHeld h z TI TO t f
/-- the next pair, whether or not one is out -/
theorem ez_zip {z TI TO i1 i2 l1 l2 : Addr} {k : Nat} {xs ys : Array Value} {x y : Value} {T : Option Addr} {Q : Value → Shared → Prop} (D : ZipApart z TI TO i1 i2 l1 l2) (hz : ZSt s.heap z TI TO T) (hT : ∀ t, T = some t → ∃ o, s.heap.get? t = some o) (hTI : IsPair s.heap TI (.ref i1) (.ref i2))
    (h1 : s.heap.IsListIter i1 l1 k) (h2 : s.heap.IsListIter i2 l2 k) (hl1 : s.heap.IsList l1 xs) (hl2 : s.heap.IsList l2 ys) (hx : xs[k]? = some x) (hy : ys[k]? = some y)
    (hQ : ∀ g, (∃ T', ZSt g z TI TO (some T') ∧ (T = some T' ∨ T' = s.heap.objs.size)) → g.IsListIter i1 l1 (k + 1) → g.IsListIter i2 l2 (k + 1) → IsPair g s.heap.objs.size x y → g.objs.size = s.heap.objs.size + 1 →
      (∀ c o, c ≠ z → c ≠ TO → c ≠ i1 → c ≠ i2 → s.heap.get? c = some o → g.get? c = some o) → (∃ o, g.get? TO = some o ∧ ∀ v, o.data ≠ .cell v) → Q (.ref s.heap.objs.size) { s with heap := g }) (hTO : ∃ o, s.heap.get? TO = some o ∧ ∀ v, o.data ≠ .cell v) :
    wpAny (model prog w) A (Builtin.«zip.__next__» ⟨[.ref z], []⟩) (fun fin s' => ∃ v, fin = .done (.ret v) ∧ Q v s') E s := by
  cases T with
  | none =>
    obtain ⟨a, b, c, d⟩ := hz
    exact zip_next_item D a hTI d h1 h2 hl1 hl2 hx hy fun g a1 a2 a3 a4 a5 a6 a7 => hQ g ⟨_, ⟨false, a1⟩, .inr rfl⟩ a3 a4 a5 a6 a7 ⟨_, a2, fun v q => nomatch q⟩
  | some t =>
    obtain ⟨f, a⟩ := hz
    obtain ⟨o, ho⟩ := hT t rfl
    obtain ⟨oo, hoo, hod⟩ := hTO
    exact zip_next_item_held D a ho hTI h1 h2 hl1 hl2 hx hy fun g a1 a3 a4 a5 a6 a7 => hQ g ⟨t, ⟨true, a1⟩, .inl rfl⟩ a3 a4 a5 a6 (fun c o n1 _ n3 n4 e => a7 c o n1 n3 n4 e) ⟨oo, a7 _ _ D.TOz D.TOi1 D.TOi2 hoo, hod⟩
theorem ez_end {z TI TO i1 i2 l1 l2 : Addr} {k : Nat} {xs ys : Array Value} {T : Option Addr} {Q : Fin → Shared → Prop} (hh : A.handled = none) (D : ZipApart z TI TO i1 i2 l1 l2) (hz : ZSt s.heap z TI TO T) (hT : ∀ t, T = some t → ∃ o, s.heap.get? t = some o) (hTI : IsPair s.heap TI (.ref i1) (.ref i2))
    (h1 : s.heap.IsListIter i1 l1 k) (h2 : s.heap.IsListIter i2 l2 k) (hl1 : s.heap.IsList l1 xs) (hl2 : s.heap.IsList l2 ys) (he : xs[k]? = none ∨ ys[k]? = none)
    (hE : ∀ g e, (∀ c o, c ≠ z → c ≠ TO → c ≠ i1 → c ≠ i2 → s.heap.get? c = some o → g.get? c = some o) → (∃ o, g.get? e = some o ∧ o.cls = .type "StopIteration") → E (.ref e) { s with heap := g }) :
    wpAny (model prog w) A (Builtin.«zip.__next__» ⟨[.ref z], []⟩) Q E s := by
  cases T with
  | none =>
    obtain ⟨a, b, c, d⟩ := hz
    exact zip_next_end hh D a hTI d h1 h2 hl1 hl2 he hE
  | some t =>
    obtain ⟨f, a⟩ := hz
    obtain ⟨o, ho⟩ := hT t rfl
    exact zip_next_end_held hh D a ho hTI h1 h2 hl1 hl2 he fun g e k2 q => hE g e (fun c o n1 _ n3 n4 e => k2 c o n1 n3 n4 e) q
theorem ez_typ {z TI TO : Addr} {T : Option Addr} (hz : ZSt s.heap z TI TO T) : s.TypeIs (.ref z) "zip" := by
  cases T with
  | none => exact ⟨_, hz.1, rfl⟩
  | some t => obtain ⟨f, a⟩ := hz; exact ⟨_, a, rfl⟩
/-- within a builtin: the next of a zip -/
theorem ez_nextOf {z : Addr} {Q : Value → Shared → Prop} (hT : s.TypeIs (.ref z) "zip") (h : wpAny (model prog w) A.in1 (Builtin.«zip.__next__» ⟨[.ref z], []⟩) (fun fin s' => ∃ v, fin = .done (.ret v) ∧ Q v s') E s) : wpAny (model prog w) A (Builtin.SmallTypes.nextOf (.ref z)) Q E s := by
  unfold Builtin.SmallTypes.nextOf
  refine wpAny_bind (wpAny_callSpecial?_slot (name := Str.ofString "__next__") hT F.slot_zip_next (wpAny_call_entry F.slot_zip_next hT F.entry_zip_next ?_ (F.args_zip_next_1 _)))
  refine thn h fun fin s' q => ?_
  obtain ⟨v, e, q⟩ := q
  exact ⟨v, e, wpAny_pure q⟩
/-- enumerate's next, whatever its inner iterator does beside it -/
theorem ez_enum {e it : Addr} {i : Nat} {old : Value} {Q : Value → Shared → Prop} {R : Value → Heap → Prop} (he : IsEnum s.heap e it i old)
    (hin : ∀ Q' : Value → Shared → Prop, (∀ x g, R x g → Q' x { s with heap := g }) → wpAny (model prog w) A (Builtin.SmallTypes.nextOf (.ref it)) Q' E s) (hR : ∀ x g, R x g → g.get? e = s.heap.get? e)
    (hQ : ∀ x g g' tk, R x g → IsEnumOut g' e it ((i : Int) + 1) x g.objs.size → g'.get? g.objs.size = some { cls := .type "tuple", data := .seq #[.int i tk, x] } → g'.objs.size = g.objs.size + 1 → (∀ b o, b ≠ e → g.get? b = some o → g'.get? b = some o) → Q (.ref g.objs.size) { s with heap := g', toks := tk + 1 }) :
    wpAny (model prog w) A (Builtin.«enumerate.__next__» ⟨[.ref e], []⟩) (fun fin s' => ∃ v, fin = .done (.ret v) ∧ Q v s') E s := by
  rcases s with ⟨hs, gn, dn, tk, ow⟩
  show wpAny _ _ (field (.ref e) 2 >>= _) _ _ _; refine wpAny_bind (wpAny_field he rfl (x := .ref it) rfl (wpAny_bind (hin _ fun x g r => ?_)))
  have e1 : IsEnum g e it i old := (hR x g r).trans he
  show wpAny _ _ (field (.ref e) 3 >>= _) _ _ ⟨g, gn, dn, tk, ow⟩; refine wpAny_bind (wpAny_field e1 rfl (x := rawInt i) rfl ?_)
  show wpAny _ _ (field (.ref e) 4 >>= _) _ _ ⟨g, gn, dn, tk, ow⟩; refine wpAny_bind (wpAny_field e1 rfl (x := .none) rfl ?_)
  show wpAny _ _ (mkInt i >>= _) _ _ ⟨g, gn, dn, tk, ow⟩; refine wpAny_bind (wpAny_mkInt ?_)
  show wpAny _ _ (setField (.ref e) 3 (rawInt ((i : Int) + 1)) >>= _) _ _ ⟨g, gn, dn, tk + 1, ow⟩; refine wpAny_bind (wpAny_setField_rec e1 (by simp) fun g2 e2 b2 => ?_)
  have e2' : IsEnum g2 e it ((i : Int) + 1) old := e2
  show wpAny _ _ (setField (.ref e) 4 .none >>= _) _ _ ⟨g2, gn, dn, tk + 1, ow⟩; refine wpAny_bind (wpAny_setField_rec e2' (by simp) fun g3 e3 b3 => ?_)
  have e3' : IsEnum g3 e it ((i : Int) + 1) old := e3
  show wpAny _ _ (newTuple [.int i tk, x] >>= _) _ _ ⟨g3, gn, dn, tk + 1, ow⟩; refine wpAny_bind (wpAny_newTuple ?_)
  have z3 : g3.objs.size = g.objs.size := b3.1.trans b2.1
  have le : e < g.objs.size := Heap.lt_size e1
  have k3 : ∀ b o, b ≠ e → g.get? b = some o → g3.get? b = some o := fun b o n q => b3.extBut b o n (b2.extBut b o n q)
  obtain ⟨g4, eg4⟩ : ∃ g4, g4 = g3.push { cls := .type "tuple", data := .seq #[.int i tk, x] } := ⟨_, rfl⟩
  have t4 : g4.get? g.objs.size = some { cls := .type "tuple", data := .seq #[.int i tk, x] } := by rw [eg4, ← z3]; exact Heap.get?_push_size _ rfl
  have e4 : IsEnum g4 e it ((i : Int) + 1) old := by rw [eg4]; exact Heap.get?_push_of_some _ e3'
  have z4 : g4.objs.size = g.objs.size + 1 := by rw [eg4, Heap.size_push, z3]
  have k4 : ∀ b o, b ≠ e → g.get? b = some o → g4.get? b = some o := fun b o n q => by rw [eg4]; exact Heap.get?_push_of_some _ (k3 b o n q)
  rw [← eg4]
  show wpAny _ _ (Builtin.SmallTypes.ownedTupleIsFree (.ref e) >>= _) _ _ ⟨g4, gn, dn, tk + 1, ow⟩
  rw [z3]
  clear eg4 e3' e3 b3 e2' e2 b2 k3 z3
  refine wpAny_bind ?_
  unfold Builtin.SmallTypes.ownedTupleIsFree
  refine wpAny_bind (wpAny_field e4 rfl (x := .none) rfl (wpAny_pure ?_))
  simp only [if_true]
  refine wpAny_bind (wpAny_rule (wpAny_bind (wpAny_field e4 rfl (x := old) rfl (wpAny_bind (wpAny_setField_rec e4 (by simp) fun g5 e5 b5 => ?_)))))
  have e5' : IsEnum g5 e it ((i : Int) + 1) x := e5
  show wpAny _ _ (Builtin.SmallTypes.ownedTupleHandOut (.ref e) (.ref g.objs.size) >>= _) _ _ ⟨g5, gn, dn, tk + 1, ow⟩
  refine wpAny_bind ?_
  unfold Builtin.SmallTypes.ownedTupleHandOut
  refine wpAny_bind (wpAny_setField_rec e5' (by simp) fun g6 e6 b6 => ?_)
  have e6' : IsEnumOut g6 e it ((i : Int) + 1) x g.objs.size := e6
  refine wpAny_setField_rec e6' (by simp) fun g7 e7 b7 => wpAny_bind (wpAny_letGo (wpAny_pure ⟨_, rfl, hQ x g g7 tk r e7 ?_ ?_ ?_⟩))
  · exact b7.extBut _ _ (Nat.ne_of_gt le) (b6.extBut _ _ (Nat.ne_of_gt le) (b5.extBut _ _ (Nat.ne_of_gt le) t4))
  · rw [b7.1, b6.1, b5.1]; exact z4
  · exact fun b o n q => b7.extBut b o n (b6.extBut b o n (b5.extBut b o n (k4 b o n q)))
theorem ZSt.mv {g g' : Heap} {z TI TO : Addr} {t : Addr} (h : ZSt g z TI TO (some t)) (k : ∀ o, g.get? z = some o → g'.get? z = some o) : ZSt g' z TI TO (some t) := by
  obtain ⟨f, a⟩ := h
  exact ⟨f, k _ a⟩
theorem ez_item {e z TI TO i1 i2 l1 l2 : Addr} {i : Nat} {old : Value} {xs ys : Array Value} {x y : Value} {T : Option Addr} {Q : Option Value → Shared → Prop} (he : IsEnum s.heap e z i old) (D : ZipApart z TI TO i1 i2 l1 l2) (hz : ZSt s.heap z TI TO T) (hT : ∀ t, T = some t → ∃ o, s.heap.get? t = some o) (hTI : IsPair s.heap TI (.ref i1) (.ref i2))
    (h1 : s.heap.IsListIter i1 l1 i) (h2 : s.heap.IsListIter i2 l2 i) (hl1 : s.heap.IsList l1 xs) (hl2 : s.heap.IsList l2 ys) (hx : xs[i]? = some x) (hy : ys[i]? = some y) (hTO : ∃ o, s.heap.get? TO = some o ∧ ∀ v, o.data ≠ .cell v)
    (ne : e ≠ z ∧ e ≠ TO ∧ e ≠ i1 ∧ e ≠ i2 ∧ e ≠ TI)
    (hQ : ∀ g g' tk T', ZSt g z TI TO (some T') → (T = some T' ∨ T' = s.heap.objs.size) → IsPair g s.heap.objs.size x y → g.IsListIter i1 l1 (i + 1) → g.IsListIter i2 l2 (i + 1) → (∃ o, g.get? TO = some o ∧ ∀ v, o.data ≠ .cell v) → g.objs.size = s.heap.objs.size + 1 → (∀ c o, c ≠ z → c ≠ TO → c ≠ i1 → c ≠ i2 → s.heap.get? c = some o → g.get? c = some o) →
      IsEnumOut g' e z ((i : Int) + 1) (.ref s.heap.objs.size) (s.heap.objs.size + 1) → g'.get? (s.heap.objs.size + 1) = some { cls := .type "tuple", data := .seq #[.int i tk, .ref s.heap.objs.size] } → (∀ b o, b ≠ e → g.get? b = some o → g'.get? b = some o) → Q (some (.ref (s.heap.objs.size + 1))) { s with heap := g', toks := tk + 1 }) :
    wpAny (model prog w) A (pyNext (.ref e)) Q E s := by
  have hTe : s.TypeIs (.ref e) "enumerate" := ⟨_, he, rfl⟩
  have hTz := ez_typ hz
  have le : e < s.heap.objs.size := Heap.lt_size he
  unfold pyNext
  refine wpAny_bind (wpAny_attempt (wpAny_callSpecial?_slot (name := Str.ofString "__next__") hTe F.slot_enumerate_next (wpAny_call_entry F.slot_enumerate_next hTe F.entry_enumerate_next ?_ (F.args_enumerate_next_1 _))))
  refine ez_enum (R := fun v g => v = .ref s.heap.objs.size ∧ (∃ T', ZSt g z TI TO (some T') ∧ (T = some T' ∨ T' = s.heap.objs.size)) ∧ g.IsListIter i1 l1 (i + 1) ∧ g.IsListIter i2 l2 (i + 1) ∧ IsPair g s.heap.objs.size x y ∧ g.objs.size = s.heap.objs.size + 1 ∧ (∀ c o, c ≠ z → c ≠ TO → c ≠ i1 → c ≠ i2 → s.heap.get? c = some o → g.get? c = some o) ∧ ∃ o, g.get? TO = some o ∧ ∀ v, o.data ≠ .cell v) he
    (fun Q' q => ez_nextOf hTz (ez_zip D hz hT hTI h1 h2 hl1 hl2 hx hy (fun g a1 a2 a3 a4 a5 a6 a7 => q _ g ⟨rfl, a1, a2, a3, a4, a5, a6, a7⟩) hTO)) (fun v g r => ?_) (fun v g g' tk r eo tt sz kp => wpAny_pure ?_)
  · obtain ⟨_, _, _, _, _, _, kz, _⟩ := r
    rw [he]
    exact kz e _ ne.1 ne.2.1 ne.2.2.1 ne.2.2.2.1 he
  · obtain ⟨ev, ⟨T', a1, a1'⟩, a2, a3, a4, a5, a6, oo, a7, a8⟩ := r
    subst ev
    rw [a5] at eo tt ⊢
    exact hQ g g' tk T' a1 a1' a4 a2 a3 ⟨oo, a7, a8⟩ a5 a6 eo tt kp
theorem ez_stop {e z TI TO i1 i2 l1 l2 : Addr} {i : Nat} {old : Value} {xs ys : Array Value} {T : Option Addr} {Q : Option Value → Shared → Prop} (hh : A.handled = none) (he : IsEnum s.heap e z i old) (D : ZipApart z TI TO i1 i2 l1 l2) (hz : ZSt s.heap z TI TO T) (hT : ∀ t, T = some t → ∃ o, s.heap.get? t = some o) (hTI : IsPair s.heap TI (.ref i1) (.ref i2))
    (h1 : s.heap.IsListIter i1 l1 i) (h2 : s.heap.IsListIter i2 l2 i) (hl1 : s.heap.IsList l1 xs) (hl2 : s.heap.IsList l2 ys) (hend : xs[i]? = none ∨ ys[i]? = none)
    (hQ : ∀ g, (∀ c o, c ≠ z → c ≠ TO → c ≠ i1 → c ≠ i2 → s.heap.get? c = some o → g.get? c = some o) → Q none { s with heap := g }) : wpAny (model prog w) A (pyNext (.ref e)) Q E s := by
  have hTe : s.TypeIs (.ref e) "enumerate" := ⟨_, he, rfl⟩
  have hTz := ez_typ hz
  unfold pyNext
  refine wpAny_bind (wpAny_attempt (wpAny_callSpecial?_slot (name := Str.ofString "__next__") hTe F.slot_enumerate_next (wpAny_call_entry F.slot_enumerate_next hTe F.entry_enumerate_next ?_ (F.args_enumerate_next_1 _))))
  rcases s with ⟨hs, gn, dn, tk, ow⟩
  show wpAny _ _ (field (.ref e) 2 >>= _) _ _ _; refine wpAny_bind (wpAny_field he rfl (x := .ref z) rfl (wpAny_bind (ez_nextOf hTz (ez_end hh D hz hT hTI h1 h2 hl1 hl2 hend fun g x kp hx => ?_))))
  obtain ⟨o, ho, hc⟩ := hx
  refine wpAny_bind (wpAny_isInstance (T := "StopIteration") (b := true) ⟨o, ho, hc⟩ isSubtype_stop (wpAny_pure (hQ _ kp)))
end
end Jr
namespace Jr
open PySem PySem.Spec PyProof.Rows L2
/-! ### for over an iterator whose given out tuple stays -/
def TOk (H : Hp) (T : Option Addr) : Prop := ∀ t, T = some t → ∃ xs, H t = some (.tup xs)
def TupKeep (H H' : Hp) : Prop := ∀ t xs, H t = some (.tup xs) → H' t = some (.tup xs)
theorem TupKeep.of {H H' : Hp} (s : Same H H') : TupKeep H H' := fun t _ h => s t _ h
structure TurnT (P : Program) (w : World) (K : PySem.W.Frag) (tg : Expr) (J : It) (fp : List Addr) (it : Addr) (tn : Option Addr → Nat → Heap → Prop) : Prop where
  obj : ∀ T i h, tn T i h → ∀ b ∈ fp, ∃ o, h.get? b = some o ∧ ∀ v, o.data ≠ .cell v
  keep : ∀ T i h h', tn T i h → (∀ b ∈ fp, ∀ o, h.get? b = some o → h'.get? b = some o) → tn T i h'
  item : ∀ (X : Cx), X.prog = P → X.w = w → X.K = K → X.calm = true → ∀ (T : Option Addr) (i : Nat) (pins : List (Addr × Obj)) (s : Shared) (σ : L2.St) (H : Hp) (E : Value → Shared → Prop), Inv X pins σ H s → (∀ b ∈ fp, FpOk X pins H b) → tn T i s.heap → TOk H T → J.go i H →
    wpAny (model P w) X.A (pyNext (.ref it)) (fun r s1 => ∃ u, r = some u ∧ wpAny (model P w) X.A (letOwnedTupleGo tg (.ref it) u) (fun _ s2 => ∃ x H' T', Inv X pins σ H' s2 ∧ RelV x u ∧ J.yld i H x H' ∧ tn T' (i + 1) s2.heap ∧ TOk H' T' ∧ ∀ b ∈ fp, H' b = none) E s1) E s
  done : ∀ (X : Cx), X.prog = P → X.w = w → X.K = K → X.calm = true → ∀ (T : Option Addr) (i : Nat) (pins : List (Addr × Obj)) (s : Shared) (σ : L2.St) (H : Hp) (E : Value → Shared → Prop), Inv X pins σ H s → (∀ b ∈ fp, FpOk X pins H b) → tn T i s.heap → TOk H T → J.stop i H →
    wpAny (model P w) X.A (pyNext (.ref it)) (fun r s1 => r = none ∧ Inv X pins σ H s1) E s
structure PIT (X : Cx) (tg iter : Expr) (wi : TI) : Prop where
  run : ∀ (pins : List (Addr × Obj)) (s : Shared) (σ : L2.St) (H : Hp) (R : It → Hp → Prop), Inv X pins σ H s → wi σ H R →
    wpAny (model X.prog X.w) X.A (eval iter X.env) (fun v s1 => wpAny (model X.prog X.w) X.A (pyIter v) (fun itv s2 => ∃ (it : Addr) (fp : List Addr) (tn : Option Addr → Nat → Heap → Prop) (J : It) (H' : Hp), itv = .ref it ∧ Inv X pins σ H' s2 ∧ TurnT X.prog X.w X.K tg J fp it tn ∧ tn none 0 s2.heap ∧ (∀ b ∈ fp, FpOk X pins H' b) ∧ R J H') X.xe s1) X.xe s
def tForT (wi : TI) (g : TG) (tb : TS) : TS := fun D σ H => wi σ H fun J H1 => ∃ W : Nat → Nat → L2.St → Hp → Prop, (∃ m, W 0 m σ H1) ∧ ∀ i m σ H, W i m σ H →
  (J.stop i H ∧ D.nx σ H) ∨ (J.go i H ∧ ∃ N : L2.St → Hp → Prop, (∀ σ' H', N σ' H' → ∃ m', m' < m ∧ W (i + 1) m' σ' H') ∧ ∀ x H', J.yld i H x H' → g x σ H' fun σ2 H2 =>
    tb { D with nx := fun σ' H3 => TupKeep H' H3 ∧ N σ' H3, ct := fun σ' H3 => TupKeep H' H3 ∧ N σ' H3, bk := D.nx } σ2 H2)
theorem ps_forT {X : Cx} {tg iter : Expr} {body : List Stmt} {wi : TI} {g : TG} {tb : TS} {pos : Pos} (hp : PassesOwn (model X.prog X.w) X.A X.env X.xe) (hc : X.calm = true) (hi : PIT X tg iter wi) (hg : PG X tg g) (hb : PSs X body tb) (hs : ∀ x, foldedSetIterable iter X.env x = pure x := by intro _; rfl) :
    PS X (.For tg iter body [] pos) (tForT wi g tb) := by
  refine ⟨fun pins s σ H D I h => wpAny_For (thn (hi.run pins s σ H _ I h) fun v s1 h1 => thn h1 fun itv s2 h2 => ?_) hs⟩
  obtain ⟨it, fp, tn, J, H2, rfl, I2, TT, st2, f2, W, ⟨m0, w0⟩, turn⟩ := h2
  have stat : ∀ {H' : Hp}, (∀ b ∈ fp, H' b = none) → ∀ b ∈ fp, FpOk X pins H' b := fun hn b hb => ⟨hn b hb, (f2 b hb).2⟩
  refine codeAny_forLoop_any (fun n s' => ∃ T i σ' H', Inv X pins σ' H' s' ∧ tn T i s'.heap ∧ TOk H' T ∧ (∀ b ∈ fp, H' b = none) ∧ W i n σ' H') ?_ m0 ⟨none, 0, σ, H2, I2, st2, (fun t e => by cases e), fun b hb => (f2 b hb).1, w0⟩
  rintro n s3 ⟨T, i, σ3, H3, I3, st3, tk3, fr3, w3⟩
  rcases turn i n σ3 H3 w3 with ⟨stop, qn⟩ | ⟨go, N, hN, step⟩
  · refine wpAny_passesOwn hp (thn (TT.done X rfl rfl rfl hc T i pins s3 σ3 H3 X.xe I3 (stat fr3) st3 tk3 stop) fun r s4 hr => ?_)
    obtain ⟨hr, I4⟩ := hr
    subst hr
    exact wpAny_execs_nil ⟨σ3, H3, I4, qn⟩
  · refine wpAny_passesOwn hp (thn (TT.item X rfl rfl rfl hc T i pins s3 σ3 H3 X.xe I3 (stat fr3) st3 tk3 go) fun r s4 hr => ?_)
    obtain ⟨u, hr, h4⟩ := hr
    subst hr
    refine wpAny_passesOwn hp (thn h4 fun _ s5 h5 => ?_)
    obtain ⟨x, H5, T5, I5, r5, y5, st5, tk5, fr5⟩ := h5
    have ob5 := TT.obj _ _ _ st5
    refine wpAny_passesOwn hp (thn (hg.run _ s5 σ3 H5 x u _ (I5.pinned (stat fr5) ob5) r5 (step x H5 y5)) fun _ s6 h6 => ?_)
    obtain ⟨σ6, H6, I6, q6⟩ := h6
    refine wpAny_passesOwn hp (thn (hb.run _ s6 σ6 H6 _ I6 q6) fun f s7 q7 => ?_)
    have back : ∀ {σ7 : L2.St} {H7 : Hp}, Inv X (pins ++ pinsAt fp s5.heap) σ7 H7 s7 → TupKeep H5 H7 ∧ N σ7 H7 → ∃ m, m < n ∧ ∃ T i σ' H', Inv X pins σ' H' s7 ∧ tn T i s7.heap ∧ TOk H' T ∧ (∀ b ∈ fp, H' b = none) ∧ W i m σ' H' := fun {σ7 H7} I7 n7 => by
      obtain ⟨m', hm, w7⟩ := hN σ7 H7 n7.2
      have pin := fun b (hb : b ∈ fp) o (q : s5.heap.get? b = some o) => I7.pin (b, o) (List.mem_append_right _ (List.mem_append_right _ (mem_pinsAt hb q)))
      refine ⟨m', hm, T5, i + 1, σ7, H7, I7.unpinned, TT.keep _ _ _ _ st5 fun b hb o q => (pin b hb o q).1, fun t e => ?_, fun b hb => ?_, w7⟩
      · obtain ⟨xs, hx⟩ := tk5 t e
        exact ⟨xs, n7.1 t xs hx⟩
      · obtain ⟨o, q, _⟩ := ob5 b hb
        exact (pin b hb o q).2.1
    cases f with
    | next => obtain ⟨σ7, H7, I7, n7⟩ := q7; exact back I7 n7
    | cont => obtain ⟨σ7, H7, I7, n7⟩ := q7; exact back I7 n7
    | brk => obtain ⟨σ7, H7, I7, n7⟩ := q7; exact ⟨σ7, H7, I7.unpinned, n7⟩
    | ret v => obtain ⟨x7, σ7, H7, I7, r7, n7⟩ := q7; exact ⟨x7, σ7, H7, I7.unpinned, r7, n7⟩
end Jr
namespace Jr
open PySem PySem.Spec PyProof.Rows L2
/-! ### for pair in zip(xs, ys); for number, pair in enumerate(zip(xs, ys)) -/
theorem meets_enumZ (z TI TO : Addr) : Meets (Builtin.«enumerate.__new__» ⟨[.type "enumerate", .ref z], []⟩) (fun _ R s => IsZip s.heap z TI TO .none ∧ R (.ok (.ret (.ref s.heap.objs.size))) { s with heap := s.heap.push { cls := .type "enumerate", data := .fields #[.none, .bool false, .ref z, rawInt 0, .none, .none] } }) :=
  .of_wp fun prog w A R s h => by
    rcases s with ⟨hs, gn, dn, tk, ow⟩
    obtain ⟨hz, h⟩ := h
    have hsub := sub_enumerate
    have hZ : IsZip (Shared.heap ⟨hs, gn, dn, tk, ow⟩) z TI TO .none := hz
    wp_walk
    refine wpAny_stack_any fun st => wpAny_pure ?_
    split
    · rename_i c _ _ _ _ _
      cases (c == Value.type "enumerate") <;> (wp_walk using wpAny_pyIter_zip hZ; exact ⟨_, rfl, h⟩)
    · wp_walk using wpAny_pyIter_zip hZ; exact ⟨_, rfl, h⟩
theorem call_enumZ {prog : Program} {w : World} {A : Around} {E : Value → Shared → Prop} {s : Shared} {z TI TO : Addr} {Q : Value → Shared → Prop} (hz : IsZip s.heap z TI TO .none)
    (h : ∀ h', IsEnum h' s.heap.objs.size z 0 .none → h'.objs.size = s.heap.objs.size + 1 → (∀ b o, s.heap.get? b = some o → h'.get? b = some o) → Q (.ref s.heap.objs.size) { s with heap := h' }) :
    wpAny (model prog w) A (call (.type "enumerate") [.ref z]) Q E s := by
  refine callType_new F.called_enumerate (by decide) (F.typeCall_enumerate_1 _) (F.newCall_enumerate_1 _) (fun obj => F.args_object_init_2 obj _) F.entry_enumerate_new (meets_enumZ z TI TO) ⟨hz, ?_⟩
  have he : IsEnum (s.heap.push { cls := .type "enumerate", data := .fields #[.none, .bool false, .ref z, rawInt 0, .none, .none] }) s.heap.objs.size z 0 .none := Heap.get?_push_size _ rfl
  exact ⟨⟨_, he, rfl⟩, h _ he (Heap.size_push ..) fun b o q => Heap.get?_push_of_some _ q⟩
/-- the state of a zip of two lists -/
def ZTn (z TI TO i1 i2 a b : Addr) (T : Option Addr) (i : Nat) (h : Heap) : Prop := ZSt h z TI TO T ∧ IsPair h TI (.ref i1) (.ref i2) ∧ (∃ o, h.get? TO = some o ∧ ∀ v, o.data ≠ .cell v) ∧ h.IsListIter i1 a i ∧ h.IsListIter i2 b i
theorem ZTn.obj {z TI TO i1 i2 a b : Addr} {T : Option Addr} {i : Nat} {h : Heap} (st : ZTn z TI TO i1 i2 a b T i h) : ∀ c ∈ [z, TI, TO, i1, i2], ∃ o, h.get? c = some o ∧ ∀ v, o.data ≠ .cell v := fun c hc => by
  obtain ⟨hz, hTI, hTO, ⟨o1, e1, _, d1⟩, ⟨o2, e2, _, d2⟩⟩ := st
  simp only [List.mem_cons, List.not_mem_nil, or_false] at hc
  rcases hc with rfl | rfl | rfl | rfl | rfl
  · cases T with
    | none => exact ⟨_, hz.1, fun v q => nomatch q⟩
    | some t => obtain ⟨f, q⟩ := hz; exact ⟨_, q, fun v q => nomatch q⟩
  · exact ⟨_, hTI, fun v q => nomatch q⟩
  · exact hTO
  · exact ⟨o1, e1, fun v q => by rw [d1] at q; cases q⟩
  · exact ⟨o2, e2, fun v q => by rw [d2] at q; cases q⟩
theorem ZTn.keep {z TI TO i1 i2 a b : Addr} {T : Option Addr} {i : Nat} {h h' : Heap} (st : ZTn z TI TO i1 i2 a b T i h) (k : ∀ c ∈ [z, TI, TO, i1, i2], ∀ o, h.get? c = some o → h'.get? c = some o) : ZTn z TI TO i1 i2 a b T i h' := by
  obtain ⟨hz, hTI, ⟨oo, hTO, hd⟩, h1, h2⟩ := st
  refine ⟨?_, k TI (by simp) _ hTI, ⟨oo, k TO (by simp) _ hTO, hd⟩, h1.at fun o q => k i1 (by simp) o q, h2.at fun o q => k i2 (by simp) o q⟩
  cases T with
  | none =>
    obtain ⟨q, x, y, q2⟩ := hz
    exact ⟨k z (by simp) _ q, x, y, k TO (by simp) _ q2⟩
  | some t => obtain ⟨f, q⟩ := hz; exact ⟨f, k z (by simp) _ q⟩
theorem alive {X : Cx} {pins : List (Addr × Obj)} {σ : L2.St} {H : Hp} {s : Shared} {T : Option Addr} (I : Inv X pins σ H s) (h : TOk H T) : ∀ t, T = some t → ∃ o, s.heap.get? t = some o := fun t e => by
  obtain ⟨xs, q⟩ := h t e
  obtain ⟨its, rv, ⟨o, ho, _⟩, _⟩ := I.tuple (SqT.of q)
  exact ⟨o, ho⟩
theorem lt5 (n : Nat) : n + 5 ≠ n + 4 ∧ n + 5 ≠ n + 3 ∧ n + 5 ≠ n ∧ n + 5 ≠ n + 1 ∧ n + 5 ≠ n + 2 := by omega
/-- enumerate(zip(..)) of two lists -/
def Itez (K : PySem.W.Frag) (a b : Addr) : It :=
  ⟨(Itz K a b).go, fun i H v H' => ∃ T S x y, v = .ref S ∧ H T = none ∧ S ≠ T ∧ H S = none ∧ H' = upd (upd H T (.tup [x, y])) S (.tup [.int (i : Nat), .ref T]) ∧ (∀ xs, SqL K H a xs → xs[i]? = some x) ∧ ∀ ys, SqL K H b ys → ys[i]? = some y, (Itz K a b).stop⟩
theorem turnT_zip {P : Program} {w : World} {K : PySem.W.Frag} {nm : Str} {tpos : Pos} {a b z TI TO i1 i2 : Addr} (D : ZipApart z TI TO i1 i2 a b) :
    TurnT P w K (.Name nm tpos) (Itz K a b) [z, TI, TO, i1, i2] z (ZTn z TI TO i1 i2 a b) where
  obj := fun T i h st => st.obj
  keep := fun T i h h' st k => st.keep k
  item := by
    intro X hP hw hK hc T i pins s σ H E I hf st tk hg
    subst hP hw hK
    obtain ⟨hz, hTI, hTO, h1, h2⟩ := id st
    obtain ⟨xs, ys, x, y, hqx, hqy, hx, hy⟩ := hg
    obtain ⟨its, rv, p, _⟩ := I.list hqx
    obtain ⟨its2, rv2, p2, _⟩ := I.list hqy
    obtain ⟨u, hu, ru⟩ := rv.get hx
    obtain ⟨u2, hu2, ru2⟩ := rv2.get hy
    have hTz := ez_typ hz
    have lt : ∀ c ∈ [z, TI, TO, i1, i2], c < s.heap.objs.size := fun c hcm => by
      obtain ⟨o, ho, _⟩ := st.obj c hcm
      exact Heap.lt_size ho
    unfold pyNext
    refine wpAny_bind (wpAny_attempt (wpAny_callSpecial?_slot (name := Str.ofString "__next__") hTz F.slot_zip_next (wpAny_call_entry F.slot_zip_next hTz F.entry_zip_next ?_ (F.args_zip_next_1 _))))
    refine ez_zip D hz (alive I tk) hTI h1 h2 p.isList p2.isList (x := u) (y := u2) (by simpa using hu) (by simpa using hu2) (fun g a1 a2 a3 a4 a5 a6 a7 => wpAny_pure ⟨_, rfl, ?_⟩) hTO
    obtain ⟨T', z', tt⟩ := a1
    unfold letOwnedTupleGo
    refine wpAny_pure ?_
    have new : ObjOk X.prog X.w (upd H s.heap.objs.size (.tup [x, y])) g s.heap.objs.size (.tup [x, y]) := ⟨by show 2 ≤ sizeLine; decide, [u, u2], .cons ru (.cons ru2 .nil), ⟨_, a4, rfl, _, rfl⟩⟩
    have I1 : Inv X pins σ (upd H s.heap.objs.size (.tup [x, y])) { s with heap := g } := I.turnedNew (t' := s.toks) (ch := [z, TI, TO, i1, i2]) (fun c o hb q => a6 c o (fun e => hb (by simp [e])) (fun e => hb (by simp [e])) (fun e => hb (by simp [e])) (fun e => hb (by simp [e])) q) hf (Nat.le_refl _) new
    refine ⟨.ref s.heap.objs.size, _, some T', I1, rfl, ⟨_, x, y, rfl, I.hok.fresh (Nat.le_refl _), rfl, fun l hl => by rw [I.list_inj hl hqx]; exact hx, fun l hl => by rw [I.list_inj hl hqy]; exact hy⟩, ⟨z', a6 _ _ D.TIz D.TITO D.TIi1 D.TIi2 hTI, a7, a2, a3⟩, fun t e => ?_, fun c hcm => ?_⟩
    · cases e
      rcases tt with e2 | e2
      · obtain ⟨zs, hq⟩ := tk _ e2
        refine ⟨zs, ?_⟩
        rw [upd_ne (fun e3 => by rw [e3, I.hok.fresh (Nat.le_refl _)] at hq; cases hq)]
        exact hq
      · rw [e2, upd_same]; exact ⟨_, rfl⟩
    · rw [upd_ne (Nat.ne_of_lt (lt c hcm))]
      exact (hf c hcm).1
  done := by
    intro X hP hw hK hc T i pins s σ H E I hf st tk hg
    subst hP hw hK
    obtain ⟨hz, hTI, hTO, h1, h2⟩ := st
    obtain ⟨xs, ys, hqx, hqy, hend⟩ := hg
    obtain ⟨its, rv, p, _⟩ := I.list hqx
    obtain ⟨its2, rv2, p2, _⟩ := I.list hqy
    have l1 := rv.length
    have l2 := rv2.length
    have hTz := ez_typ hz
    unfold pyNext
    refine wpAny_bind (wpAny_attempt (wpAny_callSpecial?_slot (name := Str.ofString "__next__") hTz F.slot_zip_next (wpAny_call_entry F.slot_zip_next hTz F.entry_zip_next ?_ (F.args_zip_next_1 _))))
    refine ez_end (I.ok.hd hc) D hz (alive I tk) hTI h1 h2 p.isList p2.isList (hend.elim (fun q => .inl (by simp; omega)) fun q => .inr (by simp; omega)) fun g e kp hx => ?_
    obtain ⟨o, ho, hcl⟩ := hx
    refine wpAny_bind (wpAny_isInstance (T := "StopIteration") (b := true) ⟨o, ho, hcl⟩ isSubtype_stop (wpAny_pure ⟨rfl, ?_⟩))
    exact I.turnedL (t' := s.toks) (ch := [z, TI, TO, i1, i2]) (fun c o hb q => kp c o (fun e => hb (by simp [e])) (fun e => hb (by simp [e])) (fun e => hb (by simp [e])) (fun e => hb (by simp [e])) q) hf
theorem turnT_ez {P : Program} {w : World} {K : PySem.W.Frag} {elts : List Expr} {kk : Nat} {tpos : Pos} {a b e z TI TO i1 i2 : Addr} (D : ZipApart z TI TO i1 i2 a b) (ne : e ≠ z ∧ e ≠ TO ∧ e ≠ i1 ∧ e ≠ i2 ∧ e ≠ TI) :
    TurnT P w K (.Tuple elts kk tpos) (Itez K a b) (e :: [z, TI, TO, i1, i2]) e (fun T i h => ZTn z TI TO i1 i2 a b T i h ∧ ∃ old, IsEnum h e z (i : Nat) old) where
  obj := fun T i h st c hcm => by
    obtain ⟨st, old, he⟩ := st
    rcases List.mem_cons.mp hcm with rfl | hcm
    · exact ⟨_, he, fun v q => nomatch q⟩
    · exact st.obj c hcm
  keep := fun T i h h' st k => by
    obtain ⟨st, old, he⟩ := st
    exact ⟨st.keep fun c hc => k c (List.mem_cons_of_mem _ hc), old, k e List.mem_cons_self _ he⟩
  item := by
    intro X hP hw hK hc T i pins s σ H E I hf st tk hg
    subst hP hw hK
    obtain ⟨st, old, he⟩ := st
    obtain ⟨hz, hTI, hTO, h1, h2⟩ := id st
    obtain ⟨xs, ys, x, y, hqx, hqy, hx, hy⟩ := hg
    obtain ⟨its, rv, p, _⟩ := I.list hqx
    obtain ⟨its2, rv2, p2, _⟩ := I.list hqy
    obtain ⟨u, hu, ru⟩ := rv.get hx
    obtain ⟨u2, hu2, ru2⟩ := rv2.get hy
    have le : e < s.heap.objs.size := Heap.lt_size he
    have lt : ∀ c ∈ e :: [z, TI, TO, i1, i2], c < s.heap.objs.size := fun c hcm => by
      rcases List.mem_cons.mp hcm with rfl | hcm
      · exact le
      · obtain ⟨o, ho, _⟩ := st.obj c hcm
        exact Heap.lt_size ho
    refine ez_item he D hz (alive I tk) hTI h1 h2 p.isList p2.isList (x := u) (y := u2) (by simpa using hu) (by simpa using hu2) hTO ne fun g g' tk' T' a1 a1' a2 a3 a4 a5 a6 a7 b1 b2 b3 => ⟨_, rfl, ?_⟩
    refine wpAny_letOwnedTupleGo_enum (s := { s with heap := g', toks := tk' + 1 }) b1 fun g2 e2 sb => ?_
    have new1 : ObjOk X.prog X.w (upd H s.heap.objs.size (.tup [x, y])) g s.heap.objs.size (.tup [x, y]) := ⟨by show 2 ≤ sizeLine; decide, [u, u2], .cons ru (.cons ru2 .nil), ⟨_, a2, rfl, _, rfl⟩⟩
    have I1 : Inv X pins σ (upd H s.heap.objs.size (.tup [x, y])) { s with heap := g } := I.turnedNew (t' := s.toks) (ch := e :: [z, TI, TO, i1, i2]) (fun c o hb q => a7 c o (fun e => hb (by simp [e])) (fun e => hb (by simp [e])) (fun e => hb (by simp [e])) (fun e => hb (by simp [e])) q) hf (Nat.le_refl _) new1
    have k2 : ∀ b o, b ≠ e → g.get? b = some o → g2.get? b = some o := fun b o n q => (sb.2 b n).trans (b3 b o n q)
    have t2 : g2.get? (s.heap.objs.size + 1) = some { cls := .type "tuple", data := .seq #[.int i tk', .ref s.heap.objs.size] } := (sb.2 _ (Nat.ne_of_gt (Nat.lt_succ_of_lt le))).trans b2
    have n1 : (upd H s.heap.objs.size (.tup [x, y])) (s.heap.objs.size + 1) = none := by
      rw [upd_ne (Nat.succ_ne_self _)]
      exact I.hok.fresh (Nat.le_succ _)
    have new2 : ObjOk X.prog X.w (upd (upd H s.heap.objs.size (.tup [x, y])) (s.heap.objs.size + 1) (.tup [.int (i : Nat), .ref s.heap.objs.size])) g2 (s.heap.objs.size + 1) (.tup [.int (i : Nat), .ref s.heap.objs.size]) := ⟨by show 2 ≤ sizeLine; decide, [.int i tk', .ref s.heap.objs.size], .cons ⟨_, rfl⟩ (.cons rfl .nil), ⟨_, t2, rfl, _, rfl⟩⟩
    have hf1 : ∀ c ∈ [e], FpOk X pins (upd H s.heap.objs.size (.tup [x, y])) c := fun c hcm => by
      have hce : c = e := by simpa using hcm
      subst hce
      refine ⟨?_, (hf c List.mem_cons_self).2⟩
      rw [upd_ne (Nat.ne_of_lt le)]
      exact (hf c List.mem_cons_self).1
    have I2 : Inv X pins σ (upd (upd H s.heap.objs.size (.tup [x, y])) (s.heap.objs.size + 1) (.tup [.int (i : Nat), .ref s.heap.objs.size])) { s with heap := g2, toks := tk' + 1 } := I1.turnedNew (t' := tk' + 1) (ch := [e]) (fun c o hb q => k2 c o (fun e => hb (by simp [e])) q) hf1 (by show g.objs.size ≤ _; rw [a6]; exact Nat.le_refl _) new2
    refine ⟨.ref (s.heap.objs.size + 1), _, some T', I2, rfl, ⟨_, _, x, y, rfl, I.hok.fresh (Nat.le_refl _), Nat.succ_ne_self _, I.hok.fresh (Nat.le_succ _), rfl, fun l hl => by rw [I.list_inj hl hqx]; exact hx, fun l hl => by rw [I.list_inj hl hqy]; exact hy⟩, ⟨?_, .ref s.heap.objs.size, ?_⟩, fun t e3 => ?_, fun c hcm => ?_⟩
    · have z1 : ZTn z TI TO i1 i2 a b (some T') (i + 1) g := ⟨a1, a7 _ _ D.TIz D.TITO D.TIi1 D.TIi2 hTI, a5, a3, a4⟩
      refine z1.keep fun c hcm o q => k2 c o (fun e3 => ?_) q
      subst e3
      simp only [List.mem_cons, List.not_mem_nil, or_false] at hcm
      rcases hcm with h | h | h | h | h
      · exact ne.1 h
      · exact ne.2.2.2.2 h
      · exact ne.2.1 h
      · exact ne.2.2.1 h
      · exact ne.2.2.2.1 h
    · have q : ((i + 1 : Nat) : Int) = (i : Int) + 1 := by omega
      rw [q]
      exact e2
    · cases e3
      rcases a1' with e4 | e4
      · obtain ⟨zs, hq⟩ := tk _ e4
        refine ⟨zs, ?_⟩
        have f1 : H s.heap.objs.size = none := I.hok.fresh (Nat.le_refl _)
        have f2 : H (s.heap.objs.size + 1) = none := I.hok.fresh (Nat.le_succ _)
        rw [upd_ne (fun e5 => by rw [e5, f2] at hq; cases hq), upd_ne (fun e5 => by rw [e5, f1] at hq; cases hq)]
        exact hq
      · rw [e4, upd_ne (Nat.ne_of_lt (Nat.lt_succ_self _)), upd_same]; exact ⟨_, rfl⟩
    · have hl := lt c hcm
      rw [upd_ne (Nat.ne_of_lt (Nat.lt_succ_of_lt hl)), upd_ne (Nat.ne_of_lt hl)]
      exact (hf c hcm).1
  done := by
    intro X hP hw hK hc T i pins s σ H E I hf st tk hg
    subst hP hw hK
    obtain ⟨st, old, he⟩ := st
    obtain ⟨hz, hTI, hTO, h1, h2⟩ := st
    obtain ⟨xs, ys, hqx, hqy, hend⟩ := hg
    obtain ⟨its, rv, p, _⟩ := I.list hqx
    obtain ⟨its2, rv2, p2, _⟩ := I.list hqy
    have l1 := rv.length
    have l2 := rv2.length
    refine ez_stop (I.ok.hd hc) he D hz (alive I tk) hTI h1 h2 p.isList p2.isList (hend.elim (fun q => .inl (by simp; omega)) fun q => .inr (by simp; omega)) fun g kp => ⟨rfl, ?_⟩
    exact I.turnedL (t' := s.toks) (ch := e :: [z, TI, TO, i1, i2]) (fun c o hb q => kp c o (fun e => hb (by simp [e])) (fun e => hb (by simp [e])) (fun e => hb (by simp [e])) (fun e => hb (by simp [e])) q) hf
section
variable {X : Cx} {e e2 : Expr} {ta : TA} {p p2 pos pos2 tpos : Pos}
theorem pi_zipT {nm : Str} (hg : Gl X "zip") (hm : X.mg "zip" = none) (ha : PA X [e, e2] ta) (hs : starEach [e, e2] X.env = (false, eval e X.env) :: starEach [e2] X.env := by rfl) (hpl : (backTo pos (starEach [e2] X.env)).any (·.1) = false := by rfl) :
    PIT X (.Name nm tpos) (.Call (.Name "zip" p) [e, e2] [] pos) (iZip X.K ta) := by
  refine ⟨fun pins s σ H R I h => Call_ (ld_blt I hg hm PyProof.Rows.boot_zip (PyProof.Rows.callWith_type1 (thn (ha.run pos pins s σ H _ I h) fun us s1 h1 => ?_) hs hpl))⟩
  obtain ⟨vs, H1, I1, r1, a, b, xs, ys, ex, hqx, hqy, q⟩ := h1
  subst ex
  cases r1 with
  | cons r rr =>
    cases rr with
    | cons r' rr =>
      cases rr; cases r; cases r'
      obtain ⟨its, rv, p1, _⟩ := I1.list hqx
      obtain ⟨its2, rv2, p2, _⟩ := I1.list hqy
      refine call_zip_2 p1.isList p2.isList fun h' hz hTI hTO h1 h2 hsz hk => wpAny_pyIter_zip hz ⟨_, _, _, _, H1, rfl, I1.kept (t' := s1.toks) hk, turnT_zip (PySem.W.ktu_apart s1.heap.objs.size a b p1.lt p2.lt), ⟨⟨hz, _, _, hTO⟩, hTI, ⟨_, hTO, fun v q => nomatch q⟩, h1, h2⟩, fun c hcm => ?_, q⟩
      have hle : s1.heap.objs.size ≤ c := by
        simp only [List.mem_cons, List.not_mem_nil, or_false] at hcm
        rcases hcm with z | z | z | z | z <;> rw [z] <;> first | exact Nat.le_add_right _ _ | exact Nat.le_refl _
      exact I1.fpOk hle (I1.hok.fresh hle)
theorem pi_enumZip {elts : List Expr} {kk : Nat} (hg : Gl X "zip") (hm : X.mg "zip" = none) (hg2 : Gl X "enumerate") (hm2 : X.mg "enumerate" = none) (ha : PA X [e, e2] ta) (hs : starEach [e, e2] X.env = (false, eval e X.env) :: starEach [e2] X.env := by rfl) (hpl : (backTo pos (starEach [e2] X.env)).any (·.1) = false := by rfl)
    (hs2 : starEach [.Call (.Name "zip" p) [e, e2] [] pos] X.env = (false, eval (.Call (.Name "zip" p) [e, e2] [] pos) X.env) :: starEach [] X.env := by rfl) :
    PIT X (.Tuple elts kk tpos) (.Call (.Name "enumerate" p2) [.Call (.Name "zip" p) [e, e2] [] pos] [] pos2) (fun σ H R => ta σ H fun vs H1 => ∃ a b xs ys, vs = [.ref a, .ref b] ∧ SqL X.K H1 a xs ∧ SqL X.K H1 b ys ∧ R (Itez X.K a b) H1) := by
  refine ⟨fun pins s σ H R I h => Call_ (ld_blt I hg2 hm2 boot_enumerate (PyProof.Rows.callWith_type1 (args_cons (Call_ (ld_blt I hg hm PyProof.Rows.boot_zip (PyProof.Rows.callWith_type1 (thn (ha.run pos pins s σ H _ I h) fun us s1 h1 => ?_) hs hpl))) hs2) hs2 rfl))⟩
  obtain ⟨vs, H1, I1, r1, a, b, xs, ys, ex, hqx, hqy, q⟩ := h1
  subst ex
  cases r1 with
  | cons r rr =>
    cases rr with
    | cons r' rr =>
      cases rr; cases r; cases r'
      obtain ⟨its, rv, p1, _⟩ := I1.list hqx
      obtain ⟨its2, rv2, p2, _⟩ := I1.list hqy
      refine call_zip_2 p1.isList p2.isList fun h' hz hTI hTO h1 h2 hsz hk => args_nil ?_
      refine call_enumZ (s := { s1 with heap := h' }) hz fun g he hsz2 hk2 => wpAny_pyIter_enum he ?_
      refine ⟨_, _, _, _, H1, rfl, I1.kept (t' := s1.toks) fun b o q => hk2 b o (hk b o q), turnT_ez (PySem.W.ktu_apart s1.heap.objs.size a b p1.lt p2.lt) ?_, ⟨⟨⟨hk2 _ _ hz, _, _, hk2 _ _ hTO⟩, hk2 _ _ hTI, ⟨_, hk2 _ _ hTO, fun v q => nomatch q⟩, h1.at fun o q => hk2 _ _ q, h2.at fun o q => hk2 _ _ q⟩, _, he⟩, fun c hcm => ?_, q⟩
      · show h'.objs.size ≠ _ ∧ h'.objs.size ≠ _ ∧ h'.objs.size ≠ _ ∧ h'.objs.size ≠ _ ∧ h'.objs.size ≠ _
        rw [hsz]
        exact lt5 s1.heap.objs.size
      · have hle : s1.heap.objs.size ≤ c := by
          rcases List.mem_cons.mp hcm with z | hcm
          · rw [z]; show _ ≤ h'.objs.size; rw [hsz]; exact Nat.le_add_right _ _
          · simp only [List.mem_cons, List.not_mem_nil, or_false] at hcm
            rcases hcm with z | z | z | z | z <;> rw [z] <;> first | exact Nat.le_add_right _ _ | exact Nat.le_refl _
        exact I1.fpOk hle (I1.hok.fresh hle)
end
end Jr
namespace Jr
open PySem PySem.Spec PyProof.Rows L2
/-! ### what is wrong with a row of pieces -/
def idleAt (rs : Rws) (ys : List Str) : Option Nat := ys.findIdx? fun p => !decide (sweep rs p = [p])
def fitP (rs : Rws) (q : Str × Str) : Bool := decide (sweep rs (q.1 ++ q.2) = [q.1, q.2])
def badAt (rs : Rws) (ys : List Str) : Option Nat := (ys.zip (ys.drop 1)).findIdx? fun q => !fitP rs q
inductive Amiss (rs : Rws) (ys : List Str) : Option (Str × Nat) → Prop
  | alone {k : Nat} : idleAt rs ys = some k → Amiss rs ys (some ("alone", k))
  | border {k : Nat} : idleAt rs ys = none → badAt rs ys = some k → Amiss rs ys (some ("border", k))
  | none : idleAt rs ys = none → badAt rs ys = none → Amiss rs ys none
def amissV (H : Hp) (o : Option (Str × Nat)) (v : V) : Prop := match o with
  | none => v = .non
  | some (s, k) => ∃ t, v = .ref t ∧ H t = some (.tup [.str s, .int (k : Nat)])
/-- a row that nothing is wrong with is the cutting of its text -/
theorem sweep_join : ∀ {z : Str} {rs : Rws} (_ : TabOk z rs) (ys : List Str), (∀ p ∈ ys, sweep rs p = [p]) → (∀ q ∈ ys.zip (ys.drop 1), sweep rs (q.1 ++ q.2) = [q.1, q.2]) → sweep rs (mkS (flat ys)) = ys
  | _, rs, _, [], _, _ => sweep_zero (by rw [mkS_len]; rfl)
  | _, rs, T, [p], h, _ => by
    have e : mkS (flat [p]) = p := str_ext (by rw [mkS_cps, flat_cons]; simp [flat])
    rw [e]
    exact h p List.mem_cons_self
  | _, rs, T, p :: q :: ys, h, f => by
    have ih := sweep_join T (q :: ys) (fun x hx => h x (List.mem_cons_of_mem _ hx)) (fun x hx => f x (List.mem_cons_of_mem _ hx))
    have e : mkS (flat (p :: q :: ys)) = p ++ mkS (flat (q :: ys)) := str_ext (by rw [app_cps, mkS_cps, mkS_cps, flat_cons])
    have a := h p List.mem_cons_self
    rw [e, (split_near T (l := p) (r := q) (by rw [a]; rfl) (by rw [ih]; rfl)).mpr (f (p, q) List.mem_cons_self), a, ih]
    rfl
theorem zip_split {α : Type} : ∀ (ys : List α) (q : α × α), q ∈ ys.zip (ys.drop 1) → ∃ A B, ys = A ++ q.1 :: q.2 :: B
  | [], q, h => by cases h
  | [a], q, h => by simp at h
  | a :: b :: ys, q, h => by
    rcases List.mem_cons.mp (show q ∈ (a, b) :: (b :: ys).zip ((b :: ys).drop 1) from h) with e | h
    · subst e
      exact ⟨[], ys, rfl⟩
    · obtain ⟨A, B, e⟩ := zip_split (b :: ys) q h
      exact ⟨a :: A, B, by rw [e]; rfl⟩
theorem cut_fits {z : Str} {rs : Rws} (T : TabOk z rs) {t : Str} : (∀ p ∈ sweep rs t, sweep rs p = [p]) ∧ ∀ q ∈ (sweep rs t).zip ((sweep rs t).drop 1), sweep rs (q.1 ++ q.2) = [q.1, q.2] := by
  refine ⟨fun p hp => way_alone hp, fun q hq => ?_⟩
  obtain ⟨A, B, e⟩ := zip_split _ q hq
  have e' : sweep rs t = (A ++ [q.1]) ++ (q.2 :: B) := by rw [e]; simp
  obtain ⟨e1, e2⟩ := sweep_split e'
  have e3 : sweep rs (preS t (flat (A ++ [q.1])).length ++ sufS t (flat (A ++ [q.1])).length) = sweep rs (preS t (flat (A ++ [q.1])).length) ++ sweep rs (sufS t (flat (A ++ [q.1])).length) := by rw [pre_suf, e1, e2, e']
  exact (split_near T (l := q.1) (r := q.2) (by rw [e1]; exact List.getLast?_concat) (by rw [e2]; rfl)).mp e3
theorem idle_none {rs : Rws} {ys : List Str} : idleAt rs ys = none ↔ ∀ p ∈ ys, sweep rs p = [p] := by
  unfold idleAt
  rw [List.findIdx?_eq_none_iff]
  simp
theorem bad_none {rs : Rws} {ys : List Str} : badAt rs ys = none ↔ ∀ q ∈ ys.zip (ys.drop 1), sweep rs (q.1 ++ q.2) = [q.1, q.2] := by
  unfold badAt fitP
  rw [List.findIdx?_eq_none_iff]
  simp
/-- nothing is wrong just with the cutting -/
theorem amiss_none {z : Str} {rs : Rws} (T : TabOk z rs) {ys : List Str} : Amiss rs ys none ↔ sweep rs (mkS (flat ys)) = ys := by
  constructor
  · intro h
    cases h with
    | none h1 h2 => exact sweep_join T ys (idle_none.mp h1) (bad_none.mp h2)
  · intro h
    obtain ⟨a, b⟩ := cut_fits T (t := mkS (flat ys))
    rw [h] at a b
    exact .none (idle_none.mpr a) (bad_none.mpr b)
section
variable {K : PySem.W.Frag} {a b : Addr} {xs ys : List V} {g : TG} {tb : TS} {D : Ends} {σ : L2.St} {H : Hp}
theorem for_ez (Pv : Nat → L2.St → Hp → Prop) (h0 : Pv 0 σ H) (hl : ∀ i σ H, Pv i σ H → SqL K H a xs ∧ SqL K H b ys)
    (hs : ∀ i x y T S σ H H', xs[i]? = some x → ys[i]? = some y → Same H H' → H' T = some (.tup [x, y]) → H' S = some (.tup [.int (i : Nat), .ref T]) → Pv i σ H → g (.ref S) σ H' fun σ2 H2 => tb { D with nx := fun σ' H3 => TupKeep H' H3 ∧ Pv (i + 1) σ' H3, ct := fun σ' H3 => TupKeep H' H3 ∧ Pv (i + 1) σ' H3, bk := D.nx } σ2 H2)
    (hd : ∀ i σ H, (xs.length ≤ i ∨ ys.length ≤ i) → Pv i σ H → D.nx σ H) :
    ∃ W : Nat → Nat → L2.St → Hp → Prop, (∃ m, W 0 m σ H) ∧ ∀ i m σ H, W i m σ H → ((Itez K a b).stop i H ∧ D.nx σ H) ∨ ((Itez K a b).go i H ∧ ∃ N : L2.St → Hp → Prop, (∀ σ' H', N σ' H' → ∃ m', m' < m ∧ W (i + 1) m' σ' H') ∧ ∀ x H', (Itez K a b).yld i H x H' → g x σ H' fun σ2 H2 =>
      tb { D with nx := fun σ' H3 => TupKeep H' H3 ∧ N σ' H3, ct := fun σ' H3 => TupKeep H' H3 ∧ N σ' H3, bk := D.nx } σ2 H2) := by
  refine ⟨fun i m σ H => m = xs.length - i ∧ Pv i σ H, ⟨_, rfl, h0⟩, ?_⟩
  rintro i m σ H ⟨rfl, p⟩
  obtain ⟨qx, qy⟩ := hl i σ H p
  by_cases c : i < xs.length ∧ i < ys.length
  · refine .inr ⟨⟨xs, ys, xs[i], ys[i], qx, qy, List.getElem?_eq_getElem c.1, List.getElem?_eq_getElem c.2⟩, Pv (i + 1), fun σ' H' p' => ⟨xs.length - (i + 1), by omega, rfl, p'⟩, fun v H' y => ?_⟩
    obtain ⟨T, S, x, y, rfl, hT, ne, hS, rfl, hx, hy⟩ := y
    have hS' : (upd H T (.tup [x, y])) S = none := by rw [upd_ne ne]; exact hS
    refine hs i x y T S σ H _ (hx xs qx) (hy ys qy) ((Same.new hT).trans (Same.new hS')) ?_ upd_same p
    rw [upd_ne (Ne.symm ne), upd_same]
  · refine .inl ⟨⟨xs, ys, qx, qy, by omega⟩, hd i σ H (by omega) p⟩
theorem for_zt (Pv : Nat → L2.St → Hp → Prop) (h0 : Pv 0 σ H) (hl : ∀ i σ H, Pv i σ H → SqL K H a xs ∧ SqL K H b ys)
    (hs : ∀ i x y T σ H H', xs[i]? = some x → ys[i]? = some y → H T = none → Same H H' → H' T = some (.tup [x, y]) → Pv i σ H → g (.ref T) σ H' fun σ2 H2 => tb { D with nx := fun σ' H3 => TupKeep H' H3 ∧ Pv (i + 1) σ' H3, ct := fun σ' H3 => TupKeep H' H3 ∧ Pv (i + 1) σ' H3, bk := D.nx } σ2 H2)
    (hd : ∀ i σ H, (xs.length ≤ i ∨ ys.length ≤ i) → Pv i σ H → D.nx σ H) :
    ∃ W : Nat → Nat → L2.St → Hp → Prop, (∃ m, W 0 m σ H) ∧ ∀ i m σ H, W i m σ H → ((Itz K a b).stop i H ∧ D.nx σ H) ∨ ((Itz K a b).go i H ∧ ∃ N : L2.St → Hp → Prop, (∀ σ' H', N σ' H' → ∃ m', m' < m ∧ W (i + 1) m' σ' H') ∧ ∀ x H', (Itz K a b).yld i H x H' → g x σ H' fun σ2 H2 =>
      tb { D with nx := fun σ' H3 => TupKeep H' H3 ∧ N σ' H3, ct := fun σ' H3 => TupKeep H' H3 ∧ N σ' H3, bk := D.nx } σ2 H2) := by
  refine ⟨fun i m σ H => m = xs.length - i ∧ Pv i σ H, ⟨_, rfl, h0⟩, ?_⟩
  rintro i m σ H ⟨rfl, p⟩
  obtain ⟨qx, qy⟩ := hl i σ H p
  by_cases c : i < xs.length ∧ i < ys.length
  · refine .inr ⟨⟨xs, ys, xs[i], ys[i], qx, qy, List.getElem?_eq_getElem c.1, List.getElem?_eq_getElem c.2⟩, Pv (i + 1), fun σ' H' p' => ⟨xs.length - (i + 1), by omega, rfl, p'⟩, fun v H' y => ?_⟩
    obtain ⟨T, x, y, rfl, hT, rfl, hx, hy⟩ := y
    exact hs i x y T σ H _ (hx xs qx) (hy ys qy) hT (Same.new hT) upd_same p
  · refine .inl ⟨⟨xs, ys, qx, qy, by omega⟩, hd i σ H (by omega) p⟩
end
end Jr
namespace Jr
open PySem PySem.Spec PyProof.Rows L2
/-! ### borders of the cuttings of a text's beginnings -/
def Bord (rs : Rws) (t : Str) (n m : Nat) : Prop := m ≤ n ∧ ∃ B, sweep rs (preS t n) = sweep rs (preS t m) ++ B
theorem Bord.refl (rs : Rws) (t : Str) (n : Nat) : Bord rs t n n := ⟨Nat.le_refl _, [], by simp⟩
theorem Bord.zero (rs : Rws) (t : Str) (n : Nat) : Bord rs t n 0 := ⟨Nat.zero_le _, _, by rw [sweep_zero (t := preS t 0) (by rw [preS_len t (Nat.zero_le _)])]; rfl⟩
theorem Bord.trans {rs : Rws} {t : Str} {n m k : Nat} (h : Bord rs t n m) (g : Bord rs t m k) : Bord rs t n k := by
  obtain ⟨a, B, e⟩ := h
  obtain ⟨b, C, f⟩ := g
  exact ⟨Nat.le_trans b a, C ++ B, by rw [e, f, List.append_assoc]⟩
theorem flat_nil {z : Str} {rs : Rws} (T : TabOk z rs) {L : List Str} (hL : ∀ p ∈ L, p ∈ pcs z rs) (h : (flat L).length = 0) : L = [] := by
  cases L with
  | nil => rfl
  | cons p L =>
    rw [flat_clen] at h
    have := (T.plen (hL p List.mem_cons_self)).1
    omega
theorem Bord.len {rs : Rws} {t : Str} {n m : Nat} {B : List Str} (hn : n ≤ t.length) (hm : m ≤ n) (e : sweep rs (preS t n) = sweep rs (preS t m) ++ B) : n = m + (flat B).length := by
  have := sweep_len rs (preS t n)
  rw [e, flat_len_app, sweep_len, preS_len t hn, preS_len t (by omega)] at this
  omega
/-- of two borders the lesser one is one of what is ahead of the other -/
theorem Bord.chain {z : Str} {rs : Rws} (T : TabOk z rs) {t : Str} (tx : TextOf z t) {n m k : Nat} (hn : n ≤ t.length) (h : Bord rs t n m) (g : Bord rs t n k) (hk : k ≤ m) : Bord rs t m k := by
  obtain ⟨a, B, e⟩ := h
  obtain ⟨b, C, f⟩ := g
  have ef := e.symm.trans f
  rcases List.append_eq_append_iff.mp ef with ⟨A', e1, e2⟩ | ⟨C', e1, e2⟩
  · have l1 := Bord.len hn a e
    have l2 := Bord.len hn b f
    rw [e2, flat_len_app] at l1
    have hA : A' = [] := flat_nil T (fun p hp => sweep_pc (text_pre tx n) (by rw [e, e2]; exact List.mem_append_right _ (List.mem_append_left _ hp))) (by omega)
    rw [hA, List.append_nil] at e1
    exact ⟨hk, [], by rw [e1, List.append_nil]⟩
  · exact ⟨hk, C', e1⟩
theorem Bord.back {z : Str} {rs : Rws} (T : TabOk z rs) {t : Str} (tx : TextOf z t) {n k : Nat} {p : Str} (hn : n ≤ t.length) (e : lastO rs t n = some p) (h : Bord rs t n k) (hk : k < n) : Bord rs t (n - p.length) k := by
  have b := back_step hn e
  obtain ⟨_, B, f⟩ := id h
  have l := Bord.len hn h.1 f
  have : B ≠ [] := fun q => by rw [q] at l; simp [flat] at l; omega
  obtain ⟨B2, y, rfl⟩ : ∃ B2 y, B = B2 ++ [y] := ⟨B.dropLast, B.getLast this, (List.dropLast_concat_getLast this).symm⟩
  rw [b, ← List.append_assoc] at f
  obtain ⟨e1, _⟩ := List.append_inj' f rfl
  refine ⟨?_, B2, e1⟩
  have pl := (lastO_mid hn e).2
  have l2 := sweep_len rs (preS t (n - p.length))
  rw [e1, flat_len_app, sweep_len, preS_len t (by omega), preS_len t (by omega)] at l2
  omega
theorem Bord.last {rs : Rws} {t : Str} {n : Nat} {p : Str} (hn : n ≤ t.length) (e : lastO rs t n = some p) : Bord rs t n (n - p.length) := ⟨by omega, [p], back_step hn e⟩
/-- where two chains of borders meet -/
structure Meets (rs : Rws) (t : Str) (a b m : Nat) : Prop where
  one : Bord rs t a m
  two : Bord rs t b m
  top : ∀ k, Bord rs t a k → Bord rs t b k → Bord rs t m k
/-! ### ways on: pieces that may stand over the end -/
structure Way (z : Str) (rs : Rws) (t : Str) (w : Nat × Str) : Prop where
  lt : w.1 < t.length
  al : w.2 ∈ pcs z rs ∧ sweep rs w.2 = [w.2]
  pre : ∃ d, w.2 = sufS t w.1 ++ d ∧ 1 ≤ d.length
  fit : w.1 = 0 ∨ ∃ l, lastO rs t w.1 = some l ∧ sweep rs (l ++ w.2) = [l, w.2]
/-- the last place up to which all is sure -/
structure Sure (z : Str) (rs : Rws) (t : Str) (s : Nat) : Prop where
  own : Bord rs t t.length s
  way : ∀ w, Way z rs t w → Bord rs t w.1 s
  top : ∀ k, Bord rs t t.length k → (∀ w, Way z rs t w → Bord rs t w.1 k) → Bord rs t s k
theorem split_at (n : Nat) : ∀ L : List Str, ∃ A C, L = A ++ C ∧ (flat A).length ≤ n ∧ ∀ p C', C = p :: C' → n < (flat A).length + p.length
  | [] => ⟨[], [], rfl, Nat.zero_le _, fun p C' e => by cases e⟩
  | x :: L => by
    by_cases c : x.length ≤ n
    · obtain ⟨A, C, e, h1, h2⟩ := split_at (n - x.length) L
      refine ⟨x :: A, C, by rw [e]; rfl, by rw [flat_clen]; omega, fun p C' q => ?_⟩
      have := h2 p C' q
      rw [flat_clen]; omega
    · exact ⟨[], x :: L, rfl, Nat.zero_le _, fun p C' q => by
        have : x = p := (List.cons.inj q).1
        subst this
        show n < 0 + x.length
        omega⟩
theorem pre_of_pre {u t : Str} {n : Nat} (h : preS u t.length = t) (hn : n ≤ t.length) : preS u n = preS t n := str_ext (by
  rw [← h, preS_cps, preS_cps, preS_cps, List.take_take, Nat.min_eq_left]
  exact hn)
theorem way_of {z : Str} {rs : Rws} (T : TabOk z rs) {u t q : Str} {A C : List Str} (tu : TextOf z u) (h : preS u t.length = t) (e : sweep rs u = A ++ q :: C) (h1 : (flat A).length < t.length) (h2 : t.length < (flat A).length + q.length) : Way z rs t ((flat A).length, q) := by
  have hq : q ∈ sweep rs u := by rw [e]; exact List.mem_append_right _ List.mem_cons_self
  obtain ⟨e1, e2⟩ := sweep_split e
  obtain ⟨f1, f2, f3⟩ := sweep_first e2
  have lu := sweep_len rs u
  rw [e, flat_len_app, flat_clen] at lu
  refine ⟨h1, ⟨sweep_pc tu hq, f2⟩, ⟨mkS (q.cps.toList.drop (t.length - (flat A).length)), ?_, ?_⟩, ?_⟩
  · refine str_ext ?_
    rw [app_cps, mkS_cps, sufS_cps]
    have g : t.cps.toList.drop (flat A).length = q.cps.toList.take (t.length - (flat A).length) := by
      rw [← h, ← f1, preS_cps, preS_cps, sufS_cps, List.take_take, Nat.min_eq_left (by rw [h]; omega), List.drop_take, h]
    rw [g, List.take_append_drop]
  · rw [mkS_len, List.length_drop, len_cps]; omega
  · by_cases c : (flat A).length = 0
    · exact .inl c
    · right
      have ep := pre_of_pre h (Nat.le_of_lt h1)
      rw [ep] at e1
      obtain ⟨l, hl⟩ := lastO_some (rs := rs) (t := t) (n := (flat A).length) (by omega) (Nat.le_of_lt h1)
      refine ⟨l, hl, ?_⟩
      have hl' : A.getLast? = some l := by rw [← e1]; exact hl
      have hz : (l, q) ∈ (sweep rs u).zip ((sweep rs u).drop 1) := by
        obtain ⟨A2, rfl⟩ := List.getLast?_eq_some_iff.mp hl'
        rw [e]
        have : ∀ A2 : List Str, (l, q) ∈ ((A2 ++ [l]) ++ q :: C).zip (((A2 ++ [l]) ++ q :: C).drop 1) := fun A2 => by
          induction A2 with
          | nil => exact List.mem_cons_self
          | cons a A2 ih =>
            cases A2 with
            | nil => exact List.mem_cons_of_mem _ ih
            | cons b A3 => exact List.mem_cons_of_mem _ ih
        exact this A2
      exact (cut_fits T (t := u)).2 (l, q) hz
/-- what is sure stays, whatever comes -/
theorem Sure.stays {z : Str} {rs : Rws} (T : TabOk z rs) {u t : Str} {s : Nat} (S : Sure z rs t s) (tu : TextOf z u) (h : preS u t.length = t) (hl : t.length ≤ u.length) : ∃ B, sweep rs u = sweep rs (preS t s) ++ B := by
  obtain ⟨A, C, e, h1, h2⟩ := split_at t.length (sweep rs u)
  have e0 := (sweep_split e).1
  rw [pre_of_pre h h1] at e0
  have lu := sweep_len rs u
  rw [e, flat_len_app] at lu
  by_cases c : (flat A).length = t.length
  · rw [c] at e0
    obtain ⟨_, B, f⟩ := S.own
    exact ⟨B ++ C, by rw [e, ← e0, f, List.append_assoc]⟩
  · cases C with
    | nil =>
      have : (flat ([] : List Str)).length = 0 := rfl
      omega
    | cons q C =>
      have w := way_of T tu h e (by omega) (h2 q C rfl)
      obtain ⟨_, B, f⟩ := S.way _ w
      have f' : sweep rs (preS t (flat A).length) = sweep rs (preS t s) ++ B := f
      exact ⟨B ++ q :: C, by rw [e, ← e0, f', List.append_assoc]⟩
theorem Way.cut {z : Str} {rs : Rws} (T : TabOk z rs) {t : Str} {w : Nat × Str} (W : Way z rs t w) : sweep rs (preS t w.1 ++ w.2) = sweep rs (preS t w.1) ++ [w.2] := by
  rcases W.fit with h | ⟨l, hl, h⟩
  · have e : preS t w.1 ++ w.2 = w.2 := str_ext (by rw [app_cps, preS_cps, h]; rfl)
    rw [e, sweep_zero (t := preS t w.1) (by rw [h, preS_len t (Nat.zero_le _)]), W.al.2]; rfl
  · rw [(split_near T (l := l) (r := w.2) hl (by rw [W.al.2]; rfl)).mpr h, W.al.2]
theorem Way.ext {z : Str} {rs : Rws} {t : Str} {w : Nat × Str} (W : Way z rs t w) : ∃ d, preS t w.1 ++ w.2 = t ++ d ∧ 1 ≤ d.length := by
  obtain ⟨d, e, h⟩ := W.pre
  exact ⟨d, by rw [e, ← app_assoc, pre_suf], h⟩
theorem pre_app (t d : Str) : preS (t ++ d) t.length = t := str_ext (by rw [preS_cps, app_cps, ← len_cps t]; simp)
theorem pc_text0 {z : Str} {rs : Rws} (T : TabOk z rs) {p : Str} (h : p ∈ pcs z rs) : TextOf z p := by
  have key : ∀ n, n ≤ rs.length → ∀ p ∈ pcs z (rs.take n), TextOf z p := fun n => by
    induction n with
    | zero =>
      intro _ p hp
      have hp2 : p ∈ sgs z ++ [] := hp
      rw [List.append_nil] at hp2
      obtain ⟨c, hc, rfl⟩ := List.mem_map.mp hp2
      intro d hd
      have : d = c := by simpa [sgn] using hd
      rw [this]; exact hc
    | succ n ih =>
      intro hn p hp
      have hx : rs[n]? = some rs[n] := List.getElem?_eq_getElem (by omega)
      rw [List.take_add_one, hx] at hp
      have hp2 : p ∈ pcs z (rs.take n ++ [rs[n]]) := hp
      rw [pcs_snoc] at hp2
      rcases List.mem_append.mp hp2 with q | q
      · exact ih (by omega) p q
      · rw [List.mem_singleton.mp q]
        have o := T.rows n _ hx
        exact text_app (ih (by omega) _ o.lm) (ih (by omega) _ o.rm)
  have := key rs.length (Nat.le_refl _) p
  rw [List.take_length] at this
  exact this h
/-- the sure place rises -/
theorem Sure.rises {z : Str} {rs : Rws} (T : TabOk z rs) {t d : Str} {s s' : Nat} (tx : TextOf z (t ++ d)) (S : Sure z rs t s) (S' : Sure z rs (t ++ d) s') : Bord rs (t ++ d) s' s := by
  have sl : s ≤ t.length := S.own.1
  have ep : preS (t ++ d) s = preS t s := pre_of_pre (pre_app t d) sl
  have la := app_len t d
  refine S'.top s ⟨by omega, ?_⟩ fun w W => ?_
  · obtain ⟨B, e⟩ := S.stays T tx (pre_app t d) (by omega)
    exact ⟨B, by rw [preS_all _ (Nat.le_refl _), ep]; exact e⟩
  · obtain ⟨d2, e2, h2⟩ := W.ext
    have c := W.cut T
    have tu : TextOf z ((t ++ d) ++ d2) := by rw [← e2]; exact text_app (text_pre tx _) (pc_text0 T W.al.1)
    have le := app_len (t ++ d) d2
    rw [app_assoc] at e2 tu le
    obtain ⟨B, e⟩ := S.stays T tu (pre_app t (d ++ d2)) (by omega)
    rw [← e2, c] at e
    have l1 := congrArg (fun l => (flat l).length) e
    simp only [flat_len_app, flat_one, sweep_len] at l1
    have le2 := congrArg Str.length e2
    rw [app_len] at le2
    have hw := W.lt
    rw [preS_len t sl] at l1
    rw [preS_len (t ++ d) (Nat.le_of_lt hw)] at l1 le2
    have nb : B ≠ [] := fun q => by rw [q] at l1; simp [flat] at l1; omega
    obtain ⟨B2, y, rfl⟩ : ∃ B2 y, B = B2 ++ [y] := ⟨B.dropLast, B.getLast nb, (List.dropLast_concat_getLast nb).symm⟩
    rw [← List.append_assoc] at e
    obtain ⟨e1, ey⟩ := List.append_inj' e rfl
    have ey2 : w.2 = y := by simpa using ey
    subst ey2
    rw [flat_len_app, flat_one] at l1
    refine ⟨by omega, B2, ?_⟩
    rw [ep]; exact e1
theorem Sure.empty (z : Str) (rs : Rws) {t : Str} (h : t.length = 0) : Sure z rs t 0 := by
  refine ⟨Bord.zero rs t _, fun w W => Bord.zero rs t _, fun k hk _ => ?_⟩
  have : k = 0 := by have := hk.1; omega
  rw [this]; exact Bord.refl rs t 0
end Jr
namespace Jr
open PySem PySem.Spec PyProof.Rows L2
/-- a patch told anew: its lists are new ones -/
def PatchN (H H' : Hp) (t : Addr) (p : Patch) : Prop := ∃ a b : Addr, H t = none ∧ H a = none ∧ H b = none ∧ a ≠ b ∧ H' t = some (.tup [.int ((p.first : Nat) : Int), .ref a, .ref b]) ∧ H' a = some (.lst (p.out.map V.str)) ∧ H' b = some (.lst (p.into.map V.str))
theorem PatchN.at_ {H H' : Hp} {t : Addr} {p : Patch} (h : PatchN H H' t p) : PatchAt H' t p := by
  obtain ⟨a, b, _, _, _, _, h1, h2, h3⟩ := h
  exact ⟨a, b, h1, h2, h3⟩
theorem PatchN.before {H H0 H' : Hp} {t : Addr} {p : Patch} (h : PatchN H H' t p) (s : Same H0 H) : PatchN H0 H' t p := by
  obtain ⟨a, b, h0, h1, h2, h3, h4⟩ := h
  exact ⟨a, b, s.free h0, s.free h1, s.free h2, h3, h4⟩
theorem PatchN.after {H H' H'' : Hp} {t : Addr} {p : Patch} (h : PatchN H H' t p) (s : Same H' H'') : PatchN H H'' t p := by
  obtain ⟨a, b, h0, h1, h2, h3, h4, h5, h6⟩ := h
  exact ⟨a, b, h0, h1, h2, h3, s _ _ h4, s _ _ h5, s _ _ h6⟩
/-- a text, changed -/
def chgT (t : Str) (pl gn : Nat) (put : Str) : Str := preS t pl ++ put ++ sufS t (pl + gn)
theorem chgT_text {z t put : Str} (tx : TextOf z t) (hp : TextOf z put) (pl gn : Nat) : TextOf z (chgT t pl gn put) := text_app (text_app (text_pre tx pl) hp) (text_suf tx _)
theorem chgT_len (t put : Str) {pl gn : Nat} (h1 : pl ≤ t.length) (h2 : gn ≤ t.length - pl) : (chgT t pl gn put).length = t.length - gn + put.length := by
  unfold chgT
  rw [app_len, app_len, preS_len t h1, sufS_len]
  omega
section
variable {P : Program} {w : World} {K : PySem.W.Frag} {mg : Str → Option Value} {base : Heap}
def spChgT : Sp := fun vs H Q _ => ∃ (t put : Str) (pl gn : Nat), vs = [.str t, .int (pl : Nat), .int (gn : Nat), .str put] ∧ pl ≤ t.length ∧ gn ≤ t.length - pl ∧ t.length ≤ 10000 ∧ put.length ≤ 10000 ∧ Q (.str (chgT t pl gn put)) H
theorem cal_changed_text (T : Tx K mg) : Cal P w K mg base CX0 1 "changed_text" spChgT := by
  obtain ⟨fd, F⟩ := T.d_changed_text
  refine ⟨_, fd, P_changed_text, F.ok sc_changed_text (fun vs H Q E h => ?_) (fun cdv A outer s H vs Q E hr h => ?_), T.g_changed_text, F.kp, F.bindsN (ps := P_changed_text) fun _ _ _ _ _ _ us hl => match us, hl with | [_, _, _, _], _ => rfl⟩
  · obtain ⟨t, put, pl, gn, rfl, _⟩ := h
    rfl
  · obtain ⟨t, put, pl, gn, rfl, h1, h2, h3, h4, k⟩ := h
    refine ⟨_, (PSs.nox (pss_one (ps_ret (pe_op op_add_str (pe_op op_add_str (pe_slice sl_str (pv 0) po_none (po_some (pv 1))) (pv 3)) (pe_slice sl_str (pv 0) (po_some (pe_op op_add (pv 1) (pv 2))) po_none))))), ?_⟩
    have e2 : ((pl : Nat) : Int) + ((gn : Nat) : Int) = ((pl + gn : Nat) : Int) := by omega
    refine ⟨_, rfl, _, rfl, _, rfl, t, rfl, sz (by omega), _, rfl, _, _, rfl, rfl, ?_, ?_⟩
    · rw [cutS_pre, preS_len t h1]; exact sz (by omega)
    refine ⟨_, rfl, _, rfl, _, rfl, _, _, rfl, rfl, _, rfl, t, rfl, sz (by omega), _, _, rfl, rfl, ?_, ?_⟩
    · rw [e2, cutS_suf, cutS_pre, app_len, preS_len t h1, sufS_len]; exact sz (by omega)
    rw [e2, cutS_suf, cutS_pre]
    exact k
def spCkChg (K : PySem.W.Frag) : Sp := fun vs H Q _ => ∃ (x : Addr) (z : Str) (rs : Rws) (t put : Str) (pl gn : Nat), vs = [.ref x, .str t, .int (pl : Nat), .int (gn : Nat), .str put] ∧ TabAt (TC K) H x z rs ∧ pl ≤ t.length ∧ gn ≤ t.length - pl ∧ t.length ≤ 10000 ∧ put.length ≤ 10000 ∧ TextOf z put ∧ ∀ H', Same H H' → Q .non H'
theorem cal_check_change (T : Tx K mg) : Cal P w K mg base CX0 4 "check_change" (spCkChg K) := by
  have C_check_place := cal_check_place (P := P) (w := w) (base := base) T
  have C_check_text := cal_check_text (P := P) (w := w) (base := base) T
  obtain ⟨fd, F⟩ := T.d_check_change
  refine ⟨_, fd, P_check_change, F.ok sc_check_change (fun vs H Q E h => ?_) (fun cdv A outer s H vs Q E hr h => ?_), T.g_check_change, F.kp, F.bindsN (ps := P_check_change) fun _ _ _ _ _ _ us hl => match us, hl with | [_, _, _, _, _], _ => rfl⟩
  · obtain ⟨x, z, rs, t, put, pl, gn, rfl, _⟩ := h
    rfl
  · obtain ⟨x, z, rs, t, put, pl, gn, rfl, ta, h1, h2, h3, h4, tp, k⟩ := h
    refine ⟨_, (PSs.nox (pss_cons (ps_expr (pe_cal C_check_place (by first | exact hr | exact hr.mono (by decide)) (by rfl) (pa_cons (pv 2) (pa_cons (pe_callB (id := "len") call_len_str (by rfl) T.n_len (by decide +kernel) (pa_cons (pv 1) pa_nil)) pa_nil))))
      (pss_cons (ps_expr (pe_cal C_check_place (by first | exact hr | exact hr.mono (by decide)) (by rfl) (pa_cons (pv 3) (pa_cons (pe_op op_sub (pe_callB (id := "len") call_len_str (by rfl) T.n_len (by decide +kernel) (pa_cons (pv 1) pa_nil)) (pv 2)) pa_nil))))
      (pss_one (ps_expr (pe_cal C_check_text (by first | exact hr | exact hr.mono (by decide)) (by rfl) (pa_cons (pv 0) (pa_cons (pv 4) pa_nil)))))))), ?_⟩
    refine ⟨_, rfl, _, rfl, t, rfl, sz (by omega), _, _, rfl, by omega, by omega, ?_⟩
    refine ⟨_, rfl, _, rfl, t, rfl, sz (by omega), _, rfl, _, _, rfl, rfl, _, _, rfl, by omega, by omega, ?_⟩
    exact ⟨_, rfl, _, rfl, x, z, rs, put, rfl, ta, tp, fun H1 s1 => k _ s1⟩
def spSame0 (K : PySem.W.Frag) : Sp := fun vs H Q _ => ∃ (a b : Addr) (xs ys : List Str) (m : Int), vs = [.ref a, .ref b, .int m] ∧ SqL K H a (xs.map V.str) ∧ SqL K H b (ys.map V.str) ∧ 0 ≤ m ∧ (∀ x ∈ xs, x.length ≤ 1000) ∧ ∀ H', Same H H' → Q (.int ((sameN xs ys m : Nat) : Int)) H'
theorem cal_same_ahead (T : Tx K mg) : Cal P w K mg base CX0 1 "same_ahead" (spSame0 K) := by
  obtain ⟨fd, F⟩ := T.d_same_ahead
  refine ⟨_, fd, P_same_ahead, F.ok sc_same_ahead (fun vs H Q E h => ?_) (fun cdv A outer s H vs Q E hr h => ?_), T.g_same_ahead, F.kp, F.bindsN (ps := P_same_ahead) fun _ _ _ _ _ _ us hl => match us, hl with | [_, _, _], _ => rfl⟩
  · obtain ⟨a, b, xs, ys, m, rfl, _⟩ := h
    rfl
  · obtain ⟨a, b, xs, ys, m, rfl, hA, hB, hm, xl, k⟩ := h
    refine ⟨_, (PSs.nox (pss_cons (ps_set (i := 3) sc_same_ahead.nd rfl (Or.inl rfl) pe_int)
      (pss_cons (ps_for PassesOwn.never rfl (pi_zip (by rfl) T.n_zip (pa_cons (pv 0) (pa_cons (pv 1) pa_nil))) (pg_tup rfl (pgs_cons (pg_name (i := 4) sc_same_ahead.nd rfl (Or.inl rfl)) (pgs_cons (pg_name (i := 5) sc_same_ahead.nd rfl (Or.inl rfl)) pgs_nil))) (pss_cons (ps_aug (i := 2) sc_same_ahead.nd rfl (Or.inl rfl) (pe_callB (id := "len") call_len_str (by rfl) T.n_len (by decide +kernel) (pa_cons (pv 4) pa_nil)) ip_sub)
      (pss_cons (ps_if (PW.pt (pw_or (pt_cmpR op_ne (pv 4) (pv 5) (nomark _)) (pw_or1 (pt_cmpR op_lt (pv 2) pe_int (nomark _))))) (pss_one (ps_ret (pv 3))) pss_nil)
      (pss_one (ps_aug (i := 3) sc_same_ahead.nd rfl (Or.inl rfl) pe_int ip_add)))))
      (pss_one (ps_ret (pv 3)))))), ?_⟩
    refine ⟨_, rfl, _, rfl, a, b, _, _, rfl, hA, hB, for_zip (K := K) (a := a) (b := b) (xs := xs.map V.str) (ys := ys.map V.str) (fun i σ H' => ∃ u1 u2 : Option V, σ = [some (.ref a), some (.ref b), some (.int (m - ((flat (xs.take i)).length : Int))), some (.int (i : Nat)), u1, u2] ∧ Same H H' ∧ xs.take i = ys.take i ∧ i ≤ xs.length ∧ i ≤ ys.length ∧ ((flat (xs.take i)).length : Int) ≤ m)
      ⟨_, _, by rw [show ((flat (xs.take 0)).length : Int) = 0 from rfl, Int.sub_zero]; rfl, Same.refl _, rfl, Nat.zero_le _, Nat.zero_le _, hm⟩ (fun i σ H' ⟨_, _, _, s, _⟩ => ⟨s.seq hA, s.seq hB⟩) ?_ ?_⟩
    · rintro i x y T' σ H' hx hy ⟨u1, u2, rfl, sm, ht, i1, i2, hf⟩ hT
      rw [List.getElem?_map] at hx hy
      cases ex : xs[i]? with
      | none => rw [ex] at hx; cases hx
      | some p =>
        cases ey : ys[i]? with
        | none => rw [ey] at hy; cases hy
        | some q =>
          rw [ex] at hx
          rw [ey] at hy
          cases hx
          cases hy
          have l1 := (List.getElem?_eq_some_iff.mp ex).1
          have l2 := (List.getElem?_eq_some_iff.mp ey).1
          have pl := xl p (List.mem_of_getElem? ex)
          have sm1 := Same.put (o := .tup [.str p, .str q]) sm hT
          refine ⟨T', _, rfl, SqT.of upd_same, rfl, _, _, rfl, _, _, rfl, rfl, ?_⟩
          revert sm1
          generalize (upd H' T' (.tup [.str p, .str q])) = H5
          intro sm1
          have et : xs.take (i + 1) = xs.take i ++ [p] := by rw [List.take_add_one, ex]; rfl
          have et2 : ys.take (i + 1) = ys.take i ++ [q] := by rw [List.take_add_one, ey]; rfl
          have ef : (flat (xs.take (i + 1))).length = (flat (xs.take i)).length + p.length := by
            rw [et, flat_app, List.length_append, flat_cons, List.length_append, len_cps]; rfl
          refine ⟨_, rfl, _, rfl, p, rfl, sz (by omega), _, _, rfl, rfl, ?_⟩
          refine ⟨_, rfl, _, rfl, rfl, _, rfl, ?_⟩
          by_cases c : p = q
          · subst c
            rw [decide_eq_true (rfl : V.str p = V.str p)]
            refine iteF ⟨_, rfl, _, _, rfl, rfl, _, rfl, ?_⟩
            by_cases c2 : m - ((flat (xs.take i)).length : Int) - ((p.length : Nat) : Int) < 0
            · rw [decide_eq_true c2]
              refine iteT ⟨_, rfl, ?_⟩
              have := sameN_stop xs ys m i ht i1 i2 (.inr hf) (.inr (.inr ⟨p, p, ex, ey, fun z => by have := z.2; omega⟩))
              have kk := k _ sm1
              rw [this] at kk
              exact kk
            · rw [decide_eq_false c2]
              refine iteF ⟨_, rfl, _, _, rfl, rfl, some (.str p), some (.str p), ?_, sm1, by rw [et, et2, ht], l1, l2, by rw [ef]; omega⟩
              rw [ef]
              show [some (V.ref a), some (V.ref b), some (V.int (m - ((flat (xs.take i)).length : Int) - ((p.length : Nat) : Int))), some (V.int (((i : Nat) : Int) + 1)), some (V.str p), some (V.str p)] = _
              rw [show m - ((flat (xs.take i)).length : Int) - ((p.length : Nat) : Int) = m - (((flat (xs.take i)).length + p.length : Nat) : Int) by omega, show ((i : Nat) : Int) + 1 = ((i + 1 : Nat) : Int) by omega]
          · rw [decide_eq_false (fun e => c (V.str.inj e))]
            refine iteT ⟨_, rfl, ?_⟩
            have := sameN_stop xs ys m i ht i1 i2 (.inr hf) (.inr (.inr ⟨p, q, ex, ey, fun z => c z.1⟩))
            have kk := k _ sm1
            rw [this] at kk
            exact kk
    · rintro i σ H' hi h1 h2 ⟨u1, u2, rfl, sm, ht, i1, i2, hf⟩
      rw [List.length_map, List.length_map] at hi
      refine ⟨_, rfl, ?_⟩
      have := sameN_stop xs ys m i ht i1 i2 (.inr hf) (by rcases hi with h | h; exact .inl h; exact .inr (.inl h))
      have kk := k _ sm
      rw [this] at kk
      exact kk
def spBetween (K : PySem.W.Frag) : Sp := fun vs H Q _ => ∃ (a b : Addr) (xs ys : List Str) (m n : Int), vs = [.ref a, .ref b, .int m, .int n] ∧ SqL K H a (xs.map V.str) ∧ SqL K H b (ys.map V.str) ∧ 0 ≤ m ∧ 0 ≤ n ∧ (∀ x ∈ xs, x.length ≤ 1000) ∧ ∀ H' t, Same H H' → PatchN H H' t (patchF xs ys m n) → Q (.ref t) H'
theorem cal_patch_between (T : Tx K mg) : Cal P w K mg base CX0 2 "patch_between" (spBetween K) := by
  have C_same_ahead := cal_same_ahead (P := P) (w := w) (base := base) T
  obtain ⟨fd, F⟩ := T.d_patch_between
  refine ⟨_, fd, P_patch_between, F.ok sc_patch_between (fun vs H Q E h => ?_) (fun cdv A outer s H vs Q E hr h => ?_), T.g_patch_between, F.kp, F.bindsN (ps := P_patch_between) fun _ _ _ _ _ _ us hl => match us, hl with | [_, _, _, _], _ => rfl⟩
  · obtain ⟨a, b, xs, ys, m, n, rfl, _⟩ := h
    rfl
  · obtain ⟨a, b, xs, ys, m, n, rfl, hA, hB, hm, hn, xl, k⟩ := h
    refine ⟨_, (PSs.nox (pss_cons (ps_set (i := 4) sc_patch_between.nd rfl (Or.inl rfl) (pe_cal C_same_ahead (by first | exact hr | exact hr.mono (by decide)) (by rfl) (pa_cons (pv 0) (pa_cons (pv 1) (pa_cons (pv 2) pa_nil)))))
      (pss_cons (ps_set (i := 5) sc_patch_between.nd rfl (Or.inl rfl) (pe_slice sl_listG (pv 0) (po_some (pv 4)) po_none))
      (pss_cons (ps_set (i := 6) sc_patch_between.nd rfl (Or.inl rfl) (pe_slice sl_listG (pv 1) (po_some (pv 4)) po_none))
      (pss_cons (ps_set (i := 7) sc_patch_between.nd rfl (Or.inl rfl) (pe_cal C_same_ahead (by first | exact hr | exact hr.mono (by decide)) (by rfl) (pa_cons (pe_revL (pv 5)) (pa_cons (pe_revL (pv 6)) (pa_cons (pv 3) pa_nil)))))
      (pss_one (ps_ret (pe_tupG (pa_cons (pv 4) (pa_cons (pe_slice sl_listG (pv 5) po_none (po_some (pe_op op_sub (pe_callB (id := "len") call_len_seq (by rfl) T.n_len (by decide +kernel) (pa_cons (pv 5) pa_nil)) (pv 7)))) (pa_cons (pe_slice sl_listG (pv 6) po_none (po_some (pe_op op_sub (pe_callB (id := "len") call_len_seq (by rfl) T.n_len (by decide +kernel) (pa_cons (pv 6) pa_nil)) (pv 7)))) pa_nil))))))))))), ?_⟩
    refine ⟨_, rfl, _, rfl, _, rfl, a, b, xs, ys, m, rfl, hA, hB, hm, xl, fun H1 s1 => ?_⟩
    obtain ⟨f, ef⟩ : ∃ f, f = sameN xs ys m := ⟨_, rfl⟩
    rw [← ef]
    refine ⟨_, rfl, _, rfl, _, rfl, a, _, rfl, s1.seq hA, fun ol H2 nol s2 hol => ?_⟩
    rw [cutV_from, ← List.map_drop] at hol
    refine ⟨_, rfl, _, rfl, _, rfl, b, _, rfl, (s1.trans s2).seq hB, fun nl H3 nnl s3 hnl => ?_⟩
    rw [cutV_from, ← List.map_drop] at hnl
    have hol3 := s3 _ _ hol
    refine ⟨_, rfl, ol, _, rfl, SqL.of hol3, fun r1 nr1 => ?_⟩
    have s4 := Same.new (o := .lst ((xs.drop f).map V.str).reverse) nr1
    have hr1 : (upd H3 r1 (.lst ((xs.drop f).map V.str).reverse)) r1 = some (.lst ((xs.drop f).reverse.map V.str)) := by rw [upd_same, List.map_reverse]
    revert hr1 s4
    generalize (upd H3 r1 (.lst ((xs.drop f).map V.str).reverse)) = H4
    intro s4 hr1
    refine ⟨_, rfl, nl, _, rfl, SqL.of (s4 _ _ hnl), fun r2 nr2 => ?_⟩
    have s5 := Same.new (o := .lst ((ys.drop f).map V.str).reverse) nr2
    have hr2 : (upd H4 r2 (.lst ((ys.drop f).map V.str).reverse)) r2 = some (.lst ((ys.drop f).reverse.map V.str)) := by rw [upd_same, List.map_reverse]
    revert hr2 s5
    generalize (upd H4 r2 (.lst ((ys.drop f).map V.str).reverse)) = H5
    intro s5 hr2
    refine ⟨_, rfl, r1, r2, _, _, n, rfl, SqL.of (s5 _ _ hr1), SqL.of hr2, hn, fun x hx => xl x (List.mem_of_mem_drop (List.mem_reverse.mp hx)), fun H6 s6 => ?_⟩
    obtain ⟨l, el⟩ : ∃ l, l = sameN (xs.drop f).reverse (ys.drop f).reverse n := ⟨_, rfl⟩
    rw [← el]
    have hl := sameN_le (xs.drop f).reverse (ys.drop f).reverse n
    rw [← el, List.length_reverse, List.length_reverse] at hl
    have s36 := (s4.trans s5).trans s6
    have hol6 := s36 _ _ hol3
    have hnl6 := s36 _ _ hnl
    have e1 : (((xs.drop f).map V.str).length : Int) - ((l : Nat) : Int) = (((xs.drop f).length - l : Nat) : Int) := by rw [List.length_map]; omega
    have e2 : (((ys.drop f).map V.str).length : Int) - ((l : Nat) : Int) = (((ys.drop f).length - l : Nat) : Int) := by rw [List.length_map]; omega
    refine ⟨_, rfl, _, rfl, _, rfl, ol, _, rfl, .inl (SqL.of hol6), _, rfl, _, _, rfl, rfl, _, rfl, ol, _, rfl, SqL.of hol6, fun o1 H7 no1 s7 ho1 => ?_⟩
    rw [e1, cutV_to, ← List.map_take] at ho1
    refine ⟨_, rfl, _, rfl, nl, _, rfl, .inl (SqL.of (s7 _ _ hnl6)), _, rfl, _, _, rfl, rfl, _, rfl, nl, _, rfl, SqL.of (s7 _ _ hnl6), fun o2 H8 no2 s8 ho2 => ?_⟩
    rw [e2, cutV_to, ← List.map_take] at ho2
    refine ⟨(by show 3 ≤ sizeLine; decide), fun tt H9 ntt s9 htt => ?_⟩
    have s06 := ((s1.trans s2).trans s3).trans s36
    have s07 := s06.trans s7
    have s08 := s07.trans s8
    refine k H9 tt (s08.trans s9) ⟨o1, o2, s08.free ntt, s06.free no1, s07.free no2, fun e => ?_, ?_, ?_, ?_⟩
    · rw [e, no2] at ho1; cases ho1
    · rw [htt, ef]; rfl
    · rw [s9 _ _ (s8 _ _ ho1), el, ef]; rfl
    · rw [s9 _ _ ho2, el, ef]; rfl
def spPatchOf (K : PySem.W.Frag) : Sp := fun vs H Q _ => ∃ (x a : Addr) (z : Str) (rs : Rws) (t put : Str) (pl gn : Nat), vs = [.ref x, .ref a, .int (pl : Nat), .int (gn : Nat), .str put] ∧ FolAt K H x z rs ∧ TabOk z rs ∧ H a = some (.lst ((sweep rs t).map V.str)) ∧ TextOf z t ∧ pl ≤ t.length ∧ gn ≤ t.length - pl ∧ t.length ≤ 1000 ∧ put.length ≤ 1000 ∧ TextOf z put ∧
  ∀ H' tt, Same H H' → PatchN H H' tt (patchF (sweep rs t) (sweep rs (chgT t pl gn put)) (pl : Nat) ((t.length - pl - gn : Nat) : Int)) → Q (.ref tt) H'
theorem cal_patch_of (T : Tx K mg) : Cal P w K mg base CX0 8 "patch_of" (spPatchOf K) := by
  have C_read_on := cal_read_on (P := P) (w := w) (base := base) T
  have C_changed_text := cal_changed_text (P := P) (w := w) (base := base) T
  have C_patch_between := cal_patch_between (P := P) (w := w) (base := base) T
  obtain ⟨fd, F⟩ := T.d_patch_of
  refine ⟨_, fd, P_patch_of, F.ok sc_patch_of (fun vs H Q E h => ?_) (fun cdv A outer s H vs Q E hr h => ?_), T.g_patch_of, F.kp, F.bindsN (ps := P_patch_of) fun _ _ _ _ _ _ us hl => match us, hl with | [_, _, _, _, _], _ => rfl⟩
  · obtain ⟨x, a, z, rs, t, put, pl, gn, rfl, _⟩ := h
    rfl
  · obtain ⟨x, a, z, rs, t, put, pl, gn, rfl, fo, tk, hA, tx, h1, h2, h3, h4, tp, k⟩ := h
    refine ⟨_, (PSs.nox (pss_cons (ps_set (i := 5) sc_patch_of.nd rfl (Or.inl rfl) (pe_join pe_str (pv 1)))
      (pss_cons (ps_set (i := 6) sc_patch_of.nd rfl (Or.inl rfl) (pe_cal C_read_on (by first | exact hr | exact hr.mono (by decide)) (by rfl) (pa_cons (pv 0) (pa_cons (pe_cal C_changed_text (by first | exact hr | exact hr.mono (by decide)) (by rfl) (pa_cons (pv 5) (pa_cons (pv 2) (pa_cons (pv 3) (pa_cons (pv 4) pa_nil))))) pa_nil))))
      (pss_one (ps_ret (pe_cal C_patch_between (by first | exact hr | exact hr.mono (by decide)) (by rfl) (pa_cons (pv 1) (pa_cons (pv 6) (pa_cons (pv 2) (pa_cons (pe_op op_sub (pe_op op_sub (pe_callB (id := "len") call_len_str (by rfl) T.n_len (by decide +kernel) (pa_cons (pv 5) pa_nil)) (pv 2)) (pv 3)) pa_nil)))))))))), ?_⟩
    have fl : (flat (sweep rs t)).length = t.length := sweep_len rs t
    have sl : ((sweep rs t).map (·.length)).sum = (flat (sweep rs t)).length := flat_len _
    have e0' : (Str.ofString "").length = 0 := by decide +kernel
    have cl := chgT_len t put h1 h2
    refine ⟨⟨_, rfl⟩, _, rfl, _, a, _, rfl, rfl, .inl (SqL.of hA), (by rw [e0', sl, fl]; omega), ?_⟩
    rw [join_sweep]
    refine ⟨_, rfl, _, rfl, _, rfl, _, rfl, _, rfl, t, put, pl, gn, rfl, h1, h2, by omega, by omega, ?_⟩
    refine ⟨x, z, rs, chgT t pl gn put, rfl, fo, chgT_text tx tp pl gn, by omega, fun H1 nw s1 nnw hnw => ?_⟩
    refine ⟨_, rfl, _, rfl, _, rfl, _, rfl, t, rfl, sz (by omega), _, rfl, _, _, rfl, rfl, _, rfl, _, _, rfl, rfl, ?_⟩
    have en : ((t.length : Nat) : Int) - ((pl : Nat) : Int) - ((gn : Nat) : Int) = ((t.length - pl - gn : Nat) : Int) := by omega
    refine ⟨a, nw, _, _, (pl : Nat), ((t.length - pl - gn : Nat) : Int), by rw [← en], SqL.of (s1 _ _ hA), SqL.of hnw, by omega, by omega, fun y hy => ?_, fun H2 tt s2 hp => k H2 tt (s1.trans s2) (hp.before s1)⟩
    have := (tk.plen (sweep_pc tx hy)).2
    omega
end
end Jr
namespace Jr
open PySem PySem.Spec PyProof.Rows L2
theorem same_ge45 : ∀ (xs ys : List Str) (n : Int) (m : Nat), xs.take m = ys.take m → m ≤ xs.length → m ≤ ys.length → (m = 0 ∨ ((flat (xs.take m)).length : Int) ≤ n) → m ≤ sameN xs ys n := fun xs ys n m h1 h2 h3 h4 => by
  rw [sameN_step xs ys n m h1 h2 h3 h4]
  omega
theorem sameN_flat : ∀ (xs ys : List Str) (m : Int), 0 ≤ m → ((flat (xs.take (sameN xs ys m))).length : Int) ≤ m
  | [], ys, m, h => by rw [sameN_nil1]; exact h
  | a :: xs, [], m, h => by rw [sameN_nil2]; exact h
  | a :: xs, b :: ys, m, h => by
    by_cases c : a = b ∧ (a.length : Int) ≤ m
    · obtain ⟨rfl, h'⟩ := c
      rw [sameN_yes h', List.take_succ_cons, flat_cons, List.length_append, len_cps]
      have := sameN_flat xs ys (m - a.length) (by omega)
      omega
    · rw [sameN_no c]; exact h
/-- the sizes of the ends of a row turned about, up to a bound -/
def feL (far : Nat) : Nat → List Str → List Nat
  | _, [] => []
  | n, x :: xs => (if n + x.length ≤ far then [n + x.length] else []) ++ feL far (n + x.length) xs
theorem feL_snoc (far : Nat) : ∀ (n : Nat) (xs : List Str) (q : Str), feL far n (xs ++ [q]) = feL far n xs ++ (if n + (flat xs).length + q.length ≤ far then [n + (flat xs).length + q.length] else [])
  | n, [], q => by
    show (if n + q.length ≤ far then [n + q.length] else []) ++ [] = [] ++ (if n + 0 + q.length ≤ far then [n + 0 + q.length] else [])
    rw [Nat.add_zero, List.append_nil, List.nil_append]
  | n, x :: xs, q => by
    show (if n + x.length ≤ far then [n + x.length] else []) ++ feL far (n + x.length) (xs ++ [q]) = (if n + x.length ≤ far then [n + x.length] else []) ++ feL far (n + x.length) xs ++ _
    rw [feL_snoc far (n + x.length) xs q, flat_cons, List.length_append, len_cps, ← Nat.add_assoc, List.append_assoc]
theorem feL_mem (far : Nat) : ∀ (n : Nat) (xs : List Str) (s : Nat), s ∈ feL far n xs ↔ ∃ k, 0 < k ∧ k ≤ xs.length ∧ s = n + (flat (xs.take k)).length ∧ s ≤ far
  | n, [], s => ⟨fun h => (by cases h), fun ⟨k, h1, h2, _⟩ => by simp at h2; omega⟩
  | n, x :: xs, s => by
    show s ∈ (if n + x.length ≤ far then [n + x.length] else []) ++ feL far (n + x.length) xs ↔ _
    rw [List.mem_append, feL_mem far (n + x.length) xs s]
    constructor
    · rintro (h | ⟨k, h1, h2, h3, h4⟩)
      · by_cases c : n + x.length ≤ far
        · rw [if_pos c] at h
          have e := List.mem_singleton.mp h
          refine ⟨1, by omega, by simp, ?_, by omega⟩
          rw [e, List.take_succ_cons, flat_cons, List.length_append, len_cps]
          rfl
        · rw [if_neg c] at h; cases h
      · refine ⟨k + 1, by omega, by rw [List.length_cons]; omega, ?_, h4⟩
        rw [h3, List.take_succ_cons, flat_cons, List.length_append, len_cps]
        omega
    · rintro ⟨k, h1, h2, h3, h4⟩
      cases k with
      | zero => omega
      | succ k =>
        rw [List.take_succ_cons, flat_cons, List.length_append, len_cps] at h3
        by_cases c : k = 0
        · subst c
          refine .inl ?_
          have e0 : (flat (xs.take 0)).length = 0 := rfl
          rw [e0] at h3
          rw [if_pos (by omega)]
          exact List.mem_singleton.mpr (by omega)
        · exact .inr ⟨k, by omega, by rw [List.length_cons] at h2; omega, by omega, h4⟩
theorem feL_len (far : Nat) : ∀ (n : Nat) (xs : List Str) (k : Nat), (∀ x ∈ xs, 1 ≤ x.length) → k ≤ xs.length → far = n + (flat (xs.take k)).length → (feL far n xs).length = k
  | n, [], k, _, h, _ => by simp at h; rw [h]; rfl
  | n, x :: xs, k, hp, h, hf => by
    have px := hp x List.mem_cons_self
    show ((if n + x.length ≤ far then [n + x.length] else []) ++ feL far (n + x.length) xs).length = k
    cases k with
    | zero =>
      have e0 : (flat ((x :: xs).take 0)).length = 0 := rfl
      rw [e0] at hf
      rw [if_neg (by omega), List.nil_append]
      have : ∀ s, ¬ s ∈ feL far (n + x.length) xs := fun s hs => by
        obtain ⟨k, _, _, e, l⟩ := (feL_mem far (n + x.length) xs s).mp hs
        omega
      rw [List.eq_nil_iff_forall_not_mem.mpr this]; rfl
    | succ k =>
      rw [List.take_succ_cons, flat_cons, List.length_append, len_cps] at hf
      rw [if_pos (by omega), List.length_append, feL_len far (n + x.length) xs k (fun y hy => hp y (List.mem_cons_of_mem _ hy)) (by rw [List.length_cons] at h; omega) (by omega)]
      show 1 + k = k + 1
      omega
theorem flat_rev_len (xs : List Str) : (flat xs.reverse).length = (flat xs).length := by
  rw [← flat_len, ← flat_len, List.map_reverse, List.sum_reverse]
theorem sw_pos {z : Str} {rs : Rws} (T : TabOk z rs) {t : Str} (tx : TextOf z t) : ∀ x ∈ sweep rs t, 1 ≤ x.length := fun x hx => (T.plen (sweep_pc tx hx)).1
/-- ends of two cuttings of the same size are the same, where the texts end alike -/
theorem ends_alike {rs : Rws} {a b c : Str} {A B A' B' : List Str} (e : sweep rs (a ++ c) = A ++ B) (e' : sweep rs (b ++ c) = A' ++ B') (h : (flat B).length = (flat B').length) (hl : (flat B).length ≤ c.length) : B = B' := by
  have l1 := sweep_len rs (a ++ c)
  have l2 := sweep_len rs (b ++ c)
  rw [e, flat_len_app, app_len] at l1
  rw [e', flat_len_app, app_len] at l2
  rw [← (sweep_split e).2, ← (sweep_split e').2]
  refine congrArg (sweep rs) (str_ext ?_)
  have key : ∀ (x y : Str) (n : Nat), x.length ≤ n → ((x ++ y).cps.toList).drop n = y.cps.toList.drop (n - x.length) := fun x y n h => by
    rw [app_cps, List.drop_append, List.drop_of_length_le (by rw [len_cps]; exact h), List.nil_append, len_cps]
  rw [sufS_cps, sufS_cps, key _ _ _ (by omega), key _ _ _ (by omega)]
  congr 1
  omega
theorem flat_pos {xs : List Str} (h : ∀ x ∈ xs, 1 ≤ x.length) (n : xs ≠ []) : 1 ≤ (flat xs).length := by
  cases xs with
  | nil => exact absurd rfl n
  | cons x xs =>
    rw [flat_cons, List.length_append, len_cps]
    have := h x List.mem_cons_self
    omega
theorem flat_drop_lt {xs : List Str} {i j : Nat} (h : ∀ x ∈ xs, 1 ≤ x.length) (hij : i < j) (hj : j ≤ xs.length) : (flat (xs.drop j)).length < (flat (xs.drop i)).length := by
  have e : xs.drop i = (xs.drop i).take (j - i) ++ xs.drop j := by
    have := List.take_append_drop (j - i) (xs.drop i)
    rw [List.drop_drop, show i + (j - i) = j by omega] at this
    exact this.symm
  rw [e, flat_len_app]
  have := flat_pos (xs := (xs.drop i).take (j - i)) (fun x hx => h x (List.mem_of_mem_drop (List.mem_of_mem_take hx))) (fun e => by
    have := congrArg List.length e
    rw [List.length_take, List.length_drop, List.length_nil] at this
    omega)
  omega
theorem flat_take_le (xs : List Str) {i j : Nat} (h : i ≤ j) : (flat (xs.take i)).length ≤ (flat (xs.take j)).length := by
  have e : xs.take j = xs.take i ++ (xs.take j).drop i := by
    have := List.take_append_drop i (xs.take j)
    rw [List.take_take, Nat.min_eq_left h] at this
    exact this.symm
  rw [e, flat_len_app]
  omega
theorem take_rev_drop (xs : List Str) {k : Nat} (h : k ≤ xs.length) : xs.reverse.take k = (xs.drop (xs.length - k)).reverse := by
  rw [List.take_reverse]
theorem take_succ_eq {xs ys : List Str} {n : Nat} {x : Str} (h : xs.take n = ys.take n) (hx : xs[n]? = some x) (hy : ys[n]? = some x) : xs.take (n + 1) = ys.take (n + 1) := by
  rw [List.take_add_one, List.take_add_one, h, hx, hy]
theorem rev_get {xs : List Str} {i : Nat} (h : i < xs.length) : xs.reverse[i]? = xs[xs.length - 1 - i]? := List.getElem?_reverse h
structure Good45 (old new : List Str) (f l pl far : Nat) : Prop where
  fo : f ≤ old.length
  lo : f + l ≤ old.length
  ln : f + l ≤ new.length
  f1 : (flat (old.take f)).length ≤ pl
  f2 : (flat (old.drop (old.length - l))).length ≤ far
  f3 : ∀ x, old[f]? = some x → new[f]? = some x → ¬ (flat (old.take (f + 1))).length ≤ pl
  f4 : ∀ x, f + l < old.length → f + l < new.length → old[old.length - 1 - l]? = some x → new[new.length - 1 - l]? = some x → ¬ (flat (old.drop (old.length - l - 1))).length ≤ far
  f5 : ∀ S, (S ∈ feL far 0 old.reverse ∧ S ∈ feL far 0 new.reverse ∧ ∀ s, s ∈ feL far 0 old.reverse → s ∈ feL far 0 new.reverse → s ≤ S) ∨ (S = 0 ∧ ∀ s, s ∈ feL far 0 old.reverse → ¬ s ∈ feL far 0 new.reverse) → (feL S 0 old.reverse).length = l
theorem good45 {z : Str} {rs : Rws} (T : TabOk z rs) {t put : Str} {pl gn : Nat} (tx : TextOf z t) (hp : TextOf z put) (h1 : pl ≤ t.length) (h2 : gn ≤ t.length - pl) :
    Good45 (sweep rs t) (sweep rs (chgT t pl gn put)) (patchF (sweep rs t) (sweep rs (chgT t pl gn put)) (pl : Nat) ((t.length - pl - gn : Nat) : Int)).first
      ((sweep rs t).length - (patchF (sweep rs t) (sweep rs (chgT t pl gn put)) (pl : Nat) ((t.length - pl - gn : Nat) : Int)).first - (patchF (sweep rs t) (sweep rs (chgT t pl gn put)) (pl : Nat) ((t.length - pl - gn : Nat) : Int)).out.length) pl (t.length - pl - gn) := by
  have tx2 := chgT_text tx hp pl gn
  have pos := sw_pos T tx
  have pos2 := sw_pos T tx2
  have cl : (sufS t (pl + gn)).length = t.length - pl - gn := by rw [sufS_len]; omega
  have e1 : sweep rs t = sweep rs (preS t (pl + gn) ++ sufS t (pl + gn)) := by rw [pre_suf]
  have e2 : sweep rs (chgT t pl gn put) = sweep rs ((preS t pl ++ put) ++ sufS t (pl + gn)) := rfl
  have T1 := sweep_len rs t
  have T2 := sweep_len rs (chgT t pl gn put)
  rw [chgT_len t put h1 h2] at T2
  have al : ∀ {A B A' B' : List Str}, sweep rs t = A ++ B → sweep rs (chgT t pl gn put) = A' ++ B' → (flat B).length = (flat B').length → (flat B).length ≤ t.length - pl - gn → B = B' := fun {A B A' B'} a b c d =>
    ends_alike (e1.symm.trans a) (e2.symm.trans b) c (by rw [cl]; exact d)
  clear e1 e2 cl
  generalize sweep rs t = old at *
  generalize sweep rs (chgT t pl gn put) = new at *
  obtain ⟨far, ef⟩ : ∃ far, far = t.length - pl - gn := ⟨_, rfl⟩
  rw [← ef] at al ⊢
  obtain ⟨f, eF⟩ : ∃ f, f = sameN old new (pl : Nat) := ⟨_, rfl⟩
  obtain ⟨l, el⟩ : ∃ l, l = sameN (old.drop f).reverse (new.drop f).reverse (far : Nat) := ⟨_, rfl⟩
  have hf := sameN_le old new (pl : Nat)
  have hl := sameN_le (old.drop f).reverse (new.drop f).reverse (far : Nat)
  have tf := sameN_take old new (pl : Nat)
  have tl := sameN_take (old.drop f).reverse (new.drop f).reverse (far : Nat)
  have zf := sameN_flat old new (pl : Nat) (by omega)
  have zl := sameN_flat (old.drop f).reverse (new.drop f).reverse (far : Nat) (by omega)
  rw [← eF] at hf tf zf
  rw [← el] at hl tl zl
  rw [List.length_reverse, List.length_reverse, List.length_drop, List.length_drop] at hl
  have p1 : (patchF old new (pl : Nat) (far : Nat)).first = f := by rw [eF]; rfl
  have p2 : (patchF old new (pl : Nat) (far : Nat)).out.length = old.length - f - l := by
    have : (patchF old new (pl : Nat) (far : Nat)).out = (old.drop f).take ((old.drop f).length - l) := by rw [el, eF]; rfl
    rw [this, List.length_take, List.length_drop]
    omega
  rw [p1, p2, show old.length - f - (old.length - f - l) = l by omega]
  have ro : old.reverse = (old.drop f).reverse ++ (old.take f).reverse := by rw [← List.reverse_append, List.take_append_drop]
  have rn : new.reverse = (new.drop f).reverse ++ (new.take f).reverse := by rw [← List.reverse_append, List.take_append_drop]
  have tko : ∀ k, k ≤ old.length - f → old.reverse.take k = (old.drop f).reverse.take k := fun k hk => by
    rw [ro, List.take_append_of_le_length (by rw [List.length_reverse, List.length_drop]; exact hk)]
  have tkn : ∀ k, k ≤ new.length - f → new.reverse.take k = (new.drop f).reverse.take k := fun k hk => by
    rw [rn, List.take_append_of_le_length (by rw [List.length_reverse, List.length_drop]; exact hk)]
  have B1 : old.reverse.take l = new.reverse.take l := by rw [tko l (by omega), tkn l (by omega)]; exact tl
  have B2 : (flat (old.reverse.take l)).length ≤ far := by rw [tko l (by omega)]; omega
  have so := flat_len_app (old.take f) (old.drop f)
  rw [List.take_append_drop] at so
  have sn := flat_len_app (new.take f) (new.drop f)
  rw [List.take_append_drop] at sn
  have A : ∀ k, k ≤ old.length → k ≤ new.length → old.reverse.take k = new.reverse.take k → (flat (old.reverse.take k)).length ≤ far → k ≤ l := fun k k1 k2 e h => by
    have c1 : k ≤ old.length - f := Classical.byContradiction fun c => by
      have := flat_drop_lt (xs := old) (i := old.length - k) (j := f) pos (by omega) (by omega)
      rw [take_rev_drop old k1, flat_rev_len] at h
      omega
    have c2 : k ≤ new.length - f := Classical.byContradiction fun c => by
      have := flat_drop_lt (xs := new) (i := new.length - k) (j := f) pos2 (by omega) (by omega)
      rw [e, take_rev_drop new k2, flat_rev_len] at h
      rw [← tf] at sn
      omega
    rw [el]
    rw [tko k c1] at e h
    rw [tkn k c2] at e
    exact same_ge45 _ _ _ _ e (by rw [List.length_reverse, List.length_drop]; exact c1) (by rw [List.length_reverse, List.length_drop]; exact c2) (.inr (by omega))
  refine ⟨by omega, by omega, by omega, by omega, ?_, fun x hx hy c => ?_, fun x l1 l2 hx hy c => ?_, fun S h => ?_⟩
  · rw [take_rev_drop old (by omega), flat_rev_len] at B2
    exact B2
  · have e := take_succ_eq tf hx hy
    have i1 := (List.getElem?_eq_some_iff.mp hx).1
    have i2 := (List.getElem?_eq_some_iff.mp hy).1
    have := same_ge45 old new (pl : Nat) (f + 1) e (by omega) (by omega) (.inr (by omega))
    omega
  · have e := take_succ_eq (n := l) (x := x) B1 ((rev_get (by omega)).trans hx) ((rev_get (by omega)).trans hy)
    have := A (l + 1) (by omega) (by omega) e (by rw [take_rev_drop old (by omega), flat_rev_len, show old.length - (l + 1) = old.length - l - 1 by omega]; exact c)
    omega
  · have posr : ∀ x ∈ old.reverse, 1 ≤ x.length := fun x hx => pos x (List.mem_reverse.mp hx)
    have lsh : 0 < l → (flat (old.reverse.take l)).length ∈ feL far 0 old.reverse ∧ (flat (old.reverse.take l)).length ∈ feL far 0 new.reverse := fun hl0 =>
      ⟨(feL_mem far 0 _ _).mpr ⟨l, hl0, by rw [List.length_reverse]; omega, (Nat.zero_add _).symm, B2⟩, (feL_mem far 0 _ _).mpr ⟨l, hl0, by rw [List.length_reverse]; omega, by rw [B1]; exact (Nat.zero_add _).symm, B2⟩⟩
    rcases h with ⟨m1, m2, m3⟩ | ⟨rfl, m3⟩
    · obtain ⟨k, k0, kl, eS, Sf⟩ := (feL_mem far 0 _ _).mp m1
      obtain ⟨k', k0', kl', eS', _⟩ := (feL_mem far 0 _ _).mp m2
      rw [List.length_reverse] at kl kl'
      rw [Nat.zero_add] at eS eS'
      have z1 := eS
      have z2 := eS'
      rw [take_rev_drop old kl, flat_rev_len] at z1
      rw [take_rev_drop new kl', flat_rev_len] at z2
      have eq := al (List.take_append_drop (old.length - k) old).symm (List.take_append_drop (new.length - k') new).symm (by omega) (by omega)
      have ek : k = k' := by
        have := congrArg List.length eq
        rw [List.length_drop, List.length_drop] at this
        omega
      subst ek
      have eT : old.reverse.take k = new.reverse.take k := by rw [take_rev_drop old kl, take_rev_drop new kl', eq]
      have kll := A k kl kl' eT (by omega)
      have := flat_take_le old.reverse kll
      obtain ⟨q1, q2⟩ := lsh (by omega)
      have := m3 _ q1 q2
      exact feL_len S 0 old.reverse l posr (by rw [List.length_reverse]; omega) (by omega)
    · have hl0 : l = 0 := Classical.byContradiction fun c => by
        obtain ⟨q1, q2⟩ := lsh (by omega)
        exact m3 _ q1 q2
      rw [hl0]
      exact feL_len 0 0 old.reverse 0 posr (Nat.zero_le _) rfl
end Jr
namespace Jr
open PySem PySem.Spec PyProof.Rows L2
section
variable {P : Program} {w : World} {K : PySem.W.Frag} {mg : Str → Option Value} {base : Heap}
/-- _law_whole of a number -/
def spLWhole : Sp := fun vs H Q _ => ∃ i : Int, vs = [.int i] ∧ Q (.bl true) H
theorem cal__law_whole (T : Tx K mg) : Cal P w K mg base CX0 1 "_law_whole" spLWhole := by
  obtain ⟨fd, F⟩ := T.d__law_whole
  refine ⟨_, fd, P__law_whole, F.ok sc__law_whole (fun vs H Q E h => ?_) (fun cdv A outer s H vs Q E hr h => ?_), T.g__law_whole, F.kp, F.bindsN (ps := P__law_whole) fun _ _ _ _ _ _ us hl => match us, hl with | [_], _ => rfl⟩
  · obtain ⟨i, rfl, _⟩ := h
    rfl
  · obtain ⟨i, rfl, k⟩ := h
    refine ⟨_, (PSs.nox (pss_one (ps_ret (pe_and (pe_callB (id := "isinstance") call_isi (by rfl) T.n_isinstance (by decide +kernel) (pa_cons (pv 0) (pa_cons (pe_bltn (v := .ty "int") (by rfl) T.n_int (by decide +kernel) rfl) pa_nil))) (pe_one (pe_not (pe_callB (id := "isinstance") call_isi (by rfl) T.n_isinstance (by decide +kernel) (pa_cons (pv 0) (pa_cons (pe_bltn (v := .ty "bool") (by rfl) T.n_bool (by decide +kernel) rfl) pa_nil))))))))), ?_⟩
    exact ⟨_, rfl, _, _, _, _, _, rfl, .ty "int", .base (.int i), isInt, _, rfl, iteT ⟨_, rfl, _, _, _, _, _, rfl, .ty "bool", .base (.int i), intBool, _, rfl, k⟩⟩
end
end Jr
namespace Jr
open PySem PySem.Spec PyProof.Rows L2 PySem.W
/-! ### max(list, default=number) -/
theorem fold_max : ∀ (ns : List Int) (n : Int), (ns.foldl max n = n ∨ ns.foldl max n ∈ ns) ∧ n ≤ ns.foldl max n ∧ ∀ y ∈ ns, y ≤ ns.foldl max n
  | [], n => ⟨.inl rfl, Int.le_refl _, fun y hy => by cases hy⟩
  | m :: ns, n => by
    obtain ⟨h1, h2, h3⟩ := fold_max ns (max n m)
    rw [List.foldl_cons]
    refine ⟨?_, Int.le_trans (Int.le_max_left ..) h2, fun y hy => ?_⟩
    · rcases h1 with e | e
      · rcases Int.le_total n m with c | c
        · exact .inr (by rw [e, Int.max_eq_right c]; exact List.mem_cons_self)
        · exact .inl (by rw [e, Int.max_eq_left c])
      · exact .inr (List.mem_cons_of_mem _ e)
    · rcases List.mem_cons.mp hy with q | q
      · rw [q]; exact Int.le_trans (Int.le_max_right ..) h2
      · exact h3 y q
theorem call_maxD {X : Cx} (hc : X.calm = true) (hu : X.A.units + 64 < cLine) : CallRK X (.builtin "max") [Str.ofString "default"] (fun xs zs H Q => ∃ (l : Addr) (ns : List Int) (d : Int), xs = [.ref l] ∧ zs = [.int d] ∧ SqL X.K H l (ns.map V.int) ∧ ∀ m : Int, (ns = [] ∧ m = d) ∨ (m ∈ ns ∧ ∀ y ∈ ns, y ≤ m) → Q (.int m) H) := by
  intro pins s σ H xs zs us ws Q I rx rz h
  obtain ⟨l, js, d, rfl, rfl, hS, q⟩ := h
  cases rx with
  | cons r rr =>
    cases rr
    cases r
    cases rz with
    | cons r rr =>
      cases rr
      obtain ⟨td, rfl⟩ := r
      obtain ⟨its, rv, hl, _⟩ := I.list hS
      have dp : DpAll X.K H (js.map V.int) (js.map PyData.int) := dpA_ints js
      obtain ⟨as, hr⟩ := Dp.readsAll I _ _ _ dp rv
      have dep : PyData.depthAll (js.map PyData.int) = 0 := dep_ints js
      have al : AlikeAll (js.map PyData.int) := by
        refine ⟨fun x hx y hy => ?_, fun x hx e => ?_⟩
        · obtain ⟨a, _, rfl⟩ := List.mem_map.mp hx
          obtain ⟨b, _, rfl⟩ := List.mem_map.mp hy
          rfl
        · obtain ⟨a, _, rfl⟩ := List.mem_map.mp hx
          cases e
      refine max_list_default (I.ok.hd hc) hl.isList (by rw [List.toList_toArray]; exact hr) al (by rw [dep]; omega) (fun e0 h' tk hk => ?_) (fun y ys i v h' tk bs e0 hv hrd hk => ?_)
      · cases js with
        | nil => exact ⟨.int d, H, I.kept hk, ⟨_, rfl⟩, q d (.inl ⟨rfl, rfl⟩)⟩
        | cons n ns => cases e0
      · cases js with
        | nil => cases e0
        | cons n ns =>
          rw [List.map_cons] at e0
          obtain ⟨e2, e3⟩ := List.cons.inj e0
          rw [← e2, ← e3, maxD_ints] at hrd
          obtain ⟨f1, f2, f3⟩ := fold_max ns n
          cases hrd with
          | int _ t =>
            refine ⟨.int _, H, I.kept hk, ⟨t, rfl⟩, q _ (.inr ⟨?_, fun y hy => ?_⟩)⟩
            · rcases f1 with e | e
              · rw [e]; exact List.mem_cons_self
              · exact List.mem_cons_of_mem _ e
            · rcases List.mem_cons.mp hy with z | z
              · rw [z]; exact f2
              · exact f3 y z
end Jr
namespace Jr
open PySem PySem.Spec PyProof.Rows L2
theorem feL_le (far : Nat) : ∀ (n : Nat) (xs : List Str), (feL far n xs).length ≤ xs.length
  | _, [] => Nat.le_refl _
  | n, x :: xs => by
    show ((if n + x.length ≤ far then [n + x.length] else []) ++ feL far (n + x.length) xs).length ≤ xs.length + 1
    have := feL_le far (n + x.length) xs
    rw [List.length_append]
    split
    · show 1 + _ ≤ _; omega
    · show 0 + _ ≤ _; omega
theorem at_last45 {xs : List V} {x : V} (h : xs[xs.length - 1]? = some x) : atI xs (-1) = some x := by
  have hj := (List.getElem?_eq_some_iff.mp h).1
  unfold atI ixN
  rw [if_neg (by omega), if_pos (by omega)]
  have e : ((-1 : Int) + (xs.length : Int)).toNat = xs.length - 1 := by omega
  rw [e]
  exact h
theorem inV_nat45 (n : Nat) (ns : List Nat) : inV (.int (n : Int)) (ns.map fun n : Nat => V.int (n : Int)) = decide (n ∈ ns) := by
  unfold inV
  rw [List.any_map]
  by_cases h : n ∈ ns
  · rw [decide_eq_true h, List.any_eq_true]
    exact ⟨n, h, by simp [eqV]⟩
  · rw [decide_eq_false h, List.any_eq_false]
    intro k hk hh
    have : eqV (V.int (k : Int)) (V.int (n : Int)) = true := hh
    have e2 : (k : Int) = (n : Int) := by simpa [eqV] using this
    rw [← Int.ofNat.inj e2] at h
    exact h hk
section
variable {P : Program} {w : World} {K : PySem.W.Frag} {mg : Str → Option Value} {base : Heap}
def spFromEnd (K : PySem.W.Frag) : Sp := fun vs H Q _ => ∃ (a : Addr) (xs : List Str) (far : Nat), vs = [.ref a, .int (far : Nat)] ∧ SqL K H a (xs.map V.str) ∧ (∀ x ∈ xs, x.length ≤ 1000) ∧ xs.length ≤ 10000 ∧ ∀ H' q, Same H H' → H q = none → H' q = some (.lst ((feL far 0 xs.reverse).map fun n : Nat => V.int (n : Nat))) → Q (.ref q) H'
theorem cal__law_from_end (T : Tx K mg) : Cal P w K mg base CX0 1 "_law_from_end" (spFromEnd K) := by
  obtain ⟨fd, F⟩ := T.d__law_from_end
  refine ⟨_, fd, P__law_from_end, F.ok sc__law_from_end (fun vs H Q E h => ?_) (fun cdv A outer s H vs Q E hr h => ?_), T.g__law_from_end, F.kp, F.bindsN (ps := P__law_from_end) fun _ _ _ _ _ _ us hl => match us, hl with | [_, _], _ => rfl⟩
  · obtain ⟨a, xs, far, rfl, _⟩ := h
    rfl
  · obtain ⟨a, xs, far, rfl, hA, xl, ll, k⟩ := h
    refine ⟨_, (PSs.nox (pss_cons (ps_set (i := 2) sc__law_from_end.nd rfl (Or.inl rfl) (pe_lstG pa_nil))
      (pss_cons (ps_set (i := 3) sc__law_from_end.nd rfl (Or.inl rfl) pe_int)
      (pss_cons (ps_for PassesOwn.never rfl (pi_list (pe_revL (pv 0))) (pg_name (i := 4) sc__law_from_end.nd rfl (Or.inl rfl)) (pss_cons (ps_set (i := 3) sc__law_from_end.nd rfl (Or.inl rfl) (pe_op op_add (pv 3) (pe_callB (id := "len") call_len_str (by rfl) T.n_len (by decide +kernel) (pa_cons (pv 4) pa_nil))))
      (pss_one (ps_if (pt_cmpR op_le (pv 3) (pv 1) (nomark _)) (pss_one (ps_expr (pe_bm PySem.F.plainAttrs_list PySem.F.slot_list_append PySem.F.type_list_append mt_append (pv 2) (pa_cons (pv 3) pa_nil)))) pss_nil))))
      (pss_one (ps_ret (pv 2))))))), ?_⟩
    refine ⟨(by show 0 ≤ sizeLine; decide), fun q H1 nq s1 hq => ?_⟩
    refine ⟨_, rfl, a, _, rfl, s1.seq hA, fun rv nrv => ?_⟩
    have hrv : (upd H1 rv (.lst (xs.map V.str).reverse)) rv = some (.lst (xs.reverse.map V.str)) := by rw [upd_same, List.map_reverse]
    have s2 := Same.new (o := .lst (xs.map V.str).reverse) nrv
    have hq2 := s2 _ _ hq
    revert hrv s2 hq2
    generalize (upd H1 rv (.lst (xs.map V.str).reverse)) = H2
    intro hrv s2 hq2
    have s02 := s1.trans s2
    have nr : rv ≠ q := fun e => by rw [e] at nrv; rw [nrv] at hq; cases hq
    refine ⟨rv, rfl, ⟨_, SqL.of hrv⟩, for_list (K := K) (a := rv) (xs := xs.reverse.map V.str) (fun j σ H4 => ∃ v4 : Option V, σ = [some (.ref a), some (.int (far : Nat)), some (.ref q), some (.int ((flat (xs.reverse.take j)).length : Nat)), v4] ∧ Same H H4 ∧ H4 q = some (.lst ((feL far 0 (xs.reverse.take j)).map fun n : Nat => V.int (n : Nat))) ∧ H4 rv = some (.lst (xs.reverse.map V.str)))
      ⟨_, rfl, s02, hq2, hrv⟩ (fun i σ H' _ ⟨_, _, _, _, h⟩ => SqL.of h) ?_ ?_⟩
    · rintro j v σ H4 hj ⟨v4, rfl, s4, hq4, hr4⟩
      rw [List.getElem?_map] at hj
      cases ex : xs.reverse[j]? with
      | none => rw [ex] at hj; cases hj
      | some x =>
      rw [ex] at hj
      cases hj
      have xin : x ∈ xs := List.mem_reverse.mp (List.mem_of_getElem? ex)
      have xl1 := xl x xin
      have jl := (List.getElem?_eq_some_iff.mp ex).1
      rw [List.length_reverse] at jl
      have et : xs.reverse.take (j + 1) = xs.reverse.take j ++ [x] := by rw [List.take_add_one, ex]; rfl
      refine ⟨_, rfl, _, rfl, _, rfl, sz (by omega), _, _, rfl, rfl, ?_⟩
      have es : (flat (xs.reverse.take (j + 1))).length = (flat (xs.reverse.take j)).length + x.length := by rw [et, flat_len_app, flat_one]
      show gName 3 (V.int (((flat (xs.reverse.take j)).length : Nat) + ((x.length : Nat) : Int))) _ _ _
      rw [show (((flat (xs.reverse.take j)).length : Nat) : Int) + ((x.length : Nat) : Int) = ((flat (xs.reverse.take (j + 1))).length : Nat) by rw [es]; omega]
      refine ⟨_, rfl, _, rfl, _, _, rfl, rfl, _, rfl, ?_⟩
      have ef := feL_snoc far 0 (xs.reverse.take j) x
      rw [← et, Nat.zero_add, ← es] at ef
      by_cases c : (flat (xs.reverse.take (j + 1))).length ≤ far
      · rw [decide_eq_true (show ((flat (xs.reverse.take (j + 1))).length : Int) ≤ (far : Int) by omega)]
        rw [if_pos c] at ef
        have fl : (feL far 0 (xs.reverse.take j)).length ≤ (xs.reverse.take j).length := feL_le far 0 _
        rw [List.length_take] at fl
        have rq : q ≠ rv := fun e => nr e.symm
        refine iteT ⟨_, rfl, .inl ⟨rfl, _, SqL.of hq4⟩, _, rfl, q, _, _, rfl, rfl, hq4, (by rw [List.length_map]; exact szl (by omega)), _, rfl, Same.mut s4 nq, ?_, by rw [upd_ne nr]; exact hr4⟩
        rw [upd_same, ef, List.map_append]
        rfl
      · rw [decide_eq_false (show ¬ ((flat (xs.reverse.take (j + 1))).length : Int) ≤ (far : Int) by omega)]
        rw [if_neg c, List.append_nil] at ef
        exact iteF ⟨_, rfl, s4, by rw [ef]; exact hq4, hr4⟩
    · rintro σ H4 ⟨v4, rfl, s4, hq4, hr4⟩
      rw [List.length_map, List.take_length] at hq4
      exact ⟨_, rfl, k _ q s4 nq hq4⟩
def spParts45 (K : PySem.W.Frag) : Sp := fun vs H Q _ => ∃ (t a : Addr) (old : List Str) (p : Patch), vs = [.ref t, .ref a] ∧ PatchAt H t p ∧ H a = some (.lst (old.map V.str)) ∧ old.length ≤ 10000 ∧ p.first ≤ old.length ∧ (old.drop p.first).take p.out.length = p.out ∧ (∀ x ∈ old, Asc x) ∧ ∀ H', Same H H' → Q (.bl true) H'
theorem cal__law_parts45 (T : Tx K mg) : Cal P w K mg base CX0 2 "_law_parts" (spParts45 K) := by
  have C__law_whole := cal__law_whole (P := P) (w := w) (base := base) T
  obtain ⟨fd, F⟩ := T.d__law_parts
  refine ⟨_, fd, P__law_parts, F.ok sc__law_parts (fun vs H Q E h => ?_) (fun cdv A outer s H vs Q E hr h => ?_), T.g__law_parts, F.kp, F.bindsN (ps := P__law_parts) fun _ _ _ _ _ _ us hl => match us, hl with | [_, _], _ => rfl⟩
  · obtain ⟨t, a, old, p, rfl, _⟩ := h
    rfl
  · obtain ⟨t, a, old, p, rfl, ⟨b1, b2, ht, hb1, hb2⟩, ha, ol, fo, eo, asc, k⟩ := h
    refine ⟨_, (PSs.nox (pss_cons (ps_if (PW.pt (pw_or (pt_not (pt_val (pe_callB (id := "isinstance") call_isi (by rfl) T.n_isinstance (by decide +kernel) (pa_cons (pv 0) (pa_cons (pe_bltn (v := .ty "tuple") (by rfl) T.n_tuple (by decide +kernel) rfl) pa_nil))))) (pw_or (pt_cmpR op_ne (pe_callB (id := "len") call_len_seq (by rfl) T.n_len (by decide +kernel) (pa_cons (pv 0) pa_nil)) pe_int (nomark _)) (pw_or1 (pt_not (pt_val (pe_cal C__law_whole (by first | exact hr | exact hr.mono (by decide)) (by rfl) (pa_cons (pe_ix ix_tup (pv 0) pe_int (fun _ _ => rfl)) pa_nil)))))))) (pss_one (ps_ret pe_bl)) pss_nil)
      (pss_cons (ps_if (PW.pt (pw_or (pt_not (pt_val (pe_callB (id := "isinstance") call_isi (by rfl) T.n_isinstance (by decide +kernel) (pa_cons (pe_ix ix_tup (pv 0) pe_int (fun _ _ => rfl)) (pa_cons (pe_bltn (v := .ty "list") (by rfl) T.n_list (by decide +kernel) rfl) pa_nil))))) (pw_or1 (pt_not (pt_val (pe_callB (id := "isinstance") call_isi (by rfl) T.n_isinstance (by decide +kernel) (pa_cons (pe_ix ix_tup (pv 0) pe_int (fun _ _ => rfl)) (pa_cons (pe_bltn (v := .ty "list") (by rfl) T.n_list (by decide +kernel) rfl) pa_nil)))))))) (pss_one (ps_ret pe_bl)) pss_nil)
      (pss_one (ps_ret (pe_and (pe_chain op_le op_le pe_int (pe_ix ix_tup (pv 0) pe_int (fun _ _ => rfl)) (pe_callB (id := "len") call_len_seq (by rfl) T.n_len (by decide +kernel) (pa_cons (pv 1) pa_nil))) (pe_one (pe_cmpR (op_eqD hr.units) (pe_slice sl_listG (pv 1) (po_some (pe_ix ix_tup (pv 0) pe_int (fun _ _ => rfl))) (po_some (pe_op op_add (pe_ix ix_tup (pv 0) pe_int (fun _ _ => rfl)) (pe_callB (id := "len") call_len_seq (by rfl) T.n_len (by decide +kernel) (pa_cons (pe_ix ix_tup (pv 0) pe_int (fun _ _ => rfl)) pa_nil))))) (pe_ix ix_tup (pv 0) pe_int (fun _ _ => rfl)) (nomark _))))))))), ?_⟩
    have asco : ∀ x ∈ p.out, Asc x := fun x hx => asc x (List.mem_of_mem_drop (List.mem_of_mem_take (eo ▸ hx)))
    have at0 : ∀ (u v x : V), atI [u, v, x] 0 = some u := fun u v x => (show atI _ ((0 : Nat) : Int) = _ from ats rfl)
    have at1 : ∀ (u v x : V), atI [u, v, x] 1 = some v := fun u v x => (show atI _ ((1 : Nat) : Int) = _ from ats rfl)
    have at2 : ∀ (u v x : V), atI [u, v, x] 2 = some x := fun u v x => (show atI _ ((2 : Nat) : Int) = _ from ats rfl)
    refine ⟨_, rfl, _, _, _, _, _, rfl, .ty "tuple", .base (.tup ht), isTup, _, rfl, iteF ?_⟩
    refine ⟨_, rfl, t, _, rfl, .inr (SqT.of ht), rfl, _, rfl, iteF ?_⟩
    refine ⟨_, rfl, t, _, _, _, rfl, rfl, SqT.of ht, at0 _ _ _, _, rfl, _, rfl, iteF ?_⟩
    refine ⟨_, rfl, t, _, _, _, rfl, rfl, SqT.of ht, at1 _ _ _, _, _, _, _, _, rfl, .ty "list", .base (.lst hb1), isLst, _, rfl, iteF ?_⟩
    refine ⟨_, rfl, t, _, _, _, rfl, rfl, SqT.of ht, at2 _ _ _, _, _, _, _, _, rfl, .ty "list", .base (.lst hb2), isLst, _, rfl, iteF ?_⟩
    refine ⟨_, rfl, t, _, _, _, rfl, rfl, SqT.of ht, at0 _ _ _, _, _, rfl, rfl, _, rfl, ?_⟩
    rw [decide_eq_true (show (0 : Int) ≤ ((p.first : Nat) : Int) by omega)]
    refine iteT ⟨_, rfl, a, _, rfl, .inl (SqL.of ha), _, _, rfl, rfl, _, rfl, ?_⟩
    rw [decide_eq_true (show ((p.first : Nat) : Int) ≤ (((old.map V.str).length : Nat) : Int) by rw [List.length_map]; omega)]
    refine iteT ?_
    refine ⟨_, rfl, _, rfl, t, _, _, _, rfl, rfl, SqT.of ht, at0 _ _ _, _, rfl, _, rfl, t, _, _, _, rfl, rfl, SqT.of ht, at0 _ _ _, _, rfl, t, _, _, _, rfl, rfl, SqT.of ht, at1 _ _ _, b1, _, rfl, .inl (SqL.of hb1), _, _, rfl, rfl, _, rfl, a, _, rfl, SqL.of ha, fun c H1 nc s1 hc => ?_⟩
    rw [List.length_map, show ((p.first : Nat) : Int) + ((p.out.length : Nat) : Int) = ((p.first + p.out.length : Nat) : Int) by omega, cutV_mid, ← List.map_drop, ← List.map_take, show p.first + p.out.length - p.first = p.out.length by omega, eo] at hc
    refine ⟨_, rfl, t, _, _, _, rfl, rfl, SqT.of (s1 _ _ ht), at1 _ _ _, _, _, dpS (SqL.of hc), dpS (SqL.of (s1 _ _ hb1)), shS asco, shS asco, ?_⟩
    rw [eqS, decide_eq_true rfl]
    exact k _ s1
def spGood45 (K : PySem.W.Frag) : Sp := fun vs H Q _ => ∃ (t a b : Addr) (old new : List Str) (p : Patch) (pl far : Nat), vs = [.ref t, .ref a, .ref b, .int (pl : Nat), .int (far : Nat)] ∧ PatchAt H t p ∧ H a = some (.lst (old.map V.str)) ∧ H b = some (.lst (new.map V.str)) ∧ old.length ≤ 2000 ∧ new.length ≤ 2000 ∧ (∀ x ∈ old, Asc x ∧ x.length ≤ 16) ∧ (∀ x ∈ new, Asc x ∧ x.length ≤ 16) ∧
  p.first + p.out.length ≤ old.length ∧ p.out = (old.drop p.first).take p.out.length ∧ p.into = (new.drop p.first).take p.into.length ∧ new.length - p.into.length = old.length - p.out.length ∧ p.into.length ≤ new.length ∧ Good45 old new p.first (old.length - p.first - p.out.length) pl far ∧ ∀ H', Same H H' → Q (.bl true) H'
theorem cal__law_good_ends (T : Tx K mg) : Cal P w K mg base CX0 2 "_law_good_ends" (spGood45 K) := by
  have C__law_from_end := cal__law_from_end (P := P) (w := w) (base := base) T
  obtain ⟨fd, F⟩ := T.d__law_good_ends
  refine ⟨_, fd, P__law_good_ends, F.ok sc__law_good_ends (fun vs H Q E h => ?_) (fun cdv A outer s H vs Q E hr h => ?_), T.g__law_good_ends, F.kp, F.bindsN (ps := P__law_good_ends) fun _ _ _ _ _ _ us hl => match us, hl with | [_, _, _, _, _], _ => rfl⟩
  · obtain ⟨t, a, b, old, new, p, pl, far, rfl, _⟩ := h
    rfl
  · obtain ⟨t, a, b, old, new, p, pl, far, rfl, ⟨b1, b2, ht, hb1, hb2⟩, ha, hb, ol, nl, fo, fn, le, eo, ei, ed, il, g, k⟩ := h
    refine ⟨_, (PSs.nox (pss_cons (ps_asg (pv 0) (pg_tup rfl (pgs_cons (pg_name (i := 5) sc__law_good_ends.nd rfl (Or.inl rfl)) (pgs_cons (pg_name (i := 6) sc__law_good_ends.nd rfl (Or.inl rfl)) (pgs_cons (pg_name (i := 7) sc__law_good_ends.nd rfl (Or.inl rfl)) pgs_nil)))))
      (pss_cons (ps_set (i := 8) sc__law_good_ends.nd rfl (Or.inl rfl) (pe_op op_sub (pe_op op_sub (pe_callB (id := "len") call_len_seq (by rfl) T.n_len (by decide +kernel) (pa_cons (pv 1) pa_nil)) (pv 5)) (pe_callB (id := "len") call_len_seq (by rfl) T.n_len (by decide +kernel) (pa_cons (pv 6) pa_nil))))
      (pss_cons (ps_if (PW.pt (pw_or (pt_cmpR op_gt (pe_callB (id := "len") call_len_str (by rfl) T.n_len (by decide +kernel) (pa_cons (pe_join pe_str (pe_slice sl_listG (pv 1) po_none (po_some (pv 5)))) pa_nil)) (pv 3) (nomark _)) (pw_or1 (pt_cmpR op_gt (pe_callB (id := "len") call_len_str (by rfl) T.n_len (by decide +kernel) (pa_cons (pe_join pe_str (pe_slice sl_listG (pv 1) (po_some (pe_op op_sub (pe_callB (id := "len") call_len_seq (by rfl) T.n_len (by decide +kernel) (pa_cons (pv 1) pa_nil)) (pv 8))) po_none)) pa_nil)) (pv 4) (nomark _))))) (pss_one (ps_ret pe_bl)) pss_nil)
      (C8.pss_cut (ps_if (PW.pt (pw_and (pt_cmpR (op_neD hr.units) (pv 6) (pe_lstG pa_nil) (nomark _)) (pw_and1 (pt_cmpR (op_neD hr.units) (pv 7) (pe_lstG pa_nil) (nomark _))))) (C8.pss_cut (ps_if (PW.pt (pw_and (pt_cmpR op_eq (pe_ix ix_list (pv 6) pe_int (fun _ _ => rfl)) (pe_ix ix_list (pv 7) pe_int (fun _ _ => rfl)) (nomark _)) (pw_and1 (pt_cmpR op_le (pe_callB (id := "len") call_len_str (by rfl) T.n_len (by decide +kernel) (pa_cons (pe_join pe_str (pe_slice sl_listG (pv 1) po_none (po_some (pe_op op_add (pv 5) pe_int)))) pa_nil)) (pv 3) (nomark _))))) (pss_one (ps_ret pe_bl)) pss_nil)
      (pss_one (ps_if (PW.pt (pw_and (pt_cmpR op_eq (pe_ix ix_list (pv 6) (pe_un un_neg pe_int) (fun _ _ => rfl)) (pe_ix ix_list (pv 7) (pe_un un_neg pe_int) (fun _ _ => rfl)) (nomark _)) (pw_and1 (pt_cmpR op_le (pe_callB (id := "len") call_len_str (by rfl) T.n_len (by decide +kernel) (pa_cons (pe_join pe_str (pe_slice sl_listG (pv 1) (po_some (pe_op op_sub (pe_op op_sub (pe_callB (id := "len") call_len_seq (by rfl) T.n_len (by decide +kernel) (pa_cons (pv 1) pa_nil)) (pv 8)) pe_int)) po_none)) pa_nil)) (pv 4) (nomark _))))) (pss_one (ps_ret pe_bl)) pss_nil))) pss_nil)
      (pss_cons (ps_setLc (i := 9) (own := [("_law_size", 10)]) (g := gName 10) (by rfl) sc__law_good_ends.nd rfl rfl (sw_true rfl rfl rfl (by decide +kernel)) (pi_list (pe_cal C__law_from_end (by first | exact hr | exact hr.mono (by decide)) (by rfl) (pa_cons (pv 1) (pa_cons (pv 4) pa_nil)))) (blkOk_by (own := [("_law_size", 10)]) (N := N__law_good_ends) (sc := defScope s__law_good_ends) (by decide +kernel)) (fun _ _ _ _ _ => (pg_name (i := 10) sc__law_good_ends.nd rfl (Or.inl rfl))) (fun _ _ _ _ _ => (pts_one (pt_cmpR (op_in_seqK (K := K)) (pv 10) (pe_cal C__law_from_end (by first | exact hr | exact hr.mono (by decide)) (by rfl) (pa_cons (pv 2) (pa_cons (pv 4) pa_nil))) rfl))) (fun _ _ _ _ _ => (pv 10)))
      (pss_cons (ps_set (i := 10) sc__law_good_ends.nd rfl (Or.inl rfl) (pe_callBK (id := "max") (call_maxD rfl hr.units) (by rfl) T.n_max (by decide +kernel) (pa_cons (pv 9) pa_nil) (pk_cons pe_int pk_nil)))
      (pss_one (ps_ret (pe_cmpR op_eq (pe_callB (id := "len") call_len_seq (by rfl) T.n_len (by decide +kernel) (pa_cons (pe_cal C__law_from_end (by first | exact hr | exact hr.mono (by decide)) (by rfl) (pa_cons (pv 1) (pa_cons (pv 10) pa_nil))) pa_nil)) (pv 8) (nomark _))))))))))), ?_⟩
    refine ⟨_, rfl, t, _, rfl, SqT.of ht, rfl, _, _, rfl, _, _, rfl, _, _, rfl, rfl, ?_⟩
    have oll : (old.map V.str).length = old.length := List.length_map ..
    have el0 : (Str.ofString "").length = 0 := by decide +kernel
    refine ⟨_, rfl, a, _, rfl, .inl (SqL.of ha), _, rfl, _, _, rfl, rfl, _, rfl, b1, _, rfl, .inl (SqL.of hb1), _, _, rfl, rfl, ?_⟩
    obtain ⟨l, el⟩ : ∃ l, l = old.length - p.first - p.out.length := ⟨_, rfl⟩
    rw [← el] at g
    show gName 8 (V.int ((((old.map V.str).length : Nat) : Int) - ((p.first : Nat) : Int) - (((p.out.map V.str).length : Nat) : Int))) _ _ _
    rw [oll, List.length_map, show ((old.length : Nat) : Int) - ((p.first : Nat) : Int) - ((p.out.length : Nat) : Int) = ((l : Nat) : Int) by omega]
    have jl : ∀ xs : List Str, (Txt.join (Str.ofString "") xs).length = (flat xs).length := fun xs => by rw [← len_cps, join_cps]
    have sumo : ∀ xs : List Str, (∀ x ∈ xs, x ∈ old) → xs.length ≤ 2000 → (xs.map (·.length)).sum + 2 * xs.length ≤ 40000 := fun xs hx hl => by
      have := sum_le xs 16 fun x hx' => (fo x (hx x hx')).2
      omega
    have flo : ∀ xs : List Str, (∀ x ∈ xs, x ∈ old) → xs.length ≤ 2000 → (flat xs).length ≤ 40000 := fun xs hx hl => by
      have := sumo xs hx hl
      rw [flat_len] at this
      omega
    refine ⟨⟨_, rfl⟩, _, rfl, _, rfl, _, rfl, a, _, rfl, SqL.of ha, fun c1 H1 nc1 s1 hc1 => ?_⟩
    rw [cutV_to, ← List.map_take] at hc1
    have m1 : ∀ x ∈ old.take p.first, x ∈ old := fun x hx => List.mem_of_mem_take hx
    have m1l : (old.take p.first).length ≤ 2000 := by rw [List.length_take]; omega
    refine ⟨_, c1, old.take p.first, rfl, rfl, .inl (SqL.of hc1), (by have := sumo _ m1 m1l; rw [el0]; omega), _, rfl, (by rw [jl]; exact sz (by have := flo _ m1 m1l; omega)), ?_⟩
    refine ⟨_, rfl, _, _, rfl, rfl, _, rfl, ?_⟩
    rw [jl]
    have G1 := g.f1
    rw [decide_eq_false (show ¬ ((pl : Nat) : Int) < (((flat (old.take p.first)).length : Nat) : Int) by omega)]
    refine iteF ?_
    have ha1 := s1 _ _ ha
    have lo := g.lo
    have ln := g.ln
    refine ⟨⟨_, rfl⟩, _, rfl, _, rfl, a, _, rfl, .inl (SqL.of ha1), _, rfl, _, _, rfl, rfl, _, rfl, a, _, rfl, SqL.of ha1, fun c2 H2 nc2 s2 hc2 => ?_⟩
    rw [oll, show ((old.length : Nat) : Int) - ((l : Nat) : Int) = ((old.length - l : Nat) : Int) by omega, cutV_from, ← List.map_drop] at hc2
    have m2 : ∀ x ∈ old.drop (old.length - l), x ∈ old := fun x hx => List.mem_of_mem_drop hx
    have m2l : (old.drop (old.length - l)).length ≤ 2000 := by rw [List.length_drop]; omega
    refine ⟨_, c2, old.drop (old.length - l), rfl, rfl, .inl (SqL.of hc2), (by have := sumo _ m2 m2l; rw [el0]; omega), _, rfl, (by rw [jl]; exact sz (by have := flo _ m2 m2l; omega)), ?_⟩
    refine ⟨_, rfl, _, _, rfl, rfl, _, rfl, ?_⟩
    rw [jl]
    have G2 := g.f2
    rw [decide_eq_false (show ¬ ((far : Nat) : Int) < (((flat (old.drop (old.length - l))).length : Nat) : Int) by omega)]
    refine iteF ?_
    have s02 := s1.trans s2
    refine ⟨fun σ H' => σ = [some (.ref t), some (.ref a), some (.ref b), some (.int (pl : Nat)), some (.int (far : Nat)), some (.int (p.first : Nat)), some (.ref b1), some (.ref b2), some (.int (l : Nat)), none, none] ∧ Same H H', ?_, ?_⟩
    · refine ⟨_, rfl, (by show 0 ≤ sizeLine; decide), fun q1 H3 nq1 s3 hq1 => ?_⟩
      have s03 := s02.trans s3
      have asco : ∀ x ∈ p.out, Asc x := fun x hx => (fo x (List.mem_of_mem_drop (List.mem_of_mem_take (eo ▸ hx)))).1
      have asci : ∀ x ∈ p.into, Asc x := fun x hx => (fn x (List.mem_of_mem_drop (List.mem_of_mem_take (ei ▸ hx)))).1
      refine ⟨_, _, dpS (SqL.of (s03 _ _ hb1)), dpS (xs := []) (SqL.of hq1), shS asco, shS (fun _ h => by cases h), _, rfl, ?_⟩
      rw [eqS]
      by_cases c1 : p.out = []
      · rw [decide_eq_true c1]
        exact iteF ⟨rfl, s03⟩
      rw [decide_eq_false c1]
      refine iteT ⟨_, rfl, (by show 0 ≤ sizeLine; decide), fun q2 H4 nq2 s4 hq2 => ?_⟩
      have s04 := s03.trans s4
      refine ⟨_, _, dpS (SqL.of (s04 _ _ hb2)), dpS (xs := []) (SqL.of hq2), shS asci, shS (fun _ h => by cases h), _, rfl, ?_⟩
      rw [eqS]
      by_cases c2 : p.into = []
      · rw [decide_eq_true c2]
        exact iteF ⟨rfl, s04⟩
      rw [decide_eq_false c2]
      refine iteT ?_
      have lp1 := List.length_pos_iff.mpr c1
      have lp2 := List.length_pos_iff.mpr c2
      have geto : ∀ i, i < p.out.length → p.out[i]? = old[p.first + i]? := fun i hi => by
        rw [eo, List.getElem?_take, if_pos hi, List.getElem?_drop]
      have geti : ∀ i, i < p.into.length → p.into[i]? = new[p.first + i]? := fun i hi => by
        rw [ei, List.getElem?_take, if_pos hi, List.getElem?_drop]
      obtain ⟨x0, hx0⟩ : ∃ x, p.out[0]? = some x := ⟨_, List.getElem?_eq_getElem lp1⟩
      obtain ⟨y0, hy0⟩ : ∃ x, p.into[0]? = some x := ⟨_, List.getElem?_eq_getElem lp2⟩
      obtain ⟨x1, hx1⟩ : ∃ x, p.out[p.out.length - 1]? = some x := ⟨_, List.getElem?_eq_getElem (by omega)⟩
      obtain ⟨y1, hy1⟩ : ∃ x, p.into[p.into.length - 1]? = some x := ⟨_, List.getElem?_eq_getElem (by omega)⟩
      have X1 : atI (p.out.map V.str) (-1) = some (.str x1) := at_last45 (by rw [List.length_map, List.getElem?_map, hx1]; rfl)
      have Y1 : atI (p.into.map V.str) (-1) = some (.str y1) := at_last45 (by rw [List.length_map, List.getElem?_map, hy1]; rfl)
      have hb14 := s04 _ _ hb1
      have hb24 := s04 _ _ hb2
      have ha4 := s04 _ _ ha
      refine ⟨fun σ H' => σ = [some (.ref t), some (.ref a), some (.ref b), some (.int (pl : Nat)), some (.int (far : Nat)), some (.int (p.first : Nat)), some (.ref b1), some (.ref b2), some (.int (l : Nat)), none, none] ∧ Same H H', ?_, ?_⟩
      · refine ⟨_, rfl, b1, _, _, _, rfl, rfl, SqL.of hb14, atm (i := 0) hx0, _, rfl, b2, _, _, _, rfl, rfl, SqL.of hb24, atm (i := 0) hy0, rfl, _, rfl, ?_⟩
        by_cases ex : x0 = y0
        · rw [decide_eq_true (by rw [ex])]
          refine iteT ⟨⟨_, rfl⟩, _, rfl, _, rfl, _, _, rfl, rfl, _, rfl, a, _, rfl, SqL.of ha4, fun c3 H5 nc3 s5 hc3 => ?_⟩
          rw [show ((p.first : Nat) : Int) + 1 = ((p.first + 1 : Nat) : Int) by omega, cutV_to, ← List.map_take] at hc3
          have m3 : ∀ x ∈ old.take (p.first + 1), x ∈ old := fun x hx => List.mem_of_mem_take hx
          have m3l : (old.take (p.first + 1)).length ≤ 2000 := by rw [List.length_take]; omega
          refine ⟨_, c3, old.take (p.first + 1), rfl, rfl, .inl (SqL.of hc3), (by have := sumo _ m3 m3l; rw [el0]; omega), _, rfl, (by rw [jl]; exact sz (by have := flo _ m3 m3l; omega)), ?_⟩
          refine ⟨_, rfl, _, _, rfl, rfl, _, rfl, ?_⟩
          rw [jl]
          have G3 := g.f3 x0 (by rw [← Nat.add_zero p.first, ← geto 0 lp1]; exact hx0) (by rw [← Nat.add_zero p.first, ← geti 0 lp2, ex]; exact hy0)
          rw [decide_eq_false (show ¬ (((flat (old.take (p.first + 1))).length : Nat) : Int) ≤ ((pl : Nat) : Int) by omega)]
          exact iteF ⟨rfl, s04.trans s5⟩
        · rw [decide_eq_false (fun e => ex (V.str.inj e))]
          exact iteF ⟨rfl, s04⟩
      rintro σ H5 ⟨rfl, s5⟩
      have hb15 := s5 _ _ hb1
      have hb25 := s5 _ _ hb2
      have ha5 := s5 _ _ ha
      refine ⟨_, rfl, _, rfl, b1, _, _, _, rfl, rfl, SqL.of hb15, X1, _, rfl, _, rfl, b2, _, _, _, rfl, rfl, SqL.of hb25, Y1, rfl, _, rfl, ?_⟩
      by_cases ex : x1 = y1
      · rw [decide_eq_true (by rw [ex])]
        refine iteT ⟨⟨_, rfl⟩, _, rfl, _, rfl, a, _, rfl, .inl (SqL.of ha5), _, rfl, _, _, rfl, rfl, _, _, rfl, rfl, _, rfl, a, _, rfl, SqL.of ha5, fun c3 H6 nc3 s6 hc3 => ?_⟩
        rw [oll, show ((old.length : Nat) : Int) - ((l : Nat) : Int) - 1 = ((old.length - l - 1 : Nat) : Int) by omega, cutV_from, ← List.map_drop] at hc3
        have m3 : ∀ x ∈ old.drop (old.length - l - 1), x ∈ old := fun x hx => List.mem_of_mem_drop hx
        have m3l : (old.drop (old.length - l - 1)).length ≤ 2000 := by rw [List.length_drop]; omega
        refine ⟨_, c3, old.drop (old.length - l - 1), rfl, rfl, .inl (SqL.of hc3), (by have := sumo _ m3 m3l; rw [el0]; omega), _, rfl, (by rw [jl]; exact sz (by have := flo _ m3 m3l; omega)), ?_⟩
        refine ⟨_, rfl, _, _, rfl, rfl, _, rfl, ?_⟩
        rw [jl]
        have G4 := g.f4 x1 (by omega) (by omega) (by rw [← hx1, geto _ (by omega)]; congr 1; omega) (by rw [ex, ← hy1, geti _ (by omega)]; congr 1; omega)
        rw [decide_eq_false (show ¬ (((flat (old.drop (old.length - l - 1))).length : Nat) : Int) ≤ ((far : Nat) : Int) by omega)]
        exact iteF ⟨rfl, s5.trans s6⟩
      · rw [decide_eq_false (fun e => ex (V.str.inj e))]
        exact iteF ⟨rfl, s5⟩
    rintro σ H3 ⟨rfl, s3⟩
    have ha3 := s3 _ _ ha
    have hb3 := s3 _ _ hb
    have xlo : ∀ x ∈ old, x.length ≤ 1000 := fun x hx => by have := (fo x hx).2; omega
    have xln : ∀ x ∈ new, x.length ≤ 1000 := fun x hx => by have := (fn x hx).2; omega
    refine ⟨_, rfl, _, rfl, a, old, far, rfl, SqL.of ha3, xlo, by omega, fun H4 q4 s4 nq4 hq4 => ?_⟩
    have fl := feL_le far 0 old.reverse
    rw [List.length_reverse] at fl
    refine ⟨q4, rfl, ⟨_, SqL.of hq4⟩, fun D hD => lc_listC (K := K) (item := fun n : Nat => V.int (n : Nat)) (p := fun n => decide (n ∈ feL far 0 new.reverse)) (f := fun n : Nat => V.int (n : Nat)) (l := feL far 0 old.reverse) (SqL.of hq4) hD (by omega) (fun n hn H5 s5 N M hM hN => ?_) (fun H5 s5 hL5 => ?_)⟩
    · refine ⟨rfl, _, rfl, _, rfl, _, rfl, b, new, far, rfl, SqL.of (s5 _ _ (s4 _ _ hb3)), xln, by omega, fun H6 q6 s6 nq6 hq6 => ?_⟩
      refine ⟨q6, _, rfl, .inl (SqL.of hq6), rfl, (by rw [List.all_map]; simp [flatV]), _, rfl, ?_⟩
      rw [inV_nat45]
      by_cases c : n ∈ feL far 0 new.reverse
      · rw [decide_eq_true c]
        exact iteT ⟨_, rfl, hM (decide_eq_true c) _ s6⟩
      · rw [decide_eq_false c]
        exact iteF (hN (decide_eq_false c) _ s6)
    have s35 := s4.trans s5
    have eI : ((feL far 0 old.reverse).filter fun n => decide (n ∈ feL far 0 new.reverse)).map (fun n : Nat => V.int (n : Nat)) = (((feL far 0 old.reverse).filter fun n => decide (n ∈ feL far 0 new.reverse)).map fun n : Nat => (n : Int)).map V.int := by rw [List.map_map]; rfl
    rw [eI] at hL5
    refine ⟨_, rfl, _, _, _, rfl, rfl, SqL.of hL5, fun m hm => ?_⟩
    obtain ⟨S, rfl, hS⟩ : ∃ S : Nat, m = (S : Int) ∧ ((S ∈ feL far 0 old.reverse ∧ S ∈ feL far 0 new.reverse ∧ ∀ s, s ∈ feL far 0 old.reverse → s ∈ feL far 0 new.reverse → s ≤ S) ∨ (S = 0 ∧ ∀ s, s ∈ feL far 0 old.reverse → ¬ s ∈ feL far 0 new.reverse)) := by
      have mem : ∀ s, s ∈ feL far 0 old.reverse → s ∈ feL far 0 new.reverse → ((s : Nat) : Int) ∈ ((feL far 0 old.reverse).filter fun n => decide (n ∈ feL far 0 new.reverse)).map fun n : Nat => (n : Int) := fun s h1 h2 =>
        List.mem_map.mpr ⟨s, List.mem_filter.mpr ⟨h1, decide_eq_true h2⟩, rfl⟩
      rcases hm with ⟨e, rfl⟩ | ⟨h, hmax⟩
      · refine ⟨0, rfl, .inr ⟨rfl, fun s h1 h2 => ?_⟩⟩
        have := mem s h1 h2
        rw [e] at this
        cases this
      · obtain ⟨S, hS, rfl⟩ := List.mem_map.mp h
        obtain ⟨h1, h2⟩ := List.mem_filter.mp hS
        exact ⟨S, rfl, .inl ⟨h1, of_decide_eq_true h2, fun s a b => by have := hmax _ (mem s a b); omega⟩⟩
    have g5 := g.f5 S hS
    have s05 := s3.trans s35
    refine ⟨_, rfl, _, rfl, a, old, S, rfl, SqL.of (s05 _ _ ha), xlo, by omega, fun H6 q6 s6 nq6 hq6 => ?_⟩
    refine ⟨q6, _, rfl, .inl (SqL.of hq6), _, rfl, rfl, ?_⟩
    rw [List.length_map, g5, decide_eq_true (rfl : V.int ((l : Nat) : Int) = V.int (l : Nat))]
    exact k _ (s05.trans s6)
end
end Jr
namespace Jr
open PySem PySem.Spec PyProof.Rows L2
section
variable {P : Program} {w : World} {K : PySem.W.Frag} {mg : Str → Option Value} {base : Heap}
/-- of a row of pieces: None -/
def spFirstNo (K : PySem.W.Frag) : Sp := fun vs H Q _ => ∃ (x a : Addr) (z : Str) (rs : Rws) (xs : List Str), vs = [.ref x, .ref a] ∧ TabAt (TC K) H x z rs ∧ SqL K H a (xs.map V.str) ∧ (∀ p ∈ xs, p ∈ pcs z rs) ∧ ∀ H', Same H H' → Q .non H'
theorem cal_first_no_piece (T : Tx K mg) : Cal P w K mg base CX0 2 "first_no_piece" (spFirstNo K) := by
  have M_Table_which := met_which (P := P) (w := w) (base := base) T
  obtain ⟨fd, F⟩ := T.d_first_no_piece
  refine ⟨_, fd, P_first_no_piece, F.ok sc_first_no_piece (fun vs H Q E h => ?_) (fun cdv A outer s H vs Q E hr h => ?_), T.g_first_no_piece, F.kp, F.bindsN (ps := P_first_no_piece) fun _ _ _ _ _ _ us hl => match us, hl with | [_, _], _ => rfl⟩
  · obtain ⟨x, a, z, rs, xs, rfl, _⟩ := h
    rfl
  · obtain ⟨x, a, z, rs, xs, rfl, ta, hS, hin, k⟩ := h
    refine ⟨_, (PSs.nox (pss_cons (ps_for PassesOwn.never rfl (pi_enum (by rfl) T.n_enumerate (pa_cons (pv 1) pa_nil)) (pg_tup rfl (pgs_cons (pg_name (i := 2) sc_first_no_piece.nd rfl (Or.inl rfl)) (pgs_cons (pg_name (i := 3) sc_first_no_piece.nd rfl (Or.inl rfl)) pgs_nil))) (pss_one (ps_if (pt_cmpR op_isN (pe_met M_Table_which (pv 0) (by first | exact hr | exact hr.mono (by decide)) (pa_cons (pv 3) pa_nil)) pe_non (nomark _)) (pss_one (ps_ret (pv 2))) pss_nil)))
      (pss_one (ps_ret pe_non)))), ?_⟩
    refine ⟨_, rfl, a, _, rfl, hS, for_enum (K := K) (a := a) (xs := xs.map V.str) (fun i σ H' => ∃ (u v : Option V), σ = [some (.ref x), some (.ref a), u, v] ∧ Same H H')
      ⟨none, none, rfl, Same.refl _⟩ (fun i σ H' _ ⟨_, _, _, s⟩ => s.seq hS) ?_ (fun σ H' ⟨_, _, _, s⟩ => k _ s)⟩
    rintro i y e σ H' hi he ⟨u, v, rfl, sm⟩
    rw [List.getElem?_map] at hi
    cases ed : xs[i]? with
    | none => rw [ed] at hi; cases hi
    | some p =>
      rw [ed] at hi
      cases hi
      have hp := hin p (List.mem_of_getElem? ed)
      have sm1 := Same.put (o := .tup [.int (i : Nat), .str p]) sm he
      refine ⟨e, _, rfl, SqT.of upd_same, rfl, _, _, rfl, _, _, rfl, rfl, ?_⟩
      revert sm1
      generalize (upd H' e (.tup [.int (i : Nat), .str p])) = H5
      intro sm1
      have ta5 := ta.same sm1
      obtain ⟨dx, lr, lp, dn, dr, m, h1, _, _, h4, _⟩ := ta5.ex
      obtain ⟨j, _, ei⟩ := num_some ta.ok.nodup hp
      refine ⟨_, rfl, x, dx, _, rfl, h1, l6_mw _ _ _ _ _ _, _, rfl, x, dx, _, dn, _, _, rfl, h1, l6_num _ _ _ _ _ _, h4, .inl ⟨p, rfl, ?_⟩⟩
      rw [ei]
      exact ⟨rfl, _, rfl, iteF ⟨_, _, rfl, sm1⟩⟩
end
end Jr
namespace Jr
open PySem PySem.Spec PyProof.Rows L2
theorem idx_none {α : Type} {p : α → Bool} {ys : List α} (h : ∀ y ∈ ys, p y = false) : ys.findIdx? p = none := List.findIdx?_eq_none_iff.mpr h
theorem idx_some {α : Type} {p : α → Bool} {ys : List α} {i : Nat} {y : α} (hi : ys[i]? = some y) (hy : p y = true) (h : ∀ x ∈ ys.take i, p x = false) : ys.findIdx? p = some i := by
  have hl := (List.getElem?_eq_some_iff.mp hi).1
  rw [List.findIdx?_eq_some_iff_getElem]
  refine ⟨hl, ?_, fun j hj => ?_⟩
  · rw [List.getElem?_eq_getElem hl] at hi
    rw [Option.some.inj hi]; exact hy
  · have hj' : j < ys.length := by omega
    have := h ys[j] (List.mem_take_iff_getElem.mpr ⟨j, by omega, rfl⟩)
    simpa using this
theorem take_all {α : Type} {p : α → Prop} {ys : List α} {i : Nat} {y : α} (hi : ys[i]? = some y) (hy : p y) (h : ∀ x ∈ ys.take i, p x) : ∀ x ∈ ys.take (i + 1), p x := fun x hx => by
  rw [List.take_add_one, hi] at hx
  rcases List.mem_append.mp hx with q | q
  · exact h x q
  · have : x = y := by simpa using q
    rw [this]; exact hy
section
variable {P : Program} {w : World} {K : PySem.W.Frag} {mg : Str → Option Value} {base : Heap}
def spWrongG (K : PySem.W.Frag) : Sp := fun vs H Q _ => ∃ (x a : Addr) (z : Str) (rs : Rws) (ys : List Str), vs = [.ref x, .ref a] ∧ FolAt K H x z rs ∧ H a = some (.lst (ys.map V.str)) ∧ (∀ p ∈ ys, p ∈ pcs z rs) ∧ ∀ H' o v, Same H H' → Amiss rs ys o → amissV H' o v → Q v H'
theorem cal_what_is_wrong (T : Tx K mg) : Cal P w K mg base CX0 4 "what_is_wrong" (spWrongG K) := by
  have C_first_no_piece := cal_first_no_piece (P := P) (w := w) (base := base) T
  have M_Follows_table := met_ftable (P := P) (w := w) (base := base) T
  have M_Follows_has_alone := met_fhas (P := P) (w := w) (base := base) T
  have M_Follows_may := met_fmay (P := P) (w := w) (base := base) T
  obtain ⟨fd, F⟩ := T.d_what_is_wrong
  refine ⟨_, fd, P_what_is_wrong, F.ok sc_what_is_wrong (fun vs H Q E h => ?_) (fun cdv A outer s H vs Q E hr h => ?_), T.g_what_is_wrong, F.kp, F.bindsN (ps := P_what_is_wrong) fun _ _ _ _ _ _ us hl => match us, hl with | [_, _], _ => rfl⟩
  · obtain ⟨x, a, z, rs, ys, rfl, _⟩ := h
    rfl
  · obtain ⟨x, a, z, rs, ys, rfl, fo, hA, hin, k⟩ := h
    refine ⟨_, (PSs.nox (pss_cons (ps_if (pt_not (pt_val (pe_callB (id := "isinstance") call_isi (by rfl) T.n_isinstance (by decide +kernel) (pa_cons (pv 1) (pa_cons (pe_bltn (v := .ty "list") (by rfl) T.n_list (by decide +kernel) rfl) pa_nil))))) (pss_one (ps_ret (pe_tupG (pa_cons pe_str (pa_cons pe_non pa_nil))))) pss_nil)
      (pss_cons (ps_set (i := 2) sc_what_is_wrong.nd rfl (Or.inl rfl) (pe_cal C_first_no_piece (by first | exact hr | exact hr.mono (by decide)) (by rfl) (pa_cons (pe_met0 M_Follows_table (pv 0) (by first | exact hr | exact hr.mono (by decide))) (pa_cons (pv 1) pa_nil))))
      (pss_cons (ps_if (pt_cmpR op_notN (pv 2) pe_non (nomark _)) (pss_one (ps_ret (pe_tupG (pa_cons pe_str (pa_cons (pv 2) pa_nil))))) pss_nil)
      (pss_cons (ps_for PassesOwn.never rfl (pi_enum (by rfl) T.n_enumerate (pa_cons (pv 1) pa_nil)) (pg_tup rfl (pgs_cons (pg_name (i := 3) sc_what_is_wrong.nd rfl (Or.inl rfl)) (pgs_cons (pg_name (i := 4) sc_what_is_wrong.nd rfl (Or.inl rfl)) pgs_nil))) (pss_one (ps_if (pt_not (pt_val (pe_met M_Follows_has_alone (pv 0) (by first | exact hr | exact hr.mono (by decide)) (pa_cons (pv 4) pa_nil)))) (pss_one (ps_ret (pe_tupG (pa_cons pe_str (pa_cons (pv 3) pa_nil))))) pss_nil)))
      (pss_cons (ps_forT PassesOwn.never rfl (pi_enumZip (by rfl) T.n_zip (by rfl) T.n_enumerate (pa_cons (pv 1) (pa_cons (pe_slice sl_listG (pv 1) (po_some pe_int) po_none) pa_nil))) (pg_tup rfl (pgs_cons (pg_name (i := 3) sc_what_is_wrong.nd rfl (Or.inl rfl)) (pgs_cons (pg_name (i := 5) sc_what_is_wrong.nd rfl (Or.inl rfl)) pgs_nil))) (pss_one (ps_if (pt_not (pt_val (pe_met M_Follows_may (pv 0) (by first | exact hr | exact hr.mono (by decide)) (pa_cons (pe_ix ix_tup (pv 5) pe_int (fun _ _ => rfl)) (pa_cons (pe_ix ix_tup (pv 5) pe_int (fun _ _ => rfl)) pa_nil))))) (pss_one (ps_ret (pe_tupG (pa_cons pe_str (pa_cons (pv 3) pa_nil))))) pss_nil)))
      (pss_one (ps_ret pe_non)))))))), ?_⟩
    obtain ⟨dx, t', re, le, al, af, ah, pr, hx⟩ := fo.ins
    refine ⟨_, rfl, _, _, _, _, _, rfl, .ty "list", .base (.lst hA), isLst, _, rfl, iteF ?_⟩
    refine ⟨_, rfl, x, dx, _, rfl, hx, g7_mt _ _ _ _ _ _ _, x, z, rs, rfl, fo, fun tt ta => ?_⟩
    refine ⟨_, rfl, tt, a, z, rs, ys, rfl, ta, SqL.of hA, hin, fun H1 s1 => ?_⟩
    refine ⟨_, rfl, rfl, _, rfl, iteF ?_⟩
    have hA1 := s1 _ _ hA
    refine ⟨_, rfl, a, _, rfl, SqL.of hA1, for_enum (K := K) (a := a) (xs := ys.map V.str) (fun i σ H' => ∃ u1 u2 u3 : Option V, σ = [some (.ref x), some (.ref a), some .non, u1, u2, u3] ∧ Same H1 H' ∧ ∀ p ∈ ys.take i, sweep rs p = [p])
      ⟨_, _, _, rfl, Same.refl _, fun p hp => by simp at hp⟩ (fun i σ H' _ ⟨_, _, _, _, s, _⟩ => SqL.of (s _ _ hA1)) ?_ ?_⟩
    · rintro i y e σ H' hi he ⟨u1, u2, u3, rfl, sm, hal⟩
      rw [List.getElem?_map] at hi
      cases ed : ys[i]? with
      | none => rw [ed] at hi; cases hi
      | some p =>
        rw [ed] at hi
        cases hi
        have hp := hin p (List.mem_of_getElem? ed)
        have sm1 := Same.put (o := .tup [.int (i : Nat), .str p]) sm he
        refine ⟨e, _, rfl, SqT.of upd_same, rfl, _, _, rfl, _, _, rfl, rfl, ?_⟩
        revert sm1
        generalize (upd H' e (.tup [.int (i : Nat), .str p])) = H5
        intro sm1
        have fo5 := (fo.same s1).same sm1
        refine ⟨_, rfl, x, dx, _, rfl, (s1.trans sm1) _ _ hx, g7_mha _ _ _ _ _ _ _, _, rfl, x, z, rs, p, rfl, fo5, _, rfl, ?_⟩
        by_cases c : sweep rs p = [p]
        · rw [decide_eq_true (al_iff0.mpr ⟨hp, c⟩)]
          exact iteF ⟨_, _, _, rfl, sm1, take_all ed c hal⟩
        · rw [decide_eq_false (fun h => c (al_iff0.mp h).2)]
          refine iteT ⟨_, rfl, (by show 2 ≤ sizeLine; decide), fun q H6 nq s6 hq => ?_⟩
          exact k H6 (some ("alone", i)) _ ((s1.trans sm1).trans s6) (.alone (idx_some ed (by simp [c]) fun y hy => by simp [hal y hy])) ⟨q, rfl, hq⟩
    · rintro σ H' ⟨u1, u2, u3, rfl, sm, hal⟩
      rw [List.length_map, List.take_length] at hal
      have hA2 := sm _ _ hA1
      refine ⟨_, rfl, _, rfl, _, rfl, a, _, rfl, SqL.of hA2, fun b H3 nb s3 hb => ?_⟩
      rw [show (some (1 : Int)) = some ((1 : Nat) : Int) from rfl, cutV_from, ← List.map_drop] at hb
      have sm3 := sm.trans s3
      refine ⟨a, b, _, _, rfl, SqL.of (s3 _ _ hA2), SqL.of hb, for_ez (K := K) (a := a) (b := b) (xs := ys.map V.str) (ys := (ys.drop 1).map V.str) (fun i σ H' => ∃ u1 u2 u3 : Option V, σ = [some (.ref x), some (.ref a), some .non, u1, u2, u3] ∧ Same H3 H' ∧ ∀ q ∈ (ys.zip (ys.drop 1)).take i, fitP rs q = true)
        ⟨_, _, _, rfl, Same.refl _, fun p hp => by simp at hp⟩ (fun i σ H' ⟨_, _, _, _, s, _⟩ => ⟨SqL.of (s _ _ (s3 _ _ hA2)), SqL.of (s _ _ hb)⟩) ?_ ?_⟩
      · rintro i v1 v2 q1 q2 σ H4 H5 hi1 hi2 s5 hq1 hq2 ⟨u1, u2, u3, rfl, sm4, hal2⟩
        rw [List.getElem?_map] at hi1 hi2
        cases ed : ys[i]? with
        | none => rw [ed] at hi1; cases hi1
        | some p =>
          cases ed2 : (ys.drop 1)[i]? with
          | none => rw [ed2] at hi2; cases hi2
          | some r =>
            rw [ed] at hi1
            rw [ed2] at hi2
            cases hi1
            cases hi2
            have hp := hin p (List.mem_of_getElem? ed)
            have hr' := hin r (List.mem_of_mem_drop (List.mem_of_getElem? ed2))
            have ez : (ys.zip (ys.drop 1))[i]? = some (p, r) := by rw [List.getElem?_zip_eq_some]; exact ⟨ed, ed2⟩
            have sm5 := sm4.trans s5
            refine ⟨q2, _, rfl, SqT.of hq2, rfl, _, _, rfl, _, _, rfl, rfl, ?_⟩
            refine ⟨_, rfl, x, dx, _, rfl, ((s1.trans sm3).trans sm5) _ _ hx, g7_may _ _ _ _ _ _ _, _, rfl, q1, _, _, _, rfl, rfl, SqT.of hq1, rfl, _, rfl, q1, _, _, _, rfl, rfl, SqT.of hq1, rfl, ?_⟩
            refine ⟨x, z, rs, p, r, rfl, fo.same ((s1.trans sm3).trans sm5), hp, hr', fun H6 s6 => ⟨_, rfl, ?_⟩⟩
            cases c : fitB rs (p, r) with
            | true => exact iteF ⟨TupKeep.of s6, _, _, _, rfl, sm5.trans s6, take_all ez c hal2⟩
            | false =>
              refine iteT ⟨_, rfl, (by show 2 ≤ sizeLine; decide), fun q H7 nq s7 hq => ?_⟩
              exact k H7 (some ("border", i)) _ ((((s1.trans sm3).trans sm5).trans s6).trans s7) (.border (idle_none.mpr hal) (idx_some ez (by show (!fitB rs (p, r)) = true; rw [c]; rfl) fun y hy => by rw [hal2 y hy]; rfl)) ⟨q, rfl, hq⟩
      · rintro i σ H4 hi ⟨u1, u2, u3, rfl, sm4, hal2⟩
        rw [List.length_map, List.length_map] at hi
        rw [List.take_of_length_le (by rw [List.length_zip]; omega)] at hal2
        refine k H4 none .non ((s1.trans sm3).trans sm4) (.none (idle_none.mpr hal) (idx_none fun q hq => by rw [hal2 q hq]; rfl)) rfl
end
end Jr
namespace Jr
open PySem PySem.Spec PyProof.Rows L2
section
variable {P : Program} {w : World} {K : PySem.W.Frag} {mg : Str → Option Value} {base : Heap}
def spCkCut (K : PySem.W.Frag) : Sp := fun vs H Q _ => ∃ (x a : Addr) (z : Str) (rs : Rws) (t : Str), vs = [.ref x, .ref a] ∧ FolAt K H x z rs ∧ TabOk z rs ∧ H a = some (.lst ((sweep rs t).map V.str)) ∧ TextOf z t ∧ ∀ H', Same H H' → Q .non H'
theorem cal_check_cutting (T : Tx K mg) : Cal P w K mg base CX0 5 "check_cutting" (spCkCut K) := by
  have C_what_is_wrong := cal_what_is_wrong (P := P) (w := w) (base := base) T
  obtain ⟨fd, F⟩ := T.d_check_cutting
  refine ⟨_, fd, P_check_cutting, F.ok sc_check_cutting (fun vs H Q E h => ?_) (fun cdv A outer s H vs Q E hr h => ?_), T.g_check_cutting, F.kp, F.bindsN (ps := P_check_cutting) fun _ _ _ _ _ _ us hl => match us, hl with | [_, _], _ => rfl⟩
  · obtain ⟨x, a, z, rs, t, rfl, _⟩ := h
    rfl
  · obtain ⟨x, a, z, rs, t, rfl, fo, tk, hA, tx, k⟩ := h
    refine ⟨_, (PSs.nox (pss_cons (ps_set (i := 2) sc_check_cutting.nd rfl (Or.inl rfl) (pe_cal C_what_is_wrong (by first | exact hr | exact hr.mono (by decide)) (by rfl) (pa_cons (pv 0) (pa_cons (pv 1) pa_nil))))
      (pss_one (ps_if (pt_cmpR op_notN (pv 2) pe_non (nomark _)) (pss_one ps_never) pss_nil)))), ?_⟩
    refine ⟨_, rfl, _, rfl, x, a, z, rs, _, rfl, fo, hA, fun p hp => sweep_pc tx hp, fun H1 o v s1 am av => ?_⟩
    have em : mkS (flat (sweep rs t)) = t := by rw [sweep_flat]; exact mkS_of t
    have an := amiss_none tk (ys := sweep rs t)
    rw [em] at an
    have ao := an.mpr rfl
    cases o with
    | none =>
      have ev : v = .non := av
      subst ev
      exact ⟨_, rfl, rfl, _, rfl, iteF (k _ s1)⟩
    | some sk =>
      exfalso
      cases ao with
      | none h1 h2 =>
        cases am with
        | alone g => rw [g] at h1; cases h1
        | border _ g => rw [g] at h2; cases h2
end
end Jr
namespace Jr
open PySem PySem.Spec PyProof.Rows L2
section
variable {P : Program} {w : World} {K : PySem.W.Frag} {mg : Str → Option Value} {base : Heap}
theorem cal_recut (T : Tx K mg) : Cal P w K mg base CX0 9 "recut" (spPatchOf K) := by
  have C_check_cutting := cal_check_cutting (P := P) (w := w) (base := base) T
  have C_check_change := cal_check_change (P := P) (w := w) (base := base) T
  have C_patch_of := cal_patch_of (P := P) (w := w) (base := base) T
  have M_Follows_table := met_ftable (P := P) (w := w) (base := base) T
  obtain ⟨fd, F⟩ := T.d_recut
  refine ⟨_, fd, P_recut, F.ok sc_recut (fun vs H Q E h => ?_) (fun cdv A outer s H vs Q E hr h => ?_), T.g_recut, F.kp, F.bindsN (ps := P_recut) fun _ _ _ _ _ _ us hl => match us, hl with | [_, _, _, _, _], _ => rfl⟩
  · obtain ⟨x, a, z, rs, t, put, pl, gn, rfl, _⟩ := h
    rfl
  · obtain ⟨x, a, z, rs, t, put, pl, gn, rfl, fo, tk, hA, tx, h1, h2, h3, h4, tp, k⟩ := h
    refine ⟨_, (PSs.nox (pss_cons (ps_expr (pe_cal C_check_cutting (by first | exact hr | exact hr.mono (by decide)) (by rfl) (pa_cons (pv 0) (pa_cons (pv 1) pa_nil))))
      (pss_cons (ps_expr (pe_cal C_check_change (by first | exact hr | exact hr.mono (by decide)) (by rfl) (pa_cons (pe_met0 M_Follows_table (pv 0) (by first | exact hr | exact hr.mono (by decide))) (pa_cons (pe_join pe_str (pv 1)) (pa_cons (pv 2) (pa_cons (pv 3) (pa_cons (pv 4) pa_nil)))))))
      (pss_one (ps_ret (pe_cal C_patch_of (by first | exact hr | exact hr.mono (by decide)) (by rfl) (pa_cons (pv 0) (pa_cons (pv 1) (pa_cons (pv 2) (pa_cons (pv 3) (pa_cons (pv 4) pa_nil))))))))))), ?_⟩
    have fl : (flat (sweep rs t)).length = t.length := sweep_len rs t
    have sl : ((sweep rs t).map (·.length)).sum = (flat (sweep rs t)).length := flat_len _
    have e0' : (Str.ofString "").length = 0 := by decide +kernel
    refine ⟨_, rfl, _, rfl, x, a, z, rs, t, rfl, fo, tk, hA, tx, fun H1 s1 => ?_⟩
    have fo1 := fo.same s1
    have hA1 := s1 _ _ hA
    obtain ⟨dx, t', re, le, al, af, ah, pr, hx⟩ := fo1.ins
    refine ⟨_, rfl, x, dx, _, rfl, hx, g7_mt _ _ _ _ _ _ _, x, z, rs, rfl, fo1, fun tt ta => ?_⟩
    refine ⟨⟨_, rfl⟩, _, rfl, _, a, _, rfl, rfl, .inl (SqL.of hA1), (by rw [e0', sl, fl]; omega), ?_⟩
    rw [join_sweep]
    refine ⟨_, rfl, _, rfl, _, rfl, tt, z, rs, t, put, pl, gn, rfl, ta, h1, h2, by omega, by omega, tp, fun H2 s2 => ?_⟩
    refine ⟨_, rfl, _, rfl, _, rfl, _, rfl, _, rfl, x, a, z, rs, t, put, pl, gn, rfl, fo1.same s2, tk, s2 _ _ hA1, tx, h1, h2, h3, h4, tp, fun H3 t3 s3 hp => ?_⟩
    exact k H3 t3 ((s1.trans s2).trans s3) (hp.before (s1.trans s2))
end
end Jr
namespace Jr
open PySem PySem.Spec PyProof.Rows L2
section
variable {P : Program} {w : World} {K : PySem.W.Frag} {mg : Str → Option Value} {base : Heap}
def spPatched (K : PySem.W.Frag) : Sp := fun vs H Q _ => ∃ (a tt : Addr) (xs : List Str) (p : Patch), vs = [.ref a, .ref tt] ∧ SqL K H a (xs.map V.str) ∧ PatchAt H tt p ∧ xs.length ≤ 10000 ∧ p.into.length ≤ 10000 ∧ ∀ H' b, Same H H' → H b = none → H' b = some (.lst ((xs.take p.first ++ p.into ++ xs.drop (p.first + p.out.length)).map V.str)) → Q (.ref b) H'
theorem cal_patched (T : Tx K mg) : Cal P w K mg base CX0 1 "patched" (spPatched K) := by
  obtain ⟨fd, F⟩ := T.d_patched
  refine ⟨_, fd, P_patched, F.ok sc_patched (fun vs H Q E h => ?_) (fun cdv A outer s H vs Q E hr h => ?_), T.g_patched, F.kp, F.bindsN (ps := P_patched) fun _ _ _ _ _ _ us hl => match us, hl with | [_, _], _ => rfl⟩
  · obtain ⟨a, tt, xs, p, rfl, _⟩ := h
    rfl
  · obtain ⟨a, tt, xs, p, rfl, hA, hp, xl, il, k⟩ := h
    refine ⟨_, (PSs.nox (pss_cons (ps_asg (pv 1) (pg_tup rfl (pgs_cons (pg_name (i := 2) sc_patched.nd rfl (Or.inl rfl)) (pgs_cons (pg_name (i := 3) sc_patched.nd rfl (Or.inl rfl)) (pgs_cons (pg_name (i := 4) sc_patched.nd rfl (Or.inl rfl)) pgs_nil)))))
      (pss_one (ps_ret (pe_op op_catG (pe_op op_catG (pe_slice sl_listG (pv 0) po_none (po_some (pv 2))) (pv 4)) (pe_slice sl_listG (pv 0) (po_some (pe_op op_add (pv 2) (pe_callB (id := "len") call_len_seq (by rfl) T.n_len (by decide +kernel) (pa_cons (pv 3) pa_nil)))) po_none)))))), ?_⟩
    obtain ⟨b1, b2, g1, g2, g3⟩ := hp
    refine ⟨_, rfl, tt, _, rfl, SqT.of g1, rfl, _, _, rfl, _, _, rfl, _, _, rfl, rfl, ?_⟩
    refine ⟨_, rfl, _, rfl, _, rfl, a, _, rfl, hA, fun r1 H1 nr1 s1 hr1 => ?_⟩
    rw [cutV_to, ← List.map_take] at hr1
    refine ⟨_, rfl, r1, b2, _, _, rfl, rfl, SqL.of hr1, SqL.of (s1 _ _ g3), ?_, fun r2 H2 nr2 s2 hr2 => ?_⟩
    · rw [List.length_map, List.length_map, List.length_take]; exact sz (by omega)
    rw [← List.map_append] at hr2
    have s12 := s1.trans s2
    have en : ((p.first : Nat) : Int) + (((p.out.map V.str).length : Nat) : Int) = ((p.first + p.out.length : Nat) : Int) := by rw [List.length_map]; omega
    refine ⟨_, rfl, _, rfl, _, rfl, b1, _, rfl, .inl (SqL.of (s12 _ _ g2)), _, _, rfl, rfl, _, rfl, a, _, rfl, s12.seq hA, fun r3 H3 nr3 s3 hr3 => ?_⟩
    rw [en, cutV_from, ← List.map_drop] at hr3
    refine ⟨r2, r3, _, _, rfl, rfl, SqL.of (s3 _ _ hr2), SqL.of hr3, ?_, fun r4 H4 nr4 s4 hr4 => ?_⟩
    · rw [List.length_map, List.length_map, List.length_append, List.length_take, List.length_drop]; exact sz (by omega)
    rw [← List.map_append] at hr4
    have s13 := s12.trans s3
    exact k H4 r4 (s13.trans s4) (s13.free nr4) hr4
end
end Jr
namespace Jr
open PySem PySem.Spec PyProof.Rows L2
/-! ### lists of flat things: == -/
def fdV : V → PyData
  | .bl b => .bool b
  | .int i => .int i
  | .str s => .str s
  | _ => .none
def Fl : V → Prop
  | .non => True
  | .bl _ => True
  | .int _ => True
  | .str s => Asc s
  | _ => False
section
variable {K : PySem.W.Frag} {H : Hp}
theorem dpFl {v : V} (h : Fl v) : Dp K H v (fdV v) := by
  cases v with
  | non => exact .non
  | bl b => exact .bl b
  | int i => exact .int i
  | str s => exact .str s
  | _ => exact h.elim
theorem dpAFl : ∀ {xs : List V}, (∀ x ∈ xs, Fl x) → DpAll K H xs (xs.map fdV)
  | [], _ => .nil
  | x :: xs, h => .cons (dpFl (h x List.mem_cons_self)) (dpAFl fun y hy => h y (List.mem_cons_of_mem _ hy))
theorem dpL {a : Addr} {xs : List V} (h : SqL K H a xs) (f : ∀ x ∈ xs, Fl x) : Dp K H (.ref a) (.list (xs.map fdV)) := .lst h (dpAFl f)
theorem dpT {a : Addr} {xs : List V} (h : SqT K H a xs) (f : ∀ x ∈ xs, Fl x) : Dp K H (.ref a) (.tuple (xs.map fdV)) := .tup h (dpAFl f)
end
theorem lay_fl {v : V} (h : Fl v) : PyData.canLay0 (fdV v) = true := by
  cases v with
  | str s => exact asc_ok h
  | non => rfl
  | bl b => rfl
  | int i => rfl
  | _ => exact h.elim
theorem layA_fl : ∀ {xs : List V}, (∀ x ∈ xs, Fl x) → PyData.canLayAll0 (xs.map fdV) = true
  | [], _ => by simp [PyData.canLayAll0]
  | x :: xs, h => by
    have h1 := lay_fl (h x List.mem_cons_self)
    have h2 := layA_fl fun y hy => h y (List.mem_cons_of_mem _ hy)
    simp [PyData.canLayAll0, h1, h2]
theorem dep_fl (v : V) : PyData.depth (fdV v) = 0 := by cases v <;> rfl
theorem depA_fl : ∀ xs : List V, PyData.depthAll (xs.map fdV) = 0
  | [] => by simp [PyData.depthAll]
  | x :: xs => by simp [PyData.depthAll, dep_fl, depA_fl xs]
theorem shL {xs : List V} (h : ∀ x ∈ xs, Fl x) : SeqAt.shaped (.list (xs.map fdV)) = true := by
  unfold SeqAt.shaped
  have h1 : PyData.canLay0 (.list (xs.map fdV)) = true := by simp [PyData.canLay0, layA_fl h]
  have h2 : PyData.depth (.list (xs.map fdV)) = 1 := by simp [PyData.depth, depA_fl]
  rw [h1, h2]; rfl
theorem shT {xs : List V} (h : ∀ x ∈ xs, Fl x) : SeqAt.shaped (.tuple (xs.map fdV)) = true := by
  unfold SeqAt.shaped
  have h1 : PyData.canLay0 (.tuple (xs.map fdV)) = true := by simp [PyData.canLay0, layA_fl h]
  have h2 : PyData.depth (.tuple (xs.map fdV)) = 1 := by simp [PyData.depth, depA_fl]
  rw [h1, h2]; rfl
theorem eqL {xs : List V} (h : ∀ x ∈ xs, Fl x) : PyData.eqv (.list (xs.map fdV)) (.list (xs.map fdV)) = true := SeqAt.eqv_refl _ (by simp [PyData.canLay0, layA_fl h])
theorem eqT {xs : List V} (h : ∀ x ∈ xs, Fl x) : PyData.eqv (.tuple (xs.map fdV)) (.tuple (xs.map fdV)) = true := SeqAt.eqv_refl _ (by simp [PyData.canLay0, layA_fl h])
/-! ### comprehensions over enumerate(text) -/
section
variable {g : TG} {tt : TT} {te : TE} {vs : List Nat} {σ : L2.St} {H1 : Hp} {D : Addr} {Qd : Hp → Prop}
def enL (x : Str) (p : Nat → Nat → Bool) (f : Nat → Nat → V) (n : Nat) : List V := ((x.cps.toList.zipIdx.take n).filter fun q => p q.2 q.1).map fun q => f q.2 q.1
theorem lc_enumSM {x : Str} {p : Nat → Nat → Bool} {f : Nat → Nat → V} (hD : H1 D = none) (hlen : x.cps.toList.length ≤ 100000)
    (turn : ∀ i c, x.cps.toList[i]? = some c → ∀ (H' : Hp) (T : Addr), Same H1 H' → H' T = some (.tup [.int (i : Nat), .str (sgn c)]) → ∀ (N : Hp → Prop) (M : V → Hp → Prop), (p i c = true → M (f i c) H') → (p i c = false → N H') →
      g (.ref T) (wipe σ vs) H' fun σ2 H2 => wipe σ2 vs = wipe σ vs ∧ tt σ2 H2 fun b H3 => if b = true then te σ2 H3 M else N H3)
    (hd : ∀ H, Same H1 H → H D = some (.lst (enL x p f x.cps.toList.length)) → Qd H) :
    ∃ W : Nat → Nat → Hp → Prop, (∃ m, W 0 m (upd H1 D (.lst []))) ∧ ∀ i m H, W i m H →
      ((Ites x).stop i H ∧ Qd H) ∨ ((Ites x).go i H ∧ ∃ Nx : Hp → Prop, (∀ H', Nx H' → ∃ m', m' < m ∧ W (i + 1) m' H') ∧ ∀ y H', (Ites x).yld i H y H' → g y (wipe σ vs) H' fun σ2 H2 => wipe σ2 vs = wipe σ vs ∧ tt σ2 H2 fun b H3 =>
        if b = true then te σ2 H3 fun y H4 => ∃ acc, H4 D = some (.lst acc) ∧ acc.length < sizeLine ∧ Nx (upd H4 D (.lst (acc ++ [y]))) else Nx H3) := by
  have es : x.cps.toList.length = x.cps.size := by simp
  refine ⟨fun i m H => m = x.cps.size - i ∧ i ≤ x.cps.size ∧ Same H1 H ∧ H D = some (.lst (enL x p f i)), ⟨x.cps.size, by simp, Nat.zero_le _, Same.new hD, upd_same⟩, ?_⟩
  rintro i m H ⟨rfl, hi, sm, hL⟩
  by_cases hlt : i < x.cps.size
  · refine .inr ⟨hlt, (fun H' => Same H1 H' ∧ H' D = some (.lst (enL x p f (i + 1)))), fun H' p' => ⟨x.cps.size - (i + 1), by omega, rfl, hlt, p'⟩, fun y H' z => ?_⟩
    obtain ⟨T, c, rfl, hT, hc, rfl⟩ := z
    have hc' : x.cps.toList[i]? = some c := by rw [Array.getElem?_toList]; exact hc
    have hz : x.cps.toList.zipIdx[i]? = some (c, i) := by rw [List.getElem?_zipIdx, hc']; simp
    have e : x.cps.toList.zipIdx.take (i + 1) = x.cps.toList.zipIdx.take i ++ [(c, i)] := by rw [List.take_add_one, hz]; rfl
    have tD : T ≠ D := fun z => by rw [z, hL] at hT; cases hT
    have hL2 := Same.new (o := .tup [.int (i : Nat), .str (sgn c)]) hT _ _ hL
    refine turn i c hc' _ T (Same.put sm hT) upd_same _ _ (fun hp => ⟨_, hL2, ?_, Same.mut (Same.put sm hT) hD, ?_⟩) (fun hp => ⟨Same.put sm hT, ?_⟩)
    · unfold enL
      have h1 : ((x.cps.toList.zipIdx.take i).filter fun q => p q.2 q.1).length ≤ (x.cps.toList.zipIdx.take i).length := List.length_filter_le ..
      have h2 : (x.cps.toList.zipIdx.take i).length ≤ i := by rw [List.length_take]; omega
      rw [List.length_map]
      exact szl (by omega)
    · rw [upd_same]
      unfold enL
      rw [e, List.filter_append, List.map_append]
      simp [hp]
    · rw [hL2]
      unfold enL
      rw [e, List.filter_append, List.map_append]
      simp [hp]
  · have e : i = x.cps.size := by omega
    subst e
    exact .inl ⟨Nat.le_refl _, hd H sm (by rw [es]; exact hL)⟩
theorem enL_first (x : Str) (P : Nat → Bool) : (enL x (fun _ c => P c) (fun i _ => V.int (i : Nat)) x.cps.toList.length).take 1 = (x.cps.toList.findIdx? P).toList.map fun i => V.int (i : Nat) := by
  unfold enL
  have e0 : x.cps.toList.zipIdx.take x.cps.toList.length = x.cps.toList.zipIdx := List.take_of_length_le (by rw [List.length_zipIdx]; exact Nat.le_refl _)
  rw [e0]
  have key : ∀ (l : List Nat) (k : Nat), (((l.zipIdx k).filter fun q => P q.1).map fun q => V.int ((q.2 : Nat) : Int)).take 1 = (l.findIdx? P).toList.map fun i => V.int ((i + k : Nat) : Int) := fun l => by
    induction l with
    | nil => intro k; rfl
    | cons c l ih =>
      intro k
      rw [List.zipIdx_cons, List.filter_cons, List.findIdx?_cons]
      by_cases h : P c = true
      · rw [if_pos h, if_pos h]
        simp
      · rw [if_neg h, if_neg h, ih (k + 1)]
        cases l.findIdx? P with
        | none => rfl
        | some j =>
          show [V.int ((j + (k + 1) : Nat) : Int)] = [V.int ((j + 1 + k : Nat) : Int)]
          rw [show j + (k + 1) = j + 1 + k by omega]
  have := key x.cps.toList 0
  simpa using this
end
end Jr
namespace Jr
open PySem PySem.Spec PyProof.Rows L2
/-! ### deep data: what == reads, and its depth -/
section
variable {K : PySem.W.Frag} {H H' : Hp}
theorem sqT_same' {a : Addr} {xs : List V} (s : Same H H') (h : SqT K H a xs) : SqT K H' a xs := by
  rcases h with (h | ⟨o, h⟩) | h
  · exact .inl (.inl (s _ _ h))
  · exact .inl (.inr ⟨o, s _ _ h⟩)
  · exact .inr h
mutual
theorem dp_same (s : Same H H') : ∀ (d : PyData) (v : V), Dp K H v d → Dp K H' v d
  | .none, _, h => by cases h; exact .non
  | .bool b, _, h => by cases h; exact .bl b
  | .int i, _, h => by cases h; exact .int i
  | .str x, _, h => by cases h; exact .str x
  | .list ds, _, h => by cases h with | lst g t => exact .lst (s.seq g) (dpA_same s ds _ t)
  | .tuple ds, _, h => by cases h with | tup g t => exact .tup (sqT_same' s g) (dpA_same s ds _ t)
  | .dict _, _, h => by cases h
theorem dpA_same (s : Same H H') : ∀ (ds : List PyData) (vs : List V), DpAll K H vs ds → DpAll K H' vs ds
  | [], _, h => by cases h; exact .nil
  | d :: ds, _, h => by cases h with | cons g t => exact .cons (dp_same s d _ g) (dpA_same s ds _ t)
end
/-- v is d to ==, at most n deep -/
structure Ly (K : PySem.W.Frag) (H : Hp) (n : Nat) (v : V) (d : PyData) : Prop where
  dp : Dp K H v d
  lay : PyData.canLay0 d = true
  dep : PyData.depth d ≤ n
structure LyA (K : PySem.W.Frag) (H : Hp) (n : Nat) (vs : List V) (ds : List PyData) : Prop where
  dp : DpAll K H vs ds
  lay : PyData.canLayAll0 ds = true
  dep : PyData.depthAll ds ≤ n
theorem Ly.same {n : Nat} {v : V} {d : PyData} (h : Ly K H n v d) (s : Same H H') : Ly K H' n v d := ⟨dp_same s _ _ h.dp, h.lay, h.dep⟩
theorem LyA.same {n : Nat} {v : List V} {d : List PyData} (h : LyA K H n v d) (s : Same H H') : LyA K H' n v d := ⟨dpA_same s _ _ h.dp, h.lay, h.dep⟩
theorem Ly.mono {n m : Nat} {v : V} {d : PyData} (h : Ly K H n v d) (l : n ≤ m) : Ly K H m v d := ⟨h.dp, h.lay, Nat.le_trans h.dep l⟩
theorem LyA.mono {n m : Nat} {v : List V} {d : List PyData} (h : LyA K H n v d) (l : n ≤ m) : LyA K H m v d := ⟨h.dp, h.lay, Nat.le_trans h.dep l⟩
theorem Ly.fl {v : V} (h : Fl v) : Ly K H 0 v (fdV v) := ⟨dpFl h, lay_fl h, by rw [dep_fl]; exact Nat.le_refl _⟩
theorem LyA.nil {n : Nat} : LyA K H n [] [] := ⟨.nil, by simp [PyData.canLayAll0], by simp [PyData.depthAll]⟩
theorem LyA.cons {n : Nat} {v : V} {vs : List V} {d : PyData} {ds : List PyData} (h : Ly K H n v d) (t : LyA K H n vs ds) : LyA K H n (v :: vs) (d :: ds) :=
  ⟨.cons h.dp t.dp, by simp [PyData.canLayAll0, h.lay, t.lay], by simp only [PyData.depthAll]; exact Nat.max_le.mpr ⟨h.dep, t.dep⟩⟩
theorem LyA.fl {n : Nat} : ∀ {xs : List V}, (∀ x ∈ xs, Fl x) → LyA K H n xs (xs.map fdV)
  | [], _ => .nil
  | x :: xs, h => .cons ((Ly.fl (h x List.mem_cons_self)).mono (Nat.zero_le _)) (LyA.fl fun y hy => h y (List.mem_cons_of_mem _ hy))
theorem LyA.app {n : Nat} : ∀ {vs ws : List V} {ds es : List PyData}, LyA K H n vs ds → LyA K H n ws es → LyA K H n (vs ++ ws) (ds ++ es)
  | [], ws, ds, es, h, g => by
    have hd := h.dp
    cases ds with
    | nil => exact g
    | cons => cases hd
  | v :: vs, ws, ds, es, h, g => by
    have hd := h.dp
    cases hd with
    | @cons _ _ d ds' a b =>
      have hl := h.lay
      simp only [PyData.canLayAll0, Bool.and_eq_true] at hl
      have hp := h.dep
      simp only [PyData.depthAll] at hp
      exact .cons ⟨a, hl.1, Nat.le_trans (Nat.le_max_left _ _) hp⟩ (LyA.app ⟨b, hl.2, Nat.le_trans (Nat.le_max_right _ _) hp⟩ g)
theorem Ly.lst {n : Nat} {a : Addr} {us : List V} {ds : List PyData} (h : SqL K H a us) (t : LyA K H n us ds) : Ly K H (n + 1) (.ref a) (.list ds) :=
  ⟨.lst h t.dp, by simp [PyData.canLay0, t.lay], by simp only [PyData.depth]; have := t.dep; omega⟩
theorem Ly.tup {n : Nat} {a : Addr} {us : List V} {ds : List PyData} (h : SqT K H a us) (t : LyA K H n us ds) : Ly K H (n + 1) (.ref a) (.tuple ds) :=
  ⟨.tup h t.dp, by simp [PyData.canLay0, t.lay], by simp only [PyData.depth]; have := t.dep; omega⟩
theorem Ly.sh {n : Nat} {v : V} {d : PyData} (h : Ly K H n v d) (l : n ≤ 64 := by decide) : SeqAt.shaped d = true := by
  unfold SeqAt.shaped
  rw [h.lay, decide_eq_true (Nat.le_trans h.dep l)]
  rfl
theorem Ly.eqv {n : Nat} {v : V} {d : PyData} (h : Ly K H n v d) : PyData.eqv d d = true := SeqAt.eqv_refl _ h.lay
theorem Ly.strs {a : Addr} {xs : List Str} (h : SqL K H a (xs.map V.str)) (f : ∀ x ∈ xs, Asc x) : Ly K H 1 (.ref a) (.list ((xs.map V.str).map fdV)) :=
  .lst h (.fl fun x hx => by
    obtain ⟨y, hy, rfl⟩ := List.mem_map.mp hx
    exact f y hy)
end
end Jr
namespace Jr
open PySem PySem.Spec PyProof.Rows L2
theorem patch_mem45 {α : Type} {xs : List α} {a b : Nat} {x : α} (h : x ∈ (xs.drop a).take b) : x ∈ xs := List.mem_of_mem_drop (List.mem_of_mem_take h)
theorem take_len45 {α : Type} (xs : List α) (n : Nat) : xs.take n = xs.take (xs.take n).length := by
  rw [List.length_take]
  by_cases h : n ≤ xs.length
  · rw [Nat.min_eq_left h]
  · rw [Nat.min_eq_right (by omega), List.take_length, List.take_of_length_le (by omega)]
theorem Reg.sub45 {S H : Hp} {q : Addr × HO} {L : List (Addr × HO)} (r : Reg S H (q :: L)) : Reg S H L := r.part (List.sublist_cons_self _ _)
theorem Reg.back45 {S S1 H : Hp} {kp a b : Addr} {o : HO} (r : Reg S1 H [(kp, o)]) (s : Same S S1) (ha : S a = none) (hb : S b = none) (ab : a ≠ b) {oa ob : HO} (ea : S1 a = some oa) (eb : S1 b = some ob) : Reg S H [(kp, o), (a, oa), (b, ob)] := by
  have hk : ∀ c oc, S1 c = some oc → kp ≠ c := fun c oc e z => by
    have := r.off (kp, o) (by simp)
    rw [show (kp, o).1 = c from z, e] at this
    cases this
  refine ⟨s.trans r.same, fun q hq => ?_, ?_, fun q hq => ?_⟩
  · simp only [List.mem_cons, List.not_mem_nil, or_false] at hq
    rcases hq with rfl | rfl | rfl
    · exact s.free (r.off (kp, o) (by simp))
    · exact ha
    · exact hb
  · simp [hk a oa ea, hk b ob eb, ab]
  · simp only [List.mem_cons, List.not_mem_nil, or_false] at hq
    rcases hq with rfl | rfl | rfl
    · exact r.at_ _ (by simp)
    · exact r.same _ _ ea
    · exact r.same _ _ eb
section
variable {P : Program} {w : World} {K : PySem.W.Frag} {mg : Str → Option Value} {base : Heap}
def spLed45 (K : PySem.W.Frag) : Sp := fun vs H Q _ => ∃ (fx p kp ro ch : Addr) (z : Str) (rs : Rws) (t put : Str) (pl gn : Nat) (S : Hp) (d : List (List Key × V)), vs = [.ref fx, .ref p, .ref kp, .ref ro, .ref ch] ∧ FolAt K S fx z rs ∧ RowsAt S p rs ∧ TabOk z rs ∧ TextOf z t ∧ t.length ≤ 400 ∧ S ro = some (.lst ((sweep rs t).map V.str)) ∧
  S ch = some (.tup [.int (pl : Nat), .int (gn : Nat), .str put]) ∧ pl ≤ t.length ∧ gn ≤ t.length - pl ∧ put.length ≤ 400 ∧ TextOf z put ∧ Reg S H [(kp, .dT d)] ∧ Memo45 rs d ∧ d.length ≤ 20000 ∧
  ∀ S' H' d' q, Same S S' → Reg S' H' [(kp, .dT d')] → Memo45 rs d' → d'.length ≤ d.length + 800 → S' q = some (.lst ((sweep rs (chgT t pl gn put)).map V.str)) → Q (.ref q) H'
theorem cal__law_led45 (T : Tx K mg) : Cal P w K mg base CX0 10 "_law_led" (spLed45 K) := by
  have C_recut := cal_recut (P := P) (w := w) (base := base) T
  have C_patched := cal_patched (P := P) (w := w) (base := base) T
  have C__law_parts := cal__law_parts45 (P := P) (w := w) (base := base) T
  have C__law_is_cutting := cal__law_is_cutting45 (P := P) (w := w) (base := base) T
  have C__law_good_ends := cal__law_good_ends (P := P) (w := w) (base := base) T
  obtain ⟨fd, F⟩ := T.d__law_led
  refine ⟨_, fd, P__law_led, F.ok sc__law_led (fun vs H Q E h => ?_) (fun cdv A outer s H vs Q E hr h => ?_), T.g__law_led, F.kp, F.bindsN (ps := P__law_led) fun _ _ _ _ _ _ us hl => match us, hl with | [_, _, _, _, _], _ => rfl⟩
  · obtain ⟨fx, p, kp, ro, ch, z, rs, t, put, pl, gn, S, d, rfl, _⟩ := h
    rfl
  · obtain ⟨fx, p, kp, ro, ch, z, rs, t, put, pl, gn, S, d, rfl, fo, hR, tk, tx, tl, hro, hch, h1, h2, pul, txp, rg, mm, dl, k⟩ := h
    refine ⟨_, (PSs.nox (pss_cons (ps_asg (pv 4) (pg_tup rfl (pgs_cons (pg_name (i := 5) sc__law_led.nd rfl (Or.inl rfl)) (pgs_cons (pg_name (i := 6) sc__law_led.nd rfl (Or.inl rfl)) (pgs_cons (pg_name (i := 7) sc__law_led.nd rfl (Or.inl rfl)) pgs_nil)))))
      (pss_cons (ps_set (i := 8) sc__law_led.nd rfl (Or.inl rfl) (pe_join pe_str (pv 3)))
      (pss_cons (ps_set (i := 9) sc__law_led.nd rfl (Or.inl rfl) (pe_callTy (T := "list") call_listG (by rfl) T.n_list (by decide +kernel) (pa_cons (pv 3) pa_nil)))
      (pss_cons (ps_set (i := 10) sc__law_led.nd rfl (Or.inl rfl) (pe_cal C_recut (by first | exact hr | exact hr.mono (by decide)) (by rfl) (pa_cons (pv 0) (pa_cons (pv 9) (pa_cons (pv 5) (pa_cons (pv 6) (pa_cons (pv 7) pa_nil)))))))
      (pss_cons (ps_if (PW.pt (pw_or (pt_cmpR (op_neD hr.units) (pv 9) (pv 3) (nomark _)) (pw_or1 (pt_not (pt_val (pe_cal C__law_parts (by first | exact hr | exact hr.mono (by decide)) (by rfl) (pa_cons (pv 10) (pa_cons (pv 3) pa_nil)))))))) (pss_one (ps_ret pe_non)) pss_nil)
      (pss_cons (ps_set (i := 11) sc__law_led.nd rfl (Or.inl rfl) (pe_tupG (pa_cons (pe_ix ix_tup (pv 10) pe_int (fun _ _ => rfl)) (pa_cons (pe_callTy (T := "list") call_listG (by rfl) T.n_list (by decide +kernel) (pa_cons (pe_ix ix_tup (pv 10) pe_int (fun _ _ => rfl)) pa_nil)) (pa_cons (pe_callTy (T := "list") call_listG (by rfl) T.n_list (by decide +kernel) (pa_cons (pe_ix ix_tup (pv 10) pe_int (fun _ _ => rfl)) pa_nil)) pa_nil)))))
      (pss_cons (ps_set (i := 12) sc__law_led.nd rfl (Or.inl rfl) (pe_cal C_patched (by first | exact hr | exact hr.mono (by decide)) (by rfl) (pa_cons (pv 9) (pa_cons (pv 10) pa_nil))))
      (pss_cons (ps_set (i := 13) sc__law_led.nd rfl (Or.inl rfl) (pe_op op_catG (pe_op op_catG (pe_slice sl_listG (pv 3) po_none (po_some (pe_ix ix_tup (pv 10) pe_int (fun _ _ => rfl)))) (pe_ix ix_tup (pv 10) pe_int (fun _ _ => rfl))) (pe_slice sl_listG (pv 3) (po_some (pe_op op_add (pe_ix ix_tup (pv 10) pe_int (fun _ _ => rfl)) (pe_callB (id := "len") call_len_seq (by rfl) T.n_len (by decide +kernel) (pa_cons (pe_ix ix_tup (pv 10) pe_int (fun _ _ => rfl)) pa_nil)))) po_none)))
      (pss_cons (ps_if (PW.pt (pw_or (pt_cmpR (op_neD hr.units) (pv 12) (pv 13) (nomark _)) (pw_or1 (pt_cmpR (op_neD hr.units) (pv 9) (pv 3) (nomark _))))) (pss_one (ps_ret pe_non)) pss_nil)
      (pss_cons (ps_if (pt_not (pt_val (pe_cal C__law_is_cutting (by first | exact hr | exact hr.mono (by decide)) (by rfl) (pa_cons (pv 1) (pa_cons (pv 2) (pa_cons (pv 12) (pa_cons (pe_op op_add_str (pe_op op_add_str (pe_slice sl_str (pv 8) po_none (po_some (pv 5))) (pv 7)) (pe_slice sl_str (pv 8) (po_some (pe_op op_add (pv 5) (pv 6))) po_none)) pa_nil))))))) (pss_one (ps_ret pe_non)) pss_nil)
      (pss_cons (ps_if (pt_not (pt_val (pe_cal C__law_good_ends (by first | exact hr | exact hr.mono (by decide)) (by rfl) (pa_cons (pv 10) (pa_cons (pv 3) (pa_cons (pv 12) (pa_cons (pv 5) (pa_cons (pe_op op_sub (pe_op op_sub (pe_callB (id := "len") call_len_str (by rfl) T.n_len (by decide +kernel) (pa_cons (pv 8) pa_nil)) (pv 5)) (pv 6)) pa_nil)))))))) (pss_one (ps_ret pe_non)) pss_nil)
      (pss_cons (ps_set (i := 14) sc__law_led.nd rfl (Or.inl rfl) (pe_callTy (T := "list") call_listG (by rfl) T.n_list (by decide +kernel) (pa_cons (pv 12) pa_nil)))
      (pss_cons (ps_expr (pe_bm PySem.F.plainAttrs_list PySem.F.slot_list_append PySem.F.type_list_append mt_append (pv 12) (pa_cons pe_str pa_nil)))
      (pss_cons (ps_if (PW.pt (pw_or (pt_cmpR (op_neD hr.units) (pv 9) (pv 3) (nomark _)) (pw_or1 (pt_cmpR (op_neD hr.units) (pv 10) (pv 11) (nomark _))))) (pss_one (ps_ret pe_non)) pss_nil)
      (pss_cons (ps_expr (pe_bm0 PySem.F.plainAttrs_list PySem.F.slot_list_clear PySem.F.type_list_clear mt_clear (pv 9)))
      (pss_one (ps_ret (pv 14))))))))))))))))))), ?_⟩
    have tx2 := chgT_text tx txp pl gn
    have cl := chgT_len t put h1 h2
    have ll : ∀ u : Str, (sweep rs u).length ≤ u.length := fun u => by
      have := passAll_len rs (sgs u)
      rw [sgs_len] at this
      exact this
    have lt := ll t
    have lt2 := ll (chgT t pl gn put)
    have pc : ∀ y ∈ sweep rs t, Asc y ∧ y.length ≤ 16 := fun y hy => ⟨tk.asc (sweep_pc tx hy), (tk.plen (sweep_pc tx hy)).2⟩
    have pc2 : ∀ y ∈ sweep rs (chgT t pl gn put), Asc y ∧ y.length ≤ 16 := fun y hy => ⟨tk.asc (sweep_pc tx2 hy), (tk.plen (sweep_pc tx2 hy)).2⟩
    have gd := good45 tk tx txp h1 h2
    have ejo : Txt.join (Str.ofString "") (sweep rs t) = t := join_sweep rs t
    have el0 : (Str.ofString "").length = 0 := by decide +kernel
    have sl := sum_le (sweep rs t) 16 fun p hp => (pc p hp).2
    have hroH := rg.same _ _ hro
    have hchH := rg.same _ _ hch
    refine ⟨_, rfl, ch, _, rfl, SqT.of hchH, rfl, _, _, rfl, _, _, rfl, _, _, rfl, rfl, ?_⟩
    refine ⟨⟨_, rfl⟩, _, rfl, _, ro, sweep rs t, rfl, rfl, .inl (SqL.of hroH), (by rw [el0]; omega), ?_⟩
    rw [ejo]
    refine ⟨_, rfl, ro, _, rfl, .inl (SqL.of hroH), fun hd H1 nhd s1 hhd => ?_⟩
    have foH := fo.same rg.same
    refine ⟨_, rfl, _, rfl, _, rfl, _, rfl, _, rfl, fx, hd, z, rs, t, put, pl, gn, rfl, foH.same s1, tk, hhd, tx, h1, h2, by omega, by omega, txp, fun H2 tt s2 hp => ?_⟩
    have leads := patchF_leads (sweep rs t) (sweep rs (chgT t pl gn put)) (pl : Nat) ((t.length - pl - gn : Nat) : Int)
    have eo : (patchF (sweep rs t) (sweep rs (chgT t pl gn put)) (pl : Nat) ((t.length - pl - gn : Nat) : Int)).out = ((sweep rs t).drop (patchF (sweep rs t) (sweep rs (chgT t pl gn put)) (pl : Nat) ((t.length - pl - gn : Nat) : Int)).first).take (patchF (sweep rs t) (sweep rs (chgT t pl gn put)) (pl : Nat) ((t.length - pl - gn : Nat) : Int)).out.length := take_len45 _ _
    have ei : (patchF (sweep rs t) (sweep rs (chgT t pl gn put)) (pl : Nat) ((t.length - pl - gn : Nat) : Int)).into = ((sweep rs (chgT t pl gn put)).drop (patchF (sweep rs t) (sweep rs (chgT t pl gn put)) (pl : Nat) ((t.length - pl - gn : Nat) : Int)).first).take (patchF (sweep rs t) (sweep rs (chgT t pl gn put)) (pl : Nat) ((t.length - pl - gn : Nat) : Int)).into.length := take_len45 _ _
    have hpa := hp.at_
    obtain ⟨pa, pb, _, npa, npb, _, hpt, _, _⟩ := id hp
    clear hp
    revert hpa hpt leads eo ei gd
    generalize (patchF (sweep rs t) (sweep rs (chgT t pl gn put)) (pl : Nat) ((t.length - pl - gn : Nat) : Int)) = pp
    intro gd leads eo ei hpa hpt
    obtain ⟨old, eold⟩ : ∃ old, old = sweep rs t := ⟨_, rfl⟩
    obtain ⟨new, enew⟩ : ∃ new, new = sweep rs (chgT t pl gn put) := ⟨_, rfl⟩
    rw [← eold] at gd leads eo hro hroH hhd lt pc ejo sl
    rw [← enew] at gd leads ei lt2 pc2
    have g1 := gd.fo
    have fo1 : pp.first + pp.out.length ≤ old.length := by
      have := congrArg List.length eo
      rw [List.length_take, List.length_drop] at this
      omega
    have ll2 := congrArg List.length leads
    rw [List.length_append, List.length_append, List.length_take, List.length_drop] at ll2
    have s12 := s1.trans s2
    have hro2 := s12 _ _ hroH
    have hhd2 := s2 _ _ hhd
    have asco : ∀ y ∈ old, Asc y := fun y hy => (pc y hy).1
    have ascn : ∀ y ∈ new, Asc y := fun y hy => (pc2 y hy).1
    refine ⟨_, rfl, _, rfl, _, _, dpS (SqL.of hhd2), dpS (SqL.of hro2), shS asco, shS asco, _, rfl, ?_⟩
    rw [eqS, decide_eq_true rfl]
    refine iteF ⟨_, rfl, _, rfl, tt, ro, old, pp, rfl, hpa, hro2, by omega, g1, eo.symm, asco, fun H3 s3 => ⟨_, rfl, iteF ?_⟩⟩
    have hpa3 := hpa.same s3
    obtain ⟨b1, b2, ht, hb1, hb2⟩ := id hpa3
    have at0 : ∀ (u v x : V), atI [u, v, x] 0 = some u := fun u v x => (show atI _ ((0 : Nat) : Int) = _ from ats rfl)
    have at1 : ∀ (u v x : V), atI [u, v, x] 1 = some v := fun u v x => (show atI _ ((1 : Nat) : Int) = _ from ats rfl)
    have at2 : ∀ (u v x : V), atI [u, v, x] 2 = some x := fun u v x => (show atI _ ((2 : Nat) : Int) = _ from ats rfl)
    refine ⟨_, rfl, tt, _, _, _, rfl, rfl, SqT.of ht, at0 _ _ _, _, rfl, tt, _, _, _, rfl, rfl, SqT.of ht, at1 _ _ _, b1, _, rfl, .inl (SqL.of hb1), fun c1 H4 nc1 s4 hc1 => ?_⟩
    refine ⟨_, rfl, tt, _, _, _, rfl, rfl, SqT.of (s4 _ _ ht), at2 _ _ _, b2, _, rfl, .inl (SqL.of (s4 _ _ hb2)), fun c2 H5 nc2 s5 hc2 => ⟨(by show 3 ≤ sizeLine; decide), fun tc H6 ntc s6 htc => ?_⟩⟩
    have s46 := (s4.trans s5).trans s6
    have s36 := s3.trans s46
    refine ⟨_, rfl, _, rfl, hd, tt, old, pp, rfl, SqL.of (s36 _ _ hhd2), hpa3.same s46, by omega, by omega, fun H7 nw s7 nnw hnw => ?_⟩
    rw [leads] at hnw
    have s37 := s46.trans s7
    have s27 := s3.trans s37
    have ht7 := s37 _ _ ht
    have hb17 := s37 _ _ hb1
    have hb27 := s37 _ _ hb2
    have hro7 := s27 _ _ hro2
    refine ⟨_, rfl, _, rfl, tt, _, _, _, rfl, rfl, SqT.of ht7, at0 _ _ _, _, rfl, ro, _, rfl, SqL.of hro7, fun c3 H8 nc3 s8 hc3 => ?_⟩
    rw [cutV_to, ← List.map_take] at hc3
    refine ⟨_, rfl, tt, _, _, _, rfl, rfl, SqT.of (s8 _ _ ht7), at2 _ _ _, c3, b2, _, _, rfl, rfl, SqL.of hc3, SqL.of (s8 _ _ hb27), (by rw [List.length_map, List.length_map, List.length_take]; exact sz (by omega)), fun c4 H9 nc4 s9 hc4 => ?_⟩
    rw [← List.map_append] at hc4
    have s79 := s8.trans s9
    refine ⟨_, rfl, _, rfl, tt, _, _, _, rfl, rfl, SqT.of (s79 _ _ ht7), at0 _ _ _, _, rfl, tt, _, _, _, rfl, rfl, SqT.of (s79 _ _ ht7), at1 _ _ _, b1, _, rfl, .inl (SqL.of (s79 _ _ hb17)), _, _, rfl, rfl, _, rfl, ro, _, rfl, SqL.of (s79 _ _ hro7), fun c5 H10 nc5 s10 hc5 => ?_⟩
    rw [List.length_map, show ((pp.first : Nat) : Int) + ((pp.out.length : Nat) : Int) = ((pp.first + pp.out.length : Nat) : Int) by omega, cutV_from, ← List.map_drop] at hc5
    refine ⟨c4, c5, _, _, rfl, rfl, SqL.of (s10 _ _ hc4), SqL.of hc5, (by rw [List.length_map, List.length_map, List.length_append, List.length_take, List.length_drop]; exact sz (by omega)), fun bh H11 nbh s11 hbh => ?_⟩
    rw [← List.map_append, leads] at hbh
    have s711 := (s79.trans s10).trans s11
    have hnw11 := s711 _ _ hnw
    have hhd7 := s27 _ _ hhd2
    have hhd11 := s711 _ _ hhd7
    have hro11 := s711 _ _ hro7
    refine ⟨_, rfl, _, rfl, _, _, dpS (SqL.of hnw11), dpS (SqL.of hbh), shS ascn, shS ascn, _, rfl, ?_⟩
    rw [eqS, decide_eq_true rfl]
    refine iteF ⟨_, rfl, _, rfl, _, _, dpS (SqL.of hhd11), dpS (SqL.of hro11), shS asco, shS asco, _, rfl, ?_⟩
    rw [eqS, decide_eq_true rfl]
    refine iteF ?_
    have s211 := s27.trans s711
    have s011 := s12.trans s211
    have r11 := rg.step s011
    obtain ⟨rS, sS⟩ := r11.grow (Same.refl _)
    have kpH : H kp = some (.dT d) := rg.get (i := 0) rfl
    have nk : ∀ {G : Hp} {b : Addr}, Same H G → G b = none → b ≠ kp := fun s n e => by
      rw [e, s _ _ kpH] at n
      cases n
    have nwk : nw ≠ kp := nk (s12.trans (s3.trans s46)) nnw
    have hdk : hd ≠ kp := nk (Same.refl _) nhd
    have outS : ∀ {b : Addr} {o : HO}, b ≠ kp → H11 b = some o → out H11 [(kp, HO.dT d)] b = some o := fun nb h => out_of h (by simpa using nb)
    have eT : cutS t none (some ((pl : Nat) : Int)) ++ put ++ cutS t (some (((pl : Nat) : Int) + ((gn : Nat) : Int))) none = chgT t pl gn put := by
      rw [cutS_pre, show ((pl : Nat) : Int) + ((gn : Nat) : Int) = ((pl + gn : Nat) : Int) by omega, cutS_suf]
      rfl
    have lc1 : (cutS t none (some ((pl : Nat) : Int))).length ≤ t.length := cutS_length t _ _
    have lc2 : (cutS t (some (((pl : Nat) : Int) + ((gn : Nat) : Int))) none).length ≤ t.length := cutS_length t _ _
    have la1 : (cutS t none (some ((pl : Nat) : Int)) ++ put).length = (cutS t none (some ((pl : Nat) : Int))).length + put.length := app_len _ _
    have la2 : (cutS t none (some ((pl : Nat) : Int)) ++ put ++ cutS t (some (((pl : Nat) : Int) + ((gn : Nat) : Int))) none).length = (cutS t none (some ((pl : Nat) : Int)) ++ put).length + (cutS t (some (((pl : Nat) : Int) + ((gn : Nat) : Int))) none).length := app_len _ _
    refine ⟨_, rfl, _, rfl, _, rfl, _, rfl, _, rfl, _, rfl, t, rfl, sz (by omega), _, rfl, _, _, rfl, rfl, sz (by omega), _, rfl, _, rfl, _, rfl, _, _, rfl, rfl, _, rfl, t, rfl, sz (by omega), _, _, rfl, rfl, sz (by omega), p, kp, nw, z, rs, chgT t pl gn put, out H11 [(kp, HO.dT d)], [], d, (by rw [eT]), hR.same sS, tk, tx2, by omega, rS, ?_, mm, by omega, fun H12 d' r12 mm' dl' => ⟨_, rfl, iteF ?_⟩⟩
    · rw [← enew]; exact outS nwk hnw11
    -- what stands beside the dict, the new row and the handed one
    have hpt3 := s3 _ _ hpt
    rw [ht] at hpt3
    have ep : pa = b1 ∧ pb = b2 := by
      have := HO.tup.inj (Option.some.inj hpt3)
      injection this with _ h
      injection h with h1 h
      injection h with h2 _
      exact ⟨(V.ref.inj h1).symm, (V.ref.inj h2).symm⟩
    obtain ⟨rfl, rfl⟩ := ep
    have neq : ∀ {G : Hp} {b c : Addr} {o : HO}, G b = none → G c = some o → c ≠ b := fun n e z => by rw [z, n] at e; cases e
    have s1112 : ∀ {b : Addr} {o : HO}, b ≠ kp → H11 b = some o → H12 b = some o := fun nb h => r12.same _ _ (outS nb h)
    have kd : ∀ {G : Hp} {b : Addr} {o : HO}, Same H G → G b = some o → (∀ q, o ≠ .dT q) → b ≠ kp := fun s h n e => by
      rw [e, s _ _ kpH] at h
      exact n _ (Option.some.inj h).symm
    have SH := rg.same
    have hd1 : H1 hd = some (.lst (old.map V.str)) := hhd
    have hhdS : out H11 [(kp, HO.dT d)] hd = some (.lst (old.map V.str)) := outS hdk hhd11
    have hnwS : out H11 [(kp, HO.dT d)] nw = some (.lst (new.map V.str)) := outS nwk hnw11
    have freeS : ∀ {G : Hp} {b : Addr}, Same H G → G b = none → S b = none := fun s n => SH.free (s.free n)
    have s06 := s12.trans s36
    have nwS : S nw = none := freeS s06 nnw
    have hdS : S hd = none := freeS (Same.refl _) nhd
    have hdnw : nw ≠ hd := fun e => neq nnw ((s2.trans s36) _ _ hhd) e.symm
    have r12b := r12.back45 sS nwS hdS hdnw hnwS hhdS
    obtain ⟨rT, sT⟩ := r12b.grow (Same.refl _)
    have outT : ∀ {b : Addr} {o : HO}, b ≠ kp → b ≠ nw → b ≠ hd → H12 b = some o → out H12 [(kp, HO.dT d'), (nw, .lst (new.map V.str)), (hd, .lst (old.map V.str))] b = some o := fun n1 n2 n3 h => out_of h (by simp [n1, n2, n3])
    have T6 : Same H6 H11 := s7.trans s711
    have g6 : ∀ {b : Addr} {o : HO}, H6 b = some o → (∀ q, o ≠ .dT q) → b ≠ hd → out H12 [(kp, HO.dT d'), (nw, .lst (new.map V.str)), (hd, .lst (old.map V.str))] b = some o := fun h n nh =>
      outT (kd s06 h n) (neq nnw h) nh (s1112 (kd s06 h n) (T6 _ _ h))
    have nhdc : ∀ {G : Hp} {b : Addr}, Same H1 G → G b = none → b ≠ hd := fun s n e => neq n (s _ _ hhd) e.symm
    have zt := g6 (s46 _ _ ht) (fun q e => by cases e) (fun e => by rw [e, (s2.trans s3) _ _ hhd] at ht; cases ht)
    have zb1 := g6 (s46 _ _ hb1) (fun q e => by cases e) (nhdc (Same.refl _) npa)
    have zb2 := g6 (s46 _ _ hb2) (fun q e => by cases e) (nhdc (Same.refl _) npb)
    have zc1 := g6 ((s5.trans s6) _ _ hc1) (fun q e => by cases e) (nhdc (s2.trans s3) nc1)
    have zc2 := g6 (s6 _ _ hc2) (fun q e => by cases e) (nhdc ((s2.trans s3).trans s4) nc2)
    have ztc := g6 htc (fun q e => by cases e) (fun e => by rw [e, (s2.trans s36) _ _ hhd] at htc; cases htc)
    have hro12 : H12 ro = some (.lst (old.map V.str)) := rT.same _ _ (sT _ _ hro)
    have hnw12 := rT.get (i := 1) rfl
    have hpa12 : PatchAt H12 tt pp := ⟨pa, pb, rT.same _ _ zt, rT.same _ _ zb1, rT.same _ _ zb2⟩
    have gd' := gd
    refine ⟨_, rfl, _, rfl, _, rfl, _, rfl, _, rfl, t, rfl, sz (by omega), _, rfl, _, _, rfl, rfl, _, rfl, _, _, rfl, rfl, tt, ro, nw, old, new, pp, pl, t.length - pl - gn, ?_, hpa12, hro12, hnw12, by omega, by omega, pc, pc2, fo1, eo, ei, by omega, by omega, gd, fun H13 s13 => ⟨_, rfl, iteF ?_⟩⟩
    · exact congrArg (fun i => [V.ref tt, .ref ro, .ref nw, .int (pl : Nat), .int i]) (show ((t.length : Nat) : Int) - ((pl : Nat) : Int) - ((gn : Nat) : Int) = ((t.length - pl - gn : Nat) : Int) by omega)
    have r13 := rT.step s13
    refine ⟨_, rfl, nw, _, rfl, .inl (SqL.of (s13 _ _ hnw12)), fun tl14 H14 ntl s14 htl => ?_⟩
    have r14 := r13.new ntl s14 htl
    have hnw14 := r14.get (i := 1) rfl
    refine ⟨_, rfl, .inl ⟨rfl, _, SqL.of hnw14⟩, nw, _, _, rfl, rfl, hnw14, (by rw [List.length_map]; exact szl (by omega)), ?_⟩
    have r15 := r14.set (i := 1) (a := nw) (o' := .lst (new.map V.str ++ [.str (Str.ofString "")])) rfl
    revert r15
    generalize (upd H14 nw (.lst (new.map V.str ++ [.str (Str.ofString "")]))) = H15
    intro r15
    have hhd15 := r15.get (i := 2) rfl
    have hro15 := r15.same _ _ (sT _ _ hro)
    refine ⟨_, rfl, _, rfl, _, _, dpS (SqL.of hhd15), dpS (SqL.of hro15), shS asco, shS asco, _, rfl, ?_⟩
    rw [eqS, decide_eq_true rfl]
    have Lf : ∀ {x y q : Addr} {G : Hp}, G q = some (.tup [.int ((pp.first : Nat) : Int), .ref x, .ref y]) → G x = some (.lst (pp.out.map V.str)) → G y = some (.lst (pp.into.map V.str)) → Ly K G 2 (.ref q) (.tuple [.int ((pp.first : Nat) : Int), .list ((pp.out.map V.str).map fdV), .list ((pp.into.map V.str).map fdV)]) := fun {x y q G} hq hx hy =>
      Ly.tup (SqT.of hq) (.cons ((Ly.fl (v := .int ((pp.first : Nat) : Int)) trivial).mono (by decide)) (.cons (Ly.strs (SqL.of hx) (fun x hx => asco x (patch_mem45 (eo ▸ hx)))) (.cons (Ly.strs (SqL.of hy) (fun x hx => ascn x (patch_mem45 (ei ▸ hx)))) .nil)))
    have l1 := Lf (r15.same _ _ zt) (r15.same _ _ zb1) (r15.same _ _ zb2)
    have l2 := Lf (r15.same _ _ ztc) (r15.same _ _ zc1) (r15.same _ _ zc2)
    refine iteF ⟨_, rfl, _, rfl, _, _, l1.dp, l2.dp, l1.sh, l2.sh, _, rfl, ?_⟩
    rw [l1.eqv]
    refine iteF ?_
    refine ⟨_, rfl, .inl ⟨rfl, _, SqL.of hhd15⟩, hd, _, rfl, rfl, hhd15, ?_⟩
    have r16 := r15.set (i := 2) (a := hd) (o' := .lst []) rfl
    revert r16
    generalize (upd H15 hd (.lst [])) = H16
    intro r16
    have r17 : Reg _ H16 [(kp, HO.dT d'), (tl14, .lst (new.map V.str))] := r16.part (List.Sublist.cons₂ _ (List.Sublist.cons _ (List.Sublist.cons _ (List.Sublist.refl _))))
    obtain ⟨r18, s18, h18⟩ := (r17.perm (List.Perm.swap _ _ _)).freeze (L1 := [(tl14, .lst (new.map V.str))]) (L2 := [(kp, HO.dT d')])
    have ht18 := h18 (tl14, .lst (new.map V.str)) (by simp)
    rw [enew] at ht18
    exact ⟨_, rfl, k _ _ d' tl14 (sT.trans s18) r18 mm' (by omega) ht18⟩
end
end Jr
namespace Jr
open PySem PySem.Spec PyProof.Rows L2
theorem Reg.fld {S H : Hp} {L : List (Addr × HO)} {x d : Addr} {o : HO} (o' q : HO) (r : Reg S H ((x, o) :: L)) (hd : H d = none) : Reg S (upd (upd H d q) x o') ((x, o') :: (L ++ [(d, q)])) :=
  (r.new hd (Same.new hd) (upd_same (H := H) (a := d) (o := q))).set (i := 0) (o := o) rfl
theorem perm4 {α : Type} (R A B : List α) (a h : α) : (((R ++ (A ++ B)) ++ [a]) ++ [h]).Perm (R ++ ((A ++ [a]) ++ (B ++ [h]))) := by
  have e1 : ((R ++ (A ++ B)) ++ [a]) ++ [h] = (R ++ A) ++ (B ++ a :: [h]) := by simp
  have e2 : R ++ ((A ++ [a]) ++ (B ++ [h])) = (R ++ A) ++ (a :: (B ++ [h])) := by simp
  rw [e1, e2]
  exact List.Perm.append_left _ List.perm_middle
theorem pcs_take_eq {z : Str} {rs : Rws} {j : Nat} (h : j ≤ rs.length) : (pcs z rs).take (z.length + j) = pcs z (rs.take j) := by
  unfold pcs
  rw [← sgs_len z, List.take_length_add_append, List.map_take]
/-- a Follows just made: its lists are new behind H0 -/
def FolFr (K : PySem.W.Frag) (H0 H : Hp) (x t : Addr) (z : Str) (rs : Rws) : Prop := ∃ (dx re le al af ah pr : Addr) (asA asH : List Addr) (G : List (List Key × V)), FolS K H x dx t re le al af ah pr asA asH z rs ∧ H pr = some (.dT G) ∧ PairD rs (PLs z rs (AL z rs).length) G ∧
  (∀ (i : Nat) (a : Addr) (p : Str), asA[i]? = some a → (pcs z rs)[i]? = some p → H a = some (.lst ((aft rs (PLs z rs (AL z rs).length) p).map V.str)) ∧ H0 a = none) ∧
  (∀ (i : Nat) (a : Addr) (p : Str), asH[i]? = some a → (pcs z rs)[i]? = some p → H a = some (.lst ((ahd rs (PLs z rs (AL z rs).length) p).map V.str)) ∧ H0 a = none)
theorem FolFr.fol {K : PySem.W.Frag} {H0 H : Hp} {x t : Addr} {z : Str} {rs : Rws} (h : FolFr K H0 H x t z rs) : FolAt K H x z rs := by
  obtain ⟨dx, re, le, al, af, ah, pr, asA, asH, G, fs, hp, pd, h1, h2⟩ := h
  exact ⟨dx, t, re, le, al, af, ah, pr, asA, asH, G, fs, hp, pd, fun i a p ha hp => (h1 i a p ha hp).1, fun i a p ha hp => (h2 i a p ha hp).1⟩
theorem fol_fr {K : PySem.W.Frag} {H0 S H : Hp} {x dx t re le al af ah pr : Addr} {asA asH : List Addr} {z : Str} {rs : Rws} (fs : FolS K S x dx t re le al af ah pr asA asH z rs) (rg : PReg S H pr asA asH z rs (PLs z rs (AL z rs).length)) (s : Same H0 S) : FolFr K H0 H x t z rs := by
  obtain ⟨G, r, pd⟩ := rg
  have lzA := lstsZ_len (aft rs (PLs z rs (AL z rs).length)) fs.lA
  refine ⟨dx, re, le, al, af, ah, pr, asA, asH, G, fs.same r.same, r.get (i := 0) rfl, pd, fun i a p ha hp => ?_, fun i a p ha hp => ?_⟩
  · have hi : i < (pcs z rs).length := (List.getElem?_eq_some_iff.mp hp).1
    have g : ((pr, HO.dT G) :: (lstsZ asA (pcs z rs) (aft rs (PLs z rs (AL z rs).length)) ++ lstsZ asH (pcs z rs) (ahd rs (PLs z rs (AL z rs).length))))[i + 1]? = some (a, HO.lst ((aft rs (PLs z rs (AL z rs).length) p).map V.str)) := by
      rw [List.getElem?_cons_succ, List.getElem?_append_left (by rw [lzA]; exact hi)]
      exact lstsZ_at ha hp
    exact ⟨r.get g, s.free (r.off _ (List.mem_of_getElem? g))⟩
  · have g : ((pr, HO.dT G) :: (lstsZ asA (pcs z rs) (aft rs (PLs z rs (AL z rs).length)) ++ lstsZ asH (pcs z rs) (ahd rs (PLs z rs (AL z rs).length))))[((pcs z rs).length + i) + 1]? = some (a, HO.lst ((ahd rs (PLs z rs (AL z rs).length) p).map V.str)) := by
      rw [List.getElem?_cons_succ, List.getElem?_append_right (by rw [lzA]; omega), lzA, Nat.add_sub_cancel_left]
      exact lstsZ_at ha hp
    exact ⟨r.get g, s.free (r.off _ (List.mem_of_getElem? g))⟩
/-- what is done to one list of objects leaves a Follows -/
theorem FolFr.keep {K : PySem.W.Frag} {H0 H H' : Hp} {x t D : Addr} {z : Str} {rs : Rws} {bs : List Addr} {oD : HO} (h : FolFr K H0 H x t z rs) (ta : TabAt (TC K) H' t z rs) (k : ∀ b o, H b = some o → b ≠ D → H' b = some o) (hD : H D = some (.lst (bs.map V.ref))) (h0 : H0 D = some oD)
    (hb : ∀ b ∈ bs, ∃ C d f, H b = some (.ins C d f)) : FolAt K H' x z rs := by
  obtain ⟨dx, re, le, al, af, ah, pr, asA, asH, G, fs, hp, pd, h1, h2⟩ := h
  have ends : ∀ (A : List (Key × V)) (side : Nat), Eds H A z rs side → Eds H' A z rs side := fun A side he q hq => by
    obtain ⟨a, es, v, ⟨as, ha, hs⟩, eg⟩ := he q hq
    refine ⟨a, es, v, ⟨as, k _ _ ha ?_, L2.Paired.mapP hs fun b y hy => k _ _ hy ?_⟩, eg⟩
    · intro e
      rw [e, hD] at ha
      obtain ⟨x0, rr, er⟩ : ∃ x0 rr, es = x0 :: rr := by
        cases eg with
        | one _ => exact ⟨_, _, rfl⟩
        | more _ _ _ => exact ⟨_, _, rfl⟩
      rw [er] at hs
      cases hs with
      | cons h3 h4 =>
        cases bs with
        | nil => simp at ha
        | cons b bs =>
          simp only [Option.some.injEq, HO.lst.injEq, List.map_cons, List.cons.injEq, V.ref.injEq] at ha
          obtain ⟨C, d, f, h5⟩ := hb b List.mem_cons_self
          rw [ha.1] at h5
          have h3' : H _ = some (.tup _) := h3
          rw [h3'] at h5
          cases h5
    · have hy' : H b = some (.tup _) := hy
      exact ne_of hy' hD (by intro q; cases q)
  obtain ⟨A, B, e1, e2, e3, e4⟩ := fs.fe.ed
  refine ⟨dx, t, re, le, al, af, ah, pr, asA, asH, G, ⟨⟨k _ _ fs.fe.hx ?_, ta, A, B, k _ _ e1 ?_, k _ _ e2 ?_, ends _ _ e3, ends _ _ e4⟩, k _ _ fs.hal ?_, k _ _ fs.haf ?_, k _ _ fs.hah ?_, fs.lA, fs.lH⟩, k _ _ hp ?_, pd, fun i a p ha hp => k _ _ (h1 i a p ha hp).1 ?_, fun i a p ha hp => k _ _ (h2 i a p ha hp).1 ?_⟩
  · exact ne_of fs.fe.hx hD (by intro q; cases q)
  · exact ne_of e1 hD (by intro q; cases q)
  · exact ne_of e2 hD (by intro q; cases q)
  · exact ne_of fs.hal hD (by intro q; cases q)
  · exact ne_of fs.haf hD (by intro q; cases q)
  · exact ne_of fs.hah hD (by intro q; cases q)
  · exact ne_of hp hD (by intro q; cases q)
  · intro e
    have := (h1 i a p ha hp).2
    rw [e, h0] at this
    cases this
  · intro e
    have := (h2 i a p ha hp).2
    rw [e, h0] at this
    cases this
/-- a Follows just made: its dicts are new behind H0 -/
def FolNw (K : PySem.W.Frag) (H0 H : Hp) (x : Addr) : Prop := ∃ (dx t re le al af ah pr : Addr), H x = some (.ins (FC K) dx (fg7 t re le al af ah pr)) ∧ H0 re = none ∧ H0 le = none ∧ H0 al = none ∧ H0 af = none ∧ H0 ah = none ∧ H0 pr = none
theorem fg7_inj {t re le al af ah pr t' re' le' al' af' ah' pr' : Addr} (h : fg7 t re le al af ah pr = fg7 t' re' le' al' af' ah' pr') : re = re' ∧ le = le' ∧ al = al' ∧ af = af' ∧ ah = ah' ∧ pr = pr' := by
  unfold fg7 at h
  simp only [List.cons.injEq, Prod.mk.injEq, V.ref.injEq, true_and, and_true] at h
  obtain ⟨_, a, b, c, d, e, f⟩ := h
  exact ⟨a, b, c, d, e, f⟩
/-- what is done to one dict of another's leaves a Follows -/
theorem FolFr.offD {K : PySem.W.Frag} {H0 H H' : Hp} {x t D : Addr} {z : Str} {rs : Rws} {kvs : List (Key × V)} {oD : HO} (h : FolFr K H0 H x t z rs) (nw : FolNw K H0 H x) (ta : TabAt (TC K) H' t z rs) (k : ∀ b o, H b = some o → b ≠ D → H' b = some o) (hD : H D = some (.dK kvs)) (h0 : H0 D = some oD) : FolAt K H' x z rs := by
  obtain ⟨dx, re, le, al, af, ah, pr, asA, asH, G, fs, hp, pd, h1, h2⟩ := h
  obtain ⟨dx', t', re', le', al', af', ah', pr', hx', n1, n2, n3, n4, n5, n6⟩ := nw
  have e := fs.fe.hx.symm.trans hx'
  simp only [Option.some.injEq, HO.ins.injEq, true_and] at e
  obtain ⟨rfl, rfl, rfl, rfl, rfl, rfl⟩ := fg7_inj e.2
  have ne : ∀ {b : Addr}, H0 b = none → b ≠ D := fun hb e => by rw [e, h0] at hb; cases hb
  have ends : ∀ (A : List (Key × V)) (side : Nat), Eds H A z rs side → Eds H' A z rs side := fun A side he q hq => by
    obtain ⟨a, es, v, ⟨as, ha, hs⟩, eg⟩ := he q hq
    refine ⟨a, es, v, ⟨as, k _ _ ha (ne_of ha hD (by intro q; cases q)), L2.Paired.mapP hs fun b y hy => k _ _ hy ?_⟩, eg⟩
    have hy' : H b = some (.tup _) := hy
    exact ne_of hy' hD (by intro q; cases q)
  obtain ⟨A, B, e1, e2, e3, e4⟩ := fs.fe.ed
  exact ⟨dx, t, re, le, al, af, ah, pr, asA, asH, G, ⟨⟨k _ _ fs.fe.hx (ne_of fs.fe.hx hD (by intro q; cases q)), ta, A, B, k _ _ e1 (ne n1), k _ _ e2 (ne n2), ends _ _ e3, ends _ _ e4⟩, k _ _ fs.hal (ne n3), k _ _ fs.haf (ne n4), k _ _ fs.hah (ne n5), fs.lA, fs.lH⟩, k _ _ hp (ne n6), pd, fun i a p ha hp => k _ _ (h1 i a p ha hp).1 (ne_of (h1 i a p ha hp).1 hD (by intro q; cases q)), fun i a p ha hp => k _ _ (h2 i a p ha hp).1 (ne_of (h2 i a p ha hp).1 hD (by intro q; cases q))⟩
section
variable {P : Program} {w : World} {K : PySem.W.Frag} {mg : Str → Option Value} {base : Heap}
def spFInit (K : PySem.W.Frag) : Sp := fun vs H Q _ => ∃ (H0 : Hp) (x dx t : Addr) (z : Str) (rs : Rws), vs = [.ref x, .ref t] ∧ H = upd (upd H0 dx (.own x)) x (.ins (FC K) dx []) ∧ H0 x = none ∧ H0 dx = none ∧ dx ≠ x ∧ TabAt (TC K) H0 t z rs ∧
  ∀ H', Same H0 H' → FolAt K H' x z rs → Q .non H'
def spFInit2 (K : PySem.W.Frag) : Sp := fun vs H Q _ => ∃ (H0 : Hp) (x dx t : Addr) (z : Str) (rs : Rws), vs = [.ref x, .ref t] ∧ H = upd (upd H0 dx (.own x)) x (.ins (FC K) dx []) ∧ H0 x = none ∧ H0 dx = none ∧ dx ≠ x ∧ TabAt (TC K) H0 t z rs ∧
  ∀ H', Same H0 H' → FolFr K H0 H' x t z rs → Q .non H'
def spFInit3 (K : PySem.W.Frag) : Sp := fun vs H Q _ => ∃ (H0 : Hp) (x dx t : Addr) (z : Str) (rs : Rws), vs = [.ref x, .ref t] ∧ H = upd (upd H0 dx (.own x)) x (.ins (FC K) dx []) ∧ H0 x = none ∧ H0 dx = none ∧ dx ≠ x ∧ TabAt (TC K) H0 t z rs ∧
  ∀ H', Same H0 H' → FolFr K H0 H' x t z rs → FolNw K H0 H' x → Q .non H'
theorem mkc_Follows3 (T : Tx K mg) : Mkc P w K mg base CX0 5 "Follows" (FC K) (spFInit3 K) := by
  have M_Table_pieces := met_pieces (P := P) (w := w) (base := base) T
  have C_with_ends := cal_with_ends (P := P) (w := w) (base := base) T
  have C_right_edge := cal_right_edge (P := P) (w := w) (base := base) T
  have C_left_edge := cal_left_edge (P := P) (w := w) (base := base) T
  have M_Follows_is_alone := met_is_alone (P := P) (w := w) (base := base) T
  have M_Follows_pair_all := met_pair_all (P := P) (w := w) (base := base) T
  obtain ⟨fd, F⟩ := T.d_Follows___init__
  refine ⟨⟨_, fd, P_Follows___init__, F.ok sc_Follows___init__ (fun vs H Q E h => ?_) (fun cdv A outer s H vs Q E hr h => ?_), T.mk_Follows, F.bindsN (ps := P_Follows___init__) fun _ _ _ _ _ _ us hl => match us, hl with | [_, _], _ => rfl⟩, T.g_Follows⟩
  · obtain ⟨H0, x, dx, t, z, rs, rfl, _⟩ := h
    rfl
  · obtain ⟨H0, x, dx, t, z, rs, rfl, rfl, x0, dx0, ndx, ta, k⟩ := h
    refine ⟨_, (PSs.nox (pss_cons (ps_fld (pv 0) (pv 1) rfl)
      (pss_cons (ps_fld (pv 0) pe_dnewK rfl)
      (pss_cons (ps_fld (pv 0) pe_dnewK rfl)
      (pss_cons (ps_fld (pv 0) pe_dnewK rfl)
      (pss_cons (ps_fld (pv 0) pe_dnewK rfl)
      (pss_cons (ps_fld (pv 0) pe_dnewK rfl)
      (pss_cons (ps_fld (pv 0) pe_dnewT rfl)
      (pss_cons (ps_for PassesOwn.never rfl (pi_list (pe_met0 M_Table_pieces (pv 1) (by first | exact hr | exact hr.mono (by decide)))) (pg_name (i := 2) sc_Follows___init__.nd rfl (Or.inl rfl)) (pss_cons (ps_dput (hu_of hr) (pe_fld (pv 0) rfl) (pv 2) (pe_cal C_with_ends (by first | exact hr | exact hr.mono (by decide)) (by rfl) (pa_cons (pv 1) (pa_cons (pe_cal C_right_edge (by first | exact hr | exact hr.mono (by decide)) (by rfl) (pa_cons (pv 1) (pa_cons (pv 2) pa_nil))) pa_nil))) rfl)
      (pss_cons (ps_dput (hu_of hr) (pe_fld (pv 0) rfl) (pv 2) (pe_cal C_with_ends (by first | exact hr | exact hr.mono (by decide)) (by rfl) (pa_cons (pv 1) (pa_cons (pe_cal C_left_edge (by first | exact hr | exact hr.mono (by decide)) (by rfl) (pa_cons (pv 1) (pa_cons (pv 2) pa_nil))) pa_nil))) rfl)
      (pss_cons (ps_dput (hu_of hr) (pe_fld (pv 0) rfl) (pv 2) (pe_lstG pa_nil) rfl)
      (pss_one (ps_dput (hu_of hr) (pe_fld (pv 0) rfl) (pv 2) (pe_lstG pa_nil) rfl))))))
      (pss_cons (ps_for PassesOwn.never rfl (pi_list (pe_met0 M_Table_pieces (pv 1) (by first | exact hr | exact hr.mono (by decide)))) (pg_name (i := 2) sc_Follows___init__.nd rfl (Or.inl rfl)) (pss_one (ps_if (pt_val (pe_met M_Follows_is_alone (pv 0) (by first | exact hr | exact hr.mono (by decide)) (pa_cons (pv 2) pa_nil))) (pss_one (ps_dput (hu_of hr) (pe_fld (pv 0) rfl) (pv 2) pe_bl rfl)) pss_nil)))
      (pss_one (ps_expr (pe_met0 M_Follows_pair_all (pv 0) (by first | exact hr | exact hr.mono (by decide))))))))))))))), ?_⟩
    have n12 := ta.ok.n12
    have many := ta.ok.many
    have nd := ta.ok.nodup
    have pl := pcs_len z rs
    have sS0 : Same H0 (upd H0 dx (.own x)) := Same.new dx0
    have S0x : (upd H0 dx (.own x)) x = none := by rw [upd_ne (Ne.symm ndx)]; exact x0
    revert sS0 S0x
    generalize (upd H0 dx (.own x)) = S0
    intro sS0 S0x
    have r0 : Reg S0 (upd S0 x (.ins (FC K) dx [])) [(x, .ins (FC K) dx [])] := (Reg.nil S0).new S0x (Same.new S0x) upd_same
    revert r0
    generalize (upd S0 x (.ins (FC K) dx [])) = Ha
    intro r0
    refine ⟨_, rfl, _, rfl, x, _, dx, _, rfl, r0.get (i := 0) rfl, T.cl_Follows, T.no_Follows_held_table, (by show 0 < 1000; decide), ?_⟩
    have r1 : Reg S0 (upd Ha x (.ins (FC K) dx (putF "held_table" (.ref t) []))) [(x, .ins (FC K) dx (putF "held_table" (.ref t) []))] := r0.set (i := 0) (o := .ins (FC K) dx []) rfl
    revert r1
    generalize (upd Ha x (.ins (FC K) dx (putF "held_table" (.ref t) []))) = Hb
    intro r1
    intro re hre
    refine ⟨_, rfl, x, _, dx, _, rfl, Same.new hre _ _ (r1.get (i := 0) rfl), T.cl_Follows, T.no_Follows_right_edges, (by show 1 < 1000; decide), ?_⟩
    have r2 := r1.fld (.ins (FC K) dx (putF "right_edges" (.ref re) (putF "held_table" (.ref t) []))) (.dK []) hre
    revert r2
    generalize (upd (upd Hb re (.dK [])) x (.ins (FC K) dx (putF "right_edges" (.ref re) (putF "held_table" (.ref t) [])))) = Hc
    intro r2
    intro le hle
    refine ⟨_, rfl, x, _, dx, _, rfl, Same.new hle _ _ (r2.get (i := 0) rfl), T.cl_Follows, T.no_Follows_left_edges, (by show 2 < 1000; decide), ?_⟩
    have r3 := r2.fld (.ins (FC K) dx (putF "left_edges" (.ref le) (putF "right_edges" (.ref re) (putF "held_table" (.ref t) [])))) (.dK []) hle
    revert r3
    generalize (upd (upd Hc le (.dK [])) x (.ins (FC K) dx (putF "left_edges" (.ref le) (putF "right_edges" (.ref re) (putF "held_table" (.ref t) []))))) = Hd
    intro r3
    intro al hal
    refine ⟨_, rfl, x, _, dx, _, rfl, Same.new hal _ _ (r3.get (i := 0) rfl), T.cl_Follows, T.no_Follows_alone_pieces, (by show 3 < 1000; decide), ?_⟩
    have r4 := r3.fld (.ins (FC K) dx (putF "alone_pieces" (.ref al) (putF "left_edges" (.ref le) (putF "right_edges" (.ref re) (putF "held_table" (.ref t) []))))) (.dK []) hal
    revert r4
    generalize (upd (upd Hd al (.dK [])) x (.ins (FC K) dx (putF "alone_pieces" (.ref al) (putF "left_edges" (.ref le) (putF "right_edges" (.ref re) (putF "held_table" (.ref t) [])))))) = He'
    intro r4
    intro af haf
    refine ⟨_, rfl, x, _, dx, _, rfl, Same.new haf _ _ (r4.get (i := 0) rfl), T.cl_Follows, T.no_Follows_pieces_after, (by show 4 < 1000; decide), ?_⟩
    have r5 := r4.fld (.ins (FC K) dx (putF "pieces_after" (.ref af) (putF "alone_pieces" (.ref al) (putF "left_edges" (.ref le) (putF "right_edges" (.ref re) (putF "held_table" (.ref t) [])))))) (.dK []) haf
    revert r5
    generalize (upd (upd He' af (.dK [])) x (.ins (FC K) dx (putF "pieces_after" (.ref af) (putF "alone_pieces" (.ref al) (putF "left_edges" (.ref le) (putF "right_edges" (.ref re) (putF "held_table" (.ref t) []))))))) = Hf
    intro r5
    intro ah hah
    refine ⟨_, rfl, x, _, dx, _, rfl, Same.new hah _ _ (r5.get (i := 0) rfl), T.cl_Follows, T.no_Follows_pieces_ahead, (by show 5 < 1000; decide), ?_⟩
    have r6 := r5.fld (.ins (FC K) dx (putF "pieces_ahead" (.ref ah) (putF "pieces_after" (.ref af) (putF "alone_pieces" (.ref al) (putF "left_edges" (.ref le) (putF "right_edges" (.ref re) (putF "held_table" (.ref t) []))))))) (.dK []) hah
    revert r6
    generalize (upd (upd Hf ah (.dK [])) x (.ins (FC K) dx (putF "pieces_ahead" (.ref ah) (putF "pieces_after" (.ref af) (putF "alone_pieces" (.ref al) (putF "left_edges" (.ref le) (putF "right_edges" (.ref re) (putF "held_table" (.ref t) [])))))))) = Hg
    intro r6
    intro pr hpr
    refine ⟨_, rfl, x, _, dx, _, rfl, Same.new hpr _ _ (r6.get (i := 0) rfl), T.cl_Follows, T.no_Follows_pairs, (by show 6 < 1000; decide), ?_⟩
    rw [g7_put]
    have r7 : Reg S0 _ (R7 K x dx t re le al af ah pr [] [] [] [] []) := r6.fld (.ins (FC K) dx (fg7 t re le al af ah pr)) (.dT []) hpr
    revert r7
    generalize (upd (upd Hg pr (.dT [])) x (.ins (FC K) dx (fg7 t re le al af ah pr))) = H7
    intro r7
    have taS := ta.same sS0
    have ta7 := taS.same r7.same
    obtain ⟨dxt, lr, lp, dn, dr, m, ht, _⟩ := ta7.ex
    -- the first loop
    refine ⟨_, rfl, t, dxt, _, rfl, ht, l6_mp _ _ _ _ _ _, t, z, rs, rfl, ta7, fun H8 q0 s8 nq0 hq0 => ?_⟩
    obtain ⟨r8, sS8⟩ := r7.grow s8
    have hq0S := out_of (L := R7 K x dx t re le al af ah pr [] [] [] [] []) hq0 (r7.free nq0)
    have taS8 := taS.same sS8
    revert r8 sS8 hq0S taS8
    generalize (out H8 (R7 K x dx t re le al af ah pr [] [] [] [] [])) = S1
    intro r8 sS8 hq0S taS8
    obtain ⟨ps, eps⟩ : ∃ ps, ps = pcs z rs := ⟨_, rfl⟩
    rw [← eps] at hq0 hq0S nd pl
    refine ⟨q0, rfl, ⟨_, SqL.of hq0⟩, for_list (K := K) (a := q0) (xs := ps.map V.str) (fun i σ H' => ∃ (S' : Hp) (ra la asA asH : List Addr) (u : Option V), σ = [some (.ref x), some (.ref t), u] ∧ Same S1 S' ∧
        Reg S' H' (R7 K x dx t re le al af ah pr (kvsZ ra (ps.take i)) (kvsZ la (ps.take i)) [] (kvsZ asA (ps.take i)) (kvsZ asH (ps.take i)) ++ (lstsZ asA (ps.take i) (fun _ => []) ++ lstsZ asH (ps.take i) (fun _ => []))) ∧
        asA.length = (ps.take i).length ∧ asH.length = (ps.take i).length ∧ Eds1 S' rs 1 ra (ps.take i) ∧ Eds1 S' rs 0 la (ps.take i))
      ⟨S1, [], [], [], [], _, rfl, Same.refl _, r8, rfl, rfl, .nil, .nil⟩ (fun i σ H' _ ⟨S', _, _, _, _, _, _, s, r, _⟩ => SqL.of (r.same _ _ (s _ _ hq0S))) ?_ ?_⟩
    · rintro i y σ H' hi ⟨S', ra, la, asA, asH, u, rfl, sS', r, lA, lH, e1, e0⟩
      rw [List.getElem?_map] at hi
      cases ep : ps[i]? with
      | none => rw [ep] at hi; cases hi
      | some p =>
        rw [ep] at hi
        cases hi
        have il : i < ps.length := (List.getElem?_eq_some_iff.mp ep).1
        have et : ps.take (i + 1) = ps.take i ++ [p] := by rw [List.take_add_one, ep]; rfl
        have hp : p ∈ pcs z rs := by rw [← eps]; exact List.mem_of_getElem? ep
        have hnew : ¬ p ∈ ps.take i := fun hm => by
          obtain ⟨j, hj⟩ := List.getElem?_of_mem hm
          rw [List.getElem?_take] at hj
          split at hj
          · have := nd_at nd hj ep
            omega
          · cases hj
        have tl : (ps.take i).length ≤ 36 := by rw [List.length_take]; omega
        obtain ⟨pi, epi⟩ : ∃ pi, pi = ps.take i := ⟨_, rfl⟩
        rw [et]
        rw [← epi] at r lA lH e1 e0 hnew tl ⊢
        have lr1 := Paired.len e1
        have lr0 := Paired.len e0
        have nt0 : ∀ q ∈ lstsZ asA pi (fun _ => []) ++ lstsZ asH pi (fun _ => []), ∀ xs, q.2 ≠ HO.tup xs := notup_app notup_lsts notup_lsts
        -- right_edges
        have ta1 := (taS8.same sS').same r.same
        refine ⟨_, rfl, _, rfl, _, rfl, t, z, rs, p, rfl, ta1, hp, fun H9 q1 es s9 nq1 hq1 hE1 => ?_⟩
        refine ⟨t, q1, z, rs, 1, p, es, rfl, ta1.same s9, hq1, hE1, hp, fun H10 te1 fs1 s10 nte1 ⟨as1, hte1, hpe1⟩ hEE1 => ?_⟩
        have s910 := s9.trans s10
        obtain ⟨ra1, sSa⟩ := r.grow s910
        obtain ⟨o1, o2⟩ := r.outs s910 (s9.free nte1) hte1 hpe1 (notup_app notup_R7 nt0)
        refine ⟨_, rfl, x, _, dx, _, _, rfl, ra1.get (i := 0) rfl, T.cl_Follows, T.no_Follows_right_edges, g7_re _ _ _ _ _ _ _, _, rfl, re, _, rfl, DPut.k (k := Sum.inr p) (ra1.get (i := 1) rfl) (szl (by rw [kvsZ_len lr1]; omega)), ?_⟩
        rw [putK_new _ (kvsZ_none hnew), ← kvsZ_snoc lr1]
        have e1' : Eds1 (out H10 _) rs 1 (ra ++ [te1]) (pi ++ [p]) := Paired.snoc (e1.same sSa) ⟨fs1, ⟨as1, o1, o2⟩, hEE1⟩
        have e0' := e0.same sSa
        have sSb := sS'.trans sSa
        have ra2 : Reg _ _ (R7 K x dx t re le al af ah pr (kvsZ (ra ++ [te1]) (pi ++ [p])) (kvsZ la pi) [] (kvsZ asA pi) (kvsZ asH pi) ++ (lstsZ asA pi (fun _ => []) ++ lstsZ asH pi (fun _ => []))) := ra1.set (i := 1) (a := re) (o := .dK (kvsZ ra pi)) (o' := .dK (kvsZ (ra ++ [te1]) (pi ++ [p]))) rfl
        clear o1 o2 ra1 sSa e1 e0
        revert e1' e0' sSb ra2
        generalize (out H10 (R7 K x dx t re le al af ah pr (kvsZ ra pi) (kvsZ la pi) [] (kvsZ asA pi) (kvsZ asH pi) ++ (lstsZ asA pi (fun _ => []) ++ lstsZ asH pi (fun _ => [])))) = S2
        generalize (upd H10 re (.dK (kvsZ (ra ++ [te1]) (pi ++ [p])))) = H11
        intro e1 e0 sS2 r2
        -- left_edges
        have ta2 := (taS8.same sS2).same r2.same
        refine ⟨_, rfl, _, rfl, _, rfl, t, z, rs, p, rfl, ta2, hp, fun H12 q2 es2 s12 nq2 hq2 hE2 => ?_⟩
        refine ⟨t, q2, z, rs, 0, p, es2, rfl, ta2.same s12, hq2, hE2, hp, fun H13 te2 fs2 s13 nte2 ⟨as2, hte2, hpe2⟩ hEE2 => ?_⟩
        have s1213 := s12.trans s13
        obtain ⟨ra1, sSa⟩ := r2.grow s1213
        obtain ⟨o1, o2⟩ := r2.outs s1213 (s12.free nte2) hte2 hpe2 (notup_app notup_R7 nt0)
        refine ⟨_, rfl, x, _, dx, _, _, rfl, ra1.get (i := 0) rfl, T.cl_Follows, T.no_Follows_left_edges, g7_le _ _ _ _ _ _ _, _, rfl, le, _, rfl, DPut.k (k := Sum.inr p) (ra1.get (i := 2) rfl) (szl (by rw [kvsZ_len lr0]; omega)), ?_⟩
        rw [putK_new _ (kvsZ_none hnew), ← kvsZ_snoc lr0]
        have e0' : Eds1 (out H13 _) rs 0 (la ++ [te2]) (pi ++ [p]) := Paired.snoc (e0.same sSa) ⟨fs2, ⟨as2, o1, o2⟩, hEE2⟩
        have e1' := e1.same sSa
        have sSb := sS2.trans sSa
        have ra2 : Reg _ _ (R7 K x dx t re le al af ah pr (kvsZ (ra ++ [te1]) (pi ++ [p])) (kvsZ (la ++ [te2]) (pi ++ [p])) [] (kvsZ asA pi) (kvsZ asH pi) ++ (lstsZ asA pi (fun _ => []) ++ lstsZ asH pi (fun _ => []))) := ra1.set (i := 2) (a := le) (o := .dK (kvsZ la pi)) (o' := .dK (kvsZ (la ++ [te2]) (pi ++ [p]))) rfl
        clear o1 o2 ra1 sSa e1 e0
        revert e1' e0' sSb ra2
        generalize (out H13 (R7 K x dx t re le al af ah pr (kvsZ (ra ++ [te1]) (pi ++ [p])) (kvsZ la pi) [] (kvsZ asA pi) (kvsZ asH pi) ++ (lstsZ asA pi (fun _ => []) ++ lstsZ asH pi (fun _ => [])))) = S3
        generalize (upd H13 le (.dK (kvsZ (la ++ [te2]) (pi ++ [p])))) = H14
        intro e0 e1 sS3 r3
        -- pieces_after, pieces_ahead
        refine ⟨(by show 0 ≤ sizeLine; decide), fun aa H15 naa s15 haa => ?_⟩
        have r4 := r3.new naa s15 haa
        refine ⟨_, rfl, x, _, dx, _, _, rfl, r4.get (i := 0) rfl, T.cl_Follows, T.no_Follows_pieces_after, g7_af _ _ _ _ _ _ _, _, rfl, af, _, rfl, DPut.k (k := Sum.inr p) (r4.get (i := 4) rfl) (szl (by rw [kvsZ_len lA]; omega)), ?_⟩
        rw [putK_new _ (kvsZ_none hnew), ← kvsZ_snoc lA]
        have r5 : Reg S3 _ ((R7 K x dx t re le al af ah pr (kvsZ (ra ++ [te1]) (pi ++ [p])) (kvsZ (la ++ [te2]) (pi ++ [p])) [] (kvsZ (asA ++ [aa]) (pi ++ [p])) (kvsZ asH pi) ++ (lstsZ asA pi (fun _ => []) ++ lstsZ asH pi (fun _ => []))) ++ [(aa, .lst [])]) := r4.set (i := 4) (a := af) (o := .dK (kvsZ asA pi)) (o' := .dK (kvsZ (asA ++ [aa]) (pi ++ [p]))) rfl
        revert r5
        generalize (upd H15 af (.dK (kvsZ (asA ++ [aa]) (pi ++ [p])))) = H16
        intro r5
        refine ⟨(by show 0 ≤ sizeLine; decide), fun ab H17 nab s17 hab => ?_⟩
        have r6 := r5.new nab s17 hab
        refine ⟨_, rfl, x, _, dx, _, _, rfl, r6.get (i := 0) rfl, T.cl_Follows, T.no_Follows_pieces_ahead, g7_ah _ _ _ _ _ _ _, _, rfl, ah, _, rfl, DPut.k (k := Sum.inr p) (r6.get (i := 5) rfl) (szl (by rw [kvsZ_len lH]; omega)), ?_⟩
        rw [putK_new _ (kvsZ_none hnew), ← kvsZ_snoc lH]
        have r7 : Reg S3 _ (((R7 K x dx t re le al af ah pr (kvsZ (ra ++ [te1]) (pi ++ [p])) (kvsZ (la ++ [te2]) (pi ++ [p])) [] (kvsZ (asA ++ [aa]) (pi ++ [p])) (kvsZ (asH ++ [ab]) (pi ++ [p])) ++ (lstsZ asA pi (fun _ => []) ++ lstsZ asH pi (fun _ => []))) ++ [(aa, .lst [])]) ++ [(ab, .lst [])]) := r6.set (i := 5) (a := ah) (o := .dK (kvsZ asH pi)) (o' := .dK (kvsZ (asH ++ [ab]) (pi ++ [p]))) rfl
        have r8 := r7.perm (perm4 ..)
        refine ⟨S3, ra ++ [te1], la ++ [te2], asA ++ [aa], asH ++ [ab], _, rfl, sS3, ?_, ?_, ?_, e1, e0⟩
        · rw [lstsZ_snoc _ lA, lstsZ_snoc _ lH]
          exact r8
        · rw [List.length_append, List.length_append, lA]; rfl
        · rw [List.length_append, List.length_append, lH]; rfl
    · rintro σ H' ⟨S', ra, la, asA, asH, u, rfl, sS', r, lA, lH, e1, e0⟩
      rw [List.length_map, List.take_length] at r lA lH e1 e0
      -- the second loop
      have ta9 := (taS8.same sS').same r.same
      obtain ⟨dxt, lr, lp, dn, dr, m, ht, _⟩ := ta9.ex
      refine ⟨_, rfl, t, dxt, _, rfl, ht, l6_mp _ _ _ _ _ _, t, z, rs, rfl, ta9, fun H9 q1 s9 nq1 hq1 => ?_⟩
      rw [← eps] at hq1
      obtain ⟨r9, sS9⟩ := r.grow s9
      have hq1S := out_of hq1 (r.free nq1)
      have sS9' := sS'.trans sS9
      have e1' := e1.same sS9
      have e0' := e0.same sS9
      clear e1 e0
      revert r9 sS9' hq1S e1' e0'
      generalize (out H9 (R7 K x dx t re le al af ah pr (kvsZ ra ps) (kvsZ la ps) [] (kvsZ asA ps) (kvsZ asH ps) ++ (lstsZ asA ps (fun _ => []) ++ lstsZ asH ps (fun _ => [])))) = S4
      intro r9 hq1S sS4 e1 e0
      have taS4 := taS8.same sS4
      have ed1 : Eds S4 (kvsZ ra ps) z rs 1 := by rw [eps] at e1 nd ⊢; exact e1.eds nd
      have ed0 : Eds S4 (kvsZ la ps) z rs 0 := by rw [eps] at e0 nd ⊢; exact e0.eds nd
      refine ⟨q1, rfl, ⟨_, SqL.of hq1⟩, for_list (K := K) (a := q1) (xs := ps.map V.str) (fun i σ H' => ∃ (u : Option V), σ = [some (.ref x), some (.ref t), u] ∧
          Reg S4 H' (R7 K x dx t re le al af ah pr (kvsZ ra ps) (kvsZ la ps) (((ps.take i).filter fun p => decide (sweep rs p = [p])).map fun q => (Sum.inr q, V.bl true)) (kvsZ asA ps) (kvsZ asH ps) ++ (lstsZ asA ps (fun _ => []) ++ lstsZ asH ps (fun _ => []))))
        ⟨_, rfl, r9⟩ (fun i σ H' _ ⟨_, _, r⟩ => SqL.of (r.same _ _ hq1S)) ?_ ?_⟩
      · rintro i y σ H' hi ⟨u, rfl, r⟩
        rw [List.getElem?_map] at hi
        cases ep : ps[i]? with
        | none => rw [ep] at hi; cases hi
        | some p =>
          rw [ep] at hi
          cases hi
          have il : i < ps.length := (List.getElem?_eq_some_iff.mp ep).1
          have et : ps.take (i + 1) = ps.take i ++ [p] := by rw [List.take_add_one, ep]; rfl
          have hp : p ∈ pcs z rs := by rw [← eps]; exact List.mem_of_getElem? ep
          have hnew : ¬ p ∈ ps.take i := fun hm => by
            obtain ⟨j, hj⟩ := List.getElem?_of_mem hm
            rw [List.getElem?_take] at hj
            split at hj
            · have := nd_at nd hj ep
              omega
            · cases hj
          have fe : FolE K H' x dx t re le al af ah pr z rs := ⟨r.get (i := 0) rfl, taS4.same r.same, _, _, r.get (i := 1) rfl, r.get (i := 2) rfl, ed1.same r.same, ed0.same r.same⟩
          have dl : (((ps.take i).filter fun p => decide (sweep rs p = [p])).map fun q => ((Sum.inr q : Key), V.bl true)).length ≤ 36 := by
            rw [List.length_map]
            have h1 := List.length_filter_le (fun p => decide (sweep rs p = [p])) (ps.take i)
            rw [List.length_take] at h1
            omega
          refine ⟨_, rfl, x, dx, _, rfl, r.get (i := 0) rfl, g7_mia _ _ _ _ _ _ _, _, rfl, x, dx, t, re, le, al, af, ah, pr, z, rs, p, _, rfl, fe, hp, r.get (i := 3) rfl, fun j rr hj ej q hq => ?_, fun H1 s1 => ?_⟩
          · have hjl : j < rs.length := (List.getElem?_eq_some_iff.mp hj).1
            have hij : i = z.length + j := by
              refine nd_at nd ep ?_
              rw [eps]
              unfold pcs
              rw [List.getElem?_append_right (by rw [sgs_len]; omega), sgs_len, Nat.add_sub_cancel_left, List.getElem?_map, hj, ← ej]
              rfl
            rw [← pcs_take_eq (by omega), ← hij, ← eps] at hq
            rw [aldT]
            by_cases c : sweep rs q = [q]
            · rw [if_pos c, if_pos (List.mem_filter.mpr ⟨hq, by simpa using c⟩)]
            · rw [if_neg c, if_neg (fun h => c (by simpa using (List.mem_filter.mp h).2))]
          · have r1 := r.step s1
            have ef : (ps.take (i + 1)).filter (fun p => decide (sweep rs p = [p])) = (ps.take i).filter (fun p => decide (sweep rs p = [p])) ++ (if sweep rs p = [p] then [p] else []) := by
              rw [et, List.filter_append]
              by_cases c : sweep rs p = [p]
              · rw [if_pos c]; simp [c]
              · rw [if_neg c]; simp [c]
            rw [ef]
            refine ⟨_, rfl, ?_⟩
            by_cases c : sweep rs p = [p]
            · rw [decide_eq_true c, if_pos c]
              refine iteT ⟨_, rfl, x, _, dx, _, _, rfl, r1.get (i := 0) rfl, T.cl_Follows, T.no_Follows_alone_pieces, g7_al _ _ _ _ _ _ _, _, rfl, al, _, rfl, DPut.k (k := Sum.inr p) (r1.get (i := 3) rfl) (szl (by omega)), ?_⟩
              rw [putK_new _ (by rw [aldT, if_neg (fun h => hnew (List.mem_filter.mp h).1)])]
              refine ⟨_, rfl, ?_⟩
              rw [List.map_append]
              exact r1.set (i := 3) (a := al) (o := .dK (((ps.take i).filter fun p => decide (sweep rs p = [p])).map fun q => (Sum.inr q, V.bl true))) rfl
            · rw [decide_eq_false c, if_neg c, List.append_nil]
              exact iteF ⟨_, rfl, r1⟩
      · rintro σ H' ⟨u, rfl, r⟩
        rw [List.length_map, List.take_length] at r
        have r' : Reg S4 H' ([(x, .ins (FC K) dx (fg7 t re le al af ah pr)), (re, .dK (kvsZ ra ps)), (le, .dK (kvsZ la ps)), (al, .dK ((ps.filter fun p => decide (sweep rs p = [p])).map fun q => (Sum.inr q, V.bl true))), (af, .dK (kvsZ asA ps)), (ah, .dK (kvsZ asH ps))] ++ ((pr, .dT []) :: (lstsZ asA ps (fun _ => []) ++ lstsZ asH ps (fun _ => [])))) := r
        have sH4 := (sS0.trans sS8).trans sS4
        have n1 := sH4.free (r.off _ (List.mem_of_getElem? (show _ = some (re, HO.dK (kvsZ ra ps)) from (rfl : _[1]? = _))))
        have n2 := sH4.free (r.off _ (List.mem_of_getElem? (show _ = some (le, HO.dK (kvsZ la ps)) from (rfl : _[2]? = _))))
        have n3 := sH4.free (r.off _ (List.mem_of_getElem? (show _ = some (al, HO.dK ((ps.filter fun p => decide (sweep rs p = [p])).map fun q => (Sum.inr q, V.bl true))) from (rfl : _[3]? = _))))
        have n4 := sH4.free (r.off _ (List.mem_of_getElem? (show _ = some (af, HO.dK (kvsZ asA ps)) from (rfl : _[4]? = _))))
        have n5 := sH4.free (r.off _ (List.mem_of_getElem? (show _ = some (ah, HO.dK (kvsZ asH ps)) from (rfl : _[5]? = _))))
        have n6 := sH4.free (r.off _ (List.mem_of_getElem? (show _ = some (pr, HO.dT []) from (rfl : _[6]? = _))))
        obtain ⟨rf, sSf, hf⟩ := r'.freeze
        have h0 := hf _ (List.mem_cons_self)
        have h1 := hf _ (List.mem_cons_of_mem _ List.mem_cons_self)
        have h2 := hf _ (List.mem_cons_of_mem _ (List.mem_cons_of_mem _ List.mem_cons_self))
        have h3 := hf _ (List.mem_cons_of_mem _ (List.mem_cons_of_mem _ (List.mem_cons_of_mem _ List.mem_cons_self)))
        have h4 := hf _ (List.mem_cons_of_mem _ (List.mem_cons_of_mem _ (List.mem_cons_of_mem _ (List.mem_cons_of_mem _ List.mem_cons_self))))
        have h5 := hf _ (List.mem_cons_of_mem _ (List.mem_cons_of_mem _ (List.mem_cons_of_mem _ (List.mem_cons_of_mem _ (List.mem_cons_of_mem _ List.mem_cons_self)))))
        have hxH := r.get (i := 0) rfl
        clear hf
        revert rf sSf h0 h1 h2 h3 h4 h5
        generalize (out H' ((pr, .dT []) :: (lstsZ asA ps (fun _ => []) ++ lstsZ asH ps (fun _ => [])))) = S5
        intro rf sSf h0 h1 h2 h3 h4 h5
        subst eps
        have fs : FolS K S5 x dx t re le al af ah pr asA asH z rs := ⟨⟨h0, taS4.same sSf, _, _, h1, h2, ed1.same sSf, ed0.same sSf⟩, h3, h4, h5, lA, lH⟩
        refine ⟨_, rfl, x, dx, _, rfl, hxH, g7_mpa _ _ _ _ _ _ _, S5, x, dx, t, re, le, al, af, ah, pr, asA, asH, z, rs, rfl, fs, ⟨[], rf, ⟨fun l r => (by rw [if_neg (fun h => by cases h.1)]; rfl), Nat.le_refl _⟩⟩, fun S6 H6 sS6 rg => ?_⟩
        obtain ⟨G, rr, pd⟩ := id rg
        have sA := (((sS0.trans sS8).trans sS4).trans sSf).trans sS6
        exact k H6 (sA.trans rr.same) (fol_fr (fs.same sS6) rg sA) ⟨dx, t, re, le, al, af, ah, pr, ((fs.same sS6).fe.same rr.same).hx, n1, n2, n3, n4, n5, n6⟩
theorem mkc_Follows2 (T : Tx K mg) : Mkc P w K mg base CX0 5 "Follows" (FC K) (spFInit2 K) := by
  obtain ⟨⟨f, fd, ps, G, mk, b⟩, g⟩ := mkc_Follows3 (P := P) (w := w) (base := base) T
  refine ⟨⟨f, fd, ps, G.imp fun vs H Q E h => ?_, mk, b⟩, g⟩
  obtain ⟨H0, x, dx, t, z, rs, e1, e2, e3, e4, e5, e6, k⟩ := h
  exact ⟨H0, x, dx, t, z, rs, e1, e2, e3, e4, e5, e6, fun H' s t _ => k H' s t⟩
theorem mkc_Follows (T : Tx K mg) : Mkc P w K mg base CX0 5 "Follows" (FC K) (spFInit K) := by
  obtain ⟨⟨f, fd, ps, G, mk, b⟩, g⟩ := mkc_Follows2 (P := P) (w := w) (base := base) T
  refine ⟨⟨f, fd, ps, G.imp fun vs H Q E h => ?_, mk, b⟩, g⟩
  obtain ⟨H0, x, dx, t, z, rs, e1, e2, e3, e4, e5, e6, k⟩ := h
  exact ⟨H0, x, dx, t, z, rs, e1, e2, e3, e4, e5, e6, fun H' s t => k H' s t.fol⟩
end
end Jr
namespace Jr
open PySem PySem.Spec PyProof.Rows L2
/-- digits by sizes: a new list, each digit from 0 to below its size -/
def spNumbers (K : PySem.W.Frag) : Sp := fun vs H Q _ => ∃ (c salt : Int) (a : Addr) (ns : List Int), vs = [.int c, .int salt, .ref a] ∧ 0 ≤ salt ∧ salt ≤ 100000 ∧ SqL K H a (ns.map V.int) ∧ ns.length ≤ 1000 ∧
  (∀ z ∈ ns, 0 < z ∧ z.natAbs.log2 < 9000) ∧ ∀ H' p ds, Same H H' → H p = none → H' p = some (.lst (ds.map V.int)) → Digs ns ds → Q (.ref p) H'
theorem Digs.snoc {ns ds : List Int} {i : Nat} {z d : Int} (h : Digs (ns.take i) ds) (hz : ns[i]? = some z) (h0 : 0 ≤ d) (h1 : d < z) : Digs (ns.take (i + 1)) (ds ++ [d]) := by
  have e : ns.take (i + 1) = ns.take i ++ [z] := by
    rw [List.take_add_one, hz]
    rfl
  rw [e]
  exact Paired.snoc h ⟨h0, h1⟩
theorem digs_end {H' : Hp} {p : Addr} {ns ds : List Int} {i : Nat} {z x : Int} (h : Digs (ns.take i) ds) (hz : ns[i]? = some z) (zp : 0 < z) :
    ∃ es : List Int, (upd H' p (.lst (ds.map V.int ++ [V.int (x % z)]))) p = some (.lst (es.map V.int)) ∧ Digs (ns.take (i + 1)) es :=
  ⟨ds ++ [x % z], by rw [upd_same, List.map_append]; rfl, h.snoc hz (Int.emod_nonneg _ (by omega)) (Int.emod_lt_of_pos _ zp)⟩
theorem nab {x m : Int} (h : 0 < m) (hm : m ≤ 2 ^ 62) : (x % m).natAbs < 2 ^ 64 := by
  have := Int.emod_nonneg x (show m ≠ 0 by omega)
  have := Int.emod_lt_of_pos x h
  omega
theorem mulb {x m : Int} (h : 0 < m) (hm : m ≤ 2 ^ 62) : -(2 ^ 64) < x % m ∧ x % m < 2 ^ 64 := by
  have := Int.emod_nonneg x (show m ≠ 0 by omega)
  have := Int.emod_lt_of_pos x h
  omega
theorem mulb2 {x : Int} {i : Nat} (hi : i ≤ 1000) : -(2 ^ 64) < x % 2147483647 + 104729 * (0 + (i : Int) + 1) ∧ x % 2147483647 + 104729 * (0 + (i : Int) + 1) < 2 ^ 64 := by
  have := Int.emod_nonneg x (show (2147483647 : Int) ≠ 0 by omega)
  have := Int.emod_lt_of_pos x (show (0 : Int) < 2147483647 by omega)
  omega
section
variable {P : Program} {w : World} {K : PySem.W.Frag} {mg : Str → Option Value} {base : Heap}
theorem cal__law_numbers (T : Tx K mg) : Cal P w K mg base CX0 1 "_law_numbers" (spNumbers K) := by
  obtain ⟨fd, F⟩ := T.d__law_numbers
  refine ⟨_, fd, P__law_numbers, F.ok sc__law_numbers (fun vs H Q E h => ?_) (fun cdv A outer s H vs Q E hr h => ?_), T.g__law_numbers, F.kp, F.bindsN (ps := P__law_numbers) fun _ _ _ _ _ _ us hl => match us, hl with | [_, _, _], _ => rfl⟩
  · obtain ⟨c, salt, a, ns, rfl, _⟩ := h
    rfl
  · obtain ⟨c, salt, a, ns, rfl, s0, s1, hS, hlen, hns, k⟩ := h
    refine ⟨_, (PSs.nox (pss_cons (ps_set (i := 3) sc__law_numbers.nd rfl (Or.inl rfl) (pe_callB (id := "max") (call_max2 rfl) (by rfl) T.n_max (by decide +kernel) (pa_cons (pv 0) (pa_cons (pe_op op_sub (pe_un un_neg pe_int) (pv 0)) pa_nil))))
      (pss_cons (ps_set (i := 4) sc__law_numbers.nd rfl (Or.inl rfl) (pv 3))
      (pss_cons (ps_set (i := 5) sc__law_numbers.nd rfl (Or.inl rfl) (pe_lst pa_nil))
      (pss_cons (ps_for PassesOwn.never rfl (pi_range1 (by rfl) T.n_range (pa_cons (pe_callB (id := "len") call_len_seq (by rfl) T.n_len (by decide +kernel) (pa_cons (pv 2) pa_nil)) pa_nil)) (pg_name (i := 6) sc__law_numbers.nd rfl (Or.inl rfl)) (pss_one (ps_if (PW.pt (pw_and (pt_cmpR op_ge (pv 3) (pe_op op_pow pe_int pe_int) (nomark _)) (pw_and1 (pt_cmpR op_gt (pv 4) pe_int (nomark _))))) (pss_cons (ps_expr (pe_bm PySem.F.plainAttrs_list PySem.F.slot_list_append PySem.F.type_list_append mt_append (pv 5) (pa_cons (pe_op op_mod (pv 4) (pe_ix ix_list (pv 2) (pv 6) (fun _ _ => rfl))) pa_nil)))
      (pss_one (ps_set (i := 4) sc__law_numbers.nd rfl (Or.inl rfl) (pe_op op_fdivW (pv 4) (pe_ix ix_list (pv 2) (pv 6) (fun _ _ => rfl)))))) (pss_cons (ps_set (i := 7) sc__law_numbers.nd rfl (Or.inl rfl) (pe_op op_mod (pe_op op_pow (pe_op op_add (pe_op op_add (pe_op op_mod (pv 3) pe_int) (pe_op op_mul pe_int (pv 1))) pe_int) pe_int) pe_int))
      (pss_cons (ps_set (i := 7) sc__law_numbers.nd rfl (Or.inl rfl) (pe_op op_mod (pe_op op_mul (pe_op op_add (pv 7) (pe_op op_mul pe_int (pe_op op_add (pv 6) pe_int))) (pe_op op_add (pv 6) pe_int)) pe_int))
      (pss_cons (ps_set (i := 7) sc__law_numbers.nd rfl (Or.inl rfl) (pe_op op_mod (pe_op op_mul (pe_op op_mod (pe_op op_pow (pv 7) pe_int) pe_int) pe_int) pe_int))
      (pss_one (ps_expr (pe_bm PySem.F.plainAttrs_list PySem.F.slot_list_append PySem.F.type_list_append mt_append (pv 5) (pa_cons (pe_op op_mod (pe_op op_fdiv (pv 7) pe_int) (pe_ix ix_list (pv 2) (pv 6) (fun _ _ => rfl))) pa_nil))))))))))
      (pss_one (ps_ret (pv 5)))))))), ?_⟩
    refine ⟨_, rfl, _, rfl, _, rfl, _, _, rfl, rfl, _, _, rfl, ?_⟩
    obtain ⟨nu, hnu⟩ : ∃ nu : Int, nu = (if -1 - c > c then -1 - c else c) := ⟨_, rfl⟩
    refine ⟨_, rfl, Nat.zero_le _, fun p hp => ?_⟩
    refine ⟨_, rfl, _, _, rfl, .inl ((Same.new hp).seq hS), _, rfl, ?_, ?_, ?_⟩
    · show -(2 ^ 62) ≤ (((ns.map V.int).length : Nat) : Int)
      omega
    · show (((ns.map V.int).length : Nat) : Int) < 2 ^ 62
      rw [List.length_map]
      omega
    have en : ((((ns.map V.int).length : Nat) : Int)).toNat = ns.length := by rw [List.length_map]; rfl
    rw [en]
    rw [← hnu]
    refine for_range (lo := 0) (n := ns.length) (fun i σ H' => ∃ (l : Int) (kk one : Option V), σ = [some (.int c), some (.int salt), some (.ref a), some (.int nu), some (.int l), some (.ref p), kk, one] ∧
      Same H H' ∧ ∃ ds : List Int, H' p = some (.lst (ds.map V.int)) ∧ Digs (ns.take i) ds) ⟨nu, none, none, rfl, Same.new hp, [], upd_same, .nil⟩ ?_ ?_
    · rintro i σ H' hi ⟨l, kk, one, rfl, sm, ds, hL, hD⟩
      have hz : ns[i]? = some ns[i] := List.getElem?_eq_getElem hi
      obtain ⟨z, ez⟩ : ∃ z, z = ns[i] := ⟨_, rfl⟩
      rw [← ez] at hz
      have zp : 0 < z ∧ z.natAbs.log2 < 9000 := hns z (by rw [ez]; exact List.getElem_mem hi)
      have hS' : SqL K H' a (ns.map V.int) := sm.seq hS
      have hat : atI (ns.map V.int) (0 + (i : Int)) = some (V.int z) := by
        rw [Int.zero_add]
        exact ats (by rw [List.getElem?_map, hz]; rfl)
      have hlen2 : (ds.map V.int).length < sizeLine := by
        rw [List.length_map, ← hD.length, List.length_take]
        exact szl (by omega)
      have keep : ∀ d : Int, Same H (upd H' p (.lst ((ds.map V.int) ++ [V.int d]))) := fun d => Same.mut sm hp
      have hnn : 0 ≤ nu := by
        rw [hnu]
        split <;> omega
      refine ⟨_, rfl, _, _, rfl, rfl, ⟨by decide, by decide, by decide⟩, _, _, rfl, rfl, _, rfl, ite2 (fun c1 => ⟨_, rfl, _, _, rfl, rfl, _, rfl, ite2 (fun c2 => ?A) (fun c2 => ?B1)⟩) (fun c1 => iteF ?B2)⟩
      case A =>
        refine ⟨_, rfl, .inl ⟨rfl, _, SqL.of hL⟩, _, rfl, _, rfl, _, rfl, _, _, _, _, rfl, rfl, hS', hat, _, _, rfl, rfl, zp.1, _, _, _, rfl, rfl, hL, hlen2, ?_⟩
        refine ⟨_, rfl, _, rfl, _, rfl, _, _, _, _, rfl, rfl, (keep _).seq hS, hat, _, _, rfl, rfl, zp, ?_⟩
        exact ⟨_, _, one, rfl, keep _, digs_end hD hz zp.1⟩
      all_goals
        have m1 : 0 ≤ nu % 2147483629 ∧ nu % 2147483629 < 2147483629 := ⟨Int.emod_nonneg _ (by decide), Int.emod_lt_of_pos _ (by decide)⟩
        refine ⟨_, rfl, _, _, rfl, rfl, (by show (0 : Int) < 2147483629; decide), _, rfl, _, _, rfl, rfl, .inl ⟨by decide, by decide⟩, _, _, rfl, rfl, _, _, rfl, rfl, _, _, rfl, rfl, ⟨by decide, by decide, ?_⟩, _, _, rfl, rfl, (by show (0 : Int) < 2147483647; decide), ?_⟩
        · show (nu % 2147483629 + 7919 * salt + 1).natAbs < 2 ^ 64
          omega
        refine ⟨_, rfl, _, rfl, _, _, rfl, rfl, _, _, rfl, rfl, .inl ⟨by decide, by decide⟩, _, _, rfl, rfl, _, rfl, _, _, rfl, rfl, _, _, rfl, rfl, .inl (mulb2 (by omega)), _, _, rfl, rfl, (by show (0 : Int) < 2147483629; decide), ?_⟩
        refine ⟨_, rfl, _, _, rfl, rfl, ⟨by decide, by decide, nab (by decide) (by decide)⟩, _, _, rfl, rfl, (by show (0 : Int) < 2147483647; decide), _, _, rfl, rfl, .inl (mulb (by decide) (by decide)), _, _, rfl, rfl, (by show (0 : Int) < 2147483629; decide), ?_⟩
        refine ⟨_, rfl, .inl ⟨rfl, _, SqL.of hL⟩, _, rfl, _, _, rfl, rfl, ⟨by decide, by decide⟩, _, rfl, _, rfl, _, _, _, _, rfl, rfl, hS', hat, _, _, rfl, rfl, zp.1, _, _, _, rfl, rfl, hL, hlen2, ?_⟩
        exact ⟨_, _, _, rfl, keep _, digs_end hD hz zp.1⟩
    · rintro σ H' ⟨l, kk, one, rfl, sm, ds, hL, hD⟩
      rw [List.take_length] at hD
      exact ⟨_, rfl, k _ p ds sm hp hL hD⟩
end
end Jr
namespace Jr
open PySem PySem.Spec PyProof.Rows L2
section
variable {P : Program} {w : World} {K : PySem.W.Frag} {mg : Str → Option Value} {base : Heap}
/-- a text of at most so many pieces -/
def spWords (K : PySem.W.Frag) : Sp := fun vs H Q _ => ∃ (c salt : Int) (lp : Addr) (ps : List Str) (most : Nat), vs = [.int c, .int salt, .ref lp, .int (most : Nat)] ∧ 0 ≤ salt ∧ salt ≤ 100000 ∧ SqL K H lp (ps.map V.str) ∧ 0 < ps.length ∧ (∀ p ∈ ps, p.length ≤ 16) ∧ most ≤ 100 ∧
  ∀ H' qs, Same H H' → (∀ q ∈ qs, q ∈ ps) → qs.length ≤ most → Q (.str (Txt.join (Str.ofString "") qs)) H'
theorem cal__law_words (T : Tx K mg) : Cal P w K mg base CX0 2 "_law_words" (spWords K) := by
  have C__law_numbers := cal__law_numbers (P := P) (w := w) (base := base) T
  obtain ⟨fd, F⟩ := T.d__law_words
  refine ⟨_, fd, P__law_words, F.ok sc__law_words (fun vs H Q E h => ?_) (fun cdv A outer s H vs Q E hr h => ?_), T.g__law_words, F.kp, F.bindsN (ps := P__law_words) fun _ _ _ _ _ _ us hl => match us, hl with | [_, _, _, _], _ => rfl⟩
  · obtain ⟨c, salt, lp, ps, most, rfl, _⟩ := h
    rfl
  · obtain ⟨c, salt, lp, ps, most, rfl, s0, s1', hP, np, pl, hm, k⟩ := h
    refine ⟨_, (PSs.nox (pss_cons (ps_set (i := 4) sc__law_words.nd rfl (Or.inl rfl) (pe_cal C__law_numbers (by first | exact hr | exact hr.mono (by decide)) (by rfl) (pa_cons (pv 0) (pa_cons (pv 1) (pa_cons (pe_op op_catG (pe_lstG (pa_cons (pe_op op_add (pv 3) pe_int) pa_nil)) (pe_op op_repG (pe_intsAs (ns := [36]) (pe_litI (ns := [36]) (pe_lst (pa_cons pe_int pa_nil)) (fun _ _ _ => rfl) (by decide)) (by decide)) (pv 3))) pa_nil)))))
      (pss_one (ps_ret (pe_join pe_str (pe_lc (own := [("_law_digit", 5)]) (g := gName 5) (by rfl) sc__law_words.nd (pi_list (pe_slice sl_listG (pv 4) (po_some pe_int) (po_some (pe_op op_add pe_int (pe_ix ix_list (pv 4) pe_int (fun _ _ => rfl)))))) (blkOk_by (own := [("_law_digit", 5)]) (N := N__law_words) (sc := defScope s__law_words) (by decide +kernel)) (fun _ _ _ _ _ => (pg_name (i := 5) sc__law_words.nd rfl (Or.inl rfl))) (fun _ _ _ _ _ => pts_nil) (fun _ _ _ _ _ => (pe_ix (ix_listK (K := K)) (pv 2) (pe_op op_mod (pv 5) (pe_callB (id := "len") (call_len_seqK (K := K)) (by rfl) T.n_len (by decide +kernel) (pa_cons (pv 2) pa_nil))) (fun _ _ => rfl))))))))), ?_⟩
    refine ⟨_, rfl, _, rfl, _, rfl, _, _, rfl, rfl, (by show 1 ≤ sizeLine; decide), fun p1 H1 n1 s1 h1 => ?_⟩
    refine fun p2 H2 n2 s2 h2 => ?_
    refine ⟨_, rfl, p2, _, _, rfl, rfl, h2, by omega, by omega, ?_, fun p3 H3 n3 s3 h3 => ?_⟩
    · show 1 * ((most : Nat) : Int).toNat ≤ sizeLine
      exact sz (by omega)
    refine ⟨p1, p3, _, _, rfl, rfl, SqL.of ((s2.trans s3) _ _ h1), SqL.of h3, ?_, fun p4 H4 n4 s4 h4 => ?_⟩
    · show 1 + (List.replicate ((most : Nat) : Int).toNat [V.int 36]).flatten.length ≤ sizeLine
      rw [rep_one, List.length_replicate]
      exact sz (by omega)
    refine ⟨c, salt, p4, [(most : Int) + 1] ++ List.replicate most 36, rfl, s0, s1', SqL.of ?_, ?_, ?_, fun H5 p ds sm hp hL hD => ?_⟩
    · rw [h4]
      show some (HO.lst ([V.int ((most : Int) + 1)] ++ (List.replicate ((most : Nat) : Int).toNat [V.int 36]).flatten)) = _
      rw [rep_one, List.map_append, map_rep, Int.toNat_natCast]; rfl
    · rw [List.length_append, List.length_replicate]
      show 1 + most ≤ 1000
      omega
    · have lg : ∀ x : Int, 0 < x → x ≤ 1000 → 0 < x ∧ x.natAbs.log2 < 9000 := fun x h0 h1 => ⟨h0, by
        have : x.natAbs.log2 < 10 := (Nat.log2_lt (by omega)).mpr (by omega)
        omega⟩
      intro x hx
      rcases List.mem_append.mp hx with hx | hx
      · rw [List.mem_singleton.mp hx]; exact lg _ (by omega) (by omega)
      · rw [(List.mem_replicate.mp hx).2]; exact lg _ (by omega) (by omega)
    have sH := (((s1.trans s2).trans s3).trans s4).trans sm
    obtain ⟨d0, e0, b0⟩ := Paired.get hD (i := 0) (x := (most : Int) + 1) rfl
    have hLq : SqL K H5 p (ds.map V.int) := SqL.of hL
    obtain ⟨n, rfl⟩ := Int.eq_ofNat_of_zero_le b0.1
    have A0 : atI (ds.map V.int) 0 = some (V.int (n : Int)) := atm (f := V.int) e0
    have hn : n ≤ most := by have := b0.2; omega
    refine ⟨⟨_, rfl⟩, ?_⟩
    refine ⟨_, rfl, _, rfl, _, rfl, _, _, _, _, rfl, rfl, hLq, A0, _, _, rfl, rfl, _, rfl, p, _, rfl, hLq, fun q H6 nq s6 hq => ?_⟩
    have ec : cutV (ds.map V.int) (some 1) (some (1 + (n : Int))) = ((ds.drop 1).take n).map V.int := by
      have z : (1 : Int) + (n : Int) = ((1 + n : Nat) : Int) := by omega
      have z2 : 1 + n - 1 = n := by omega
      rw [z, show (some (1 : Int)) = some ((1 : Nat) : Int) from rfl, cutV_mid, z2, List.map_take, List.map_drop]
    rw [ec] at hq
    have posP : (0 : Int) < ((ps.map V.str).length : Nat) := by rw [List.length_map]; omega
    obtain ⟨g, hg⟩ : ∃ g : Int → Str, ∀ d, g d ∈ ps ∧ atI (ps.map V.str) (d % ((ps.map V.str).length : Nat)) = some (V.str (g d)) :=
      ⟨fun d => (mod_at V.str ps np d).choose, fun d => (mod_at V.str ps np d).choose_spec⟩
    have tl : ((ds.drop 1).take n).length ≤ n := by rw [List.length_take]; omega
    refine ⟨q, rfl, ⟨_, SqL.of hq⟩, fun D hD2 => lc_listM (K := K) (item := V.int) (p := fun _ => true) (f := fun d => V.str (g d)) (l := (ds.drop 1).take n) (SqL.of hq) hD2 (by omega) (fun d0 hd0 H2 s2 N M hM _ => ?_) (fun H7 s7 hL2 => ?_)⟩
    · have hP7 := ((sH.trans s6).trans s2).seq hP
      exact ⟨rfl, _, rfl, _, rfl, _, rfl, _, _, rfl, .inl hP7, _, _, rfl, rfl, posP, _, _, _, _, rfl, rfl, hP7, (hg d0).2, hM rfl⟩
    · have ef : ((ds.drop 1).take n).filter (fun _ => true) = (ds.drop 1).take n := List.filter_eq_self.mpr fun _ _ => rfl
      rw [ef] at hL2
      have em : ((ds.drop 1).take n).map (fun d => V.str (g d)) = (((ds.drop 1).take n).map g).map V.str := by rw [List.map_map]; rfl
      rw [em] at hL2
      have inq : ∀ q ∈ ((ds.drop 1).take n).map g, q ∈ ps := fun q hq => by
        obtain ⟨d, _, rfl⟩ := List.mem_map.mp hq
        exact (hg d).1
      have sl := sum_le (((ds.drop 1).take n).map g) 16 fun q hq => pl q (inq q hq)
      rw [List.length_map] at sl
      refine ⟨_, D, ((ds.drop 1).take n).map g, rfl, rfl, .inl (SqL.of hL2), ?_, k _ _ ((sH.trans s6).trans s7) inq (by rw [List.length_map]; omega)⟩
      have e0 : (Str.ofString "").length = 0 := by decide +kernel
      rw [e0]
      omega
end
end Jr
namespace Jr
open PySem PySem.Spec PyProof.Rows L2
theorem join_pcs {z : Str} {rs : Rws} (T : TabOk z rs) {qs : List Str} (h : ∀ q ∈ qs, q ∈ pcs z rs) : TextOf z (Txt.join (Str.ofString "") qs) ∧ (Txt.join (Str.ofString "") qs).length ≤ qs.length * 16 :=
  ⟨join_text fun q hq => pc_text T (h q hq), by rw [join_len]; exact sum_le qs 16 fun q hq => (T.plen (h q hq)).2⟩
theorem passAll_ne : ∀ (rs : Rws) (xs : List Str), xs ≠ [] → passAll rs xs ≠ []
  | [], _, h => h
  | r :: rs, xs, h => passAll_ne rs _ (pass1_ne r.1 r.2 xs h)
theorem sweep_ne {rs : Rws} {t : Str} (h : t ≠ Str.ofString "") : sweep rs t ≠ [] := passAll_ne rs _ fun e => h (str_ext (by
  have e2 : (Str.ofString "").cps.toList = [] := by decide +kernel
  rw [e2]
  unfold sgs at e
  exact List.map_eq_nil_iff.mp e))
theorem ne_str {a b : Str} (h : (!decide (V.str a = V.str b)) = true) : a ≠ b := fun e => by
  rw [e, decide_eq_true rfl] at h
  cases h
end Jr
namespace Jr
open PySem PySem.Spec PyProof.Rows L2
section
variable {P : Program} {w : World} {K : PySem.W.Frag} {mg : Str → Option Value} {base : Heap}
/-- a long text of pieces -/
def spLong (K : PySem.W.Frag) : Sp := fun vs H Q _ => ∃ (ca lp : Addr) (cs : List Int) (salt : Int) (z : Str) (rs : Rws) (most : Nat), vs = [.ref ca, .int salt, .ref lp, .int (most : Nat)] ∧ 0 ≤ salt ∧ salt ≤ 90000 ∧ SqL K H ca (cs.map V.int) ∧ cs.length ≤ 100 ∧ SqL K H lp ((pcs z rs).map V.str) ∧ TabOk z rs ∧
  ∀ H' t, Same H H' → TextOf z t → t.length ≤ most → Q (.str t) H'
theorem cal__law_long (T : Tx K mg) : Cal P w K mg base CX0 3 "_law_long" (spLong K) := by
  have C__law_words := cal__law_words (P := P) (w := w) (base := base) T
  obtain ⟨fd, F⟩ := T.d__law_long
  refine ⟨_, fd, P__law_long, F.ok sc__law_long (fun vs H Q E h => ?_) (fun cdv A outer s H vs Q E hr h => ?_), T.g__law_long, F.kp, F.bindsN (ps := P__law_long) fun _ _ _ _ _ _ us hl => match us, hl with | [_, _, _, _], _ => rfl⟩
  · obtain ⟨ca, lp, cs, salt, z, rs, most, rfl, _⟩ := h
    rfl
  · obtain ⟨ca, lp, cs, salt, z, rs, most, rfl, s0, s1, hC, cl, hP, tk, k⟩ := h
    refine ⟨_, (PSs.nox (pss_cons (ps_set (i := 4) sc__law_long.nd rfl (Or.inl rfl) pe_str)
      (pss_cons (ps_for PassesOwn.never rfl (pi_enum (by rfl) T.n_enumerate (pa_cons (pv 0) pa_nil)) (pg_tup rfl (pgs_cons (pg_name (i := 5) sc__law_long.nd rfl (Or.inl rfl)) (pgs_cons (pg_name (i := 6) sc__law_long.nd rfl (Or.inl rfl)) pgs_nil))) (pss_one (ps_set (i := 4) sc__law_long.nd rfl (Or.inl rfl) (pe_op op_add_str (pv 4) (pe_cal C__law_words (by first | exact hr | exact hr.mono (by decide)) (by rfl) (pa_cons (pv 6) (pa_cons (pe_op op_add (pv 1) (pv 5)) (pa_cons (pv 2) (pa_cons pe_int pa_nil)))))))))
      (pss_one (ps_ret (pe_slice sl_str (pv 4) po_none (po_some (pv 3)))))))), ?_⟩
    have np : 0 < (pcs z rs).length := by rw [pcs_len]; have := tk.n1; omega
    have pl16 : ∀ q ∈ pcs z rs, q.length ≤ 16 := fun q hq => (tk.plen hq).2
    refine ⟨_, rfl, ca, _, rfl, hC, for_enum (K := K) (a := ca) (xs := cs.map V.int) (fun i σ H' => ∃ (t : Str) (u1 u2 : Option V), σ = [some (.ref ca), some (.int salt), some (.ref lp), some (.int (most : Nat)), some (.str t), u1, u2] ∧ Same H H' ∧ TextOf z t ∧ t.length ≤ i * 48)
      ⟨_, _, _, rfl, Same.refl _, text_nil z, by decide +kernel⟩ (fun i σ H' _ ⟨_, _, _, _, s, _⟩ => s.seq hC) ?_ ?_⟩
    · rintro i y e σ H' hi he ⟨t, u1, u2, rfl, sm, tx, tl⟩
      rw [List.getElem?_map] at hi
      cases ed : cs[i]? with
      | none => rw [ed] at hi; cases hi
      | some d =>
        rw [ed] at hi
        cases hi
        have il : i < cs.length := (List.getElem?_eq_some_iff.mp ed).1
        have sm1 := Same.put (o := .tup [.int (i : Nat), .int d]) sm he
        refine ⟨e, _, rfl, SqT.of upd_same, rfl, _, _, rfl, _, _, rfl, rfl, ?_⟩
        revert sm1
        generalize (upd H' e (.tup [.int (i : Nat), .int d])) = H18
        intro sm1
        refine ⟨_, rfl, _, rfl, _, rfl, _, rfl, _, _, rfl, rfl, _, rfl, ?_⟩
        refine ⟨d, _, lp, pcs z rs, 3, rfl, by omega, by omega, sm1.seq hP, np, pl16, by decide, fun H19 qs s19 inq lq => ?_⟩
        obtain ⟨tx2, tl2⟩ := join_pcs tk inq
        refine ⟨_, _, rfl, rfl, sz (by omega), ?_⟩
        refine ⟨_, _, _, rfl, sm1.trans s19, text_app tx tx2, ?_⟩
        rw [app_len, Nat.succ_mul]
        omega
    · rintro σ H' ⟨t, u1, u2, rfl, sm, tx, tl⟩
      rw [List.length_map] at tl
      have : cs.length * 48 ≤ 100 * 48 := Nat.mul_le_mul_right _ cl
      refine ⟨_, rfl, _, rfl, _, rfl, t, rfl, sz (by omega), k _ _ sm (text_to tx most) ?_⟩
      rw [← len_cps, cut_to, List.length_take]
      omega
end
end Jr
namespace Jr
open PySem PySem.Spec PyProof.Rows L2
section
variable {P : Program} {w : World} {K : PySem.W.Frag} {mg : Str → Option Value} {base : Heap}
/-- the pieces, by their numbers -/
def spPiecesT (K : PySem.W.Frag) : Sp := fun vs H Q _ => ∃ (tt p : Addr) (z : Str) (rs : Rws), vs = [.ref tt] ∧ H tt = some (.tup [.str z, .ref p]) ∧ RowsAt H p rs ∧ TabOk z rs ∧
  ∀ H' b, Same H H' → H b = none → H' b = some (.lst ((pcs z rs).map V.str)) → Q (.ref b) H'
theorem cal__law_pieces (T : Tx K mg) : Cal P w K mg base CX0 1 "_law_pieces" (spPiecesT K) := by
  obtain ⟨fd, F⟩ := T.d__law_pieces
  refine ⟨_, fd, P__law_pieces, F.ok sc__law_pieces (fun vs H Q E h => ?_) (fun cdv A outer s H vs Q E hr h => ?_), T.g__law_pieces, F.kp, F.bindsN (ps := P__law_pieces) fun _ _ _ _ _ _ us hl => match us, hl with | [_], _ => rfl⟩
  · obtain ⟨tt, p, z, rs, rfl, _⟩ := h
    rfl
  · obtain ⟨tt, p, z, rs, rfl, htt, ⟨as, hp, hrs⟩, tk, k⟩ := h
    refine ⟨_, (PSs.nox (pss_one (ps_ret (pe_op op_cat (pe_callTy (T := "list") (call_list_str rfl) (by rfl) T.n_list (by decide +kernel) (pa_cons (pe_ix ix_tup (pv 0) pe_int (fun _ _ => rfl)) pa_nil)) (pe_lc (own := [("_law_left", 1), ("_law_right", 2)]) (g := gTup K 2 (gCons (gName 1) (gCons (gName 2) gNil))) (by rfl) sc__law_pieces.nd (pi_list (pe_ix ix_tup (pv 0) pe_int (fun _ _ => rfl))) (blkOk_by (own := [("_law_left", 1), ("_law_right", 2)]) (N := N__law_pieces) (sc := defScope s__law_pieces) (by decide +kernel)) (fun _ _ _ _ _ => (pg_tup rfl (pgs_cons (pg_name (i := 1) sc__law_pieces.nd rfl (Or.inl rfl)) (pgs_cons (pg_name (i := 2) sc__law_pieces.nd rfl (Or.inl rfl)) pgs_nil)))) (fun _ _ _ _ _ => pts_nil) (fun _ _ _ _ _ => (pe_op op_add_str (pv 1) (pv 2)))))))), ?_⟩
    have n12 := tk.n12
    have many := tk.many
    refine ⟨_, rfl, tt, _, _, _, rfl, rfl, SqT.of htt, rfl, z, rfl, sz (by omega), fun l hl => ?_⟩
    have s1 := Same.new (o := .lst ((sgs z).map V.str)) hl
    have hts := TupAt.same s1 hrs
    have hS : SqL K (upd H l (.lst ((sgs z).map V.str))) p ((as.zip rs).map fun x => V.ref x.1) := by
      rw [zip_fst V.ref hrs]
      exact SqL.of (s1 _ _ hp)
    refine ⟨_, rfl, tt, _, _, _, rfl, rfl, SqT.of (s1 _ _ htt), rfl, p, rfl, ⟨_, hS⟩, fun D hD => lc_listM (K := K) (item := fun x : Addr × (Str × Str) => V.ref x.1) (p := fun _ => true) (f := fun x => V.str (jn x.2)) (l := as.zip rs) hS hD ?_ (fun x hx H2 s2 N M hM _ => ?_) (fun H2 s2 hL => ?_)⟩
    · rw [List.length_zip]
      omega
    · obtain ⟨hx1, hx2⟩ := zip_mem hts x hx
      obtain ⟨i, hi, ei⟩ := List.mem_iff_getElem.mp hx2
      have ro := tk.rows i x.2 (by rw [List.getElem?_eq_getElem hi, ei])
      have ll := ro.len
      have le : (jn x.2).length = x.2.1.length + x.2.2.length := app_len _ _
      exact ⟨x.1, _, rfl, SqT.of (s2 _ _ hx1), rfl, _, _, rfl, _, _, rfl, rfl, rfl, _, rfl, _, rfl, _, _, rfl, rfl, sz (by omega), hM rfl⟩
    · have ef : (as.zip rs).filter (fun _ => true) = as.zip rs := List.filter_eq_self.mpr fun _ _ => rfl
      rw [ef, zip_snd (fun r => V.str (jn r)) hrs] at hL
      have hl2 := s2 _ _ (show (upd H l (.lst ((sgs z).map V.str))) l = _ from upd_same)
      have sm := s1.trans s2
      have e : (sgs z).map V.str ++ rs.map (fun r => V.str (jn r)) = (pcs z rs).map V.str := by
        unfold pcs
        rw [List.map_append, List.map_map]; rfl
      refine ⟨l, D, _, _, rfl, rfl, hl2, hL, ?_, fun q hq => ?_⟩
      · rw [List.length_map, List.length_map, sgs_len]; exact sz (by omega)
      · rw [e]
        exact k _ q (Same.put sm hq) (sm.free hq) upd_same
end
end Jr
namespace Jr
open PySem PySem.Spec PyProof.Rows L2
section
variable {P : Program} {w : World} {K : PySem.W.Frag} {mg : Str → Option Value} {base : Heap}
def spCellAt (K : PySem.W.Frag) : Sp := fun vs H Q _ => ∃ (a : Addr) (ns : List Int) (k : Nat), vs = [.ref a, .int (k : Nat)] ∧ SqL K H a (ns.map V.int) ∧ ∀ c : Int, Q (.int c) H
theorem cal__law_cell_at (T : Tx K mg) : Cal P w K mg base CX0 1 "_law_cell_at" (spCellAt K) := by
  obtain ⟨fd, F⟩ := T.d__law_cell_at
  refine ⟨_, fd, P__law_cell_at, F.ok sc__law_cell_at (fun vs H Q E h => ?_) (fun cdv A outer s H vs Q E hr h => ?_), T.g__law_cell_at, F.kp, F.bindsN (ps := P__law_cell_at) fun _ _ _ _ _ _ us hl => match us, hl with | [_, _], _ => rfl⟩
  · obtain ⟨a, ns, i, rfl, _⟩ := h
    rfl
  · obtain ⟨a, ns, i, rfl, hS, k⟩ := h
    refine ⟨_, (PSs.nox (pss_cons (ps_if (pt_cmpR op_lt (pv 1) (pe_callB (id := "len") call_len_seq (by rfl) T.n_len (by decide +kernel) (pa_cons (pv 0) pa_nil)) (nomark _)) (pss_one (ps_ret (pe_ix ix_list (pv 0) (pv 1) (fun _ _ => rfl)))) pss_nil)
      (pss_one (ps_ret pe_int)))), ?_⟩
    refine ⟨_, rfl, _, rfl, _, _, rfl, .inl hS, _, _, rfl, rfl, _, rfl, ite2 (fun c => ?_) (fun c => k 0)⟩
    have c' : i < ns.length := by
      have := of_decide_eq_true c
      rw [List.length_map] at this
      omega
    exact ⟨_, rfl, _, rfl, _, _, _, _, rfl, rfl, hS, atm (f := V.int) (List.getElem?_eq_getElem c'), k _⟩
end
end Jr
namespace Jr
open PySem PySem.Spec PyProof.Rows L2
def some94 : Str := Str.ofString " !\"#$&'()*+,-./0123456789:;<=>?@ABCDEFGHIJKLMNOPQRSTUVWXYZ[\\]^_`" ++ Str.ofString "abcdefghijklmnopqrstuvwxyz{|}~"
theorem some94_len : some94.cps.toList.length = 94 := by decide +kernel
theorem some94_nd : some94.cps.toList.Nodup := by decide +kernel
theorem some94_ok : ∀ c ∈ some94.cps.toList, 32 ≤ c ∧ c ≤ 126 ∧ c ≠ 37 := by decide +kernel
def spSigns (K : PySem.W.Frag) : Sp := fun vs H Q _ => ∃ (a : Addr) (ds : List Int), vs = [.ref a] ∧ SqL K H a (ds.map V.int) ∧ ds.length ≤ 40 ∧ (∀ d ∈ ds, 0 ≤ d ∧ d < 94) ∧
  ∀ H' z, Same H H' → SignsOk z → z.length = ds.length → Q (.str z) H'
section
variable {P : Program} {w : World} {K : PySem.W.Frag} {mg : Str → Option Value} {base : Heap}
theorem cal__law_signs (T : Tx K mg) : Cal P w K mg base CX0 1 "_law_signs" (spSigns K) := by
  obtain ⟨fd, F⟩ := T.d__law_signs
  refine ⟨_, fd, P__law_signs, F.ok sc__law_signs (fun vs H Q E h => ?_) (fun cdv A outer s H vs Q E hr h => ?_), T.g__law_signs, F.kp, F.bindsN (ps := P__law_signs) fun _ _ _ _ _ _ us hl => match us, hl with | [_], _ => rfl⟩
  · obtain ⟨a, ds, rfl, _⟩ := h
    rfl
  · obtain ⟨a, ds, rfl, hS, hlen, hds, k⟩ := h
    refine ⟨_, (PSs.nox (pss_cons (ps_set (i := 1) sc__law_signs.nd rfl (Or.inl rfl) pe_str)
      (pss_cons (ps_set (i := 1) sc__law_signs.nd rfl (Or.inl rfl) (pe_op op_add_str (pv 1) pe_str))
      (pss_cons (ps_set (i := 2) sc__law_signs.nd rfl (Or.inr rfl) pe_str)
      (pss_cons (ps_for PassesOwn.never rfl (pi_list (pv 0)) (pg_name (i := 3) sc__law_signs.nd rfl (Or.inl rfl)) (pss_cons (ps_set (i := 4) sc__law_signs.nd rfl (Or.inl rfl) (pe_op op_add_str (pe_slice sl_str (pv 1) (po_some (pv 3)) po_none) (pe_slice sl_str (pv 1) po_none (po_some (pv 3)))))
      (pss_one (ps_set (i := 2) sc__law_signs.nd rfl (Or.inr rfl) (pe_op op_add_str (pv 2) (pe_ix ix_list (pe_lc (own := [("_law_sign", 5)]) (g := gName 5) (by rfl) sc__law_signs.nd (pi_str (pv 4)) (blkOk_by (own := [("_law_sign", 5)]) (N := N__law_signs) (sc := defScope s__law_signs) (by decide +kernel)) (fun _ _ _ _ _ => (pg_name (i := 5) sc__law_signs.nd rfl (Or.inl rfl))) (fun _ _ _ _ _ => (pts_one (pt_cmpR op_notIn_sign (pv 5) (pv 2) rfl))) (fun _ _ _ _ _ => (pv 5))) pe_int (fun _ _ => rfl)))))))
      (pss_one (ps_ret (pv 2)))))))), ?_⟩
    refine ⟨_, rfl, _, _, rfl, rfl, (by decide +kernel), ?_⟩
    refine ⟨_, rfl, a, rfl, ⟨_, hS⟩, for_list (K := K) (a := a) (xs := ds.map V.int) (fun i σ H' => ∃ (z : Str) (u v x : Option V), σ = [some (.ref a), some (.str some94), some (.str z), u, v, x] ∧ Same H H' ∧ SignsOk z ∧ z.length = i)
      ⟨Str.ofString "", none, none, none, rfl, Same.refl H, ⟨by decide +kernel, by decide +kernel⟩, by decide +kernel⟩ (fun i σ H' _ ⟨_, _, _, _, _, s, _⟩ => s.seq hS) ?_ ?_⟩
    · rintro i y σ H' hi ⟨z, u, v, x, rfl, sm, ok, ez⟩
      have hi2 : i < ds.length := by
        have q := (List.getElem?_eq_some_iff.mp hi).1
        rw [List.length_map] at q
        exact q
      obtain ⟨d, hd, rfl⟩ : ∃ d, d ∈ ds ∧ y = V.int d := by
        rw [List.getElem?_map, List.getElem?_eq_getElem hi2] at hi
        exact ⟨_, List.getElem_mem hi2, (Option.some.inj hi).symm⟩
      obtain ⟨d0, d1⟩ := hds d hd
      obtain ⟨n, rfl⟩ := Int.eq_ofNat_of_zero_le d0
      have hz94 : some94.length ≤ sizeLine := by decide +kernel
      have l94 : some94.length = 94 := by decide +kernel
      have lt : (cutS some94 (some (n : Int)) none).length + (cutS some94 none (some (n : Int))).length = 94 := by
        have e1 := cut_from some94 n
        have e2 := cut_to some94 n
        have l1 := congrArg List.length e1
        have l2 := congrArg List.length e2
        rw [len_cps, List.length_drop, some94_len] at l1
        rw [len_cps, List.length_take, some94_len] at l2
        omega
      refine ⟨_, rfl, _, rfl, _, rfl, _, rfl, hz94, _, rfl, _, rfl, _, rfl, _, rfl, hz94, _, _, rfl, rfl, (by rw [lt]; decide), ?_⟩
      obtain ⟨t, et⟩ : ∃ t : Str, t = cutS some94 (some (n : Int)) none ++ cutS some94 none (some (n : Int)) := ⟨_, rfl⟩
      have tp : t.cps.toList.Perm some94.cps.toList := by
        rw [et, app_cps, cut_from, cut_to]
        exact List.perm_append_comm.trans (List.Perm.of_eq (List.take_append_drop _ _))
      have tl : t.cps.toList.length = 94 := by rw [tp.length_eq, some94_len]
      refine ⟨_, rfl, _, rfl, t, by rw [et], fun D hD => lc_strM (p := fun c => !decide (c ∈ z.cps.toList)) (f := fun c => V.str (sgn c)) hD (by rw [tl]; decide) (fun c _ H2 _ N M hM hN => ?_) (fun H2 sm2 hL => ?_)⟩
      · refine ⟨rfl, _, rfl, _, rfl, _, _, rfl, rfl, _, rfl, ?_⟩
        by_cases hc : c ∈ z.cps.toList
        · rw [decide_eq_true hc]
          exact iteF (hN (by simp [hc]))
        · rw [decide_eq_false hc]
          exact iteT ⟨_, rfl, hM (by simp [hc])⟩
      · have hne : ∃ c r, t.cps.toList.filter (fun c => !decide (c ∈ z.cps.toList)) = c :: r := by
          cases e : t.cps.toList.filter (fun c => !decide (c ∈ z.cps.toList)) with
          | cons c r => exact ⟨c, r, rfl⟩
          | nil =>
            exfalso
            have all : ∀ c ∈ t.cps.toList, c ∈ z.cps.toList := fun c hc => by
              have q := List.filter_eq_nil_iff.mp e c hc
              simpa using q
            have q := pigeon t.cps.toList z.cps.toList (tp.symm.nodup some94_nd) all
            rw [tl, len_cps, ez] at q
            omega
        obtain ⟨c, r, er⟩ := hne
        have hc : c ∈ t.cps.toList ∧ ¬ c ∈ z.cps.toList := by
          have q : c ∈ t.cps.toList.filter (fun c => !decide (c ∈ z.cps.toList)) := by rw [er]; exact List.mem_cons_self
          have q2 := List.mem_filter.mp q
          exact ⟨q2.1, by simpa using q2.2⟩
        rw [er] at hL
        refine ⟨D, _, _, _, rfl, rfl, SqL.of hL, (show atI _ ((0 : Nat) : Int) = _ from ats rfl), _, _, rfl, rfl, ?_, ?_⟩
        · show z.length + 1 ≤ sizeLine
          exact sz (by omega)
        · refine ⟨_, _, _, _, rfl, sm.trans sm2, ⟨?_, ?_⟩, ?_⟩
          · rw [app_cps]
            show (z.cps.toList ++ [c]).Nodup
            rw [List.nodup_append]
            refine ⟨ok.nd, by simp, fun x hx y hy => ?_⟩
            rw [List.mem_singleton] at hy
            rw [hy]
            exact fun e => hc.2 (e ▸ hx)
          · intro x hx
            rw [app_cps] at hx
            rcases List.mem_append.mp hx with hx | hx
            · exact ok.ok x hx
            · have e : x = c := by simpa [sgn] using hx
              rw [e]
              exact some94_ok c (tp.mem_iff.mp hc.1)
          · rw [app_len, ez]; rfl
    · rintro σ H' ⟨z, u, v, x, rfl, sm, ok, ez⟩
      rw [List.length_map] at ez
      exact ⟨_, rfl, k _ z sm ok ez⟩
end
end Jr
namespace Jr
open PySem PySem.Spec PyProof.Rows L2
def spRows (K : PySem.W.Frag) : Sp := fun vs H Q _ => ∃ (z : Str) (a : Addr) (ds : List Int), vs = [.str z, .ref a] ∧ SqL K H a (ds.map V.int) ∧ ds.length ≤ 1000 ∧ SignsOk z ∧ 1 ≤ z.length ∧ z.length ≤ 12 ∧
  ∀ H' p rs, Same H H' → H p = none → RowsAt H' p rs → TabOk z rs → Q (.ref p) H'
section
variable {P : Program} {w : World} {K : PySem.W.Frag} {mg : Str → Option Value} {base : Heap}
theorem cal__law_rows (T : Tx K mg) : Cal P w K mg base CX0 1 "_law_rows" (spRows K) := by
  obtain ⟨fd, F⟩ := T.d__law_rows
  refine ⟨_, fd, P__law_rows, F.ok sc__law_rows (fun vs H Q E h => ?_) (fun cdv A outer s H vs Q E hr h => ?_), T.g__law_rows, F.kp, F.bindsN (ps := P__law_rows) fun _ _ _ _ _ _ us hl => match us, hl with | [_, _], _ => rfl⟩
  · obtain ⟨z, a, ds, rfl, _⟩ := h
    rfl
  · obtain ⟨z, a, ds, rfl, hS, hlen, so, z1, z12, k⟩ := h
    refine ⟨_, (PSs.nox (pss_cons (ps_set (i := 2) sc__law_rows.nd rfl (Or.inl rfl) (pe_callTy (T := "list") (call_list_str rfl) (by rfl) T.n_list (by decide +kernel) (pa_cons (pv 0) pa_nil)))
      (pss_cons (ps_set (i := 3) sc__law_rows.nd rfl (Or.inl rfl) (pe_lst pa_nil))
      (pss_cons (ps_for PassesOwn.never rfl (pi_range1 (by rfl) T.n_range (pa_cons (pe_op op_fdiv (pe_callB (id := "len") call_len_seq (by rfl) T.n_len (by decide +kernel) (pa_cons (pv 1) pa_nil)) pe_int) pa_nil)) (pg_name (i := 4) sc__law_rows.nd rfl (Or.inl rfl)) (pss_cons (ps_set (i := 5) sc__law_rows.nd rfl (Or.inl rfl) (pe_ix ix_list (pv 2) (pe_op op_mod (pe_ix ix_list (pv 1) (pe_op op_mul pe_int (pv 4)) (fun _ _ => rfl)) (pe_callB (id := "len") call_len_seq (by rfl) T.n_len (by decide +kernel) (pa_cons (pv 2) pa_nil))) (fun _ _ => rfl)))
      (pss_cons (ps_set (i := 6) sc__law_rows.nd rfl (Or.inl rfl) (pe_ix ix_list (pv 2) (pe_op op_mod (pe_ix ix_list (pv 1) (pe_op op_add (pe_op op_mul pe_int (pv 4)) pe_int) (fun _ _ => rfl)) (pe_callB (id := "len") call_len_seq (by rfl) T.n_len (by decide +kernel) (pa_cons (pv 2) pa_nil))) (fun _ _ => rfl)))
      (pss_one (ps_if (PW.pt (pw_and (pt_cmpR op_le (pe_callB (id := "len") call_len_str (by rfl) T.n_len (by decide +kernel) (pa_cons (pe_op op_add_str (pv 5) (pv 6)) pa_nil)) pe_int (nomark _)) (pw_and (pt_cmpR op_notIn_seq (pe_op op_add_str (pv 5) (pv 6)) (pv 2) rfl) (pw_and1 (pt_cmpR op_lt (pe_callB (id := "len") call_len_seq (by rfl) T.n_len (by decide +kernel) (pa_cons (pv 3) pa_nil)) pe_int (nomark _)))))) (pss_cons (ps_expr (pe_bm PySem.F.plainAttrs_list PySem.F.slot_list_append PySem.F.type_list_append mt_append (pv 3) (pa_cons (pe_tup (pa_cons (pv 5) (pa_cons (pv 6) pa_nil))) pa_nil)))
      (pss_one (ps_expr (pe_bm PySem.F.plainAttrs_list PySem.F.slot_list_append PySem.F.type_list_append mt_append (pv 2) (pa_cons (pe_op op_add_str (pv 5) (pv 6)) pa_nil))))) pss_nil)))))
      (pss_one (ps_ret (pv 3))))))), ?_⟩
    refine ⟨_, rfl, _, rfl, sz (by omega), fun q hq => ?_⟩
    refine ⟨Nat.zero_le _, fun p hp => ?_⟩
    have hpH : H p = none := by
      by_cases e : p = q
      · rw [e]; exact hq
      · rw [upd_ne e] at hp; exact hp
    have hqp : q ≠ p := fun e => by
      rw [← e, upd_same] at hp
      cases hp
    have s0 : Same H (upd (upd H q (.lst ((sgs z).map V.str))) p (.lst [])) := Same.mut (Same.new hq) hpH
    refine ⟨_, rfl, _, _, rfl, .inl (s0.seq hS), _, _, rfl, rfl, ⟨by decide, by decide⟩, _, rfl, ?_, ?_, ?_⟩
    · show -(2 ^ 62) ≤ (((ds.map V.int).length : Nat) : Int) / 2
      omega
    · show (((ds.map V.int).length : Nat) : Int) / 2 < 2 ^ 62
      rw [List.length_map]
      omega
    have en : ((((ds.map V.int).length : Nat) : Int) / 2).toNat = ds.length / 2 := by rw [List.length_map]; omega
    show ∃ W, _
    refine for_range (lo := 0) (n := ((((ds.map V.int).length : Nat) : Int) / 2).toNat) (fun i σ H' => ∃ (rs : Rws) (u v x : Option V), σ = [some (.str z), some (.ref a), some (.ref q), some (.ref p), u, v, x] ∧
      Same H H' ∧ H' q = some (.lst ((pcs z rs).map V.str)) ∧ RowsAt H' p rs ∧ TabOk z rs) ⟨[], none, none, none, rfl, s0, ?_, ⟨[], upd_same, .nil⟩, TabOk.nil so z1 z12⟩ ?_ ?_
    · rw [upd_ne hqp, upd_same]
      unfold pcs
      rw [List.map_nil, List.append_nil]
    · rintro i σ H' hi ⟨rs, u, v, x, rfl, sm, hq', ⟨as, hp', hrs⟩, tk⟩
      rw [en] at hi
      have hS' := sm.seq hS
      have pl : (pcs z rs).length = z.length + rs.length := pcs_len z rs
      have plm : ((pcs z rs).map V.str).length = z.length + rs.length := by rw [List.length_map, pl]
      have many := tk.many
      have dig : ∀ j : Nat, j < ds.length → ∃ d, atI (ds.map V.int) (j : Int) = some (V.int d) := fun j hj => ⟨ds[j], atm (List.getElem?_eq_getElem hj)⟩
      have pce : ∀ d : Int, ∃ x, x ∈ pcs z rs ∧ atI ((pcs z rs).map V.str) (d % (((pcs z rs).map V.str).length : Nat)) = some (V.str x) := fun d => by
        have h0 := Int.emod_nonneg d (show ((((pcs z rs).map V.str).length : Nat) : Int) ≠ 0 by omega)
        have h1 := Int.emod_lt_of_pos d (show (0 : Int) < (((pcs z rs).map V.str).length : Nat) by omega)
        obtain ⟨m, hm⟩ := Int.eq_ofNat_of_zero_le h0
        rw [hm]
        have hm2 : m < (pcs z rs).length := by omega
        exact ⟨(pcs z rs)[m], List.getElem_mem hm2, atm (List.getElem?_eq_getElem hm2)⟩
      have e1 : (2 : Int) * (0 + (i : Int)) = ((2 * i : Nat) : Int) := by omega
      have e2 : (2 : Int) * (0 + (i : Int)) + 1 = ((2 * i + 1 : Nat) : Int) := by omega
      obtain ⟨d1, hd1⟩ := dig (2 * i) (by omega)
      obtain ⟨d2, hd2⟩ := dig (2 * i + 1) (by omega)
      obtain ⟨x1, m1, a1⟩ := pce d1
      obtain ⟨x2, m2, a2⟩ := pce d2
      rw [← e1] at hd1
      rw [← e2] at hd2
      have pos : (0 : Int) < (((pcs z rs).map V.str).length : Nat) := by omega
      refine ⟨_, rfl, _, rfl, _, rfl, _, _, rfl, rfl, .inl ⟨by decide, by decide⟩, _, _, _, _, rfl, rfl, hS', hd1, _, rfl, _, _, rfl, .inl (SqL.of hq'), _, _, rfl, rfl, pos, _, _, _, _, rfl, rfl, SqL.of hq', a1, ?_⟩
      refine ⟨_, rfl, _, rfl, _, rfl, _, _, rfl, rfl, .inl ⟨by decide, by decide⟩, _, _, rfl, rfl, _, _, _, _, rfl, rfl, hS', hd2, _, rfl, _, _, rfl, .inl (SqL.of hq'), _, _, rfl, rfl, pos, _, _, _, _, rfl, rfl, SqL.of hq', a2, ?_⟩
      have l1 := tk.plen m1
      have l2 := tk.plen m2
      have la := app_len x1 x2
      have stay : ∀ {u' v' x' : Option V}, ∃ (rs : Rws) (u v x : Option V), [some (V.str z), some (.ref a), some (.ref q), some (.ref p), u', v', x'] = [some (.str z), some (.ref a), some (.ref q), some (.ref p), u, v, x] ∧
          Same H H' ∧ H' q = some (.lst ((pcs z rs).map V.str)) ∧ RowsAt H' p rs ∧ TabOk z rs := ⟨rs, _, _, _, rfl, sm, hq', ⟨as, hp', hrs⟩, tk⟩
      refine ⟨_, rfl, _, rfl, _, _, rfl, rfl, sz (by omega), _, rfl, sz (by omega), _, _, rfl, rfl, _, rfl, ite2 (fun c1 => ?_) (fun c1 => iteF stay)⟩
      refine ⟨_, rfl, _, rfl, _, _, rfl, rfl, sz (by omega), _, rfl, _, _, rfl, .inl (SqL.of hq'), rfl, flat_str _, _, rfl, ?_⟩
      show if (!inV (V.str (x1 ++ x2)) ((pcs z rs).map V.str)) = true then _ else _
      rw [inV_str]
      refine ite2 (fun c2 => ?_) (fun c2 => iteF stay)
      have c2' : ¬ (x1 ++ x2) ∈ pcs z rs := by simpa using c2
      refine ⟨_, rfl, _, _, rfl, .inl (SqL.of hp'), _, _, rfl, rfl, _, rfl, ite2 (fun c3 => ?_) (fun c3 => stay)⟩
      have c3' : rs.length < 24 := by
        have q1 := of_decide_eq_true c3
        rw [List.length_map, Paired.len hrs] at q1
        omega
      have c1' : (x1 ++ x2).length ≤ 16 := by
        have q1 := of_decide_eq_true c1
        omega
      refine ⟨_, rfl, .inl ⟨rfl, _, SqL.of hp'⟩, _, rfl, _, rfl, (by show 2 ≤ sizeLine; decide), fun t ht => ?_⟩
      have tp : t ≠ p := fun e => by rw [e, hp'] at ht; cases ht
      have tq : t ≠ q := fun e => by rw [e, hq'] at ht; cases ht
      have tH : H t = none := sm.free ht
      refine ⟨_, _, _, rfl, rfl, (by rw [upd_ne (Ne.symm tp)]; exact hp'), ?_, ?_⟩
      · rw [List.length_map, Paired.len hrs]
        exact szl (by omega)
      refine ⟨_, rfl, .inl ⟨rfl, _, SqL.of (show upd _ _ _ q = _ by rw [upd_ne hqp, upd_ne (Ne.symm tq)]; exact hq')⟩, _, rfl, _, rfl, _, _, rfl, rfl, sz (by omega), _, _, _, rfl, rfl, (by rw [upd_ne hqp, upd_ne (Ne.symm tq)]; exact hq'), szl (by omega), ?_⟩
      have ro : RowOk z rs (x1, x2) := ⟨m1, m2, c1', c2'⟩
      refine ⟨rs ++ [(x1, x2)], _, _, _, rfl, Same.mut (Same.mut (Same.put sm ht) hpH) hq, ?_, ⟨as ++ [t], ?_, ?_⟩, tk.snoc ro c3'⟩
      · rw [upd_same, pcs_snoc, List.map_append]
        rfl
      · rw [upd_ne (Ne.symm hqp), upd_same, List.map_append]
        rfl
      · refine Paired.snoc ?_ ?_
        · refine L2.Paired.mapP hrs fun b r hb => ?_
          show upd _ _ _ b = _
          have b1 : b ≠ q := fun e => by
            have hb2 : H' b = _ := hb
            rw [e, hq'] at hb2; cases hb2
          have b2 : b ≠ p := fun e => by
            have hb2 : H' b = _ := hb
            rw [e, hp'] at hb2; cases hb2
          rw [upd_ne b1, upd_ne b2, upd_ne (ne_of_none hb ht)]
          exact hb
        · show upd _ _ _ t = _
          rw [upd_ne tq, upd_ne tp, upd_same]
    · rintro σ H' ⟨rs, u, v, x, rfl, sm, hq', hp', tk⟩
      exact ⟨_, rfl, k _ p rs sm hpH hp' tk⟩
end
end Jr
namespace Jr
open PySem PySem.Spec PyProof.Rows L2
/-- a tuple of signs and rows -/
def spLTable (K : PySem.W.Frag) : Sp := fun vs H Q _ => ∃ (c salt : Int) (most : Nat), vs = [.int c, .int salt, .int most] ∧ 0 ≤ salt ∧ salt ≤ 100000 ∧ most ≤ 100 ∧
  ∀ H' t p z rs, Same H H' → H' t = some (.tup [.str z, .ref p]) → H p = none → RowsAt H' p rs → TabOk z rs → Q (.ref t) H'
def szs (most : Nat) : List Int := [4, 12, 3, 4, 4, (most : Int) + 1] ++ List.replicate 12 94 ++ List.replicate (2 * most) 36
theorem szs_ok (most : Nat) (h : most ≤ 100) : ∀ z ∈ szs most, 0 < z ∧ z.natAbs.log2 < 9000 := by
  have lg : ∀ z : Int, 0 < z → z ≤ 1000 → 0 < z ∧ z.natAbs.log2 < 9000 := fun z h0 h1 => ⟨h0, by
    have : z.natAbs.log2 < 10 := (Nat.log2_lt (by omega)).mpr (by omega)
    omega⟩
  intro z hz
  unfold szs at hz
  rcases List.mem_append.mp hz with hz | hz
  · rcases List.mem_append.mp hz with hz | hz
    · simp only [List.mem_cons, List.not_mem_nil, or_false] at hz
      rcases hz with rfl | rfl | rfl | rfl | rfl | rfl <;> exact lg _ (by omega) (by omega)
    · rw [(List.mem_replicate.mp hz).2]; exact lg _ (by omega) (by omega)
  · rw [(List.mem_replicate.mp hz).2]; exact lg _ (by omega) (by omega)
section
variable {P : Program} {w : World} {K : PySem.W.Frag} {mg : Str → Option Value} {base : Heap}
theorem cal__law_table (T : Tx K mg) : Cal P w K mg base CX0 2 "_law_table" (spLTable K) := by
  have C__law_numbers := cal__law_numbers (P := P) (w := w) (base := base) T
  have C__law_signs := cal__law_signs (P := P) (w := w) (base := base) T
  have C__law_rows := cal__law_rows (P := P) (w := w) (base := base) T
  obtain ⟨fd, F⟩ := T.d__law_table
  refine ⟨_, fd, P__law_table, F.ok sc__law_table (fun vs H Q E h => ?_) (fun cdv A outer s H vs Q E hr h => ?_), T.g__law_table, F.kp, F.bindsN (ps := P__law_table) fun _ _ _ _ _ _ us hl => match us, hl with | [_, _, _], _ => rfl⟩
  · obtain ⟨c, salt, most, rfl, _⟩ := h
    rfl
  · obtain ⟨c, salt, most, rfl, s0, s1, hm, k⟩ := h
    refine ⟨_, (PSs.nox (pss_cons (ps_set (i := 3) sc__law_table.nd rfl (Or.inl rfl) (pe_cal C__law_numbers (by first | exact hr | exact hr.mono (by decide)) (by rfl) (pa_cons (pv 0) (pa_cons (pv 1) (pa_cons (pe_op op_cat (pe_op op_cat (pe_lst (pa_cons pe_int (pa_cons pe_int (pa_cons pe_int (pa_cons pe_int (pa_cons pe_int (pa_cons (pe_op op_add (pv 2) pe_int) pa_nil))))))) (pe_op op_rep (pe_lst (pa_cons pe_int pa_nil)) pe_int)) (pe_op op_rep (pe_lst (pa_cons pe_int pa_nil)) (pe_op op_mul pe_int (pv 2)))) pa_nil)))))
      (pss_cons (ps_set (i := 4) sc__law_table.nd rfl (Or.inl rfl) (pe_op op_add pe_int (pe_ix ix_list (pe_lst (pa_cons (pe_ix ix_list (pv 3) pe_int (fun _ _ => rfl)) (pa_cons (pe_ix ix_list (pv 3) pe_int (fun _ _ => rfl)) (pa_cons (pe_ix ix_list (pv 3) pe_int (fun _ _ => rfl)) (pa_cons (pe_ix ix_list (pv 3) pe_int (fun _ _ => rfl)) pa_nil))))) (pe_ix ix_list (pv 3) pe_int (fun _ _ => rfl)) (fun _ _ => rfl))))
      (pss_cons (ps_set (i := 5) sc__law_table.nd rfl (Or.inl rfl) (pe_cal C__law_signs (by first | exact hr | exact hr.mono (by decide)) (by rfl) (pa_cons (pe_slice sl_list (pv 3) (po_some pe_int) (po_some (pe_op op_add pe_int (pv 4)))) pa_nil)))
      (pss_cons (ps_set (i := 6) sc__law_table.nd rfl (Or.inl rfl) (pe_cal C__law_rows (by first | exact hr | exact hr.mono (by decide)) (by rfl) (pa_cons (pv 5) (pa_cons (pe_slice sl_list (pv 3) (po_some pe_int) po_none) pa_nil))))
      (pss_cons (ps_if (pt_cmpR op_eq (pe_ix ix_list (pv 3) pe_int (fun _ _ => rfl)) pe_int (nomark _)) (pss_one (ps_set (i := 6) sc__law_table.nd rfl (Or.inl rfl) (pe_slice sl_list (pv 6) po_none (po_some (pe_ix ix_list (pv 3) pe_int (fun _ _ => rfl)))))) pss_nil)
      (pss_one (ps_ret (pe_tup (pa_cons (pv 5) (pa_cons (pv 6) pa_nil))))))))))), ?_⟩
    refine ⟨_, rfl, _, rfl, _, rfl, _, _, rfl, rfl, (by show 6 ≤ sizeLine; decide), fun p1 h1 => ?_⟩
    refine ⟨(by show 1 ≤ sizeLine; decide), fun p2 h2 => ⟨_, _, _, rfl, rfl, upd_same, by decide, by decide, by decide, fun p3 h3 => ?_⟩⟩
    have q1 := Same.new (o := .lst (List.replicate (12 : Int).toNat [V.int 94]).flatten) h3 _ _ (Same.new (o := .lst [V.int 94]) h2 p1 _ upd_same)
    refine ⟨_, _, _, _, rfl, rfl, q1, upd_same, ?_, fun p4 h4 => ?_⟩
    · rw [rep_one, List.length_replicate]
      show 6 + 12 ≤ sizeLine
      decide
    refine ⟨(by show 1 ≤ sizeLine; decide), fun p5 h5 => ⟨_, rfl, _, _, rfl, rfl, .inl ⟨by decide, by decide⟩, _, _, _, rfl, rfl, upd_same, ?_, ?_, ?_, fun p6 h6 => ?_⟩⟩
    · omega
    · omega
    · show 1 * ((2 : Int) * (most : Int)).toNat ≤ sizeLine
      exact sz (by omega)
    have em : ((2 : Int) * (most : Int)).toNat = 2 * most := by omega
    refine ⟨_, _, _, _, rfl, rfl, Same.new h6 _ _ (Same.new h5 _ _ upd_same), upd_same, ?_, fun p7 h7 => ?_⟩
    · rw [rep_one, rep_one, List.length_append, List.length_replicate, List.length_replicate, em]
      show 6 + 12 + 2 * most ≤ sizeLine
      exact sz (by omega)
    refine ⟨c, salt, p7, szs most, rfl, s0, s1, SqL.of ?_, ?_, szs_ok most hm, fun H1 p ds sm hp hL hD => ?_⟩
    · rw [upd_same]
      unfold szs
      rw [rep_one, rep_one, em, List.map_append, List.map_append, map_rep, map_rep]
      rfl
    · unfold szs
      rw [List.length_append, List.length_append, List.length_replicate, List.length_replicate]
      show 6 + 12 + 2 * most ≤ 1000
      omega
    have sH := (((((((Same.new h1).trans (Same.new h2)).trans (Same.new h3)).trans (Same.new h4)).trans (Same.new h5)).trans (Same.new h6)).trans (Same.new h7)).trans sm
    have dl : ds.length = 18 + 2 * most := by
      rw [← Paired.len hD]
      unfold szs
      rw [List.length_append, List.length_append, List.length_replicate, List.length_replicate]
      rfl
    obtain ⟨d0, e0, b0⟩ := Paired.get hD (i := 0) (x := 4) rfl
    obtain ⟨d1, e1, b1⟩ := Paired.get hD (i := 1) (x := 12) rfl
    obtain ⟨d2, e2, b2⟩ := Paired.get hD (i := 2) (x := 3) rfl
    obtain ⟨d3, e3, b3⟩ := Paired.get hD (i := 3) (x := 4) rfl
    obtain ⟨d4, e4, b4⟩ := Paired.get hD (i := 4) (x := 4) rfl
    obtain ⟨d5, e5, b5⟩ := Paired.get hD (i := 5) (x := (most : Int) + 1) rfl
    have hLq : SqL K H1 p (ds.map V.int) := SqL.of hL
    have A0 : atI (ds.map V.int) 0 = some (V.int d0) := atm (f := V.int) e0
    have A1 : atI (ds.map V.int) 1 = some (V.int d1) := atm (f := V.int) e1
    have A2 : atI (ds.map V.int) 2 = some (V.int d2) := atm (f := V.int) e2
    have A3 : atI (ds.map V.int) 3 = some (V.int d3) := atm (f := V.int) e3
    have A4 : atI (ds.map V.int) 4 = some (V.int d4) := atm (f := V.int) e4
    have A5 : atI (ds.map V.int) 5 = some (V.int d5) := atm (f := V.int) e5
    obtain ⟨m, hm1, hm12, Am⟩ : ∃ m : Nat, m < 12 ∧ True ∧ atI [V.int d2, V.int d2, V.int d3, V.int d1] d0 = some (V.int (m : Int)) := by
      obtain ⟨j, rfl⟩ := Int.eq_ofNat_of_zero_le b0.1
      obtain ⟨m1, rfl⟩ := Int.eq_ofNat_of_zero_le b1.1
      obtain ⟨m2, rfl⟩ := Int.eq_ofNat_of_zero_le b2.1
      obtain ⟨m3, rfl⟩ := Int.eq_ofNat_of_zero_le b3.1
      have hj : j = 0 ∨ j = 1 ∨ j = 2 ∨ j = 3 := by omega
      rcases hj with rfl | rfl | rfl | rfl
      · exact ⟨m2, by omega, trivial, ats rfl⟩
      · exact ⟨m2, by omega, trivial, ats rfl⟩
      · exact ⟨m3, by omega, trivial, ats rfl⟩
      · exact ⟨m1, by omega, trivial, ats rfl⟩
    refine ⟨_, rfl, _, _, _, _, rfl, rfl, hLq, A2, _, rfl, _, _, _, _, rfl, rfl, hLq, A2, _, rfl, _, _, _, _, rfl, rfl, hLq, A3, _, rfl, _, _, _, _, rfl, rfl, hLq, A1, (by show 4 ≤ sizeLine; decide), fun p8 h8 => ?_⟩
    have s8 := Same.new (o := .lst [V.int d2, V.int d2, V.int d3, V.int d1]) h8
    refine ⟨_, rfl, _, _, _, _, rfl, rfl, s8.seq hLq, A0, _, _, _, _, rfl, rfl, SqL.of upd_same, Am, _, _, rfl, rfl, ?_⟩
    refine ⟨_, rfl, _, rfl, _, rfl, _, _, rfl, rfl, _, rfl, _, _, rfl, s8.seq hLq, fun p9 h9 => ?_⟩
    have s9 := s8.trans (Same.new (o := .lst (cutV (ds.map V.int) (some 6) (some (6 + (1 + (m : Int)))))) h9)
    have ec : cutV (ds.map V.int) (some 6) (some (6 + (1 + (m : Int)))) = ((ds.drop 6).take (m + 1)).map V.int := by
      have z : (6 : Int) + (1 + (m : Int)) = ((7 + m : Nat) : Int) := by omega
      have z2 : 7 + m - 6 = m + 1 := by omega
      rw [z, show (some (6 : Int)) = some ((6 : Nat) : Int) from rfl, cutV_mid, z2, List.map_take, List.map_drop]
    refine ⟨p9, (ds.drop 6).take (m + 1), rfl, SqL.of (by rw [upd_same, ec]), ?_, ?_, fun H2 z sm2 ok ez => ?_⟩
    · rw [List.length_take]; omega
    · intro d hd
      have nsd : ((szs most).drop 6).take (m + 1) = List.replicate (m + 1) 94 := by
        unfold szs
        rw [List.append_assoc]
        show (List.replicate 12 (94 : Int) ++ List.replicate (2 * most) (36 : Int)).take (m + 1) = _
        rw [List.take_append_of_le_length (by rw [List.length_replicate]; omega), List.take_replicate, Nat.min_eq_left (by omega)]
      have hP := Paired.tk (m + 1) (Paired.dr 6 hD)
      rw [nsd] at hP
      obtain ⟨x, hx, b⟩ := Paired.mem2 hP hd
      rw [(List.mem_replicate.mp hx).2] at b
      exact b
    have z1 : z.length = m + 1 := by
      rw [ez, List.length_take, List.length_drop, dl]
      omega
    have s2 := s9.trans sm2
    refine ⟨_, rfl, _, rfl, _, rfl, _, _, rfl, s2.seq hLq, fun p10 h10 => ?_⟩
    have s10 := s2.trans (Same.new (o := .lst (cutV (ds.map V.int) (some 18) none)) h10)
    refine ⟨z, p10, ds.drop 18, rfl, SqL.of ?_, ?_, ok, by omega, by omega, fun H3 pr rs sm3 hpr hr3 tk => ?_⟩
    · rw [upd_same, show (some (18 : Int)) = some ((18 : Nat) : Int) from rfl, cutV_from, List.map_drop]
    · rw [List.length_drop]; omega
    have s3 := s10.trans sm3
    have sT := sH.trans s3
    refine ⟨_, rfl, _, _, _, _, rfl, rfl, s3.seq hLq, A4, rfl, _, rfl, ite2 (fun c1 => ?_) (fun c1 => ?_)⟩
    · refine ⟨_, rfl, _, rfl, _, _, _, _, rfl, rfl, s3.seq hLq, A5, _, rfl, ?_⟩
      obtain ⟨as, ha, hrs⟩ := hr3
      refine ⟨_, _, rfl, SqL.of ha, fun p11 h11 => ?_⟩
      obtain ⟨j, rfl⟩ := Int.eq_ofNat_of_zero_le b5.1
      have s11 := Same.new (o := .lst (cutV (as.map V.ref) none (some (j : Int)))) h11
      refine ⟨_, rfl, _, rfl, (by show 2 ≤ sizeLine; decide), fun t ht => ?_⟩
      have s12 := s11.trans (Same.new (o := .tup [V.str z, V.ref p11]) ht)
      refine k _ t p11 z (rs.take j) (sT.trans s12) upd_same (sT.free h11) ⟨as.take j, ?_, TupAt.same s12 (Paired.tk j hrs)⟩ (tk.take j)
      refine (Same.new ht) _ _ ?_
      rw [upd_same, cutV_to, List.map_take]
    · refine ⟨_, rfl, _, rfl, (by show 2 ≤ sizeLine; decide), fun t ht => ?_⟩
      refine k _ t pr z rs (sT.trans (Same.new ht)) upd_same ?_ (hr3.same (Same.new ht)) tk
      exact (sH.trans s10).free hpr
end
end Jr
namespace Jr
open PySem PySem.Spec PyProof.Rows L2
/-! ### text * number -/
theorem fold_mem (a : Array Nat) : ∀ (k : Nat) (acc : Array Nat) (c : Nat), c ∈ ((List.replicate k a).foldl (· ++ ·) acc).toList → c ∈ acc.toList ∨ c ∈ a.toList
  | 0, _, _, h => .inl h
  | k + 1, acc, c, h => by
    rw [List.replicate_succ, List.foldl_cons] at h
    rcases fold_mem a k (acc ++ a) c h with e | e
    · rw [Array.toList_append] at e
      exact List.mem_append.mp e
    · exact .inr e
theorem mul_mem (x : Str) (n : Int) (c : Nat) (h : c ∈ (Txt.mul x n).cps.toList) : c ∈ x.cps.toList := by
  unfold Txt.mul at h
  split at h
  · cases h
  · split at h
    · exact h
    · rcases fold_mem _ _ _ c h with e | e
      · cases e
      · exact e
theorem op_mul_str {X : Cx} : OpR X (binaryOp .Mult) (fun x y H Q => ∃ (a : Str) (n : Int), x = .str a ∧ y = .int n ∧ 1 ≤ n ∧ n ≤ 100 ∧ a.length ≤ 1000 ∧ ∀ t : Str, (∀ c ∈ t.cps.toList, c ∈ a.cps.toList) → t.length ≤ a.length * n.toNat → Q (.str t) H) := by
  intro pins s σ H x y v u Q I rx ry h
  obtain ⟨a, n, rfl, rfl, h1, h2, h3, q⟩ := h
  obtain ⟨t, rfl⟩ := rx
  obtain ⟨t', rfl⟩ := ry
  refine SB.mul ⟨?_, fun _ _ => ?_, fun _ _ => ?_⟩ (fun t' k => ⟨.str (Txt.mul a n), H, I.tok _, ⟨_, rfl⟩, q _ (mul_mem a n) ?_⟩)
  · have e1 : ¬ n < -(2 ^ 63 : Int) := by omega
    have e2 : ¬ n ≥ (2 ^ 63 : Int) := by omega
    rw [decide_eq_false e1, decide_eq_false e2]; rfl
  · have := Int.le_ediv_of_mul_le (show (0 : Int) < n by omega) (show (1000 : Int) * n ≤ 2 ^ 63 - 1 by omega)
    omega
  · have : a.length * n.toNat ≤ 1000 * 100 := Nat.mul_le_mul h3 (by omega)
    have z : a.length * n.toNat ≤ sizeLine := sz this
    show decide (a.length * n.toNat > sizeLine) = false
    exact decide_eq_false (by omega)
  · have e := len_mul a n
    rw [if_neg (by simp; omega)] at e
    obtain ⟨m, rfl⟩ := Int.eq_ofNat_of_zero_le (show (0 : Int) ≤ n by omega)
    rw [Int.toNat_natCast]
    have e2 : ((Txt.mul a (m : Int)).length : Int) = ((a.length * m : Nat) : Int) := by rw [e, Int.natCast_mul]
    omega
/-- the same, with the length told -/
theorem op_mul_strE {X : Cx} : OpR X (binaryOp .Mult) (fun x y H Q => ∃ (a : Str) (n : Int), x = .str a ∧ y = .int n ∧ 1 ≤ n ∧ n ≤ 100 ∧ a.length ≤ 1000 ∧ ∀ t : Str, (∀ c ∈ t.cps.toList, c ∈ a.cps.toList) → t.length = a.length * n.toNat → Q (.str t) H) := by
  intro pins s σ H x y v u Q I rx ry h
  obtain ⟨a, n, rfl, rfl, h1, h2, h3, q⟩ := h
  obtain ⟨t, rfl⟩ := rx
  obtain ⟨t', rfl⟩ := ry
  refine SB.mul ⟨?_, fun _ _ => ?_, fun _ _ => ?_⟩ (fun t' k => ⟨.str (Txt.mul a n), H, I.tok _, ⟨_, rfl⟩, q _ (mul_mem a n) ?_⟩)
  · have e1 : ¬ n < -(2 ^ 63 : Int) := by omega
    have e2 : ¬ n ≥ (2 ^ 63 : Int) := by omega
    rw [decide_eq_false e1, decide_eq_false e2]; rfl
  · have := Int.le_ediv_of_mul_le (show (0 : Int) < n by omega) (show (1000 : Int) * n ≤ 2 ^ 63 - 1 by omega)
    omega
  · have : a.length * n.toNat ≤ 1000 * 100 := Nat.mul_le_mul h3 (by omega)
    have z : a.length * n.toNat ≤ sizeLine := sz this
    show decide (a.length * n.toNat > sizeLine) = false
    exact decide_eq_false (by omega)
  · have e := len_mul a n
    rw [if_neg (by simp; omega)] at e
    obtain ⟨m, rfl⟩ := Int.eq_ofNat_of_zero_le (show (0 : Int) ≤ n by omega)
    rw [Int.toNat_natCast]
    have e2 : ((Txt.mul a (m : Int)).length : Int) = ((a.length * m : Nat) : Int) := by rw [e, Int.natCast_mul]
    omega
end Jr
namespace Jr
open PySem PySem.Spec PyProof.Rows L2
/-! ### what the laws' heads share -/
theorem cells_eq (ns ms : List Int) : cutV (ns.map V.int ++ ms.map V.int) none (some 63) = ((ns ++ ms).take 63).map V.int := by
  rw [show (some (63 : Int)) = some ((63 : Nat) : Int) from rfl, cutV_to, List.map_take, List.map_append]
theorem rest_eq (cs : List Int) : cutV (cs.map V.int) (some 1) none = (cs.drop 1).map V.int := by
  rw [show (some (1 : Int)) = some ((1 : Nat) : Int) from rfl, cutV_from, List.map_drop]
theorem sizes_ok {ns : List Int} (h : ns.all (fun z => decide (0 < z) && decide (z ≤ 1000000)) = true) : ∀ z ∈ ns, 0 < z ∧ z.natAbs.log2 < 9000 := fun z hz => by
  have := List.all_eq_true.mp h z hz
  simp only [Bool.and_eq_true, decide_eq_true_eq] at this
  refine ⟨this.1, ?_⟩
  have : z.natAbs.log2 < 20 := (Nat.log2_lt (by omega)).mpr (by omega)
  omega
/-- a digit, by its place -/
theorem dig {ns ds : List Int} (h : Paired (fun z d => 0 ≤ d ∧ d < z) ns ds) {j : Nat} {z : Int} (hz : ns[j]? = some z) : ∃ n : Nat, ds[j]? = some (n : Int) ∧ (n : Int) < z ∧ atI (ds.map V.int) (j : Int) = some (V.int (n : Int)) := by
  obtain ⟨d, e, b⟩ := Paired.get h hz
  obtain ⟨n, rfl⟩ := Int.eq_ofNat_of_zero_le b.1
  exact ⟨n, e, b.2, atm (f := V.int) e⟩
theorem cut_mid (xs : List Int) (a b : Nat) : cutV (xs.map V.int) (some (a : Int)) (some (b : Int)) = ((xs.drop a).take (b - a)).map V.int := by
  rw [cutV_mid, List.map_take, List.map_drop]
end Jr
namespace Jr
open PySem PySem.Spec PyProof.Rows L2
/-! ### what is to undo: the ways back, the texts ahead -/
structure Ent where
  pl : Nat
  gn : Nat
  put : Str
  old : Str
structure EntOk (z : Str) (most : Nat) (t : Str) (e : Ent) : Prop where
  pl : e.pl ≤ t.length
  gn : e.gn ≤ t.length - e.pl
  len : e.put.length ≤ most
  tx : TextOf z e.put
  eq : chgT t e.pl e.gn e.put = e.old
  ol : e.old.length ≤ most
inductive Stk (z : Str) (most : Nat) (first : Str) : List Ent → Str → Prop
  | nil : Stk z most first [] first
  | snoc {es : List Ent} {e : Ent} {t : Str} : Stk z most first es e.old → EntOk z most t e → Stk z most first (es ++ [e]) t
theorem Stk.last {z : Str} {most : Nat} {first t : Str} {es : List Ent} {e : Ent} (h : Stk z most first (es ++ [e]) t) : Stk z most first es e.old ∧ EntOk z most t e := by
  generalize eq : es ++ [e] = xs at h
  cases h with
  | nil => simp at eq
  | snoc h1 h2 =>
    obtain ⟨rfl, e2⟩ := List.append_inj' eq rfl
    have := (List.cons.inj e2).1
    subst this
    exact ⟨h1, h2⟩
theorem Stk.empty {z : Str} {most : Nat} {first t : Str} (h : Stk z most first [] t) : t = first := by
  generalize eq : ([] : List Ent) = xs at h
  cases h with
  | nil => rfl
  | snoc _ _ => simp at eq
def topT (es : List Ent) (t : Str) : Str := match es.getLast? with
  | none => t
  | some e => e.old
def EntAt (S : Hp) (a : Addr) (e : Ent) : Prop := ∃ b, S a = some (.tup [.ref b, .str e.old]) ∧ S b = some (.tup [.int (e.pl : Nat), .int (e.gn : Nat), .str e.put])
def WayAt (S : Hp) (v : V) (e : Ent) : Prop := ∃ y, v = .ref y ∧ S y = some (.tup [.int (e.pl : Nat), .int (e.gn : Nat), .str e.put])
theorem EntAt.same {S S' : Hp} {a : Addr} {e : Ent} (h : EntAt S a e) (s : Same S S') : EntAt S' a e := by
  obtain ⟨b, h1, h2⟩ := h
  exact ⟨b, s _ _ h1, s _ _ h2⟩
theorem WayAt.same {S S' : Hp} {v : V} {e : Ent} (h : WayAt S v e) (s : Same S S') : WayAt S' v e := by
  obtain ⟨b, h1, h2⟩ := h
  exact ⟨b, h1, s _ _ h2⟩
def dEnt (e : Ent) : PyData := .tuple [.tuple [.int ((e.pl : Nat) : Int), .int ((e.gn : Nat) : Int), .str e.put], .str e.old]
def dStk (es : List Ent) : PyData := .list (es.map dEnt)
theorem dpEnts {K : PySem.W.Frag} {H : Hp} : ∀ {as : List Addr} {es : List Ent}, Paired (EntAt H) as es → DpAll K H (as.map V.ref) (es.map dEnt)
  | _, _, .nil => .nil
  | _, _, .cons h q => by
    obtain ⟨b, h1, h2⟩ := h
    exact .cons (.tup (SqT.of h1) (.cons (.tup (SqT.of h2) (.cons (.int _) (.cons (.int _) (.cons (.str _) .nil)))) (.cons (.str _) .nil))) (dpEnts q)
theorem dpStk {K : PySem.W.Frag} {H : Hp} {a : Addr} {as : List Addr} {es : List Ent} (h : H a = some (.lst (as.map V.ref))) (p : Paired (EntAt H) as es) : Dp K H (.ref a) (dStk es) := .lst (SqL.of h) (dpEnts p)
theorem lay_ents : ∀ es : List Ent, (∀ e ∈ es, Asc e.put ∧ Asc e.old) → PyData.canLayAll0 (es.map dEnt) = true
  | [], _ => by simp [PyData.canLayAll0]
  | e :: es, h => by
    obtain ⟨h1, h2⟩ := h e List.mem_cons_self
    have h3 := lay_ents es fun y hy => h y (List.mem_cons_of_mem _ hy)
    simp [PyData.canLayAll0, PyData.canLay0, dEnt, asc_ok h1, asc_ok h2, h3]
theorem dep_ents : ∀ es : List Ent, PyData.depthAll (es.map dEnt) ≤ 2
  | [] => by simp [PyData.depthAll]
  | e :: es => by
    have := dep_ents es
    simp only [List.map_cons, PyData.depthAll, PyData.depth, dEnt]
    omega
theorem shStk {es : List Ent} (h : ∀ e ∈ es, Asc e.put ∧ Asc e.old) : SeqAt.shaped (dStk es) = true := by
  unfold SeqAt.shaped dStk
  have h1 : PyData.canLay0 (.list (es.map dEnt)) = true := by simp [PyData.canLay0, lay_ents es h]
  have h2 : PyData.depth (.list (es.map dEnt)) ≤ 3 := by
    have := dep_ents es
    simp only [PyData.depth]
    omega
  rw [h1, decide_eq_true (Nat.le_trans h2 (by decide))]; rfl
theorem eqStk0 (es : List Ent) : PyData.eqv (dStk es) (dS []) = decide (es = []) := by
  unfold dStk dS
  rw [PyData.eqv]
  cases es with
  | nil => simp [PyData.eqvAll]
  | cons e es => simp [PyData.eqvAll]
theorem chgT_back {t put : Str} {pl gn : Nat} (h1 : pl ≤ t.length) (h2 : gn ≤ t.length - pl) : chgT (chgT t pl gn put) pl put.length (midS t pl (pl + gn)) = t := by
  have lp := preS_len t h1
  have e1 : preS (chgT t pl gn put) pl = preS t pl := str_ext (by
    rw [preS_cps]
    unfold chgT
    rw [app_cps, app_cps, List.append_assoc, List.take_append_of_le_length (by rw [len_cps, lp]; exact Nat.le_refl _), List.take_of_length_le (by rw [len_cps, lp]; exact Nat.le_refl _)])
  have e2 : sufS (chgT t pl gn put) (pl + put.length) = sufS t (pl + gn) := str_ext (by
    rw [sufS_cps]
    unfold chgT
    rw [app_cps, List.drop_append_of_le_length (by rw [len_cps, app_len, lp]; exact Nat.le_refl _), List.drop_of_length_le (by rw [len_cps, app_len, lp]; exact Nat.le_refl _), List.nil_append])
  unfold chgT
  show preS (chgT t pl gn put) pl ++ midS t pl (pl + gn) ++ sufS (chgT t pl gn put) (pl + put.length) = t
  rw [e1, e2, ← pre_mid t (Nat.le_add_right pl gn), pre_suf]
end Jr
namespace Jr
open PySem PySem.Spec PyProof.Rows L2
theorem min_int45 (a b : Nat) : (if ((b : Nat) : Int) < ((a : Nat) : Int) then ((b : Nat) : Int) else ((a : Nat) : Int)) = ((min a b : Nat) : Int) := by
  by_cases c : b < a
  · rw [if_pos (by omega), Nat.min_eq_right (by omega)]
  · rw [if_neg (by omega), Nat.min_eq_left (by omega)]
section
variable {P : Program} {w : World} {K : PySem.W.Frag} {mg : Str → Option Value}
theorem fn_law (T : Tx K mg) : ∃ fd, FunD K "law" "law" (defArgs s_law) (defBody s_law) (defScope s_law) [] [] (He.fAd K ("law", none)) fd ∧ ∀ base : Heap, FnOk P w K mg base CX0 11 (He.fAd K ("law", none)) fd P_law (spLaw K) := by
  obtain ⟨fd, F⟩ := T.d_law
  refine ⟨fd, F, fun base => ?_⟩
  have C__law_cell_at := cal__law_cell_at (P := P) (w := w) (base := base) T
  have C__law_numbers := cal__law_numbers (P := P) (w := w) (base := base) T
  have C__law_table := cal__law_table (P := P) (w := w) (base := base) T
  have C__law_pieces := cal__law_pieces (P := P) (w := w) (base := base) T
  have C__law_long := cal__law_long (P := P) (w := w) (base := base) T
  have C__law_cut := cal__law_cut (P := P) (w := w) (base := base) T
  have C__law_led := cal__law_led45 (P := P) (w := w) (base := base) T
  have C_Table := mkc_Table (P := P) (w := w) (base := base) T
  have C_Follows := mkc_Follows (P := P) (w := w) (base := base) T
  refine F.ok sc_law (fun vs H Q E h => ?_) (fun cdv A outer s H vs Q E hr h => ?_)
  · obtain ⟨a, ns, rfl, _⟩ := h
    rfl
  · obtain ⟨a, ns, rfl, hS, hlen, k⟩ := h
    refine ⟨_, (PSs.nox (pss_cons (ps_set (i := 1) sc_law.nd rfl (Or.inl rfl) (pe_cal C__law_table (by first | exact hr | exact hr.mono (by decide)) (by rfl) (pa_cons (pe_cal C__law_cell_at (by first | exact hr | exact hr.mono (by decide)) (by rfl) (pa_cons (pv 0) (pa_cons pe_int pa_nil))) (pa_cons pe_int (pa_cons pe_int pa_nil)))))
      (pss_cons (ps_set (i := 2) sc_law.nd rfl (Or.inr rfl) (pe_cal C__law_pieces (by first | exact hr | exact hr.mono (by decide)) (by rfl) (pa_cons (pv 1) pa_nil)))
      (pss_cons (ps_set (i := 3) sc_law.nd rfl (Or.inl rfl) (pe_ix ix_list (pe_intsAs (ns := [1, 1, 2, 40]) (pe_litI (ns := [1, 1, 2, 40]) (pe_lst (pa_cons pe_int (pa_cons pe_int (pa_cons pe_int (pa_cons pe_int pa_nil))))) (fun _ _ _ => rfl) (by decide)) (by decide)) (pe_ix ix_list (pe_cal C__law_numbers (by first | exact hr | exact hr.mono (by decide)) (by rfl) (pa_cons (pe_cal C__law_cell_at (by first | exact hr | exact hr.mono (by decide)) (by rfl) (pa_cons (pv 0) (pa_cons pe_int pa_nil))) (pa_cons pe_int (pa_cons (pe_intsAs (ns := [4]) (pe_litI (ns := [4]) (pe_lst (pa_cons pe_int pa_nil)) (fun _ _ _ => rfl) (by decide)) (by decide)) pa_nil)))) pe_int (fun _ _ => rfl)) (fun _ _ => rfl)))
      (pss_cons (ps_set (i := 4) sc_law.nd rfl (Or.inl rfl) (pe_slice sl_str (pe_op op_mul_str (pe_cal C__law_long (by first | exact hr | exact hr.mono (by decide)) (by rfl) (pa_cons (pe_slice sl_listG (pv 0) (po_some pe_int) (po_some pe_int)) (pa_cons pe_int (pa_cons (pv 2) (pa_cons pe_int pa_nil))))) (pv 3)) po_none (po_some pe_int)))
      (pss_cons (ps_set (i := 5) sc_law.nd rfl (Or.inl rfl) (pe_cal C__law_numbers (by first | exact hr | exact hr.mono (by decide)) (by rfl) (pa_cons (pe_cal C__law_cell_at (by first | exact hr | exact hr.mono (by decide)) (by rfl) (pa_cons (pv 0) (pa_cons pe_int pa_nil))) (pa_cons pe_int (pa_cons (pe_op op_catG (pe_lstG (pa_cons pe_int (pa_cons (pe_op op_add (pe_callB (id := "len") call_len_str (by rfl) T.n_len (by decide +kernel) (pa_cons (pv 4) pa_nil)) pe_int) (pa_cons pe_int (pa_cons pe_int (pa_cons pe_int pa_nil)))))) (pe_intsAs (ns := [36, 36, 36, 36, 36, 36, 36]) (pe_repI (k := 7) (pe_litI (ns := [36]) (pe_lst (pa_cons pe_int pa_nil)) (fun _ _ _ => rfl) (by decide)) pe_int (by decide) (by decide)) (by decide))) pa_nil)))))
      (pss_cons (ps_set (i := 6) sc_law.nd rfl (Or.inl rfl) (pe_ix ix_list (pv 5) pe_int (fun _ _ => rfl)))
      (pss_cons (ps_set (i := 7) sc_law.nd rfl (Or.inl rfl) (pe_callB (id := "min") (call_min2 rfl) (by rfl) T.n_min (by decide +kernel) (pa_cons (pe_ix ix_list (pe_lstG (pa_cons pe_int (pa_cons pe_int (pa_cons (pe_ix ix_list (pv 5) pe_int (fun _ _ => rfl)) (pa_cons (pe_callB (id := "len") call_len_str (by rfl) T.n_len (by decide +kernel) (pa_cons (pv 4) pa_nil)) pa_nil))))) (pe_ix ix_list (pv 5) pe_int (fun _ _ => rfl)) (fun _ _ => rfl)) (pa_cons (pe_op op_sub (pe_callB (id := "len") call_len_str (by rfl) T.n_len (by decide +kernel) (pa_cons (pv 4) pa_nil)) (pv 6)) pa_nil))))
      (pss_cons (ps_set (i := 8) sc_law.nd rfl (Or.inl rfl) (pe_slice sl_str (pe_join pe_str (pe_lc (own := [("_law_digit", 13)]) (g := gName 13) (by rfl) sc_law.nd (pi_list (pe_slice sl_listG (pv 5) (po_some pe_int) (po_some (pe_op op_add pe_int (pe_ix ix_list (pv 5) pe_int (fun _ _ => rfl)))))) (blkOk_by (own := [("_law_digit", 13)]) (N := N_law) (sc := defScope s_law) (by decide +kernel)) (fun _ _ _ _ _ => (pg_name (i := 13) sc_law.nd rfl (Or.inl rfl))) (fun _ _ _ _ _ => pts_nil) (fun _ _ _ _ _ => (pe_ix (ix_listK (K := K)) (pv 2) (pe_op op_mod (pv 13) (pe_callB (id := "len") (call_len_seqK (K := K)) (by rfl) T.n_len (by decide +kernel) (pa_cons (pv 2) pa_nil))) (fun _ _ => rfl))))) po_none (po_some pe_int)))
      (pss_cons (ps_set (i := 9) sc_law.nd rfl (Or.inl rfl) (pe_mk C_Follows (by first | exact hr | exact hr.mono (by decide)) rfl (pa_cons (pe_mk C_Table (by first | exact hr | exact hr.mono (by decide)) rfl (pa_cons (pe_ix ix_tup (pv 1) pe_int (fun _ _ => rfl)) (pa_cons (pe_ix ix_tup (pv 1) pe_int (fun _ _ => rfl)) pa_nil))) pa_nil)))
      (pss_cons (ps_set (i := 10) sc_law.nd rfl (Or.inl rfl) pe_dnewT)
      (pss_cons (ps_set (i := 11) sc_law.nd rfl (Or.inl rfl) (pe_cal C__law_cut (by first | exact hr | exact hr.mono (by decide)) (by rfl) (pa_cons (pe_ix ix_tup (pv 1) pe_int (fun _ _ => rfl)) (pa_cons (pv 4) pa_nil))))
      (pss_cons (ps_set (i := 12) sc_law.nd rfl (Or.inl rfl) (pe_cal C__law_led (by first | exact hr | exact hr.mono (by decide)) (by rfl) (pa_cons (pv 9) (pa_cons (pe_ix ix_tup (pv 1) pe_int (fun _ _ => rfl)) (pa_cons (pv 10) (pa_cons (pv 11) (pa_cons (pe_tupG (pa_cons (pv 6) (pa_cons (pv 7) (pa_cons (pv 8) pa_nil)))) pa_nil)))))))
      (pss_cons (ps_if (pt_cmpR op_isN (pv 12) pe_non (nomark _)) (pss_one (ps_ret pe_bl)) pss_nil)
      (pss_one (ps_ret (pe_cmpR (op_eqD hr.units) (pe_cal C__law_led (by first | exact hr | exact hr.mono (by decide)) (by rfl) (pa_cons (pv 9) (pa_cons (pe_ix ix_tup (pv 1) pe_int (fun _ _ => rfl)) (pa_cons (pv 10) (pa_cons (pv 12) (pa_cons (pe_tupG (pa_cons (pv 6) (pa_cons (pe_callB (id := "len") call_len_str (by rfl) T.n_len (by decide +kernel) (pa_cons (pv 8) pa_nil)) (pa_cons (pe_slice sl_str (pv 4) (po_some (pv 6)) (po_some (pe_op op_add (pv 6) (pv 7)))) pa_nil)))) pa_nil)))))) (pv 11) (nomark _)))))))))))))))))), ?_⟩
    refine ⟨_, rfl, a, ns, 0, rfl, hS, fun c0 => ?_⟩
    refine ⟨_, 4500, 10, rfl, by decide, by decide, by decide, fun H1 tt p z rs s1 htt hp hR tk => ?_⟩
    refine ⟨_, rfl, tt, p, z, rs, rfl, htt, hR, tk, fun H1' lp s1' nlp hP => ?_⟩
    refine fun q1 H2 nq1 s2 hq1 => ?_
    refine ⟨_, rfl, a, ns, 1, rfl, ((s1.trans s1').trans s2).seq hS, fun c1 => ?_⟩
    refine fun p1 H3 n1 s3 h1 => ?_
    refine ⟨c1, 4502, p1, [4], rfl, by decide, by decide, SqL.of h1, by decide, sizes_ok (by decide), fun H4 pd ds s4 hpd hD hds => ?_⟩
    obtain ⟨d0, e0, b0, A0⟩ := dig hds (j := 0) rfl
    obtain ⟨mo, hmo1, hmo, Am⟩ : ∃ mo : Nat, 1 ≤ mo ∧ mo ≤ 40 ∧ atI ([1, 1, 2, 40].map V.int) (d0 : Int) = some (V.int (mo : Nat)) := by
      have : d0 = 0 ∨ d0 = 1 ∨ d0 = 2 ∨ d0 = 3 := by omega
      rcases this with rfl | rfl | rfl | rfl
      · exact ⟨1, by decide, by decide, ats rfl⟩
      · exact ⟨1, by decide, by decide, ats rfl⟩
      · exact ⟨2, by decide, by decide, ats rfl⟩
      · exact ⟨40, by decide, by decide, ats rfl⟩
    refine ⟨pd, _, _, _, rfl, rfl, SqL.of hD, A0, q1, _, _, _, rfl, rfl, SqL.of ((s3.trans s4) _ _ hq1), Am, ?_⟩
    have s24' := (s2.trans s3).trans s4
    have s24 := s1'.trans s24'
    have hS4 := (s1.trans s24).seq hS
    have htt4 := s24 _ _ htt
    have hR4 := hR.same s24
    have hP4 := s24' _ _ hP
    clear hD hq1 h1 hds hR htt hP
    refine ⟨_, rfl, _, rfl, _, rfl, a, _, rfl, hS4, fun q6 H5 nq6 s5 hq6 => ?_⟩
    rw [show (some (2 : Int)) = some ((2 : Nat) : Int) from rfl, show (some (63 : Int)) = some ((63 : Nat) : Int) from rfl, cutV_mid, ← List.map_drop, ← List.map_take] at hq6
    have dl : ((ns.drop 2).take (63 - 2)).length ≤ 61 := by rw [List.length_take]; omega
    revert hq6 dl
    generalize ((ns.drop 2).take (63 - 2)) = ms
    intro hq6 dl
    have hP5 := s5 _ _ hP4
    refine ⟨_, rfl, q6, lp, ms, 4510, z, rs, 290, rfl, by decide, by decide, SqL.of hq6, by omega, SqL.of hP5, tk, fun H7 t0 s7 tx0 tl0 => ?_⟩
    refine ⟨_, rfl, t0, _, rfl, rfl, by omega, by omega, by omega, fun t1 sub tl1 => ?_⟩
    have h8000 : t1.length ≤ 11600 := Nat.le_trans tl1 (Nat.le_trans (Nat.mul_le_mul tl0 (show ((mo : Nat) : Int).toNat ≤ 40 by omega)) (by decide))
    refine ⟨_, rfl, t1, rfl, sz (by omega), ?_⟩
    have tx : TextOf z (cutS t1 none (some 290)) := text_to (fun c hc => tx0 c (sub c hc)) 290
    have tl : (cutS t1 none (some 290)).length ≤ 290 := by
      rw [show (some (290 : Int)) = some ((290 : Nat) : Int) from rfl, ← len_cps, cut_to, List.length_take]
      omega
    revert tx tl
    generalize (cutS t1 none (some 290)) = t
    intro tx tl
    have s57 := s5.trans s7
    have htt7 := s57 _ _ htt4
    have hR7 := hR4.same s57
    have hP7 := s7 _ _ hP5
    have s07 := (s1.trans s24).trans s57
    clear htt4 hR4 hS4 hq6 hP4 hP5
    refine ⟨_, rfl, a, ns, 1, rfl, s07.seq hS, fun c2 => ?_⟩
    refine ⟨_, rfl, t, rfl, sz (by omega), _, _, rfl, rfl, (by show 5 ≤ sizeLine; decide), fun p8 H8 n8 s8 h8 => ?_⟩
    refine fun p9 H9 n9 s9 h9 => ?_
    refine ⟨p8, p9, _, _, rfl, rfl, SqL.of (s9 _ _ h8), SqL.of h9, (by show 5 + 7 ≤ sizeLine; decide), fun p10 H10 n10 s10 h10 => ?_⟩
    refine ⟨c2, 4501, p10, [4, ((t.length : Nat) : Int) + 1, 4, 30, 8, 36, 36, 36, 36, 36, 36, 36], rfl, by decide, by decide, SqL.of h10, (by show 12 ≤ 1000; decide), ?_, fun H11 pd ds s11 hp11 hD hds => ?_⟩
    · have lg : ∀ x : Int, 0 < x → x ≤ 10000 → 0 < x ∧ x.natAbs.log2 < 9000 := fun x h0 h1 => ⟨h0, by
        have : x.natAbs.log2 < 14 := (Nat.log2_lt (by omega)).mpr (by omega)
        omega⟩
      intro x hx
      simp only [List.mem_cons, List.not_mem_nil, or_false] at hx
      rcases hx with rfl | rfl | rfl | rfl | rfl | rfl | rfl | rfl | rfl | rfl | rfl | rfl <;> exact lg _ (by omega) (by omega)
    have s711 := ((s8.trans s9).trans s10).trans s11
    obtain ⟨d1, e1, b1, A1⟩ := dig hds (j := 1) rfl
    obtain ⟨d2, e2, b2, A2⟩ := dig hds (j := 2) rfl
    obtain ⟨d3, e3, b3, A3⟩ := dig hds (j := 3) rfl
    obtain ⟨d4, e4, b4, A4⟩ := dig hds (j := 4) rfl
    refine ⟨_, rfl, pd, _, _, _, rfl, rfl, SqL.of hD, A1, ?_⟩
    refine ⟨_, rfl, pd, _, _, _, rfl, rfl, SqL.of hD, A3, _, rfl, t, rfl, sz (by omega), (by show 4 ≤ sizeLine; decide), fun q12 H12 nq12 s12 hq12 => ?_⟩
    obtain ⟨g, Ag⟩ : ∃ g : Nat, atI [V.int 0, V.int 1, V.int ((d3 : Nat) : Int), V.int ((t.length : Nat) : Int)] (d2 : Int) = some (V.int ((g : Nat) : Int)) := by
      have : d2 = 0 ∨ d2 = 1 ∨ d2 = 2 ∨ d2 = 3 := by omega
      rcases this with rfl | rfl | rfl | rfl
      · exact ⟨0, ats rfl⟩
      · exact ⟨1, ats rfl⟩
      · exact ⟨d3, ats rfl⟩
      · exact ⟨t.length, ats rfl⟩
    have hD12 := s12 _ _ hD
    refine ⟨_, rfl, pd, _, _, _, rfl, rfl, SqL.of hD12, A2, q12, _, _, _, rfl, rfl, SqL.of hq12, Ag, ?_⟩
    refine ⟨_, rfl, t, rfl, sz (by omega), _, rfl, _, _, rfl, rfl, _, _, rfl, ?_⟩
    have eg : (if ((t.length : Nat) : Int) - ((d1 : Nat) : Int) < ((g : Nat) : Int) then ((t.length : Nat) : Int) - ((d1 : Nat) : Int) else ((g : Nat) : Int)) = ((min g (t.length - d1) : Nat) : Int) := by
      have e : ((t.length : Nat) : Int) - ((d1 : Nat) : Int) = ((t.length - d1 : Nat) : Int) := by omega
      rw [e, min_int45]
    show gName _ (V.int (if ((t.length : Nat) : Int) - ((d1 : Nat) : Int) < ((g : Nat) : Int) then ((t.length : Nat) : Int) - ((d1 : Nat) : Int) else ((g : Nat) : Int))) _ _ _
    rw [eg]
    have gl : min g (t.length - d1) ≤ t.length - d1 := Nat.min_le_right ..
    revert gl
    generalize min g (t.length - d1) = gn
    intro gl
    refine ⟨⟨_, rfl⟩, ?_⟩
    refine ⟨_, rfl, _, rfl, _, rfl, _, _, _, _, rfl, rfl, SqL.of hD12, A4, _, _, rfl, rfl, _, rfl, pd, _, rfl, SqL.of hD12, fun q H13 nq s13 hq => ?_⟩
    have ec : cutV (ds.map V.int) (some 5) (some (5 + (d4 : Int))) = ((ds.drop 5).take d4).map V.int := by
      have z1 : (5 : Int) + (d4 : Int) = ((5 + d4 : Nat) : Int) := by omega
      have z2 : 5 + d4 - 5 = d4 := by omega
      rw [z1, show (some (5 : Int)) = some ((5 : Nat) : Int) from rfl, cutV_mid, z2, List.map_take, List.map_drop]
    rw [ec] at hq
    have np : 0 < (pcs z rs).length := by rw [pcs_len]; have := tk.n1; omega
    have posP : (0 : Int) < (((pcs z rs).map V.str).length : Nat) := by rw [List.length_map]; omega
    obtain ⟨f, hf⟩ : ∃ g : Int → Str, ∀ d, g d ∈ pcs z rs ∧ atI ((pcs z rs).map V.str) (d % (((pcs z rs).map V.str).length : Nat)) = some (V.str (g d)) :=
      ⟨fun d => (mod_at V.str (pcs z rs) np d).choose, fun d => (mod_at V.str (pcs z rs) np d).choose_spec⟩
    have hn : ((ds.drop 5).take d4).length ≤ 7 := by
      rw [List.length_take]
      omega
    have s713 := (s711.trans s12).trans s13
    have pl16 : ∀ q ∈ pcs z rs, q.length ≤ 16 := fun q hq => (tk.plen hq).2
    refine ⟨q, rfl, ⟨_, SqL.of hq⟩, fun D hD2 => lc_listM (K := K) (item := V.int) (p := fun _ => true) (f := fun d => V.str (f d)) (l := (ds.drop 5).take d4) (SqL.of hq) hD2 (by omega) (fun dd hdd H2' s2' N M hM _ => ?_) (fun H14 s14 hL2 => ?_)⟩
    · have hP8 : SqL K H2' lp ((pcs z rs).map V.str) := SqL.of ((s713.trans s2') _ _ hP7)
      exact ⟨rfl, _, rfl, _, rfl, _, rfl, _, _, rfl, .inl hP8, _, _, rfl, rfl, posP, _, _, _, _, rfl, rfl, hP8, (hf dd).2, hM rfl⟩
    have ef : ((ds.drop 5).take d4).filter (fun _ => true) = (ds.drop 5).take d4 := List.filter_eq_self.mpr fun _ _ => rfl
    have em : ((ds.drop 5).take d4).map (fun d => V.str (f d)) = (((ds.drop 5).take d4).map f).map V.str := by rw [List.map_map]; rfl
    rw [ef, em] at hL2
    have inq : ∀ q ∈ ((ds.drop 5).take d4).map f, q ∈ pcs z rs := fun q hq => by
      obtain ⟨d, _, rfl⟩ := List.mem_map.mp hq
      exact (hf d).1
    obtain ⟨txj, tln⟩ := join_pcs tk inq
    have sl := sum_le (((ds.drop 5).take d4).map f) 16 fun q hq => pl16 q (inq q hq)
    rw [List.length_map] at sl tln
    have e0' : (Str.ofString "").length = 0 := by decide +kernel
    refine ⟨_, D, ((ds.drop 5).take d4).map f, rfl, rfl, .inl (SqL.of hL2), by rw [e0']; omega, ?_⟩
    revert txj tln
    generalize (Txt.join (Str.ofString "") (((ds.drop 5).take d4).map f)) = jt
    intro txj tln
    refine ⟨_, rfl, jt, rfl, sz (by omega), ?_⟩
    have txp : TextOf z (cutS jt none (some 20)) := text_to txj 20
    have pul : (cutS jt none (some 20)).length ≤ 20 := by
      rw [show (some (20 : Int)) = some ((20 : Nat) : Int) from rfl, ← len_cps, cut_to, List.length_take]
      omega
    revert txp pul
    generalize (cutS jt none (some 20)) = put
    intro txp pul
    have s714 := s713.trans s14
    have htt14 := s714 _ _ htt7
    have hR14 := hR7.same s714
    have pd1 : d1 ≤ t.length := by omega
    clear hD hq hds hq12 h10 h8 h9 htt7 hR7 hP7 hL2 hD12 e1 e2 e3 e4 A1 A2 A3 A4
    refine ⟨_, rfl, tt, _, _, _, rfl, rfl, SqT.of htt14, rfl, _, rfl, tt, _, _, _, rfl, rfl, SqT.of htt14, rfl, ?_⟩
    intro x1 dx1 hx1 hdx1 ndx1
    refine ⟨_, x1, dx1, p, z, rs, rfl, rfl, hx1, hdx1, ndx1, hR14, tk, fun H15 s15 ta => ⟨rfl, ?_⟩⟩
    intro x2 dx2 hx2 hdx2 ndx2
    refine ⟨_, x2, dx2, x1, z, rs, rfl, rfl, hx2, hdx2, ndx2, ta, fun H16 s16 fo => ⟨rfl, ?_⟩⟩
    have s1416 := s15.trans s16
    intro kp nkp
    have rg0 := (Reg.nil H16).new nkp (Same.new nkp) (upd_same (o := HO.dT []))
    revert rg0
    generalize (upd H16 kp (.dT [])) = H17
    intro rg0
    have rg0 : Reg H16 H17 [(kp, .dT [])] := rg0
    have s1417 := s1416.trans rg0.same
    refine ⟨_, rfl, tt, _, _, _, rfl, rfl, SqT.of (s1417 _ _ htt14), rfl, _, rfl, p, z, rs, t, rfl, hR14.same s1417, tk, tx, by omega, fun H18 ro s18 nro hro => ?_⟩
    have rg1 := rg0.step s18
    refine ⟨_, rfl, _, rfl, tt, _, _, _, rfl, rfl, SqT.of ((s1417.trans s18) _ _ htt14), rfl, _, rfl, _, rfl, _, rfl, _, rfl, _, rfl, (by show 3 ≤ sizeLine; decide), fun ch H19 nch s19 hch => ?_⟩
    have rg2 := rg1.step s19
    obtain ⟨rS, sS⟩ := rg2.grow (Same.refl _)
    have kdl : ∀ {G : Hp} {b : Addr} {dd : List (List Key × V)} {o : HO}, G b = some o → (∀ q, o ≠ .dT q) → Reg H16 G [(kp, HO.dT dd)] → out G [(kp, HO.dT dd)] b = some o := fun h n r => out_of h (r.kind h fun q hq => by rw [List.mem_singleton.mp hq]; exact fun e => n _ e.symm)
    have hroS := kdl (s19 _ _ hro) (fun q e => by cases e) rg2
    have hchS := kdl hch (fun q e => by cases e) rg2
    have s16S := rg2.grow (Same.refl _) |>.2
    have R16 := hR14.same s1416
    refine ⟨x2, p, kp, ro, ch, z, rs, t, put, d1, gn, out H19 [(kp, HO.dT [])], [], rfl, fo.same sS, R16.same sS, tk, tx, by omega, hroS, hchS, pd1, gl, by omega, txp, rS, (fun l r v e => by cases e), by decide, fun S2 H20 d20 q20 sS2 r20 mm20 dl20 hq20 => ?_⟩
    refine ⟨_, rfl, rfl, _, rfl, iteF ?_⟩
    have sS16 := sS.trans sS2
    have s1420 := s1416.trans (sS16.trans r20.same)
    have lcm := cutS_length t (some ((d1 : Nat) : Int)) (some (((d1 : Nat) : Int) + ((gn : Nat) : Int)))
    refine ⟨_, rfl, _, rfl, tt, _, _, _, rfl, rfl, SqT.of (s1420 _ _ htt14), rfl, _, rfl, _, rfl, _, rfl, _, rfl, put, rfl, sz (by omega), ?_⟩
    refine ⟨_, rfl, _, rfl, _, rfl, _, rfl, _, rfl, _, _, rfl, rfl, _, rfl, t, rfl, sz (by omega), (by show 3 ≤ sizeLine; decide), fun ch2 H21 nch2 s21 hch2 => ?_⟩
    have em : cutS t (some ((d1 : Nat) : Int)) (some (((d1 : Nat) : Int) + ((gn : Nat) : Int))) = midS t d1 (d1 + gn) := by
      rw [show ((d1 : Nat) : Int) + ((gn : Nat) : Int) = ((d1 + gn : Nat) : Int) by omega, cutS_mid]
    have hch2 : H21 ch2 = some (.tup [.int (d1 : Nat), .int (put.length : Nat), .str (midS t d1 (d1 + gn))]) := by rw [← em]; exact hch2
    rw [em] at lcm
    have txm : TextOf z (midS t d1 (d1 + gn)) := fun c hc => tx c (by
      unfold midS at hc
      rw [mkS_cps] at hc
      exact List.mem_of_mem_drop (List.mem_of_mem_take hc))
    have r21 := r20.step s21
    obtain ⟨rS3, sS3⟩ := r21.grow (Same.refl _)
    have hch3 : out H21 [(kp, HO.dT d20)] ch2 = some (.tup [.int (d1 : Nat), .int (put.length : Nat), .str (midS t d1 (d1 + gn))]) := out_of hch2 (r21.kind hch2 fun q hq => by rw [List.mem_singleton.mp hq]; exact fun e => by cases e)
    have cl := chgT_len t put pd1 gl
    have tx2 := chgT_text tx txp d1 gn
    have back := chgT_back (put := put) pd1 gl
    refine ⟨x2, p, kp, q20, ch2, z, rs, chgT t d1 gn put, midS t d1 (d1 + gn), d1, put.length, out H21 [(kp, HO.dT d20)], d20, rfl, fo.same (sS16.trans sS3), R16.same (sS16.trans sS3), tk, tx2, by omega, sS3 _ _ hq20, hch3, by omega, by omega, by omega, txm, rS3, mm20, by have : ([] : List (List Key × V)).length = 0 := rfl; omega, fun S4 H22 d22 q22 sS4 r22 mm22 dl22 hq22 => ?_⟩
    rw [back] at hq22
    have hro22 := r22.same _ _ (sS4 _ _ (sS3 _ _ (sS2 _ _ hroS)))
    have asc : ∀ y ∈ sweep rs t, Asc y := fun y hy => tk.asc (sweep_pc tx hy)
    refine ⟨_, rfl, _, _, dpS (SqL.of (r22.same _ _ hq22)), dpS (SqL.of hro22), shS asc, shS asc, ?_⟩
    rw [eqS, decide_eq_true rfl]
    exact k _
end
end Jr
namespace Jr
open PySem PySem.Spec PyProof.Rows L2
theorem tx_of {K : PySem.W.Frag} {h : Heap} {mg : Str → Option Value} {w : World} (X : K.In h) (G : h.Ns mainGlobals mg) (c : He.SaysX fa fn [] [] (fun K => (exs K).all id) w h K) : Tx K mg := {
    n_len := He.free_ok X G (c.t.d.fact 0 (f := .free "len") rfl)
    n_range := He.free_ok X G (c.t.d.fact 1 (f := .free "range") rfl)
    n_max := He.free_ok X G (c.t.d.fact 2 (f := .free "max") rfl)
    n_min := He.free_ok X G (c.t.d.fact 3 (f := .free "min") rfl)
    n_isinstance := He.free_ok X G (c.t.d.fact 4 (f := .free "isinstance") rfl)
    n_str := He.free_ok X G (c.t.d.fact 5 (f := .free "str") rfl)
    n_int := He.free_ok X G (c.t.d.fact 6 (f := .free "int") rfl)
    n_bool := He.free_ok X G (c.t.d.fact 7 (f := .free "bool") rfl)
    n_list := He.free_ok X G (c.t.d.fact 8 (f := .free "list") rfl)
    n_tuple := He.free_ok X G (c.t.d.fact 9 (f := .free "tuple") rfl)
    n_all := He.free_ok X G (c.t.d.fact 10 (f := .free "all") rfl)
    n_ord := He.free_ok X G (c.t.d.fact 11 (f := .free "ord") rfl)
    n_enumerate := He.free_ok X G (c.t.d.fact 12 (f := .free "enumerate") rfl)
    n_zip := He.free_ok X G (c.t.d.fact 13 (f := .free "zip") rfl)
    n_reversed := He.free_ok X G (c.t.d.fact 14 (f := .free "reversed") rfl)
    c_MOST_SIGNS := He.int_ok X G (c.t.d.fact 15 (f := .int "MOST_SIGNS" 12) rfl)
    c_MOST_ROWS := He.int_ok X G (c.t.d.fact 16 (f := .int "MOST_ROWS" 24) rfl)
    c_MOST_JOINED := He.int_ok X G (c.t.d.fact 17 (f := .int "MOST_JOINED" 16) rfl)
    c_BLANK_CODE := He.int_ok X G (c.t.d.fact 18 (f := .int "BLANK_CODE" 32) rfl)
    c_PERCENT_CODE := He.int_ok X G (c.t.d.fact 19 (f := .int "PERCENT_CODE" 37) rfl)
    c_TILDE_CODE := He.int_ok X G (c.t.d.fact 20 (f := .int "TILDE_CODE" 126) rfl)
    g_Follows := He.glo_ok X G (c.t.d.fact 21 (f := .glo "Follows") rfl)
    cl_Follows := He.cls_ok (c.t.d.fact 22 (f := .cls "Follows") rfl)
    no_Follows_held_table := He.noat_ok (c.t.d.fact 23 (f := .noat "Follows" "held_table") rfl)
    no_Follows_right_edges := He.noat_ok (c.t.d.fact 24 (f := .noat "Follows" "right_edges") rfl)
    no_Follows_left_edges := He.noat_ok (c.t.d.fact 25 (f := .noat "Follows" "left_edges") rfl)
    no_Follows_alone_pieces := He.noat_ok (c.t.d.fact 26 (f := .noat "Follows" "alone_pieces") rfl)
    no_Follows_pieces_after := He.noat_ok (c.t.d.fact 27 (f := .noat "Follows" "pieces_after") rfl)
    no_Follows_pieces_ahead := He.noat_ok (c.t.d.fact 28 (f := .noat "Follows" "pieces_ahead") rfl)
    no_Follows_pairs := He.noat_ok (c.t.d.fact 29 (f := .noat "Follows" "pairs") rfl)
    mk_Follows := He.mkr_ok (c.t.d.fact 30 (f := .mkr "Follows") rfl)
    m_Follows_is_alone := He.meth_ok (c.t.d.fact 31 (f := .meth "Follows" "is_alone") rfl)
    m_Follows_first_rank := He.meth_ok (c.t.d.fact 32 (f := .meth "Follows" "first_rank") rfl)
    m_Follows_pair_all := He.meth_ok (c.t.d.fact 33 (f := .meth "Follows" "pair_all") rfl)
    m_Follows_table := He.meth_ok (c.t.d.fact 34 (f := .meth "Follows" "table") rfl)
    m_Follows_alone := He.meth_ok (c.t.d.fact 35 (f := .meth "Follows" "alone") rfl)
    m_Follows_has_alone := He.meth_ok (c.t.d.fact 36 (f := .meth "Follows" "has_alone") rfl)
    m_Follows_may := He.meth_ok (c.t.d.fact 37 (f := .meth "Follows" "may") rfl)
    g_Table := He.glo_ok X G (c.t.d.fact 38 (f := .glo "Table") rfl)
    cl_Table := He.cls_ok (c.t.d.fact 39 (f := .cls "Table") rfl)
    no_Table_sign_text := He.noat_ok (c.t.d.fact 40 (f := .noat "Table" "sign_text") rfl)
    no_Table_row_list := He.noat_ok (c.t.d.fact 41 (f := .noat "Table" "row_list") rfl)
    no_Table_piece_list := He.noat_ok (c.t.d.fact 42 (f := .noat "Table" "piece_list") rfl)
    no_Table_number_by_piece := He.noat_ok (c.t.d.fact 43 (f := .noat "Table" "number_by_piece") rfl)
    no_Table_rank_by_row := He.noat_ok (c.t.d.fact 44 (f := .noat "Table" "rank_by_row") rfl)
    no_Table_most_signs := He.noat_ok (c.t.d.fact 45 (f := .noat "Table" "most_signs") rfl)
    mk_Table := He.mkr_ok (c.t.d.fact 46 (f := .mkr "Table") rfl)
    m_Table_take_piece := He.meth_ok (c.t.d.fact 47 (f := .meth "Table" "take_piece") rfl)
    m_Table_may_take_row := He.meth_ok (c.t.d.fact 48 (f := .meth "Table" "may_take_row") rfl)
    m_Table_take_row := He.meth_ok (c.t.d.fact 49 (f := .meth "Table" "take_row") rfl)
    m_Table_signs := He.meth_ok (c.t.d.fact 50 (f := .meth "Table" "signs") rfl)
    m_Table_rows := He.meth_ok (c.t.d.fact 51 (f := .meth "Table" "rows") rfl)
    m_Table_pieces := He.meth_ok (c.t.d.fact 52 (f := .meth "Table" "pieces") rfl)
    m_Table_which := He.meth_ok (c.t.d.fact 53 (f := .meth "Table" "which") rfl)
    m_Table_parts := He.meth_ok (c.t.d.fact 54 (f := .meth "Table" "parts") rfl)
    m_Table_rank := He.meth_ok (c.t.d.fact 55 (f := .meth "Table" "rank") rfl)
    m_Table_longest := He.meth_ok (c.t.d.fact 56 (f := .meth "Table" "longest") rfl)
    g_is_whole := He.glo_ok X G (c.t.d.fact 57 (f := .glo "is_whole") rfl)
    d_is_whole := c.t.d.def_ 0 (d := ⟨("is_whole", none), "is_whole", "is_whole", defArgs s_is_whole, defBody s_is_whole, defScope s_is_whole, [], []⟩) rfl
    g_is_up_to := He.glo_ok X G (c.t.d.fact 58 (f := .glo "is_up_to") rfl)
    d_is_up_to := c.t.d.def_ 1 (d := ⟨("is_up_to", none), "is_up_to", "is_up_to", defArgs s_is_up_to, defBody s_is_up_to, defScope s_is_up_to, [], []⟩) rfl
    g_check_text := He.glo_ok X G (c.t.d.fact 59 (f := .glo "check_text") rfl)
    d_check_text := c.t.d.def_ 2 (d := ⟨("check_text", none), "check_text", "check_text", defArgs s_check_text, defBody s_check_text, defScope s_check_text, [], []⟩) rfl
    g_first_no_piece := He.glo_ok X G (c.t.d.fact 60 (f := .glo "first_no_piece") rfl)
    d_first_no_piece := c.t.d.def_ 3 (d := ⟨("first_no_piece", none), "first_no_piece", "first_no_piece", defArgs s_first_no_piece, defBody s_first_no_piece, defScope s_first_no_piece, [], []⟩) rfl
    g_check_piece := He.glo_ok X G (c.t.d.fact 61 (f := .glo "check_piece") rfl)
    d_check_piece := c.t.d.def_ 4 (d := ⟨("check_piece", none), "check_piece", "check_piece", defArgs s_check_piece, defBody s_check_piece, defScope s_check_piece, [], []⟩) rfl
    g_check_place := He.glo_ok X G (c.t.d.fact 62 (f := .glo "check_place") rfl)
    d_check_place := c.t.d.def_ 5 (d := ⟨("check_place", none), "check_place", "check_place", defArgs s_check_place, defBody s_check_place, defScope s_check_place, [], []⟩) rfl
    g_what_is_wrong := He.glo_ok X G (c.t.d.fact 63 (f := .glo "what_is_wrong") rfl)
    d_what_is_wrong := c.t.d.def_ 6 (d := ⟨("what_is_wrong", none), "what_is_wrong", "what_is_wrong", defArgs s_what_is_wrong, defBody s_what_is_wrong, defScope s_what_is_wrong, [], []⟩) rfl
    g_check_cutting := He.glo_ok X G (c.t.d.fact 64 (f := .glo "check_cutting") rfl)
    d_check_cutting := c.t.d.def_ 7 (d := ⟨("check_cutting", none), "check_cutting", "check_cutting", defArgs s_check_cutting, defBody s_check_cutting, defScope s_check_cutting, [], []⟩) rfl
    g_may_begin_there := He.glo_ok X G (c.t.d.fact 65 (f := .glo "may_begin_there") rfl)
    d_may_begin_there := c.t.d.def_ 8 (d := ⟨("may_begin_there", none), "may_begin_there", "may_begin_there", defArgs s_may_begin_there, defBody s_may_begin_there, defScope s_may_begin_there, [], []⟩) rfl
    g_first_of := He.glo_ok X G (c.t.d.fact 66 (f := .glo "first_of") rfl)
    d_first_of := c.t.d.def_ 9 (d := ⟨("first_of", none), "first_of", "first_of", defArgs s_first_of, defBody s_first_of, defScope s_first_of, [], []⟩) rfl
    g_firsts := He.glo_ok X G (c.t.d.fact 67 (f := .glo "firsts") rfl)
    d_firsts := c.t.d.def_ 10 (d := ⟨("firsts", none), "firsts", "firsts", defArgs s_firsts, defBody s_firsts, defScope s_firsts, [], []⟩) rfl
    g_read_on := He.glo_ok X G (c.t.d.fact 68 (f := .glo "read_on") rfl)
    d_read_on := c.t.d.def_ 11 (d := ⟨("read_on", none), "read_on", "read_on", defArgs s_read_on, defBody s_read_on, defScope s_read_on, [], []⟩) rfl
    g_changed_text := He.glo_ok X G (c.t.d.fact 69 (f := .glo "changed_text") rfl)
    d_changed_text := c.t.d.def_ 12 (d := ⟨("changed_text", none), "changed_text", "changed_text", defArgs s_changed_text, defBody s_changed_text, defScope s_changed_text, [], []⟩) rfl
    g_check_change := He.glo_ok X G (c.t.d.fact 70 (f := .glo "check_change") rfl)
    d_check_change := c.t.d.def_ 13 (d := ⟨("check_change", none), "check_change", "check_change", defArgs s_check_change, defBody s_check_change, defScope s_check_change, [], []⟩) rfl
    g_same_ahead := He.glo_ok X G (c.t.d.fact 71 (f := .glo "same_ahead") rfl)
    d_same_ahead := c.t.d.def_ 14 (d := ⟨("same_ahead", none), "same_ahead", "same_ahead", defArgs s_same_ahead, defBody s_same_ahead, defScope s_same_ahead, [], []⟩) rfl
    g_patch_between := He.glo_ok X G (c.t.d.fact 72 (f := .glo "patch_between") rfl)
    d_patch_between := c.t.d.def_ 15 (d := ⟨("patch_between", none), "patch_between", "patch_between", defArgs s_patch_between, defBody s_patch_between, defScope s_patch_between, [], []⟩) rfl
    g_patch_of := He.glo_ok X G (c.t.d.fact 73 (f := .glo "patch_of") rfl)
    d_patch_of := c.t.d.def_ 16 (d := ⟨("patch_of", none), "patch_of", "patch_of", defArgs s_patch_of, defBody s_patch_of, defScope s_patch_of, [], []⟩) rfl
    g_recut := He.glo_ok X G (c.t.d.fact 74 (f := .glo "recut") rfl)
    d_recut := c.t.d.def_ 17 (d := ⟨("recut", none), "recut", "recut", defArgs s_recut, defBody s_recut, defScope s_recut, [], []⟩) rfl
    g_patched := He.glo_ok X G (c.t.d.fact 75 (f := .glo "patched") rfl)
    d_patched := c.t.d.def_ 18 (d := ⟨("patched", none), "patched", "patched", defArgs s_patched, defBody s_patched, defScope s_patched, [], []⟩) rfl
    g_edge := He.glo_ok X G (c.t.d.fact 76 (f := .glo "edge") rfl)
    d_edge := c.t.d.def_ 19 (d := ⟨("edge", none), "edge", "edge", defArgs s_edge, defBody s_edge, defScope s_edge, [], []⟩) rfl
    g_right_edge := He.glo_ok X G (c.t.d.fact 77 (f := .glo "right_edge") rfl)
    d_right_edge := c.t.d.def_ 20 (d := ⟨("right_edge", none), "right_edge", "right_edge", defArgs s_right_edge, defBody s_right_edge, defScope s_right_edge, [], []⟩) rfl
    g_left_edge := He.glo_ok X G (c.t.d.fact 78 (f := .glo "left_edge") rfl)
    d_left_edge := c.t.d.def_ 21 (d := ⟨("left_edge", none), "left_edge", "left_edge", defArgs s_left_edge, defBody s_left_edge, defScope s_left_edge, [], []⟩) rfl
    g_with_ends := He.glo_ok X G (c.t.d.fact 79 (f := .glo "with_ends") rfl)
    d_with_ends := c.t.d.def_ 22 (d := ⟨("with_ends", none), "with_ends", "with_ends", defArgs s_with_ends, defBody s_with_ends, defScope s_with_ends, [], []⟩) rfl
    g_edges_meet := He.glo_ok X G (c.t.d.fact 80 (f := .glo "edges_meet") rfl)
    d_edges_meet := c.t.d.def_ 23 (d := ⟨("edges_meet", none), "edges_meet", "edges_meet", defArgs s_edges_meet, defBody s_edges_meet, defScope s_edges_meet, [], []⟩) rfl
    d_Follows___init__ := c.t.d.def_ 24 (d := ⟨("Follows", some "__init__"), "__init__", "Follows.__init__", defArgs s_Follows___init__, defBody s_Follows___init__, defScope s_Follows___init__, [], []⟩) rfl
    d_Follows_is_alone := c.t.d.def_ 25 (d := ⟨("Follows", some "is_alone"), "is_alone", "Follows.is_alone", defArgs s_Follows_is_alone, defBody s_Follows_is_alone, defScope s_Follows_is_alone, [], []⟩) rfl
    d_Follows_first_rank := c.t.d.def_ 26 (d := ⟨("Follows", some "first_rank"), "first_rank", "Follows.first_rank", defArgs s_Follows_first_rank, defBody s_Follows_first_rank, defScope s_Follows_first_rank, [], []⟩) rfl
    d_Follows_pair_all := c.t.d.def_ 27 (d := ⟨("Follows", some "pair_all"), "pair_all", "Follows.pair_all", defArgs s_Follows_pair_all, defBody s_Follows_pair_all, defScope s_Follows_pair_all, [], []⟩) rfl
    d_Follows_table := c.t.d.def_ 28 (d := ⟨("Follows", some "table"), "table", "Follows.table", defArgs s_Follows_table, defBody s_Follows_table, defScope s_Follows_table, [], []⟩) rfl
    d_Follows_alone := c.t.d.def_ 29 (d := ⟨("Follows", some "alone"), "alone", "Follows.alone", defArgs s_Follows_alone, defBody s_Follows_alone, defScope s_Follows_alone, [], []⟩) rfl
    d_Follows_has_alone := c.t.d.def_ 30 (d := ⟨("Follows", some "has_alone"), "has_alone", "Follows.has_alone", defArgs s_Follows_has_alone, defBody s_Follows_has_alone, defScope s_Follows_has_alone, [], []⟩) rfl
    d_Follows_may := c.t.d.def_ 31 (d := ⟨("Follows", some "may"), "may", "Follows.may", defArgs s_Follows_may, defBody s_Follows_may, defScope s_Follows_may, [], []⟩) rfl
    g_may_be_sign := He.glo_ok X G (c.t.d.fact 81 (f := .glo "may_be_sign") rfl)
    d_may_be_sign := c.t.d.def_ 32 (d := ⟨("may_be_sign", none), "may_be_sign", "may_be_sign", defArgs s_may_be_sign, defBody s_may_be_sign, defScope s_may_be_sign, [], []⟩) rfl
    g_check_signs := He.glo_ok X G (c.t.d.fact 82 (f := .glo "check_signs") rfl)
    d_check_signs := c.t.d.def_ 33 (d := ⟨("check_signs", none), "check_signs", "check_signs", defArgs s_check_signs, defBody s_check_signs, defScope s_check_signs, [], []⟩) rfl
    d_Table___init__ := c.t.d.def_ 34 (d := ⟨("Table", some "__init__"), "__init__", "Table.__init__", defArgs s_Table___init__, defBody s_Table___init__, defScope s_Table___init__, [], []⟩) rfl
    d_Table_take_piece := c.t.d.def_ 35 (d := ⟨("Table", some "take_piece"), "take_piece", "Table.take_piece", defArgs s_Table_take_piece, defBody s_Table_take_piece, defScope s_Table_take_piece, [], []⟩) rfl
    d_Table_may_take_row := c.t.d.def_ 36 (d := ⟨("Table", some "may_take_row"), "may_take_row", "Table.may_take_row", defArgs s_Table_may_take_row, defBody s_Table_may_take_row, defScope s_Table_may_take_row, [], []⟩) rfl
    d_Table_take_row := c.t.d.def_ 37 (d := ⟨("Table", some "take_row"), "take_row", "Table.take_row", defArgs s_Table_take_row, defBody s_Table_take_row, defScope s_Table_take_row, [], []⟩) rfl
    d_Table_signs := c.t.d.def_ 38 (d := ⟨("Table", some "signs"), "signs", "Table.signs", defArgs s_Table_signs, defBody s_Table_signs, defScope s_Table_signs, [], []⟩) rfl
    d_Table_rows := c.t.d.def_ 39 (d := ⟨("Table", some "rows"), "rows", "Table.rows", defArgs s_Table_rows, defBody s_Table_rows, defScope s_Table_rows, [], []⟩) rfl
    d_Table_pieces := c.t.d.def_ 40 (d := ⟨("Table", some "pieces"), "pieces", "Table.pieces", defArgs s_Table_pieces, defBody s_Table_pieces, defScope s_Table_pieces, [], []⟩) rfl
    d_Table_which := c.t.d.def_ 41 (d := ⟨("Table", some "which"), "which", "Table.which", defArgs s_Table_which, defBody s_Table_which, defScope s_Table_which, [], []⟩) rfl
    d_Table_parts := c.t.d.def_ 42 (d := ⟨("Table", some "parts"), "parts", "Table.parts", defArgs s_Table_parts, defBody s_Table_parts, defScope s_Table_parts, [], []⟩) rfl
    d_Table_rank := c.t.d.def_ 43 (d := ⟨("Table", some "rank"), "rank", "Table.rank", defArgs s_Table_rank, defBody s_Table_rank, defScope s_Table_rank, [], []⟩) rfl
    d_Table_longest := c.t.d.def_ 44 (d := ⟨("Table", some "longest"), "longest", "Table.longest", defArgs s_Table_longest, defBody s_Table_longest, defScope s_Table_longest, [], []⟩) rfl
    g__law_cell_at := He.glo_ok X G (c.t.d.fact 83 (f := .glo "_law_cell_at") rfl)
    d__law_cell_at := c.t.d.def_ 45 (d := ⟨("_law_cell_at", none), "_law_cell_at", "_law_cell_at", defArgs s__law_cell_at, defBody s__law_cell_at, defScope s__law_cell_at, [], []⟩) rfl
    g__law_numbers := He.glo_ok X G (c.t.d.fact 84 (f := .glo "_law_numbers") rfl)
    d__law_numbers := c.t.d.def_ 46 (d := ⟨("_law_numbers", none), "_law_numbers", "_law_numbers", defArgs s__law_numbers, defBody s__law_numbers, defScope s__law_numbers, [], []⟩) rfl
    g__law_signs := He.glo_ok X G (c.t.d.fact 85 (f := .glo "_law_signs") rfl)
    d__law_signs := c.t.d.def_ 47 (d := ⟨("_law_signs", none), "_law_signs", "_law_signs", defArgs s__law_signs, defBody s__law_signs, defScope s__law_signs, [], []⟩) rfl
    g__law_rows := He.glo_ok X G (c.t.d.fact 86 (f := .glo "_law_rows") rfl)
    d__law_rows := c.t.d.def_ 48 (d := ⟨("_law_rows", none), "_law_rows", "_law_rows", defArgs s__law_rows, defBody s__law_rows, defScope s__law_rows, [], []⟩) rfl
    g__law_table := He.glo_ok X G (c.t.d.fact 87 (f := .glo "_law_table") rfl)
    d__law_table := c.t.d.def_ 49 (d := ⟨("_law_table", none), "_law_table", "_law_table", defArgs s__law_table, defBody s__law_table, defScope s__law_table, [], []⟩) rfl
    g__law_cut := He.glo_ok X G (c.t.d.fact 88 (f := .glo "_law_cut") rfl)
    d__law_cut := c.t.d.def_ 50 (d := ⟨("_law_cut", none), "_law_cut", "_law_cut", defArgs s__law_cut, defBody s__law_cut, defScope s__law_cut, [], []⟩) rfl
    g__law_pieces := He.glo_ok X G (c.t.d.fact 89 (f := .glo "_law_pieces") rfl)
    d__law_pieces := c.t.d.def_ 51 (d := ⟨("_law_pieces", none), "_law_pieces", "_law_pieces", defArgs s__law_pieces, defBody s__law_pieces, defScope s__law_pieces, [], []⟩) rfl
    g__law_words := He.glo_ok X G (c.t.d.fact 90 (f := .glo "_law_words") rfl)
    d__law_words := c.t.d.def_ 52 (d := ⟨("_law_words", none), "_law_words", "_law_words", defArgs s__law_words, defBody s__law_words, defScope s__law_words, [], []⟩) rfl
    g__law_whole := He.glo_ok X G (c.t.d.fact 91 (f := .glo "_law_whole") rfl)
    d__law_whole := c.t.d.def_ 53 (d := ⟨("_law_whole", none), "_law_whole", "_law_whole", defArgs s__law_whole, defBody s__law_whole, defScope s__law_whole, [], []⟩) rfl
    g__law_fits := He.glo_ok X G (c.t.d.fact 92 (f := .glo "_law_fits") rfl)
    d__law_fits := c.t.d.def_ 54 (d := ⟨("_law_fits", none), "_law_fits", "_law_fits", defArgs s__law_fits, defBody s__law_fits, defScope s__law_fits, [], []⟩) rfl
    g__law_long := He.glo_ok X G (c.t.d.fact 93 (f := .glo "_law_long") rfl)
    d__law_long := c.t.d.def_ 55 (d := ⟨("_law_long", none), "_law_long", "_law_long", defArgs s__law_long, defBody s__law_long, defScope s__law_long, [], []⟩) rfl
    g__law_is_cutting := He.glo_ok X G (c.t.d.fact 94 (f := .glo "_law_is_cutting") rfl)
    d__law_is_cutting := c.t.d.def_ 56 (d := ⟨("_law_is_cutting", none), "_law_is_cutting", "_law_is_cutting", defArgs s__law_is_cutting, defBody s__law_is_cutting, defScope s__law_is_cutting, [], []⟩) rfl
    g__law_from_end := He.glo_ok X G (c.t.d.fact 95 (f := .glo "_law_from_end") rfl)
    d__law_from_end := c.t.d.def_ 57 (d := ⟨("_law_from_end", none), "_law_from_end", "_law_from_end", defArgs s__law_from_end, defBody s__law_from_end, defScope s__law_from_end, [], []⟩) rfl
    g__law_parts := He.glo_ok X G (c.t.d.fact 96 (f := .glo "_law_parts") rfl)
    d__law_parts := c.t.d.def_ 58 (d := ⟨("_law_parts", none), "_law_parts", "_law_parts", defArgs s__law_parts, defBody s__law_parts, defScope s__law_parts, [], []⟩) rfl
    g__law_good_ends := He.glo_ok X G (c.t.d.fact 97 (f := .glo "_law_good_ends") rfl)
    d__law_good_ends := c.t.d.def_ 59 (d := ⟨("_law_good_ends", none), "_law_good_ends", "_law_good_ends", defArgs s__law_good_ends, defBody s__law_good_ends, defScope s__law_good_ends, [], []⟩) rfl
    g__law_led := He.glo_ok X G (c.t.d.fact 98 (f := .glo "_law_led") rfl)
    d__law_led := c.t.d.def_ 60 (d := ⟨("_law_led", none), "_law_led", "_law_led", defArgs s__law_led, defBody s__law_led, defScope s__law_led, [], []⟩) rfl
    g_law := He.glo_ok X G (c.t.d.fact 99 (f := .glo "law") rfl)
    d_law := c.t.d.def_ 61 (d := ⟨("law", none), "law", "law", defArgs s_law, defBody s_law, defScope s_law, [], []⟩) rfl }
theorem law_fact {P : Program} {w : World} {K : PySem.W.Frag} {h : Heap} {mg : Str → Option Value} {f : Addr} (X : K.In h) (G : h.Ns mainGlobals mg) (hfa : mg ("law" : Str) = some (.ref f)) (c : He.SaysX fa fn [] [] (fun K => (exs K).all id) w h K) :
    ∃ fd : FuncData, (∀ (s : Shared) (v : Value), BindsTo s fd ⟨[v], []⟩ [("_law_script", v)]) ∧ ∀ base : Heap, K.In base → base.Ns mainGlobals mg → FnOk P w K mg base CX0 11 f fd ["_law_script"] (spLaw K) := by
  have T := tx_of X G c
  have e := hfa.symm.trans (He.glo_ok X G (c.t.d.fact 99 (f := .glo "law") rfl))
  cases e
  obtain ⟨fd, F, ok⟩ := fn_law (P := P) (w := w) T
  have b := FunD.bindsA (ps := ["_law_script"]) F fun _ _ _ _ _ _ us hl => match us, hl with | [_], _ => rfl
  exact ⟨fd, fun s v => b s [v] rfl, fun base _ _ => ok base⟩
end Jr
open PySem PySem.W PySem.Calls PyProof.Rows
set_option maxRecDepth 100000 in
set_option maxHeartbeats 0 in
theorem PySem.Challenge.cw_joinranks_k45_whole_patches_lead_holds : PySem.Challenge.rw_joinranks_k45_whole_patches_lead.Holds := by
  w_on; o_law
  refine HandSHeadRun.head_any (r := OpenLaw.row PySem.Challenge.rw_joinranks_k45_whole_patches_lead) (q := view (OpenLaw.row PySem.Challenge.rw_joinranks_k45_whole_patches_lead).prog [68]) (H := Jr.hk) (ob := Jr.ob) (M := 8000) (loose := Jr.loose) (d := HandSHeadRun.topDef (OpenLaw.row PySem.Challenge.rw_joinranks_k45_whole_patches_lead).prog 68) (kwd := []) Jr.ob_eq
    (by kernel_rfl) (fun s => by kernel_rfl) Jr.run (by kernel_rfl) (by kernel_rfl) (by kernel_rfl) (by rfl) (by first | assumption | decide +kernel) (by decide +kernel) ⟨rfl, rfl, rfl, rfl, rfl, by decide +kernel⟩ ?hw ?hc
  case hw => w_witness2
  case hc =>
    refine L2.walk_ofE (l := PySem.Challenge.rw_joinranks_k45_whole_patches_lead) (n := 63) (k := 11) (x := "_law_script") (CX := L2.CX0) rfl (by decide) (by kernel_rfl) ⟨rfl, by decide, by decide⟩ ?F (fun _ _ _ _ z => z)
    intro w mg fa h Y G hmg0
    obtain ⟨K, KX, c⟩ := Y
    have hmg : mg ("law" : PySem.Str) = some (.ref fa) := by
      have e : (HandSHeadRun.topDef (OpenLaw.row PySem.Challenge.rw_joinranks_k45_whole_patches_lead).prog 68).name = ("law" : PySem.Str) := by kernel_rfl
      rw [← e]
      exact hmg0
    obtain ⟨fd, hb, hF⟩ := Jr.law_fact (P := (PySem.Challenge.rw_joinranks_k45_whole_patches_lead).prog) (w := w) KX G hmg c
    exact ⟨K, fd, Jr.spLaw K, KX, hb, fun H a ns hl _ hS => ⟨a, ns, rfl, hS, hl, fun _ => rfl⟩, hF⟩
#print axioms PySem.Challenge.cw_joinranks_k45_whole_patches_lead_holds

