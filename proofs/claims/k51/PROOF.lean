import PyProof.Rows.All
import Wide.All
import OpenK.AllK
import Wide.FinOn
import KE.KStateDown
import Lean
import HandS.ForMost
import HandS.Exc
import HandS.TryOnly
import HandS.ExcOwn
import HandS.WordsExc
import HandS.ExcInit
import HandS.ExcField
import HandS.CallSlots
import KE.KExcIs
import HandS.ExcIs
import HandS.Conv
import HandS.SortKw
import KE.DataMinMax
import HandS.AnyAll
import HandS.IsInst
import HandS.Style
import HandS.Wide
import HandS.FStr
import HandS.Flow
import HandS.Codes
import HandS.Defaults
import HandS.More
import HandS.Head0
import HandS.Head1
import HandS.Head2
import HandS.HeadEnd
import HandS.HeadHook1
import HandS.HeadHook2
import HandS.HeadHook3
import HandS.HeadHook4
import HandS.EndBits
import HandS.EndTab
import HandS.HeadWalk
import HandS.RevRange
import KE.KDictZip
import HandS.TryMany
import HandS.ExcValue
import HandS.NoneIn
import HandS.Deep
import PySem.Challenge.RW_joinranks_k51_kept_under_other_tables
set_option Elab.async false
set_option linter.all false
set_option maxRecDepth 100000
set_option maxHeartbeats 2000000
namespace Jr
open PySem PySem.Spec PyProof.Rows L2
/-! ### list(text) -/
/-- the signs of a text, each a text -/
def sgn (c : Nat) : Str := ⟨#[c]⟩
def sgs (z : Str) : List Str := z.cps.toList.map sgn
theorem sgs_len (z : Str) : (sgs z).length = z.length := by simp [sgs, Str.length]
section
variable {X : Cx}
def rListStr : List V → Hp → VK → Prop := fun xs H Q => ∃ z : Str, xs = [.str z] ∧ z.length ≤ sizeLine ∧ ∀ l, H l = none → Q (.ref l) (upd H l (.lst ((sgs z).map V.str)))
theorem call_list_str (hc : X.calm = true) : CallR X (.type "list") rListStr := by
  intro pins s σ H xs us Q I r h
  obtain ⟨z, rfl, hz, q⟩ := h
  cases r with
  | cons r rr =>
    cases rr
    obtain ⟨t, rfl⟩ := r
    refine PySem.call_list_str (I.ok.hd hc) z t (fun h' tk acc c' hk e hi => ?_) hz
    refine ⟨.ref s.heap.objs.size, upd H s.heap.objs.size (.lst ((sgs z).map V.str)), I.laid hk (Nat.le_refl _) ⟨by rw [List.length_map, sgs_len]; exact hz, acc.toList, c', ?_, by rw [Array.toArray_toList]; exact e⟩, rfl, q _ (I.hok.fresh (Nat.le_refl _))⟩
    refine vals_of_idx _ _ (by rw [List.length_map, sgs_len, Array.length_toList]; exact hi.1) fun j u hj => ?_
    obtain ⟨c, t', hcx, rfl⟩ := hi.2 j u (by rw [← Array.getElem?_toList]; exact hj)
    refine ⟨.str (sgn c), ?_, ⟨_, rfl⟩⟩
    have e1 : z.cps.toList[j]? = some c := by rw [Array.getElem?_toList]; exact hcx
    simp [sgs, e1]
end
/-! ### enumerate(text) -/
def Ites (x : Str) : It :=
  ⟨fun i _ => i < x.cps.size, fun i H v H' => ∃ T c, v = .ref T ∧ H T = none ∧ x.cps[i]? = some c ∧ H' = upd H T (.tup [.int (i : Nat), .str (sgn c)]), fun i _ => x.cps.size ≤ i⟩
theorem turn_enumS {P : Program} {w : World} {K : PySem.W.Frag} {elts : List Expr} {kk : Nat} {tpos : Pos} (x : Str) (t : Tok) (ty : String) (hty : ty = "str_ascii_iterator" ∨ ty = "str_iterator") (e it : Addr) :
    Turn P w K (.Tuple elts kk tpos) (Ites x) [e, it] e (fun i h => i ≤ x.cps.size ∧ (∃ old, IsEnum h e it ((i : Nat) : Int) old) ∧ h.IsStrIter it ty x t i ∧ e ≠ it) where
  mem := by simp
  obj := fun i h st b hb => by
    obtain ⟨_, ⟨old, he⟩, ⟨o, ho, hc, hd⟩, _⟩ := st
    have e' : b = e ∨ b = it := by simpa using hb
    rcases e' with z | z
    · rw [z]; exact ⟨_, he, fun v q => nomatch q⟩
    · rw [z]; exact ⟨o, ho, fun v q => by rw [hd] at q; cases q⟩
  keep := fun i h h' st k => let ⟨hl, ⟨old, he⟩, ⟨o, ho, r⟩, hne⟩ := st; ⟨hl, ⟨old, k e (by simp) _ he⟩, ⟨o, k it (by simp) o ho, r⟩, hne⟩
  item := by
    intro X hP hw hK hc i pins s σ H E I hf st hg
    subst hP hw hK
    obtain ⟨hl0, ⟨old, he⟩, hit, hne⟩ := st
    have D : Draws X.prog X.w X.A.in1 it [it] x.cps.size (fun i v => ∃ c u, x.cps[i]? = some c ∧ v = .str ⟨#[c]⟩ u) (fun i h => h.IsStrIter it ty x t i) := by
      rcases hty with z | z
      · rw [z]; exact Draws.strAscii (A := X.A.in1) (I.ok.hd hc) it x t
      · rw [z]; exact Draws.strWide (A := X.A.in1) (I.ok.hd hc) it x t
    have hel : e < s.heap.objs.size := Heap.lt_size he
    have hil : it < s.heap.objs.size := by obtain ⟨_, q, _⟩ := hit; exact Heap.lt_size q
    refine wpAny_pyNext_enum_itemD D he hit hg hne (by simpa using hne) fun u h' tk hu ho hit' hT hsz hk => ?_
    obtain ⟨c, tu, hcx, rfl⟩ := hu
    refine ⟨_, rfl, wpAny_letOwnedTupleGo_enum (s := { s with heap := h', toks := tk + 1 }) ho fun h'' he' sb => ?_⟩
    have hT2 : h''.get? s.heap.objs.size = some { cls := .type "tuple", data := .seq #[.int i tk, .str ⟨#[c]⟩ tu] } := (sb.2 _ (Nat.ne_of_gt hel)).trans hT
    have new : ObjOk X.prog X.w (upd H s.heap.objs.size (.tup [.int (i : Nat), .str (sgn c)])) h'' s.heap.objs.size (.tup [.int (i : Nat), .str (sgn c)]) :=
      ⟨by show 2 ≤ sizeLine; decide, [.int i tk, .str ⟨#[c]⟩ tu], .cons ⟨_, rfl⟩ (.cons ⟨_, rfl⟩ .nil), ⟨_, hT2, rfl, _, rfl⟩⟩
    have I1 : Inv X pins σ (upd H s.heap.objs.size (.tup [.int (i : Nat), .str (sgn c)])) { s with heap := h'', toks := tk + 1 } :=
      I.turnedNew (ch := [e, it]) (fun b ob hb q => (sb.2 b (fun z => hb (by simp [z]))).trans (hk b ob (fun z => hb (by simp [z])) (fun z => hb (by simp [z])) q)) hf (Nat.le_refl _) new
    refine ⟨.ref s.heap.objs.size, _, I1, rfl, ⟨_, c, rfl, I.hok.fresh (Nat.le_refl _), hcx, rfl⟩, ⟨hg, ⟨.str ⟨#[c]⟩ tu, ?_⟩, ?_, hne⟩, fun b hb => ?_⟩
    · have e1 : ((i + 1 : Nat) : Int) = (i : Int) + 1 := by omega
      rw [e1]; exact he'
    · obtain ⟨o, q, r⟩ := hit'
      exact ⟨o, (sb.2 it (Ne.symm hne)).trans q, r⟩
    · have hb' : b < s.heap.objs.size := by
        have e' : b = e ∨ b = it := by simpa using hb
        rcases e' with z | z
        · rw [z]; exact hel
        · rw [z]; exact hil
      rw [upd_ne (Nat.ne_of_lt hb')]
      exact (hf b hb).1
  done := by
    intro X hP hw hK hc i pins s σ H E I hf st hg
    subst hP hw hK
    obtain ⟨hl0, ⟨old, he⟩, hit, hne⟩ := st
    have ei : i = x.cps.size := Nat.le_antisymm hl0 hg
    subst ei
    have D : Draws X.prog X.w X.A.in1 it [it] x.cps.size (fun i v => ∃ c u, x.cps[i]? = some c ∧ v = .str ⟨#[c]⟩ u) (fun i h => h.IsStrIter it ty x t i) := by
      rcases hty with z | z
      · rw [z]; exact Draws.strAscii (A := X.A.in1) (I.ok.hd hc) it x t
      · rw [z]; exact Draws.strWide (A := X.A.in1) (I.ok.hd hc) it x t
    obtain ⟨f0, f1, f2, f3, f4, f5⟩ := hf it (by simp)
    exact wpAny_pyNext_enum_endD D he hit fun h' eb => ⟨rfl, I.turned (t' := s.toks) (fun b o hb q => eb b o hb q) f0 f1 f3 f4 f5⟩
  self := fun A i s Q E st h => let ⟨_, ⟨_, he⟩, _⟩ := st; wpAny_pyIter_enum he h
def iEnumS (ta : TA) : TI := fun σ H R => ta σ H fun vs H1 => ∃ x : Str, vs = [.str x] ∧ R (Ites x) H1
theorem pi_enumS {X : Cx} {e : Expr} {ta : TA} {p pos tpos : Pos} {elts : List Expr} {kk : Nat} (hg : Gl X "enumerate") (hm : X.mg "enumerate" = none) (ha : PA X [e] ta) (hs : starEach [e] X.env = [(false, eval e X.env)] := by rfl) :
    PI X (.Tuple elts kk tpos) (.Call (.Name "enumerate" p) [e] [] pos) (iEnumS ta) := by
  refine ⟨fun pins s σ H R I h => ?_⟩
  refine Call_ (ld_blt I hg hm boot_enumerate (PyProof.Rows.callWith_type1 (thn (ha.run pos pins s σ H _ I h) fun us s1 ⟨vs, H1, I1, r1, q1⟩ => ?_) hs rfl))
  obtain ⟨x, ex, q⟩ := q1
  subst ex
  cases r1 with
  | cons r rr =>
    cases rr
    obtain ⟨t, rfl⟩ := r
    refine call_enumerate_str fun h' he hit hsz hk => wpAny_pyIter_enum he ?_
    have I2 : Inv X pins σ H1 { s1 with heap := h' } := I1.kept (t' := s1.toks) hk
    have hty : strIterType x = "str_ascii_iterator" ∨ strIterType x = "str_iterator" := by
      unfold strIterType
      split
      · exact .inl rfl
      · exact .inr rfl
    refine ⟨s1.heap.objs.size + 1, [s1.heap.objs.size + 1, s1.heap.objs.size], _, _, H1, rfl, I2, turn_enumS x t (strIterType x) hty (s1.heap.objs.size + 1) s1.heap.objs.size, ⟨Nat.zero_le _, ⟨.none, he⟩, hit, Nat.succ_ne_self _⟩, fun b hb => ?_, q⟩
    have e' : b = s1.heap.objs.size + 1 ∨ b = s1.heap.objs.size := by simpa using hb
    have hle : s1.heap.objs.size ≤ b := by
      rcases e' with z | z
      · rw [z]; exact Nat.le_add_right _ _
      · rw [z]; exact Nat.le_refl _
    exact I1.fpOk hle (I1.hok.fresh hle)
/-! ### loops in short -/
section
variable {g : TG} {tb : TS} {D : Ends} {σ : L2.St} {H : Hp}
theorem for_enumS {x : Str} (Pv : Nat → L2.St → Hp → Prop) (h0 : Pv 0 σ H)
    (hs : ∀ i c T σ H, x.cps.toList[i]? = some c → H T = none → Pv i σ H → g (.ref T) σ (upd H T (.tup [.int (i : Nat), .str (sgn c)])) fun σ2 H2 => tb { D with nx := Pv (i + 1), ct := Pv (i + 1), bk := D.nx } σ2 H2) (hd : ∀ σ H, Pv x.cps.toList.length σ H → D.nx σ H) :
    ∃ W : Nat → Nat → L2.St → Hp → Prop, (∃ m, W 0 m σ H) ∧ ∀ i m σ H, W i m σ H →
      ((Ites x).stop i H ∧ D.nx σ H) ∨ ((Ites x).go i H ∧ ∃ N : L2.St → Hp → Prop, (∀ σ' H', N σ' H' → ∃ m', m' < m ∧ W (i + 1) m' σ' H') ∧ ∀ y H', (Ites x).yld i H y H' → g y σ H' fun σ2 H2 => tb { D with nx := N, ct := N, bk := D.nx } σ2 H2) := by
  have es : x.cps.toList.length = x.cps.size := by simp
  rw [es] at hd
  refine ⟨fun i m σ H => m = x.cps.size - i ∧ i ≤ x.cps.size ∧ Pv i σ H, ⟨x.cps.size, by simp, Nat.zero_le _, h0⟩, ?_⟩
  rintro i m σ H ⟨rfl, hi, p⟩
  by_cases hlt : i < x.cps.size
  · refine .inr ⟨hlt, Pv (i + 1), fun σ' H' p' => ⟨x.cps.size - (i + 1), by omega, rfl, hlt, p'⟩, fun y H' z => ?_⟩
    obtain ⟨T, c, rfl, hT, hc, rfl⟩ := z
    exact hs i c T σ H (by rw [Array.getElem?_toList]; exact hc) hT p
  · have e : i = x.cps.size := by omega
    subst e
    exact .inl ⟨Nat.le_refl _, hd σ H p⟩
theorem for_str {x : Str} (Pv : Nat → L2.St → Hp → Prop) (h0 : Pv 0 σ H)
    (hs : ∀ i c σ H, x.cps.toList[i]? = some c → Pv i σ H → g (.str (sgn c)) σ H fun σ2 H2 => tb { D with nx := Pv (i + 1), ct := Pv (i + 1), bk := D.nx } σ2 H2) (hd : ∀ σ H, Pv x.cps.toList.length σ H → D.nx σ H) :
    ∃ W : Nat → Nat → L2.St → Hp → Prop, (∃ m, W 0 m σ H) ∧ ∀ i m σ H, W i m σ H →
      ((Its x).stop i H ∧ D.nx σ H) ∨ ((Its x).go i H ∧ ∃ N : L2.St → Hp → Prop, (∀ σ' H', N σ' H' → ∃ m', m' < m ∧ W (i + 1) m' σ' H') ∧ ∀ y H', (Its x).yld i H y H' → g y σ H' fun σ2 H2 => tb { D with nx := N, ct := N, bk := D.nx } σ2 H2) := by
  have es : x.cps.toList.length = x.cps.size := by simp
  rw [es] at hd
  refine ⟨fun i m σ H => m = x.cps.size - i ∧ i ≤ x.cps.size ∧ Pv i σ H, ⟨x.cps.size, by simp, Nat.zero_le _, h0⟩, ?_⟩
  rintro i m σ H ⟨rfl, hi, p⟩
  by_cases hlt : i < x.cps.size
  · refine .inr ⟨hlt, Pv (i + 1), fun σ' H' p' => ⟨x.cps.size - (i + 1), by omega, rfl, hlt, p'⟩, fun y H' z => ?_⟩
    obtain ⟨e, c, hc, rfl⟩ := z
    subst e
    exact hs i c σ _ (by rw [Array.getElem?_toList]; exact hc) p
  · have e : i = x.cps.size := by omega
    subst e
    exact .inl ⟨Nat.le_refl _, hd σ H p⟩
theorem for_enum {K : PySem.W.Frag} {a : Addr} {xs : List V} (Pv : Nat → L2.St → Hp → Prop) (h0 : Pv 0 σ H) (hl : ∀ i σ H, i ≤ xs.length → Pv i σ H → SqL K H a xs)
    (hs : ∀ i x T σ H, xs[i]? = some x → H T = none → Pv i σ H → g (.ref T) σ (upd H T (.tup [.int (i : Nat), x])) fun σ2 H2 => tb { D with nx := Pv (i + 1), ct := Pv (i + 1), bk := D.nx } σ2 H2) (hd : ∀ σ H, Pv xs.length σ H → D.nx σ H) :
    ∃ W : Nat → Nat → L2.St → Hp → Prop, (∃ m, W 0 m σ H) ∧ ∀ i m σ H, W i m σ H →
      ((Ite K a).stop i H ∧ D.nx σ H) ∨ ((Ite K a).go i H ∧ ∃ N : L2.St → Hp → Prop, (∀ σ' H', N σ' H' → ∃ m', m' < m ∧ W (i + 1) m' σ' H') ∧ ∀ y H', (Ite K a).yld i H y H' → g y σ H' fun σ2 H2 => tb { D with nx := N, ct := N, bk := D.nx } σ2 H2) := by
  refine ⟨fun i m σ H => m = xs.length - i ∧ i ≤ xs.length ∧ Pv i σ H, ⟨xs.length, by simp, Nat.zero_le _, h0⟩, ?_⟩
  rintro i m σ H ⟨rfl, hi, p⟩
  have q := hl i σ H hi p
  by_cases hlt : i < xs.length
  · refine .inr ⟨⟨xs, xs[i], q, by simp [hlt]⟩, Pv (i + 1), fun σ' H' p' => ⟨xs.length - (i + 1), by omega, rfl, hlt, p'⟩, fun y H' z => ?_⟩
    obtain ⟨T, x, rfl, hT, rfl, hx⟩ := z
    exact hs i x T σ H (hx xs q) hT p
  · have e : i = xs.length := by omega
    subst e
    exact .inl ⟨⟨xs, q, Nat.le_refl _⟩, hd σ H p⟩
end
/-! ### defs and methods that keep a promise, by name -/
structure Cal (P : Program) (w : World) (K : PySem.W.Frag) (mg : Str → Option Value) (base : Heap) (CX : CXT) (k : Nat) (x : Str) (sp : Sp) : Prop where
  ex : ∃ (f : Addr) (fd : FuncData) (ps : List Str), FnOk P w K mg base CX k f fd ps sp ∧ mg x = some (.ref f) ∧ PySem.W.keepIn K (.ref f) = true ∧ Binds K fd ps []
structure Met (P : Program) (w : World) (K : PySem.W.Frag) (mg : Str → Option Value) (base : Heap) (CX : CXT) (k : Nat) (C : Addr) (m : Str) (sp : Sp) : Prop where
  cl : Cls K C
  ex : ∃ (f : Addr) (fd : FuncData) (ps : List Str), FnOk P w K mg base CX k f fd ps sp ∧ Meth K C m f ∧ Binds K fd ps []
structure Mkc (P : Program) (w : World) (K : PySem.W.Frag) (mg : Str → Option Value) (base : Heap) (CX : CXT) (k : Nat) (x : Str) (C : Addr) (sp : Sp) : Prop where
  ex : ∃ (f : Addr) (fd : FuncData) (ps : List Str), FnOk P w K mg base CX k f fd ps sp ∧ Mk K C f ∧ Binds K fd ps []
  g : mg x = some (.ref C)
section
variable {X : Cx} {k : Nat} {x : Str} {sp : Sp} {e : Expr} {es : List Expr} {t : TA} {p pos apos : Pos} {C : Addr} {m : Str} {o : Expr} {ta : TE}
theorem pe_cal (F : Cal X.prog X.w X.K X.mg X.base CX0 k x sp) (hr : Room k X.A) (hg : Gl X x) (ha : PA X (e :: es) t) (hdb : (x == ("__debug__" : Str)) = false := by decide)
    (he : starEach (e :: es) X.env = (false, eval e X.env) :: starEach es X.env := by rfl) (hpl : (backTo pos (starEach es X.env)).any (·.1) = false := by rfl) :
    PE X (.Call (.Name x p) (e :: es) [] pos) (fun σ H Q => t σ H fun vs H1 => sp vs H1 Q E0) := by
  obtain ⟨f, fd, ps, G, gm, kp, b⟩ := F.ex
  have z := pe_call (p := p) (pos := pos) (es := es) G hr hg gm kp b .nil pass0 ha hdb he hpl
  refine ⟨fun pins s σ H Q I h => z.run pins s σ H Q I ?_⟩
  show t σ H fun vs H1 => sp (vs ++ []) H1 Q E0
  simpa only [List.append_nil] using h
theorem pe_cal0 (F : Cal X.prog X.w X.K X.mg X.base CX0 k x sp) (hr : Room k X.A) (hg : Gl X x) (hdb : (x == ("__debug__" : Str)) = false := by decide) :
    PE X (.Call (.Name x p) [] [] pos) (fun _ H Q => sp [] H Q E0) := by
  obtain ⟨f, fd, ps, G, gm, kp, b⟩ := F.ex
  have z := pe_call0 (p := p) (pos := pos) G hr hg gm kp b .nil pass0 hdb
  exact ⟨fun pins s σ H Q I h => z.run pins s σ H Q I h⟩
theorem pe_met {pl : Sem Bool} (F : Met X.prog X.w X.K X.mg X.base CX0 k C m sp) (ho : PE X o ta) (hr : Room k X.A) (ha : PA X (e :: es) t)
    (hc : eval (.Call (.Attribute o m apos) (e :: es) [] pos) X.env = (do
      let ov ← eval o X.env
      standAt apos.atName
      let (f, first) ← holding [ov] (getMethod ov m pl)
      callWith pos f first (backTo pos (starEach (e :: es) X.env)) (backToKw pos (keywordEach [] X.env))) := by rfl)
    (he : starEach (e :: es) X.env = (false, eval e X.env) :: starEach es X.env := by rfl) (hpl : (backTo pos (starEach es X.env)).any (·.1) = false := by rfl) :
    PE X (.Call (.Attribute o m apos) (e :: es) [] pos) (fun σ H Q => ta σ H fun x H1 => ∃ a dx fs, x = .ref a ∧ H1 a = some (.ins C dx fs) ∧ fs.lookup m = none ∧ t σ H1 fun vs H2 => sp (x :: vs) H2 Q E0) := by
  obtain ⟨f, fd, ps, G, mt, b⟩ := F.ex
  have z := pe_meth (apos := apos) (pos := pos) ho F.cl mt G hr b .nil pass0 ha he hpl hc
  refine ⟨fun pins s σ H Q I h => z.run pins s σ H Q I ?_⟩
  show ta σ H fun x H1 => ∃ a dx fs, x = .ref a ∧ H1 a = some (.ins C dx fs) ∧ fs.lookup m = none ∧ t σ H1 fun vs H2 => sp (x :: (vs ++ [])) H2 Q E0
  simpa only [List.append_nil] using h
theorem pe_met0 {pl : Sem Bool} (F : Met X.prog X.w X.K X.mg X.base CX0 k C m sp) (ho : PE X o ta) (hr : Room k X.A)
    (hc : eval (.Call (.Attribute o m apos) [] [] pos) X.env = (do
      let ov ← eval o X.env
      standAt apos.atName
      let (f, first) ← holding [ov] (getMethod ov m pl)
      callWith pos f first (backTo pos (starEach [] X.env)) (backToKw pos (keywordEach [] X.env))) := by rfl) :
    PE X (.Call (.Attribute o m apos) [] [] pos) (fun σ H Q => ta σ H fun x H1 => ∃ a dx fs, x = .ref a ∧ H1 a = some (.ins C dx fs) ∧ fs.lookup m = none ∧ sp [x] H1 Q E0) := by
  obtain ⟨f, fd, ps, G, mt, b⟩ := F.ex
  have z := pe_meth0 (apos := apos) (pos := pos) ho F.cl mt G hr b .nil pass0 hc
  exact ⟨fun pins s σ H Q I h => z.run pins s σ H Q I h⟩
theorem pe_mk (F : Mkc X.prog X.w X.K X.mg X.base CX0 k x C sp) (hr : Room (k + 1) X.A) (hg : Gl X x) (ha : PA X (e :: es) t) (hdb : (x == ("__debug__" : Str)) = false := by decide)
    (he : starEach (e :: es) X.env = (false, eval e X.env) :: starEach es X.env := by rfl) (hpl : (backTo pos (starEach es X.env)).any (·.1) = false := by rfl) :
    PE X (.Call (.Name x p) (e :: es) [] pos) (fun σ H Q => t σ H fun vs H1 => ∀ x dx, H1 x = none → H1 dx = none → dx ≠ x →
      sp (.ref x :: vs) (upd (upd H1 dx (.own x)) x (.ins C dx [])) (fun v H2 => v = .non ∧ Q (.ref x) H2) E0) := by
  obtain ⟨f, fd, ps, G, mk, b⟩ := F.ex
  have z := pe_make (p := p) (pos := pos) (es := es) mk G hr hg F.g b .nil pass0 ha hdb he hpl
  refine ⟨fun pins s σ H Q I h => z.run pins s σ H Q I ?_⟩
  show t σ H fun vs H1 => ∀ x dx, H1 x = none → H1 dx = none → dx ≠ x → sp (.ref x :: (vs ++ [])) (upd (upd H1 dx (.own x)) x (.ins C dx [])) (fun v H2 => v = .non ∧ Q (.ref x) H2) E0
  simpa only [List.append_nil] using h
end
/-! ### heaps -/
theorem Same.new {H : Hp} {p : Addr} {o : HO} (h : H p = none) : Same H (upd H p o) := fun b x e => by
  rw [upd_ne (ne_of_none e h)]
  exact e
/-- an object that H does not know may change -/
theorem Same.mut {H H' : Hp} {p : Addr} {o : HO} (s : Same H H') (h : H p = none) : Same H (upd H' p o) := fun b x e => by
  rw [upd_ne (ne_of_none e h)]
  exact s b x e
theorem Same.put {H H' : Hp} {p : Addr} {o : HO} (s : Same H H') (h : H' p = none) : Same H (upd H' p o) := s.trans (Same.new h)
theorem sz {n : Nat} (h : n ≤ 100000) : n ≤ sizeLine := Nat.le_trans h (by decide)
theorem szl {n : Nat} (h : n < 100000) : n < sizeLine := Nat.lt_of_lt_of_le h (by decide)
theorem ats {α : Type} {xs : List α} {i : Nat} {x : α} (h : xs[i]? = some x) : atI xs (i : Int) = some x := by
  have hl : i < xs.length := (List.getElem?_eq_some_iff.mp h).1
  unfold atI ixN
  rw [if_pos (by omega), if_pos (by omega)]
  simpa using h
/-- digits below their sizes -/
abbrev Digs : List Int → List Int → Prop := Paired fun z d => 0 ≤ d ∧ d < z
end Jr
namespace Jr
open PySem PySem.Spec PyProof.Rows L2
/-! ### xs + ys, lists that may be locked -/
def rCatL (K : PySem.W.Frag) : R2 := fun x y H Q => ∃ l b xs zs, x = .ref l ∧ y = .ref b ∧ SqL K H l xs ∧ SqL K H b zs ∧ xs.length + zs.length ≤ sizeLine ∧ ∀ p, H p = none → Q (.ref p) (upd H p (.lst (xs ++ zs)))
theorem op_catL {X : Cx} : OpR X (binaryOp .Add) (rCatL X.K) := by
  intro pins s σ H x y v u Q I rx ry h
  obtain ⟨l, b, xs, zs, rfl, rfl, hH, hB, hz, q⟩ := h
  cases rx
  cases ry
  obtain ⟨its, r, ⟨o1, n1, g1, c1, d1, t1⟩, z1⟩ := I.list hH
  obtain ⟨its2, r2, ⟨o2, n2, g2, c2, d2, t2⟩, z2⟩ := I.list hB
  obtain ⟨k1, e1, dt1, sl1⟩ := o1
  obtain ⟨k2, e2, dt2, sl2⟩ := o2
  simp only at c1 d1 t1 c2 d2 t2
  subst c1 d1 t1 c2 d2 t2
  have l1 := r.length
  have l2 := r2.length
  have ea : its.toArray ++ its2.toArray = (its ++ its2).toArray := by simp
  have fin := I.lnew (t' := s.toks) (r.append r2) (by rw [List.length_append]; omega)
  rw [← ea] at fin
  exact concat_meets ⟨_, g1, rfl⟩ ⟨_, g2, rfl⟩ noFill_list_add seq_list_add F.slot_list_add F.entry_list_add (F.args_list_add_2 _ _)
    (list_addW l b its.toArray its2.toArray n1 n2 none none sl1 sl2 (by rw [List.size_toArray, List.size_toArray]; omega)) ⟨g1, g2, ⟨.ref _, _, fin, rfl, q _ I.fresh⟩⟩
end Jr
namespace Jr
open PySem PySem.Spec PyProof.Rows L2
/-! ### rules whose reading names the written part, for comprehensions -/
section
variable {X : Cx} {K : PySem.W.Frag}
theorem call_len_seqK (h : X.K = K := by rfl) : CallR X (.builtin "len") (fun xs H Q => ∃ p ys, xs = [.ref p] ∧ (SqL K H p ys ∨ SqT K H p ys) ∧ Q (.int ys.length) H) := by subst h; exact call_len_seq
theorem ix_listK (h : X.K = K := by rfl) : IxR X (rIxL K) := by subst h; exact ix_list
theorem ix_tupK (h : X.K = K := by rfl) : IxR X (rIxT K) := by subst h; exact ix_tup
theorem sl_listK (h : X.K = K := by rfl) : SlR X (rSlL K) := by subst h; exact sl_list
theorem op_in_seqK (h : X.K = K := by rfl) : OpR X (compareOp .In) (rIn K false) := by subst h; exact op_in_seq
theorem op_notIn_seqK (h : X.K = K := by rfl) : OpR X (compareOp .NotIn) (rIn K true) := by subst h; exact op_notIn_seq
theorem op_eqDK (hu : X.A.units + 64 < cLine) (h : X.K = K := by rfl) : OpR X (compareOp .Eq) (rEqD K) := by subst h; exact op_eqD hu
theorem op_neDK (hu : X.A.units + 64 < cLine) (h : X.K = K := by rfl) : OpR X (compareOp .NotEq) (rNeD K) := by subst h; exact op_neD hu
theorem call_isiK' (h : X.K = K := by rfl) : CallR X (.builtin "isinstance") (rIsi K) := by subst h; exact call_isi
theorem call_list_ofK (h : X.K = K := by rfl) : CallR X (.type "list") (fun xs H Q => ∃ p ys, xs = [.ref p] ∧ (SqL K H p ys ∨ SqT K H p ys) ∧ ∀ l, H l = none → Q (.ref l) (upd H l (.lst ys))) := by subst h; exact call_list_of
end
end Jr
namespace Jr
open PySem PySem.Spec PyProof.Rows L2
/-! ### comprehensions whose element and test change nothing: a filter and a map -/
section
variable {α : Type} {item : α → V} {p : α → Bool} {f : α → V} {g : TG} {tt : TT} {te : TE} {vs : List Nat} {σ : L2.St} {H1 : Hp} {D : Addr} {Qd : Hp → Prop}
/-- one turn of such a comprehension -/
def LcTurn (item : α → V) (p : α → Bool) (f : α → V) (g : TG) (tt : TT) (te : TE) (vs : List Nat) (σ : L2.St) (H1 : Hp) (x : α) : Prop :=
  ∀ (H' : Hp), Same H1 H' → ∀ (N : Hp → Prop) (M : V → Hp → Prop), (p x = true → M (f x) H') → (p x = false → N H') →
    g (item x) (wipe σ vs) H' fun σ2 H2 => wipe σ2 vs = wipe σ vs ∧ tt σ2 H2 fun b H3 => if b = true then te σ2 H3 M else N H3
theorem lc_step {l : List α} {i : Nat} {x : α} {H : Hp} (hD : H1 D = none) (hx : l[i]? = some x) (hlen : l.length ≤ 100000) (turn : LcTurn item p f g tt te vs σ H1 x)
    (sm : Same H1 H) (hL : H D = some (.lst (((l.take i).filter p).map f))) :
    g (item x) (wipe σ vs) H fun σ2 H2 => wipe σ2 vs = wipe σ vs ∧ tt σ2 H2 fun b H3 =>
      if b = true then te σ2 H3 fun y H4 => ∃ acc, H4 D = some (.lst acc) ∧ acc.length < sizeLine ∧ (fun H' => Same H1 H' ∧ H' D = some (.lst (((l.take (i + 1)).filter p).map f))) (upd H4 D (.lst (acc ++ [y])))
      else (fun H' => Same H1 H' ∧ H' D = some (.lst (((l.take (i + 1)).filter p).map f))) H3 := by
  have e : l.take (i + 1) = l.take i ++ [x] := by rw [List.take_add_one, hx]; rfl
  refine turn H sm _ _ (fun hp => ?_) (fun hp => ?_)
  · refine ⟨_, hL, ?_, Same.mut sm hD, ?_⟩
    · have h1 : ((l.take i).filter p).length ≤ (l.take i).length := List.length_filter_le ..
      have h2 : (l.take i).length ≤ i := by rw [List.length_take]; omega
      have h3 : i < l.length := (List.getElem?_eq_some_iff.mp hx).1
      rw [List.length_map]
      exact szl (by omega)
    · rw [upd_same, e, List.filter_append, List.map_append]
      simp [hp]
  · refine ⟨sm, ?_⟩
    rw [hL, e, List.filter_append, List.map_append]
    simp [hp]
theorem lc_listM {K : PySem.W.Frag} {a : Addr} {l : List α} (hS : SqL K H1 a (l.map item)) (hD : H1 D = none) (hlen : l.length ≤ 100000) (turn : ∀ x ∈ l, LcTurn item p f g tt te vs σ H1 x)
    (hd : ∀ H, Same H1 H → H D = some (.lst ((l.filter p).map f)) → Qd H) :
    ∃ W : Nat → Nat → Hp → Prop, (∃ m, W 0 m (upd H1 D (.lst []))) ∧ ∀ i m H, W i m H →
      ((Itl K a).stop i H ∧ Qd H) ∨ ((Itl K a).go i H ∧ ∃ Nx : Hp → Prop, (∀ H', Nx H' → ∃ m', m' < m ∧ W (i + 1) m' H') ∧ ∀ x H', (Itl K a).yld i H x H' → g x (wipe σ vs) H' fun σ2 H2 => wipe σ2 vs = wipe σ vs ∧ tt σ2 H2 fun b H3 =>
        if b = true then te σ2 H3 fun y H4 => ∃ acc, H4 D = some (.lst acc) ∧ acc.length < sizeLine ∧ Nx (upd H4 D (.lst (acc ++ [y]))) else Nx H3) := by
  refine lc_list (K := K) (a := a) (xs := l.map item) (fun i H => Same H1 H ∧ H D = some (.lst (((l.take i).filter p).map f))) ⟨Same.new hD, upd_same⟩ (fun i H _ ⟨s, _⟩ => s.seq hS) ?_ ?_
  · rintro i x H hx ⟨sm, hL⟩
    rw [List.getElem?_map] at hx
    cases e : l[i]? with
    | none => rw [e] at hx; cases hx
    | some y =>
      rw [e] at hx
      cases hx
      exact lc_step hD e hlen (turn y (List.mem_of_getElem? e)) sm hL
  · rintro H ⟨sm, hL⟩
    rw [List.length_map, List.take_length] at hL
    exact hd H sm hL
theorem lc_strM {x : Str} {p : Nat → Bool} {f : Nat → V} (hD : H1 D = none) (hlen : x.cps.toList.length ≤ 100000) (turn : ∀ c ∈ x.cps.toList, LcTurn (fun c => V.str (sgn c)) p f g tt te vs σ H1 c)
    (hd : ∀ H, Same H1 H → H D = some (.lst ((x.cps.toList.filter p).map f)) → Qd H) :
    ∃ W : Nat → Nat → Hp → Prop, (∃ m, W 0 m (upd H1 D (.lst []))) ∧ ∀ i m H, W i m H →
      ((Its x).stop i H ∧ Qd H) ∨ ((Its x).go i H ∧ ∃ Nx : Hp → Prop, (∀ H', Nx H' → ∃ m', m' < m ∧ W (i + 1) m' H') ∧ ∀ y H', (Its x).yld i H y H' → g y (wipe σ vs) H' fun σ2 H2 => wipe σ2 vs = wipe σ vs ∧ tt σ2 H2 fun b H3 =>
        if b = true then te σ2 H3 fun y H4 => ∃ acc, H4 D = some (.lst acc) ∧ acc.length < sizeLine ∧ Nx (upd H4 D (.lst (acc ++ [y]))) else Nx H3) := by
  have es : x.cps.toList.length = x.cps.size := by simp
  refine ⟨fun i m H => m = x.cps.size - i ∧ i ≤ x.cps.size ∧ Same H1 H ∧ H D = some (.lst (((x.cps.toList.take i).filter p).map f)), ⟨x.cps.size, by simp, Nat.zero_le _, Same.new hD, upd_same⟩, ?_⟩
  rintro i m H ⟨rfl, hi, sm, hL⟩
  by_cases hlt : i < x.cps.size
  · refine .inr ⟨hlt, (fun H' => Same H1 H' ∧ H' D = some (.lst (((x.cps.toList.take (i + 1)).filter p).map f))), fun H' p' => ⟨x.cps.size - (i + 1), by omega, rfl, hlt, p'⟩, fun y H' z => ?_⟩
    obtain ⟨e, c, hc, rfl⟩ := z
    subst e
    have hc' : x.cps.toList[i]? = some c := by rw [Array.getElem?_toList]; exact hc
    exact lc_step (item := fun c => V.str (sgn c)) hD hc' hlen (turn c (List.mem_of_getElem? hc')) sm hL
  · have e : i = x.cps.size := by omega
    subst e
    rw [← es, List.take_length] at hL
    exact .inl ⟨Nat.le_refl _, hd H sm hL⟩
theorem lc_rangeM {lo : Int} {n : Nat} {p : Nat → Bool} {f : Nat → V} (hD : H1 D = none) (hlen : n ≤ 100000) (turn : ∀ i, i < n → LcTurn (fun i : Nat => V.int (lo + i)) p f g tt te vs σ H1 i)
    (hd : ∀ H, Same H1 H → H D = some (.lst (((List.range n).filter p).map f)) → Qd H) :
    ∃ W : Nat → Nat → Hp → Prop, (∃ m, W 0 m (upd H1 D (.lst []))) ∧ ∀ i m H, W i m H →
      ((Itr lo n).stop i H ∧ Qd H) ∨ ((Itr lo n).go i H ∧ ∃ Nx : Hp → Prop, (∀ H', Nx H' → ∃ m', m' < m ∧ W (i + 1) m' H') ∧ ∀ y H', (Itr lo n).yld i H y H' → g y (wipe σ vs) H' fun σ2 H2 => wipe σ2 vs = wipe σ vs ∧ tt σ2 H2 fun b H3 =>
        if b = true then te σ2 H3 fun y H4 => ∃ acc, H4 D = some (.lst acc) ∧ acc.length < sizeLine ∧ Nx (upd H4 D (.lst (acc ++ [y]))) else Nx H3) := by
  refine lc_range (lo := lo) (n := n) (fun i H => Same H1 H ∧ H D = some (.lst ((((List.range n).take i).filter p).map f))) ⟨Same.new hD, upd_same⟩ ?_ ?_
  · rintro i H hi ⟨sm, hL⟩
    exact lc_step (l := List.range n) (item := fun i : Nat => V.int (lo + i)) hD (by rw [List.getElem?_range hi]) (by rw [List.length_range]; exact hlen) (turn i hi) sm hL
  · rintro H ⟨sm, hL⟩
    have e : (List.range n).take n = List.range n := by
      have := List.take_length (l := List.range n)
      rw [List.length_range] at this
      exact this
    rw [e] at hL
    exact hd H sm hL
end
/-! ### lists -/
theorem pigeon {α : Type} [DecidableEq α] : ∀ (l m : List α), l.Nodup → (∀ x ∈ l, x ∈ m) → l.length ≤ m.length
  | [], _, _, _ => Nat.zero_le _
  | x :: l, m, nd, h => by
    have hx : x ∈ m := h x List.mem_cons_self
    have nd' := List.nodup_cons.mp nd
    have ih := pigeon l (m.erase x) nd'.2 fun y hy => by
      have hne : y ≠ x := fun e => nd'.1 (e ▸ hy)
      exact (List.mem_erase_of_ne hne).mpr (h y (List.mem_cons_of_mem _ hy))
    have hl := List.length_erase_of_mem hx
    have hp : 0 < m.length := List.length_pos_of_mem hx
    rw [List.length_cons]
    omega
theorem Paired.get {α β : Type} {F : α → β → Prop} : ∀ {l : List α} {m : List β} {i : Nat} {x : α}, Paired F l m → l[i]? = some x → ∃ y, m[i]? = some y ∧ F x y
  | _, _, _, _, .nil, h => by simp at h
  | _, _, 0, _, .cons r _, h => ⟨_, rfl, by have e := Option.some.inj h; subst e; exact r⟩
  | _, _, i + 1, _, .cons _ q, h => Paired.get (i := i) q h
theorem Paired.get2 {α β : Type} {F : α → β → Prop} : ∀ {l : List α} {m : List β} {i : Nat} {y : β}, Paired F l m → m[i]? = some y → ∃ x, l[i]? = some x ∧ F x y
  | _, _, _, _, .nil, h => by simp at h
  | _, _, 0, _, .cons r _, h => ⟨_, rfl, by have e := Option.some.inj h; subst e; exact r⟩
  | _, _, i + 1, _, .cons _ q, h => Paired.get2 (i := i) q h
theorem Paired.mem2 {α β : Type} {F : α → β → Prop} {l : List α} {m : List β} {y : β} (h : Paired F l m) (hy : y ∈ m) : ∃ x ∈ l, F x y := by
  obtain ⟨i, hi, e⟩ := List.mem_iff_getElem.mp hy
  obtain ⟨x, hx, r⟩ := Paired.get2 h (i := i) (by rw [List.getElem?_eq_getElem hi, e])
  exact ⟨x, List.mem_of_getElem? hx, r⟩
theorem Paired.app {α β : Type} {F : α → β → Prop} : ∀ {l : List α} {m : List β} {l' : List α} {m' : List β}, Paired F l m → Paired F l' m' → Paired F (l ++ l') (m ++ m')
  | _, _, _, _, .nil, h => h
  | _, _, _, _, .cons r q, h => .cons r (Paired.app q h)
theorem Paired.tk {α β : Type} {F : α → β → Prop} : ∀ {l : List α} {m : List β} (n : Nat), Paired F l m → Paired F (l.take n) (m.take n)
  | _, _, _, .nil => by simp only [List.take_nil]; exact .nil
  | _, _, 0, .cons _ _ => .nil
  | _, _, n + 1, .cons r q => .cons r (Paired.tk n q)
theorem Paired.dr {α β : Type} {F : α → β → Prop} : ∀ {l : List α} {m : List β} (n : Nat), Paired F l m → Paired F (l.drop n) (m.drop n)
  | _, _, _, .nil => by simp only [List.drop_nil]; exact .nil
  | _, _, 0, .cons r q => .cons r q
  | _, _, n + 1, .cons _ q => Paired.dr n q
theorem Paired.len {α β : Type} {F : α → β → Prop} {l : List α} {m : List β} (h : Paired F l m) : l.length = m.length := Paired.length h
/-! ### texts -/
theorem app_cps (a b : Str) : (a ++ b).cps.toList = a.cps.toList ++ b.cps.toList := by
  show (a.cps ++ b.cps).toList = _
  simp
theorem app_len (a b : Str) : (a ++ b).length = a.length + b.length := by
  show (a.cps ++ b.cps).size = a.cps.size + b.cps.size
  simp
theorem str_ext {a b : Str} (h : a.cps.toList = b.cps.toList) : a = b := by
  cases a; cases b
  simp only at h
  congr
  exact Array.toList_inj.mp h
theorem len_cps (a : Str) : a.cps.toList.length = a.length := by simp [Str.length]
theorem app_assoc (a b c : Str) : a ++ b ++ c = a ++ (b ++ c) := str_ext (by simp only [app_cps, List.append_assoc])
theorem sgn_inj {c d : Nat} (h : sgn c = sgn d) : c = d := by
  have e : (sgn c).cps.toList = (sgn d).cps.toList := by rw [h]
  simpa [sgn] using e
theorem sgn_len (c : Nat) : (sgn c).length = 1 := rfl
theorem cut_from (z : Str) (d : Nat) : (cutS z (some (d : Int)) none).cps.toList = z.cps.toList.drop d := by
  show ((z.cps.toList.drop (HT.sIx z.length 0 (some (d : Int)))).take (HT.sIx z.length z.length none - HT.sIx z.length 0 (some (d : Int)))).toArray.toList = _
  rw [HT.sIx_nat, HT.sIx_none, List.toList_toArray]
  have e : z.cps.toList.length = z.length := len_cps z
  by_cases h : d ≤ z.length
  · rw [Nat.min_eq_left h, List.take_of_length_le (by rw [List.length_drop, e]; exact Nat.le_refl _)]
  · rw [Nat.min_eq_right (by omega), List.drop_of_length_le (by omega), List.drop_of_length_le (by omega)]
    simp
theorem cut_to (z : Str) (d : Nat) : (cutS z none (some (d : Int))).cps.toList = z.cps.toList.take d := by
  show ((z.cps.toList.drop (HT.sIx z.length 0 none)).take (HT.sIx z.length z.length (some (d : Int)) - HT.sIx z.length 0 none)).toArray.toList = _
  rw [HT.sIx_nat, HT.sIx_none, List.toList_toArray, List.drop_zero, Nat.sub_zero]
  have e : z.cps.toList.length = z.length := len_cps z
  by_cases h : d ≤ z.length
  · rw [Nat.min_eq_left h]
  · rw [Nat.min_eq_right (by omega), List.take_of_length_le (by omega), List.take_of_length_le (by omega)]
theorem cutV_from (xs : List V) (d : Nat) : cutV xs (some (d : Int)) none = xs.drop d := by
  show (xs.drop (HT.sIx xs.length 0 (some (d : Int)))).take (HT.sIx xs.length xs.length none - HT.sIx xs.length 0 (some (d : Int))) = _
  rw [HT.sIx_nat, HT.sIx_none]
  by_cases h : d ≤ xs.length
  · rw [Nat.min_eq_left h, List.take_of_length_le (by rw [List.length_drop]; exact Nat.le_refl _)]
  · rw [Nat.min_eq_right (by omega), List.drop_of_length_le (Nat.le_refl _), List.drop_of_length_le (by omega)]
    simp
theorem cutV_to (xs : List V) (d : Nat) : cutV xs none (some (d : Int)) = xs.take d := by
  show (xs.drop (HT.sIx xs.length 0 none)).take (HT.sIx xs.length xs.length (some (d : Int)) - HT.sIx xs.length 0 none) = _
  rw [HT.sIx_nat, HT.sIx_none, List.drop_zero, Nat.sub_zero]
  by_cases h : d ≤ xs.length
  · rw [Nat.min_eq_left h]
  · rw [Nat.min_eq_right (by omega), List.take_of_length_le (Nat.le_refl _), List.take_of_length_le (by omega)]
theorem cutV_mid (xs : List V) (a b : Nat) : cutV xs (some (a : Int)) (some (b : Int)) = (xs.drop a).take (b - a) := by
  show (xs.drop (HT.sIx xs.length 0 (some (a : Int)))).take (HT.sIx xs.length xs.length (some (b : Int)) - HT.sIx xs.length 0 (some (a : Int))) = _
  rw [HT.sIx_nat, HT.sIx_nat]
  by_cases h : a ≤ xs.length
  · rw [Nat.min_eq_left h]
    by_cases h2 : b ≤ xs.length
    · rw [Nat.min_eq_left h2]
    · rw [Nat.min_eq_right (by omega), List.take_of_length_le (by rw [List.length_drop]; exact Nat.le_refl _), List.take_of_length_le (by rw [List.length_drop]; omega)]
  · rw [Nat.min_eq_right (show xs.length ≤ a by omega), List.drop_of_length_le (Nat.le_refl _), List.drop_of_length_le (by omega)]
    simp
/-- an item of a list of a kind, by its place -/
theorem atm {α : Type} {f : α → V} {xs : List α} {i : Nat} {x : α} (h : xs[i]? = some x) : atI (xs.map f) (i : Int) = some (f x) := ats (by rw [List.getElem?_map, h]; rfl)
end Jr
namespace Jr
open PySem PySem.Spec PyProof.Rows L2
/-! ### tables as data -/
/-- what the signs of a table are: unlike, from the blank to ~ but the percent sign -/
structure SignsOk (z : Str) : Prop where
  nd : z.cps.toList.Nodup
  ok : ∀ c ∈ z.cps.toList, 32 ≤ c ∧ c ≤ 126 ∧ c ≠ 37
abbrev Rws := List (Str × Str)
def jn (r : Str × Str) : Str := r.1 ++ r.2
/-- the pieces, by their numbers -/
def pcs (z : Str) (rs : Rws) : List Str := sgs z ++ rs.map jn
/-- each row's parts are pieces ahead of it, its joined text is none of these and has at most 16 signs -/
structure RowOk (z : Str) (rs : Rws) (r : Str × Str) : Prop where
  lm : r.1 ∈ pcs z rs
  rm : r.2 ∈ pcs z rs
  len : (jn r).length ≤ 16
  new : ¬ jn r ∈ pcs z rs
structure TabOk (z : Str) (rs : Rws) : Prop where
  sg : SignsOk z
  n1 : 1 ≤ z.length
  n12 : z.length ≤ 12
  many : rs.length ≤ 24
  rows : ∀ i r, rs[i]? = some r → RowOk z (rs.take i) r
theorem TabOk.nil {z : Str} (s : SignsOk z) (h1 : 1 ≤ z.length) (h2 : z.length ≤ 12) : TabOk z [] := ⟨s, h1, h2, Nat.zero_le _, fun i r h => by simp at h⟩
theorem TabOk.take {z : Str} {rs : Rws} (T : TabOk z rs) (n : Nat) : TabOk z (rs.take n) := by
  refine ⟨T.sg, T.n1, T.n12, Nat.le_trans (by rw [List.length_take]; omega) T.many, fun i r h => ?_⟩
  rw [List.getElem?_take] at h
  split at h
  · rename_i hi
    have := T.rows i r h
    rw [List.take_take, Nat.min_eq_left (by omega)]
    exact this
  · cases h
theorem TabOk.snoc {z : Str} {rs : Rws} {r : Str × Str} (T : TabOk z rs) (h : RowOk z rs r) (hl : rs.length < 24) : TabOk z (rs ++ [r]) := by
  refine ⟨T.sg, T.n1, T.n12, by rw [List.length_append]; simp; omega, fun i q hq => ?_⟩
  by_cases hi : i < rs.length
  · rw [List.getElem?_append_left hi] at hq
    rw [List.take_append_of_le_length (by omega)]
    exact T.rows i q hq
  · rw [List.getElem?_append_right (by omega)] at hq
    have e : i = rs.length := by
      by_cases e : i - rs.length = 0
      · omega
      · rw [List.getElem?_eq_none (by simp; omega)] at hq
        cases hq
    subst e
    rw [Nat.sub_self] at hq
    have e2 : r = q := Option.some.inj hq
    subst e2
    rw [List.take_left']
    · exact h
    · rfl
theorem pcs_len (z : Str) (rs : Rws) : (pcs z rs).length = z.length + rs.length := by
  unfold pcs
  rw [List.length_append, sgs_len, List.length_map]
theorem pcs_snoc (z : Str) (rs : Rws) (r : Str × Str) : pcs z (rs ++ [r]) = pcs z rs ++ [jn r] := by
  unfold pcs
  rw [List.map_append, ← List.append_assoc]
  rfl
theorem sgs_nodup {z : Str} (h : z.cps.toList.Nodup) : (sgs z).Nodup := by
  unfold sgs
  exact List.Pairwise.map _ (fun a b hab e => hab (sgn_inj e)) h
theorem TabOk.nodup {z : Str} {rs : Rws} (T : TabOk z rs) : (pcs z rs).Nodup := by
  have key : ∀ n, n ≤ rs.length → (pcs z (rs.take n)).Nodup := fun n => by
    induction n with
    | zero =>
      intro _
      show (sgs z ++ []).Nodup
      rw [List.append_nil]
      exact sgs_nodup T.sg.nd
    | succ n ih =>
      intro hn
      have hx : rs[n]? = some rs[n] := List.getElem?_eq_getElem (by omega)
      rw [List.take_add_one, hx]
      show (pcs z (rs.take n ++ [rs[n]])).Nodup
      rw [pcs_snoc, List.nodup_append]
      refine ⟨ih (by omega), by simp, fun x hx2 y hy => ?_⟩
      rw [List.mem_singleton] at hy
      rw [hy]
      exact fun e => (T.rows n _ hx).new (e ▸ hx2)
  have := key rs.length (Nat.le_refl _)
  rw [List.take_length] at this
  exact this
theorem TabOk.plen {z : Str} {rs : Rws} (T : TabOk z rs) {p : Str} (h : p ∈ pcs z rs) : 1 ≤ p.length ∧ p.length ≤ 16 := by
  have key : ∀ n, n ≤ rs.length → ∀ p ∈ pcs z (rs.take n), 1 ≤ p.length ∧ p.length ≤ 16 := fun n => by
    induction n with
    | zero =>
      intro _ p hp
      have hp2 : p ∈ sgs z ++ [] := hp
      rw [List.append_nil] at hp2
      obtain ⟨c, _, rfl⟩ := List.mem_map.mp hp2
      exact ⟨Nat.le_refl _, by rw [sgn_len]; omega⟩
    | succ n ih =>
      intro hn p hp
      have hx : rs[n]? = some rs[n] := List.getElem?_eq_getElem (by omega)
      rw [List.take_add_one, hx] at hp
      have hp2 : p ∈ pcs z (rs.take n ++ [rs[n]]) := hp
      rw [pcs_snoc] at hp2
      rcases List.mem_append.mp hp2 with hp3 | hp3
      · exact ih (by omega) p hp3
      · rw [List.mem_singleton] at hp3
        rw [hp3]
        have o := T.rows n _ hx
        have := (ih (by omega) _ o.lm).1
        refine ⟨?_, o.len⟩
        show 1 ≤ (rs[n].1 ++ rs[n].2).length
        rw [app_len]
        omega
  have := key rs.length (Nat.le_refl _) p
  rw [List.take_length] at this
  exact this h
/-! ### a list of rows in the heap -/
def TupAt (H : Hp) (a : Addr) (r : Str × Str) : Prop := H a = some (.tup [.str r.1, .str r.2])
def RowsAt (H : Hp) (l : Addr) (rs : Rws) : Prop := ∃ as : List Addr, H l = some (.lst (as.map V.ref)) ∧ Paired (TupAt H) as rs
theorem TupAt.same {H H' : Hp} (s : Same H H') {as : List Addr} {rs : Rws} (h : Paired (TupAt H) as rs) : Paired (TupAt H') as rs := L2.Paired.mapP h fun _ _ q => s _ _ q
theorem RowsAt.same {H H' : Hp} {l : Addr} {rs : Rws} (h : RowsAt H l rs) (s : Same H H') : RowsAt H' l rs := by
  obtain ⟨as, e, p⟩ := h
  exact ⟨as, s _ _ e, TupAt.same s p⟩
theorem inV_str (x : Str) (ps : List Str) : inV (.str x) (ps.map V.str) = decide (x ∈ ps) := by
  unfold inV
  rw [List.any_map]
  have e : ((fun y => eqV y (V.str x)) ∘ V.str) = fun y : Str => y == x := by
    funext y
    show eqV (V.str y) (V.str x) = (y == x)
    rfl
  rw [e]
  by_cases h : x ∈ ps
  · rw [decide_eq_true h]
    exact List.any_eq_true.mpr ⟨x, h, by simp⟩
  · rw [decide_eq_false h]
    rw [List.any_eq_false]
    intro y hy
    simp only [beq_iff_eq]
    exact fun e => h (e ▸ hy)
theorem flat_str (ps : List Str) : (ps.map V.str).all flatV = true := by
  rw [List.all_map]
  exact List.all_eq_true.mpr fun _ _ => rfl
end Jr
namespace Jr
open PySem PySem.Spec PyProof.Rows L2
/-! ### what a table holds -/
def numD : Nat → List Str → List (Key × V)
  | _, [] => []
  | i, p :: ps => (Sum.inr p, V.int (i : Nat)) :: numD (i + 1) ps
def rankD : Nat → Rws → List (List Key × V)
  | _, [] => []
  | i, r :: rs => ([Sum.inr r.1, Sum.inr r.2], V.int (i : Nat)) :: rankD (i + 1) rs
theorem numD_len : ∀ (i : Nat) (ps : List Str), (numD i ps).length = ps.length
  | _, [] => rfl
  | i, p :: ps => by show (numD (i + 1) ps).length + 1 = _; rw [numD_len (i + 1) ps]; rfl
theorem rankD_len : ∀ (i : Nat) (rs : Rws), (rankD i rs).length = rs.length
  | _, [] => rfl
  | i, r :: rs => by show (rankD (i + 1) rs).length + 1 = _; rw [rankD_len (i + 1) rs]; rfl
theorem numD_snoc : ∀ (i : Nat) (ps : List Str) (p : Str), numD i (ps ++ [p]) = numD i ps ++ [(Sum.inr p, V.int ((i + ps.length : Nat)))]
  | i, [], p => rfl
  | i, q :: ps, p => by
    show _ :: numD (i + 1) (ps ++ [p]) = _ :: (numD (i + 1) ps ++ _)
    rw [numD_snoc (i + 1) ps p, List.length_cons, show i + 1 + ps.length = i + (ps.length + 1) by omega]
theorem rankD_snoc : ∀ (i : Nat) (rs : Rws) (r : Str × Str), rankD i (rs ++ [r]) = rankD i rs ++ [([Sum.inr r.1, Sum.inr r.2], V.int ((i + rs.length : Nat)))]
  | i, [], r => rfl
  | i, q :: rs, r => by
    show _ :: rankD (i + 1) (rs ++ [r]) = _ :: (rankD (i + 1) rs ++ _)
    rw [rankD_snoc (i + 1) rs r, List.length_cons, show i + 1 + rs.length = i + (rs.length + 1) by omega]
theorem numD_none : ∀ (i : Nat) (ps : List Str) (p : Str), ¬ p ∈ ps → valV (numD i ps) (Sum.inr p) = none
  | _, [], _, _ => rfl
  | i, q :: ps, p, h => by
    have hq : ¬ (Sum.inr q : Key) = Sum.inr p := fun e => h (by rw [Sum.inr.inj e]; exact List.mem_cons_self)
    exact (valV_neg (p := (Sum.inr q, V.int (i : Nat))) hq).trans (numD_none (i + 1) ps p fun z => h (List.mem_cons_of_mem _ z))
theorem numD_at : ∀ (i : Nat) (ps : List Str) (p : Str) (j : Nat), ps.Nodup → ps[j]? = some p → valV (numD i ps) (Sum.inr p) = some (V.int ((i + j : Nat)))
  | _, [], _, _, _, h => by simp at h
  | i, q :: ps, p, 0, _, h => by
    have e : q = p := Option.some.inj h
    rw [e]
    exact valV_pos (p := ((Sum.inr p : Key), V.int (i : Nat))) rfl
  | i, q :: ps, p, j + 1, nd, h => by
    have nd' := List.nodup_cons.mp nd
    have hm : p ∈ ps := List.mem_of_getElem? (show ps[j]? = some p from h)
    have hq : ¬ (Sum.inr q : Key) = Sum.inr p := fun e => nd'.1 (by rw [Sum.inr.inj e]; exact hm)
    refine (valV_neg (p := (Sum.inr q, V.int (i : Nat))) hq).trans ?_
    rw [numD_at (i + 1) ps p j nd'.2 h, show i + 1 + j = i + (j + 1) by omega]
theorem rankD_none : ∀ (i : Nat) (rs : Rws) (l r : Str), ¬ (l, r) ∈ rs → valV (rankD i rs) [Sum.inr l, Sum.inr r] = none
  | _, [], _, _, _ => rfl
  | i, q :: rs, l, r, h => by
    have hq : ¬ ([Sum.inr q.1, Sum.inr q.2] : List Key) = [Sum.inr l, Sum.inr r] := fun e => h (by
      have e1 := (List.cons.inj e).1
      have e2 := (List.cons.inj (List.cons.inj e).2).1
      have e3 : q = (l, r) := Prod.ext (Sum.inr.inj e1) (Sum.inr.inj e2)
      rw [e3]; exact List.mem_cons_self)
    exact (valV_neg (p := (([Sum.inr q.1, Sum.inr q.2] : List Key), V.int (i : Nat))) hq).trans (rankD_none (i + 1) rs l r fun z => h (List.mem_cons_of_mem _ z))
theorem rankD_at : ∀ (i : Nat) (rs : Rws) (r : Str × Str) (j : Nat), rs.Nodup → rs[j]? = some r → valV (rankD i rs) [Sum.inr r.1, Sum.inr r.2] = some (V.int ((i + j : Nat)))
  | _, [], _, _, _, h => by simp at h
  | i, q :: rs, r, 0, _, h => by
    have e : q = r := Option.some.inj h
    rw [e]
    exact valV_pos (p := (([Sum.inr r.1, Sum.inr r.2] : List Key), V.int (i : Nat))) rfl
  | i, q :: rs, r, j + 1, nd, h => by
    have nd' := List.nodup_cons.mp nd
    have hm : r ∈ rs := List.mem_of_getElem? (show rs[j]? = some r from h)
    have hq : ¬ ([Sum.inr q.1, Sum.inr q.2] : List Key) = [Sum.inr r.1, Sum.inr r.2] := fun e => nd'.1 (by
      have e1 := (List.cons.inj e).1
      have e2 := (List.cons.inj (List.cons.inj e).2).1
      have e3 : q = r := Prod.ext (Sum.inr.inj e1) (Sum.inr.inj e2)
      rw [e3]; exact hm)
    refine (valV_neg (p := (([Sum.inr q.1, Sum.inr q.2] : List Key), V.int (i : Nat))) hq).trans ?_
    rw [rankD_at (i + 1) rs r j nd'.2 h, show i + 1 + j = i + (j + 1) by omega]
theorem TabOk.rnodup {z : Str} {rs : Rws} (T : TabOk z rs) : rs.Nodup := by
  have h := (List.nodup_append.mp T.nodup).2.1
  have key : ∀ l : Rws, (l.map jn).Nodup → l.Nodup := fun l => by
    induction l with
    | nil => intro _; exact List.nodup_nil
    | cons x l ih =>
      intro hn
      have h2 := List.nodup_cons.mp hn
      exact List.nodup_cons.mpr ⟨fun hx => h2.1 (List.mem_map.mpr ⟨x, hx, rfl⟩), ih h2.2⟩
  exact key rs h
def tf5 (z : Str) (lr lp dn dr : Addr) : List (Str × V) := [("sign_text", .str z), ("row_list", .ref lr), ("piece_list", .ref lp), ("number_by_piece", .ref dn), ("rank_by_row", .ref dr)]
def tf6 (z : Str) (lr lp dn dr : Addr) (m : Int) : List (Str × V) := [("sign_text", .str z), ("row_list", .ref lr), ("piece_list", .ref lp), ("number_by_piece", .ref dn), ("rank_by_row", .ref dr), ("most_signs", .int m)]
/-- a made table -/
structure TabAt (C : Addr) (H : Hp) (x : Addr) (z : Str) (rs : Rws) : Prop where
  ex : ∃ (dx lr lp dn dr : Addr) (m : Nat), H x = some (.ins C dx (tf6 z lr lp dn dr (m : Int))) ∧ RowsAt H lr rs ∧ H lp = some (.lst ((pcs z rs).map V.str)) ∧ H dn = some (.dK (numD 0 (pcs z rs))) ∧ H dr = some (.dT (rankD 0 rs)) ∧
    (∃ p ∈ pcs z rs, p.length = m) ∧ ∀ p ∈ pcs z rs, p.length ≤ m
  ok : TabOk z rs
theorem TabAt.same {C : Addr} {H H' : Hp} {x : Addr} {z : Str} {rs : Rws} (T : TabAt C H x z rs) (s : Same H H') : TabAt C H' x z rs := by
  obtain ⟨dx, lr, lp, dn, dr, m, h1, h2, h3, h4, h5, h6⟩ := T.ex
  exact ⟨⟨dx, lr, lp, dn, dr, m, s _ _ h1, h2.same s, s _ _ h3, s _ _ h4, s _ _ h5, h6⟩, T.ok⟩
section
variable (z : Str) (lr lp dn dr : Addr) (m : Int)
theorem l5_num : (tf5 z lr lp dn dr).lookup ("number_by_piece" : Str) = some (V.ref dn) := by kernel_rfl
theorem l5_pl : (tf5 z lr lp dn dr).lookup ("piece_list" : Str) = some (V.ref lp) := by kernel_rfl
theorem l5_rl : (tf5 z lr lp dn dr).lookup ("row_list" : Str) = some (V.ref lr) := by kernel_rfl
theorem l5_rk : (tf5 z lr lp dn dr).lookup ("rank_by_row" : Str) = some (V.ref dr) := by kernel_rfl
theorem l5_which : (tf5 z lr lp dn dr).lookup ("which" : Str) = none := by kernel_rfl
theorem l5_tp : (tf5 z lr lp dn dr).lookup ("take_piece" : Str) = none := by kernel_rfl
theorem l5_tr : (tf5 z lr lp dn dr).lookup ("take_row" : Str) = none := by kernel_rfl
theorem l5_mt : (tf5 z lr lp dn dr).lookup ("may_take_row" : Str) = none := by kernel_rfl
theorem l5_most : putF "most_signs" (.int m) (tf5 z lr lp dn dr) = tf6 z lr lp dn dr m := by kernel_rfl
theorem l5_put : putF "rank_by_row" (.ref dr) (putF "number_by_piece" (.ref dn) (putF "piece_list" (.ref lp) (putF "row_list" (.ref lr) (putF "sign_text" (.str z) [])))) = tf5 z lr lp dn dr := by kernel_rfl
theorem l6_st : (tf6 z lr lp dn dr m).lookup ("sign_text" : Str) = some (V.str z) := by kernel_rfl
theorem l6_num : (tf6 z lr lp dn dr m).lookup ("number_by_piece" : Str) = some (V.ref dn) := by kernel_rfl
theorem l6_pl : (tf6 z lr lp dn dr m).lookup ("piece_list" : Str) = some (V.ref lp) := by kernel_rfl
theorem l6_rl : (tf6 z lr lp dn dr m).lookup ("row_list" : Str) = some (V.ref lr) := by kernel_rfl
theorem l6_rk : (tf6 z lr lp dn dr m).lookup ("rank_by_row" : Str) = some (V.ref dr) := by kernel_rfl
theorem l6_ms : (tf6 z lr lp dn dr m).lookup ("most_signs" : Str) = some (V.int m) := by kernel_rfl
theorem l6_mw : (tf6 z lr lp dn dr m).lookup ("which" : Str) = none := by kernel_rfl
theorem l6_ms_ : (tf6 z lr lp dn dr m).lookup ("signs" : Str) = none := by kernel_rfl
theorem l6_mr : (tf6 z lr lp dn dr m).lookup ("rows" : Str) = none := by kernel_rfl
theorem l6_mp : (tf6 z lr lp dn dr m).lookup ("pieces" : Str) = none := by kernel_rfl
theorem l6_mp1 : (tf6 z lr lp dn dr m).lookup ("piece" : Str) = none := by kernel_rfl
theorem l6_mpa : (tf6 z lr lp dn dr m).lookup ("parts" : Str) = none := by kernel_rfl
theorem l6_mrk : (tf6 z lr lp dn dr m).lookup ("rank" : Str) = none := by kernel_rfl
theorem l6_ml : (tf6 z lr lp dn dr m).lookup ("longest" : Str) = none := by kernel_rfl
end
/-- no text -/
def NoStr (K : PySem.W.Frag) (H : Hp) (v : V) : Prop := ∃ t, TyX K H v t ∧ PySem.W.kitOne K t (.type "str") = some false
theorem isStr {K : PySem.W.Frag} : PySem.W.kitOne K (.type "str") (.type "str") = some true := kit_ty (by decide +kernel)
theorem isLst {K : PySem.W.Frag} : PySem.W.kitOne K (.type "list") (.type "list") = some true := kit_ty (by decide +kernel)
theorem isTup {K : PySem.W.Frag} : PySem.W.kitOne K (.type "tuple") (.type "tuple") = some true := kit_ty (by decide +kernel)
end Jr
namespace Jr
open PySem PySem.Spec PyProof.Rows L2
/-! ### == of lists of texts, of ints, of rows -/
def dS (xs : List Str) : PyData := .list (xs.map PyData.str)
def dI (xs : List Int) : PyData := .list (xs.map PyData.int)
def dR (rs : Rws) : PyData := .list (rs.map fun r => PyData.tuple [.str r.1, .str r.2])
/-- a text of plain signs -/
def Asc (x : Str) : Prop := ∀ c ∈ x.cps.toList, c ≤ 126
theorem asc_ok {x : Str} (h : Asc x) : PyData.strOk x = true := by
  unfold PyData.strOk
  rw [← Array.all_toList, List.all_eq_true]
  intro c hc
  have := h c hc
  simp
  omega
theorem asc_app {a b : Str} (ha : Asc a) (hb : Asc b) : Asc (a ++ b) := fun c hc => by
  rw [app_cps] at hc
  rcases List.mem_append.mp hc with h | h
  · exact ha c h
  · exact hb c h
theorem asc_sgn {c : Nat} (h : c ≤ 126) : Asc (sgn c) := fun d hd => by
  have e : d = c := by simpa [sgn] using hd
  omega
theorem TabOk.asc {z : Str} {rs : Rws} (T : TabOk z rs) {p : Str} (h : p ∈ pcs z rs) : Asc p := by
  have key : ∀ n, n ≤ rs.length → ∀ p ∈ pcs z (rs.take n), Asc p := fun n => by
    induction n with
    | zero =>
      intro _ p hp
      have hp2 : p ∈ sgs z ++ [] := hp
      rw [List.append_nil] at hp2
      obtain ⟨c, hc, rfl⟩ := List.mem_map.mp hp2
      exact asc_sgn (T.sg.ok c hc).2.1
    | succ n ih =>
      intro hn p hp
      have hx : rs[n]? = some rs[n] := List.getElem?_eq_getElem (by omega)
      rw [List.take_add_one, hx] at hp
      have hp2 : p ∈ pcs z (rs.take n ++ [rs[n]]) := hp
      rw [pcs_snoc] at hp2
      rcases List.mem_append.mp hp2 with hp3 | hp3
      · exact ih (by omega) p hp3
      · rw [List.mem_singleton] at hp3
        rw [hp3]
        have o := T.rows n _ hx
        exact asc_app (ih (by omega) _ o.lm) (ih (by omega) _ o.rm)
  have := key rs.length (Nat.le_refl _) p
  rw [List.take_length] at this
  exact this h
theorem lay_strs : ∀ xs : List Str, (∀ x ∈ xs, Asc x) → PyData.canLayAll0 (xs.map PyData.str) = true
  | [], _ => by simp [PyData.canLayAll0]
  | x :: xs, h => by
    have h1 := asc_ok (h x List.mem_cons_self)
    have h2 := lay_strs xs fun y hy => h y (List.mem_cons_of_mem _ hy)
    simp [PyData.canLayAll0, PyData.canLay0, h1, h2]
theorem dep_strs : ∀ xs : List Str, PyData.depthAll (xs.map PyData.str) = 0
  | [] => by simp [PyData.depthAll]
  | x :: xs => by simp [PyData.depthAll, PyData.depth, dep_strs xs]
theorem shS {xs : List Str} (h : ∀ x ∈ xs, Asc x) : SeqAt.shaped (dS xs) = true := by
  unfold SeqAt.shaped dS
  have h1 : PyData.canLay0 (.list (xs.map PyData.str)) = true := by simp [PyData.canLay0, lay_strs xs h]
  have h2 : PyData.depth (.list (xs.map PyData.str)) = 1 := by simp [PyData.depth, dep_strs]
  rw [h1, h2]; rfl
theorem eqvA_strs : ∀ xs ys : List Str, PyData.eqvAll (xs.map PyData.str) (ys.map PyData.str) = decide (xs = ys)
  | [], [] => by simp [PyData.eqvAll]
  | [], y :: ys => by simp [PyData.eqvAll]
  | x :: xs, [] => by simp [PyData.eqvAll]
  | x :: xs, y :: ys => by
    have ih := eqvA_strs xs ys
    simp only [List.map_cons, PyData.eqvAll, PyData.eqv, ih]
    by_cases h : x = y
    · subst h; simp
    · simp [h]
theorem eqS (xs ys : List Str) : PyData.eqv (dS xs) (dS ys) = decide (xs = ys) := by
  unfold dS
  rw [PyData.eqv]
  exact eqvA_strs xs ys
theorem dpA_strs {K : PySem.W.Frag} {H : Hp} : ∀ xs : List Str, DpAll K H (xs.map V.str) (xs.map PyData.str)
  | [] => .nil
  | x :: xs => .cons (.str x) (dpA_strs xs)
theorem dpS {K : PySem.W.Frag} {H : Hp} {a : Addr} {xs : List Str} (h : SqL K H a (xs.map V.str)) : Dp K H (.ref a) (dS xs) := .lst h (dpA_strs xs)
theorem lay_ints : ∀ xs : List Int, PyData.canLayAll0 (xs.map PyData.int) = true
  | [] => by simp [PyData.canLayAll0]
  | x :: xs => by simp [PyData.canLayAll0, PyData.canLay0, lay_ints xs]
theorem dep_ints : ∀ xs : List Int, PyData.depthAll (xs.map PyData.int) = 0
  | [] => by simp [PyData.depthAll]
  | x :: xs => by simp [PyData.depthAll, PyData.depth, dep_ints xs]
theorem shI (xs : List Int) : SeqAt.shaped (dI xs) = true := by
  unfold SeqAt.shaped dI
  have h1 : PyData.canLay0 (.list (xs.map PyData.int)) = true := by simp [PyData.canLay0, lay_ints xs]
  have h2 : PyData.depth (.list (xs.map PyData.int)) = 1 := by simp [PyData.depth, dep_ints]
  rw [h1, h2]; rfl
theorem eqvA_ints : ∀ xs ys : List Int, PyData.eqvAll (xs.map PyData.int) (ys.map PyData.int) = decide (xs = ys)
  | [], [] => by simp [PyData.eqvAll]
  | [], y :: ys => by simp [PyData.eqvAll]
  | x :: xs, [] => by simp [PyData.eqvAll]
  | x :: xs, y :: ys => by
    have ih := eqvA_ints xs ys
    simp only [List.map_cons, PyData.eqvAll, PyData.eqv, ih]
    by_cases h : x = y
    · subst h; simp
    · simp [h]
theorem eqI (xs ys : List Int) : PyData.eqv (dI xs) (dI ys) = decide (xs = ys) := by
  unfold dI
  rw [PyData.eqv]
  exact eqvA_ints xs ys
theorem dpA_ints {K : PySem.W.Frag} {H : Hp} : ∀ xs : List Int, DpAll K H (xs.map V.int) (xs.map PyData.int)
  | [] => .nil
  | x :: xs => .cons (.int x) (dpA_ints xs)
theorem dpI {K : PySem.W.Frag} {H : Hp} {a : Addr} {xs : List Int} (h : SqL K H a (xs.map V.int)) : Dp K H (.ref a) (dI xs) := .lst h (dpA_ints xs)
theorem lay_rows : ∀ rs : Rws, (∀ r ∈ rs, Asc r.1 ∧ Asc r.2) → PyData.canLayAll0 (rs.map fun r => PyData.tuple [.str r.1, .str r.2]) = true
  | [], _ => by simp [PyData.canLayAll0]
  | r :: rs, h => by
    obtain ⟨h1, h2⟩ := h r List.mem_cons_self
    have h3 := lay_rows rs fun y hy => h y (List.mem_cons_of_mem _ hy)
    simp [PyData.canLayAll0, PyData.canLay0, asc_ok h1, asc_ok h2, h3]
theorem dep_rows : ∀ rs : Rws, PyData.depthAll (rs.map fun r => PyData.tuple [.str r.1, .str r.2]) ≤ 1
  | [] => by simp [PyData.depthAll]
  | r :: rs => by
    have := dep_rows rs
    simp only [List.map_cons, PyData.depthAll, PyData.depth]
    omega
theorem shR {rs : Rws} (h : ∀ r ∈ rs, Asc r.1 ∧ Asc r.2) : SeqAt.shaped (dR rs) = true := by
  unfold SeqAt.shaped dR
  have h1 : PyData.canLay0 (.list (rs.map fun r => PyData.tuple [.str r.1, .str r.2])) = true := by simp [PyData.canLay0, lay_rows rs h]
  have h2 : PyData.depth (.list (rs.map fun r => PyData.tuple [.str r.1, .str r.2])) ≤ 2 := by
    have := dep_rows rs
    simp only [PyData.depth]
    omega
  rw [h1, decide_eq_true (Nat.le_trans h2 (by decide))]; rfl
theorem eqvA_rows : ∀ xs ys : Rws, PyData.eqvAll (xs.map fun r => PyData.tuple [.str r.1, .str r.2]) (ys.map fun r => PyData.tuple [.str r.1, .str r.2]) = decide (xs = ys)
  | [], [] => by simp [PyData.eqvAll]
  | [], y :: ys => by simp [PyData.eqvAll]
  | x :: xs, [] => by simp [PyData.eqvAll]
  | x :: xs, y :: ys => by
    have ih := eqvA_rows xs ys
    simp only [List.map_cons, PyData.eqvAll, PyData.eqv, ih]
    obtain ⟨a, b⟩ := x
    obtain ⟨c, d⟩ := y
    by_cases h : a = c
    · subst h
      by_cases h2 : b = d
      · subst h2; simp
      · simp [h2]
    · simp [h]
theorem eqR (xs ys : Rws) : PyData.eqv (dR xs) (dR ys) = decide (xs = ys) := by
  unfold dR
  rw [PyData.eqv]
  exact eqvA_rows xs ys
theorem dpA_rows {K : PySem.W.Frag} {H : Hp} : ∀ {as : List Addr} {rs : Rws}, Paired (TupAt H) as rs → DpAll K H (as.map V.ref) (rs.map fun r => PyData.tuple [.str r.1, .str r.2])
  | _, _, .nil => .nil
  | _, _, .cons h q => .cons (.tup (SqT.of h) (.cons (.str _) (.cons (.str _) .nil))) (dpA_rows q)
theorem dpR {K : PySem.W.Frag} {H : Hp} {a : Addr} {rs : Rws} (h : RowsAt H a rs) : Dp K H (.ref a) (dR rs) := by
  obtain ⟨as, e, p⟩ := h
  exact .lst (SqL.of e) (dpA_rows p)
/-! ### the pass of a rank -/
def pass1 (l r : Str) : List Str → List Str
  | a :: b :: t => if a = l ∧ b = r then (l ++ r) :: pass1 l r t else a :: pass1 l r (b :: t)
  | t => t
/-- the places of the borders that fall; n signs stand ahead -/
def plc (l r : Str) : Nat → List Str → List Nat
  | n, a :: b :: t => if a = l ∧ b = r then (n + a.length) :: plc l r (n + a.length + b.length) t else plc l r (n + a.length) (b :: t)
  | _, _ => []
def passAll (rs : Rws) (xs : List Str) : List Str := rs.foldl (fun ys r => pass1 r.1 r.2 ys) xs
def sweep (rs : Rws) (t : Str) : List Str := passAll rs (sgs t)
theorem pass1_one (l r a : Str) : pass1 l r [a] = [a] := by unfold pass1; rfl
theorem pass1_nil (l r : Str) : pass1 l r [] = [] := by unfold pass1; rfl
theorem pass1_yes (l r : Str) (t : List Str) : pass1 l r (l :: r :: t) = (l ++ r) :: pass1 l r t := by
  rw [pass1]; exact if_pos ⟨rfl, rfl⟩
theorem pass1_no {l r a b : Str} (t : List Str) (h : ¬ (a = l ∧ b = r)) : pass1 l r (a :: b :: t) = a :: pass1 l r (b :: t) := by
  rw [pass1]; exact if_neg h
theorem pass1_mem (l r : Str) : ∀ (xs : List Str) (p : Str), p ∈ pass1 l r xs → p ∈ xs ∨ p = l ++ r
  | [], p, h => by rw [pass1_nil] at h; cases h
  | [a], p, h => by rw [pass1_one] at h; exact .inl h
  | a :: b :: t, p, h => by
    by_cases c : a = l ∧ b = r
    · obtain ⟨rfl, rfl⟩ := c
      rw [pass1_yes] at h
      rcases List.mem_cons.mp h with e | e
      · exact .inr e
      · rcases pass1_mem a b t p e with q | q
        · exact .inl (List.mem_cons_of_mem _ (List.mem_cons_of_mem _ q))
        · exact .inr q
    · rw [pass1_no t c] at h
      rcases List.mem_cons.mp h with e | e
      · exact .inl (e ▸ List.mem_cons_self)
      · rcases pass1_mem l r (b :: t) p e with q | q
        · exact .inl (List.mem_cons_of_mem _ q)
        · exact .inr q
termination_by xs => xs.length
theorem pass1_len (l r : Str) : ∀ xs : List Str, (pass1 l r xs).length ≤ xs.length
  | [] => by rw [pass1_nil]; exact Nat.le_refl _
  | [a] => by rw [pass1_one]; exact Nat.le_refl _
  | a :: b :: t => by
    by_cases c : a = l ∧ b = r
    · obtain ⟨rfl, rfl⟩ := c
      rw [pass1_yes]
      have := pass1_len a b t
      simp only [List.length_cons]
      omega
    · rw [pass1_no t c]
      have := pass1_len l r (b :: t)
      simp only [List.length_cons] at this ⊢
      omega
termination_by xs => xs.length
theorem plc_len (l r : Str) : ∀ (n : Nat) (xs : List Str), (plc l r n xs).length ≤ xs.length
  | n, [] => by unfold plc; exact Nat.zero_le _
  | n, [a] => by unfold plc; exact Nat.zero_le _
  | n, a :: b :: t => by
    rw [plc]
    by_cases c : a = l ∧ b = r
    · rw [if_pos c]
      have := plc_len l r (n + a.length + b.length) t
      simp only [List.length_cons]
      omega
    · rw [if_neg c]
      have := plc_len l r (n + a.length) (b :: t)
      simp only [List.length_cons] at this ⊢
      omega
termination_by _ xs => xs.length
end Jr
namespace Jr
open PySem PySem.Spec PyProof.Rows L2
/-! ### texts joined; passes keep the text -/
def flat (xs : List Str) : List Nat := xs.flatMap fun x => x.cps.toList
theorem joinL_nil : ∀ xs : List (List Nat), TL.joinL [] xs = xs.flatten
  | [] => rfl
  | [a] => by show a = _; simp
  | a :: b :: r => by
    show a ++ ([] ++ TL.joinL [] (b :: r)) = _
    rw [joinL_nil (b :: r)]
    simp
theorem join_cps (xs : List Str) : (Txt.join (Str.ofString "") xs).cps.toList = flat xs := by
  have e := TL.tl_join (Str.ofString "") xs
  rw [TL.join_eq]
  have e2 : TL.tl (Str.ofString "") = [] := by decide +kernel
  rw [e2, joinL_nil] at e
  refine Eq.trans e ?_
  unfold flat
  rw [List.flatMap_def]
theorem flat_sgs (t : Str) : flat (sgs t) = t.cps.toList := by
  unfold flat sgs
  rw [List.flatMap_map]
  have : ∀ l : List Nat, l.flatMap (fun c => (sgn c).cps.toList) = l := fun l => by
    induction l with
    | nil => rfl
    | cons c l ih => rw [List.flatMap_cons, ih]; rfl
  exact this _
theorem flat_cons (x : Str) (xs : List Str) : flat (x :: xs) = x.cps.toList ++ flat xs := List.flatMap_cons
theorem flat_app (xs ys : List Str) : flat (xs ++ ys) = flat xs ++ flat ys := List.flatMap_append
theorem pass1_flat (l r : Str) : ∀ xs : List Str, flat (pass1 l r xs) = flat xs
  | [] => by rw [pass1_nil]
  | [a] => by rw [pass1_one]
  | a :: b :: t => by
    by_cases c : a = l ∧ b = r
    · obtain ⟨rfl, rfl⟩ := c
      rw [pass1_yes, flat_cons, flat_cons, flat_cons, pass1_flat a b t, app_cps, List.append_assoc]
    · rw [pass1_no t c, flat_cons, flat_cons, pass1_flat l r (b :: t)]
termination_by xs => xs.length
theorem passAll_flat : ∀ (rs : Rws) (xs : List Str), flat (passAll rs xs) = flat xs
  | [], _ => rfl
  | r :: rs, xs => by
    show flat (passAll rs (pass1 r.1 r.2 xs)) = _
    rw [passAll_flat rs, pass1_flat]
theorem sweep_flat (rs : Rws) (t : Str) : flat (sweep rs t) = t.cps.toList := by
  unfold sweep
  rw [passAll_flat, flat_sgs]
theorem passAll_take {rs : Rws} {i : Nat} {r : Str × Str} (xs : List Str) (h : rs[i]? = some r) : passAll (rs.take (i + 1)) xs = pass1 r.1 r.2 (passAll (rs.take i) xs) := by
  unfold passAll
  rw [List.take_add_one, h]
  simp [List.foldl_append]
theorem passAll_len : ∀ (rs : Rws) (xs : List Str), (passAll rs xs).length ≤ xs.length
  | [], _ => Nat.le_refl _
  | r :: rs, xs => Nat.le_trans (passAll_len rs (pass1 r.1 r.2 xs)) (pass1_len ..)
theorem passAll_mem : ∀ (rs : Rws) (xs : List Str) (p : Str), p ∈ passAll rs xs → p ∈ xs ∨ ∃ r ∈ rs, p = jn r
  | [], _, _, h => .inl h
  | r :: rs, xs, p, h => by
    rcases passAll_mem rs (pass1 r.1 r.2 xs) p h with q | ⟨s, hs, e⟩
    · rcases pass1_mem r.1 r.2 xs p q with z | z
      · exact .inl z
      · exact .inr ⟨r, List.mem_cons_self, z⟩
    · exact .inr ⟨s, List.mem_cons_of_mem _ hs, e⟩
/-! ### the law's own pass: from the left, the last piece looked at -/
def stp (l r : Str) (f : List Str) (p : Str) : List Str := if p = r ∧ f.getLast? = some l then f.dropLast ++ [l ++ r] else f ++ [p]
theorem stp_cons {l r a : Str} {f : List Str} (p : Str) (h : f ≠ []) : stp l r (a :: f) p = a :: stp l r f p := by
  unfold stp
  have e : (a :: f).getLast? = f.getLast? := by
    cases f with
    | nil => exact absurd rfl h
    | cons b t => exact List.getLast?_cons_cons
  have e2 : (a :: f).dropLast = a :: f.dropLast := List.dropLast_cons_of_ne_nil h
  rw [e, e2]
  by_cases c : p = r ∧ f.getLast? = some l
  · rw [if_pos c, if_pos c]; rfl
  · rw [if_neg c, if_neg c]; rfl
theorem pass1_ne (l r : Str) : ∀ xs : List Str, xs ≠ [] → pass1 l r xs ≠ []
  | [], h => absurd rfl h
  | [a], _ => by rw [pass1_one]; simp
  | a :: b :: t, _ => by
    by_cases c : a = l ∧ b = r
    · obtain ⟨rfl, rfl⟩ := c
      rw [pass1_yes]; simp
    · rw [pass1_no t c]; simp
theorem app_ne {l r : Str} (h : 1 ≤ r.length) : ¬ l ++ r = l := fun e => by
  have := congrArg Str.length e
  rw [app_len] at this
  omega
theorem pass1_snoc {l r : Str} (hr : 1 ≤ r.length) : ∀ (xs : List Str) (p : Str), pass1 l r (xs ++ [p]) = stp l r (pass1 l r xs) p
  | [], p => by
    rw [pass1_nil, List.nil_append, pass1_one]
    unfold stp
    rw [if_neg (by simp)]
    rfl
  | [a], p => by
    rw [pass1_one]
    show pass1 l r [a, p] = _
    unfold stp
    by_cases c : a = l ∧ p = r
    · obtain ⟨rfl, rfl⟩ := c
      rw [pass1_yes, pass1_nil, if_pos ⟨rfl, rfl⟩]; rfl
    · rw [pass1_no [] c, pass1_one, if_neg (fun z => c ⟨Option.some.inj z.2, z.1⟩)]; rfl
  | a :: b :: t, p => by
    by_cases c : a = l ∧ b = r
    · obtain ⟨rfl, rfl⟩ := c
      show pass1 a b (a :: b :: (t ++ [p])) = _
      rw [pass1_yes, pass1_yes, pass1_snoc hr t p]
      by_cases e : t = []
      · subst e
        rw [pass1_nil]
        unfold stp
        rw [if_neg (by simp), if_neg (fun z => app_ne hr (Option.some.inj z.2))]; rfl
      · rw [stp_cons p (pass1_ne a b t e)]
    · show pass1 l r (a :: b :: (t ++ [p])) = _
      rw [pass1_no _ c, pass1_no _ c]
      have ih := pass1_snoc (l := l) hr (b :: t) p
      have ih2 : pass1 l r (b :: (t ++ [p])) = stp l r (pass1 l r (b :: t)) p := ih
      rw [ih2, stp_cons p (pass1_ne l r (b :: t) (by simp))]
termination_by xs => xs.length
theorem pass1_take {l r : Str} (hr : 1 ≤ r.length) {xs : List Str} {i : Nat} {p : Str} (h : xs[i]? = some p) : pass1 l r (xs.take (i + 1)) = stp l r (pass1 l r (xs.take i)) p := by
  rw [List.take_add_one, h]
  exact pass1_snoc hr _ _
end Jr
namespace Jr
open PySem PySem.Spec PyProof.Rows L2
/-- a text of the table's signs -/
def TextOf (z t : Str) : Prop := ∀ c ∈ t.cps.toList, c ∈ z.cps.toList
theorem sweep_in {z : Str} {rs : Rws} {t : Str} (tx : TextOf z t) {n : Nat} {p : Str} (h : p ∈ passAll (rs.take n) (sgs t)) : p ∈ pcs z rs := by
  rcases passAll_mem _ _ p h with q | ⟨r, hr, rfl⟩
  · obtain ⟨c, hc, rfl⟩ := List.mem_map.mp q
    exact List.mem_append_left _ (List.mem_map.mpr ⟨c, tx c hc, rfl⟩)
  · exact List.mem_append_right _ (List.mem_map.mpr ⟨r, List.mem_of_mem_take hr, rfl⟩)
theorem sweep_pc {z : Str} {rs : Rws} {t : Str} (tx : TextOf z t) {p : Str} (h : p ∈ sweep rs t) : p ∈ pcs z rs := by
  have h2 : p ∈ passAll (rs.take rs.length) (sgs t) := by rw [List.take_length]; exact h
  exact sweep_in tx h2
theorem at_last {α : Type} {xs : List α} {x : α} (h : xs.getLast? = some x) : atI xs (-1) = some x := by
  have hl : 0 < xs.length := by
    cases xs with
    | nil => cases h
    | cons a t => simp
  unfold atI ixN
  rw [if_neg (by omega), if_pos (by omega)]
  have e : ((-1 : Int) + (xs.length : Int)).toNat = xs.length - 1 := by omega
  rw [e]
  rw [List.getLast?_eq_getElem?] at h
  exact h
theorem ix_last {n : Nat} (h : 0 < n) : ixN n (-1) = some (n - 1) := by
  unfold ixN
  rw [if_neg (by omega), if_pos (by omega)]
  have e : ((-1 : Int) + (n : Int)).toNat = n - 1 := by omega
  rw [e]
theorem set_last {α : Type} (y : α) : ∀ xs : List α, xs ≠ [] → xs.set (xs.length - 1) y = xs.dropLast ++ [y]
  | [], h => absurd rfl h
  | [a], _ => rfl
  | a :: b :: t, _ => by
    have ih := set_last y (b :: t) (by simp)
    show a :: (b :: t).set ((b :: t).length - 1) y = a :: ((b :: t).dropLast ++ [y])
    rw [ih]
theorem rep_one {α : Type} (n : Nat) (x : α) : (List.replicate n [x]).flatten = List.replicate n x := by simp
theorem map_rep {α β : Type} (f : α → β) (n : Nat) (x : α) : (List.replicate n x).map f = List.replicate n (f x) := by simp
theorem text_app {z a b : Str} (ha : TextOf z a) (hb : TextOf z b) : TextOf z (a ++ b) := fun c hc => by
  rw [app_cps] at hc
  rcases List.mem_append.mp hc with h | h
  · exact ha c h
  · exact hb c h
theorem text_nil (z : Str) : TextOf z (Str.ofString "") := fun c hc => by
  have e : (Str.ofString "").cps.toList = [] := by decide +kernel
  rw [e] at hc; cases hc
theorem text_to {z t : Str} (h : TextOf z t) (n : Nat) : TextOf z (cutS t none (some (n : Int))) := fun c hc => by
  rw [cut_to] at hc; exact h c (List.mem_of_mem_take hc)
theorem text_from {z t : Str} (h : TextOf z t) (n : Nat) : TextOf z (cutS t (some (n : Int)) none) := fun c hc => by
  rw [cut_from] at hc; exact h c (List.mem_of_mem_drop hc)
theorem RowsAt.copy {H : Hp} {p q : Addr} {rs : Rws} {as : List Addr} (h : Paired (TupAt H) as rs) (hq : H q = none) : RowsAt (upd H q (.lst (as.map V.ref))) q rs := ⟨as, upd_same, TupAt.same (Same.new hq) h⟩
/-- texts that a sweeping tells are the text -/
theorem join_sweep (rs : Rws) (t : Str) : Txt.join (Str.ofString "") (sweep rs t) = t := str_ext (by rw [join_cps, sweep_flat])
theorem flat_len : ∀ xs : List Str, (xs.map (·.length)).sum = (flat xs).length
  | [] => rfl
  | x :: xs => by rw [List.map_cons, List.sum_cons, flat_cons, List.length_append, flat_len xs, len_cps]
theorem zip_fst {α β γ : Type} {F : α → β → Prop} (f : α → γ) : ∀ {l : List α} {m : List β}, Paired F l m → (l.zip m).map (fun x => f x.1) = l.map f
  | _, _, .nil => rfl
  | _, _, .cons _ q => by rw [List.zip_cons_cons, List.map_cons, List.map_cons, zip_fst f q]
theorem zip_snd {α β γ : Type} {F : α → β → Prop} (f : β → γ) : ∀ {l : List α} {m : List β}, Paired F l m → (l.zip m).map (fun x => f x.2) = m.map f
  | _, _, .nil => rfl
  | _, _, .cons _ q => by rw [List.zip_cons_cons, List.map_cons, List.map_cons, zip_snd f q]
theorem zip_mem {α β : Type} {F : α → β → Prop} : ∀ {l : List α} {m : List β}, Paired F l m → ∀ x ∈ l.zip m, F x.1 x.2 ∧ x.2 ∈ m
  | _, _, .nil, x, h => by cases h
  | _, _, .cons r q, x, h => by
    rw [List.zip_cons_cons] at h
    rcases List.mem_cons.mp h with e | e
    · rw [e]; exact ⟨r, List.mem_cons_self⟩
    · obtain ⟨a, b⟩ := zip_mem q x e
      exact ⟨a, List.mem_cons_of_mem _ b⟩
theorem TabOk.rlen {z : Str} {rs : Rws} (T : TabOk z rs) : ∀ r ∈ rs, r.1.length + r.2.length ≤ 1000 := fun r hr => by
  obtain ⟨i, hi, e⟩ := List.mem_iff_getElem.mp hr
  have o := T.rows i r (by rw [List.getElem?_eq_getElem hi, e])
  have := o.len
  have q : (jn r).length = r.1.length + r.2.length := app_len _ _
  omega
def spLaw (K : PySem.W.Frag) : Sp := fun vs H Q _ => ∃ (a : Addr) (ns : List Int), vs = [.ref a] ∧ SqL K H a (ns.map V.int) ∧ ns.length ≤ 63 ∧ ∀ H', Q (.bl true) H'
theorem mod_at {α : Type} (f : α → V) (xs : List α) (h : 0 < xs.length) (d : Int) : ∃ x ∈ xs, atI (xs.map f) (d % ((xs.map f).length : Nat)) = some (f x) := by
  have h0 := Int.emod_nonneg d (show (((xs.map f).length : Nat) : Int) ≠ 0 by rw [List.length_map]; omega)
  have h1 := Int.emod_lt_of_pos d (show (0 : Int) < ((xs.map f).length : Nat) by rw [List.length_map]; omega)
  obtain ⟨m, hm⟩ := Int.eq_ofNat_of_zero_le h0
  rw [hm]
  rw [hm, List.length_map] at h1
  have hm2 : m < xs.length := by omega
  exact ⟨xs[m], List.getElem_mem hm2, atm (List.getElem?_eq_getElem hm2)⟩
end Jr
namespace Jr
open PySem PySem.Spec PyProof.Rows L2
/-! ### new objects, told by Same: nothing of the heap but what is known stays in a question -/
section
variable {X : Cx}
theorem pe_mono {e : Expr} {t t' : TE} (h : PE X e t) (m : ∀ σ H Q, t' σ H Q → t σ H Q) : PE X e t' := ⟨fun pins s σ H Q I q => h.run pins s σ H Q I (m σ H Q q)⟩
theorem ps_mono {e : Stmt} {t t' : TS} (h : PS X e t) (m : ∀ D σ H, t' D σ H → t D σ H) : PS X e t' := ⟨fun pins s σ H D I q => h.run pins s σ H D I (m D σ H q)⟩
theorem op_mono {f : Value → Value → Sem Value} {r r' : R2} (h : OpR X f r) (m : ∀ x y H Q, r' x y H Q → r x y H Q) : OpR X f r' := fun pins s σ H x y v u Q I rx ry q => h pins s σ H x y v u Q I rx ry (m x y H Q q)
theorem call_mono {f : Value} {r r' : List V → Hp → VK → Prop} (h : CallR X f r) (m : ∀ x H Q, r' x H Q → r x H Q) : CallR X f r' := fun pins s σ H x v Q I rx q => h pins s σ H x v Q I rx (m x H Q q)
theorem sl_mono {r r' : V → Option Int → Option Int → Hp → VK → Prop} (h : SlR X r) (m : ∀ x lo hi H Q, r' x lo hi H Q → r x lo hi H Q) : SlR X r' :=
  fun pins s σ H x v vl vu lo hi sl Q I rx hs pl pu q => h pins s σ H x v vl vu lo hi sl Q I rx hs pl pu (m x lo hi H Q q)
/-- a new object -/
def New (H : Hp) (o : HO) (Q : VK) : Prop := ∀ p H', H p = none → Same H H' → H' p = some o → Q (.ref p) H'
theorem New.of {H : Hp} {o : HO} {Q : VK} (h : New H o Q) : ∀ p, H p = none → Q (.ref p) (upd H p o) := fun p hp => h p _ hp (Same.new hp) upd_same
/-- arguments, what follows weakened -/
def clA (t : TA) : TA := fun σ H Q => ∃ Q', (∀ vs H, Q' vs H → Q vs H) ∧ t σ H Q'
def clE (t : TE) : TE := fun σ H Q => ∃ Q', (∀ v H, Q' v H → Q v H) ∧ t σ H Q'
theorem pa_cl {es : List Expr} {t : TA} (h : PA X es t) : PA X es (clA t) := ⟨fun pos pins s σ H Q I ⟨Q', m, q⟩ => thn (h.run pos pins s σ H Q' I q) fun _ _ ⟨vs, H', I', r, z⟩ => ⟨vs, H', I', r, m _ _ z⟩⟩
theorem pe_cl {e : Expr} {t : TE} (h : PE X e t) : PE X e (clE t) := ⟨fun pins s σ H Q I ⟨Q', m, q⟩ => thn (h.run pins s σ H Q' I q) fun _ _ ⟨v, H', I', r, z⟩ => ⟨v, H', I', r, m _ _ z⟩⟩
/-- a test, its answer told ahead -/
def clT (t : TT) : TT := fun σ H Q => ∃ Q' : Bool → Hp → Prop, t σ H Q' ∧ ∀ b H, Q' b H → Q b H
theorem pt_cl {e : Expr} {t : TT} (h : PT X e t) : PT X e (clT t) := ⟨fun pins s σ H Q I ⟨Q', q, m⟩ => thn (h.run pins s σ H Q' I q) fun _ _ ⟨H', I', z⟩ => ⟨H', I', m _ _ z⟩⟩
def tLstG (t : TA) : TE := fun σ H Q => t σ H fun xs H1 => xs.length ≤ sizeLine ∧ New H1 (.lst xs) Q
def tTupG (t : TA) : TE := fun σ H Q => t σ H fun xs H1 => xs.length ≤ sizeLine ∧ New H1 (.tup xs) Q
theorem pe_lstG {es : List Expr} {t : TA} {pos : Pos} (h : PA X es t) : PE X (.List es pos) (tLstG t) := pe_mono (pe_lst (pa_cl h)) fun _ _ _ q => ⟨_, fun _ _ ⟨z, n⟩ => ⟨z, n.of⟩, q⟩
theorem pe_tupG {es : List Expr} {t : TA} {pos : Pos} {x1} (h : PA X es t) : PE X (.Tuple es x1 pos) (tTupG t) := pe_mono (pe_tup (pa_cl h)) fun _ _ _ q => ⟨_, fun _ _ ⟨z, n⟩ => ⟨z, n.of⟩, q⟩
def rCatG (K : PySem.W.Frag) : R2 := fun x y H Q => ∃ l b xs zs, x = .ref l ∧ y = .ref b ∧ SqL K H l xs ∧ SqL K H b zs ∧ xs.length + zs.length ≤ sizeLine ∧ New H (.lst (xs ++ zs)) Q
theorem op_catG : OpR X (binaryOp .Add) (rCatG X.K) := op_mono op_catL fun _ _ _ _ ⟨l, b, xs, zs, e1, e2, h1, h2, z, n⟩ => ⟨l, b, xs, zs, e1, e2, h1, h2, z, n.of⟩
theorem sl_listG : SlR X (fun x lo hi H Q => ∃ a xs, x = .ref a ∧ SqL X.K H a xs ∧ New H (.lst (cutV xs lo hi)) Q) := sl_mono sl_list fun _ _ _ _ _ ⟨a, xs, e, h, n⟩ => ⟨a, xs, e, h, n.of⟩
theorem call_listG : CallR X (.type "list") (fun xs H Q => ∃ p ys, xs = [.ref p] ∧ (SqL X.K H p ys ∨ SqT X.K H p ys) ∧ New H (.lst ys) Q) := call_mono call_list_of fun _ _ _ ⟨p, ys, e, h, n⟩ => ⟨p, ys, e, h, n.of⟩
theorem call_listSG (hc : X.calm = true) : CallR X (.type "list") (fun xs H Q => ∃ z : Str, xs = [.str z] ∧ z.length ≤ sizeLine ∧ New H (.lst ((sgs z).map V.str)) Q) := call_mono (call_list_str hc) fun _ _ _ ⟨z, e, h, n⟩ => ⟨z, e, h, n.of⟩
theorem op_catGK {K : PySem.W.Frag} (h : X.K = K := by rfl) : OpR X (binaryOp .Add) (rCatG K) := by subst h; exact op_catG
theorem sl_listGK {K : PySem.W.Frag} (h : X.K = K := by rfl) : SlR X (fun x lo hi H Q => ∃ a xs, x = .ref a ∧ SqL K H a xs ∧ New H (.lst (cutV xs lo hi)) Q) := by subst h; exact sl_listG
theorem call_listGK {K : PySem.W.Frag} (h : X.K = K := by rfl) : CallR X (.type "list") (fun xs H Q => ∃ p ys, xs = [.ref p] ∧ (SqL K H p ys ∨ SqT K H p ys) ∧ New H (.lst ys) Q) := by subst h; exact call_listG
theorem op_repG : OpR X (binaryOp .Mult) (fun x y H Q => ∃ l k xs, x = .ref l ∧ y = .int k ∧ H l = some (.lst xs) ∧ -(2 ^ 63) ≤ k ∧ k < 2 ^ 63 ∧ xs.length * k.toNat ≤ sizeLine ∧ New H (.lst (List.replicate k.toNat xs).flatten) Q) :=
  op_mono op_rep fun _ _ _ _ ⟨l, k, xs, e1, e2, h, a, b, c, n⟩ => ⟨l, k, xs, e1, e2, h, a, b, c, n.of⟩
/-! ### a written list of ints -/
def tInts (ns : List Int) : TE := fun _ H Q => New H (.lst (ns.map V.int)) Q
theorem pe_litI {e : Expr} {t : TA} {ns : List Int} (h : PE X e (tLst t)) (ht : ∀ σ H Q, t σ H Q = Q (ns.map V.int) H) (hl : ns.length ≤ 1000) : PE X e (tInts ns) := pe_mono h fun σ H Q n => by
  show t σ H _
  rw [ht]
  exact ⟨by rw [List.length_map]; exact sz (by omega), n.of⟩
theorem pe_catI {a b : Expr} {ms ns : List Int} {pos : Pos} (ha : PE X a (tInts ms)) (hb : PE X b (tInts ns)) (hl : ms.length + ns.length ≤ 1000) : PE X (.BinOp a .Add b pos) (tInts (ms ++ ns)) :=
  pe_mono (pe_op op_catG ha hb) fun _ _ _ n p H1 np s1 h1 q H2 nq s2 h2 =>
    ⟨p, q, _, _, rfl, rfl, SqL.of (s2 _ _ h1), SqL.of h2, by rw [List.length_map, List.length_map]; exact sz (by omega), fun r H3 nr s3 h3 =>
      n r H3 (s1.free (s2.free nr)) ((s1.trans s2).trans s3) (by rw [h3, List.map_append])⟩
theorem pe_repI {a b : Expr} {ms : List Int} {k : Nat} {pos : Pos} (ha : PE X a (tInts ms)) (hb : PE X b (tC (.int (k : Int)))) (hl : ms.length * k ≤ 1000) (hk : k ≤ 1000) : PE X (.BinOp a .Mult b pos) (tInts (List.replicate k ms).flatten) :=
  pe_mono (pe_op op_rep ha hb) fun _ _ _ n p H1 np s1 h1 => by
    refine ⟨p, _, _, rfl, rfl, h1, ?_, ?_, ?_, fun q nq => n q _ (s1.free nq) (s1.trans (Same.new nq)) ?_⟩
    · omega
    · omega
    · rw [List.length_map, Int.toNat_natCast]; exact sz (by omega)
    · rw [upd_same, Int.toNat_natCast]
      congr 2
      rw [List.map_flatten, List.map_replicate]
theorem pe_intsAs {e : Expr} {ms ns : List Int} (h : PE X e (tInts ms)) (q : ms = ns) : PE X e (tInts ns) := q ▸ h
end
end Jr
namespace Jr
open PySem PySem.Spec PyProof.Rows L2
/-! ### calls of defs, methods, classes that may raise -/
section
variable {X : Cx} {k : Nat} {x : Str} {sp : Sp} {e : Expr} {es : List Expr} {t : TA} {p pos apos : Pos} {C : Addr} {m : Str} {o : Expr} {ta : TE} {W : WX}
theorem pe_calX (F : Cal X.prog X.w X.K X.mg X.base (L2.CX X.prog X.w) k x sp) (hr : Room k X.A) (hg : Gl X x) (tk : Takes X W) (ha : PA X (e :: es) t) (hdb : (x == ("__debug__" : Str)) = false := by decide)
    (he : starEach (e :: es) X.env = (false, eval e X.env) :: starEach es X.env := by rfl) (hpl : (backTo pos (starEach es X.env)).any (·.1) = false := by rfl) :
    PE X (.Call (.Name x p) (e :: es) [] pos) (fun σ H Q => t σ H fun vs H1 => sp vs H1 Q (WE W σ)) := by
  obtain ⟨f, fd, ps, G, gm, kp, b⟩ := F.ex
  exact pe_callS G hr hg gm kp b (fun σ => passAt tk σ) ha hdb he hpl
theorem pe_calL (F : Cal X.prog X.w X.K X.mg X.base (L2.CX X.prog X.w) k x sp) (hr : Room k X.A) (hg : Gl X x) (ha : PA X (e :: es) t) (hdb : (x == ("__debug__" : Str)) = false := by decide)
    (he : starEach (e :: es) X.env = (false, eval e X.env) :: starEach es X.env := by rfl) (hpl : (backTo pos (starEach es X.env)).any (·.1) = false := by rfl) :
    PE X (.Call (.Name x p) (e :: es) [] pos) (fun σ H Q => t σ H fun vs H1 => sp vs H1 Q E0) := by
  obtain ⟨f, fd, ps, G, gm, kp, b⟩ := F.ex
  have z := pe_call (p := p) (pos := pos) (es := es) G hr hg gm kp b .nil passL ha hdb he hpl
  refine ⟨fun pins s σ H Q I h => z.run pins s σ H Q I ?_⟩
  show t σ H fun vs H1 => sp (vs ++ []) H1 Q E0
  simpa only [List.append_nil] using h
theorem pe_metL {pl : Sem Bool} (F : Met X.prog X.w X.K X.mg X.base (L2.CX X.prog X.w) k C m sp) (ho : PE X o ta) (hr : Room k X.A) (ha : PA X (e :: es) t)
    (hc : eval (.Call (.Attribute o m apos) (e :: es) [] pos) X.env = (do
      let ov ← eval o X.env
      standAt apos.atName
      let (f, first) ← holding [ov] (getMethod ov m pl)
      callWith pos f first (backTo pos (starEach (e :: es) X.env)) (backToKw pos (keywordEach [] X.env))) := by rfl)
    (he : starEach (e :: es) X.env = (false, eval e X.env) :: starEach es X.env := by rfl) (hpl : (backTo pos (starEach es X.env)).any (·.1) = false := by rfl) :
    PE X (.Call (.Attribute o m apos) (e :: es) [] pos) (fun σ H Q => ta σ H fun x H1 => ∃ a dx fs, x = .ref a ∧ H1 a = some (.ins C dx fs) ∧ fs.lookup m = none ∧ t σ H1 fun vs H2 => sp (x :: vs) H2 Q E0) := by
  obtain ⟨f, fd, ps, G, mt, b⟩ := F.ex
  have z := pe_meth (apos := apos) (pos := pos) ho F.cl mt G hr b .nil passL ha he hpl hc
  refine ⟨fun pins s σ H Q I h => z.run pins s σ H Q I ?_⟩
  show ta σ H fun x H1 => ∃ a dx fs, x = .ref a ∧ H1 a = some (.ins C dx fs) ∧ fs.lookup m = none ∧ t σ H1 fun vs H2 => sp (x :: (vs ++ [])) H2 Q E0
  simpa only [List.append_nil] using h
theorem pe_metX {pl : Sem Bool} (F : Met X.prog X.w X.K X.mg X.base (L2.CX X.prog X.w) k C m sp) (ho : PE X o ta) (hr : Room k X.A) (tk : Takes X W) (ha : PA X (e :: es) t)
    (hc : eval (.Call (.Attribute o m apos) (e :: es) [] pos) X.env = (do
      let ov ← eval o X.env
      standAt apos.atName
      let (f, first) ← holding [ov] (getMethod ov m pl)
      callWith pos f first (backTo pos (starEach (e :: es) X.env)) (backToKw pos (keywordEach [] X.env))) := by rfl)
    (he : starEach (e :: es) X.env = (false, eval e X.env) :: starEach es X.env := by rfl) (hpl : (backTo pos (starEach es X.env)).any (·.1) = false := by rfl) :
    PE X (.Call (.Attribute o m apos) (e :: es) [] pos) (fun σ H Q => ta σ H fun x H1 => ∃ a dx fs, x = .ref a ∧ H1 a = some (.ins C dx fs) ∧ fs.lookup m = none ∧ t σ H1 fun vs H2 => sp (x :: vs) H2 Q (WE W σ)) := by
  obtain ⟨f, fd, ps, G, mt, b⟩ := F.ex
  constructor
  intro pins s σ H Q I h
  refine PySem.W.methodCall_KW (pl := pl) (thn (ho.run pins s σ H _ I h) ?_) hc
  rintro u s1 ⟨v, H1, I1, rv, a, dx, fs, ev, ea, hl, q⟩
  subst ev
  obtain rfl : u = Value.ref a := rv
  refine getmeth_ok I1 ea F.cl mt hl (PySem.W.callWith_K (first := [.ref a]) (h₀ := X.base) I1.ok.mod.kin mt.kp (thn (ha.run pos pins s1 σ H1 _ I1 q) ?_) he hpl)
  rintro us s2 ⟨vs, H2, I2, r, q2⟩
  exact ⟨I2.kIn, run_fnS (us := .ref a :: us) (vs := .ref a :: vs) (E := WE W) G hr b (passAt tk σ) I2 (.cons rfl r) q2⟩
/-- C(..) of an own class whose __init__ may raise -/
theorem pe_mkX (F : Mkc X.prog X.w X.K X.mg X.base (L2.CX X.prog X.w) k x C sp) (hr : Room (k + 1) X.A) (hg : Gl X x) (tk : Takes X W) (ha : PA X (e :: es) t) (hdb : (x == ("__debug__" : Str)) = false := by decide)
    (he : starEach (e :: es) X.env = (false, eval e X.env) :: starEach es X.env := by rfl) (hpl : (backTo pos (starEach es X.env)).any (·.1) = false := by rfl) :
    PE X (.Call (.Name x p) (e :: es) [] pos) (fun σ H Q => t σ H fun vs H1 => ∀ x dx, H1 x = none → H1 dx = none → dx ≠ x →
      sp (.ref x :: vs) (upd (upd H1 dx (.own x)) x (.ins C dx [])) (fun v H2 => v = .non ∧ Q (.ref x) H2) (WE W σ)) := by
  obtain ⟨f, fd, ps, G, mk, b⟩ := F.ex
  constructor
  intro pins s σ H Q I h
  refine wpAny_Call_Name_kw (ld_glob I hg F.g (PySem.W.callWith_K (h₀ := X.base) I.ok.mod.kin mk.kp (thn (ha.run pos pins s σ H _ I h) ?_) he hpl) hdb)
  rintro us s1 ⟨vs, H1, I1, r, q⟩
  refine ⟨I1.kIn, ?_⟩
  have hq := q (s1.heap.objs.size + 1) s1.heap.objs.size (I1.hok.fresh (Nat.le_succ _)) (I1.hok.fresh (Nat.le_refl _)) (Nat.ne_of_lt (Nat.lt_succ_self _))
  have I2 := Inv.made (C := C) I1
  have r2 : Vals (V.ref (s1.heap.objs.size + 1) :: vs) (Value.ref (s1.heap.objs.size + 1) :: us) := .cons rfl r
  have hl : (Value.ref (s1.heap.objs.size + 1) :: us).length = ps.length := by
    rw [← r2.length]
    exact G.len _ _ _ _ hq
  have bb := b { s1 with heap := _ } (Value.ref (s1.heap.objs.size + 1) :: us) I2.kIn (by rw [List.append_nil]; exact hl)
  rw [List.append_nil] at bb
  have G2 := G.run _ X.stack _ _ ⟨Value.ref (s1.heap.objs.size + 1) :: us, []⟩ (Value.ref (s1.heap.objs.size + 1) :: us) _ _ (WE W σ) (hr.make C us []) (I2.env0.make C us []) bb r2 hq
  refine wpAny_call (make_map (f := f) I1.kIn mk.makes mk.init (beq_iff_eq.mp mk.fn) (codeAny_mono G2 ?_))
  intro r' s' hq'
  cases r' with
  | error er => exact passAt tk σ pins _ _ er s' I2 hq'
  | ok fl =>
    cases fl with
    | ret u =>
      obtain ⟨v, H', I3, rv, ev, q3⟩ := I2.after hq'
      subst ev
      exact ⟨rv, ⟨V.ref (s1.heap.objs.size + 1), H', I3, rfl, q3⟩⟩
    | next => exact hq'.elim
    | brk => exact hq'.elim
    | cont => exact hq'.elim
theorem pe_mkL (F : Mkc X.prog X.w X.K X.mg X.base (L2.CX X.prog X.w) k x C sp) (hr : Room (k + 1) X.A) (hg : Gl X x) (ha : PA X (e :: es) t) (hdb : (x == ("__debug__" : Str)) = false := by decide)
    (he : starEach (e :: es) X.env = (false, eval e X.env) :: starEach es X.env := by rfl) (hpl : (backTo pos (starEach es X.env)).any (·.1) = false := by rfl) :
    PE X (.Call (.Name x p) (e :: es) [] pos) (fun σ H Q => t σ H fun vs H1 => ∀ x dx, H1 x = none → H1 dx = none → dx ≠ x →
      sp (.ref x :: vs) (upd (upd H1 dx (.own x)) x (.ins C dx [])) (fun v H2 => v = .non ∧ Q (.ref x) H2) E0) := by
  obtain ⟨f, fd, ps, G, mk, b⟩ := F.ex
  have z := pe_make (p := p) (pos := pos) (es := es) mk G hr hg F.g b .nil passL ha hdb he hpl
  refine ⟨fun pins s σ H Q I h => z.run pins s σ H Q I ?_⟩
  show t σ H fun vs H1 => ∀ x dx, H1 x = none → H1 dx = none → dx ≠ x → sp (.ref x :: (vs ++ [])) (upd (upd H1 dx (.own x)) x (.ins C dx [])) (fun v H2 => v = .non ∧ Q (.ref x) H2) E0
  simpa only [List.append_nil] using h
end
/-! ### a def read off its class: C.m(self, ..) -/
theorem vV (K : PySem.W.Frag) : PySem.W.findCls K (.type "ValueError") (.type "type") "__init__" = some (.val (.builtin "ValueError.__init__")) := by kernel_rfl
structure Cdf (P : Program) (w : World) (K : PySem.W.Frag) (mg : Str → Option Value) (base : Heap) (k : Nat) (x : Str) (C : Addr) (m : Str) (sp : Sp) : Prop where
  ex : ∃ (f : Addr) (fd : FuncData) (ps : List Str), FnOk P w K mg base CX0 k f fd ps sp ∧ PySem.W.readsIn K C (.type "type") = true ∧ PySem.W.specialIn K (.ref C) "__getattribute__" = some (some (.builtin "type.__getattribute__")) ∧
    PySem.W.findCls K (.ref C) (.type "type") m = some (.val (.ref f)) ∧ PySem.W.keepIn K (.ref f) = true ∧ Binds K fd ps []
  g : mg x = some (.ref C)
theorem pe_cdef {X : Cx} {k : Nat} {x m : Str} {C : Addr} {sp : Sp} {e : Expr} {es : List Expr} {t : TA} {p1 p2 pos : Pos} {pl : Sem Bool} (F : Cdf X.prog X.w X.K X.mg X.base k x C m sp) (hr : Room k X.A) (hg : Gl X x) (ha : PA X (e :: es) t)
    (hc : eval (.Call (.Attribute (.Name x p1) m p2) (e :: es) [] pos) X.env = (do
      let ov ← eval (.Name x p1) X.env
      standAt p2.atName
      let (f, first) ← holding [ov] (getMethod ov m pl)
      callWith pos f first (backTo pos (starEach (e :: es) X.env)) (backToKw pos (keywordEach [] X.env))) := by rfl)
    (hdb : (x == ("__debug__" : Str)) = false := by decide) (he : starEach (e :: es) X.env = (false, eval e X.env) :: starEach es X.env := by rfl) (hpl : (backTo pos (starEach es X.env)).any (·.1) = false := by rfl) :
    PE X (.Call (.Attribute (.Name x p1) m p2) (e :: es) [] pos) (fun σ H Q => t σ H fun vs H1 => sp vs H1 Q E0) := by
  obtain ⟨f, fd, ps, G, rd, ga, fc, kp, b⟩ := F.ex
  constructor
  intro pins s σ H Q I h
  refine PySem.W.methodCall_KW (pl := pl) (ld_glob I hg F.g (PySem.W.method_cls I.kIn ga (PySem.W.cls_value I.kIn rd fc rfl ?_)) hdb) hc
  refine PySem.W.callWith_K (first := []) (h₀ := X.base) I.ok.mod.kin kp (thn (ha.run pos pins _ σ H _ (I.tok _) h) ?_) he hpl
  rintro us s1 ⟨vs, H1, I1, r, q⟩
  exact ⟨I1.kIn, run_fn (us := us) G hr b .nil pass0 I1 r (by rw [List.append_nil]; exact q)⟩
/-! ### {x} of None, an int, a text -/
def Fmt (v : V) : Prop := v = .non ∨ (∃ i : Int, v = .int i ∧ i.natAbs.log2 < 1920) ∨ ∃ y : Str, v = .str y ∧ y.length ≤ 1000
def tFmtN (te : TE) : TE := fun σ H Q => te σ H fun x H1 => Fmt x ∧ ∀ y : Str, y.length ≤ 2000 → Q (.str y) H1
theorem pe_fmtN {X : Cx} {e : Expr} {te : TE} {pos : Pos} (he : PE X e te) : PE X (.FormattedValue e (-1) none pos) (tFmtN te) := by
  constructor
  intro pins s σ H Q I h
  refine wpAny_FormattedValue_plain (thn (he.run pins s σ H _ I h) ?_)
  rintro v s1 ⟨x, H1, I1, r1, fm, q⟩
  rcases fm with rfl | ⟨i, rfl, hz⟩ | ⟨y, rfl, hz⟩
  · cases r1
    exact wpAny_formatField_none ⟨.str "None", H1, I1.tok _, ⟨_, rfl⟩, q _ (by decide +kernel)⟩
  · obtain ⟨t, rfl⟩ := r1
    have l := int_text_length_le (k := 1920) (by decide) hz
    refine wpAny_formatField_int hz ⟨.str (Str.ofString (toString i)), H1, I1.tok _, ⟨_, rfl⟩, q _ ?_⟩
    rw [PySem.ofString_length]
    omega
  · obtain ⟨t, rfl⟩ := r1
    exact wpAny_formatField_str ⟨.str y, H1, I1, ⟨t, rfl⟩, q y (by omega)⟩ ⟨.str y, H1, I1.tok _, ⟨_, rfl⟩, q y (by omega)⟩ (sz (by omega))
/-! ### what the text says of an own exception class, as a Bool -/
def clsB (K : PySem.W.Frag) (C : Addr) : Bool := match K.lookup C with
  | some ⟨.type "type", _, .cls cd, sl⟩ => (match cd.mro, sl.toList with
    | .ref D :: bm, [_, _, _, _, some (.builtin n), _] => (D == C && n == "ValueError.__new__") && (!cd.hasDel && (cd.hasDict && PySem.HandSPX.refsVE bm))
    | _, _ => false)
  | _ => false
theorem clsB_ok {K : PySem.W.Frag} {C : Addr} (h : clsB K C = true) : ∃ nm q N bs bm sn sub ab col dd k0 k1 k2 k3 k5, K.lookup C = some (excClassObj nm q C N bs bm true sn sub ab col dd k0 k1 k2 k3 k5 "ValueError.__new__") ∧ PySem.HandSPX.refsVE bm = true := by
  unfold clsB at h
  split at h
  · rename_i dd cd sl ho
    split at h
    · rename_i D bm k0 k1 k2 k3 n k5 e1 e2
      rw [Bool.and_eq_true, Bool.and_eq_true, Bool.and_eq_true, Bool.and_eq_true, beq_iff_eq, beq_iff_eq, Bool.not_eq_true'] at h
      obtain ⟨⟨h1, h2⟩, h3, h4, h5⟩ := h
      subst h1 h2
      obtain ⟨nm, bs, mro, ns, qn, hd, sn, sub, ab, col, de⟩ := cd
      simp only at e1 h3 h4
      subst e1 h3 h4
      have e3 : sl = #[k0, k1, k2, k3, some (.builtin "ValueError.__new__"), k5] := by
        obtain ⟨l⟩ := sl
        simp only at e2
        rw [e2]
      subst e3
      exact ⟨nm, qn, ns, bs, bm, sn, sub, ab, col, dd, k0, k1, k2, k3, k5, ho, h5⟩
    · cases h
  · cases h
def fcB (K : PySem.W.Frag) (C f : Addr) : Bool := match PySem.W.findCls K (.ref C) (.type "type") "__init__" with
  | some (.val (.ref g)) => decide (g = f)
  | _ => false
theorem fcB_ok {K : PySem.W.Frag} {C f : Addr} (h : fcB K C f = true) : PySem.W.findCls K (.ref C) (.type "type") "__init__" = some (.val (.ref f)) := by
  unfold fcB at h
  split at h
  · rename_i g e
    rw [e, of_decide_eq_true h]
  · cases h
/-- all that is asked of a class -/
structure XcC (K : PySem.W.Frag) (C : Addr) : Prop where
  oex : OexC K C
  xf : XfC K C
  ic : (PySem.W.clsIn K C).isSome = true
  ca : PySem.W.findIn K (.ref C) "__class__" = some (some (.builtin "object.__class__"))
  cg : PySem.W.specialIn K (.builtin "object.__class__") "__get__" = some (some (.builtin "getset_descriptor.__get__"))
  ct : PySem.W.takesIn K (.builtin "object.__class__") = some true
  cm : PySem.W.mroIn K C (.type "object") = some true
def xcB (K : PySem.W.Frag) (C : Addr) : Bool := clsB K C && (decide (PySem.W.findIn K (.ref C) "__setattr__" = some (some (.builtin "object.__setattr__"))) && (decide (PySem.W.typeIn K (.ref C) = some (.type "type")) && (PySem.W.keepIn K (.ref C) && (xfB K C && ((PySem.W.clsIn K C).isSome &&
  (decide (PySem.W.findIn K (.ref C) "__class__" = some (some (.builtin "object.__class__"))) && (decide (PySem.W.specialIn K (.builtin "object.__class__") "__get__" = some (some (.builtin "getset_descriptor.__get__"))) &&
    (decide (PySem.W.takesIn K (.builtin "object.__class__") = some true) && decide (PySem.W.mroIn K C (.type "object") = some true)))))))))
theorem xcB_ok {K : PySem.W.Frag} {C : Addr} (h : xcB K C = true) : XcC K C := by
  unfold xcB at h
  simp only [Bool.and_eq_true, decide_eq_true_eq] at h
  obtain ⟨h1, h2, h3, h4, h5, h6, h7, h8, h9, h10⟩ := h
  have xf := xfB_ok h5
  exact ⟨⟨clsB_ok h1, h2, xf.exC, h3, h4⟩, xf, h6, h7, h8, h9, h10⟩
/-! ### promises of __init__, and what is raised -/
/-- __init__(self, v): one field -/
def spX1 (C : Addr) (f : Str) : Sp := fun vs H Q _ => ∃ (a : Addr) (v : V), vs = [.ref a, v] ∧ Fmt v ∧ H a = some (exo a C none) ∧ ∀ d, H d = none → d ≠ a → Q .non (upd (upd H d (exd d [(f, v)])) a (exo a C (some d)))
/-- __init__(self, v, u): two fields -/
def spX2 (C : Addr) (f g : Str) : Sp := fun vs H Q _ => ∃ (a : Addr) (v u : V), vs = [.ref a, v, u] ∧ Fmt v ∧ Fmt u ∧ H a = some (exo a C none) ∧ ∀ d, H d = none → d ≠ a → Q .non (upd (upd (upd H d (exd d [(f, v)])) a (exo a C (some d))) d (exd d [(g, u), (f, v)]))
structure Exk (P : Program) (w : World) (K : PySem.W.Frag) (mg : Str → Option Value) (base : Heap) (k : Nat) (x : Str) (C : Addr) (sp : Sp) : Prop where
  ex : ∃ (f : Addr) (fd : FuncData) (ps : List Str), FnOk P w K mg base CX0 k f fd ps sp ∧ PySem.W.findIn K (.ref C) "__init__" = some (some (.ref f)) ∧ PySem.W.typeIn K (.ref f) = some (.type "function") ∧ Binds K fd ps []
  xc : XcC K C
  g : mg x = some (.ref C)
section
variable {X : Cx} {k : Nat} {x f g : Str} {C : Addr} {e e2 : Expr} {ta : TA} {p pos : Pos}
def tMk1 (C : Addr) (f : Str) (ta : TA) : L2.St → Hp → XK → Prop := fun σ H Q => ta σ H fun vs H1 => ∃ v, vs = [v] ∧ Fmt v ∧ ∀ d, H1 d = none → Q (.ref C) (some d) (upd H1 d (.xd [(f, v)]))
def tMk2 (C : Addr) (f g : Str) (ta : TA) : L2.St → Hp → XK → Prop := fun σ H Q => ta σ H fun vs H1 => ∃ v u, vs = [v, u] ∧ Fmt v ∧ Fmt u ∧ ∀ d, H1 d = none → Q (.ref C) (some d) (upd H1 d (.xd [(g, u), (f, v)]))
theorem pmk_mono {e : Expr} {t t' : L2.St → Hp → XK → Prop} (h : PMk X e t) (m : ∀ σ H Q, t' σ H Q → t σ H Q) : PMk X e t' := fun pins s σ H Q I q => h pins s σ H Q I (m σ H Q q)
theorem pass0F {X : Cx} : Passes CX0 X (fun _ _ _ => False) := pass0
theorem upd_del {H1 H2 : Hp} {a d : Addr} {o : HO} (ha : H1 a = none) (h : ∀ b, b ≠ a → b ≠ d → H2 b = H1 b) : upd (del H2 a) d o = upd H1 d o := by
  funext b
  by_cases hd : b = d
  · rw [hd, upd_same, upd_same]
  · rw [upd_ne hd, upd_ne hd]
    by_cases hb : b = a
    · rw [hb, del_same, ha]
    · rw [del_ne hb, h b hb hd]
theorem Exk.mk1 (F : Exk X.prog X.w X.K X.mg X.base k x C (spX1 C f)) (hr : Room (k + 1) X.A) (ha : PA X [e] ta) (hg : Gl X x := by rfl) (hdb : (x == ("__debug__" : Str)) = false := by decide)
    (he : starEach [e] X.env = (false, eval e X.env) :: starEach [] X.env := by rfl) (hpl : (backTo pos (starEach [] X.env)).any (·.1) = false := by rfl) : PMk X (.Call (.Name x p) [e] [] pos) (tMk1 C f ta) := by
  obtain ⟨fI, fd, ps, G, iC, tI, b⟩ := F.ex
  refine pmk_mono (pmk_oex F.xc.oex iC tI G hr b .nil pass0F hg F.g (pa_cl ha) hdb he hpl) fun σ H Q q => ⟨_, ?_, q⟩
  rintro vs H1 ⟨v, rfl, fm, q⟩
  refine ⟨by show 1 ≤ 1000; decide, fun a na => ⟨a, v, rfl, fm, upd_same, fun d nd ne => ⟨rfl, d, [(f, v)], upd_same, ?_, ?_, ?_⟩⟩⟩
  · rw [upd_ne ne, upd_same]
  · rw [upd_ne ne] at nd
    exact nd
  · rw [upd_ne ne] at nd
    rw [upd_del na fun b hb hd => by rw [upd_ne hb, upd_ne hd, upd_ne hb]]
    exact q d nd
theorem Exk.mk2 (F : Exk X.prog X.w X.K X.mg X.base k x C (spX2 C f g)) (hr : Room (k + 1) X.A) (ha : PA X [e, e2] ta) (hg : Gl X x := by rfl) (hdb : (x == ("__debug__" : Str)) = false := by decide)
    (he : starEach [e, e2] X.env = (false, eval e X.env) :: starEach [e2] X.env := by rfl) (hpl : (backTo pos (starEach [e2] X.env)).any (·.1) = false := by rfl) : PMk X (.Call (.Name x p) [e, e2] [] pos) (tMk2 C f g ta) := by
  obtain ⟨fI, fd, ps, G, iC, tI, b⟩ := F.ex
  refine pmk_mono (pmk_oex F.xc.oex iC tI G hr b .nil pass0F hg F.g (pa_cl ha) hdb he hpl) fun σ H Q q => ⟨_, ?_, q⟩
  rintro vs H1 ⟨v, u, rfl, fv, fu, q⟩
  refine ⟨by show 2 ≤ 1000; decide, fun a na => ⟨a, v, u, rfl, fv, fu, upd_same, fun d nd ne => ⟨rfl, d, [(g, u), (f, v)], ?_, upd_same, ?_, ?_⟩⟩⟩
  · rw [upd_ne (Ne.symm ne), upd_same]
  · rw [upd_ne ne] at nd
    exact nd
  · rw [upd_ne ne] at nd
    rw [upd_del na fun b hb hd => by rw [upd_ne hd, upd_ne hb, upd_ne hd, upd_ne hb]]
    exact q d nd
end
/-! ### isinstance of a caught error with fields -/
def rIsD (K : PySem.W.Frag) (a : Addr) (cls : Value) (d : Option Addr) (D : Addr) : List V → Hp → VK → Prop := fun xs H Q => ∃ (c : V) (cv : Value) (b : Bool) (dd : Addr) (fs : List (Str × V)), xs = [.ref a, c] ∧ cls = .ref D ∧ d = some dd ∧ H dd = some (.xd fs) ∧
  (∀ u, RelV c u → u = cv) ∧ PySem.W.kitOne K (.ref D) cv = some b ∧ Q (.bl b) H
theorem call_isD {X : Cx} {a D : Addr} {oe : Obj} {cls : Value} {d : Option Addr} {pn : List (Addr × Obj)} (C : XcC X.K D) (hz : Zc cls d oe) (hf : ∃ vs, oe.data = .fields vs) : CallR (X.suite a ((a, oe) :: pn)) (.builtin "isinstance") (rIsD X.K a cls d D) := by
  intro pins s σ H xs us Q I r h
  obtain ⟨c, cv, b, dd, fs, rfl, ec, ed, hdd, hcv, e, q⟩ := h
  cases r with
  | cons rx rr =>
    cases rr with
    | cons rt rr =>
      cases rr
      cases rx
      have e1 := hcv _ rt
      subst e1
      obtain ⟨hget, _⟩ := I.pin (a, oe) (List.mem_append.mpr (.inl List.mem_cons_self))
      obtain ⟨vs, hv⟩ := hf
      have hx : ObjOk X.prog X.w H s.heap dd (.xd fs) := I.hok dd _ hdd
      obtain ⟨mA, hns, _⟩ := hx
      obtain ⟨od, ho, _⟩ := lookIn_ns hns
      have J : PySem.W.InstAt s.heap a oe D (some od) := ⟨hget, by rw [hz.1, ec], by unfold PySem.W.notCls; rw [hv] <;> rfl, by rw [hz.2, ed]; exact ho⟩
      exact PySem.W.kia_one (PySem.W.kitx_exc C.ic C.xf.ga C.xf.gg C.xf.exC C.ca C.cg C.ct C.cm) I.kIn J e (fun z => nomatch z) fun tk => ⟨.bl b, H, I.kept (t' := tk) fun _ _ z => z, rfl, q⟩
end Jr

namespace Jr
open PySem PySem.Spec PyProof.Rows L2
/-! ### the head's facts, the interpreter's own statics among them -/
def asC (g : Addr → Option Obj) (n : Nat) : List Addr := He.asD g n ++ [cStatics]
def obsC (n : Nat) (fa : List He.Fa) (fn : List He.DefD) (ex : PySem.W.Frag → Bool) (g : Addr → Option Obj) : He.AlX := (He.obsT fa fn [] (He.frT g (asC g n)), ex (He.frT g (asC g n)))
structure SaysC (fa : List He.Fa) (fn : List He.DefD) (ex : PySem.W.Frag → Bool) (w : World) (K : PySem.W.Frag) : Prop where
  t : He.SaysT fa fn [] w K
  more : ex K = true
theorem saysC_of {n : Nat} {fa : List He.Fa} {fn : List He.DefD} {ex : PySem.W.Frag → Bool} {w : World} {h : Heap} (e : obsC n fa fn ex h.get? = He.valX fn [] w) : SaysC fa fn ex w (He.frT h.get? (asC h.get? n)) :=
  ⟨congrArg (fun z : He.AlX => z.1) e, congrArg (fun z : He.AlX => z.2) e⟩
def hookC (n : Nat) (fa : List He.Fa) (fn : List He.DefD) (ex : PySem.W.Frag → Bool) : PySem.W.Hook where
  α := He.AlX
  obs := fun s => obsC n fa fn ex s.heap.get?
  val := fun w => He.valX fn [] w
  says := fun w h => ∃ K : PySem.W.Frag, K.In h ∧ SaysC fa fn ex w K
  of := fun _ _ e => ⟨_, He.frT_in, saysC_of e⟩
  keeps := fun _ _ _ ⟨K, hK, c⟩ k => ⟨K, PySem.W.Frag.In.keeps hK k, c⟩
theorem obsC_eq {n : Nat} {fa : List He.Fa} {fn : List He.DefD} {ex : PySem.W.Frag → Bool} {g : Addr → Option Obj} {s : Shared} (h : ∀ a, g a = s.heap.get? a) : obsC n fa fn ex g = (hookC n fa fn ex).obs s := by
  have e : g = s.heap.get? := funext h
  rw [e]; rfl
end Jr
namespace Jr
open PySem PySem.Spec PyProof.Rows L2
/-! ### the head's facts over few addresses: the globals, their codes, the classes' own names, their methods, these ones' codes -/
def refsP (o : Obj) : List Addr := match o.data with
  | .func fd => He.refV fd.code
  | .cls cd => [cd.ns]
  | .dict es _ => es.toList.flatMap fun e => He.refV e.val
  | _ => []
def levP (g : Addr → Option Obj) : Nat → List Addr → List Addr
  | 0, f => f
  | n + 1, f => f ++ levP g n (f.flatMap fun a => match g a with
    | some o => refsP o
    | none => [])
def asP (g : Addr → Option Obj) (n : Nat) : List Addr := levP g n [mainGlobals] ++ [cStatics]
def obsP (n : Nat) (fa : List He.Fa) (fn : List He.DefD) (ex : PySem.W.Frag → Bool) (g : Addr → Option Obj) : He.AlX := (He.obsT fa fn [] (He.frT g (asP g n)), ex (He.frT g (asP g n)))
theorem saysP_of {n : Nat} {fa : List He.Fa} {fn : List He.DefD} {ex : PySem.W.Frag → Bool} {w : World} {h : Heap} (e : obsP n fa fn ex h.get? = He.valX fn [] w) : SaysC fa fn ex w (He.frT h.get? (asP h.get? n)) :=
  ⟨congrArg (fun z : He.AlX => z.1) e, congrArg (fun z : He.AlX => z.2) e⟩
def hookP (n : Nat) (fa : List He.Fa) (fn : List He.DefD) (ex : PySem.W.Frag → Bool) : PySem.W.Hook where
  α := He.AlX
  obs := fun s => obsP n fa fn ex s.heap.get?
  val := fun w => He.valX fn [] w
  says := fun w h => ∃ K : PySem.W.Frag, K.In h ∧ SaysC fa fn ex w K
  of := fun _ _ e => ⟨_, He.frT_in, saysP_of e⟩
  keeps := fun _ _ _ ⟨K, hK, c⟩ k => ⟨K, PySem.W.Frag.In.keeps hK k, c⟩
theorem obsP_eq {n : Nat} {fa : List He.Fa} {fn : List He.DefD} {ex : PySem.W.Frag → Bool} {g : Addr → Option Obj} {s : Shared} (h : ∀ a, g a = s.heap.get? a) : obsP n fa fn ex g = (hookP n fa fn ex).obs s := by
  have e : g = s.heap.get? := funext h
  rw [e]; rfl
theorem split6 {α β γ ε ζ : Type} {o : Option α} {f : α → β} {g : α → γ} {h1 h2 k : α → Bool} {h3 : α → ε} {h4 : ζ} {a : β} {b : γ} {c3 : ε} (e1 : o.map f = some a) (e2 : o.map g = some b) (e3 : o.map h1 = some true) (e4 : o.map h2 = some true) (e5 : o.map h3 = some c3) (e6 : o.map k = some true) :
    o.map (fun s => (f s, g s, (((h1 s && h2 s, h3 s), h4), k s))) = some (a, b, (((true, c3), h4), true)) := by
  cases o with
  | none => cases e1
  | some x =>
    have q1 : f x = a := Option.some.inj e1
    have q2 : g x = b := Option.some.inj e2
    have q3 : h1 x = true := Option.some.inj e3
    have q4 : h2 x = true := Option.some.inj e4
    have q5 : h3 x = c3 := Option.some.inj e5
    have q6 : k x = true := Option.some.inj e6
    show some (f x, g x, (((h1 x && h2 x, h3 x), h4), k x)) = _
    rw [q1, q2, q3, q4, q5, q6]
    rfl
end Jr
namespace Jr
open PySem PySem.Spec PyProof.Rows L2
/-! ### the text -/
def top (i : Nat) : Stmt := PySem.Challenge.pw_joinranks_k51_kept_under_other_tables.main.body.getD i (.Pass ⟨0, 0, 0, 0⟩)
abbrev s__wall : Stmt := (top 0)
abbrev N__wall : List Str := ["k"]
abbrev P__wall : List Str := ["k"]
theorem sc__wall : FnScope N__wall P__wall (defScope s__wall) := ⟨rfl, rfl, rfl, by decide +kernel, rfl, by decide +kernel, by decide +kernel⟩
abbrev s_JoinError___init__ : Stmt := (inClass (top 2) 0)
abbrev N_JoinError___init__ : List Str := ["self", "words"]
abbrev P_JoinError___init__ : List Str := ["self", "words"]
theorem sc_JoinError___init__ : FnScope N_JoinError___init__ P_JoinError___init__ (defScope s_JoinError___init__) := ⟨rfl, rfl, rfl, by decide +kernel, rfl, by decide +kernel, by decide +kernel⟩
abbrev s_NoTable___init__ : Stmt := (inClass (top 3) 0)
abbrev N_NoTable___init__ : List Str := ["self", "part", "number"]
abbrev P_NoTable___init__ : List Str := ["self", "part", "number"]
theorem sc_NoTable___init__ : FnScope N_NoTable___init__ P_NoTable___init__ (defScope s_NoTable___init__) := ⟨rfl, rfl, rfl, by decide +kernel, rfl, by decide +kernel, by decide +kernel⟩
abbrev s_NoGrammar___init__ : Stmt := (inClass (top 4) 0)
abbrev N_NoGrammar___init__ : List Str := ["self", "part", "number"]
abbrev P_NoGrammar___init__ : List Str := ["self", "part", "number"]
theorem sc_NoGrammar___init__ : FnScope N_NoGrammar___init__ P_NoGrammar___init__ (defScope s_NoGrammar___init__) := ⟨rfl, rfl, rfl, by decide +kernel, rfl, by decide +kernel, by decide +kernel⟩
abbrev s_NoCutting___init__ : Stmt := (inClass (top 5) 0)
abbrev N_NoCutting___init__ : List Str := ["self", "kind", "place"]
abbrev P_NoCutting___init__ : List Str := ["self", "kind", "place"]
theorem sc_NoCutting___init__ : FnScope N_NoCutting___init__ P_NoCutting___init__ (defScope s_NoCutting___init__) := ⟨rfl, rfl, rfl, by decide +kernel, rfl, by decide +kernel, by decide +kernel⟩
abbrev s_NoSign___init__ : Stmt := (inClass (top 6) 0)
abbrev N_NoSign___init__ : List Str := ["self", "place"]
abbrev P_NoSign___init__ : List Str := ["self", "place"]
theorem sc_NoSign___init__ : FnScope N_NoSign___init__ P_NoSign___init__ (defScope s_NoSign___init__) := ⟨rfl, rfl, rfl, by decide +kernel, rfl, by decide +kernel, by decide +kernel⟩
abbrev s_NoPiece___init__ : Stmt := (inClass (top 7) 0)
abbrev N_NoPiece___init__ : List Str := ["self", "place"]
abbrev P_NoPiece___init__ : List Str := ["self", "place"]
theorem sc_NoPiece___init__ : FnScope N_NoPiece___init__ P_NoPiece___init__ (defScope s_NoPiece___init__) := ⟨rfl, rfl, rfl, by decide +kernel, rfl, by decide +kernel, by decide +kernel⟩
abbrev s_NoNumber___init__ : Stmt := (inClass (top 8) 0)
abbrev N_NoNumber___init__ : List Str := ["self", "place"]
abbrev P_NoNumber___init__ : List Str := ["self", "place"]
theorem sc_NoNumber___init__ : FnScope N_NoNumber___init__ P_NoNumber___init__ (defScope s_NoNumber___init__) := ⟨rfl, rfl, rfl, by decide +kernel, rfl, by decide +kernel, by decide +kernel⟩
abbrev s_NoCount___init__ : Stmt := (inClass (top 9) 0)
abbrev N_NoCount___init__ : List Str := ["self", "number"]
abbrev P_NoCount___init__ : List Str := ["self", "number"]
theorem sc_NoCount___init__ : FnScope N_NoCount___init__ P_NoCount___init__ (defScope s_NoCount___init__) := ⟨rfl, rfl, rfl, by decide +kernel, rfl, by decide +kernel, by decide +kernel⟩
abbrev s_NoText___init__ : Stmt := (inClass (top 10) 0)
abbrev N_NoText___init__ : List Str := ["self", "row"]
abbrev P_NoText___init__ : List Str := ["self", "row"]
theorem sc_NoText___init__ : FnScope N_NoText___init__ P_NoText___init__ (defScope s_NoText___init__) := ⟨rfl, rfl, rfl, by decide +kernel, rfl, by decide +kernel, by decide +kernel⟩
abbrev s_is_whole : Stmt := (top 17)
abbrev N_is_whole : List Str := ["thing"]
abbrev P_is_whole : List Str := ["thing"]
theorem sc_is_whole : FnScope N_is_whole P_is_whole (defScope s_is_whole) := ⟨rfl, rfl, rfl, by decide +kernel, rfl, by decide +kernel, by decide +kernel⟩
abbrev s_is_up_to : Stmt := (top 18)
abbrev N_is_up_to : List Str := ["thing", "most"]
abbrev P_is_up_to : List Str := ["thing", "most"]
theorem sc_is_up_to : FnScope N_is_up_to P_is_up_to (defScope s_is_up_to) := ⟨rfl, rfl, rfl, by decide +kernel, rfl, by decide +kernel, by decide +kernel⟩
abbrev s_check_text : Stmt := (top 20)
abbrev N_check_text : List Str := ["table", "text", "signs", "place", "sign"]
abbrev P_check_text : List Str := ["table", "text"]
theorem sc_check_text : FnScope N_check_text P_check_text (defScope s_check_text) := ⟨rfl, rfl, rfl, by decide +kernel, rfl, by decide +kernel, by decide +kernel⟩
abbrev s_check_piece : Stmt := (top 21)
abbrev N_check_piece : List Str := ["table", "piece"]
abbrev P_check_piece : List Str := ["table", "piece"]
theorem sc_check_piece : FnScope N_check_piece P_check_piece (defScope s_check_piece) := ⟨rfl, rfl, rfl, by decide +kernel, rfl, by decide +kernel, by decide +kernel⟩
abbrev s_check_place : Stmt := (top 22)
abbrev N_check_place : List Str := ["place", "most"]
abbrev P_check_place : List Str := ["place", "most"]
theorem sc_check_place : FnScope N_check_place P_check_place (defScope s_check_place) := ⟨rfl, rfl, rfl, by decide +kernel, rfl, by decide +kernel, by decide +kernel⟩
abbrev s_check_same_signs : Stmt := (top 23)
abbrev N_check_same_signs : List Str := ["one", "other"]
abbrev P_check_same_signs : List Str := ["one", "other"]
theorem sc_check_same_signs : FnScope N_check_same_signs P_check_same_signs (defScope s_check_same_signs) := ⟨rfl, rfl, rfl, by decide +kernel, rfl, by decide +kernel, by decide +kernel⟩
abbrev s_edge : Stmt := (top 25)
abbrev N_edge : List Str := ["table", "piece", "side", "told", "parts"]
abbrev P_edge : List Str := ["table", "piece", "side"]
theorem sc_edge : FnScope N_edge P_edge (defScope s_edge) := ⟨rfl, rfl, rfl, by decide +kernel, rfl, by decide +kernel, by decide +kernel⟩
abbrev s_right_edge : Stmt := (top 26)
abbrev N_right_edge : List Str := ["table", "piece"]
abbrev P_right_edge : List Str := ["table", "piece"]
theorem sc_right_edge : FnScope N_right_edge P_right_edge (defScope s_right_edge) := ⟨rfl, rfl, rfl, by decide +kernel, rfl, by decide +kernel, by decide +kernel⟩
abbrev s_left_edge : Stmt := (top 27)
abbrev N_left_edge : List Str := ["table", "piece"]
abbrev P_left_edge : List Str := ["table", "piece"]
theorem sc_left_edge : FnScope N_left_edge P_left_edge (defScope s_left_edge) := ⟨rfl, rfl, rfl, by decide +kernel, rfl, by decide +kernel, by decide +kernel⟩
abbrev s_with_ends : Stmt := (top 28)
abbrev N_with_ends : List Str := ["table", "pieces", "told", "end", "piece", "parts"]
abbrev P_with_ends : List Str := ["table", "pieces"]
theorem sc_with_ends : FnScope N_with_ends P_with_ends (defScope s_with_ends) := ⟨rfl, rfl, rfl, by decide +kernel, rfl, by decide +kernel, by decide +kernel⟩
abbrev s_edges_meet : Stmt := (top 29)
abbrev N_edges_meet : List Str := ["table", "right_edge_ends", "left_edge_ends", "least", "left", "left_end", "right", "right_end", "rank"]
abbrev P_edges_meet : List Str := ["table", "right_edge_ends", "left_edge_ends"]
theorem sc_edges_meet : FnScope N_edges_meet P_edges_meet (defScope s_edges_meet) := ⟨rfl, rfl, rfl, by decide +kernel, rfl, by decide +kernel, by decide +kernel⟩
abbrev s_Follows___init__ : Stmt := (inClass (top 31) 0)
abbrev N_Follows___init__ : List Str := ["self", "table", "piece"]
abbrev P_Follows___init__ : List Str := ["self", "table"]
theorem sc_Follows___init__ : FnScope N_Follows___init__ P_Follows___init__ (defScope s_Follows___init__) := ⟨rfl, rfl, rfl, by decide +kernel, rfl, by decide +kernel, by decide +kernel⟩
abbrev s_Follows_is_alone : Stmt := (inClass (top 31) 1)
abbrev N_Follows_is_alone : List Str := ["self", "piece", "parts", "left", "right"]
abbrev P_Follows_is_alone : List Str := ["self", "piece"]
theorem sc_Follows_is_alone : FnScope N_Follows_is_alone P_Follows_is_alone (defScope s_Follows_is_alone) := ⟨rfl, rfl, rfl, by decide +kernel, rfl, by decide +kernel, by decide +kernel⟩
abbrev s_Follows_first_rank : Stmt := (inClass (top 31) 2)
abbrev N_Follows_first_rank : List Str := ["self", "left", "right"]
abbrev P_Follows_first_rank : List Str := ["self", "left", "right"]
theorem sc_Follows_first_rank : FnScope N_Follows_first_rank P_Follows_first_rank (defScope s_Follows_first_rank) := ⟨rfl, rfl, rfl, by decide +kernel, rfl, by decide +kernel, by decide +kernel⟩
abbrev s_Follows_pair_all : Stmt := (inClass (top 31) 3)
abbrev N_Follows_pair_all : List Str := ["self", "alone", "left", "right"]
abbrev P_Follows_pair_all : List Str := ["self"]
theorem sc_Follows_pair_all : FnScope N_Follows_pair_all P_Follows_pair_all (defScope s_Follows_pair_all) := ⟨rfl, rfl, rfl, by decide +kernel, rfl, by decide +kernel, by decide +kernel⟩
abbrev s_Follows_table : Stmt := (inClass (top 31) 4)
abbrev N_Follows_table : List Str := ["self"]
abbrev P_Follows_table : List Str := ["self"]
theorem sc_Follows_table : FnScope N_Follows_table P_Follows_table (defScope s_Follows_table) := ⟨rfl, rfl, rfl, by decide +kernel, rfl, by decide +kernel, by decide +kernel⟩
abbrev s_Follows_alone : Stmt := (inClass (top 31) 5)
abbrev N_Follows_alone : List Str := ["self"]
abbrev P_Follows_alone : List Str := ["self"]
theorem sc_Follows_alone : FnScope N_Follows_alone P_Follows_alone (defScope s_Follows_alone) := ⟨rfl, rfl, rfl, by decide +kernel, rfl, by decide +kernel, by decide +kernel⟩
abbrev s_Follows_has_alone : Stmt := (inClass (top 31) 6)
abbrev N_Follows_has_alone : List Str := ["self", "thing"]
abbrev P_Follows_has_alone : List Str := ["self", "thing"]
theorem sc_Follows_has_alone : FnScope N_Follows_has_alone P_Follows_has_alone (defScope s_Follows_has_alone) := ⟨rfl, rfl, rfl, by decide +kernel, rfl, by decide +kernel, by decide +kernel⟩
abbrev s_Follows_after : Stmt := (inClass (top 31) 7)
abbrev N_Follows_after : List Str := ["self", "piece"]
abbrev P_Follows_after : List Str := ["self", "piece"]
theorem sc_Follows_after : FnScope N_Follows_after P_Follows_after (defScope s_Follows_after) := ⟨rfl, rfl, rfl, by decide +kernel, rfl, by decide +kernel, by decide +kernel⟩
abbrev s_Follows_ahead : Stmt := (inClass (top 31) 8)
abbrev N_Follows_ahead : List Str := ["self", "piece"]
abbrev P_Follows_ahead : List Str := ["self", "piece"]
theorem sc_Follows_ahead : FnScope N_Follows_ahead P_Follows_ahead (defScope s_Follows_ahead) := ⟨rfl, rfl, rfl, by decide +kernel, rfl, by decide +kernel, by decide +kernel⟩
abbrev s_Follows_may : Stmt := (inClass (top 31) 9)
abbrev N_Follows_may : List Str := ["self", "left", "right"]
abbrev P_Follows_may : List Str := ["self", "left", "right"]
theorem sc_Follows_may : FnScope N_Follows_may P_Follows_may (defScope s_Follows_may) := ⟨rfl, rfl, rfl, by decide +kernel, rfl, by decide +kernel, by decide +kernel⟩
abbrev s_may_begin_there : Stmt := (top 33)
abbrev N_may_begin_there : List Str := ["follows", "piece", "first"]
abbrev P_may_begin_there : List Str := ["follows", "piece", "first"]
theorem sc_may_begin_there : FnScope N_may_begin_there P_may_begin_there (defScope s_may_begin_there) := ⟨rfl, rfl, rfl, by decide +kernel, rfl, by decide +kernel, by decide +kernel⟩
abbrev s_first_of : Stmt := (top 34)
abbrev N_first_of : List Str := ["follows", "text", "told", "begin", "most", "fit", "size"]
abbrev P_first_of : List Str := ["follows", "text", "told", "begin"]
theorem sc_first_of : FnScope N_first_of P_first_of (defScope s_first_of) := ⟨rfl, rfl, rfl, by decide +kernel, rfl, by decide +kernel, by decide +kernel⟩
abbrev s_firsts : Stmt := (top 35)
abbrev N_firsts : List Str := ["follows", "text", "told", "begin"]
abbrev P_firsts : List Str := ["follows", "text"]
theorem sc_firsts : FnScope N_firsts P_firsts (defScope s_firsts) := ⟨rfl, rfl, rfl, by decide +kernel, rfl, by decide +kernel, by decide +kernel⟩
abbrev s_read_on : Stmt := (top 36)
abbrev N_read_on : List Str := ["follows", "text", "told", "row", "place"]
abbrev P_read_on : List Str := ["follows", "text"]
theorem sc_read_on : FnScope N_read_on P_read_on (defScope s_read_on) := ⟨rfl, rfl, rfl, by decide +kernel, rfl, by decide +kernel, by decide +kernel⟩
abbrev s_changed_text : Stmt := (top 38)
abbrev N_changed_text : List Str := ["text", "place", "gone", "put"]
abbrev P_changed_text : List Str := ["text", "place", "gone", "put"]
theorem sc_changed_text : FnScope N_changed_text P_changed_text (defScope s_changed_text) := ⟨rfl, rfl, rfl, by decide +kernel, rfl, by decide +kernel, by decide +kernel⟩
abbrev s_check_change : Stmt := (top 39)
abbrev N_check_change : List Str := ["table", "text", "place", "gone", "put"]
abbrev P_check_change : List Str := ["table", "text", "place", "gone", "put"]
theorem sc_check_change : FnScope N_check_change P_check_change (defScope s_check_change) := ⟨rfl, rfl, rfl, by decide +kernel, rfl, by decide +kernel, by decide +kernel⟩
abbrev s_same_ahead : Stmt := (top 40)
abbrev N_same_ahead : List Str := ["old", "new", "most", "many", "one", "other"]
abbrev P_same_ahead : List Str := ["old", "new", "most"]
theorem sc_same_ahead : FnScope N_same_ahead P_same_ahead (defScope s_same_ahead) := ⟨rfl, rfl, rfl, by decide +kernel, rfl, by decide +kernel, by decide +kernel⟩
abbrev s_patch_between : Stmt := (top 41)
abbrev N_patch_between : List Str := ["old", "new", "place", "behind", "first", "old_left", "new_left", "last"]
abbrev P_patch_between : List Str := ["old", "new", "place", "behind"]
theorem sc_patch_between : FnScope N_patch_between P_patch_between (defScope s_patch_between) := ⟨rfl, rfl, rfl, by decide +kernel, rfl, by decide +kernel, by decide +kernel⟩
abbrev s_patch_of : Stmt := (top 42)
abbrev N_patch_of : List Str := ["follows", "row", "place", "gone", "put", "text", "new"]
abbrev P_patch_of : List Str := ["follows", "row", "place", "gone", "put"]
theorem sc_patch_of : FnScope N_patch_of P_patch_of (defScope s_patch_of) := ⟨rfl, rfl, rfl, by decide +kernel, rfl, by decide +kernel, by decide +kernel⟩
abbrev s_patched : Stmt := (top 43)
abbrev N_patched : List Str := ["row", "patch", "first", "out", "into"]
abbrev P_patched : List Str := ["row", "patch"]
theorem sc_patched : FnScope N_patched P_patched (defScope s_patched) := ⟨rfl, rfl, rfl, by decide +kernel, rfl, by decide +kernel, by decide +kernel⟩
abbrev s_Kept___init__ : Stmt := (inClass (top 45) 0)
abbrev N_Kept___init__ : List Str := ["self", "table", "text"]
abbrev P_Kept___init__ : List Str := ["self", "table", "text"]
theorem sc_Kept___init__ : FnScope N_Kept___init__ P_Kept___init__ (defScope s_Kept___init__) := ⟨rfl, rfl, rfl, by decide +kernel, rfl, by decide +kernel, by decide +kernel⟩
abbrev s_Kept_do_change : Stmt := (inClass (top 45) 1)
abbrev N_Kept_do_change : List Str := ["self", "place", "gone", "put", "patch"]
abbrev P_Kept_do_change : List Str := ["self", "place", "gone", "put"]
theorem sc_Kept_do_change : FnScope N_Kept_do_change P_Kept_do_change (defScope s_Kept_do_change) := ⟨rfl, rfl, rfl, by decide +kernel, rfl, by decide +kernel, by decide +kernel⟩
abbrev s_Kept_change : Stmt := (inClass (top 45) 2)
abbrev N_Kept_change : List Str := ["self", "place", "gone", "put", "way_back", "patch"]
abbrev P_Kept_change : List Str := ["self", "place", "gone", "put"]
theorem sc_Kept_change : FnScope N_Kept_change P_Kept_change (defScope s_Kept_change) := ⟨rfl, rfl, rfl, by decide +kernel, rfl, by decide +kernel, by decide +kernel⟩
abbrev s_Kept_undo : Stmt := (inClass (top 45) 3)
abbrev N_Kept_undo : List Str := ["self", "place", "gone", "put"]
abbrev P_Kept_undo : List Str := ["self"]
theorem sc_Kept_undo : FnScope N_Kept_undo P_Kept_undo (defScope s_Kept_undo) := ⟨rfl, rfl, rfl, by decide +kernel, rfl, by decide +kernel, by decide +kernel⟩
abbrev s_Kept_follows : Stmt := (inClass (top 45) 4)
abbrev N_Kept_follows : List Str := ["self"]
abbrev P_Kept_follows : List Str := ["self"]
theorem sc_Kept_follows : FnScope N_Kept_follows P_Kept_follows (defScope s_Kept_follows) := ⟨rfl, rfl, rfl, by decide +kernel, rfl, by decide +kernel, by decide +kernel⟩
abbrev s_Kept_table : Stmt := (inClass (top 45) 5)
abbrev N_Kept_table : List Str := ["self"]
abbrev P_Kept_table : List Str := ["self"]
theorem sc_Kept_table : FnScope N_Kept_table P_Kept_table (defScope s_Kept_table) := ⟨rfl, rfl, rfl, by decide +kernel, rfl, by decide +kernel, by decide +kernel⟩
abbrev s_Kept_text : Stmt := (inClass (top 45) 6)
abbrev N_Kept_text : List Str := ["self"]
abbrev P_Kept_text : List Str := ["self"]
theorem sc_Kept_text : FnScope N_Kept_text P_Kept_text (defScope s_Kept_text) := ⟨rfl, rfl, rfl, by decide +kernel, rfl, by decide +kernel, by decide +kernel⟩
abbrev s_Kept_cutting : Stmt := (inClass (top 45) 7)
abbrev N_Kept_cutting : List Str := ["self"]
abbrev P_Kept_cutting : List Str := ["self"]
theorem sc_Kept_cutting : FnScope N_Kept_cutting P_Kept_cutting (defScope s_Kept_cutting) := ⟨rfl, rfl, rfl, by decide +kernel, rfl, by decide +kernel, by decide +kernel⟩
abbrev s_Kept_piece_at : Stmt := (inClass (top 45) 8)
abbrev N_Kept_piece_at : List Str := ["self", "place", "number", "end"]
abbrev P_Kept_piece_at : List Str := ["self", "place"]
theorem sc_Kept_piece_at : FnScope N_Kept_piece_at P_Kept_piece_at (defScope s_Kept_piece_at) := ⟨rfl, rfl, rfl, by decide +kernel, rfl, by decide +kernel, by decide +kernel⟩
abbrev s_Kept_cut_by : Stmt := (inClass (top 45) 9)
abbrev N_Kept_cut_by : List Str := ["self", "table", "other"]
abbrev P_Kept_cut_by : List Str := ["self", "table"]
theorem sc_Kept_cut_by : FnScope N_Kept_cut_by P_Kept_cut_by (defScope s_Kept_cut_by) := ⟨rfl, rfl, rfl, by decide +kernel, rfl, by decide +kernel, by decide +kernel⟩
abbrev s_Kept_twin : Stmt := (inClass (top 45) 10)
abbrev N_Kept_twin : List Str := ["self"]
abbrev P_Kept_twin : List Str := ["self"]
theorem sc_Kept_twin : FnScope N_Kept_twin P_Kept_twin (defScope s_Kept_twin) := ⟨rfl, rfl, rfl, by decide +kernel, rfl, by decide +kernel, by decide +kernel⟩
abbrev s_Kept_under : Stmt := (inClass (top 45) 11)
abbrev N_Kept_under : List Str := ["self", "table"]
abbrev P_Kept_under : List Str := ["self", "table"]
theorem sc_Kept_under : FnScope N_Kept_under P_Kept_under (defScope s_Kept_under) := ⟨rfl, rfl, rfl, by decide +kernel, rfl, by decide +kernel, by decide +kernel⟩
abbrev s_may_be_sign : Stmt := (top 53)
abbrev N_may_be_sign : List Str := ["sign", "code"]
abbrev P_may_be_sign : List Str := ["sign"]
theorem sc_may_be_sign : FnScope N_may_be_sign P_may_be_sign (defScope s_may_be_sign) := ⟨rfl, rfl, rfl, by decide +kernel, rfl, by decide +kernel, by decide +kernel⟩
abbrev s_check_signs : Stmt := (top 54)
abbrev N_check_signs : List Str := ["signs", "place", "sign"]
abbrev P_check_signs : List Str := ["signs"]
theorem sc_check_signs : FnScope N_check_signs P_check_signs (defScope s_check_signs) := ⟨rfl, rfl, rfl, by decide +kernel, rfl, by decide +kernel, by decide +kernel⟩
abbrev s_Table___init__ : Stmt := (inClass (top 55) 0)
abbrev N_Table___init__ : List Str := ["self", "signs", "rows", "sign", "number", "row", "piece"]
abbrev P_Table___init__ : List Str := ["self", "signs", "rows"]
theorem sc_Table___init__ : FnScope N_Table___init__ P_Table___init__ (defScope s_Table___init__) := ⟨rfl, rfl, rfl, by decide +kernel, rfl, by decide +kernel, by decide +kernel⟩
abbrev s_Table_take_piece : Stmt := (inClass (top 55) 1)
abbrev N_Table_take_piece : List Str := ["self", "piece"]
abbrev P_Table_take_piece : List Str := ["self", "piece"]
theorem sc_Table_take_piece : FnScope N_Table_take_piece P_Table_take_piece (defScope s_Table_take_piece) := ⟨rfl, rfl, rfl, by decide +kernel, rfl, by decide +kernel, by decide +kernel⟩
abbrev s_Table_may_take_row : Stmt := (inClass (top 55) 2)
abbrev N_Table_may_take_row : List Str := ["self", "row", "left", "right", "joined"]
abbrev P_Table_may_take_row : List Str := ["self", "row"]
theorem sc_Table_may_take_row : FnScope N_Table_may_take_row P_Table_may_take_row (defScope s_Table_may_take_row) := ⟨rfl, rfl, rfl, by decide +kernel, rfl, by decide +kernel, by decide +kernel⟩
abbrev s_Table_take_row : Stmt := (inClass (top 55) 3)
abbrev N_Table_take_row : List Str := ["self", "row", "left", "right"]
abbrev P_Table_take_row : List Str := ["self", "row"]
theorem sc_Table_take_row : FnScope N_Table_take_row P_Table_take_row (defScope s_Table_take_row) := ⟨rfl, rfl, rfl, by decide +kernel, rfl, by decide +kernel, by decide +kernel⟩
abbrev s_Table_signs : Stmt := (inClass (top 55) 4)
abbrev N_Table_signs : List Str := ["self"]
abbrev P_Table_signs : List Str := ["self"]
theorem sc_Table_signs : FnScope N_Table_signs P_Table_signs (defScope s_Table_signs) := ⟨rfl, rfl, rfl, by decide +kernel, rfl, by decide +kernel, by decide +kernel⟩
abbrev s_Table_rows : Stmt := (inClass (top 55) 5)
abbrev N_Table_rows : List Str := ["self"]
abbrev P_Table_rows : List Str := ["self"]
theorem sc_Table_rows : FnScope N_Table_rows P_Table_rows (defScope s_Table_rows) := ⟨rfl, rfl, rfl, by decide +kernel, rfl, by decide +kernel, by decide +kernel⟩
abbrev s_Table_pieces : Stmt := (inClass (top 55) 6)
abbrev N_Table_pieces : List Str := ["self"]
abbrev P_Table_pieces : List Str := ["self"]
theorem sc_Table_pieces : FnScope N_Table_pieces P_Table_pieces (defScope s_Table_pieces) := ⟨rfl, rfl, rfl, by decide +kernel, rfl, by decide +kernel, by decide +kernel⟩
abbrev s_Table_which : Stmt := (inClass (top 55) 7)
abbrev N_Table_which : List Str := ["self", "thing"]
abbrev P_Table_which : List Str := ["self", "thing"]
theorem sc_Table_which : FnScope N_Table_which P_Table_which (defScope s_Table_which) := ⟨rfl, rfl, rfl, by decide +kernel, rfl, by decide +kernel, by decide +kernel⟩
abbrev s_Table_piece : Stmt := (inClass (top 55) 8)
abbrev N_Table_piece : List Str := ["self", "number"]
abbrev P_Table_piece : List Str := ["self", "number"]
theorem sc_Table_piece : FnScope N_Table_piece P_Table_piece (defScope s_Table_piece) := ⟨rfl, rfl, rfl, by decide +kernel, rfl, by decide +kernel, by decide +kernel⟩
abbrev s_Table_parts : Stmt := (inClass (top 55) 9)
abbrev N_Table_parts : List Str := ["self", "piece", "number"]
abbrev P_Table_parts : List Str := ["self", "piece"]
theorem sc_Table_parts : FnScope N_Table_parts P_Table_parts (defScope s_Table_parts) := ⟨rfl, rfl, rfl, by decide +kernel, rfl, by decide +kernel, by decide +kernel⟩
abbrev s_Table_rank : Stmt := (inClass (top 55) 10)
abbrev N_Table_rank : List Str := ["self", "left", "right"]
abbrev P_Table_rank : List Str := ["self", "left", "right"]
theorem sc_Table_rank : FnScope N_Table_rank P_Table_rank (defScope s_Table_rank) := ⟨rfl, rfl, rfl, by decide +kernel, rfl, by decide +kernel, by decide +kernel⟩
abbrev s_Table_longest : Stmt := (inClass (top 55) 11)
abbrev N_Table_longest : List Str := ["self"]
abbrev P_Table_longest : List Str := ["self"]
theorem sc_Table_longest : FnScope N_Table_longest P_Table_longest (defScope s_Table_longest) := ⟨rfl, rfl, rfl, by decide +kernel, rfl, by decide +kernel, by decide +kernel⟩
abbrev s__law_cell_at : Stmt := (top 57)
abbrev N__law_cell_at : List Str := ["_law_script", "_law_k"]
abbrev P__law_cell_at : List Str := ["_law_script", "_law_k"]
theorem sc__law_cell_at : FnScope N__law_cell_at P__law_cell_at (defScope s__law_cell_at) := ⟨rfl, rfl, rfl, by decide +kernel, rfl, by decide +kernel, by decide +kernel⟩
abbrev s__law_numbers : Stmt := (top 58)
abbrev N__law_numbers : List Str := ["_law_cell", "_law_salt", "_law_sizes", "_law_number", "_law_left", "_law_found", "_law_k", "_law_one"]
abbrev P__law_numbers : List Str := ["_law_cell", "_law_salt", "_law_sizes"]
theorem sc__law_numbers : FnScope N__law_numbers P__law_numbers (defScope s__law_numbers) := ⟨rfl, rfl, rfl, by decide +kernel, rfl, by decide +kernel, by decide +kernel⟩
abbrev s__law_signs : Stmt := (top 59)
abbrev N__law_signs : List Str := ["_law_digits", "_law_some", "_law_signs_here", "_law_digit", "_law_turned", "_law_sign"]
abbrev P__law_signs : List Str := ["_law_digits"]
theorem sc__law_signs : FnScope N__law_signs P__law_signs (defScope s__law_signs) := ⟨rfl, rfl, rfl, by decide +kernel, rfl, by decide +kernel, by decide +kernel⟩
abbrev s__law_rows : Stmt := (top 60)
abbrev N__law_rows : List Str := ["_law_signs_here", "_law_digits", "_law_pieces_here", "_law_rows_here", "_law_k", "_law_one", "_law_other"]
abbrev P__law_rows : List Str := ["_law_signs_here", "_law_digits"]
theorem sc__law_rows : FnScope N__law_rows P__law_rows (defScope s__law_rows) := ⟨rfl, rfl, rfl, by decide +kernel, rfl, by decide +kernel, by decide +kernel⟩
abbrev s__law_table : Stmt := (top 61)
abbrev N__law_table : List Str := ["_law_cell", "_law_salt", "_law_most", "_law_head", "_law_many", "_law_signs_here", "_law_rows_here"]
abbrev P__law_table : List Str := ["_law_cell", "_law_salt", "_law_most"]
theorem sc__law_table : FnScope N__law_table P__law_table (defScope s__law_table) := ⟨rfl, rfl, rfl, by decide +kernel, rfl, by decide +kernel, by decide +kernel⟩
abbrev s__law_cut : Stmt := (top 62)
abbrev N__law_cut : List Str := ["_law_rows_here", "_law_text", "_law_row", "_law_left", "_law_right", "_law_found", "_law_piece"]
abbrev P__law_cut : List Str := ["_law_rows_here", "_law_text"]
theorem sc__law_cut : FnScope N__law_cut P__law_cut (defScope s__law_cut) := ⟨rfl, rfl, rfl, by decide +kernel, rfl, by decide +kernel, by decide +kernel⟩
abbrev s__law_pieces : Stmt := (top 63)
abbrev N__law_pieces : List Str := ["_law_table_here", "_law_left", "_law_right"]
abbrev P__law_pieces : List Str := ["_law_table_here"]
theorem sc__law_pieces : FnScope N__law_pieces P__law_pieces (defScope s__law_pieces) := ⟨rfl, rfl, rfl, by decide +kernel, rfl, by decide +kernel, by decide +kernel⟩
abbrev s__law_words : Stmt := (top 64)
abbrev N__law_words : List Str := ["_law_cell", "_law_salt", "_law_pieces_here", "_law_most", "_law_digits", "_law_digit"]
abbrev P__law_words : List Str := ["_law_cell", "_law_salt", "_law_pieces_here", "_law_most"]
theorem sc__law_words : FnScope N__law_words P__law_words (defScope s__law_words) := ⟨rfl, rfl, rfl, by decide +kernel, rfl, by decide +kernel, by decide +kernel⟩
abbrev s__law_whole : Stmt := (top 65)
abbrev N__law_whole : List Str := ["_law_thing"]
abbrev P__law_whole : List Str := ["_law_thing"]
theorem sc__law_whole : FnScope N__law_whole P__law_whole (defScope s__law_whole) := ⟨rfl, rfl, rfl, by decide +kernel, rfl, by decide +kernel, by decide +kernel⟩
abbrev s__law_patch : Stmt := (top 66)
abbrev N__law_patch : List Str := ["_law_old", "_law_new", "_law_place", "_law_far", "_law_first", "_law_end", "_law_last", "_law_most"]
abbrev P__law_patch : List Str := ["_law_old", "_law_new", "_law_place", "_law_far"]
theorem sc__law_patch : FnScope N__law_patch P__law_patch (defScope s__law_patch) := ⟨rfl, rfl, rfl, by decide +kernel, rfl, by decide +kernel, by decide +kernel⟩
abbrev s__law_is_patch : Stmt := (top 67)
abbrev N__law_is_patch : List Str := ["_law_found", "_law_due"]
abbrev P__law_is_patch : List Str := ["_law_found", "_law_due"]
theorem sc__law_is_patch : FnScope N__law_is_patch P__law_is_patch (defScope s__law_is_patch) := ⟨rfl, rfl, rfl, by decide +kernel, rfl, by decide +kernel, by decide +kernel⟩
abbrev s__law_change : Stmt := (top 68)
abbrev N__law_change : List Str := ["_law_cell", "_law_salt", "_law_pieces_here", "_law_text", "_law_most", "_law_digits", "_law_place", "_law_gone", "_law_put", "_law_digit"]
abbrev P__law_change : List Str := ["_law_cell", "_law_salt", "_law_pieces_here", "_law_text", "_law_most"]
theorem sc__law_change : FnScope N__law_change P__law_change (defScope s__law_change) := ⟨rfl, rfl, rfl, by decide +kernel, rfl, by decide +kernel, by decide +kernel⟩
abbrev s__law_patch_of : Stmt := (top 69)
abbrev N__law_patch_of : List Str := ["_law_rows_here", "_law_text", "_law_change_here", "_law_place", "_law_gone", "_law_put", "_law_new"]
abbrev P__law_patch_of : List Str := ["_law_rows_here", "_law_text", "_law_change_here"]
theorem sc__law_patch_of : FnScope N__law_patch_of P__law_patch_of (defScope s__law_patch_of) := ⟨rfl, rfl, rfl, by decide +kernel, rfl, by decide +kernel, by decide +kernel⟩
abbrev s__law_held : Stmt := (top 70)
abbrev N__law_held : List Str := ["_law_held_here", "_law_rows_here", "_law_text", "_law_row"]
abbrev P__law_held : List Str := ["_law_held_here", "_law_rows_here", "_law_text"]
theorem sc__law_held : FnScope N__law_held P__law_held (defScope s__law_held) := ⟨rfl, rfl, rfl, by decide +kernel, rfl, by decide +kernel, by decide +kernel⟩
abbrev s__law_short : Stmt := (top 71)
abbrev N__law_short : List Str := ["_law_change_here", "_law_text", "_law_most", "_law_place", "_law_gone", "_law_put"]
abbrev P__law_short : List Str := ["_law_change_here", "_law_text", "_law_most"]
theorem sc__law_short : FnScope N__law_short P__law_short (defScope s__law_short) := ⟨rfl, rfl, rfl, by decide +kernel, rfl, by decide +kernel, by decide +kernel⟩
abbrev s__law_strange : Stmt := (top 72)
abbrev N__law_strange : List Str := ["_law_digit", "_law_signs_here", "_law_some", "_law_sign"]
abbrev P__law_strange : List Str := ["_law_digit", "_law_signs_here"]
theorem sc__law_strange : FnScope N__law_strange P__law_strange (defScope s__law_strange) := ⟨rfl, rfl, rfl, by decide +kernel, rfl, by decide +kernel, by decide +kernel⟩
abbrev s__law_refusal : Stmt := (top 73)
abbrev N__law_refusal : List Str := ["_law_error", "_law_kinds", "_law_k"]
abbrev P__law_refusal : List Str := ["_law_error"]
theorem sc__law_refusal : FnScope N__law_refusal P__law_refusal (defScope s__law_refusal) := ⟨rfl, rfl, rfl, by decide +kernel, rfl, by decide +kernel, by decide +kernel⟩
abbrev s__law_refused : Stmt := (top 74)
abbrev N__law_refused : List Str := ["_law_held_here", "_law_table_here", "_law_number", "_law_kept", "e"]
abbrev P__law_refused : List Str := ["_law_held_here", "_law_table_here", "_law_number"]
theorem sc__law_refused : FnScope N__law_refused P__law_refused (defScope s__law_refused) := ⟨rfl, rfl, rfl, by decide +kernel, rfl, by decide +kernel, by decide +kernel⟩
abbrev s__law_behind : Stmt := (top 75)
abbrev N__law_behind : List Str := ["_law_text", "_law_change_here"]
abbrev P__law_behind : List Str := ["_law_text", "_law_change_here"]
theorem sc__law_behind : FnScope N__law_behind P__law_behind (defScope s__law_behind) := ⟨rfl, rfl, rfl, by decide +kernel, rfl, by decide +kernel, by decide +kernel⟩
abbrev s__law_back : Stmt := (top 76)
abbrev N__law_back : List Str := ["_law_text", "_law_change_here"]
abbrev P__law_back : List Str := ["_law_text", "_law_change_here"]
theorem sc__law_back : FnScope N__law_back P__law_back (defScope s__law_back) := ⟨rfl, rfl, rfl, by decide +kernel, rfl, by decide +kernel, by decide +kernel⟩
abbrev s__law_other_signs : Stmt := (top 77)
abbrev N__law_other_signs : List Str := ["_law_signs_here", "_law_digits", "_law_sign", "_law_some", "_law_found"]
abbrev P__law_other_signs : List Str := ["_law_signs_here", "_law_digits"]
theorem sc__law_other_signs : FnScope N__law_other_signs P__law_other_signs (defScope s__law_other_signs) := ⟨rfl, rfl, rfl, by decide +kernel, rfl, by decide +kernel, by decide +kernel⟩
abbrev s__law_undone : Stmt := (top 78)
abbrev N__law_undone : List Str := ["_law_held_here", "_law_rows_here", "_law_stack", "_law_text", "_law_before", "_law_change_here", "_law_due"]
abbrev P__law_undone : List Str := ["_law_held_here", "_law_rows_here", "_law_stack", "_law_text"]
theorem sc__law_undone : FnScope N__law_undone P__law_undone (defScope s__law_undone) := ⟨rfl, rfl, rfl, by decide +kernel, rfl, by decide +kernel, by decide +kernel⟩
abbrev s__law_drawn : Stmt := (top 79)
abbrev N__law_drawn : List Str := ["_law_cell", "_law_salt", "_law_pieces_here", "_law_text"]
abbrev P__law_drawn : List Str := ["_law_cell", "_law_salt", "_law_pieces_here", "_law_text"]
theorem sc__law_drawn : FnScope N__law_drawn P__law_drawn (defScope s__law_drawn) := ⟨rfl, rfl, rfl, by decide +kernel, rfl, by decide +kernel, by decide +kernel⟩
abbrev s__law_same : Stmt := (top 80)
abbrev N__law_same : List Str := ["_law_held_here", "_law_table_here"]
abbrev P__law_same : List Str := ["_law_held_here", "_law_table_here"]
theorem sc__law_same : FnScope N__law_same P__law_same (defScope s__law_same) := ⟨rfl, rfl, rfl, by decide +kernel, rfl, by decide +kernel, by decide +kernel⟩
abbrev s__law_places : Stmt := (top 81)
abbrev N__law_places : List Str := ["_law_held_here", "_law_rows_here", "_law_text", "_law_due", "_law_number", "_law_piece", "_law_found", "_law_place", "_law_one"]
abbrev P__law_places : List Str := ["_law_held_here", "_law_rows_here", "_law_text"]
theorem sc__law_places : FnScope N__law_places P__law_places (defScope s__law_places) := ⟨rfl, rfl, rfl, by decide +kernel, rfl, by decide +kernel, by decide +kernel⟩
abbrev s__law_made : Stmt := (top 82)
abbrev N__law_made : List Str := ["_law_script", "_law_at", "_law_digits", "_law_signs_here", "_law_turned", "_law_strange_here"]
abbrev P__law_made : List Str := ["_law_script", "_law_at"]
theorem sc__law_made : FnScope N__law_made P__law_made (defScope s__law_made) := ⟨rfl, rfl, rfl, by decide +kernel, rfl, by decide +kernel, by decide +kernel⟩
abbrev s__law_begun : Stmt := (top 83)
abbrev N__law_begun : List Str := ["_law_script", "_law_at", "_law_pieces_here", "_law_held_here", "_law_text", "_law_stack", "_law_way", "_law_k", "_law_change_here"]
abbrev P__law_begun : List Str := ["_law_script", "_law_at", "_law_pieces_here", "_law_held_here", "_law_text"]
theorem sc__law_begun : FnScope N__law_begun P__law_begun (defScope s__law_begun) := ⟨rfl, rfl, rfl, by decide +kernel, rfl, by decide +kernel, by decide +kernel⟩
abbrev s__law_changed : Stmt := (top 84)
abbrev N__law_changed : List Str := ["_law_held_here", "_law_rows_here", "_law_stack", "_law_text", "_law_change_here", "_law_found"]
abbrev P__law_changed : List Str := ["_law_held_here", "_law_rows_here", "_law_stack", "_law_text", "_law_change_here"]
theorem sc__law_changed : FnScope N__law_changed P__law_changed (defScope s__law_changed) := ⟨rfl, rfl, rfl, by decide +kernel, rfl, by decide +kernel, by decide +kernel⟩
abbrev s__law_block : Stmt := (top 85)
abbrev N__law_block : List Str := ["_law_script", "_law_at", "_law_tables", "_law_one", "_law_other", "_law_strange_here", "_law_rows_here", "_law_pieces_here", "_law_first", "_law_held_here", "_law_stack", "_law_text", "_law_second", "_law_stacks", "_law_more", "_law_last", "_law_k", "_law_then", "_law_kept", "_law_signs_here"]
abbrev P__law_block : List Str := ["_law_script", "_law_at"]
theorem sc__law_block : FnScope N__law_block P__law_block (defScope s__law_block) := ⟨rfl, rfl, rfl, by decide +kernel, rfl, by decide +kernel, by decide +kernel⟩
abbrev s_law : Stmt := (top 86)
abbrev N_law : List Str := ["_law_script", "_law_at"]
abbrev P_law : List Str := ["_law_script"]
theorem sc_law : FnScope N_law P_law (defScope s_law) := ⟨rfl, rfl, rfl, by decide +kernel, rfl, by decide +kernel, by decide +kernel⟩
/-- what the top has written -/
structure Tx (K : PySem.W.Frag) (mg : Str → Option Value) : Prop where
  n_len : mg "len" = none
  n_range : mg "range" = none
  n_max : mg "max" = none
  n_min : mg "min" = none
  n_isinstance : mg "isinstance" = none
  n_str : mg "str" = none
  n_int : mg "int" = none
  n_bool : mg "bool" = none
  n_list : mg "list" = none
  n_tuple : mg "tuple" = none
  n_all : mg "all" = none
  n_ord : mg "ord" = none
  n_enumerate : mg "enumerate" = none
  n_zip : mg "zip" = none
  n_sorted : mg "sorted" = none
  n_ValueError : mg "ValueError" = none
  n_reversed : mg "reversed" = none
  c_MOST_SIGNS : ∃ t, mg "MOST_SIGNS" = some (.int 12 t)
  c_MOST_ROWS : ∃ t, mg "MOST_ROWS" = some (.int 24 t)
  c_MOST_JOINED : ∃ t, mg "MOST_JOINED" = some (.int 16 t)
  c_BLANK_CODE : ∃ t, mg "BLANK_CODE" = some (.int 32 t)
  c_PERCENT_CODE : ∃ t, mg "PERCENT_CODE" = some (.int 37 t)
  c_TILDE_CODE : ∃ t, mg "TILDE_CODE" = some (.int 126 t)
  g_JoinError : mg "JoinError" = some (.ref (He.ga K "JoinError"))
  rd_JoinError : PySem.W.readsIn K (He.ga K "JoinError") (.type "type") = true
  ga_JoinError : PySem.W.specialIn K (.ref (He.ga K "JoinError")) "__getattribute__" = some (some (.builtin "type.__getattribute__"))
  fc_JoinError : PySem.W.findCls K (.ref (He.ga K "JoinError")) (.type "type") "__init__" = some (.val (.ref (He.fAd K ("JoinError", some "__init__"))))
  g_NoTable : mg "NoTable" = some (.ref (He.ga K "NoTable"))
  g_NoGrammar : mg "NoGrammar" = some (.ref (He.ga K "NoGrammar"))
  g_NoCutting : mg "NoCutting" = some (.ref (He.ga K "NoCutting"))
  g_NoSign : mg "NoSign" = some (.ref (He.ga K "NoSign"))
  g_NoPiece : mg "NoPiece" = some (.ref (He.ga K "NoPiece"))
  g_NoNumber : mg "NoNumber" = some (.ref (He.ga K "NoNumber"))
  g_NoCount : mg "NoCount" = some (.ref (He.ga K "NoCount"))
  g_NoText : mg "NoText" = some (.ref (He.ga K "NoText"))
  g_NoPlace : mg "NoPlace" = some (.ref (He.ga K "NoPlace"))
  g_NoLead : mg "NoLead" = some (.ref (He.ga K "NoLead"))
  xc_NoLead : XcC K (He.ga K "NoLead")
  in_NoLead : PySem.W.findIn K (.ref (He.ga K "NoLead")) "__init__" = some (some (.ref (He.fAd K ("JoinError", some "__init__"))))
  it_NoLead : PySem.W.typeIn K (.ref (He.fAd K ("JoinError", some "__init__"))) = some (.type "function")
  exm_NoLead_JoinError : PySem.W.exmOne K (.ref (He.ga K "NoLead")) (.ref (He.ga K "JoinError")) = some true
  kit_NoLead_JoinError : PySem.W.kitOne K (.ref (He.ga K "NoLead")) (.ref (He.ga K "JoinError")) = some true
  kit_NoLead_NoTable : PySem.W.kitOne K (.ref (He.ga K "NoLead")) (.ref (He.ga K "NoTable")) = some false
  kit_NoLead_NoGrammar : PySem.W.kitOne K (.ref (He.ga K "NoLead")) (.ref (He.ga K "NoGrammar")) = some false
  kit_NoLead_NoCutting : PySem.W.kitOne K (.ref (He.ga K "NoLead")) (.ref (He.ga K "NoCutting")) = some false
  kit_NoLead_NoSign : PySem.W.kitOne K (.ref (He.ga K "NoLead")) (.ref (He.ga K "NoSign")) = some false
  kit_NoLead_NoPiece : PySem.W.kitOne K (.ref (He.ga K "NoLead")) (.ref (He.ga K "NoPiece")) = some false
  kit_NoLead_NoNumber : PySem.W.kitOne K (.ref (He.ga K "NoLead")) (.ref (He.ga K "NoNumber")) = some false
  kit_NoLead_NoCount : PySem.W.kitOne K (.ref (He.ga K "NoLead")) (.ref (He.ga K "NoCount")) = some false
  kit_NoLead_NoText : PySem.W.kitOne K (.ref (He.ga K "NoLead")) (.ref (He.ga K "NoText")) = some false
  kit_NoLead_NoPlace : PySem.W.kitOne K (.ref (He.ga K "NoLead")) (.ref (He.ga K "NoPlace")) = some false
  kit_NoLead_NoLead : PySem.W.kitOne K (.ref (He.ga K "NoLead")) (.ref (He.ga K "NoLead")) = some true
  kit_NoLead_NoDeed : PySem.W.kitOne K (.ref (He.ga K "NoLead")) (.ref (He.ga K "NoDeed")) = some false
  kit_NoLead_NoRow : PySem.W.kitOne K (.ref (He.ga K "NoLead")) (.ref (He.ga K "NoRow")) = some false
  kit_NoLead_NoName : PySem.W.kitOne K (.ref (He.ga K "NoLead")) (.ref (He.ga K "NoName")) = some false
  kit_NoLead_ValueError : PySem.W.kitOne K (.ref (He.ga K "NoLead")) (.type "ValueError") = some true
  g_NoDeed : mg "NoDeed" = some (.ref (He.ga K "NoDeed"))
  xc_NoDeed : XcC K (He.ga K "NoDeed")
  in_NoDeed : PySem.W.findIn K (.ref (He.ga K "NoDeed")) "__init__" = some (some (.ref (He.fAd K ("JoinError", some "__init__"))))
  it_NoDeed : PySem.W.typeIn K (.ref (He.fAd K ("JoinError", some "__init__"))) = some (.type "function")
  exm_NoDeed_JoinError : PySem.W.exmOne K (.ref (He.ga K "NoDeed")) (.ref (He.ga K "JoinError")) = some true
  kit_NoDeed_JoinError : PySem.W.kitOne K (.ref (He.ga K "NoDeed")) (.ref (He.ga K "JoinError")) = some true
  kit_NoDeed_NoTable : PySem.W.kitOne K (.ref (He.ga K "NoDeed")) (.ref (He.ga K "NoTable")) = some false
  kit_NoDeed_NoGrammar : PySem.W.kitOne K (.ref (He.ga K "NoDeed")) (.ref (He.ga K "NoGrammar")) = some false
  kit_NoDeed_NoCutting : PySem.W.kitOne K (.ref (He.ga K "NoDeed")) (.ref (He.ga K "NoCutting")) = some false
  kit_NoDeed_NoSign : PySem.W.kitOne K (.ref (He.ga K "NoDeed")) (.ref (He.ga K "NoSign")) = some false
  kit_NoDeed_NoPiece : PySem.W.kitOne K (.ref (He.ga K "NoDeed")) (.ref (He.ga K "NoPiece")) = some false
  kit_NoDeed_NoNumber : PySem.W.kitOne K (.ref (He.ga K "NoDeed")) (.ref (He.ga K "NoNumber")) = some false
  kit_NoDeed_NoCount : PySem.W.kitOne K (.ref (He.ga K "NoDeed")) (.ref (He.ga K "NoCount")) = some false
  kit_NoDeed_NoText : PySem.W.kitOne K (.ref (He.ga K "NoDeed")) (.ref (He.ga K "NoText")) = some false
  kit_NoDeed_NoPlace : PySem.W.kitOne K (.ref (He.ga K "NoDeed")) (.ref (He.ga K "NoPlace")) = some false
  kit_NoDeed_NoLead : PySem.W.kitOne K (.ref (He.ga K "NoDeed")) (.ref (He.ga K "NoLead")) = some false
  kit_NoDeed_NoDeed : PySem.W.kitOne K (.ref (He.ga K "NoDeed")) (.ref (He.ga K "NoDeed")) = some true
  kit_NoDeed_NoRow : PySem.W.kitOne K (.ref (He.ga K "NoDeed")) (.ref (He.ga K "NoRow")) = some false
  kit_NoDeed_NoName : PySem.W.kitOne K (.ref (He.ga K "NoDeed")) (.ref (He.ga K "NoName")) = some false
  kit_NoDeed_ValueError : PySem.W.kitOne K (.ref (He.ga K "NoDeed")) (.type "ValueError") = some true
  g_NoRow : mg "NoRow" = some (.ref (He.ga K "NoRow"))
  g_NoName : mg "NoName" = some (.ref (He.ga K "NoName"))
  g_Follows : mg "Follows" = some (.ref (He.ga K "Follows"))
  cl_Follows : Cls K (He.ga K "Follows")
  no_Follows_held_table : NoAttr K (He.ga K "Follows") "held_table"
  no_Follows_right_edges : NoAttr K (He.ga K "Follows") "right_edges"
  no_Follows_left_edges : NoAttr K (He.ga K "Follows") "left_edges"
  no_Follows_alone_pieces : NoAttr K (He.ga K "Follows") "alone_pieces"
  no_Follows_pieces_after : NoAttr K (He.ga K "Follows") "pieces_after"
  no_Follows_pieces_ahead : NoAttr K (He.ga K "Follows") "pieces_ahead"
  no_Follows_pairs : NoAttr K (He.ga K "Follows") "pairs"
  mk_Follows : Mk K (He.ga K "Follows") (He.fAd K ("Follows", some "__init__"))
  m_Follows_is_alone : Meth K (He.ga K "Follows") "is_alone" (He.fAd K ("Follows", some "is_alone"))
  m_Follows_first_rank : Meth K (He.ga K "Follows") "first_rank" (He.fAd K ("Follows", some "first_rank"))
  m_Follows_pair_all : Meth K (He.ga K "Follows") "pair_all" (He.fAd K ("Follows", some "pair_all"))
  m_Follows_table : Meth K (He.ga K "Follows") "table" (He.fAd K ("Follows", some "table"))
  m_Follows_alone : Meth K (He.ga K "Follows") "alone" (He.fAd K ("Follows", some "alone"))
  m_Follows_has_alone : Meth K (He.ga K "Follows") "has_alone" (He.fAd K ("Follows", some "has_alone"))
  m_Follows_may : Meth K (He.ga K "Follows") "may" (He.fAd K ("Follows", some "may"))
  g_Kept : mg "Kept" = some (.ref (He.ga K "Kept"))
  cl_Kept : Cls K (He.ga K "Kept")
  no_Kept_held_follows : NoAttr K (He.ga K "Kept") "held_follows"
  no_Kept_held_cutting : NoAttr K (He.ga K "Kept") "held_cutting"
  no_Kept_held_text : NoAttr K (He.ga K "Kept") "held_text"
  no_Kept_ways_back : NoAttr K (He.ga K "Kept") "ways_back"
  mk_Kept : Mk K (He.ga K "Kept") (He.fAd K ("Kept", some "__init__"))
  m_Kept_do_change : Meth K (He.ga K "Kept") "do_change" (He.fAd K ("Kept", some "do_change"))
  m_Kept_change : Meth K (He.ga K "Kept") "change" (He.fAd K ("Kept", some "change"))
  m_Kept_undo : Meth K (He.ga K "Kept") "undo" (He.fAd K ("Kept", some "undo"))
  m_Kept_table : Meth K (He.ga K "Kept") "table" (He.fAd K ("Kept", some "table"))
  m_Kept_text : Meth K (He.ga K "Kept") "text" (He.fAd K ("Kept", some "text"))
  m_Kept_cutting : Meth K (He.ga K "Kept") "cutting" (He.fAd K ("Kept", some "cutting"))
  m_Kept_piece_at : Meth K (He.ga K "Kept") "piece_at" (He.fAd K ("Kept", some "piece_at"))
  m_Kept_cut_by : Meth K (He.ga K "Kept") "cut_by" (He.fAd K ("Kept", some "cut_by"))
  m_Kept_twin : Meth K (He.ga K "Kept") "twin" (He.fAd K ("Kept", some "twin"))
  m_Kept_under : Meth K (He.ga K "Kept") "under" (He.fAd K ("Kept", some "under"))
  g_Table : mg "Table" = some (.ref (He.ga K "Table"))
  cl_Table : Cls K (He.ga K "Table")
  no_Table_sign_text : NoAttr K (He.ga K "Table") "sign_text"
  no_Table_row_list : NoAttr K (He.ga K "Table") "row_list"
  no_Table_piece_list : NoAttr K (He.ga K "Table") "piece_list"
  no_Table_number_by_piece : NoAttr K (He.ga K "Table") "number_by_piece"
  no_Table_rank_by_row : NoAttr K (He.ga K "Table") "rank_by_row"
  no_Table_most_signs : NoAttr K (He.ga K "Table") "most_signs"
  mk_Table : Mk K (He.ga K "Table") (He.fAd K ("Table", some "__init__"))
  m_Table_take_piece : Meth K (He.ga K "Table") "take_piece" (He.fAd K ("Table", some "take_piece"))
  m_Table_may_take_row : Meth K (He.ga K "Table") "may_take_row" (He.fAd K ("Table", some "may_take_row"))
  m_Table_take_row : Meth K (He.ga K "Table") "take_row" (He.fAd K ("Table", some "take_row"))
  m_Table_signs : Meth K (He.ga K "Table") "signs" (He.fAd K ("Table", some "signs"))
  m_Table_rows : Meth K (He.ga K "Table") "rows" (He.fAd K ("Table", some "rows"))
  m_Table_pieces : Meth K (He.ga K "Table") "pieces" (He.fAd K ("Table", some "pieces"))
  m_Table_which : Meth K (He.ga K "Table") "which" (He.fAd K ("Table", some "which"))
  m_Table_parts : Meth K (He.ga K "Table") "parts" (He.fAd K ("Table", some "parts"))
  m_Table_rank : Meth K (He.ga K "Table") "rank" (He.fAd K ("Table", some "rank"))
  m_Table_longest : Meth K (He.ga K "Table") "longest" (He.fAd K ("Table", some "longest"))
  d_JoinError___init__ : ∃ fd, FunD K "__init__" "JoinError.__init__" (defArgs s_JoinError___init__) (defBody s_JoinError___init__) (defScope s_JoinError___init__) [] [] (He.fAd K ("JoinError", some "__init__")) fd
  g_is_whole : mg "is_whole" = some (.ref (He.fAd K ("is_whole", none)))
  d_is_whole : ∃ fd, FunD K "is_whole" "is_whole" (defArgs s_is_whole) (defBody s_is_whole) (defScope s_is_whole) [] [] (He.fAd K ("is_whole", none)) fd
  g_is_up_to : mg "is_up_to" = some (.ref (He.fAd K ("is_up_to", none)))
  d_is_up_to : ∃ fd, FunD K "is_up_to" "is_up_to" (defArgs s_is_up_to) (defBody s_is_up_to) (defScope s_is_up_to) [] [] (He.fAd K ("is_up_to", none)) fd
  g_check_text : mg "check_text" = some (.ref (He.fAd K ("check_text", none)))
  d_check_text : ∃ fd, FunD K "check_text" "check_text" (defArgs s_check_text) (defBody s_check_text) (defScope s_check_text) [] [] (He.fAd K ("check_text", none)) fd
  g_check_piece : mg "check_piece" = some (.ref (He.fAd K ("check_piece", none)))
  d_check_piece : ∃ fd, FunD K "check_piece" "check_piece" (defArgs s_check_piece) (defBody s_check_piece) (defScope s_check_piece) [] [] (He.fAd K ("check_piece", none)) fd
  g_check_place : mg "check_place" = some (.ref (He.fAd K ("check_place", none)))
  d_check_place : ∃ fd, FunD K "check_place" "check_place" (defArgs s_check_place) (defBody s_check_place) (defScope s_check_place) [] [] (He.fAd K ("check_place", none)) fd
  g_check_same_signs : mg "check_same_signs" = some (.ref (He.fAd K ("check_same_signs", none)))
  d_check_same_signs : ∃ fd, FunD K "check_same_signs" "check_same_signs" (defArgs s_check_same_signs) (defBody s_check_same_signs) (defScope s_check_same_signs) [] [] (He.fAd K ("check_same_signs", none)) fd
  g_edge : mg "edge" = some (.ref (He.fAd K ("edge", none)))
  d_edge : ∃ fd, FunD K "edge" "edge" (defArgs s_edge) (defBody s_edge) (defScope s_edge) [] [] (He.fAd K ("edge", none)) fd
  g_right_edge : mg "right_edge" = some (.ref (He.fAd K ("right_edge", none)))
  d_right_edge : ∃ fd, FunD K "right_edge" "right_edge" (defArgs s_right_edge) (defBody s_right_edge) (defScope s_right_edge) [] [] (He.fAd K ("right_edge", none)) fd
  g_left_edge : mg "left_edge" = some (.ref (He.fAd K ("left_edge", none)))
  d_left_edge : ∃ fd, FunD K "left_edge" "left_edge" (defArgs s_left_edge) (defBody s_left_edge) (defScope s_left_edge) [] [] (He.fAd K ("left_edge", none)) fd
  g_with_ends : mg "with_ends" = some (.ref (He.fAd K ("with_ends", none)))
  d_with_ends : ∃ fd, FunD K "with_ends" "with_ends" (defArgs s_with_ends) (defBody s_with_ends) (defScope s_with_ends) [] [] (He.fAd K ("with_ends", none)) fd
  g_edges_meet : mg "edges_meet" = some (.ref (He.fAd K ("edges_meet", none)))
  d_edges_meet : ∃ fd, FunD K "edges_meet" "edges_meet" (defArgs s_edges_meet) (defBody s_edges_meet) (defScope s_edges_meet) [] [] (He.fAd K ("edges_meet", none)) fd
  d_Follows___init__ : ∃ fd, FunD K "__init__" "Follows.__init__" (defArgs s_Follows___init__) (defBody s_Follows___init__) (defScope s_Follows___init__) [] [] (He.fAd K ("Follows", some "__init__")) fd
  d_Follows_is_alone : ∃ fd, FunD K "is_alone" "Follows.is_alone" (defArgs s_Follows_is_alone) (defBody s_Follows_is_alone) (defScope s_Follows_is_alone) [] [] (He.fAd K ("Follows", some "is_alone")) fd
  d_Follows_first_rank : ∃ fd, FunD K "first_rank" "Follows.first_rank" (defArgs s_Follows_first_rank) (defBody s_Follows_first_rank) (defScope s_Follows_first_rank) [] [] (He.fAd K ("Follows", some "first_rank")) fd
  d_Follows_pair_all : ∃ fd, FunD K "pair_all" "Follows.pair_all" (defArgs s_Follows_pair_all) (defBody s_Follows_pair_all) (defScope s_Follows_pair_all) [] [] (He.fAd K ("Follows", some "pair_all")) fd
  d_Follows_table : ∃ fd, FunD K "table" "Follows.table" (defArgs s_Follows_table) (defBody s_Follows_table) (defScope s_Follows_table) [] [] (He.fAd K ("Follows", some "table")) fd
  d_Follows_alone : ∃ fd, FunD K "alone" "Follows.alone" (defArgs s_Follows_alone) (defBody s_Follows_alone) (defScope s_Follows_alone) [] [] (He.fAd K ("Follows", some "alone")) fd
  d_Follows_has_alone : ∃ fd, FunD K "has_alone" "Follows.has_alone" (defArgs s_Follows_has_alone) (defBody s_Follows_has_alone) (defScope s_Follows_has_alone) [] [] (He.fAd K ("Follows", some "has_alone")) fd
  d_Follows_may : ∃ fd, FunD K "may" "Follows.may" (defArgs s_Follows_may) (defBody s_Follows_may) (defScope s_Follows_may) [] [] (He.fAd K ("Follows", some "may")) fd
  g_may_begin_there : mg "may_begin_there" = some (.ref (He.fAd K ("may_begin_there", none)))
  d_may_begin_there : ∃ fd, FunD K "may_begin_there" "may_begin_there" (defArgs s_may_begin_there) (defBody s_may_begin_there) (defScope s_may_begin_there) [] [] (He.fAd K ("may_begin_there", none)) fd
  g_first_of : mg "first_of" = some (.ref (He.fAd K ("first_of", none)))
  d_first_of : ∃ fd, FunD K "first_of" "first_of" (defArgs s_first_of) (defBody s_first_of) (defScope s_first_of) [] [] (He.fAd K ("first_of", none)) fd
  g_firsts : mg "firsts" = some (.ref (He.fAd K ("firsts", none)))
  d_firsts : ∃ fd, FunD K "firsts" "firsts" (defArgs s_firsts) (defBody s_firsts) (defScope s_firsts) [] [] (He.fAd K ("firsts", none)) fd
  g_read_on : mg "read_on" = some (.ref (He.fAd K ("read_on", none)))
  d_read_on : ∃ fd, FunD K "read_on" "read_on" (defArgs s_read_on) (defBody s_read_on) (defScope s_read_on) [] [] (He.fAd K ("read_on", none)) fd
  g_changed_text : mg "changed_text" = some (.ref (He.fAd K ("changed_text", none)))
  d_changed_text : ∃ fd, FunD K "changed_text" "changed_text" (defArgs s_changed_text) (defBody s_changed_text) (defScope s_changed_text) [] [] (He.fAd K ("changed_text", none)) fd
  g_check_change : mg "check_change" = some (.ref (He.fAd K ("check_change", none)))
  d_check_change : ∃ fd, FunD K "check_change" "check_change" (defArgs s_check_change) (defBody s_check_change) (defScope s_check_change) [] [] (He.fAd K ("check_change", none)) fd
  g_same_ahead : mg "same_ahead" = some (.ref (He.fAd K ("same_ahead", none)))
  d_same_ahead : ∃ fd, FunD K "same_ahead" "same_ahead" (defArgs s_same_ahead) (defBody s_same_ahead) (defScope s_same_ahead) [] [] (He.fAd K ("same_ahead", none)) fd
  g_patch_between : mg "patch_between" = some (.ref (He.fAd K ("patch_between", none)))
  d_patch_between : ∃ fd, FunD K "patch_between" "patch_between" (defArgs s_patch_between) (defBody s_patch_between) (defScope s_patch_between) [] [] (He.fAd K ("patch_between", none)) fd
  g_patch_of : mg "patch_of" = some (.ref (He.fAd K ("patch_of", none)))
  d_patch_of : ∃ fd, FunD K "patch_of" "patch_of" (defArgs s_patch_of) (defBody s_patch_of) (defScope s_patch_of) [] [] (He.fAd K ("patch_of", none)) fd
  g_patched : mg "patched" = some (.ref (He.fAd K ("patched", none)))
  d_patched : ∃ fd, FunD K "patched" "patched" (defArgs s_patched) (defBody s_patched) (defScope s_patched) [] [] (He.fAd K ("patched", none)) fd
  d_Kept___init__ : ∃ fd, FunD K "__init__" "Kept.__init__" (defArgs s_Kept___init__) (defBody s_Kept___init__) (defScope s_Kept___init__) [] [] (He.fAd K ("Kept", some "__init__")) fd
  d_Kept_do_change : ∃ fd, FunD K "do_change" "Kept.do_change" (defArgs s_Kept_do_change) (defBody s_Kept_do_change) (defScope s_Kept_do_change) [] [] (He.fAd K ("Kept", some "do_change")) fd
  d_Kept_change : ∃ fd, FunD K "change" "Kept.change" (defArgs s_Kept_change) (defBody s_Kept_change) (defScope s_Kept_change) [] [] (He.fAd K ("Kept", some "change")) fd
  d_Kept_undo : ∃ fd, FunD K "undo" "Kept.undo" (defArgs s_Kept_undo) (defBody s_Kept_undo) (defScope s_Kept_undo) [] [] (He.fAd K ("Kept", some "undo")) fd
  d_Kept_table : ∃ fd, FunD K "table" "Kept.table" (defArgs s_Kept_table) (defBody s_Kept_table) (defScope s_Kept_table) [] [] (He.fAd K ("Kept", some "table")) fd
  d_Kept_text : ∃ fd, FunD K "text" "Kept.text" (defArgs s_Kept_text) (defBody s_Kept_text) (defScope s_Kept_text) [] [] (He.fAd K ("Kept", some "text")) fd
  d_Kept_cutting : ∃ fd, FunD K "cutting" "Kept.cutting" (defArgs s_Kept_cutting) (defBody s_Kept_cutting) (defScope s_Kept_cutting) [] [] (He.fAd K ("Kept", some "cutting")) fd
  d_Kept_piece_at : ∃ fd, FunD K "piece_at" "Kept.piece_at" (defArgs s_Kept_piece_at) (defBody s_Kept_piece_at) (defScope s_Kept_piece_at) [] [] (He.fAd K ("Kept", some "piece_at")) fd
  d_Kept_cut_by : ∃ fd, FunD K "cut_by" "Kept.cut_by" (defArgs s_Kept_cut_by) (defBody s_Kept_cut_by) (defScope s_Kept_cut_by) [] [] (He.fAd K ("Kept", some "cut_by")) fd
  d_Kept_twin : ∃ fd, FunD K "twin" "Kept.twin" (defArgs s_Kept_twin) (defBody s_Kept_twin) (defScope s_Kept_twin) [] [] (He.fAd K ("Kept", some "twin")) fd
  d_Kept_under : ∃ fd, FunD K "under" "Kept.under" (defArgs s_Kept_under) (defBody s_Kept_under) (defScope s_Kept_under) [] [] (He.fAd K ("Kept", some "under")) fd
  g_may_be_sign : mg "may_be_sign" = some (.ref (He.fAd K ("may_be_sign", none)))
  d_may_be_sign : ∃ fd, FunD K "may_be_sign" "may_be_sign" (defArgs s_may_be_sign) (defBody s_may_be_sign) (defScope s_may_be_sign) [] [] (He.fAd K ("may_be_sign", none)) fd
  g_check_signs : mg "check_signs" = some (.ref (He.fAd K ("check_signs", none)))
  d_check_signs : ∃ fd, FunD K "check_signs" "check_signs" (defArgs s_check_signs) (defBody s_check_signs) (defScope s_check_signs) [] [] (He.fAd K ("check_signs", none)) fd
  d_Table___init__ : ∃ fd, FunD K "__init__" "Table.__init__" (defArgs s_Table___init__) (defBody s_Table___init__) (defScope s_Table___init__) [] [] (He.fAd K ("Table", some "__init__")) fd
  d_Table_take_piece : ∃ fd, FunD K "take_piece" "Table.take_piece" (defArgs s_Table_take_piece) (defBody s_Table_take_piece) (defScope s_Table_take_piece) [] [] (He.fAd K ("Table", some "take_piece")) fd
  d_Table_may_take_row : ∃ fd, FunD K "may_take_row" "Table.may_take_row" (defArgs s_Table_may_take_row) (defBody s_Table_may_take_row) (defScope s_Table_may_take_row) [] [] (He.fAd K ("Table", some "may_take_row")) fd
  d_Table_take_row : ∃ fd, FunD K "take_row" "Table.take_row" (defArgs s_Table_take_row) (defBody s_Table_take_row) (defScope s_Table_take_row) [] [] (He.fAd K ("Table", some "take_row")) fd
  d_Table_signs : ∃ fd, FunD K "signs" "Table.signs" (defArgs s_Table_signs) (defBody s_Table_signs) (defScope s_Table_signs) [] [] (He.fAd K ("Table", some "signs")) fd
  d_Table_rows : ∃ fd, FunD K "rows" "Table.rows" (defArgs s_Table_rows) (defBody s_Table_rows) (defScope s_Table_rows) [] [] (He.fAd K ("Table", some "rows")) fd
  d_Table_pieces : ∃ fd, FunD K "pieces" "Table.pieces" (defArgs s_Table_pieces) (defBody s_Table_pieces) (defScope s_Table_pieces) [] [] (He.fAd K ("Table", some "pieces")) fd
  d_Table_which : ∃ fd, FunD K "which" "Table.which" (defArgs s_Table_which) (defBody s_Table_which) (defScope s_Table_which) [] [] (He.fAd K ("Table", some "which")) fd
  d_Table_parts : ∃ fd, FunD K "parts" "Table.parts" (defArgs s_Table_parts) (defBody s_Table_parts) (defScope s_Table_parts) [] [] (He.fAd K ("Table", some "parts")) fd
  d_Table_rank : ∃ fd, FunD K "rank" "Table.rank" (defArgs s_Table_rank) (defBody s_Table_rank) (defScope s_Table_rank) [] [] (He.fAd K ("Table", some "rank")) fd
  d_Table_longest : ∃ fd, FunD K "longest" "Table.longest" (defArgs s_Table_longest) (defBody s_Table_longest) (defScope s_Table_longest) [] [] (He.fAd K ("Table", some "longest")) fd
  g__law_cell_at : mg "_law_cell_at" = some (.ref (He.fAd K ("_law_cell_at", none)))
  d__law_cell_at : ∃ fd, FunD K "_law_cell_at" "_law_cell_at" (defArgs s__law_cell_at) (defBody s__law_cell_at) (defScope s__law_cell_at) [] [] (He.fAd K ("_law_cell_at", none)) fd
  g__law_numbers : mg "_law_numbers" = some (.ref (He.fAd K ("_law_numbers", none)))
  d__law_numbers : ∃ fd, FunD K "_law_numbers" "_law_numbers" (defArgs s__law_numbers) (defBody s__law_numbers) (defScope s__law_numbers) [] [] (He.fAd K ("_law_numbers", none)) fd
  g__law_signs : mg "_law_signs" = some (.ref (He.fAd K ("_law_signs", none)))
  d__law_signs : ∃ fd, FunD K "_law_signs" "_law_signs" (defArgs s__law_signs) (defBody s__law_signs) (defScope s__law_signs) [] [] (He.fAd K ("_law_signs", none)) fd
  g__law_rows : mg "_law_rows" = some (.ref (He.fAd K ("_law_rows", none)))
  d__law_rows : ∃ fd, FunD K "_law_rows" "_law_rows" (defArgs s__law_rows) (defBody s__law_rows) (defScope s__law_rows) [] [] (He.fAd K ("_law_rows", none)) fd
  g__law_cut : mg "_law_cut" = some (.ref (He.fAd K ("_law_cut", none)))
  d__law_cut : ∃ fd, FunD K "_law_cut" "_law_cut" (defArgs s__law_cut) (defBody s__law_cut) (defScope s__law_cut) [] [] (He.fAd K ("_law_cut", none)) fd
  g__law_pieces : mg "_law_pieces" = some (.ref (He.fAd K ("_law_pieces", none)))
  d__law_pieces : ∃ fd, FunD K "_law_pieces" "_law_pieces" (defArgs s__law_pieces) (defBody s__law_pieces) (defScope s__law_pieces) [] [] (He.fAd K ("_law_pieces", none)) fd
  g__law_words : mg "_law_words" = some (.ref (He.fAd K ("_law_words", none)))
  d__law_words : ∃ fd, FunD K "_law_words" "_law_words" (defArgs s__law_words) (defBody s__law_words) (defScope s__law_words) [] [] (He.fAd K ("_law_words", none)) fd
  g__law_whole : mg "_law_whole" = some (.ref (He.fAd K ("_law_whole", none)))
  d__law_whole : ∃ fd, FunD K "_law_whole" "_law_whole" (defArgs s__law_whole) (defBody s__law_whole) (defScope s__law_whole) [] [] (He.fAd K ("_law_whole", none)) fd
  g__law_patch : mg "_law_patch" = some (.ref (He.fAd K ("_law_patch", none)))
  d__law_patch : ∃ fd, FunD K "_law_patch" "_law_patch" (defArgs s__law_patch) (defBody s__law_patch) (defScope s__law_patch) [] [] (He.fAd K ("_law_patch", none)) fd
  g__law_is_patch : mg "_law_is_patch" = some (.ref (He.fAd K ("_law_is_patch", none)))
  d__law_is_patch : ∃ fd, FunD K "_law_is_patch" "_law_is_patch" (defArgs s__law_is_patch) (defBody s__law_is_patch) (defScope s__law_is_patch) [] [] (He.fAd K ("_law_is_patch", none)) fd
  g__law_change : mg "_law_change" = some (.ref (He.fAd K ("_law_change", none)))
  d__law_change : ∃ fd, FunD K "_law_change" "_law_change" (defArgs s__law_change) (defBody s__law_change) (defScope s__law_change) [] [] (He.fAd K ("_law_change", none)) fd
  g__law_patch_of : mg "_law_patch_of" = some (.ref (He.fAd K ("_law_patch_of", none)))
  d__law_patch_of : ∃ fd, FunD K "_law_patch_of" "_law_patch_of" (defArgs s__law_patch_of) (defBody s__law_patch_of) (defScope s__law_patch_of) [] [] (He.fAd K ("_law_patch_of", none)) fd
  g__law_held : mg "_law_held" = some (.ref (He.fAd K ("_law_held", none)))
  d__law_held : ∃ fd, FunD K "_law_held" "_law_held" (defArgs s__law_held) (defBody s__law_held) (defScope s__law_held) [] [] (He.fAd K ("_law_held", none)) fd
  g__law_short : mg "_law_short" = some (.ref (He.fAd K ("_law_short", none)))
  d__law_short : ∃ fd, FunD K "_law_short" "_law_short" (defArgs s__law_short) (defBody s__law_short) (defScope s__law_short) [] [] (He.fAd K ("_law_short", none)) fd
  g__law_strange : mg "_law_strange" = some (.ref (He.fAd K ("_law_strange", none)))
  d__law_strange : ∃ fd, FunD K "_law_strange" "_law_strange" (defArgs s__law_strange) (defBody s__law_strange) (defScope s__law_strange) [] [] (He.fAd K ("_law_strange", none)) fd
  g__law_refusal : mg "_law_refusal" = some (.ref (He.fAd K ("_law_refusal", none)))
  d__law_refusal : ∃ fd, FunD K "_law_refusal" "_law_refusal" (defArgs s__law_refusal) (defBody s__law_refusal) (defScope s__law_refusal) [] [] (He.fAd K ("_law_refusal", none)) fd
  g__law_refused : mg "_law_refused" = some (.ref (He.fAd K ("_law_refused", none)))
  d__law_refused : ∃ fd, FunD K "_law_refused" "_law_refused" (defArgs s__law_refused) (defBody s__law_refused) (defScope s__law_refused) [] [] (He.fAd K ("_law_refused", none)) fd
  g__law_behind : mg "_law_behind" = some (.ref (He.fAd K ("_law_behind", none)))
  d__law_behind : ∃ fd, FunD K "_law_behind" "_law_behind" (defArgs s__law_behind) (defBody s__law_behind) (defScope s__law_behind) [] [] (He.fAd K ("_law_behind", none)) fd
  g__law_back : mg "_law_back" = some (.ref (He.fAd K ("_law_back", none)))
  d__law_back : ∃ fd, FunD K "_law_back" "_law_back" (defArgs s__law_back) (defBody s__law_back) (defScope s__law_back) [] [] (He.fAd K ("_law_back", none)) fd
  g__law_other_signs : mg "_law_other_signs" = some (.ref (He.fAd K ("_law_other_signs", none)))
  d__law_other_signs : ∃ fd, FunD K "_law_other_signs" "_law_other_signs" (defArgs s__law_other_signs) (defBody s__law_other_signs) (defScope s__law_other_signs) [] [] (He.fAd K ("_law_other_signs", none)) fd
  g__law_undone : mg "_law_undone" = some (.ref (He.fAd K ("_law_undone", none)))
  d__law_undone : ∃ fd, FunD K "_law_undone" "_law_undone" (defArgs s__law_undone) (defBody s__law_undone) (defScope s__law_undone) [] [] (He.fAd K ("_law_undone", none)) fd
  g__law_drawn : mg "_law_drawn" = some (.ref (He.fAd K ("_law_drawn", none)))
  d__law_drawn : ∃ fd, FunD K "_law_drawn" "_law_drawn" (defArgs s__law_drawn) (defBody s__law_drawn) (defScope s__law_drawn) [] [] (He.fAd K ("_law_drawn", none)) fd
  g__law_same : mg "_law_same" = some (.ref (He.fAd K ("_law_same", none)))
  d__law_same : ∃ fd, FunD K "_law_same" "_law_same" (defArgs s__law_same) (defBody s__law_same) (defScope s__law_same) [] [] (He.fAd K ("_law_same", none)) fd
  g__law_places : mg "_law_places" = some (.ref (He.fAd K ("_law_places", none)))
  d__law_places : ∃ fd, FunD K "_law_places" "_law_places" (defArgs s__law_places) (defBody s__law_places) (defScope s__law_places) [] [] (He.fAd K ("_law_places", none)) fd
  g__law_made : mg "_law_made" = some (.ref (He.fAd K ("_law_made", none)))
  d__law_made : ∃ fd, FunD K "_law_made" "_law_made" (defArgs s__law_made) (defBody s__law_made) (defScope s__law_made) [] [] (He.fAd K ("_law_made", none)) fd
  g__law_begun : mg "_law_begun" = some (.ref (He.fAd K ("_law_begun", none)))
  d__law_begun : ∃ fd, FunD K "_law_begun" "_law_begun" (defArgs s__law_begun) (defBody s__law_begun) (defScope s__law_begun) [] [] (He.fAd K ("_law_begun", none)) fd
  g__law_changed : mg "_law_changed" = some (.ref (He.fAd K ("_law_changed", none)))
  d__law_changed : ∃ fd, FunD K "_law_changed" "_law_changed" (defArgs s__law_changed) (defBody s__law_changed) (defScope s__law_changed) [] [] (He.fAd K ("_law_changed", none)) fd
  g__law_block : mg "_law_block" = some (.ref (He.fAd K ("_law_block", none)))
  d__law_block : ∃ fd, FunD K "_law_block" "_law_block" (defArgs s__law_block) (defBody s__law_block) (defScope s__law_block) [] [] (He.fAd K ("_law_block", none)) fd
  g_law : mg "law" = some (.ref (He.fAd K ("law", none)))
  d_law : ∃ fd, FunD K "law" "law" (defArgs s_law) (defBody s_law) (defScope s_law) [] [] (He.fAd K ("law", none)) fd
end Jr
namespace Jr
open PySem PySem.Spec PyProof.Rows L2
def exs (K : PySem.W.Frag) : List Bool := [PySem.W.readsIn K (He.ga K "JoinError") (.type "type"),
  decide (PySem.W.specialIn K (.ref (He.ga K "JoinError")) "__getattribute__" = some (some (.builtin "type.__getattribute__"))),
  fcB K (He.ga K "JoinError") (He.fAd K ("JoinError", some "__init__")),
  xcB K (He.ga K "NoLead"),
  decide (PySem.W.findIn K (.ref (He.ga K "NoLead")) "__init__" = some (some (.ref (He.fAd K ("JoinError", some "__init__"))))),
  decide (PySem.W.typeIn K (.ref (He.fAd K ("JoinError", some "__init__"))) = some (.type "function")),
  decide (PySem.W.exmOne K (.ref (He.ga K "NoLead")) (.ref (He.ga K "JoinError")) = some true),
  decide (PySem.W.kitOne K (.ref (He.ga K "NoLead")) (.ref (He.ga K "JoinError")) = some true),
  decide (PySem.W.kitOne K (.ref (He.ga K "NoLead")) (.ref (He.ga K "NoTable")) = some false),
  decide (PySem.W.kitOne K (.ref (He.ga K "NoLead")) (.ref (He.ga K "NoGrammar")) = some false),
  decide (PySem.W.kitOne K (.ref (He.ga K "NoLead")) (.ref (He.ga K "NoCutting")) = some false),
  decide (PySem.W.kitOne K (.ref (He.ga K "NoLead")) (.ref (He.ga K "NoSign")) = some false),
  decide (PySem.W.kitOne K (.ref (He.ga K "NoLead")) (.ref (He.ga K "NoPiece")) = some false),
  decide (PySem.W.kitOne K (.ref (He.ga K "NoLead")) (.ref (He.ga K "NoNumber")) = some false),
  decide (PySem.W.kitOne K (.ref (He.ga K "NoLead")) (.ref (He.ga K "NoCount")) = some false),
  decide (PySem.W.kitOne K (.ref (He.ga K "NoLead")) (.ref (He.ga K "NoText")) = some false),
  decide (PySem.W.kitOne K (.ref (He.ga K "NoLead")) (.ref (He.ga K "NoPlace")) = some false),
  decide (PySem.W.kitOne K (.ref (He.ga K "NoLead")) (.ref (He.ga K "NoLead")) = some true),
  decide (PySem.W.kitOne K (.ref (He.ga K "NoLead")) (.ref (He.ga K "NoDeed")) = some false),
  decide (PySem.W.kitOne K (.ref (He.ga K "NoLead")) (.ref (He.ga K "NoRow")) = some false),
  decide (PySem.W.kitOne K (.ref (He.ga K "NoLead")) (.ref (He.ga K "NoName")) = some false),
  decide (PySem.W.kitOne K (.ref (He.ga K "NoLead")) (.type "ValueError") = some true),
  xcB K (He.ga K "NoDeed"),
  decide (PySem.W.findIn K (.ref (He.ga K "NoDeed")) "__init__" = some (some (.ref (He.fAd K ("JoinError", some "__init__"))))),
  decide (PySem.W.typeIn K (.ref (He.fAd K ("JoinError", some "__init__"))) = some (.type "function")),
  decide (PySem.W.exmOne K (.ref (He.ga K "NoDeed")) (.ref (He.ga K "JoinError")) = some true),
  decide (PySem.W.kitOne K (.ref (He.ga K "NoDeed")) (.ref (He.ga K "JoinError")) = some true),
  decide (PySem.W.kitOne K (.ref (He.ga K "NoDeed")) (.ref (He.ga K "NoTable")) = some false),
  decide (PySem.W.kitOne K (.ref (He.ga K "NoDeed")) (.ref (He.ga K "NoGrammar")) = some false),
  decide (PySem.W.kitOne K (.ref (He.ga K "NoDeed")) (.ref (He.ga K "NoCutting")) = some false),
  decide (PySem.W.kitOne K (.ref (He.ga K "NoDeed")) (.ref (He.ga K "NoSign")) = some false),
  decide (PySem.W.kitOne K (.ref (He.ga K "NoDeed")) (.ref (He.ga K "NoPiece")) = some false),
  decide (PySem.W.kitOne K (.ref (He.ga K "NoDeed")) (.ref (He.ga K "NoNumber")) = some false),
  decide (PySem.W.kitOne K (.ref (He.ga K "NoDeed")) (.ref (He.ga K "NoCount")) = some false),
  decide (PySem.W.kitOne K (.ref (He.ga K "NoDeed")) (.ref (He.ga K "NoText")) = some false),
  decide (PySem.W.kitOne K (.ref (He.ga K "NoDeed")) (.ref (He.ga K "NoPlace")) = some false),
  decide (PySem.W.kitOne K (.ref (He.ga K "NoDeed")) (.ref (He.ga K "NoLead")) = some false),
  decide (PySem.W.kitOne K (.ref (He.ga K "NoDeed")) (.ref (He.ga K "NoDeed")) = some true),
  decide (PySem.W.kitOne K (.ref (He.ga K "NoDeed")) (.ref (He.ga K "NoRow")) = some false),
  decide (PySem.W.kitOne K (.ref (He.ga K "NoDeed")) (.ref (He.ga K "NoName")) = some false),
  decide (PySem.W.kitOne K (.ref (He.ga K "NoDeed")) (.type "ValueError") = some true)]
theorem exAt {l : List Bool} {i : Nat} {b : Bool} (h : l.all id = true) (e : l[i]? = some b) : b = true := List.all_eq_true.mp h b (List.mem_of_getElem? e)
def fa : List He.Fa := [.free "len",
  .free "range",
  .free "max",
  .free "min",
  .free "isinstance",
  .free "str",
  .free "int",
  .free "bool",
  .free "list",
  .free "tuple",
  .free "all",
  .free "ord",
  .free "enumerate",
  .free "zip",
  .free "sorted",
  .free "ValueError",
  .free "reversed",
  .int "MOST_SIGNS" 12,
  .int "MOST_ROWS" 24,
  .int "MOST_JOINED" 16,
  .int "BLANK_CODE" 32,
  .int "PERCENT_CODE" 37,
  .int "TILDE_CODE" 126,
  .glo "JoinError",
  .glo "NoTable",
  .glo "NoGrammar",
  .glo "NoCutting",
  .glo "NoSign",
  .glo "NoPiece",
  .glo "NoNumber",
  .glo "NoCount",
  .glo "NoText",
  .glo "NoPlace",
  .glo "NoLead",
  .glo "NoDeed",
  .glo "NoRow",
  .glo "NoName",
  .glo "Follows",
  .cls "Follows",
  .noat "Follows" "held_table",
  .noat "Follows" "right_edges",
  .noat "Follows" "left_edges",
  .noat "Follows" "alone_pieces",
  .noat "Follows" "pieces_after",
  .noat "Follows" "pieces_ahead",
  .noat "Follows" "pairs",
  .mkr "Follows",
  .meth "Follows" "is_alone",
  .meth "Follows" "first_rank",
  .meth "Follows" "pair_all",
  .meth "Follows" "table",
  .meth "Follows" "alone",
  .meth "Follows" "has_alone",
  .meth "Follows" "may",
  .glo "Kept",
  .cls "Kept",
  .noat "Kept" "held_follows",
  .noat "Kept" "held_cutting",
  .noat "Kept" "held_text",
  .noat "Kept" "ways_back",
  .mkr "Kept",
  .meth "Kept" "do_change",
  .meth "Kept" "change",
  .meth "Kept" "undo",
  .meth "Kept" "table",
  .meth "Kept" "text",
  .meth "Kept" "cutting",
  .meth "Kept" "piece_at",
  .meth "Kept" "cut_by",
  .meth "Kept" "twin",
  .meth "Kept" "under",
  .glo "Table",
  .cls "Table",
  .noat "Table" "sign_text",
  .noat "Table" "row_list",
  .noat "Table" "piece_list",
  .noat "Table" "number_by_piece",
  .noat "Table" "rank_by_row",
  .noat "Table" "most_signs",
  .mkr "Table",
  .meth "Table" "take_piece",
  .meth "Table" "may_take_row",
  .meth "Table" "take_row",
  .meth "Table" "signs",
  .meth "Table" "rows",
  .meth "Table" "pieces",
  .meth "Table" "which",
  .meth "Table" "parts",
  .meth "Table" "rank",
  .meth "Table" "longest",
  .glo "is_whole",
  .glo "is_up_to",
  .glo "check_text",
  .glo "check_piece",
  .glo "check_place",
  .glo "check_same_signs",
  .glo "edge",
  .glo "right_edge",
  .glo "left_edge",
  .glo "with_ends",
  .glo "edges_meet",
  .glo "may_begin_there",
  .glo "first_of",
  .glo "firsts",
  .glo "read_on",
  .glo "changed_text",
  .glo "check_change",
  .glo "same_ahead",
  .glo "patch_between",
  .glo "patch_of",
  .glo "patched",
  .glo "may_be_sign",
  .glo "check_signs",
  .glo "_law_cell_at",
  .glo "_law_numbers",
  .glo "_law_signs",
  .glo "_law_rows",
  .glo "_law_cut",
  .glo "_law_pieces",
  .glo "_law_words",
  .glo "_law_whole",
  .glo "_law_patch",
  .glo "_law_is_patch",
  .glo "_law_change",
  .glo "_law_patch_of",
  .glo "_law_held",
  .glo "_law_short",
  .glo "_law_strange",
  .glo "_law_refusal",
  .glo "_law_refused",
  .glo "_law_behind",
  .glo "_law_back",
  .glo "_law_other_signs",
  .glo "_law_undone",
  .glo "_law_drawn",
  .glo "_law_same",
  .glo "_law_places",
  .glo "_law_made",
  .glo "_law_begun",
  .glo "_law_changed",
  .glo "_law_block",
  .glo "law"]
def fn : List He.DefD := [⟨("JoinError", some "__init__"), "__init__", "JoinError.__init__", defArgs s_JoinError___init__, defBody s_JoinError___init__, defScope s_JoinError___init__, [], []⟩,
  ⟨("is_whole", none), "is_whole", "is_whole", defArgs s_is_whole, defBody s_is_whole, defScope s_is_whole, [], []⟩,
  ⟨("is_up_to", none), "is_up_to", "is_up_to", defArgs s_is_up_to, defBody s_is_up_to, defScope s_is_up_to, [], []⟩,
  ⟨("check_text", none), "check_text", "check_text", defArgs s_check_text, defBody s_check_text, defScope s_check_text, [], []⟩,
  ⟨("check_piece", none), "check_piece", "check_piece", defArgs s_check_piece, defBody s_check_piece, defScope s_check_piece, [], []⟩,
  ⟨("check_place", none), "check_place", "check_place", defArgs s_check_place, defBody s_check_place, defScope s_check_place, [], []⟩,
  ⟨("check_same_signs", none), "check_same_signs", "check_same_signs", defArgs s_check_same_signs, defBody s_check_same_signs, defScope s_check_same_signs, [], []⟩,
  ⟨("edge", none), "edge", "edge", defArgs s_edge, defBody s_edge, defScope s_edge, [], []⟩,
  ⟨("right_edge", none), "right_edge", "right_edge", defArgs s_right_edge, defBody s_right_edge, defScope s_right_edge, [], []⟩,
  ⟨("left_edge", none), "left_edge", "left_edge", defArgs s_left_edge, defBody s_left_edge, defScope s_left_edge, [], []⟩,
  ⟨("with_ends", none), "with_ends", "with_ends", defArgs s_with_ends, defBody s_with_ends, defScope s_with_ends, [], []⟩,
  ⟨("edges_meet", none), "edges_meet", "edges_meet", defArgs s_edges_meet, defBody s_edges_meet, defScope s_edges_meet, [], []⟩,
  ⟨("Follows", some "__init__"), "__init__", "Follows.__init__", defArgs s_Follows___init__, defBody s_Follows___init__, defScope s_Follows___init__, [], []⟩,
  ⟨("Follows", some "is_alone"), "is_alone", "Follows.is_alone", defArgs s_Follows_is_alone, defBody s_Follows_is_alone, defScope s_Follows_is_alone, [], []⟩,
  ⟨("Follows", some "first_rank"), "first_rank", "Follows.first_rank", defArgs s_Follows_first_rank, defBody s_Follows_first_rank, defScope s_Follows_first_rank, [], []⟩,
  ⟨("Follows", some "pair_all"), "pair_all", "Follows.pair_all", defArgs s_Follows_pair_all, defBody s_Follows_pair_all, defScope s_Follows_pair_all, [], []⟩,
  ⟨("Follows", some "table"), "table", "Follows.table", defArgs s_Follows_table, defBody s_Follows_table, defScope s_Follows_table, [], []⟩,
  ⟨("Follows", some "alone"), "alone", "Follows.alone", defArgs s_Follows_alone, defBody s_Follows_alone, defScope s_Follows_alone, [], []⟩,
  ⟨("Follows", some "has_alone"), "has_alone", "Follows.has_alone", defArgs s_Follows_has_alone, defBody s_Follows_has_alone, defScope s_Follows_has_alone, [], []⟩,
  ⟨("Follows", some "may"), "may", "Follows.may", defArgs s_Follows_may, defBody s_Follows_may, defScope s_Follows_may, [], []⟩,
  ⟨("may_begin_there", none), "may_begin_there", "may_begin_there", defArgs s_may_begin_there, defBody s_may_begin_there, defScope s_may_begin_there, [], []⟩,
  ⟨("first_of", none), "first_of", "first_of", defArgs s_first_of, defBody s_first_of, defScope s_first_of, [], []⟩,
  ⟨("firsts", none), "firsts", "firsts", defArgs s_firsts, defBody s_firsts, defScope s_firsts, [], []⟩,
  ⟨("read_on", none), "read_on", "read_on", defArgs s_read_on, defBody s_read_on, defScope s_read_on, [], []⟩,
  ⟨("changed_text", none), "changed_text", "changed_text", defArgs s_changed_text, defBody s_changed_text, defScope s_changed_text, [], []⟩,
  ⟨("check_change", none), "check_change", "check_change", defArgs s_check_change, defBody s_check_change, defScope s_check_change, [], []⟩,
  ⟨("same_ahead", none), "same_ahead", "same_ahead", defArgs s_same_ahead, defBody s_same_ahead, defScope s_same_ahead, [], []⟩,
  ⟨("patch_between", none), "patch_between", "patch_between", defArgs s_patch_between, defBody s_patch_between, defScope s_patch_between, [], []⟩,
  ⟨("patch_of", none), "patch_of", "patch_of", defArgs s_patch_of, defBody s_patch_of, defScope s_patch_of, [], []⟩,
  ⟨("patched", none), "patched", "patched", defArgs s_patched, defBody s_patched, defScope s_patched, [], []⟩,
  ⟨("Kept", some "__init__"), "__init__", "Kept.__init__", defArgs s_Kept___init__, defBody s_Kept___init__, defScope s_Kept___init__, [], []⟩,
  ⟨("Kept", some "do_change"), "do_change", "Kept.do_change", defArgs s_Kept_do_change, defBody s_Kept_do_change, defScope s_Kept_do_change, [], []⟩,
  ⟨("Kept", some "change"), "change", "Kept.change", defArgs s_Kept_change, defBody s_Kept_change, defScope s_Kept_change, [], []⟩,
  ⟨("Kept", some "undo"), "undo", "Kept.undo", defArgs s_Kept_undo, defBody s_Kept_undo, defScope s_Kept_undo, [], []⟩,
  ⟨("Kept", some "table"), "table", "Kept.table", defArgs s_Kept_table, defBody s_Kept_table, defScope s_Kept_table, [], []⟩,
  ⟨("Kept", some "text"), "text", "Kept.text", defArgs s_Kept_text, defBody s_Kept_text, defScope s_Kept_text, [], []⟩,
  ⟨("Kept", some "cutting"), "cutting", "Kept.cutting", defArgs s_Kept_cutting, defBody s_Kept_cutting, defScope s_Kept_cutting, [], []⟩,
  ⟨("Kept", some "piece_at"), "piece_at", "Kept.piece_at", defArgs s_Kept_piece_at, defBody s_Kept_piece_at, defScope s_Kept_piece_at, [], []⟩,
  ⟨("Kept", some "cut_by"), "cut_by", "Kept.cut_by", defArgs s_Kept_cut_by, defBody s_Kept_cut_by, defScope s_Kept_cut_by, [], []⟩,
  ⟨("Kept", some "twin"), "twin", "Kept.twin", defArgs s_Kept_twin, defBody s_Kept_twin, defScope s_Kept_twin, [], []⟩,
  ⟨("Kept", some "under"), "under", "Kept.under", defArgs s_Kept_under, defBody s_Kept_under, defScope s_Kept_under, [], []⟩,
  ⟨("may_be_sign", none), "may_be_sign", "may_be_sign", defArgs s_may_be_sign, defBody s_may_be_sign, defScope s_may_be_sign, [], []⟩,
  ⟨("check_signs", none), "check_signs", "check_signs", defArgs s_check_signs, defBody s_check_signs, defScope s_check_signs, [], []⟩,
  ⟨("Table", some "__init__"), "__init__", "Table.__init__", defArgs s_Table___init__, defBody s_Table___init__, defScope s_Table___init__, [], []⟩,
  ⟨("Table", some "take_piece"), "take_piece", "Table.take_piece", defArgs s_Table_take_piece, defBody s_Table_take_piece, defScope s_Table_take_piece, [], []⟩,
  ⟨("Table", some "may_take_row"), "may_take_row", "Table.may_take_row", defArgs s_Table_may_take_row, defBody s_Table_may_take_row, defScope s_Table_may_take_row, [], []⟩,
  ⟨("Table", some "take_row"), "take_row", "Table.take_row", defArgs s_Table_take_row, defBody s_Table_take_row, defScope s_Table_take_row, [], []⟩,
  ⟨("Table", some "signs"), "signs", "Table.signs", defArgs s_Table_signs, defBody s_Table_signs, defScope s_Table_signs, [], []⟩,
  ⟨("Table", some "rows"), "rows", "Table.rows", defArgs s_Table_rows, defBody s_Table_rows, defScope s_Table_rows, [], []⟩,
  ⟨("Table", some "pieces"), "pieces", "Table.pieces", defArgs s_Table_pieces, defBody s_Table_pieces, defScope s_Table_pieces, [], []⟩,
  ⟨("Table", some "which"), "which", "Table.which", defArgs s_Table_which, defBody s_Table_which, defScope s_Table_which, [], []⟩,
  ⟨("Table", some "parts"), "parts", "Table.parts", defArgs s_Table_parts, defBody s_Table_parts, defScope s_Table_parts, [], []⟩,
  ⟨("Table", some "rank"), "rank", "Table.rank", defArgs s_Table_rank, defBody s_Table_rank, defScope s_Table_rank, [], []⟩,
  ⟨("Table", some "longest"), "longest", "Table.longest", defArgs s_Table_longest, defBody s_Table_longest, defScope s_Table_longest, [], []⟩,
  ⟨("_law_cell_at", none), "_law_cell_at", "_law_cell_at", defArgs s__law_cell_at, defBody s__law_cell_at, defScope s__law_cell_at, [], []⟩,
  ⟨("_law_numbers", none), "_law_numbers", "_law_numbers", defArgs s__law_numbers, defBody s__law_numbers, defScope s__law_numbers, [], []⟩,
  ⟨("_law_signs", none), "_law_signs", "_law_signs", defArgs s__law_signs, defBody s__law_signs, defScope s__law_signs, [], []⟩,
  ⟨("_law_rows", none), "_law_rows", "_law_rows", defArgs s__law_rows, defBody s__law_rows, defScope s__law_rows, [], []⟩,
  ⟨("_law_cut", none), "_law_cut", "_law_cut", defArgs s__law_cut, defBody s__law_cut, defScope s__law_cut, [], []⟩,
  ⟨("_law_pieces", none), "_law_pieces", "_law_pieces", defArgs s__law_pieces, defBody s__law_pieces, defScope s__law_pieces, [], []⟩,
  ⟨("_law_words", none), "_law_words", "_law_words", defArgs s__law_words, defBody s__law_words, defScope s__law_words, [], []⟩,
  ⟨("_law_whole", none), "_law_whole", "_law_whole", defArgs s__law_whole, defBody s__law_whole, defScope s__law_whole, [], []⟩,
  ⟨("_law_patch", none), "_law_patch", "_law_patch", defArgs s__law_patch, defBody s__law_patch, defScope s__law_patch, [], []⟩,
  ⟨("_law_is_patch", none), "_law_is_patch", "_law_is_patch", defArgs s__law_is_patch, defBody s__law_is_patch, defScope s__law_is_patch, [], []⟩,
  ⟨("_law_change", none), "_law_change", "_law_change", defArgs s__law_change, defBody s__law_change, defScope s__law_change, [], []⟩,
  ⟨("_law_patch_of", none), "_law_patch_of", "_law_patch_of", defArgs s__law_patch_of, defBody s__law_patch_of, defScope s__law_patch_of, [], []⟩,
  ⟨("_law_held", none), "_law_held", "_law_held", defArgs s__law_held, defBody s__law_held, defScope s__law_held, [], []⟩,
  ⟨("_law_short", none), "_law_short", "_law_short", defArgs s__law_short, defBody s__law_short, defScope s__law_short, [], []⟩,
  ⟨("_law_strange", none), "_law_strange", "_law_strange", defArgs s__law_strange, defBody s__law_strange, defScope s__law_strange, [], []⟩,
  ⟨("_law_refusal", none), "_law_refusal", "_law_refusal", defArgs s__law_refusal, defBody s__law_refusal, defScope s__law_refusal, [], []⟩,
  ⟨("_law_refused", none), "_law_refused", "_law_refused", defArgs s__law_refused, defBody s__law_refused, defScope s__law_refused, [], []⟩,
  ⟨("_law_behind", none), "_law_behind", "_law_behind", defArgs s__law_behind, defBody s__law_behind, defScope s__law_behind, [], []⟩,
  ⟨("_law_back", none), "_law_back", "_law_back", defArgs s__law_back, defBody s__law_back, defScope s__law_back, [], []⟩,
  ⟨("_law_other_signs", none), "_law_other_signs", "_law_other_signs", defArgs s__law_other_signs, defBody s__law_other_signs, defScope s__law_other_signs, [], []⟩,
  ⟨("_law_undone", none), "_law_undone", "_law_undone", defArgs s__law_undone, defBody s__law_undone, defScope s__law_undone, [], []⟩,
  ⟨("_law_drawn", none), "_law_drawn", "_law_drawn", defArgs s__law_drawn, defBody s__law_drawn, defScope s__law_drawn, [], []⟩,
  ⟨("_law_same", none), "_law_same", "_law_same", defArgs s__law_same, defBody s__law_same, defScope s__law_same, [], []⟩,
  ⟨("_law_places", none), "_law_places", "_law_places", defArgs s__law_places, defBody s__law_places, defScope s__law_places, [], []⟩,
  ⟨("_law_made", none), "_law_made", "_law_made", defArgs s__law_made, defBody s__law_made, defScope s__law_made, [], []⟩,
  ⟨("_law_begun", none), "_law_begun", "_law_begun", defArgs s__law_begun, defBody s__law_begun, defScope s__law_begun, [], []⟩,
  ⟨("_law_changed", none), "_law_changed", "_law_changed", defArgs s__law_changed, defBody s__law_changed, defScope s__law_changed, [], []⟩,
  ⟨("_law_block", none), "_law_block", "_law_block", defArgs s__law_block, defBody s__law_block, defScope s__law_block, [], []⟩,
  ⟨("law", none), "law", "law", defArgs s_law, defBody s_law, defScope s_law, [], []⟩]

abbrev RR : PySem.W.OpenRow := PySem.W.OpenLaw.row PySem.Challenge.rw_joinranks_k51_kept_under_other_tables
def loose : List PySem.Str := (["_wall", "JoinError", "NoTable", "NoGrammar", "NoCutting", "NoSign", "NoPiece", "NoNumber", "NoCount", "NoText", "NoPlace", "NoLead", "NoDeed", "NoRow", "NoName", "is_whole", "is_up_to", "check_text", "check_piece", "check_place", "check_same_signs", "edge", "right_edge", "left_edge", "with_ends", "edges_meet", "Follows", "may_begin_there", "first_of", "firsts"] : List PySem.Str) ++ (["read_on", "changed_text", "check_change", "same_ahead", "patch_between", "patch_of", "patched", "Kept", "MOST_SIGNS", "MOST_ROWS", "MOST_JOINED", "BLANK_CODE", "PERCENT_CODE", "TILDE_CODE", "may_be_sign", "check_signs", "Table", "_law_cell_at", "_law_numbers", "_law_signs", "_law_rows", "_law_table", "_law_cut", "_law_pieces", "_law_words", "_law_whole", "_law_patch", "_law_is_patch", "_law_change", "_law_patch_of"] : List PySem.Str) ++ (["_law_held", "_law_short", "_law_strange", "_law_refusal", "_law_refused", "_law_behind", "_law_back", "_law_other_signs", "_law_undone", "_law_drawn", "_law_same", "_law_places", "_law_made", "_law_begun", "_law_changed", "_law_block"] : List PySem.Str)
abbrev hk : PySem.W.Hook := hookP 4 fa fn (fun K => (exs K).all id)
def ob (s : PySem.W.SharedT) : He.AlX := obsP 4 fa fn (fun K => (exs K).all id) (HandSHeadRun.getT s)
theorem ob_eq (s : PySem.W.SharedT) : ob s = hk.obs s.abs := obsP_eq (HandSHeadRun.getT_eq s)
section
open PySem PySem.W PySem.Calls PyProof.Rows HandSHeadRun
theorem run_a (w : World) (os : OsState) : (endF (stepQ (denQ tabQ) RR.prog w) 8000 RR.prog w os).map (fun s => looksF RR.prog (boot_heap w.params) s.abs) = some true := by kernel_rfl
theorem run_b (w : World) (os : OsState) : (endF (stepQ (denQ tabQ) RR.prog w) 8000 RR.prog w os).map (fun s => seenQ (view RR.prog [86]) loose (importedModules RR.prog.main.body) (fun s => xlAt (view RR.prog [86]) [] s && recOk RR.toRowW.records s) s.abs) = some (openGood (view RR.prog [86]) loose) := by kernel_rfl
theorem run_c (w : World) (os : OsState) : (endF (stepQ (denQ tabQ) RR.prog w) 8000 RR.prog w os).map (fun s => fa.all fun f => f.ok (He.frT (getT s) (asP (getT s) 4))) = some true := by kernel_rfl
theorem run_d (w : World) (os : OsState) : (endF (stepQ (denQ tabQ) RR.prog w) 8000 RR.prog w os).map (fun s => fn.all fun d => d.ok (He.frT (getT s) (asP (getT s) 4))) = some true := by kernel_rfl
theorem run_e (w : World) (os : OsState) : (endF (stepQ (denQ tabQ) RR.prog w) 8000 RR.prog w os).map (fun s => fn.map fun d => He.fnW (He.frT (getT s) (asP (getT s) 4)) d.at_) = some (fn.map He.DefD.val) := by kernel_rfl
theorem run_f (w : World) (os : OsState) : (endF (stepQ (denQ tabQ) RR.prog w) 8000 RR.prog w os).map (fun s => (exs (He.frT (getT s) (asP (getT s) 4))).all id) = some true := by kernel_rfl
theorem run (w : World) : RunEq RR (view RR.prog [86]) hk ob 8000 loose w := fun os => split6 (run_a w os) (run_b w os) (run_c w os) (run_d w os) (run_e w os) (run_f w os)
end
end Jr
namespace Jr
open PySem PySem.Spec PyProof.Rows L2
/-- digits by sizes: a new list, each digit from 0 to below its size -/
def spNumbers (K : PySem.W.Frag) : Sp := fun vs H Q _ => ∃ (c salt : Int) (a : Addr) (ns : List Int), vs = [.int c, .int salt, .ref a] ∧ 0 ≤ salt ∧ salt ≤ 100000 ∧ SqL K H a (ns.map V.int) ∧ ns.length ≤ 1000 ∧
  (∀ z ∈ ns, 0 < z ∧ z.natAbs.log2 < 9000) ∧ ∀ H' p ds, Same H H' → H p = none → H' p = some (.lst (ds.map V.int)) → Digs ns ds → Q (.ref p) H'
theorem Digs.snoc {ns ds : List Int} {i : Nat} {z d : Int} (h : Digs (ns.take i) ds) (hz : ns[i]? = some z) (h0 : 0 ≤ d) (h1 : d < z) : Digs (ns.take (i + 1)) (ds ++ [d]) := by
  have e : ns.take (i + 1) = ns.take i ++ [z] := by
    rw [List.take_add_one, hz]
    rfl
  rw [e]
  exact Paired.snoc h ⟨h0, h1⟩
theorem digs_end {H' : Hp} {p : Addr} {ns ds : List Int} {i : Nat} {z x : Int} (h : Digs (ns.take i) ds) (hz : ns[i]? = some z) (zp : 0 < z) :
    ∃ es : List Int, (upd H' p (.lst (ds.map V.int ++ [V.int (x % z)]))) p = some (.lst (es.map V.int)) ∧ Digs (ns.take (i + 1)) es :=
  ⟨ds ++ [x % z], by rw [upd_same, List.map_append]; rfl, h.snoc hz (Int.emod_nonneg _ (by omega)) (Int.emod_lt_of_pos _ zp)⟩
theorem nab {x m : Int} (h : 0 < m) (hm : m ≤ 2 ^ 62) : (x % m).natAbs < 2 ^ 64 := by
  have := Int.emod_nonneg x (show m ≠ 0 by omega)
  have := Int.emod_lt_of_pos x h
  omega
theorem mulb {x m : Int} (h : 0 < m) (hm : m ≤ 2 ^ 62) : -(2 ^ 64) < x % m ∧ x % m < 2 ^ 64 := by
  have := Int.emod_nonneg x (show m ≠ 0 by omega)
  have := Int.emod_lt_of_pos x h
  omega
theorem mulb2 {x : Int} {i : Nat} (hi : i ≤ 1000) : -(2 ^ 64) < x % 2147483647 + 104729 * (0 + (i : Int) + 1) ∧ x % 2147483647 + 104729 * (0 + (i : Int) + 1) < 2 ^ 64 := by
  have := Int.emod_nonneg x (show (2147483647 : Int) ≠ 0 by omega)
  have := Int.emod_lt_of_pos x (show (0 : Int) < 2147483647 by omega)
  omega
section
variable {P : Program} {w : World} {K : PySem.W.Frag} {mg : Str → Option Value} {base : Heap}
theorem cal__law_numbers (T : Tx K mg) : Cal P w K mg base CX0 1 "_law_numbers" (spNumbers K) := by
  obtain ⟨fd, F⟩ := T.d__law_numbers
  refine ⟨_, fd, P__law_numbers, F.ok sc__law_numbers (fun vs H Q E h => ?_) (fun cdv A outer s H vs Q E hr h => ?_), T.g__law_numbers, F.kp, F.bindsN (ps := P__law_numbers) fun _ _ _ _ _ _ us hl => match us, hl with | [_, _, _], _ => rfl⟩
  · obtain ⟨c, salt, a, ns, rfl, _⟩ := h
    rfl
  · obtain ⟨c, salt, a, ns, rfl, s0, s1, hS, hlen, hns, k⟩ := h
    refine ⟨_, (PSs.nox (pss_cons (ps_set (i := 3) sc__law_numbers.nd rfl (Or.inl rfl) (pe_callB (id := "max") (call_max2 rfl) (by rfl) T.n_max (by decide +kernel) (pa_cons (pv 0) (pa_cons (pe_op op_sub (pe_un un_neg pe_int) (pv 0)) pa_nil))))
      (pss_cons (ps_set (i := 4) sc__law_numbers.nd rfl (Or.inl rfl) (pv 3))
      (pss_cons (ps_set (i := 5) sc__law_numbers.nd rfl (Or.inl rfl) (pe_lst pa_nil))
      (pss_cons (ps_for PassesOwn.never rfl (pi_range1 (by rfl) T.n_range (pa_cons (pe_callB (id := "len") call_len_seq (by rfl) T.n_len (by decide +kernel) (pa_cons (pv 2) pa_nil)) pa_nil)) (pg_name (i := 6) sc__law_numbers.nd rfl (Or.inl rfl)) (pss_one (ps_if (PW.pt (pw_and (pt_cmpR op_ge (pv 3) (pe_op op_pow pe_int pe_int) (nomark _)) (pw_and1 (pt_cmpR op_gt (pv 4) pe_int (nomark _))))) (pss_cons (ps_expr (pe_bm PySem.F.plainAttrs_list PySem.F.slot_list_append PySem.F.type_list_append mt_append (pv 5) (pa_cons (pe_op op_mod (pv 4) (pe_ix ix_list (pv 2) (pv 6) (fun _ _ => rfl))) pa_nil)))
      (pss_one (ps_set (i := 4) sc__law_numbers.nd rfl (Or.inl rfl) (pe_op op_fdivW (pv 4) (pe_ix ix_list (pv 2) (pv 6) (fun _ _ => rfl)))))) (pss_cons (ps_set (i := 7) sc__law_numbers.nd rfl (Or.inl rfl) (pe_op op_mod (pe_op op_pow (pe_op op_add (pe_op op_add (pe_op op_mod (pv 3) pe_int) (pe_op op_mul pe_int (pv 1))) pe_int) pe_int) pe_int))
      (pss_cons (ps_set (i := 7) sc__law_numbers.nd rfl (Or.inl rfl) (pe_op op_mod (pe_op op_mul (pe_op op_add (pv 7) (pe_op op_mul pe_int (pe_op op_add (pv 6) pe_int))) (pe_op op_add (pv 6) pe_int)) pe_int))
      (pss_cons (ps_set (i := 7) sc__law_numbers.nd rfl (Or.inl rfl) (pe_op op_mod (pe_op op_mul (pe_op op_mod (pe_op op_pow (pv 7) pe_int) pe_int) pe_int) pe_int))
      (pss_one (ps_expr (pe_bm PySem.F.plainAttrs_list PySem.F.slot_list_append PySem.F.type_list_append mt_append (pv 5) (pa_cons (pe_op op_mod (pe_op op_fdiv (pv 7) pe_int) (pe_ix ix_list (pv 2) (pv 6) (fun _ _ => rfl))) pa_nil))))))))))
      (pss_one (ps_ret (pv 5)))))))), ?_⟩
    refine ⟨_, rfl, _, rfl, _, rfl, _, _, rfl, rfl, _, _, rfl, ?_⟩
    obtain ⟨nu, hnu⟩ : ∃ nu : Int, nu = (if -1 - c > c then -1 - c else c) := ⟨_, rfl⟩
    refine ⟨_, rfl, Nat.zero_le _, fun p hp => ?_⟩
    refine ⟨_, rfl, _, _, rfl, .inl ((Same.new hp).seq hS), _, rfl, ?_, ?_, ?_⟩
    · show -(2 ^ 62) ≤ (((ns.map V.int).length : Nat) : Int)
      omega
    · show (((ns.map V.int).length : Nat) : Int) < 2 ^ 62
      rw [List.length_map]
      omega
    have en : ((((ns.map V.int).length : Nat) : Int)).toNat = ns.length := by rw [List.length_map]; rfl
    rw [en]
    rw [← hnu]
    refine for_range (lo := 0) (n := ns.length) (fun i σ H' => ∃ (l : Int) (kk one : Option V), σ = [some (.int c), some (.int salt), some (.ref a), some (.int nu), some (.int l), some (.ref p), kk, one] ∧
      Same H H' ∧ ∃ ds : List Int, H' p = some (.lst (ds.map V.int)) ∧ Digs (ns.take i) ds) ⟨nu, none, none, rfl, Same.new hp, [], upd_same, .nil⟩ ?_ ?_
    · rintro i σ H' hi ⟨l, kk, one, rfl, sm, ds, hL, hD⟩
      have hz : ns[i]? = some ns[i] := List.getElem?_eq_getElem hi
      obtain ⟨z, ez⟩ : ∃ z, z = ns[i] := ⟨_, rfl⟩
      rw [← ez] at hz
      have zp : 0 < z ∧ z.natAbs.log2 < 9000 := hns z (by rw [ez]; exact List.getElem_mem hi)
      have hS' : SqL K H' a (ns.map V.int) := sm.seq hS
      have hat : atI (ns.map V.int) (0 + (i : Int)) = some (V.int z) := by
        rw [Int.zero_add]
        exact ats (by rw [List.getElem?_map, hz]; rfl)
      have hlen2 : (ds.map V.int).length < sizeLine := by
        rw [List.length_map, ← hD.length, List.length_take]
        exact szl (by omega)
      have keep : ∀ d : Int, Same H (upd H' p (.lst ((ds.map V.int) ++ [V.int d]))) := fun d => Same.mut sm hp
      have hnn : 0 ≤ nu := by
        rw [hnu]
        split <;> omega
      refine ⟨_, rfl, _, _, rfl, rfl, ⟨by decide, by decide, by decide⟩, _, _, rfl, rfl, _, rfl, ite2 (fun c1 => ⟨_, rfl, _, _, rfl, rfl, _, rfl, ite2 (fun c2 => ?A) (fun c2 => ?B1)⟩) (fun c1 => iteF ?B2)⟩
      case A =>
        refine ⟨_, rfl, .inl ⟨rfl, _, SqL.of hL⟩, _, rfl, _, rfl, _, rfl, _, _, _, _, rfl, rfl, hS', hat, _, _, rfl, rfl, zp.1, _, _, _, rfl, rfl, hL, hlen2, ?_⟩
        refine ⟨_, rfl, _, rfl, _, rfl, _, _, _, _, rfl, rfl, (keep _).seq hS, hat, _, _, rfl, rfl, zp, ?_⟩
        exact ⟨_, _, one, rfl, keep _, digs_end hD hz zp.1⟩
      all_goals
        have m1 : 0 ≤ nu % 2147483629 ∧ nu % 2147483629 < 2147483629 := ⟨Int.emod_nonneg _ (by decide), Int.emod_lt_of_pos _ (by decide)⟩
        refine ⟨_, rfl, _, _, rfl, rfl, (by show (0 : Int) < 2147483629; decide), _, rfl, _, _, rfl, rfl, .inl ⟨by decide, by decide⟩, _, _, rfl, rfl, _, _, rfl, rfl, _, _, rfl, rfl, ⟨by decide, by decide, ?_⟩, _, _, rfl, rfl, (by show (0 : Int) < 2147483647; decide), ?_⟩
        · show (nu % 2147483629 + 7919 * salt + 1).natAbs < 2 ^ 64
          omega
        refine ⟨_, rfl, _, rfl, _, _, rfl, rfl, _, _, rfl, rfl, .inl ⟨by decide, by decide⟩, _, _, rfl, rfl, _, rfl, _, _, rfl, rfl, _, _, rfl, rfl, .inl (mulb2 (by omega)), _, _, rfl, rfl, (by show (0 : Int) < 2147483629; decide), ?_⟩
        refine ⟨_, rfl, _, _, rfl, rfl, ⟨by decide, by decide, nab (by decide) (by decide)⟩, _, _, rfl, rfl, (by show (0 : Int) < 2147483647; decide), _, _, rfl, rfl, .inl (mulb (by decide) (by decide)), _, _, rfl, rfl, (by show (0 : Int) < 2147483629; decide), ?_⟩
        refine ⟨_, rfl, .inl ⟨rfl, _, SqL.of hL⟩, _, rfl, _, _, rfl, rfl, ⟨by decide, by decide⟩, _, rfl, _, rfl, _, _, _, _, rfl, rfl, hS', hat, _, _, rfl, rfl, zp.1, _, _, _, rfl, rfl, hL, hlen2, ?_⟩
        exact ⟨_, _, _, rfl, keep _, digs_end hD hz zp.1⟩
    · rintro σ H' ⟨l, kk, one, rfl, sm, ds, hL, hD⟩
      rw [List.take_length] at hD
      exact ⟨_, rfl, k _ p ds sm hp hL hD⟩
end
end Jr
namespace Jr
open PySem PySem.Spec PyProof.Rows L2
/-! ### what stands in a row on the way was made of its own signs alone -/
theorem pass1_split (l r : Str) : ∀ (xs A B : List Str), pass1 l r xs = A ++ B → ∃ XA XB, xs = XA ++ XB ∧ pass1 l r XA = A ∧ pass1 l r XB = B
  | xs, [], B, h => ⟨[], xs, rfl, pass1_nil l r, h⟩
  | [], a :: A, B, h => by rw [pass1_nil] at h; cases h
  | [x], a :: A, B, h => by
    rw [pass1_one] at h
    have h1 : x = a ∧ [] = A ++ B := by simpa using h
    obtain ⟨rfl, h2⟩ := h1
    obtain ⟨rfl, rfl⟩ := List.append_eq_nil_iff.mp h2.symm
    exact ⟨[x], [], rfl, pass1_one l r x, pass1_nil l r⟩
  | x :: y :: t, a :: A, B, h => by
    by_cases c : x = l ∧ y = r
    · obtain ⟨rfl, rfl⟩ := c
      rw [pass1_yes, List.cons_append] at h
      obtain ⟨e1, e2⟩ := List.cons.inj h
      obtain ⟨XA, XB, e3, e4, e5⟩ := pass1_split x y t A B e2
      exact ⟨x :: y :: XA, XB, by rw [e3]; rfl, by rw [pass1_yes, e4, e1], e5⟩
    · rw [pass1_no t c, List.cons_append] at h
      obtain ⟨e1, e2⟩ := List.cons.inj h
      obtain ⟨XA, XB, e3, e4, e5⟩ := pass1_split l r (y :: t) A B e2
      refine ⟨x :: XA, XB, by rw [e3]; rfl, ?_, e5⟩
      cases XA with
      | nil => rw [pass1_nil] at e4; rw [pass1_one, ← e4, e1]
      | cons y' t' =>
        rw [List.cons_append] at e3
        obtain ⟨e6, _⟩ := List.cons.inj e3
        rw [pass1_no t' (fun z => c ⟨z.1, e6.trans z.2⟩), e4, e1]
termination_by xs => xs.length
theorem passAll_split : ∀ (rs : Rws) (xs A B : List Str), passAll rs xs = A ++ B → ∃ XA XB, xs = XA ++ XB ∧ passAll rs XA = A ∧ passAll rs XB = B
  | [], _, A, B, h => ⟨A, B, h, rfl, rfl⟩
  | r :: rs, xs, A, B, h => by
    obtain ⟨YA, YB, e1, e2, e3⟩ := passAll_split rs (pass1 r.1 r.2 xs) A B h
    obtain ⟨XA, XB, e4, e5, e6⟩ := pass1_split r.1 r.2 xs YA YB e1
    refine ⟨XA, XB, e4, ?_, ?_⟩
    · show passAll rs (pass1 r.1 r.2 XA) = A
      rw [e5, e2]
    · show passAll rs (pass1 r.1 r.2 XB) = B
      rw [e6, e3]
theorem passAll_one : ∀ (rs : Rws) (p : Str), passAll rs [p] = [p]
  | [], _ => rfl
  | r :: rs, p => by
    show passAll rs (pass1 r.1 r.2 [p]) = _
    rw [pass1_one, passAll_one rs p]
theorem passAll_app (a b : Rws) (xs : List Str) : passAll (a ++ b) xs = passAll b (passAll a xs) := List.foldl_append
theorem passAll_cut (rs : Rws) (n : Nat) (xs : List Str) : passAll rs xs = passAll (rs.drop n) (passAll (rs.take n) xs) := by
  rw [← passAll_app, List.take_append_drop]
theorem flat_map_sgn (cs : List Nat) : flat (cs.map sgn) = cs := by
  unfold flat
  rw [List.flatMap_map]
  induction cs with
  | nil => rfl
  | cons c l ih => rw [List.flatMap_cons, ih]; rfl
/-- signs that a row of passes makes into p are p's signs -/
theorem sgs_back {rs : Rws} {cs : List Nat} {p : Str} (h : passAll rs (cs.map sgn) = [p]) : cs.map sgn = sgs p := by
  have e := passAll_flat rs (cs.map sgn)
  rw [h, flat_map_sgn] at e
  have e2 : flat [p] = p.cps.toList := by rw [flat_cons]; simp [flat]
  rw [e2] at e
  unfold sgs
  rw [e]
theorem way_split {rs : Rws} {t : Str} {A B : List Str} (h : passAll rs (sgs t) = A ++ B) : ∃ ca cb : List Nat, t.cps.toList = ca ++ cb ∧ passAll rs (ca.map sgn) = A ∧ passAll rs (cb.map sgn) = B := by
  obtain ⟨XA, XB, e1, e2, e3⟩ := passAll_split rs _ A B h
  unfold sgs at e1
  obtain ⟨ca, cb, e4, e5, e6⟩ := List.map_eq_append_iff.mp e1
  exact ⟨ca, cb, e4, by rw [e5, e2], by rw [e6, e3]⟩
theorem way_alone {rs : Rws} {t p : Str} (h : p ∈ passAll rs (sgs t)) : passAll rs (sgs p) = [p] := by
  obtain ⟨A, B, e⟩ := List.append_of_mem h
  obtain ⟨XA, X, e1, _, e2⟩ := passAll_split rs _ A (p :: B) e
  obtain ⟨XP, XB, e3, e4, _⟩ := passAll_split rs X [p] B e2
  rw [e3] at e1
  unfold sgs at e1
  obtain ⟨c1, c2, _, _, e5⟩ := List.map_eq_append_iff.mp e1
  obtain ⟨c3, c4, _, e6, _⟩ := List.map_eq_append_iff.mp e5
  rw [← e6] at e4
  rw [← sgs_back e4, e4]
theorem on_way_alone {rs : Rws} {t p : Str} {n : Nat} (h : p ∈ passAll (rs.take n) (sgs t)) : sweep rs p = [p] := by
  unfold sweep
  rw [passAll_cut rs n, way_alone h, passAll_one]
/-- a piece that stands alone and is no sign was made by a row, of its two parts -/
theorem made_by {rs : Rws} {t : Str} (ht : 2 ≤ t.length) : ∀ n, n ≤ rs.length → passAll (rs.take n) (sgs t) = [t] → ∃ j r, rs[j]? = some r ∧ j < n ∧ passAll (rs.take j) (sgs t) = [r.1, r.2] ∧ jn r = t := fun n => by
  induction n with
  | zero =>
    intro _ h
    have h2 : sgs t = [t] := h
    have := congrArg List.length h2
    rw [sgs_len] at this
    simp at this
    omega
  | succ n ih =>
    intro hn h
    have hx : rs[n]? = some rs[n] := List.getElem?_eq_getElem (by omega)
    rw [passAll_take _ hx] at h
    generalize hX : passAll (rs.take n) (sgs t) = X at h
    match X, h with
    | [], h => rw [pass1_nil] at h; cases h
    | [x], h =>
      rw [pass1_one] at h
      rw [h] at hX
      obtain ⟨j, r, h1, h2, h3⟩ := ih (by omega) hX
      exact ⟨j, r, h1, by omega, h3⟩
    | x :: y :: u, h =>
      by_cases c : x = rs[n].1 ∧ y = rs[n].2
      · obtain ⟨rfl, rfl⟩ := c
        rw [pass1_yes] at h
        obtain ⟨e1, e2⟩ := List.cons.inj h
        have e3 : u = [] := by
          by_cases c : u = []
          · exact c
          · exact absurd e2 (pass1_ne _ _ u c)
        subst e3
        exact ⟨n, rs[n], hx, by omega, hX, e1⟩
      · rw [pass1_no u c] at h
        obtain ⟨e1, e2⟩ := List.cons.inj h
        exact absurd e2 (pass1_ne _ _ (y :: u) (by simp))
theorem TabOk.jn_inj {z : Str} {rs : Rws} (T : TabOk z rs) {i j : Nat} {a b : Str × Str} (ha : rs[i]? = some a) (hb : rs[j]? = some b) (e : jn a = jn b) : i = j := by
  have key : ∀ {i j : Nat} {a b : Str × Str}, rs[i]? = some a → rs[j]? = some b → jn a = jn b → ¬ i < j := fun {i j a b} ha hb e h => by
    refine (T.rows j b hb).new ?_
    rw [← e]
    refine List.mem_append_right _ (List.mem_map.mpr ⟨a, ?_, rfl⟩)
    have : (rs.take j)[i]? = some a := by rw [List.getElem?_take, if_pos h, ha]
    exact List.mem_of_getElem? this
  have h1 := key ha hb e
  have h2 := key hb ha e.symm
  omega
theorem parts_alone {z : Str} {rs : Rws} (T : TabOk z rs) {i : Nat} {l r : Str} (hi : rs[i]? = some (l, r)) (h : sweep rs (l ++ r) = [l ++ r]) : sweep rs l = [l] ∧ sweep rs r = [r] := by
  have ro := T.rows i _ hi
  have l1 := ((T.take i).plen ro.lm).1
  have l2 := ((T.take i).plen ro.rm).1
  have l1 : 1 ≤ l.length := l1
  have l2 : 1 ≤ r.length := l2
  have la := app_len l r
  have h' : passAll (rs.take rs.length) (sgs (l ++ r)) = [l ++ r] := by rw [List.take_length]; exact h
  obtain ⟨j, q, h1, _, h2, h3⟩ := made_by (by omega) rs.length (Nat.le_refl _) h'
  have e : i = j := T.jn_inj hi h1 (show l ++ r = jn q from h3.symm)
  subst e
  rw [hi] at h1
  cases h1
  refine ⟨on_way_alone (n := i) (t := l ++ r) ?_, on_way_alone (n := i) (t := l ++ r) ?_⟩
  · rw [h2]; exact List.mem_cons_self
  · rw [h2]; exact List.mem_cons_of_mem _ List.mem_cons_self
end Jr
namespace Jr
open PySem PySem.Spec PyProof.Rows L2
/-! ### what falls at a border, and when -/
theorem getLast_cons {α : Type} {a : α} : ∀ {xs : List α}, xs ≠ [] → (a :: xs).getLast? = xs.getLast?
  | [], h => absurd rfl h
  | _ :: _, _ => List.getLast?_cons_cons
/-- a pass over two rows side by side: the border falls just where the pass of the first leaves l last and the second begins with r -/
theorem pass1_app {l r : Str} (hr : 1 ≤ r.length) : ∀ (A B : List Str), A ≠ [] →
    pass1 l r (A ++ B) = if (pass1 l r A).getLast? = some l ∧ B.head? = some r then (pass1 l r A).dropLast ++ (l ++ r) :: pass1 l r B.tail else pass1 l r A ++ pass1 l r B
  | [], _, h => absurd rfl h
  | [a], [], _ => by
    rw [List.append_nil, pass1_one, if_neg (by simp), pass1_nil, List.append_nil]
  | [a], b :: B, _ => by
    show pass1 l r (a :: b :: B) = _
    rw [pass1_one]
    by_cases c : a = l ∧ b = r
    · obtain ⟨rfl, rfl⟩ := c
      rw [pass1_yes, if_pos ⟨rfl, rfl⟩]; rfl
    · rw [pass1_no B c, if_neg (fun z => c ⟨Option.some.inj z.1, Option.some.inj z.2⟩)]; rfl
  | a :: b :: t, B, _ => by
    by_cases c : a = l ∧ b = r
    · obtain ⟨rfl, rfl⟩ := c
      show pass1 a b (a :: b :: (t ++ B)) = _
      rw [pass1_yes, pass1_yes]
      by_cases e : t = []
      · subst e
        rw [pass1_nil, if_neg (fun z => app_ne hr (Option.some.inj z.1))]; rfl
      · have ne := pass1_ne a b t e
        rw [pass1_app hr t B e, getLast_cons ne, List.dropLast_cons_of_ne_nil ne]
        by_cases c2 : (pass1 a b t).getLast? = some a ∧ B.head? = some b
        · rw [if_pos c2, if_pos c2]; rfl
        · rw [if_neg c2, if_neg c2]; rfl
    · show pass1 l r (a :: b :: (t ++ B)) = _
      rw [pass1_no _ c, pass1_no _ c]
      have ne := pass1_ne l r (b :: t) (by simp)
      have ih := pass1_app (l := l) hr (b :: t) B (by simp)
      rw [List.cons_append] at ih
      rw [ih, getLast_cons ne, List.dropLast_cons_of_ne_nil ne]
      by_cases c2 : (pass1 l r (b :: t)).getLast? = some l ∧ B.head? = some r
      · rw [if_pos c2, if_pos c2]; rfl
      · rw [if_neg c2, if_neg c2]; rfl
termination_by A => A.length
theorem plc_ge (l r : Str) : ∀ (n : Nat) (X : List Str) (m : Nat), m ∈ plc l r n X → n + l.length ≤ m
  | n, [], m, h => by unfold plc at h; cases h
  | n, [a], m, h => by unfold plc at h; cases h
  | n, a :: b :: t, m, h => by
    rw [plc] at h
    by_cases c : a = l ∧ b = r
    · rw [if_pos c] at h
      rcases List.mem_cons.mp h with e | e
      · rw [e, c.1]; exact Nat.le_refl _
      · have := plc_ge l r _ t m e
        omega
    · rw [if_neg c] at h
      have := plc_ge l r _ (b :: t) m h
      omega
termination_by _ X => X.length
theorem flat_clen (x : Str) (xs : List Str) : (flat (x :: xs)).length = x.length + (flat xs).length := by
  rw [flat_cons, List.length_append, len_cps]
theorem plc_app {l r : Str} (hl : 1 ≤ l.length) (hr : 1 ≤ r.length) : ∀ (n : Nat) (A B : List Str), A ≠ [] →
    (n + (flat A).length ∈ plc l r n (A ++ B) ↔ (pass1 l r A).getLast? = some l ∧ B.head? = some r)
  | _, [], _, h => absurd rfl h
  | n, [a], [], _ => by
    rw [List.append_nil]
    unfold plc
    simp
  | n, [a], b :: B, _ => by
    show _ ∈ plc l r n (a :: b :: B) ↔ _
    rw [pass1_one, plc, flat_clen]
    have f0 : (flat ([] : List Str)).length = 0 := rfl
    rw [f0]
    by_cases c : a = l ∧ b = r
    · obtain ⟨rfl, rfl⟩ := c
      rw [if_pos ⟨rfl, rfl⟩]
      exact ⟨fun _ => ⟨rfl, rfl⟩, fun _ => List.mem_cons_self⟩
    · rw [if_neg c]
      refine ⟨fun h => ?_, fun z => absurd ⟨Option.some.inj z.1, Option.some.inj z.2⟩ c⟩
      have := plc_ge l r _ _ _ h
      omega
  | n, a :: b :: t, B, _ => by
    by_cases c : a = l ∧ b = r
    · obtain ⟨rfl, rfl⟩ := c
      show _ ∈ plc a b n (a :: b :: (t ++ B)) ↔ _
      rw [plc, if_pos ⟨rfl, rfl⟩, pass1_yes, flat_clen, flat_clen]
      have e1 : n + (a.length + (b.length + (flat t).length)) = n + a.length + b.length + (flat t).length := by omega
      have ne1 : ¬ n + a.length + b.length + (flat t).length = n + a.length := by omega
      rw [e1]
      by_cases e : t = []
      · subst e
        rw [pass1_nil]
        refine ⟨fun h => ?_, fun z => absurd (Option.some.inj z.1) (app_ne hr)⟩
        rcases List.mem_cons.mp h with h | h
        · exact absurd h ne1
        · have := plc_ge a b _ _ _ h
          have f0 : (flat ([] : List Str)).length = 0 := rfl
          rw [f0] at this
          omega
      · rw [getLast_cons (pass1_ne a b t e), ← plc_app hl hr (n + a.length + b.length) t B e]
        exact ⟨fun h => (List.mem_cons.mp h).resolve_left ne1, fun h => List.mem_cons_of_mem _ h⟩
    · show _ ∈ plc l r n (a :: b :: (t ++ B)) ↔ _
      rw [plc, if_neg c, pass1_no t c, getLast_cons (pass1_ne l r (b :: t) (by simp)), ← plc_app hl hr (n + a.length) (b :: t) B (by simp), flat_clen]
      have e1 : n + (a.length + (flat (b :: t)).length) = n + a.length + (flat (b :: t)).length := by omega
      rw [e1]
      exact Iff.rfl
termination_by _ A => A.length
/-- where a border falls it is gone -/
theorem gone {l r : Str} (hl : 1 ≤ l.length) (hr : 1 ≤ r.length) {A B : List Str} (hA : A ≠ []) (h : (flat A).length ∈ plc l r 0 (A ++ B)) {Y Z : List Str} (e : pass1 l r (A ++ B) = Y ++ Z) : (flat Y).length ≠ (flat A).length := fun el => by
  obtain ⟨XA, XB, e1, e2, e3⟩ := pass1_split l r _ Y Z e
  have eA : (flat XA).length = (flat A).length := by rw [← el, ← e2, pass1_flat]
  have nX : XA ≠ [] := fun z => by
    have h2 := plc_ge l r 0 _ _ h
    rw [z] at eA
    have f0 : (flat ([] : List Str)).length = 0 := rfl
    rw [f0] at eA
    omega
  have h1 : 0 + (flat XA).length ∈ plc l r 0 (XA ++ XB) := by rw [Nat.zero_add, eA, ← e1]; exact h
  have c := (plc_app hl hr 0 XA XB nX).mp h1
  have p := pass1_app hr XA XB nX (l := l)
  rw [if_pos c, ← e1, e, ← e2, ← e3] at p
  have ne := pass1_ne l r XA nX
  have pl : 0 < (pass1 l r XA).length := List.length_pos_iff.mpr ne
  have z1 := congrArg (fun L : List Str => L[(pass1 l r XA).length - 1]?) p
  rw [List.getElem?_append_left (by omega), List.getElem?_append_right (by rw [List.length_dropLast]; omega), List.length_dropLast, Nat.sub_self] at z1
  rw [← List.getLast?_eq_getElem?, c.1] at z1
  have z2 : l = l ++ r := by simpa using z1
  exact app_ne hr z2.symm
/-- what is not fallen stays two rows side by side -/
theorem stays {l r : Str} (hl : 1 ≤ l.length) (hr : 1 ≤ r.length) {A B : List Str} (hA : A ≠ []) (h : ¬ (flat A).length ∈ plc l r 0 (A ++ B)) : pass1 l r (A ++ B) = pass1 l r A ++ pass1 l r B := by
  have e := plc_app hl hr 0 A B hA
  rw [Nat.zero_add] at e
  rw [pass1_app hr A B hA, if_neg (fun z => h (e.mpr z))]
/-- the rank at which the border at m falls -/
def metR : Nat → Rws → List Str → Nat → Option Nat
  | _, [], _, _ => none
  | k, q :: rs, X, m => if m ∈ plc q.1 q.2 0 X then some k else metR (k + 1) rs (pass1 q.1 q.2 X) m
def PosR (rs : Rws) : Prop := ∀ q ∈ rs, 1 ≤ q.1.length ∧ 1 ≤ q.2.length
theorem split_back {q : Str × Str} {rs : Rws} (hl : 1 ≤ q.1.length) (hr : 1 ≤ q.2.length) {A B : List Str} (hA : A ≠ []) (h : passAll (q :: rs) (A ++ B) = passAll (q :: rs) A ++ passAll (q :: rs) B) :
    ¬ (flat A).length ∈ plc q.1 q.2 0 (A ++ B) := fun c => by
  have h2 : passAll rs (pass1 q.1 q.2 (A ++ B)) = passAll rs (pass1 q.1 q.2 A) ++ passAll rs (pass1 q.1 q.2 B) := h
  obtain ⟨Y, Z, e1, e2, _⟩ := passAll_split rs _ _ _ h2
  refine gone hl hr hA c e1 ?_
  rw [← passAll_flat rs Y, e2, passAll_flat, pass1_flat]
theorem metR_none : ∀ (rs : Rws) (k : Nat) (A B : List Str), PosR rs → A ≠ [] → (metR k rs (A ++ B) (flat A).length = none ↔ passAll rs (A ++ B) = passAll rs A ++ passAll rs B)
  | [], _, A, B, _, _ => ⟨fun _ => rfl, fun _ => rfl⟩
  | q :: rs, k, A, B, hp, hA => by
    obtain ⟨hl, hr⟩ := hp q List.mem_cons_self
    unfold metR
    by_cases c : (flat A).length ∈ plc q.1 q.2 0 (A ++ B)
    · rw [if_pos c]
      exact ⟨fun z => (by cases z), fun z => absurd c (split_back hl hr hA z)⟩
    · rw [if_neg c, stays hl hr hA c]
      have ih := metR_none rs (k + 1) (pass1 q.1 q.2 A) (pass1 q.1 q.2 B) (fun x hx => hp x (List.mem_cons_of_mem _ hx)) (pass1_ne _ _ A hA)
      rw [pass1_flat] at ih
      rw [ih]
      show _ ↔ passAll rs (pass1 q.1 q.2 (A ++ B)) = _
      rw [stays hl hr hA c]
      exact Iff.rfl
/-- it falls by the neighbours alone -/
theorem metR_near : ∀ (rs : Rws) (k : Nat) (A1 A2 B1 B2 : List Str), PosR rs → A2 ≠ [] → B1 ≠ [] → passAll rs (A1 ++ A2) = passAll rs A1 ++ passAll rs A2 → passAll rs (B1 ++ B2) = passAll rs B1 ++ passAll rs B2 →
    metR k rs ((A1 ++ A2) ++ (B1 ++ B2)) (flat (A1 ++ A2)).length = metR k rs (A2 ++ B1) (flat A2).length
  | [], _, _, _, _, _, _, _, _, _, _ => rfl
  | q :: rs, k, A1, A2, B1, B2, hp, hA, hB, eA, eB => by
    obtain ⟨hl, hr⟩ := hp q List.mem_cons_self
    have sp : ∀ X Y : List Str, passAll (q :: rs) (X ++ Y) = passAll (q :: rs) X ++ passAll (q :: rs) Y → pass1 q.1 q.2 (X ++ Y) = pass1 q.1 q.2 X ++ pass1 q.1 q.2 Y := fun X Y e => by
      by_cases hX : X = []
      · subst hX
        rw [pass1_nil]; rfl
      · exact stays hl hr hX (split_back hl hr hX e)
    have e1 := sp A1 A2 eA
    have e2 := sp B1 B2 eB
    have n12 : A1 ++ A2 ≠ [] := fun z => hA (List.append_eq_nil_iff.mp z).2
    have cA := plc_app hl hr 0 (A1 ++ A2) (B1 ++ B2) n12
    have cB := plc_app hl hr 0 A2 B1 hA
    rw [Nat.zero_add] at cA cB
    have neA := pass1_ne q.1 q.2 A2 hA
    have gl : (pass1 q.1 q.2 (A1 ++ A2)).getLast? = (pass1 q.1 q.2 A2).getLast? := by
      rw [e1, List.getLast?_append]
      cases e : (pass1 q.1 q.2 A2).getLast? with
      | none => exact absurd (List.getLast?_eq_none_iff.mp e) neA
      | some x => rfl
    have hd : (B1 ++ B2).head? = B1.head? := by
      cases B1 with
      | nil => exact absurd rfl hB
      | cons x t => rfl
    rw [gl, hd, ← cB] at cA
    unfold metR
    by_cases c : (flat A2).length ∈ plc q.1 q.2 0 (A2 ++ B1)
    · rw [if_pos c, if_pos (cA.mpr c)]
    · have c2 := fun z => c (cA.mp z)
      rw [if_neg c, if_neg c2, stays hl hr n12 c2, stays hl hr hA c, e1, e2]
      have ih := metR_near rs (k + 1) (pass1 q.1 q.2 A1) (pass1 q.1 q.2 A2) (pass1 q.1 q.2 B1) (pass1 q.1 q.2 B2) (fun x hx => hp x (List.mem_cons_of_mem _ hx)) neA (pass1_ne _ _ B1 hB) (by rw [← e1]; exact eA) (by rw [← e2]; exact eB)
      rw [pass1_flat, ← e1, pass1_flat] at ih
      rw [← ih, e1]
/-- the joinings: rank and place of each border that falls -/
def jls : Nat → Rws → List Str → List (Nat × Nat)
  | _, [], _ => []
  | k, q :: rs, X => (plc q.1 q.2 0 X).map (fun m => (k, m)) ++ jls (k + 1) rs (pass1 q.1 q.2 X)
theorem metR_find : ∀ (rs : Rws) (k : Nat) (X : List Str) (m : Nat), metR k rs X m = ((jls k rs X).find? fun x => x.2 == m).map (·.1)
  | [], _, _, _ => rfl
  | q :: rs, k, X, m => by
    unfold metR jls
    rw [List.find?_append]
    by_cases c : m ∈ plc q.1 q.2 0 X
    · rw [if_pos c]
      have : ((plc q.1 q.2 0 X).map (fun m => (k, m))).find? (fun x => x.2 == m) = some (k, m) := by
        rw [List.find?_map]
        have : (plc q.1 q.2 0 X).find? ((fun x : Nat × Nat => x.2 == m) ∘ fun m => (k, m)) = some m := by
          generalize plc q.1 q.2 0 X = L at c
          induction L with
          | nil => cases c
          | cons a t ih =>
            by_cases e : a = m
            · subst e; simp
            · rw [List.find?_cons_of_neg (by simpa using e)]
              exact ih ((List.mem_cons.mp c).resolve_left (fun z => e z.symm))
        rw [this]; rfl
      rw [this]; rfl
    · rw [if_neg c]
      have : ((plc q.1 q.2 0 X).map (fun m => (k, m))).find? (fun x => x.2 == m) = none := by
        rw [List.find?_eq_none]
        intro x hx
        obtain ⟨y, hy, rfl⟩ := List.mem_map.mp hx
        simp only [beq_iff_eq]
        exact fun z => c (z ▸ hy)
      rw [this, metR_find rs (k + 1) _ m]; rfl
end Jr
namespace Jr
open PySem PySem.Spec PyProof.Rows L2
theorem jls_take : ∀ (rs : Rws) (k i : Nat) (X : List Str) (q : Str × Str), rs[i]? = some q → jls k (rs.take (i + 1)) X = jls k (rs.take i) X ++ (plc q.1 q.2 0 (passAll (rs.take i) X)).map (fun m => (k + i, m))
  | [], _, _, _, _, h => by simp at h
  | p :: rs, k, 0, X, q, h => by
    have e : p = q := Option.some.inj h
    subst e
    show (plc p.1 p.2 0 X).map (fun m => (k, m)) ++ jls (k + 1) (rs.take 0) _ = _
    rw [List.take_zero]
    show (plc p.1 p.2 0 X).map (fun m => (k, m)) ++ [] = [] ++ _
    rw [List.append_nil, List.nil_append]; rfl
  | p :: rs, k, i + 1, X, q, h => by
    have h2 : rs[i]? = some q := h
    have ih := jls_take rs (k + 1) i (pass1 p.1 p.2 X) q h2
    show (plc p.1 p.2 0 X).map (fun m => (k, m)) ++ jls (k + 1) (rs.take (i + 1)) (pass1 p.1 p.2 X) = ((plc p.1 p.2 0 X).map (fun m => (k, m)) ++ jls (k + 1) (rs.take i) (pass1 p.1 p.2 X)) ++ _
    rw [ih, List.append_assoc]
    have e : k + 1 + i = k + (i + 1) := by omega
    rw [e]; rfl
theorem plc_lt (l r : Str) : ∀ (n : Nat) (X : List Str) (m : Nat), m ∈ plc l r n X → m ≤ n + (flat X).length
  | n, [], m, h => by unfold plc at h; cases h
  | n, [a], m, h => by unfold plc at h; cases h
  | n, a :: b :: t, m, h => by
    rw [plc] at h
    rw [flat_clen, flat_clen]
    by_cases c : a = l ∧ b = r
    · rw [if_pos c] at h
      rcases List.mem_cons.mp h with e | e
      · omega
      · have := plc_lt l r _ t m e
        omega
    · rw [if_neg c] at h
      have := plc_lt l r _ (b :: t) m h
      rw [flat_clen] at this
      omega
termination_by _ X => X.length
/-- all borders that fall are as many as the pieces become less -/
theorem plc_count (l r : Str) : ∀ (n : Nat) (X : List Str), (plc l r n X).length + (pass1 l r X).length = X.length
  | n, [] => by rw [pass1_nil]; unfold plc; rfl
  | n, [a] => by rw [pass1_one]; unfold plc; rfl
  | n, a :: b :: t => by
    rw [plc]
    by_cases c : a = l ∧ b = r
    · rw [if_pos c]
      obtain ⟨rfl, rfl⟩ := c
      rw [pass1_yes]
      have := plc_count a b (n + a.length + b.length) t
      simp only [List.length_cons]
      omega
    · rw [if_neg c, pass1_no t c]
      have := plc_count l r (n + a.length) (b :: t)
      simp only [List.length_cons] at this ⊢
      omega
termination_by _ X => X.length
theorem jls_count : ∀ (rs : Rws) (k : Nat) (X : List Str), (jls k rs X).length + (passAll rs X).length = X.length
  | [], _, X => by show 0 + X.length = X.length; omega
  | q :: rs, k, X => by
    have h1 := plc_count q.1 q.2 0 X
    have h2 := jls_count rs (k + 1) (pass1 q.1 q.2 X)
    show ((plc q.1 q.2 0 X).map (fun m => (k, m)) ++ jls (k + 1) rs (pass1 q.1 q.2 X)).length + (passAll rs (pass1 q.1 q.2 X)).length = X.length
    rw [List.length_append, List.length_map]
    omega
end Jr
namespace Jr
open PySem PySem.Spec PyProof.Rows L2
/-! ### meets, of texts -/
theorem sgs_app (a b : Str) : sgs (a ++ b) = sgs a ++ sgs b := by
  unfold sgs
  rw [app_cps, List.map_append]
theorem flat_sgs_len (a : Str) : (flat (sgs a)).length = a.length := by rw [flat_sgs, len_cps]
theorem TabOk.pos {z : Str} {rs : Rws} (T : TabOk z rs) : PosR rs := fun q hq => by
  obtain ⟨i, hi, e⟩ := List.mem_iff_getElem.mp hq
  have ro := T.rows i q (by rw [List.getElem?_eq_getElem hi, e])
  exact ⟨((T.take i).plen ro.lm).1, ((T.take i).plen ro.rm).1⟩
theorem metR_zero : ∀ (rs : Rws) (k : Nat) (X : List Str), PosR rs → metR k rs X 0 = none
  | [], _, _, _ => rfl
  | q :: rs, k, X, hp => by
    unfold metR
    rw [if_neg, metR_zero rs (k + 1) _ fun x hx => hp x (List.mem_cons_of_mem _ hx)]
    intro h
    have := plc_ge q.1 q.2 0 X 0 h
    have := (hp q List.mem_cons_self).1
    omega
theorem sgs_nil {a : Str} (h : sgs a = []) : a.length = 0 := by rw [← sgs_len, h]; rfl
theorem meet_iff {z : Str} {rs : Rws} (T : TabOk z rs) (a b : Str) : metR 0 rs (sgs (a ++ b)) a.length = none ↔ sweep rs (a ++ b) = sweep rs a ++ sweep rs b := by
  unfold sweep
  rw [sgs_app]
  by_cases h : sgs a = []
  · rw [sgs_nil h, h, metR_zero rs 0 _ T.pos]
    refine ⟨fun _ => ?_, fun _ => rfl⟩
    have : ∀ rs : Rws, passAll rs [] = [] := fun rs => by
      have := passAll_len rs []
      exact List.eq_nil_of_length_eq_zero (by simpa using this)
    rw [this]; rfl
  · rw [← flat_sgs_len a]
    exact metR_none rs 0 (sgs a) (sgs b) T.pos h
theorem meet_near {z : Str} {rs : Rws} (T : TabOk z rs) {o1 o2 a b : Str} (ha : (sweep rs o1).getLast? = some a) (hb : (sweep rs o2).head? = some b) :
    metR 0 rs (sgs (a ++ b)) a.length = metR 0 rs (sgs (o1 ++ o2)) o1.length := by
  obtain ⟨A', eA⟩ : ∃ A', sweep rs o1 = A' ++ [a] := by
    obtain ⟨ys, e⟩ := List.getLast?_eq_some_iff.mp ha
    exact ⟨ys, e⟩
  obtain ⟨B', eB⟩ : ∃ B', sweep rs o2 = [b] ++ B' := by
    cases e : sweep rs o2 with
    | nil => rw [e] at hb; cases hb
    | cons x t =>
      rw [e] at hb
      have : x = b := Option.some.inj hb
      rw [this]
      exact ⟨t, rfl⟩
  obtain ⟨ca, cb, e1, e2, e3⟩ := way_split eA
  obtain ⟨da, db, f1, f2, f3⟩ := way_split eB
  have g1 : sgs o1 = ca.map sgn ++ sgs a := by
    rw [← sgs_back e3]
    unfold sgs
    rw [e1, List.map_append]
  have g2 : sgs o2 = sgs b ++ db.map sgn := by
    rw [← sgs_back f2]
    unfold sgs
    rw [f1, List.map_append]
  rw [sgs_back e3] at e3
  rw [sgs_back f2] at f2
  have na : sgs a ≠ [] := fun z => by
    have := passAll_len rs (sgs a)
    rw [e3, z] at this
    simp at this
  have nb : sgs b ≠ [] := fun z => by
    have := passAll_len rs (sgs b)
    rw [f2, z] at this
    simp at this
  have k1 : passAll rs (ca.map sgn ++ sgs a) = passAll rs (ca.map sgn) ++ passAll rs (sgs a) := by
    rw [← g1, e2, e3]; exact eA
  have k2 : passAll rs (sgs b ++ db.map sgn) = passAll rs (sgs b) ++ passAll rs (db.map sgn) := by
    rw [← g2, f2, f3]; exact eB
  have m := metR_near rs 0 (ca.map sgn) (sgs a) (sgs b) (db.map sgn) T.pos na nb k1 k2
  rw [← g1, ← g2, flat_sgs_len, flat_sgs_len, ← sgs_app, ← sgs_app] at m
  exact m.symm
end Jr
namespace Jr
open PySem PySem.Spec PyProof.Rows L2
/-! ### edges -/
def sdr (side : Nat) (r : Str × Str) : Str := if side = 0 then r.1 else r.2
inductive Edge (rs : Rws) (side : Nat) : Str → List Str → Prop
  | one {p : Str} : (∀ r ∈ rs, ¬ jn r = p) → Edge rs side p [p]
  | more {p : Str} {r : Str × Str} {es : List Str} : r ∈ rs → jn r = p → Edge rs side (sdr side r) es → Edge rs side p (p :: es)
theorem jn_inj {z : Str} {rs : Rws} (T : TabOk z rs) {r s : Str × Str} (hr : r ∈ rs) (hs : s ∈ rs) (e : jn r = jn s) : r = s := by
  have nd := (List.nodup_append.mp T.nodup).2.1
  obtain ⟨i, hi, ei⟩ := List.mem_iff_getElem.mp hr
  obtain ⟨j, hj, ej⟩ := List.mem_iff_getElem.mp hs
  have hij : i = j := by
    have h1 : i < (rs.map jn).length := by rw [List.length_map]; exact hi
    have h2 : j < (rs.map jn).length := by rw [List.length_map]; exact hj
    have ee : (rs.map jn)[i] = (rs.map jn)[j] := by rw [List.getElem_map, List.getElem_map, ei, ej, e]
    rcases Nat.lt_trichotomy i j with h | h | h
    · exact absurd ee (List.pairwise_iff_getElem.mp nd i j h1 h2 h)
    · exact h
    · exact absurd ee.symm (List.pairwise_iff_getElem.mp nd j i h2 h1 h)
  subst hij
  rw [← ei, ← ej]
theorem Edge.unique {z : Str} {rs : Rws} (T : TabOk z rs) {side : Nat} {p : Str} {es fs : List Str} (h : Edge rs side p es) : Edge rs side p fs → es = fs := by
  induction h generalizing fs with
  | one n =>
    intro h2
    cases h2 with
    | one _ => rfl
    | more hr e _ => exact absurd e (n _ hr)
  | more hr e _ ih =>
    intro h2
    cases h2 with
    | one n => exact absurd e (n _ hr)
    | more hr2 e2 q =>
      have := jn_inj T hr hr2 (e.trans e2.symm)
      subst this
      rw [ih q]
theorem Edge.asc {z : Str} {rs : Rws} (T : TabOk z rs) {side : Nat} {p : Str} {es : List Str} (h : Edge rs side p es) (hp : p ∈ pcs z rs) : ∀ x ∈ es, Asc x := by
  induction h with
  | one _ =>
    intro x hx
    rw [List.mem_singleton.mp hx]
    exact T.asc hp
  | @more p r es hr e _ ih =>
    have hs : sdr side r ∈ pcs z rs := by
      obtain ⟨i, hi, ei⟩ := List.mem_iff_getElem.mp hr
      have ro := T.rows i r (by rw [List.getElem?_eq_getElem hi, ei])
      have up : ∀ q, q ∈ pcs z (rs.take i) → q ∈ pcs z rs := fun q hq => by
        unfold pcs at hq ⊢
        rcases List.mem_append.mp hq with h | h
        · exact List.mem_append_left _ h
        · obtain ⟨s, hs, rfl⟩ := List.mem_map.mp h
          exact List.mem_append_right _ (List.mem_map.mpr ⟨s, List.mem_of_mem_take hs, rfl⟩)
      unfold sdr
      split
      · exact up _ ro.lm
      · exact up _ ro.rm
    intro x hx
    rcases List.mem_cons.mp hx with e2 | e2
    · rw [e2]; exact T.asc hp
    · exact ih hs x e2
theorem part_in {z : Str} {rs : Rws} (T : TabOk z rs) {side : Nat} {r : Str × Str} (hr : r ∈ rs) : sdr side r ∈ pcs z rs ∧ (sdr side r).length < (jn r).length := by
  obtain ⟨i, hi, ei⟩ := List.mem_iff_getElem.mp hr
  have ro := T.rows i r (by rw [List.getElem?_eq_getElem hi, ei])
  have up : ∀ q, q ∈ pcs z (rs.take i) → q ∈ pcs z rs := fun q hq => by
    unfold pcs at hq ⊢
    rcases List.mem_append.mp hq with h | h
    · exact List.mem_append_left _ h
    · obtain ⟨s, hs, rfl⟩ := List.mem_map.mp h
      exact List.mem_append_right _ (List.mem_map.mpr ⟨s, List.mem_of_mem_take hs, rfl⟩)
  have l1 := (T.take i).plen ro.lm
  have l2 := (T.take i).plen ro.rm
  have le : (jn r).length = r.1.length + r.2.length := app_len _ _
  unfold sdr
  split
  · exact ⟨up _ ro.lm, by omega⟩
  · exact ⟨up _ ro.rm, by omega⟩
theorem no_row {z : Str} {rs : Rws} (T : TabOk z rs) {p : Str} (h : p ∈ sgs z) : ∀ r ∈ rs, ¬ jn r = p := fun r hr e => by
  have nd := (List.nodup_append.mp T.nodup).2.2
  exact nd p h (jn r) (List.mem_map.mpr ⟨r, hr, rfl⟩) e.symm
theorem row_of {z : Str} {rs : Rws} {p : Str} (h : p ∈ pcs z rs) : p ∈ sgs z ∨ ∃ (j : Nat) (r : Str × Str), rs[j]? = some r ∧ jn r = p := by
  rcases List.mem_append.mp h with h | h
  · exact .inl h
  · obtain ⟨r, hr, e⟩ := List.mem_map.mp h
    obtain ⟨j, hj, ej⟩ := List.mem_iff_getElem.mp hr
    exact .inr ⟨j, r, by rw [List.getElem?_eq_getElem hj, ej], e⟩
/-! ### the law's dict of the rows by what they make -/
def madeD : List Addr → Rws → List (Key × V)
  | a :: as, r :: rs => (Sum.inr (jn r), V.ref a) :: madeD as rs
  | _, _ => []
theorem made_none : ∀ {as : List Addr} {rs : Rws} {p : Str}, (∀ r ∈ rs, ¬ jn r = p) → valV (madeD as rs) (Sum.inr p) = none
  | [], _, _, _ => by unfold madeD; rfl
  | _ :: _, [], _, _ => by unfold madeD; rfl
  | a :: as, r :: rs, p, h => by
    have h1 : ¬ (Sum.inr (jn r) : Key) = Sum.inr p := fun e => h r List.mem_cons_self (Sum.inr.inj e)
    exact (valV_neg (p := (Sum.inr (jn r), V.ref a)) h1).trans (made_none fun s hs => h s (List.mem_cons_of_mem _ hs))
theorem made_at {F : Addr → Str × Str → Prop} : ∀ {as : List Addr} {rs : Rws} {j : Nat} {r : Str × Str}, Paired F as rs → (rs.map jn).Nodup → rs[j]? = some r → ∃ a, valV (madeD as rs) (Sum.inr (jn r)) = some (V.ref a) ∧ F a r
  | _, _, _, _, .nil, _, h => by simp at h
  | a :: as, q :: rs, 0, r, .cons hF _, _, h => by
    have e : q = r := Option.some.inj h
    subst e
    exact ⟨a, valV_pos (p := ((Sum.inr (jn q) : Key), V.ref a)) rfl, hF⟩
  | a :: as, q :: rs, j + 1, r, .cons _ hq, nd, h => by
    have nd' := List.nodup_cons.mp nd
    have hm : r ∈ rs := List.mem_of_getElem? (show rs[j]? = some r from h)
    have h1 : ¬ (Sum.inr (jn q) : Key) = Sum.inr (jn r) := fun e => nd'.1 (by
      have e2 : jn q = jn r := Sum.inr.inj e
      show jn q ∈ rs.map jn
      rw [e2]; exact List.mem_map.mpr ⟨r, hm, rfl⟩)
    obtain ⟨b, hb, hF⟩ := made_at (j := j) hq nd'.2 h
    exact ⟨b, (valV_neg (p := (Sum.inr (jn q), V.ref a)) h1).trans hb, hF⟩
theorem madeD_snoc : ∀ {as : List Addr} {rs : Rws} {a : Addr} {r : Str × Str}, as.length = rs.length → madeD (as ++ [a]) (rs ++ [r]) = madeD as rs ++ [(Sum.inr (jn r), V.ref a)]
  | [], [], _, _, _ => rfl
  | [], _ :: _, _, _, h => by simp at h
  | _ :: _, [], _, _, h => by simp at h
  | b :: as, q :: rs, a, r, h => by
    show _ :: madeD (as ++ [a]) (rs ++ [r]) = _ :: (madeD as rs ++ _)
    rw [madeD_snoc (by simpa using h)]
theorem madeD_len : ∀ {as : List Addr} {rs : Rws}, as.length = rs.length → (madeD as rs).length = rs.length
  | [], [], _ => rfl
  | [], _ :: _, h => by simp at h
  | _ :: _, [], h => by simp at h
  | b :: as, q :: rs, h => by show (madeD as rs).length + 1 = _; rw [madeD_len (by simpa using h)]; rfl
def MadeAt (H : Hp) (d : Addr) (rs : Rws) : Prop := ∃ as : List Addr, H d = some (.dK (madeD as rs)) ∧ Paired (TupAt H) as rs
theorem MadeAt.same {H H' : Hp} {d : Addr} {rs : Rws} (h : MadeAt H d rs) (s : Same H H') : MadeAt H' d rs := by
  obtain ⟨as, e, p⟩ := h
  exact ⟨as, s _ _ e, TupAt.same s p⟩
theorem at_side {l r : Str} {side : Nat} (h : side < 2) : atI [V.str l, V.str r] (side : Int) = some (V.str (sdr side (l, r))) := by
  have hs : side = 0 ∨ side = 1 := by omega
  rcases hs with rfl | rfl
  · exact ats rfl
  · exact ats rfl
end Jr
namespace Jr
open PySem PySem.Spec PyProof.Rows L2
/-! ### edges with their ends, and what meets by them -/
/-- the edge of a piece, each piece with the rank by which it goes into the piece ahead of it; the first one's is told -/
inductive EdgeE (rs : Rws) (side : Nat) : Nat → Str → List (Str × Nat) → Prop
  | one {e : Nat} {p : Str} : (∀ r ∈ rs, ¬ jn r = p) → EdgeE rs side e p [(p, e)]
  | more {e j : Nat} {p : Str} {r : Str × Str} {es : List (Str × Nat)} : rs[j]? = some r → jn r = p → EdgeE rs side j (sdr side r) es → EdgeE rs side e p ((p, e) :: es)
theorem pcs_take {z : Str} {rs : Rws} {i j : Nat} (h : i ≤ j) {p : Str} (hp : p ∈ pcs z (rs.take i)) : p ∈ pcs z (rs.take j) := by
  unfold pcs at hp ⊢
  rcases List.mem_append.mp hp with h1 | h1
  · exact List.mem_append_left _ h1
  · obtain ⟨s, hs, rfl⟩ := List.mem_map.mp h1
    refine List.mem_append_right _ (List.mem_map.mpr ⟨s, ?_, rfl⟩)
    have e : rs.take i = (rs.take j).take i := by rw [List.take_take, Nat.min_eq_left h]
    rw [e] at hs
    exact List.mem_of_mem_take hs
theorem pcs_take_all {z : Str} {rs : Rws} {i : Nat} {p : Str} (hp : p ∈ pcs z (rs.take i)) : p ∈ pcs z rs := by
  have := pcs_take (j := max i rs.length) (Nat.le_max_left ..) hp
  rw [List.take_of_length_le (Nat.le_max_right ..)] at this
  exact this
theorem pcs_row {z : Str} {rs : Rws} {j k : Nat} {r : Str × Str} (h : rs[j]? = some r) (hk : j < k) : jn r ∈ pcs z (rs.take k) :=
  List.mem_append_right _ (List.mem_map.mpr ⟨r, List.mem_of_getElem? (show (rs.take k)[j]? = some r by rw [List.getElem?_take, if_pos hk, h]), rfl⟩)
/-- where a piece that a row makes is a piece already, the row is ahead -/
theorem row_lt {z : Str} {rs : Rws} (T : TabOk z rs) {j k : Nat} {r : Str × Str} (h : rs[j]? = some r) (hp : jn r ∈ pcs z (rs.take k)) : j < k := by
  by_cases c : j < k
  · exact c
  · exact absurd (pcs_take (show k ≤ j by omega) hp) (T.rows j r h).new
theorem sdr_in {z : Str} {rs : Rws} (T : TabOk z rs) {side j : Nat} {r : Str × Str} (h : rs[j]? = some r) : sdr side r ∈ pcs z (rs.take j) := by
  have ro := T.rows j r h
  unfold sdr
  split
  · exact ro.lm
  · exact ro.rm
theorem EdgeE.le {z : Str} {rs : Rws} (T : TabOk z rs) {side e : Nat} {p : Str} {es : List (Str × Nat)} (h : EdgeE rs side e p es) : p ∈ pcs z (rs.take e) → ∀ x ∈ es, x.2 ≤ e := by
  induction h with
  | one _ =>
    intro _ x hx
    rw [List.mem_singleton.mp hx]
    exact Nat.le_refl _
  | @more e j p r es hj ej _ ih =>
    intro hp x hx
    have lt : j < e := row_lt T hj (by rw [ej]; exact hp)
    rcases List.mem_cons.mp hx with e2 | e2
    · rw [e2]; exact Nat.le_refl _
    · exact Nat.le_trans (ih (sdr_in T hj) x e2) (Nat.le_of_lt lt)
/-- ahead of the row that makes it, a piece that stands alone is its two parts, each by itself -/
theorem alone_parts {z : Str} {rs : Rws} (T : TabOk z rs) {j : Nat} {r : Str × Str} (hj : rs[j]? = some r) (ha : sweep rs (jn r) = [jn r]) :
    passAll (rs.take j) (sgs (jn r)) = [r.1, r.2] := by
  have ro := T.rows j _ hj
  have l1 := ((T.take j).plen ro.lm).1
  have l2 := ((T.take j).plen ro.rm).1
  have la : (jn r).length = r.1.length + r.2.length := app_len _ _
  have h' : passAll (rs.take rs.length) (sgs (jn r)) = [jn r] := by rw [List.take_length]; exact ha
  obtain ⟨i, q, h1, _, h2, h3⟩ := made_by (by omega) rs.length (Nat.le_refl _) h'
  have e : j = i := T.jn_inj hj h1 h3.symm
  subst e
  rw [hj] at h1
  cases h1
  exact h2
theorem alone_ahead {z : Str} {rs : Rws} (T : TabOk z rs) {j k : Nat} {r : Str × Str} (hj : rs[j]? = some r) (ha : sweep rs (jn r) = [jn r]) (hk : k ≤ j) :
    passAll (rs.take k) (sgs (jn r)) = passAll (rs.take k) (sgs r.1) ++ passAll (rs.take k) (sgs r.2) := by
  have h := alone_parts T hj ha
  rw [passAll_cut (rs.take j) k, List.take_take, Nat.min_eq_left hk] at h
  obtain ⟨YA, YB, e1, e2, e3⟩ := passAll_split _ _ [r.1] [r.2] h
  obtain ⟨ca, cb, f1, f2, f3⟩ := way_split e1
  have g1 : passAll (rs.take j) (ca.map sgn) = [r.1] := by rw [passAll_cut (rs.take j) k, List.take_take, Nat.min_eq_left hk, f2, e2]
  have g2 : passAll (rs.take j) (cb.map sgn) = [r.2] := by rw [passAll_cut (rs.take j) k, List.take_take, Nat.min_eq_left hk, f3, e3]
  rw [e1, ← sgs_back g1, ← sgs_back g2, f2, f3]
theorem alone_behind {z : Str} {rs : Rws} (T : TabOk z rs) {j k : Nat} {r : Str × Str} (hj : rs[j]? = some r) (ha : sweep rs (jn r) = [jn r]) (hk : j < k) :
    passAll (rs.take k) (sgs (jn r)) = [jn r] := by
  have h := passAll_take (sgs (jn r)) hj
  rw [alone_parts T hj ha, pass1_yes, pass1_nil] at h
  have e : rs.take (j + 1) = (rs.take k).take (j + 1) := by rw [List.take_take, Nat.min_eq_left hk]
  rw [passAll_cut (rs.take k) (j + 1), ← e, h]
  exact passAll_one _ _
def endOf (side : Nat) (xs : List Str) : Option Str := if side = 0 then xs.head? else xs.getLast?
theorem endOf_one (side : Nat) (x : Str) : endOf side [x] = some x := by unfold endOf; split <;> rfl
theorem passAll_ne' : ∀ (rs : Rws) (xs : List Str), xs ≠ [] → passAll rs xs ≠ []
  | [], _, h => h
  | r :: rs, xs, h => passAll_ne' rs _ (pass1_ne r.1 r.2 xs h)
theorem endOf_app (side : Nat) {A B : List Str} (hA : A ≠ []) (hB : B ≠ []) : endOf side (A ++ B) = endOf side (if side = 0 then A else B) := by
  unfold endOf
  by_cases c : side = 0
  · rw [if_pos c, if_pos c, if_pos c]
    cases A with
    | nil => exact absurd rfl hA
    | cons x t => rfl
  · rw [if_neg c, if_neg c, if_neg c, List.getLast?_append]
    cases e : B.getLast? with
    | none => exact absurd (List.getLast?_eq_none_iff.mp e) hB
    | some x => rfl
theorem sgs_ne {p : Str} (h : 1 ≤ p.length) : sgs p ≠ [] := fun e => by
  have := sgs_len p
  rw [e] at this
  simp at this
  omega
theorem sgs_sign {z p : Str} (h : p ∈ sgs z) : sgs p = [p] := by
  obtain ⟨c, _, rfl⟩ := List.mem_map.mp h
  rfl
/-- what stands at the edge on the way -/
theorem edge_at {z : Str} {rs : Rws} (T : TabOk z rs) {side e : Nat} {p : Str} {es : List (Str × Nat)} (h : EdgeE rs side e p es) : sweep rs p = [p] → p ∈ pcs z (rs.take e) → e ≤ rs.length →
    ∀ k, k ≤ e → ∀ x, endOf side (passAll (rs.take k) (sgs p)) = some x ↔ ∃ e', (x, e') ∈ es ∧ k ≤ e' ∧ x ∈ pcs z (rs.take k) := by
  induction h with
  | @one e p hn =>
    intro _ hp he k hk x
    have hs : p ∈ sgs z := by
      rcases List.mem_append.mp hp with h | h
      · exact h
      · obtain ⟨r, hr, e2⟩ := List.mem_map.mp h
        exact absurd e2 (hn r (List.mem_of_mem_take hr))
    rw [sgs_sign hs, passAll_one, endOf_one]
    constructor
    · intro h2
      cases h2
      exact ⟨e, List.mem_singleton.mpr rfl, hk, List.mem_append_left _ hs⟩
    · rintro ⟨e', h2, _, _⟩
      have := List.mem_singleton.mp h2
      rw [(Prod.mk.inj this).1]
  | @more e j p r es hj ej he ih =>
    intro ha hp hle k hk x
    subst ej
    have lt : j < e := row_lt T hj hp
    have ro := T.rows j r hj
    obtain ⟨a1, a2⟩ := parts_alone T (l := r.1) (r := r.2) hj ha
    have hsd : sdr side r ∈ pcs z (rs.take j) := sdr_in T hj
    have asd : sweep rs (sdr side r) = [sdr side r] := by
      unfold sdr
      split
      · exact a1
      · exact a2
    have ih' := ih asd hsd (by omega)
    by_cases c : k ≤ j
    · rw [alone_ahead T hj ha c, endOf_app side (passAll_ne' _ _ (sgs_ne ((T.take j).plen ro.lm).1)) (passAll_ne' _ _ (sgs_ne ((T.take j).plen ro.rm).1))]
      have e2 : (if side = 0 then passAll (rs.take k) (sgs r.1) else passAll (rs.take k) (sgs r.2)) = passAll (rs.take k) (sgs (sdr side r)) := by
        unfold sdr
        by_cases c2 : side = 0
        · rw [if_pos c2, if_pos c2]
        · rw [if_neg c2, if_neg c2]
      rw [e2, ih' k c x]
      constructor
      · rintro ⟨e', h1, h2, h3⟩
        exact ⟨e', List.mem_cons_of_mem _ h1, h2, h3⟩
      · rintro ⟨e', h1, h2, h3⟩
        rcases List.mem_cons.mp h1 with h4 | h4
        · rw [(Prod.mk.inj h4).1] at h3
          exact absurd (pcs_take c h3) ro.new
        · exact ⟨e', h4, h2, h3⟩
    · rw [alone_behind T hj ha (by omega), endOf_one]
      constructor
      · intro h2
        cases h2
        exact ⟨e, List.mem_cons_self, hk, pcs_row hj (by omega)⟩
      · rintro ⟨e', h1, h2, h3⟩
        rcases List.mem_cons.mp h1 with h4 | h4
        · rw [(Prod.mk.inj h4).1]
        · have := he.le T hsd _ h4
          have : e' ≤ j := this
          omega
/-- the border falls by rank k -/
def fallsAt (rs : Rws) (es fs : List (Str × Nat)) (k : Nat) : Bool :=
  match rs[k]? with
  | some q => es.any (fun x => decide (x.1 = q.1) && decide (k < x.2)) && fs.any (fun x => decide (x.1 = q.2) && decide (k ≤ x.2))
  | none => false
theorem any_edge {es : List (Str × Nat)} {l : Str} {k : Nat} : (es.any (fun x => decide (x.1 = l) && decide (k ≤ x.2)) = true) ↔ ∃ e, (l, e) ∈ es ∧ k ≤ e := by
  rw [List.any_eq_true]
  constructor
  · rintro ⟨⟨x, e⟩, h1, h2⟩
    rw [Bool.and_eq_true, decide_eq_true_eq, decide_eq_true_eq] at h2
    obtain ⟨h3, h4⟩ := h2
    have h3 : x = l := h3
    subst h3
    exact ⟨e, h1, h4⟩
  · rintro ⟨e, h1, h2⟩
    exact ⟨(l, e), h1, by rw [Bool.and_eq_true, decide_eq_true_eq, decide_eq_true_eq]; exact ⟨rfl, h2⟩⟩
theorem meet_from {z : Str} {rs : Rws} (T : TabOk z rs) {a b : Str} {es fs : List (Str × Nat)} (ha : sweep rs a = [a]) (hb : sweep rs b = [b]) (pa : a ∈ pcs z rs) (pb : b ∈ pcs z rs)
    (hes : EdgeE rs 1 rs.length a es) (hfs : EdgeE rs 0 rs.length b fs) : ∀ n k, k + n = rs.length →
    metR k (rs.drop k) (passAll (rs.take k) (sgs a) ++ passAll (rs.take k) (sgs b)) a.length = (List.range' k n).find? (fallsAt rs es fs)
  | 0, k, h => by
    rw [List.drop_of_length_le (by omega)]
    rfl
  | n + 1, k, h => by
    have hk : k < rs.length := by omega
    have hx : rs[k]? = some rs[k] := List.getElem?_eq_getElem hk
    have ro := T.rows k _ hx
    have l1 := ((T.take k).plen ro.lm).1
    have l2 := ((T.take k).plen ro.rm).1
    have nA : passAll (rs.take k) (sgs a) ≠ [] := passAll_ne' _ _ (sgs_ne (T.plen pa).1)
    have fA : (flat (passAll (rs.take k) (sgs a))).length = a.length := by rw [passAll_flat, flat_sgs_len]
    rw [List.drop_eq_getElem_cons hk]
    unfold metR
    have pc := plc_app l1 l2 0 (passAll (rs.take k) (sgs a)) (passAll (rs.take k) (sgs b)) nA
    rw [Nat.zero_add, fA, ← passAll_take _ hx] at pc
    have tk : rs.take rs.length = rs := List.take_length
    have E1 := edge_at T hes ha (by rw [tk]; exact pa) (Nat.le_refl _) (k + 1) (by omega) rs[k].1
    have E2 := edge_at T hfs hb (by rw [tk]; exact pb) (Nat.le_refl _) k (by omega) rs[k].2
    have E1' : endOf 1 (passAll (rs.take (k + 1)) (sgs a)) = (passAll (rs.take (k + 1)) (sgs a)).getLast? := rfl
    have E2' : endOf 0 (passAll (rs.take k) (sgs b)) = (passAll (rs.take k) (sgs b)).head? := rfl
    rw [E1'] at E1
    rw [E2'] at E2
    have F : (a.length ∈ plc rs[k].1 rs[k].2 0 (passAll (rs.take k) (sgs a) ++ passAll (rs.take k) (sgs b))) ↔ fallsAt rs es fs k = true := by
      rw [pc, E1, E2]
      unfold fallsAt
      rw [hx]
      simp only []
      rw [Bool.and_eq_true]
      have q1 := any_edge (es := es) (l := rs[k].1) (k := k + 1)
      have q2 := any_edge (es := fs) (l := rs[k].2) (k := k)
      refine and_congr ?_ ?_
      · refine Iff.trans ?_ q1.symm
        exact ⟨fun ⟨e, h1, h2, _⟩ => ⟨e, h1, h2⟩, fun ⟨e, h1, h2⟩ => ⟨e, h1, h2, pcs_take (Nat.le_succ k) ro.lm⟩⟩
      · refine Iff.trans ?_ q2.symm
        exact ⟨fun ⟨e, h1, h2, _⟩ => ⟨e, h1, h2⟩, fun ⟨e, h1, h2⟩ => ⟨e, h1, h2, ro.rm⟩⟩
    rw [List.range'_succ]
    by_cases c : a.length ∈ plc rs[k].1 rs[k].2 0 (passAll (rs.take k) (sgs a) ++ passAll (rs.take k) (sgs b))
    · rw [if_pos c, List.find?_cons_of_pos (F.mp c)]
    · rw [if_neg c, List.find?_cons_of_neg (fun q => c (F.mpr q))]
      have st := stays l1 l2 nA (by rw [fA]; exact c)
      rw [st, ← passAll_take _ hx, ← passAll_take _ hx]
      exact meet_from T ha hb pa pb hes hfs n (k + 1) (by omega)
/-- meets, by the edges -/
theorem meet_edges {z : Str} {rs : Rws} (T : TabOk z rs) {a b : Str} {es fs : List (Str × Nat)} (ha : sweep rs a = [a]) (hb : sweep rs b = [b]) (pa : a ∈ pcs z rs) (pb : b ∈ pcs z rs)
    (hes : EdgeE rs 1 rs.length a es) (hfs : EdgeE rs 0 rs.length b fs) : metR 0 rs (sgs (a ++ b)) a.length = (List.range rs.length).find? (fallsAt rs es fs) := by
  have h := meet_from T ha hb pa pb hes hfs rs.length 0 (by omega)
  rw [List.drop_zero, List.take_zero] at h
  rw [sgs_app, List.range_eq_range']
  exact h
theorem metR_cons (r : Str × Str) (p : Rws) (k : Nat) (X : List Str) (m : Nat) : metR k (r :: p) X m = if m ∈ plc r.1 r.2 0 X then some k else metR (k + 1) p (pass1 r.1 r.2 X) m := rfl
theorem metR_app : ∀ (p q : Rws) (k : Nat) (X : List Str) (m : Nat), metR k (p ++ q) X m = (metR k p X m).or (metR (k + p.length) q (passAll p X) m)
  | [], q, k, X, m => rfl
  | r :: p, q, k, X, m => by
    show metR k (r :: (p ++ q)) X m = _
    rw [metR_cons, metR_cons]
    by_cases c : m ∈ plc r.1 r.2 0 X
    · rw [if_pos c, if_pos c]; rfl
    · rw [if_neg c, if_neg c, metR_app p q (k + 1), List.length_cons, show k + 1 + p.length = k + (p.length + 1) by omega]
      rfl
theorem metR_lt : ∀ (p : Rws) (k : Nat) (X : List Str) (m i : Nat), metR k p X m = some i → k ≤ i ∧ i < k + p.length
  | [], _, _, _, _, h => by cases h
  | r :: p, k, X, m, i, h => by
    unfold metR at h
    rw [List.length_cons]
    by_cases c : m ∈ plc r.1 r.2 0 X
    · rw [if_pos c] at h
      cases h
      omega
    · rw [if_neg c] at h
      have := metR_lt p (k + 1) _ m i h
      omega
/-- a piece that stands alone does so from its row on -/
theorem alone_from {z : Str} {rs : Rws} (T : TabOk z rs) {p : Str} {k : Nat} (h : sweep rs p = [p]) (hp : p ∈ pcs z (rs.take k)) : passAll (rs.take k) (sgs p) = [p] := by
  rcases List.mem_append.mp hp with h1 | h1
  · rw [sgs_sign h1, passAll_one]
  · obtain ⟨r, hr, rfl⟩ := List.mem_map.mp h1
    obtain ⟨i, hi, ei⟩ := List.mem_iff_getElem.mp hr
    have hx : (rs.take k)[i]? = some r := by rw [List.getElem?_eq_getElem hi, ei]
    rw [List.getElem?_take] at hx
    by_cases c : i < k
    · rw [if_pos c] at hx
      exact alone_behind T hx h c
    · rw [if_neg c] at hx
      cases hx
/-- a piece that is made of two that stand alone does so just where its own rank is the first over their border -/
theorem alone_iff {z : Str} {rs : Rws} (T : TabOk z rs) {j : Nat} {r : Str × Str} (hj : rs[j]? = some r) (h1 : sweep rs r.1 = [r.1]) (h2 : sweep rs r.2 = [r.2]) :
    sweep rs (jn r) = [jn r] ↔ metR 0 rs (sgs (r.1 ++ r.2)) r.1.length = some j := by
  have ro := T.rows j _ hj
  have l1 := ((T.take j).plen ro.lm).1
  have l2 := ((T.take j).plen ro.rm).1
  have hjl : j < rs.length := (List.getElem?_eq_some_iff.mp hj).1
  have p1 := alone_from T h1 ro.lm
  have p2 := alone_from T h2 ro.rm
  have mn := metR_none (rs.take j) 0 (sgs r.1) (sgs r.2) (T.take j).pos (sgs_ne l1)
  rw [flat_sgs_len, ← sgs_app, p1, p2] at mn
  have ma := metR_app (rs.take j) (rs.drop j) 0 (sgs (r.1 ++ r.2)) r.1.length
  rw [List.take_append_drop, List.length_take, Nat.min_eq_left (by omega), Nat.zero_add] at ma
  constructor
  · intro h
    have h3 := alone_parts T hj h
    have h4 := mn.mpr h3
    have h5 : passAll (rs.take j) (sgs (r.1 ++ r.2)) = [r.1, r.2] := h3
    rw [ma, h4, h5, List.drop_eq_getElem_cons hjl]
    have e : rs[j] = r := by
      rw [List.getElem?_eq_getElem hjl] at hj
      exact Option.some.inj hj
    rw [e]
    unfold metR
    have c : r.1.length ∈ plc r.1 r.2 0 [r.1, r.2] := by
      unfold plc
      rw [if_pos ⟨rfl, rfl⟩, Nat.zero_add]
      exact List.mem_cons_self
    rw [if_pos c]
    rfl
  · intro h
    have h4 : metR 0 (rs.take j) (sgs (r.1 ++ r.2)) r.1.length = none := by
      cases e : metR 0 (rs.take j) (sgs (r.1 ++ r.2)) r.1.length with
      | none => rfl
      | some i =>
        rw [ma, e] at h
        cases h
        have := metR_lt _ _ _ _ _ e
        rw [List.length_take] at this
        omega
    have h5 := mn.mp h4
    have h6 := passAll_take (sgs (jn r)) hj
    have h7 : passAll (rs.take j) (sgs (jn r)) = [r.1, r.2] := h5
    rw [h7, pass1_yes, pass1_nil] at h6
    unfold sweep
    rw [passAll_cut rs (j + 1), h6]
    exact passAll_one _ _
end Jr
namespace Jr
open PySem PySem.Spec PyProof.Rows L2
/-! ### the last and the first piece of a cutting; beginnings and ends of a text -/
def mkS (cs : List Nat) : Str := ⟨cs.toArray⟩
theorem mkS_cps (cs : List Nat) : (mkS cs).cps.toList = cs := by simp [mkS]
theorem mkS_len (cs : List Nat) : (mkS cs).length = cs.length := by rw [← len_cps, mkS_cps]
theorem mkS_of (t : Str) : mkS t.cps.toList = t := str_ext (mkS_cps _)
theorem mkS_app (a b : List Nat) : mkS (a ++ b) = mkS a ++ mkS b := str_ext (by rw [app_cps, mkS_cps, mkS_cps, mkS_cps])
theorem sweep_mkS (rs : Rws) (cs : List Nat) : sweep rs (mkS cs) = passAll rs (cs.map sgn) := by
  unfold sweep sgs
  rw [mkS_cps]
def preS (t : Str) (n : Nat) : Str := mkS (t.cps.toList.take n)
def sufS (t : Str) (n : Nat) : Str := mkS (t.cps.toList.drop n)
theorem preS_cps (t : Str) (n : Nat) : (preS t n).cps.toList = t.cps.toList.take n := mkS_cps _
theorem sufS_cps (t : Str) (n : Nat) : (sufS t n).cps.toList = t.cps.toList.drop n := mkS_cps _
theorem preS_len (t : Str) {n : Nat} (h : n ≤ t.length) : (preS t n).length = n := by
  rw [← len_cps, preS_cps, List.length_take, len_cps]; omega
theorem sufS_len (t : Str) (n : Nat) : (sufS t n).length = t.length - n := by
  rw [← len_cps, sufS_cps, List.length_drop, len_cps]
theorem preS_all (t : Str) {n : Nat} (h : t.length ≤ n) : preS t n = t := str_ext (by rw [preS_cps, List.take_of_length_le (by rw [len_cps]; exact h)])
theorem sufS_zero (t : Str) : sufS t 0 = t := str_ext (by rw [sufS_cps, List.drop_zero])
theorem pre_suf (t : Str) (n : Nat) : preS t n ++ sufS t n = t := str_ext (by rw [app_cps, preS_cps, sufS_cps, List.take_append_drop])
theorem cutS_pre (t : Str) (n : Nat) : cutS t none (some (n : Int)) = preS t n := str_ext (by rw [cut_to, preS_cps])
theorem cutS_suf (t : Str) (n : Nat) : cutS t (some (n : Int)) none = sufS t n := str_ext (by rw [cut_from, sufS_cps])
theorem text_mk {z t : Str} {cs : List Nat} (h : TextOf z t) (hs : ∀ c ∈ cs, c ∈ t.cps.toList) : TextOf z (mkS cs) := fun c hc => by
  rw [mkS_cps] at hc
  exact h c (hs c hc)
theorem text_pre {z t : Str} (h : TextOf z t) (n : Nat) : TextOf z (preS t n) := text_mk h fun _ hc => List.mem_of_mem_take hc
theorem text_suf {z t : Str} (h : TextOf z t) (n : Nat) : TextOf z (sufS t n) := text_mk h fun _ hc => List.mem_of_mem_drop hc
theorem map_sgn_inj {a b : List Nat} (h : a.map sgn = b.map sgn) : a = b := by
  have e := congrArg flat h
  rwa [flat_map_sgn, flat_map_sgn] at e
theorem sweep_app_ne {rs : Rws} {t : Str} (h : 1 ≤ t.length) : sweep rs t ≠ [] := passAll_ne' rs _ (sgs_ne h)
theorem sweep_zero {rs : Rws} {t : Str} (h : t.length = 0) : sweep rs t = [] := by
  have := passAll_len rs (sgs t)
  rw [sgs_len, h] at this
  exact List.eq_nil_of_length_eq_zero (by unfold sweep; omega)
/-- a text whose cutting is put together of two rows is put together of their texts -/
theorem sweep_split {rs : Rws} {t : Str} {A B : List Str} (h : sweep rs t = A ++ B) : sweep rs (preS t (flat A).length) = A ∧ sweep rs (sufS t (flat A).length) = B := by
  obtain ⟨ca, cb, e1, e2, e3⟩ := way_split h
  have f1 : flat A = ca := by rw [← e2, passAll_flat, flat_map_sgn]
  have p1 : t.cps.toList.take (flat A).length = ca := by rw [e1, f1]; simp
  have p2 : t.cps.toList.drop (flat A).length = cb := by rw [e1, f1]; simp
  constructor
  · unfold preS; rw [p1, sweep_mkS, e2]
  · unfold sufS; rw [p2, sweep_mkS, e3]
theorem flat_one (p : Str) : (flat [p]).length = p.length := by rw [flat_cons, List.length_append, len_cps]; rfl
theorem sweep_len (rs : Rws) (t : Str) : (flat (sweep rs t)).length = t.length := by rw [sweep_flat, len_cps]
theorem flat_len_app (A B : List Str) : (flat (A ++ B)).length = (flat A).length + (flat B).length := by rw [flat_app, List.length_append]
theorem sweep_first {rs : Rws} {t p : Str} {B : List Str} (h : sweep rs t = p :: B) : preS t p.length = p ∧ sweep rs p = [p] ∧ B = sweep rs (sufS t p.length) := by
  have h' : sweep rs t = [p] ++ B := h
  obtain ⟨e1, e2⟩ := sweep_split h'
  rw [flat_one] at e1 e2
  have e3 : flat (sweep rs (preS t p.length)) = flat [p] := by rw [e1]
  rw [sweep_flat] at e3
  have e4 : preS t p.length = p := str_ext (by rw [e3, flat_cons]; simp [flat])
  rw [e4] at e1
  exact ⟨e4, e1, e2.symm⟩
theorem sweep_last {rs : Rws} {t p : Str} {A : List Str} (h : sweep rs t = A ++ [p]) : sufS t (t.length - p.length) = p ∧ sweep rs p = [p] ∧ A = sweep rs (preS t (t.length - p.length)) ∧ p.length ≤ t.length := by
  obtain ⟨e1, e2⟩ := sweep_split h
  have hl := sweep_len rs t
  rw [h, flat_len_app, flat_one] at hl
  have el : (flat A).length = t.length - p.length := by omega
  rw [el] at e1 e2
  have e3 : flat (sweep rs (sufS t (t.length - p.length))) = flat [p] := by rw [e2]
  rw [sweep_flat] at e3
  have e4 : sufS t (t.length - p.length) = p := str_ext (by rw [e3, flat_cons]; simp [flat])
  rw [e4] at e2
  exact ⟨e4, e2, e1.symm, by omega⟩
/-- two texts are cut one behind the other just where their neighbours stand side by side -/
theorem split_near {z : Str} {rs : Rws} (T : TabOk z rs) {a b l r : Str} (ha : (sweep rs a).getLast? = some l) (hb : (sweep rs b).head? = some r) :
    sweep rs (a ++ b) = sweep rs a ++ sweep rs b ↔ sweep rs (l ++ r) = [l, r] := by
  have m := meet_near T ha hb
  have al : sweep rs l = [l] := way_alone (List.mem_of_getLast? ha)
  have ar : sweep rs r = [r] := way_alone (List.mem_of_mem_head? hb)
  rw [← meet_iff T a b, ← m, meet_iff T l r, al, ar]
  exact Iff.rfl
/-- which piece is the last one -/
theorem last_iff {z : Str} {rs : Rws} (T : TabOk z rs) {a p : Str} : (sweep rs (a ++ p)).getLast? = some p ↔ sweep rs p = [p] ∧ (a.length = 0 ∨ ∃ l, (sweep rs a).getLast? = some l ∧ sweep rs (l ++ p) = [l, p]) := by
  constructor
  · intro h
    obtain ⟨A, eA⟩ := List.getLast?_eq_some_iff.mp h
    obtain ⟨e1, e2, e3, e4⟩ := sweep_last eA
    have el : (a ++ p).length - p.length = a.length := by rw [app_len]; omega
    rw [el] at e3
    have ea : preS (a ++ p) a.length = a := str_ext (by rw [preS_cps, app_cps, ← len_cps a]; simp)
    rw [ea] at e3
    refine ⟨e2, ?_⟩
    by_cases c : a.length = 0
    · exact .inl c
    · right
      obtain ⟨l, hl⟩ : ∃ l, (sweep rs a).getLast? = some l := by
        cases h5 : (sweep rs a).getLast? with
        | none => exact absurd (List.getLast?_eq_none_iff.mp h5) (sweep_app_ne (by omega))
        | some x => exact ⟨x, rfl⟩
      refine ⟨l, hl, (split_near T hl (r := p) (by rw [e2]; rfl)).mp ?_⟩
      rw [eA, e3, e2]
  · rintro ⟨e2, h | ⟨l, hl, h⟩⟩
    · have e : a ++ p = p := str_ext (by
        rw [app_cps]
        have : a.cps.toList = [] := List.eq_nil_of_length_eq_zero (by rw [len_cps]; exact h)
        rw [this]; rfl)
      rw [e, e2]; rfl
    · have := (split_near T hl (r := p) (by rw [e2]; rfl)).mpr h
      rw [this, e2]
      exact List.getLast?_concat
theorem first_iff {z : Str} {rs : Rws} (T : TabOk z rs) {p b : Str} : (sweep rs (p ++ b)).head? = some p ↔ sweep rs p = [p] ∧ (b.length = 0 ∨ ∃ r, (sweep rs b).head? = some r ∧ sweep rs (p ++ r) = [p, r]) := by
  constructor
  · intro h
    obtain ⟨B, eB⟩ := List.head?_eq_some_iff.mp h
    obtain ⟨e1, e2, e3⟩ := sweep_first eB
    have eb : sufS (p ++ b) p.length = b := str_ext (by rw [sufS_cps, app_cps, ← len_cps p]; simp)
    rw [eb] at e3
    refine ⟨e2, ?_⟩
    by_cases c : b.length = 0
    · exact .inl c
    · right
      obtain ⟨r, hr⟩ : ∃ r, (sweep rs b).head? = some r := by
        cases h5 : (sweep rs b).head? with
        | none => exact absurd (List.head?_eq_none_iff.mp h5) (sweep_app_ne (by omega))
        | some x => exact ⟨x, rfl⟩
      refine ⟨r, hr, (split_near T (l := p) (by rw [e2]; rfl) hr).mp ?_⟩
      rw [eB, e3, e2]; rfl
  · rintro ⟨e2, h | ⟨r, hr, h⟩⟩
    · have e : p ++ b = p := str_ext (by
        rw [app_cps]
        have : b.cps.toList = [] := List.eq_nil_of_length_eq_zero (by rw [len_cps]; exact h)
        rw [this]; simp)
      rw [e, e2]; rfl
    · have := (split_near T (l := p) (by rw [e2]; rfl) hr).mpr h
      rw [this, e2]; rfl
/-! ### the lasts and the firsts of a text -/
def lastO (rs : Rws) (t : Str) (n : Nat) : Option Str := (sweep rs (preS t n)).getLast?
def firstO (rs : Rws) (t : Str) (n : Nat) : Option Str := (sweep rs (sufS t n)).head?
/-- the first so many lasts -/
def lastsL (rs : Rws) (t : Str) (n : Nat) : List (Option Str) := (List.range n).map (lastO rs t)
theorem lastsL_len (rs : Rws) (t : Str) (n : Nat) : (lastsL rs t n).length = n := by simp [lastsL]
theorem lastsL_get {rs : Rws} {t : Str} {n i : Nat} (h : i < n) : (lastsL rs t n)[i]? = some (lastO rs t i) := by
  unfold lastsL
  rw [List.getElem?_map, List.getElem?_range h]; rfl
theorem lastsL_succ (rs : Rws) (t : Str) (n : Nat) : lastsL rs t (n + 1) = lastsL rs t n ++ [lastO rs t n] := by
  unfold lastsL
  rw [List.range_succ, List.map_append]; rfl
theorem lastO_zero (rs : Rws) (t : Str) : lastO rs t 0 = none := by
  unfold lastO
  rw [sweep_zero (by rw [preS_len t (Nat.zero_le _)])]; rfl
theorem lastsL_one (rs : Rws) (t : Str) : lastsL rs t 1 = [none] := by
  show [lastO rs t 0] = _
  rw [lastO_zero]
theorem lastO_some {rs : Rws} {t : Str} {n : Nat} (h1 : 1 ≤ n) (h2 : n ≤ t.length) : ∃ p, lastO rs t n = some p := by
  unfold lastO
  cases h5 : (sweep rs (preS t n)).getLast? with
  | none => exact absurd (List.getLast?_eq_none_iff.mp h5) (sweep_app_ne (by rw [preS_len t h2]; exact h1))
  | some x => exact ⟨x, rfl⟩
theorem firstO_some {rs : Rws} {t : Str} {n : Nat} (h2 : n < t.length) : ∃ p, firstO rs t n = some p := by
  unfold firstO
  cases h5 : (sweep rs (sufS t n)).head? with
  | none => exact absurd (List.head?_eq_none_iff.mp h5) (sweep_app_ne (by rw [sufS_len]; omega))
  | some x => exact ⟨x, rfl⟩
theorem firstO_end {rs : Rws} {t : Str} {n : Nat} (h : t.length ≤ n) : firstO rs t n = none := by
  unfold firstO
  rw [sweep_zero (by rw [sufS_len]; omega)]; rfl
theorem lastO_in {z : Str} {rs : Rws} {t p : Str} {n : Nat} (tx : TextOf z t) (h : lastO rs t n = some p) : p ∈ pcs z rs ∧ sweep rs p = [p] := by
  have hm := List.mem_of_getLast? h
  exact ⟨sweep_pc (text_pre tx n) hm, way_alone hm⟩
theorem firstO_in {z : Str} {rs : Rws} {t p : Str} {n : Nat} (tx : TextOf z t) (h : firstO rs t n = some p) : p ∈ pcs z rs ∧ sweep rs p = [p] := by
  have hm := List.mem_of_mem_head? h
  exact ⟨sweep_pc (text_suf tx n) hm, way_alone hm⟩
/-- the text between two places -/
def midS (t : Str) (a b : Nat) : Str := mkS ((t.cps.toList.drop a).take (b - a))
theorem midS_len (t : Str) {a b : Nat} (h1 : a ≤ b) (h2 : b ≤ t.length) : (midS t a b).length = b - a := by
  unfold midS
  rw [mkS_len, List.length_take, List.length_drop, len_cps]; omega
theorem pre_mid (t : Str) {a b : Nat} (h : a ≤ b) : preS t b = preS t a ++ midS t a b := str_ext (by
  rw [app_cps, preS_cps, preS_cps]
  unfold midS
  rw [mkS_cps]
  have e : b = a + (b - a) := by omega
  conv => lhs; rw [e]
  rw [List.take_add])
theorem mid_suf (t : Str) {a b : Nat} (h : a ≤ b) : sufS t a = midS t a b ++ sufS t b := str_ext (by
  rw [app_cps, sufS_cps, sufS_cps]
  unfold midS
  rw [mkS_cps]
  have e : b = a + (b - a) := by omega
  conv => rhs; rw [e]
  rw [Nat.add_sub_cancel_left, ← List.drop_drop, List.take_append_drop])
theorem cutS_mid (t : Str) (a b : Nat) : cutS t (some (a : Int)) (some (b : Int)) = midS t a b := str_ext (by
  unfold midS
  rw [mkS_cps]
  show ((t.cps.toList.drop (HT.sIx t.length 0 (some (a : Int)))).take (HT.sIx t.length t.length (some (b : Int)) - HT.sIx t.length 0 (some (a : Int)))).toArray.toList = _
  rw [HT.sIx_nat, HT.sIx_nat, List.toList_toArray]
  have e : t.cps.toList.length = t.length := len_cps t
  by_cases h : a ≤ t.length
  · rw [Nat.min_eq_left h]
    by_cases h2 : b ≤ t.length
    · rw [Nat.min_eq_left h2]
    · rw [Nat.min_eq_right (by omega), List.take_of_length_le (by rw [List.length_drop]; omega), List.take_of_length_le (by rw [List.length_drop]; omega)]
  · rw [Nat.min_eq_right (show t.length ≤ a by omega), List.drop_of_length_le (by omega), List.drop_of_length_le (by omega)]
    simp)
/-- the piece of so many signs that ends at n is the last one there -/
theorem lastO_iff {z : Str} {rs : Rws} (T : TabOk z rs) {t : Str} {n s : Nat} (h1 : 1 ≤ s) (h2 : s ≤ n) (h3 : n ≤ t.length) :
    lastO rs t n = some (midS t (n - s) n) ↔ sweep rs (midS t (n - s) n) = [midS t (n - s) n] ∧ (n - s = 0 ∨ ∃ l, lastO rs t (n - s) = some l ∧ sweep rs (l ++ midS t (n - s) n) = [l, midS t (n - s) n]) := by
  unfold lastO
  rw [pre_mid t (show n - s ≤ n by omega), last_iff T, preS_len t (by omega)]
theorem firstO_iff {z : Str} {rs : Rws} (T : TabOk z rs) {t : Str} {n s : Nat} (h1 : 1 ≤ s) (h3 : n + s ≤ t.length) :
    firstO rs t n = some (midS t n (n + s)) ↔ sweep rs (midS t n (n + s)) = [midS t n (n + s)] ∧ (n + s = t.length ∨ ∃ l, firstO rs t (n + s) = some l ∧ sweep rs (midS t n (n + s) ++ l) = [midS t n (n + s), l]) := by
  unfold firstO
  rw [mid_suf t (show n ≤ n + s by omega), first_iff T, sufS_len]
  constructor
  · rintro ⟨a, b | b⟩
    · exact ⟨a, .inl (by omega)⟩
    · exact ⟨a, .inr b⟩
  · rintro ⟨a, b | b⟩
    · exact ⟨a, .inl (by omega)⟩
    · exact ⟨a, .inr b⟩
theorem lastO_mid {rs : Rws} {t p : Str} {n : Nat} (h : n ≤ t.length) (e : lastO rs t n = some p) : p = midS t (n - p.length) n ∧ p.length ≤ n := by
  obtain ⟨A, eA⟩ := List.getLast?_eq_some_iff.mp e
  obtain ⟨e1, _, _, e4⟩ := sweep_last eA
  rw [preS_len t h] at e1 e4
  refine ⟨?_, e4⟩
  rw [← e1]
  have e5 : (sufS (preS t n) (n - p.length)).length = p.length := by rw [e1]
  refine str_ext ?_
  unfold midS
  rw [mkS_cps, sufS_cps, preS_cps, e5, List.drop_take]
theorem firstO_mid {rs : Rws} {t p : Str} {n : Nat} (h : n ≤ t.length) (e : firstO rs t n = some p) : p = midS t n (n + p.length) ∧ n + p.length ≤ t.length := by
  obtain ⟨B, eB⟩ := List.head?_eq_some_iff.mp e
  obtain ⟨e1, _, _⟩ := sweep_first eB
  have l := sweep_len rs (sufS t n)
  rw [eB, flat_clen, sufS_len] at l
  refine ⟨?_, by omega⟩
  have e5 : (preS (sufS t n) p.length).length = p.length := by rw [e1]
  rw [← e1]
  refine str_ext ?_
  unfold midS
  rw [mkS_cps, preS_cps, sufS_cps, e5, Nat.add_sub_cancel_left]
/-- the sizes that fit: just the last piece's -/
theorem fit_head {P : Nat → Bool} {n m : Nat} (hm : m < n) (h : ∀ i, i < n → (P i = true ↔ i = m)) : (List.range n).filter P = [m] := by
  have e : (List.range n).filter P = (List.range n).filter (fun i => i == m) := List.filter_congr fun i hi => by
    have := h i (List.mem_range.mp hi)
    cases hp : P i with
    | true => simp [this.mp hp]
    | false =>
      have : i ≠ m := fun e => by rw [this.mpr e] at hp; cases hp
      simp [this]
  rw [e]
  have key : ∀ n, m < n → (List.range n).filter (fun i => i == m) = [m] := fun n => by
    induction n with
    | zero => intro h; omega
    | succ n ih =>
      intro h
      rw [List.range_succ, List.filter_append]
      by_cases c : m < n
      · rw [ih c]
        have : ¬ n = m := by omega
        simp [this]
      · have e2 : m = n := by omega
        subst e2
        have e3 : (List.range m).filter (fun i => i == m) = [] := by
          rw [List.filter_eq_nil_iff]
          intro x hx
          have := List.mem_range.mp hx
          simp; omega
        rw [e3]; simp
  exact key n hm
/-! ### read from the left and from the end -/
theorem read_step {rs : Rws} {t p : Str} {n : Nat} (h : n ≤ t.length) (e : firstO rs t n = some p) : sweep rs (sufS t n) = p :: sweep rs (sufS t (n + p.length)) := by
  obtain ⟨B, eB⟩ := List.head?_eq_some_iff.mp e
  obtain ⟨_, _, e3⟩ := sweep_first eB
  rw [eB, e3]
  congr 2
  refine str_ext ?_
  rw [sufS_cps, sufS_cps, sufS_cps, List.drop_drop]
theorem back_step {rs : Rws} {t p : Str} {n : Nat} (h : n ≤ t.length) (e : lastO rs t n = some p) : sweep rs (preS t n) = sweep rs (preS t (n - p.length)) ++ [p] := by
  obtain ⟨A, eA⟩ := List.getLast?_eq_some_iff.mp e
  obtain ⟨_, _, e3, e4⟩ := sweep_last eA
  rw [eA, e3, preS_len t h]
  congr 2
  refine str_ext ?_
  rw [preS_cps, preS_cps, preS_cps, List.take_take]
  congr 1
  omega
end Jr
namespace Jr
open PySem PySem.Spec PyProof.Rows L2
/-! ### what the laws' heads share -/
theorem cells_eq (ns ms : List Int) : cutV (ns.map V.int ++ ms.map V.int) none (some 63) = ((ns ++ ms).take 63).map V.int := by
  rw [show (some (63 : Int)) = some ((63 : Nat) : Int) from rfl, cutV_to, List.map_take, List.map_append]
theorem rest_eq (cs : List Int) : cutV (cs.map V.int) (some 1) none = (cs.drop 1).map V.int := by
  rw [show (some (1 : Int)) = some ((1 : Nat) : Int) from rfl, cutV_from, List.map_drop]
theorem sizes_ok {ns : List Int} (h : ns.all (fun z => decide (0 < z) && decide (z ≤ 1000000)) = true) : ∀ z ∈ ns, 0 < z ∧ z.natAbs.log2 < 9000 := fun z hz => by
  have := List.all_eq_true.mp h z hz
  simp only [Bool.and_eq_true, decide_eq_true_eq] at this
  refine ⟨this.1, ?_⟩
  have : z.natAbs.log2 < 20 := (Nat.log2_lt (by omega)).mpr (by omega)
  omega
/-- a digit, by its place -/
theorem dig {ns ds : List Int} (h : Paired (fun z d => 0 ≤ d ∧ d < z) ns ds) {j : Nat} {z : Int} (hz : ns[j]? = some z) : ∃ n : Nat, ds[j]? = some (n : Int) ∧ (n : Int) < z ∧ atI (ds.map V.int) (j : Int) = some (V.int (n : Int)) := by
  obtain ⟨d, e, b⟩ := Paired.get h hz
  obtain ⟨n, rfl⟩ := Int.eq_ofNat_of_zero_le b.1
  exact ⟨n, e, b.2, atm (f := V.int) e⟩
theorem cut_mid (xs : List Int) (a b : Nat) : cutV (xs.map V.int) (some (a : Int)) (some (b : Int)) = ((xs.drop a).take (b - a)).map V.int := by
  rw [cutV_mid, List.map_take, List.map_drop]
end Jr
namespace Jr
open PySem PySem.Spec PyProof.Rows L2
/-! ### texts of texts -/
theorem join_text {z : Str} {ps : List Str} (h : ∀ p ∈ ps, TextOf z p) : TextOf z (Txt.join (Str.ofString "") ps) := fun c hc => by
  rw [join_cps] at hc
  obtain ⟨y, hy, hxy⟩ := List.mem_flatMap.mp hc
  exact h y hy c hxy
theorem sum_le : ∀ (ps : List Str) (n : Nat), (∀ p ∈ ps, p.length ≤ n) → (ps.map (·.length)).sum ≤ ps.length * n
  | [], n, _ => by simp
  | p :: ps, n, h => by
    have h1 := h p List.mem_cons_self
    have h2 := sum_le ps n fun q hq => h q (List.mem_cons_of_mem _ hq)
    rw [List.map_cons, List.sum_cons, List.length_cons, Nat.succ_mul]
    omega
theorem join_len {ps : List Str} : (Txt.join (Str.ofString "") ps).length = (ps.map (·.length)).sum := by
  rw [← len_cps, join_cps, flat_len]
end Jr
namespace Jr
open PySem PySem.Spec PyProof.Rows L2
theorem pc_text {z : Str} {rs : Rws} (T : TabOk z rs) {p : Str} (h : p ∈ pcs z rs) : TextOf z p := by
  have key : ∀ n, n ≤ rs.length → ∀ p ∈ pcs z (rs.take n), TextOf z p := fun n => by
    induction n with
    | zero =>
      intro _ p hp
      have hp2 : p ∈ sgs z ++ [] := hp
      rw [List.append_nil] at hp2
      obtain ⟨c, hc, rfl⟩ := List.mem_map.mp hp2
      intro d hd
      have e : d = c := by simpa [sgn] using hd
      rw [e]; exact hc
    | succ n ih =>
      intro hn p hp
      have hx : rs[n]? = some rs[n] := List.getElem?_eq_getElem (by omega)
      rw [List.take_add_one, hx] at hp
      have hp2 : p ∈ pcs z (rs.take n ++ [rs[n]]) := hp
      rw [pcs_snoc] at hp2
      rcases List.mem_append.mp hp2 with hp3 | hp3
      · exact ih (by omega) p hp3
      · rw [List.mem_singleton] at hp3
        rw [hp3]
        have o := T.rows n _ hx
        exact text_app (ih (by omega) _ o.lm) (ih (by omega) _ o.rm)
  have := key rs.length (Nat.le_refl _) p
  rw [List.take_length] at this
  exact this h
end Jr
namespace Jr
open PySem PySem.Spec PyProof.Rows L2
theorem join_pcs {z : Str} {rs : Rws} (T : TabOk z rs) {qs : List Str} (h : ∀ q ∈ qs, q ∈ pcs z rs) : TextOf z (Txt.join (Str.ofString "") qs) ∧ (Txt.join (Str.ofString "") qs).length ≤ qs.length * 16 :=
  ⟨join_text fun q hq => pc_text T (h q hq), by rw [join_len]; exact sum_le qs 16 fun q hq => (T.plen (h q hq)).2⟩
theorem passAll_ne : ∀ (rs : Rws) (xs : List Str), xs ≠ [] → passAll rs xs ≠ []
  | [], _, h => h
  | r :: rs, xs, h => passAll_ne rs _ (pass1_ne r.1 r.2 xs h)
theorem sweep_ne {rs : Rws} {t : Str} (h : t ≠ Str.ofString "") : sweep rs t ≠ [] := passAll_ne rs _ fun e => h (str_ext (by
  have e2 : (Str.ofString "").cps.toList = [] := by decide +kernel
  rw [e2]
  unfold sgs at e
  exact List.map_eq_nil_iff.mp e))
theorem ne_str {a b : Str} (h : (!decide (V.str a = V.str b)) = true) : a ≠ b := fun e => by
  rw [e, decide_eq_true rfl] at h
  cases h
end Jr
namespace Jr
open PySem PySem.Spec PyProof.Rows L2
structure Chg where
  pl : Nat
  gn : Nat
  put : Str
def chO (c : Chg) : HO := .tup [.int (c.pl : Nat), .int (c.gn : Nat), .str c.put]
theorem chO_ne (c : Chg) (xs : List V) : chO c ≠ .lst xs := fun e => by cases e
/-- a change of a text of the table -/
structure ChgOk (z t : Str) (n : Nat) (c : Chg) : Prop where
  pl : c.pl ≤ t.length
  gn : c.gn ≤ t.length - c.pl
  tx : TextOf z c.put
  len : c.put.length ≤ n
theorem min_int0 (a b : Nat) : (if ((b : Nat) : Int) < ((a : Nat) : Int) then ((b : Nat) : Int) else ((a : Nat) : Int)) = ((min a b : Nat) : Int) := by
  by_cases c : b < a
  · rw [if_pos (by omega), Nat.min_eq_right (by omega)]
  · rw [if_neg (by omega), Nat.min_eq_left (by omega)]
section
variable {P : Program} {w : World} {K : PySem.W.Frag} {mg : Str → Option Value} {base : Heap}
def spChange (K : PySem.W.Frag) : Sp := fun vs H Q _ => ∃ (cl salt : Int) (lp : Addr) (z : Str) (rs : Rws) (t : Str) (most : Nat), vs = [.int cl, .int salt, .ref lp, .str t, .int (most : Nat)] ∧ 0 ≤ salt ∧ salt ≤ 100000 ∧ SqL K H lp ((pcs z rs).map V.str) ∧ TabOk z rs ∧ t.length ≤ 1000 ∧ most ≤ 100 ∧
  ∀ H' q c, Same H H' → H' q = some (chO c) → ChgOk z t (most * 16) c → Q (.ref q) H'
theorem cal__law_change (T : Tx K mg) : Cal P w K mg base CX0 2 "_law_change" (spChange K) := by
  have C__law_numbers := cal__law_numbers (P := P) (w := w) (base := base) T
  obtain ⟨fd, F⟩ := T.d__law_change
  refine ⟨_, fd, P__law_change, F.ok sc__law_change (fun vs H Q E h => ?_) (fun cdv A outer s H vs Q E hr h => ?_), T.g__law_change, F.kp, F.bindsN (ps := P__law_change) fun _ _ _ _ _ _ us hl => match us, hl with | [_, _, _, _, _], _ => rfl⟩
  · obtain ⟨cl, salt, lp, z, rs, t, most, rfl, _⟩ := h
    rfl
  · obtain ⟨cl, salt, lp, z, rs, t, most, rfl, s0, s1', hP, tk, tl, hm, k⟩ := h
    refine ⟨_, (PSs.nox (pss_cons (ps_set (i := 5) sc__law_change.nd rfl (Or.inl rfl) (pe_cal C__law_numbers (by first | exact hr | exact hr.mono (by decide)) (by rfl) (pa_cons (pv 0) (pa_cons (pv 1) (pa_cons (pe_op op_catG (pe_lstG (pa_cons (pe_op op_add (pe_callB (id := "len") call_len_str (by rfl) T.n_len (by decide +kernel) (pa_cons (pv 3) pa_nil)) pe_int) (pa_cons pe_int (pa_cons pe_int (pa_cons (pe_op op_add (pv 4) pe_int) pa_nil))))) (pe_op op_repG (pe_intsAs (ns := [36]) (pe_litI (ns := [36]) (pe_lst (pa_cons pe_int pa_nil)) (fun _ _ _ => rfl) (by decide)) (by decide)) (pv 4))) pa_nil)))))
      (pss_cons (ps_set (i := 6) sc__law_change.nd rfl (Or.inl rfl) (pe_ix ix_list (pv 5) pe_int (fun _ _ => rfl)))
      (pss_cons (ps_set (i := 7) sc__law_change.nd rfl (Or.inl rfl) (pe_callB (id := "min") (call_min2 rfl) (by rfl) T.n_min (by decide +kernel) (pa_cons (pe_ix ix_list (pe_lstG (pa_cons pe_int (pa_cons pe_int (pa_cons (pe_ix ix_list (pv 5) pe_int (fun _ _ => rfl)) (pa_cons (pe_callB (id := "len") call_len_str (by rfl) T.n_len (by decide +kernel) (pa_cons (pv 3) pa_nil)) pa_nil))))) (pe_ix ix_list (pv 5) pe_int (fun _ _ => rfl)) (fun _ _ => rfl)) (pa_cons (pe_op op_sub (pe_callB (id := "len") call_len_str (by rfl) T.n_len (by decide +kernel) (pa_cons (pv 3) pa_nil)) (pv 6)) pa_nil))))
      (pss_cons (ps_set (i := 8) sc__law_change.nd rfl (Or.inl rfl) (pe_join pe_str (pe_lc (own := [("_law_digit", 9)]) (g := gName 9) (by rfl) sc__law_change.nd (pi_list (pe_slice sl_listG (pv 5) (po_some pe_int) (po_some (pe_op op_add pe_int (pe_ix ix_list (pv 5) pe_int (fun _ _ => rfl)))))) (blkOk_by (own := [("_law_digit", 9)]) (N := N__law_change) (sc := defScope s__law_change) (by decide +kernel)) (fun _ _ _ _ _ => (pg_name (i := 9) sc__law_change.nd rfl (Or.inl rfl))) (fun _ _ _ _ _ => pts_nil) (fun _ _ _ _ _ => (pe_ix (ix_listK (K := K)) (pv 2) (pe_op op_mod (pv 9) (pe_callB (id := "len") (call_len_seqK (K := K)) (by rfl) T.n_len (by decide +kernel) (pa_cons (pv 2) pa_nil))) (fun _ _ => rfl))))))
      (pss_one (ps_ret (pe_tupG (pa_cons (pv 6) (pa_cons (pv 7) (pa_cons (pv 8) pa_nil))))))))))), ?_⟩
    have np : 0 < (pcs z rs).length := by rw [pcs_len]; have := tk.n1; omega
    have pl16 : ∀ q ∈ pcs z rs, q.length ≤ 16 := fun q hq => (tk.plen hq).2
    refine ⟨_, rfl, _, rfl, _, rfl, t, rfl, sz (by omega), _, _, rfl, rfl, _, rfl, _, _, rfl, rfl, (by show 4 ≤ sizeLine; decide), fun p1 H1 n1 s1 h1 => ?_⟩
    refine fun p2 H2 n2 s2 h2 => ?_
    refine ⟨_, rfl, p2, _, _, rfl, rfl, h2, by omega, by omega, ?_, fun p3 H3 n3 s3 h3 => ?_⟩
    · show 1 * ((most : Nat) : Int).toNat ≤ sizeLine
      exact sz (by omega)
    refine ⟨p1, p3, _, _, rfl, rfl, SqL.of ((s2.trans s3) _ _ h1), SqL.of h3, ?_, fun p4 H4 n4 s4 h4 => ?_⟩
    · show 4 + (List.replicate ((most : Nat) : Int).toNat [V.int 36]).flatten.length ≤ sizeLine
      rw [rep_one, List.length_replicate]
      exact sz (by omega)
    refine ⟨cl, salt, p4, [((t.length : Nat) : Int) + 1, 4, 7, (most : Int) + 1] ++ List.replicate most 36, rfl, s0, s1', SqL.of ?_, ?_, ?_, fun H5 pd ds sm hp hD hds => ?_⟩
    · rw [h4]
      show some (HO.lst ([V.int (((t.length : Nat) : Int) + 1), V.int 4, V.int 7, V.int ((most : Int) + 1)] ++ (List.replicate ((most : Nat) : Int).toNat [V.int 36]).flatten)) = _
      rw [rep_one, List.map_append, map_rep, Int.toNat_natCast]; rfl
    · rw [List.length_append, List.length_replicate]
      show 4 + most ≤ 1000
      omega
    · have lg : ∀ x : Int, 0 < x → x ≤ 10000 → 0 < x ∧ x.natAbs.log2 < 9000 := fun x h0 h1 => ⟨h0, by
        have : x.natAbs.log2 < 14 := (Nat.log2_lt (by omega)).mpr (by omega)
        omega⟩
      intro x hx
      rcases List.mem_append.mp hx with hx | hx
      · simp only [List.mem_cons, List.not_mem_nil, or_false] at hx
        rcases hx with rfl | rfl | rfl | rfl <;> exact lg _ (by omega) (by omega)
      · rw [(List.mem_replicate.mp hx).2]; exact lg _ (by omega) (by omega)
    have sH := (((s1.trans s2).trans s3).trans s4).trans sm
    obtain ⟨d0, e0, b0, A0⟩ := dig hds (j := 0) rfl
    obtain ⟨d1, e1, b1, A1⟩ := dig hds (j := 1) rfl
    obtain ⟨d2, e2, b2, A2⟩ := dig hds (j := 2) rfl
    obtain ⟨d3, e3, b3, A3⟩ := dig hds (j := 3) rfl
    refine ⟨_, rfl, pd, _, _, _, rfl, rfl, SqL.of hD, A0, ?_⟩
    refine ⟨_, rfl, pd, _, _, _, rfl, rfl, SqL.of hD, A2, _, rfl, t, rfl, sz (by omega), (by show 4 ≤ sizeLine; decide), fun q1 H6 nq1 s6 hq1 => ?_⟩
    obtain ⟨g, Ag⟩ : ∃ g : Nat, atI [V.int 0, V.int 1, V.int ((d2 : Nat) : Int), V.int ((t.length : Nat) : Int)] (d1 : Int) = some (V.int ((g : Nat) : Int)) := by
      have : d1 = 0 ∨ d1 = 1 ∨ d1 = 2 ∨ d1 = 3 := by omega
      rcases this with rfl | rfl | rfl | rfl
      · exact ⟨0, ats rfl⟩
      · exact ⟨1, ats rfl⟩
      · exact ⟨d2, ats rfl⟩
      · exact ⟨t.length, ats rfl⟩
    have hD6 := s6 _ _ hD
    refine ⟨_, rfl, pd, _, _, _, rfl, rfl, SqL.of hD6, A1, q1, _, _, _, rfl, rfl, SqL.of hq1, Ag, ?_⟩
    refine ⟨_, rfl, t, rfl, sz (by omega), _, rfl, _, _, rfl, rfl, _, _, rfl, ?_⟩
    have eg : (if ((t.length : Nat) : Int) - ((d0 : Nat) : Int) < ((g : Nat) : Int) then ((t.length : Nat) : Int) - ((d0 : Nat) : Int) else ((g : Nat) : Int)) = ((min g (t.length - d0) : Nat) : Int) := by
      have e : ((t.length : Nat) : Int) - ((d0 : Nat) : Int) = ((t.length - d0 : Nat) : Int) := by omega
      rw [e, min_int0]
    refine ⟨⟨_, rfl⟩, ?_⟩
    refine ⟨_, rfl, _, rfl, _, rfl, _, _, _, _, rfl, rfl, SqL.of hD6, A3, _, _, rfl, rfl, _, rfl, pd, _, rfl, SqL.of hD6, fun q H7 nq s7 hq => ?_⟩
    have ec : cutV (ds.map V.int) (some 4) (some (4 + (d3 : Int))) = ((ds.drop 4).take d3).map V.int := by
      have z1 : (4 : Int) + (d3 : Int) = ((4 + d3 : Nat) : Int) := by omega
      have z2 : 4 + d3 - 4 = d3 := by omega
      rw [z1, show (some (4 : Int)) = some ((4 : Nat) : Int) from rfl, cutV_mid, z2, List.map_take, List.map_drop]
    rw [ec] at hq
    have posP : (0 : Int) < (((pcs z rs).map V.str).length : Nat) := by rw [List.length_map]; omega
    obtain ⟨f, hf⟩ : ∃ g : Int → Str, ∀ d, g d ∈ pcs z rs ∧ atI ((pcs z rs).map V.str) (d % (((pcs z rs).map V.str).length : Nat)) = some (V.str (g d)) :=
      ⟨fun d => (mod_at V.str (pcs z rs) np d).choose, fun d => (mod_at V.str (pcs z rs) np d).choose_spec⟩
    have hn : ((ds.drop 4).take d3).length ≤ most := by
      rw [List.length_take]
      have := b3
      omega
    have s07 := (sH.trans s6).trans s7
    refine ⟨q, rfl, ⟨_, SqL.of hq⟩, fun D hD2 => lc_listM (K := K) (item := V.int) (p := fun _ => true) (f := fun d => V.str (f d)) (l := (ds.drop 4).take d3) (SqL.of hq) hD2 (by omega) (fun dd hdd H2' s2' N M hM _ => ?_) (fun H8 s8 hL2 => ?_)⟩
    · have hP7 := (s07.trans s2').seq hP
      exact ⟨rfl, _, rfl, _, rfl, _, rfl, _, _, rfl, .inl hP7, _, _, rfl, rfl, posP, _, _, _, _, rfl, rfl, hP7, (hf dd).2, hM rfl⟩
    · have ef : ((ds.drop 4).take d3).filter (fun _ => true) = (ds.drop 4).take d3 := List.filter_eq_self.mpr fun _ _ => rfl
      have em : ((ds.drop 4).take d3).map (fun d => V.str (f d)) = (((ds.drop 4).take d3).map f).map V.str := by rw [List.map_map]; rfl
      rw [ef, em] at hL2
      have inq : ∀ q ∈ ((ds.drop 4).take d3).map f, q ∈ pcs z rs := fun q hq => by
        obtain ⟨d, _, rfl⟩ := List.mem_map.mp hq
        exact (hf d).1
      obtain ⟨tx, tln⟩ := join_pcs tk inq
      have sl := sum_le (((ds.drop 4).take d3).map f) 16 fun q hq => pl16 q (inq q hq)
      rw [List.length_map] at sl tln
      have e0' : (Str.ofString "").length = 0 := by decide +kernel
      refine ⟨_, D, ((ds.drop 4).take d3).map f, rfl, rfl, .inl (SqL.of hL2), by rw [e0']; omega, ?_⟩
      refine ⟨_, rfl, _, rfl, _, rfl, (by show 3 ≤ sizeLine; decide), fun tt H9 ntt s9 htt => ?_⟩
      refine k H9 tt ⟨d0, min g (t.length - d0), _⟩ ((s07.trans s8).trans s9) ?_ ⟨by show d0 ≤ _; omega, Nat.min_le_right .., tx, Nat.le_trans tln (Nat.mul_le_mul_right 16 hn)⟩
      rw [eg] at htt
      exact htt
end
end Jr
namespace Jr
open PySem PySem.Spec PyProof.Rows L2
section
variable {P : Program} {w : World} {K : PySem.W.Frag} {mg : Str → Option Value} {base : Heap}
def spShort (K : PySem.W.Frag) : Sp := fun vs H Q _ => ∃ (q : Addr) (z t : Str) (most n : Nat) (c : Chg), vs = [.ref q, .str t, .int (most : Nat)] ∧ H q = some (chO c) ∧ ChgOk z t n c ∧ t.length ≤ 1000 ∧ n ≤ 5000 ∧ t.length ≤ most ∧
  ∀ H' q' c', Same H H' → H' q' = some (chO c') → ChgOk z t n c' → t.length - c'.gn + c'.put.length ≤ most → Q (.ref q') H'
theorem cal__law_short (T : Tx K mg) : Cal P w K mg base CX0 1 "_law_short" (spShort K) := by
  obtain ⟨fd, F⟩ := T.d__law_short
  refine ⟨_, fd, P__law_short, F.ok sc__law_short (fun vs H Q E h => ?_) (fun cdv A outer s H vs Q E hr h => ?_), T.g__law_short, F.kp, F.bindsN (ps := P__law_short) fun _ _ _ _ _ _ us hl => match us, hl with | [_, _, _], _ => rfl⟩
  · obtain ⟨q, z, t, most, n, c, rfl, _⟩ := h
    rfl
  · obtain ⟨q, z, t, most, n, c, rfl, hq, ok, tl, nl, tm, k⟩ := h
    refine ⟨_, (PSs.nox (pss_cons (ps_asg (pv 0) (pg_tup rfl (pgs_cons (pg_name (i := 3) sc__law_short.nd rfl (Or.inl rfl)) (pgs_cons (pg_name (i := 4) sc__law_short.nd rfl (Or.inl rfl)) (pgs_cons (pg_name (i := 5) sc__law_short.nd rfl (Or.inl rfl)) pgs_nil)))))
      (pss_cons (ps_if (pt_cmpR op_gt (pe_op op_add (pe_op op_sub (pe_callB (id := "len") call_len_str (by rfl) T.n_len (by decide +kernel) (pa_cons (pv 1) pa_nil)) (pv 4)) (pe_callB (id := "len") call_len_str (by rfl) T.n_len (by decide +kernel) (pa_cons (pv 5) pa_nil))) (pv 2) (nomark _)) (pss_one (ps_ret (pe_tupG (pa_cons (pv 3) (pa_cons (pv 4) (pa_cons (pe_slice sl_str (pv 5) po_none (po_some (pe_callB (id := "max") (call_max2 rfl) (by rfl) T.n_max (by decide +kernel) (pa_cons pe_int (pa_cons (pe_op op_add (pe_op op_sub (pv 2) (pe_callB (id := "len") call_len_str (by rfl) T.n_len (by decide +kernel) (pa_cons (pv 1) pa_nil))) (pv 4)) pa_nil))))) pa_nil)))))) pss_nil)
      (pss_one (ps_ret (pv 0)))))), ?_⟩
    have h1 := ok.pl
    have h2 := ok.gn
    have h3 := ok.len
    refine ⟨_, rfl, q, _, rfl, SqT.of hq, rfl, _, _, rfl, _, _, rfl, _, _, rfl, rfl, ?_⟩
    refine ⟨_, rfl, t, rfl, sz (by omega), _, rfl, _, _, rfl, rfl, _, rfl, c.put, rfl, sz (by omega), _, _, rfl, rfl, _, rfl, _, _, rfl, rfl, _, rfl, ite2 (fun cc => ?_) (fun cc => ?_)⟩
    · have cc' := of_decide_eq_true cc
      refine ⟨_, rfl, _, rfl, _, rfl, _, rfl, _, rfl, t, rfl, sz (by omega), _, _, rfl, rfl, _, rfl, _, _, rfl, rfl, _, _, rfl, _, rfl, c.put, rfl, sz (by omega), (by show 3 ≤ sizeLine; decide), fun q' H1 nq' s1 hq' => ?_⟩
      have em : (if ((most : Nat) : Int) - ((t.length : Nat) : Int) + ((c.gn : Nat) : Int) > 0 then ((most : Nat) : Int) - ((t.length : Nat) : Int) + ((c.gn : Nat) : Int) else 0) = ((most - t.length + c.gn : Nat) : Int) := by
        split <;> omega
      rw [em, cutS_pre] at hq'
      have pl : (preS c.put (most - t.length + c.gn)).length ≤ most - t.length + c.gn := by rw [← len_cps, preS_cps, List.length_take]; omega
      have pl2 : (preS c.put (most - t.length + c.gn)).length ≤ c.put.length := by rw [← len_cps, preS_cps, List.length_take, len_cps]; omega
      exact k H1 q' ⟨c.pl, c.gn, preS c.put (most - t.length + c.gn)⟩ s1 hq' ⟨h1, h2, text_pre ok.tx _, Nat.le_trans pl2 h3⟩ (Nat.le_trans (Nat.add_le_add_left pl _) (by show t.length - c.gn + (most - t.length + c.gn) ≤ most; omega))
    · have cc' : ¬ (((t.length : Nat) : Int) - ((c.gn : Nat) : Int) + ((c.put.length : Nat) : Int) > ((most : Nat) : Int)) := fun h => by
        rw [decide_eq_true h] at cc
        exact cc rfl
      exact ⟨_, rfl, k _ q c (Same.refl _) hq ok (by omega)⟩
end
end Jr
namespace Jr
open PySem PySem.Spec PyProof.Rows L2
/-! ### patches between two rows -/
/-- how many pieces ahead two rows have alike, within so many signs -/
def sameN : List Str → List Str → Int → Nat
  | a :: xs, b :: ys, m => if a = b ∧ (a.length : Int) ≤ m then sameN xs ys (m - a.length) + 1 else 0
  | _, _, _ => 0
theorem sameN_nil1 (ys : List Str) (m : Int) : sameN [] ys m = 0 := by cases ys <;> rfl
theorem sameN_nil2 (xs : List Str) (m : Int) : sameN xs [] m = 0 := by cases xs <;> rfl
theorem sameN_yes {a : Str} {xs ys : List Str} {m : Int} (h : (a.length : Int) ≤ m) : sameN (a :: xs) (a :: ys) m = sameN xs ys (m - a.length) + 1 := by
  rw [sameN, if_pos ⟨rfl, h⟩]
theorem sameN_no {a b : Str} {xs ys : List Str} {m : Int} (h : ¬ (a = b ∧ (a.length : Int) ≤ m)) : sameN (a :: xs) (b :: ys) m = 0 := by
  rw [sameN, if_neg h]
theorem sameN_le : ∀ (xs ys : List Str) (m : Int), sameN xs ys m ≤ xs.length ∧ sameN xs ys m ≤ ys.length
  | [], ys, m => by rw [sameN_nil1]; exact ⟨Nat.zero_le _, Nat.zero_le _⟩
  | a :: xs, [], m => by rw [sameN_nil2]; exact ⟨Nat.zero_le _, Nat.zero_le _⟩
  | a :: xs, b :: ys, m => by
    by_cases c : a = b ∧ (a.length : Int) ≤ m
    · obtain ⟨rfl, h⟩ := c
      rw [sameN_yes h]
      have := sameN_le xs ys (m - a.length)
      simp only [List.length_cons]
      omega
    · rw [sameN_no c]; exact ⟨Nat.zero_le _, Nat.zero_le _⟩
theorem sameN_take : ∀ (xs ys : List Str) (m : Int), xs.take (sameN xs ys m) = ys.take (sameN xs ys m)
  | [], ys, m => by rw [sameN_nil1]; rfl
  | a :: xs, [], m => by rw [sameN_nil2]; rfl
  | a :: xs, b :: ys, m => by
    by_cases c : a = b ∧ (a.length : Int) ≤ m
    · obtain ⟨rfl, h⟩ := c
      rw [sameN_yes h, List.take_succ_cons, List.take_succ_cons, sameN_take xs ys]
    · rw [sameN_no c]; rfl
/-- by steps: at i pieces alike, so many signs are left -/
theorem sameN_step (xs ys : List Str) (m : Int) (i : Nat) (h1 : xs.take i = ys.take i) (hi : i ≤ xs.length) (hi2 : i ≤ ys.length) (hf : i = 0 ∨ ((flat (xs.take i)).length : Int) ≤ m) :
    sameN xs ys m = i + sameN (xs.drop i) (ys.drop i) (m - (flat (xs.take i)).length) := by
  induction i generalizing xs ys m with
  | zero =>
    have : (flat (xs.take 0)).length = 0 := rfl
    rw [this, List.drop_zero, List.drop_zero]
    simp
  | succ i ih =>
    cases xs with
    | nil => simp at hi
    | cons a xs =>
      cases ys with
      | nil => simp at hi2
      | cons b ys =>
        rw [List.take_succ_cons, List.take_succ_cons] at h1
        obtain ⟨rfl, h2⟩ := List.cons.inj h1
        rw [List.take_succ_cons, flat_cons, List.length_append, len_cps] at hf
        have hm : (a.length : Int) ≤ m := by
          rcases hf with h | h
          · omega
          · omega
        simp only [List.length_cons] at hi hi2
        rw [sameN_yes hm, ih xs ys (m - a.length) h2 (by omega) (by omega) (by rcases hf with h | h; omega; right; omega)]
        rw [List.take_succ_cons, flat_cons, List.length_append, len_cps, List.drop_succ_cons, List.drop_succ_cons]
        have : m - (a.length : Int) - ((flat (xs.take i)).length : Int) = m - ((a.length + (flat (xs.take i)).length : Nat) : Int) := by omega
        rw [this]
        omega
theorem sameN_stop (xs ys : List Str) (m : Int) (i : Nat) (h1 : xs.take i = ys.take i) (hi : i ≤ xs.length) (hi2 : i ≤ ys.length) (hf : i = 0 ∨ ((flat (xs.take i)).length : Int) ≤ m)
    (hs : i = xs.length ∨ i = ys.length ∨ ∃ a b, xs[i]? = some a ∧ ys[i]? = some b ∧ ¬ (a = b ∧ ((flat (xs.take i)).length : Int) + a.length ≤ m)) : sameN xs ys m = i := by
  rw [sameN_step xs ys m i h1 hi hi2 hf]
  rcases hs with e | e | ⟨a, b, ha, hb, hn⟩
  · rw [List.drop_of_length_le (by omega), sameN_nil1]; rfl
  · rw [List.drop_of_length_le (l := ys) (by omega), sameN_nil2]; rfl
  · have la := (List.getElem?_eq_some_iff.mp ha).1
    have lb := (List.getElem?_eq_some_iff.mp hb).1
    rw [List.getElem?_eq_getElem la] at ha
    rw [List.getElem?_eq_getElem lb] at hb
    rw [List.drop_eq_getElem_cons la, List.drop_eq_getElem_cons lb, Option.some.inj ha, Option.some.inj hb, sameN_no]
    · rfl
    · rintro ⟨e1, e2⟩
      exact hn ⟨e1, by omega⟩
structure Patch where
  first : Nat
  out : List Str
  into : List Str
def patchF (old new : List Str) (place behind : Int) : Patch :=
  let f := sameN old new place
  let l := sameN (old.drop f).reverse (new.drop f).reverse behind
  ⟨f, (old.drop f).take ((old.drop f).length - l), (new.drop f).take ((new.drop f).length - l)⟩
/-- a patch told -/
def PatchAt (H : Hp) (t : Addr) (p : Patch) : Prop := ∃ a b : Addr, H t = some (.tup [.int ((p.first : Nat) : Int), .ref a, .ref b]) ∧ H a = some (.lst (p.out.map V.str)) ∧ H b = some (.lst (p.into.map V.str))
theorem PatchAt.same {H H' : Hp} {t : Addr} {p : Patch} (h : PatchAt H t p) (s : Same H H') : PatchAt H' t p := by
  obtain ⟨a, b, h1, h2, h3⟩ := h
  exact ⟨a, b, s _ _ h1, s _ _ h2, s _ _ h3⟩
theorem patchF_out {old new : List Str} {place behind : Int} {p : Str} (h : p ∈ (patchF old new place behind).out) : p ∈ old := List.mem_of_mem_drop (List.mem_of_mem_take h)
theorem patchF_into {old new : List Str} {place behind : Int} {p : Str} (h : p ∈ (patchF old new place behind).into) : p ∈ new := List.mem_of_mem_drop (List.mem_of_mem_take h)
/-- the patch leads from the old row to the new one -/
theorem patchF_leads (old new : List Str) (place behind : Int) : old.take (patchF old new place behind).first ++ (patchF old new place behind).into ++ old.drop ((patchF old new place behind).first + (patchF old new place behind).out.length) = new := by
  obtain ⟨f, ef⟩ : ∃ f, f = sameN old new place := ⟨_, rfl⟩
  obtain ⟨l, el⟩ : ∃ l, l = sameN (old.drop f).reverse (new.drop f).reverse behind := ⟨_, rfl⟩
  have hf := sameN_le old new place
  have hl := sameN_le (old.drop f).reverse (new.drop f).reverse behind
  have tf := sameN_take old new place
  have tl := sameN_take (old.drop f).reverse (new.drop f).reverse behind
  rw [← ef] at hf tf
  rw [← el] at hl tl
  rw [List.length_reverse, List.length_reverse] at hl
  rw [List.take_reverse, List.take_reverse] at tl
  have tl' := List.reverse_inj.mp tl
  have e1 : (patchF old new place behind).first = f := by rw [ef]; rfl
  have e2 : (patchF old new place behind).out = (old.drop f).take ((old.drop f).length - l) := by rw [el, ef]; rfl
  have e3 : (patchF old new place behind).into = (new.drop f).take ((new.drop f).length - l) := by rw [el, ef]; rfl
  rw [e1, e2, e3, List.length_take, Nat.min_eq_left (by omega), ← List.drop_drop, tl', tf, List.append_assoc, List.take_append_drop, List.take_append_drop]
section
variable {g : TG} {tb : TS} {D : Ends} {σ : L2.St} {H : Hp}
theorem for_zip {K : PySem.W.Frag} {a b : Addr} {xs ys : List V} (Pv : Nat → L2.St → Hp → Prop) (h0 : Pv 0 σ H) (hq : ∀ i σ H, Pv i σ H → SqL K H a xs ∧ SqL K H b ys)
    (hs : ∀ (i : Nat) (x y : V) (T : Addr) (σ : L2.St) (H : Hp), xs[i]? = some x → ys[i]? = some y → Pv i σ H → H T = none → g (.ref T) σ (upd H T (.tup [x, y])) fun σ2 H2 => tb { D with nx := Pv (i + 1), ct := Pv (i + 1), bk := D.nx } σ2 H2)
    (hd : ∀ i σ H, (i = xs.length ∨ i = ys.length) → i ≤ xs.length → i ≤ ys.length → Pv i σ H → D.nx σ H) :
    ∃ W : Nat → Nat → L2.St → Hp → Prop, (∃ m, W 0 m σ H) ∧ ∀ i m σ H, W i m σ H →
      ((Itz K a b).stop i H ∧ D.nx σ H) ∨ ((Itz K a b).go i H ∧ ∃ N : L2.St → Hp → Prop, (∀ σ' H', N σ' H' → ∃ m', m' < m ∧ W (i + 1) m' σ' H') ∧ ∀ v H', (Itz K a b).yld i H v H' → g v σ H' fun σ2 H2 => tb { D with nx := N, ct := N, bk := D.nx } σ2 H2) := by
  refine ⟨fun i m σ H => m = xs.length - i ∧ i ≤ xs.length ∧ i ≤ ys.length ∧ Pv i σ H, ⟨xs.length, by simp, Nat.zero_le _, Nat.zero_le _, h0⟩, ?_⟩
  rintro i m σ H ⟨rfl, hi, hi2, p⟩
  obtain ⟨qx, qy⟩ := hq i σ H p
  by_cases hlt : i < xs.length ∧ i < ys.length
  · have hx : xs[i]? = some xs[i] := List.getElem?_eq_getElem hlt.1
    have hy : ys[i]? = some ys[i] := List.getElem?_eq_getElem hlt.2
    refine .inr ⟨⟨xs, ys, xs[i], ys[i], qx, qy, hx, hy⟩, Pv (i + 1), fun σ' H' p' => ⟨xs.length - (i + 1), by omega, rfl, hlt.1, hlt.2, p'⟩, fun v H' z => ?_⟩
    obtain ⟨T, x, y, rfl, hT, rfl, h1, h2⟩ := z
    exact hs i x y T σ H (h1 xs qx) (h2 ys qy) p hT
  · refine .inl ⟨⟨xs, ys, qx, qy, ?_⟩, hd i σ H ?_ hi hi2 p⟩
    · omega
    · omega
end
end Jr
namespace Jr
open PySem PySem.Spec PyProof.Rows L2
/-! ### edges with their ends in the heap; the least rank over a border -/
def PEAt (H : Hp) (a : Addr) (x : Str × Nat) : Prop := H a = some (.tup [.str x.1, .int (x.2 : Nat)])
def EndsL (H : Hp) (q : Addr) (fs : List (Str × Nat)) : Prop := ∃ as : List Addr, H q = some (.lst (as.map V.ref)) ∧ Paired (PEAt H) as fs
theorem PEAt.same {H H' : Hp} (s : Same H H') {as : List Addr} {fs : List (Str × Nat)} (h : Paired (PEAt H) as fs) : Paired (PEAt H') as fs := L2.Paired.mapP h fun _ _ q => s _ _ q
theorem EndsL.same {H H' : Hp} {q : Addr} {fs : List (Str × Nat)} (h : EndsL H q fs) (s : Same H H') : EndsL H' q fs := by
  obtain ⟨as, e, p⟩ := h
  exact ⟨as, s _ _ e, PEAt.same s p⟩
theorem Edge.in {z : Str} {rs : Rws} (T : TabOk z rs) {side : Nat} {p : Str} {es : List Str} (h : Edge rs side p es) (hp : p ∈ pcs z rs) : ∀ x ∈ es, x ∈ pcs z rs := by
  induction h with
  | one _ =>
    intro x hx
    rw [List.mem_singleton.mp hx]
    exact hp
  | @more p r es hr e _ ih =>
    intro x hx
    rcases List.mem_cons.mp hx with e2 | e2
    · rw [e2]; exact hp
    · exact ih (part_in T hr).1 x e2
theorem EdgeE.in {z : Str} {rs : Rws} (T : TabOk z rs) {side e : Nat} {p : Str} {es : List (Str × Nat)} (h : EdgeE rs side e p es) : p ∈ pcs z rs → ∀ x ∈ es, x.1 ∈ pcs z rs := by
  induction h with
  | one _ =>
    intro hp x hx
    rw [List.mem_singleton.mp hx]
    exact hp
  | @more e j p r es hj ej _ ih =>
    intro hp x hx
    rcases List.mem_cons.mp hx with e2 | e2
    · rw [e2]; exact hp
    · exact ih (pcs_take_all (sdr_in T hj)) x e2
theorem EdgeE.len {z : Str} {rs : Rws} (T : TabOk z rs) {side e : Nat} {p : Str} {es : List (Str × Nat)} (h : EdgeE rs side e p es) : p ∈ pcs z rs → es.length ≤ p.length := by
  induction h with
  | one _ =>
    intro hp
    exact (T.plen hp).1
  | @more e j p r es hj ej _ ih =>
    intro hp
    have := ih (pcs_take_all (sdr_in T hj))
    have l := (part_in (side := side) T (List.mem_of_getElem? hj)).2
    rw [ej] at l
    rw [List.length_cons]
    omega
theorem Edge.head {rs : Rws} {side : Nat} {p : Str} {es : List Str} (h : Edge rs side p es) : ∃ r, es = p :: r ∧ ((r = [] ∧ ∀ q ∈ rs, ¬ jn q = p) ∨ ∃ q ∈ rs, jn q = p ∧ Edge rs side (sdr side q) r) := by
  cases h with
  | one n => exact ⟨[], rfl, .inl ⟨rfl, n⟩⟩
  | more hr e h => exact ⟨_, rfl, .inr ⟨_, hr, e, h⟩⟩
theorem Edge.len {z : Str} {rs : Rws} (T : TabOk z rs) {side : Nat} {p : Str} {es : List Str} (h : Edge rs side p es) : p ∈ pcs z rs → es.length ≤ p.length := by
  induction h with
  | one _ =>
    intro hp
    exact (T.plen hp).1
  | @more p r es hr e _ ih =>
    intro hp
    have q := part_in (side := side) T hr
    have := ih q.1
    rw [e] at q
    rw [List.length_cons]
    omega
/-- a rank by which the border may fall -/
def Cand (rs : Rws) (es fs : List (Str × Nat)) (k : Nat) : Prop := ∃ x ∈ es, ∃ y ∈ fs, rs[k]? = some (x.1, y.1) ∧ k < x.2 ∧ k ≤ y.2
theorem falls_cand {rs : Rws} {es fs : List (Str × Nat)} {k : Nat} : fallsAt rs es fs k = true ↔ Cand rs es fs k := by
  unfold fallsAt Cand
  cases e : rs[k]? with
  | none =>
    constructor
    · intro h; cases h
    · rintro ⟨x, _, y, _, h, _⟩; cases h
  | some q =>
    simp only [Bool.and_eq_true, List.any_eq_true, decide_eq_true_eq]
    constructor
    · rintro ⟨⟨x, hx, e1, l1⟩, y, hy, e2, l2⟩
      exact ⟨x, hx, y, hy, by rw [e1, e2], l1, l2⟩
    · rintro ⟨x, hx, y, hy, h, l1, l2⟩
      have h := Option.some.inj h
      rw [h]
      exact ⟨⟨x, hx, rfl, l1⟩, y, hy, rfl, l2⟩
/-- the least of those looked at so far -/
structure Least (rs : Rws) (L : List ((Str × Nat) × (Str × Nat))) (m : Option Nat) : Prop where
  is : ∀ k, m = some k → ∃ q ∈ L, rs[k]? = some (q.1.1, q.2.1) ∧ k < q.1.2 ∧ k ≤ q.2.2
  le : ∀ q ∈ L, ∀ k, rs[k]? = some (q.1.1, q.2.1) → k < q.1.2 → k ≤ q.2.2 → ∃ j, m = some j ∧ j ≤ k
theorem Least.nil (rs : Rws) : Least rs [] none := ⟨fun k h => (by cases h), fun q h => (by cases h)⟩
theorem Least.find {rs : Rws} {es fs : List (Str × Nat)} {m : Option Nat} {L : List ((Str × Nat) × (Str × Nat))} (h : Least rs L m) (hL : ∀ q, q ∈ L ↔ q.1 ∈ es ∧ q.2 ∈ fs) : m = (List.range rs.length).find? (fallsAt rs es fs) := by
  cases m with
  | none =>
    symm
    rw [List.find?_eq_none]
    intro k _ hk
    obtain ⟨x, hx, y, hy, e, l1, l2⟩ := falls_cand.mp hk
    obtain ⟨j, ej, _⟩ := h.le (x, y) ((hL _).mpr ⟨hx, hy⟩) k e l1 l2
    cases ej
  | some k =>
    obtain ⟨q, hq, e, l1, l2⟩ := h.is k rfl
    have hm := (hL q).mp hq
    have hk : fallsAt rs es fs k = true := falls_cand.mpr ⟨q.1, hm.1, q.2, hm.2, e, l1, l2⟩
    have hkl : k < rs.length := (List.getElem?_eq_some_iff.mp e).1
    symm
    rw [List.find?_range_eq_some]
    refine ⟨hk, List.mem_range.mpr hkl, fun j hj => ?_⟩
    cases e2 : fallsAt rs es fs j with
    | false => rfl
    | true =>
      obtain ⟨x, hx, y, hy, e, l1, l2⟩ := falls_cand.mp e2
      obtain ⟨i, ei, li⟩ := h.le (x, y) ((hL _).mpr ⟨hx, hy⟩) j e l1 l2
      cases ei
      omega
/-- one more is looked at -/
theorem Least.skip {rs : Rws} {L : List ((Str × Nat) × (Str × Nat))} {m : Option Nat} {q : (Str × Nat) × (Str × Nat)} (h : Least rs L m) (hq : ∀ k, rs[k]? = some (q.1.1, q.2.1) → k < q.1.2 → k ≤ q.2.2 → ∃ j, m = some j ∧ j ≤ k) : Least rs (L ++ [q]) m := by
  refine ⟨fun k e => ?_, fun p hp k e l1 l2 => ?_⟩
  · obtain ⟨p, hp, r⟩ := h.is k e
    exact ⟨p, List.mem_append_left _ hp, r⟩
  · rcases List.mem_append.mp hp with hp | hp
    · exact h.le p hp k e l1 l2
    · rw [List.mem_singleton.mp hp] at e l1 l2
      exact hq k e l1 l2
theorem Least.take {rs : Rws} {L : List ((Str × Nat) × (Str × Nat))} {m : Option Nat} {q : (Str × Nat) × (Str × Nat)} {k : Nat} (T : rs.Nodup) (h : Least rs L m) (e : rs[k]? = some (q.1.1, q.2.1)) (l1 : k < q.1.2) (l2 : k ≤ q.2.2) (hm : ∀ j, m = some j → k < j) : Least rs (L ++ [q]) (some k) := by
  have inj : ∀ {i j : Nat} {r : Str × Str}, rs[i]? = some r → rs[j]? = some r → i = j := fun {i j r} h1 h2 => by
    obtain ⟨a1, b1⟩ := List.getElem?_eq_some_iff.mp h1
    obtain ⟨a2, b2⟩ := List.getElem?_eq_some_iff.mp h2
    rcases Nat.lt_trichotomy i j with c | c | c
    · exact absurd (b1.trans b2.symm) (List.pairwise_iff_getElem.mp T i j a1 a2 c)
    · exact c
    · exact absurd (b2.trans b1.symm) (List.pairwise_iff_getElem.mp T j i a2 a1 c)
  refine ⟨fun i ei => ?_, fun p hp i ei l3 l4 => ⟨k, rfl, ?_⟩⟩
  · cases ei
    exact ⟨q, List.mem_append_right _ (List.mem_singleton.mpr rfl), e, l1, l2⟩
  · rcases List.mem_append.mp hp with hp | hp
    · obtain ⟨j, ej, lj⟩ := h.le p hp i ei l3 l4
      have := hm j ej
      omega
    · rw [List.mem_singleton.mp hp] at ei
      have := inj e ei
      omega
end Jr
namespace Jr
open PySem PySem.Spec PyProof.Rows L2
section
variable {P : Program} {w : World} {K : PySem.W.Frag} {mg : Str → Option Value} {base : Heap}
def spMayBe : Sp := fun vs H Q _ => ∃ c : Nat, vs = [.str (sgn c)] ∧ Q (.bl (decide (32 ≤ c ∧ c ≤ 126 ∧ c ≠ 37))) H
theorem cal_may_be_sign (T : Tx K mg) : Cal P w K mg base CX0 1 "may_be_sign" spMayBe := by
  obtain ⟨fd, F⟩ := T.d_may_be_sign
  refine ⟨_, fd, P_may_be_sign, F.ok sc_may_be_sign (fun vs H Q E h => ?_) (fun cdv A outer s H vs Q E hr h => ?_), T.g_may_be_sign, F.kp, F.bindsN (ps := P_may_be_sign) fun _ _ _ _ _ _ us hl => match us, hl with | [_], _ => rfl⟩
  · obtain ⟨c, rfl, _⟩ := h
    rfl
  · obtain ⟨c, rfl, k⟩ := h
    refine ⟨_, (PSs.nox (pss_cons (ps_set (i := 1) sc_may_be_sign.nd rfl (Or.inl rfl) (pe_callB (id := "ord") call_ord (by rfl) T.n_ord (by decide +kernel) (pa_cons (pv 0) pa_nil)))
      (pss_one (ps_ret (pe_and (pe_chain op_le op_le (pe_glob (v := .int 32) (by rfl) T.c_BLANK_CODE.choose_spec ⟨_, rfl⟩) (pv 1) (pe_glob (v := .int 126) (by rfl) T.c_TILDE_CODE.choose_spec ⟨_, rfl⟩)) (pe_one (pe_cmpR op_ne (pv 1) (pe_glob (v := .int 37) (by rfl) T.c_PERCENT_CODE.choose_spec ⟨_, rfl⟩) (nomark _)))))))), ?_⟩
    refine ⟨_, rfl, _, rfl, rfl, ?_⟩
    have ec : (((sgn c).cps.getD 0 0 : Nat) : Int) = (c : Int) := rfl
    rw [ec]
    refine ⟨_, rfl, _, _, rfl, rfl, _, rfl, ite2 (fun c1 => ⟨_, _, rfl, rfl, _, rfl, ite2 (fun c2 => ⟨_, rfl, rfl, ?_⟩) (fun c2 => ?_)⟩) (fun c1 => ⟨_, rfl, iteF ?_⟩)⟩
    · have h1 : (32 : Int) ≤ c := of_decide_eq_true c1
      have h2 : (c : Int) ≤ 126 := of_decide_eq_true c2
      have e : (!decide (V.int (c : Int) = V.int 37)) = decide (32 ≤ c ∧ c ≤ 126 ∧ c ≠ 37) := by
        by_cases h3 : c = 37
        · subst h3; decide
        · have h4 : ¬ V.int (c : Int) = V.int 37 := fun z => h3 (by have := V.int.inj z; omega)
          rw [decide_eq_false h4, decide_eq_true ⟨by omega, by omega, h3⟩]; rfl
      show Q (V.bl (!decide (V.int (c : Int) = V.int 37))) H
      rw [e]
      exact k
    · have h2 : ¬ (c : Int) ≤ 126 := of_decide_eq_false (by simpa using c2)
      have e : decide (32 ≤ c ∧ c ≤ 126 ∧ c ≠ 37) = false := decide_eq_false (by omega)
      rw [e] at k
      exact k
    · have h1 : ¬ (32 : Int) ≤ c := of_decide_eq_false (by simpa using c1)
      have e : decide (32 ≤ c ∧ c ≤ 126 ∧ c ≠ 37) = false := decide_eq_false (by omega)
      rw [e] at k
      exact k
end
end Jr
namespace Jr
open PySem PySem.Spec PyProof.Rows L2
section
variable {P : Program} {w : World} {K : PySem.W.Frag} {mg : Str → Option Value} {base : Heap}
/-! ### may_be_sign, check_signs -/
def spCheckSigns : Sp := fun vs H Q _ => ∃ z : Str, vs = [.str z] ∧ SignsOk z ∧ 1 ≤ z.length ∧ z.length ≤ 12 ∧ ∀ H', Same H H' → Q .non H'
theorem cal_check_signs (T : Tx K mg) : Cal P w K mg base CX0 2 "check_signs" spCheckSigns := by
  have C_may_be_sign := cal_may_be_sign (P := P) (w := w) (base := base) T
  obtain ⟨fd, F⟩ := T.d_check_signs
  refine ⟨_, fd, P_check_signs, F.ok sc_check_signs (fun vs H Q E h => ?_) (fun cdv A outer s H vs Q E hr h => ?_), T.g_check_signs, F.kp, F.bindsN (ps := P_check_signs) fun _ _ _ _ _ _ us hl => match us, hl with | [_], _ => rfl⟩
  · obtain ⟨z, rfl, _⟩ := h
    rfl
  · obtain ⟨z, rfl, ok, z1, z12, k⟩ := h
    refine ⟨_, (PSs.nox (pss_cons (ps_if (PW.pt (pw_or (pt_not (pt_val (pe_callB (id := "isinstance") call_isi (by rfl) T.n_isinstance (by decide +kernel) (pa_cons (pv 0) (pa_cons (pe_bltn (v := .ty "str") (by rfl) T.n_str (by decide +kernel) rfl) pa_nil))))) (pw_or1 (pt_not (pt_chain op_le op_le pe_int (pe_callB (id := "len") call_len_str (by rfl) T.n_len (by decide +kernel) (pa_cons (pv 0) pa_nil)) (pe_glob (v := .int 12) (by rfl) T.c_MOST_SIGNS.choose_spec ⟨_, rfl⟩)))))) (pss_one ps_never) pss_nil)
      (pss_one (ps_for PassesOwn.never rfl (pi_enumS (by rfl) T.n_enumerate (pa_cons (pv 0) pa_nil)) (pg_tup rfl (pgs_cons (pg_name (i := 1) sc_check_signs.nd rfl (Or.inl rfl)) (pgs_cons (pg_name (i := 2) sc_check_signs.nd rfl (Or.inl rfl)) pgs_nil))) (pss_one (ps_if (PW.pt (pw_or (pt_not (pt_val (pe_cal C_may_be_sign (by first | exact hr | exact hr.mono (by decide)) (by rfl) (pa_cons (pv 2) pa_nil)))) (pw_or1 (pt_cmpR op_in_sign (pv 2) (pe_slice sl_str (pv 0) po_none (po_some (pv 1))) rfl)))) (pss_one ps_never) pss_nil)))))), ?_⟩
    have hz : z.length ≤ sizeLine := sz (by omega)
    refine ⟨_, rfl, _, _, _, _, _, rfl, .ty "str", .base (.str z), isStr, _, rfl, iteF ?_⟩
    refine ⟨_, rfl, _, rfl, hz, _, _, rfl, rfl, _, rfl, ?_⟩
    rw [decide_eq_true (show (1 : Int) ≤ (z.length : Int) by omega)]
    refine iteT ⟨_, _, rfl, rfl, _, rfl, ?_⟩
    rw [decide_eq_true (show (z.length : Int) ≤ 12 by omega)]
    refine iteF ?_
    refine ⟨_, rfl, z, rfl, for_enumS (x := z) (fun i σ H' => ∃ u v : Option V, σ = [some (.str z), u, v] ∧ Same H H') ⟨none, none, rfl, Same.refl H⟩ ?_ ?_⟩
    · rintro i c t σ H' hi ht ⟨u, v, rfl, sm⟩
      have oc := ok.ok c (List.mem_of_getElem? hi)
      have s2 := Same.put (o := .tup [.int (i : Nat), .str (sgn c)]) sm ht
      refine ⟨t, _, rfl, SqT.of upd_same, rfl, _, _, rfl, _, _, rfl, rfl, ?_⟩
      refine ⟨_, rfl, c, rfl, _, rfl, ?_⟩
      rw [decide_eq_true oc]
      refine iteF ⟨_, rfl, _, rfl, _, rfl, _, rfl, _, rfl, hz, c, _, rfl, rfl, _, rfl, ?_⟩
      have hn : ¬ c ∈ (cutS z none (some (i : Int))).cps.toList := by
        rw [cut_to]
        intro hm
        have e : z.cps.toList = z.cps.toList.take i ++ z.cps.toList.drop i := (List.take_append_drop _ _).symm
        have nd := ok.nd
        rw [e, List.nodup_append] at nd
        have hd : c ∈ z.cps.toList.drop i := by
          refine List.mem_of_getElem? (i := 0) ?_
          rw [List.getElem?_drop]
          exact hi
        exact nd.2.2 c hm c hd rfl
      rw [decide_eq_false hn]
      exact iteF ⟨_, _, rfl, s2⟩
    · rintro σ H' ⟨u, v, rfl, sm⟩
      exact k _ sm
/-! ### methods, while the table is being made -/
abbrev TC (K : PySem.W.Frag) : Addr := He.ga K "Table"
def spTakePiece (K : PySem.W.Frag) : Sp := fun vs H Q _ => ∃ (x dx : Addr) (z : Str) (lr lp dn dr : Addr) (ps : List Str) (p : Str), vs = [.ref x, .str p] ∧ H x = some (.ins (TC K) dx (tf5 z lr lp dn dr)) ∧ H lp = some (.lst (ps.map V.str)) ∧ H dn = some (.dK (numD 0 ps)) ∧
  ¬ p ∈ ps ∧ ps.length ≤ 1000 ∧ Q .non (upd (upd H dn (.dK (numD 0 (ps ++ [p])))) lp (.lst ((ps ++ [p]).map V.str)))
theorem met_take_piece (T : Tx K mg) : Met P w K mg base CX0 1 (TC K) "take_piece" (spTakePiece K) := by
  obtain ⟨fd, F⟩ := T.d_Table_take_piece
  refine ⟨T.cl_Table, _, fd, P_Table_take_piece, F.ok sc_Table_take_piece (fun vs H Q E h => ?_) (fun cdv A outer s H vs Q E hr h => ?_), T.m_Table_take_piece, F.bindsN (ps := P_Table_take_piece) fun _ _ _ _ _ _ us hl => match us, hl with | [_, _], _ => rfl⟩
  · obtain ⟨x, dx, z, lr, lp, dn, dr, ps, p, rfl, _⟩ := h
    rfl
  · obtain ⟨x, dx, z, lr, lp, dn, dr, ps, p, rfl, hx, hp, hn, np, hl, k⟩ := h
    refine ⟨_, (PSs.nox (pss_cons (ps_dput (hu_of hr) (pe_fld (pv 0) rfl) (pv 1) (pe_callB (id := "len") call_len_seq (by rfl) T.n_len (by decide +kernel) (pa_cons (pe_fld (pv 0) rfl) pa_nil)) rfl)
      (pss_one (ps_expr (pe_bm PySem.F.plainAttrs_list PySem.F.slot_list_append PySem.F.type_list_append mt_append (pe_fld (pv 0) rfl) (pa_cons (pv 1) pa_nil)))))), ?_⟩
    have nxn : x ≠ dn := ne_of hx hn (by intro q; cases q)
    have npn : lp ≠ dn := ne_of hp hn (by intro q; cases q)
    refine ⟨_, rfl, x, _, dx, _, _, rfl, hx, T.cl_Table, T.no_Table_piece_list, l5_pl _ _ _ _ _, _, _, rfl, .inl (SqL.of hp), _, rfl, x, _, dx, _, _, rfl, hx, T.cl_Table, T.no_Table_number_by_piece, l5_num _ _ _ _ _, _, rfl, dn, _, rfl, DPut.k (k := Sum.inr p) hn ?_, ?_⟩
    · rw [numD_len]; exact szl (by omega)
    rw [putK_new _ (numD_none 0 ps p np), List.length_map]
    have e : numD 0 ps ++ [(Sum.inr p, V.int ((ps.length : Nat) : Int))] = numD 0 (ps ++ [p]) := by rw [numD_snoc, Nat.zero_add]
    rw [e]
    refine ⟨_, rfl, x, _, dx, _, _, rfl, (by rw [upd_ne nxn]; exact hx), T.cl_Table, T.no_Table_piece_list, l5_pl _ _ _ _ _, .inl ⟨rfl, _, SqL.of (by rw [upd_ne npn]; exact hp)⟩, _, rfl, lp, _, _, rfl, rfl, (by rw [upd_ne npn]; exact hp), ?_, ?_⟩
    · rw [List.length_map]; exact szl (by omega)
    · have e2 : ps.map V.str ++ [V.str p] = (ps ++ [p]).map V.str := by rw [List.map_append]; rfl
      rw [e2]
      exact k
/-- which: of a text its number, of all else None -/
def spWhich (K : PySem.W.Frag) : Sp := fun vs H Q _ => ∃ (x dx : Addr) (fs : List (Str × V)) (dn : Addr) (ps : List Str) (v : V), vs = [.ref x, v] ∧ H x = some (.ins (TC K) dx fs) ∧ fs.lookup ("number_by_piece" : Str) = some (.ref dn) ∧ H dn = some (.dK (numD 0 ps)) ∧
  ((∃ p : Str, v = .str p ∧ Q ((valV (numD 0 ps) (Sum.inr p)).getD .non) H) ∨ (NoStr K H v ∧ Q .non H))
theorem met_which (T : Tx K mg) : Met P w K mg base CX0 1 (TC K) "which" (spWhich K) := by
  obtain ⟨fd, F⟩ := T.d_Table_which
  refine ⟨T.cl_Table, _, fd, P_Table_which, F.ok sc_Table_which (fun vs H Q E h => ?_) (fun cdv A outer s H vs Q E hr h => ?_), T.m_Table_which, F.bindsN (ps := P_Table_which) fun _ _ _ _ _ _ us hl => match us, hl with | [_, _], _ => rfl⟩
  · obtain ⟨x, dx, fs, dn, ps, v, rfl, _⟩ := h
    rfl
  · obtain ⟨x, dx, fs, dn, ps, v, rfl, hx, hf, hn, k⟩ := h
    refine ⟨_, (PSs.nox (pss_cons (ps_if (pt_not (pt_val (pe_callB (id := "isinstance") call_isi (by rfl) T.n_isinstance (by decide +kernel) (pa_cons (pv 1) (pa_cons (pe_bltn (v := .ty "str") (by rfl) T.n_str (by decide +kernel) rfl) pa_nil))))) (pss_one (ps_ret pe_non)) pss_nil)
      (pss_one (ps_ret (pe_dget1 (hu_of hr) (pe_fld (pv 0) rfl) (pv 1) ⟨by rfl, by rfl, by rfl, by rfl⟩))))), ?_⟩
    rcases k with ⟨p, rfl, k⟩ | ⟨⟨t, ht, hk⟩, k⟩
    · refine ⟨_, rfl, _, _, _, _, _, rfl, .ty "str", .base (.str p), isStr, _, rfl, iteF ?_⟩
      exact ⟨_, rfl, x, _, dx, _, _, rfl, hx, T.cl_Table, T.no_Table_number_by_piece, hf, dn, rfl, .inl ⟨_, .inl hn⟩, _, rfl, _, DGet.k (k := Sum.inr p) hn, k⟩
    · exact ⟨_, rfl, _, _, _, _, _, rfl, .ty "str", ht, hk, _, rfl, iteT k⟩
def spMayTake (K : PySem.W.Frag) : Sp := fun vs H Q _ => ∃ (x dx : Addr) (z : Str) (lr lp dn dr : Addr) (ps : List Str) (a : Addr) (l r : Str), vs = [.ref x, .ref a] ∧ H x = some (.ins (TC K) dx (tf5 z lr lp dn dr)) ∧ H dn = some (.dK (numD 0 ps)) ∧ ps.Nodup ∧
  H a = some (.tup [.str l, .str r]) ∧ l ∈ ps ∧ r ∈ ps ∧ (l ++ r).length ≤ 16 ∧ ¬ (l ++ r) ∈ ps ∧ Q (.bl true) H
theorem num_some {ps : List Str} {p : Str} (nd : ps.Nodup) (h : p ∈ ps) : ∃ i : Nat, ps[i]? = some p ∧ valV (numD 0 ps) (Sum.inr p) = some (V.int (i : Nat)) := by
  obtain ⟨i, hi, e⟩ := List.mem_iff_getElem.mp h
  have e2 : ps[i]? = some p := by rw [List.getElem?_eq_getElem hi, e]
  have e3 := numD_at 0 ps p i nd e2
  rw [Nat.zero_add] at e3
  exact ⟨i, e2, e3⟩
theorem met_may_take_row (T : Tx K mg) : Met P w K mg base CX0 2 (TC K) "may_take_row" (spMayTake K) := by
  have M_Table_which := met_which (P := P) (w := w) (base := base) T
  obtain ⟨fd, F⟩ := T.d_Table_may_take_row
  refine ⟨T.cl_Table, _, fd, P_Table_may_take_row, F.ok sc_Table_may_take_row (fun vs H Q E h => ?_) (fun cdv A outer s H vs Q E hr h => ?_), T.m_Table_may_take_row, F.bindsN (ps := P_Table_may_take_row) fun _ _ _ _ _ _ us hl => match us, hl with | [_, _], _ => rfl⟩
  · obtain ⟨x, dx, z, lr, lp, dn, dr, ps, a, l, r, rfl, _⟩ := h
    rfl
  · obtain ⟨x, dx, z, lr, lp, dn, dr, ps, a, l, r, rfl, hx, hn, nd, ha, hl, hr', hlen, hnew, k⟩ := h
    refine ⟨_, (PSs.nox (pss_cons (ps_if (PW.pt (pw_or (pt_not (pt_val (pe_callB (id := "isinstance") call_isi (by rfl) T.n_isinstance (by decide +kernel) (pa_cons (pv 1) (pa_cons (pe_bltn (v := .ty "tuple") (by rfl) T.n_tuple (by decide +kernel) rfl) pa_nil))))) (pw_or1 (pt_cmpR op_ne (pe_callB (id := "len") call_len_seq (by rfl) T.n_len (by decide +kernel) (pa_cons (pv 1) pa_nil)) pe_int (nomark _))))) (pss_one (ps_ret pe_bl)) pss_nil)
      (pss_cons (ps_asg (pv 1) (pg_tup rfl (pgs_cons (pg_name (i := 2) sc_Table_may_take_row.nd rfl (Or.inl rfl)) (pgs_cons (pg_name (i := 3) sc_Table_may_take_row.nd rfl (Or.inl rfl)) pgs_nil))))
      (pss_cons (ps_if (PW.pt (pw_or (pt_cmpR op_isN (pe_met M_Table_which (pv 0) (by first | exact hr | exact hr.mono (by decide)) (pa_cons (pv 2) pa_nil)) pe_non (nomark _)) (pw_or1 (pt_cmpR op_isN (pe_met M_Table_which (pv 0) (by first | exact hr | exact hr.mono (by decide)) (pa_cons (pv 3) pa_nil)) pe_non (nomark _))))) (pss_one (ps_ret pe_bl)) pss_nil)
      (pss_cons (ps_set (i := 4) sc_Table_may_take_row.nd rfl (Or.inl rfl) (pe_op op_add_str (pv 2) (pv 3)))
      (pss_one (ps_ret (pe_and (pe_cmpR op_le (pe_callB (id := "len") call_len_str (by rfl) T.n_len (by decide +kernel) (pa_cons (pv 4) pa_nil)) (pe_glob (v := .int 16) (by rfl) T.c_MOST_JOINED.choose_spec ⟨_, rfl⟩) (nomark _)) (pe_one (pe_cmpR op_isN (pe_met M_Table_which (pv 0) (by first | exact hr | exact hr.mono (by decide)) (pa_cons (pv 4) pa_nil)) pe_non (nomark _))))))))))), ?_⟩
    obtain ⟨i, _, ei⟩ := num_some nd hl
    obtain ⟨j, _, ej⟩ := num_some nd hr'
    have la := app_len l r
    refine ⟨_, rfl, _, _, _, _, _, rfl, .ty "tuple", .base (.tup ha), isTup, _, rfl, iteF ⟨_, rfl, a, _, rfl, .inr (SqT.of ha), rfl, _, rfl, iteF ?_⟩⟩
    refine ⟨_, rfl, a, _, rfl, SqT.of ha, rfl, _, _, rfl, _, _, rfl, rfl, ?_⟩
    refine ⟨_, rfl, x, dx, _, rfl, hx, l5_which _ _ _ _ _, _, rfl, x, dx, _, dn, ps, _, rfl, hx, l5_num _ _ _ _ _, hn, .inl ⟨l, rfl, ?_⟩⟩
    rw [ei]
    refine ⟨rfl, _, rfl, iteF ?_⟩
    refine ⟨_, rfl, x, dx, _, rfl, hx, l5_which _ _ _ _ _, _, rfl, x, dx, _, dn, ps, _, rfl, hx, l5_num _ _ _ _ _, hn, .inl ⟨r, rfl, ?_⟩⟩
    rw [ej]
    refine ⟨rfl, _, rfl, iteF ?_⟩
    refine ⟨_, rfl, _, rfl, _, _, rfl, rfl, sz (by omega), ?_⟩
    refine ⟨_, rfl, _, rfl, sz (by omega), _, _, rfl, rfl, _, rfl, ?_⟩
    rw [decide_eq_true (show ((l ++ r).length : Int) ≤ 16 by omega)]
    refine iteT ⟨_, rfl, x, dx, _, rfl, hx, l5_which _ _ _ _ _, _, rfl, x, dx, _, dn, ps, _, rfl, hx, l5_num _ _ _ _ _, hn, .inl ⟨l ++ r, rfl, ?_⟩⟩
    rw [numD_none 0 ps _ hnew]
    exact ⟨rfl, k⟩
def spTakeRow (K : PySem.W.Frag) : Sp := fun vs H Q _ => ∃ (x dx : Addr) (z : Str) (lr lp dn dr : Addr) (ps : List Str) (as : List Addr) (rs : Rws) (a : Addr) (l r : Str), vs = [.ref x, .ref a] ∧ H x = some (.ins (TC K) dx (tf5 z lr lp dn dr)) ∧
  H lr = some (.lst (as.map V.ref)) ∧ lr ≠ lp ∧ H lp = some (.lst (ps.map V.str)) ∧ H dn = some (.dK (numD 0 ps)) ∧ H dr = some (.dT (rankD 0 rs)) ∧ as.length = rs.length ∧ rs.length ≤ 1000 ∧ ps.length ≤ 1000 ∧
  H a = some (.tup [.str l, .str r]) ∧ ¬ (l ++ r) ∈ ps ∧ (l ++ r).length ≤ 1000 ∧ ¬ (l, r) ∈ rs ∧
  ∀ H' t, (∀ b o, b ≠ lr → b ≠ lp → b ≠ dn → b ≠ dr → H b = some o → H' b = some o) → H t = none → H' t = some (.tup [.str l, .str r]) → H' lr = some (.lst ((as ++ [t]).map V.ref)) → H' lp = some (.lst ((ps ++ [l ++ r]).map V.str)) →
    H' dn = some (.dK (numD 0 (ps ++ [l ++ r]))) → H' dr = some (.dT (rankD 0 (rs ++ [(l, r)]))) → Q .non H'
theorem met_take_row (T : Tx K mg) : Met P w K mg base CX0 2 (TC K) "take_row" (spTakeRow K) := by
  have M_Table_take_piece := met_take_piece (P := P) (w := w) (base := base) T
  obtain ⟨fd, F⟩ := T.d_Table_take_row
  refine ⟨T.cl_Table, _, fd, P_Table_take_row, F.ok sc_Table_take_row (fun vs H Q E h => ?_) (fun cdv A outer s H vs Q E hr h => ?_), T.m_Table_take_row, F.bindsN (ps := P_Table_take_row) fun _ _ _ _ _ _ us hl => match us, hl with | [_, _], _ => rfl⟩
  · obtain ⟨x, dx, z, lr, lp, dn, dr, ps, as, rs, a, l, r, rfl, _⟩ := h
    rfl
  · obtain ⟨x, dx, z, lr, lp, dn, dr, ps, as, rs, a, l, r, rfl, hx, hlr, nrp, hlp, hdn, hdr, hl1, hl2, hl3, ha, hnew, hlen, hnr, k⟩ := h
    refine ⟨_, (PSs.nox (pss_cons (ps_asg (pv 1) (pg_tup rfl (pgs_cons (pg_name (i := 2) sc_Table_take_row.nd rfl (Or.inl rfl)) (pgs_cons (pg_name (i := 3) sc_Table_take_row.nd rfl (Or.inl rfl)) pgs_nil))))
      (pss_cons (ps_dput (hu_of hr) (pe_fld (pv 0) rfl) (pe_tup (pa_cons (pv 2) (pa_cons (pv 3) pa_nil))) (pe_callB (id := "len") call_len_seq (by rfl) T.n_len (by decide +kernel) (pa_cons (pe_fld (pv 0) rfl) pa_nil)) rfl)
      (pss_cons (ps_expr (pe_bm PySem.F.plainAttrs_list PySem.F.slot_list_append PySem.F.type_list_append mt_append (pe_fld (pv 0) rfl) (pa_cons (pe_tup (pa_cons (pv 2) (pa_cons (pv 3) pa_nil))) pa_nil)))
      (pss_one (ps_expr (pe_met M_Table_take_piece (pv 0) (by first | exact hr | exact hr.mono (by decide)) (pa_cons (pe_op op_add_str (pv 2) (pv 3)) pa_nil)))))))), ?_⟩
    have la := app_len l r
    have x1 : x ≠ lr := ne_of hx hlr (by intro q; cases q)
    have x2 : x ≠ lp := ne_of hx hlp (by intro q; cases q)
    have x3 : x ≠ dn := ne_of hx hdn (by intro q; cases q)
    have x4 : x ≠ dr := ne_of hx hdr (by intro q; cases q)
    have r1 : lr ≠ dn := ne_of hlr hdn (by intro q; cases q)
    have r2 : lr ≠ dr := ne_of hlr hdr (by intro q; cases q)
    have p1 : lp ≠ dn := ne_of hlp hdn (by intro q; cases q)
    have p2 : lp ≠ dr := ne_of hlp hdr (by intro q; cases q)
    have d1 : dn ≠ dr := ne_of hdn hdr (by intro q; cases q)
    refine ⟨_, rfl, a, _, rfl, SqT.of ha, rfl, _, _, rfl, _, _, rfl, rfl, ?_⟩
    refine ⟨_, rfl, x, _, dx, _, _, rfl, hx, T.cl_Table, T.no_Table_row_list, l5_rl _ _ _ _ _, _, _, rfl, .inl (SqL.of hlr), _, rfl, x, _, dx, _, _, rfl, hx, T.cl_Table, T.no_Table_rank_by_row, l5_rk _ _ _ _ _, ?_⟩
    refine ⟨_, rfl, _, rfl, (by show 2 ≤ sizeLine; decide), fun t ht => ?_⟩
    have tr : t ≠ dr := fun e => by rw [e, hdr] at ht; cases ht
    have s1 := Same.new (o := .tup [V.str l, V.str r]) ht
    refine ⟨dr, _, rfl, DPut.t (k := [Sum.inr l, Sum.inr r]) (s1 _ _ hdr) upd_same ?_, ?_⟩
    · rw [rankD_len]; exact szl (by omega)
    rw [putK_new _ (rankD_none 0 rs l r hnr), List.length_map, hl1]
    have e : rankD 0 rs ++ [([Sum.inr l, Sum.inr r], V.int ((rs.length : Nat) : Int))] = rankD 0 (rs ++ [(l, r)]) := by rw [rankD_snoc, Nat.zero_add]
    rw [e]
    refine ⟨_, rfl, x, _, dx, _, _, rfl, (by rw [upd_ne x4]; exact s1 _ _ hx), T.cl_Table, T.no_Table_row_list, l5_rl _ _ _ _ _, .inl ⟨rfl, _, SqL.of (by rw [upd_ne r2]; exact s1 _ _ hlr)⟩, _, rfl, _, rfl, (by show 2 ≤ sizeLine; decide), fun u hu => ?_⟩
    have hu1 : (upd H t (.tup [V.str l, V.str r])) u = none := by
      by_cases e1 : u = dr
      · rw [e1, upd_same] at hu; cases hu
      · rw [upd_ne e1] at hu; exact hu
    have huH : H u = none := s1.free hu1
    have ut : u ≠ t := fun e1 => by rw [e1, upd_same] at hu1; cases hu1
    have ur : u ≠ lr := fun e1 => by rw [e1, hlr] at huH; cases huH
    have up : u ≠ lp := fun e1 => by rw [e1, hlp] at huH; cases huH
    have un : u ≠ dn := fun e1 => by rw [e1, hdn] at huH; cases huH
    have ud : u ≠ dr := fun e1 => by rw [e1, hdr] at huH; cases huH
    have ux : u ≠ x := fun e1 => by rw [e1, hx] at huH; cases huH
    refine ⟨lr, _, _, rfl, rfl, (by rw [upd_ne (Ne.symm ur), upd_ne r2]; exact s1 _ _ hlr), ?_, ?_⟩
    · rw [List.length_map, hl1]; exact szl (by omega)
    have hx2 : (upd (upd (upd (upd H t (.tup [V.str l, V.str r])) dr (.dT (rankD 0 (rs ++ [(l, r)])))) u (.tup [V.str l, V.str r])) lr (.lst (as.map V.ref ++ [V.ref u]))) x = some (.ins (TC K) dx (tf5 z lr lp dn dr)) := by
      rw [upd_ne x1, upd_ne (Ne.symm ux), upd_ne x4]; exact s1 _ _ hx
    refine ⟨_, rfl, x, dx, _, rfl, hx2, l5_tp _ _ _ _ _, _, rfl, _, rfl, _, _, rfl, rfl, sz (by omega), x, dx, z, lr, lp, dn, dr, ps, l ++ r, rfl, hx2, ?_, ?_, hnew, hl3, ?_⟩
    · rw [upd_ne (Ne.symm nrp), upd_ne (Ne.symm up), upd_ne p2]; exact s1 _ _ hlp
    · rw [upd_ne (Ne.symm r1), upd_ne (Ne.symm un), upd_ne d1]; exact s1 _ _ hdn
    · refine k _ u (fun b o b1 b2 b3 b4 hb => ?_) huH ?_ ?_ upd_same ?_ ?_
      · have bu : b ≠ u := ne_of_none hb huH
        rw [upd_ne b2, upd_ne b3, upd_ne b1, upd_ne bu, upd_ne b4]; exact s1 _ _ hb
      · rw [upd_ne up, upd_ne un, upd_ne ur, upd_same]
      · rw [upd_ne nrp, upd_ne r1, upd_same, List.map_append]; rfl
      · rw [upd_ne (Ne.symm p1), upd_same]
      · rw [upd_ne (Ne.symm p2), upd_ne (Ne.symm d1), upd_ne (Ne.symm r2), upd_ne (Ne.symm ud), upd_same]
end
end Jr
namespace Jr
open PySem PySem.Spec PyProof.Rows L2
/-- a table that is being made -/
structure Mid (K : PySem.W.Frag) (H0 H : Hp) (x dx : Addr) (z : Str) (lr lp dn dr : Addr) (as : List Addr) (ps : List Str) (rs : Rws) : Prop where
  hx : H x = some (.ins (TC K) dx (tf5 z lr lp dn dr))
  hlr : H lr = some (.lst (as.map V.ref))
  hts : Paired (TupAt H) as rs
  hlp : H lp = some (.lst (ps.map V.str))
  hdn : H dn = some (.dK (numD 0 ps))
  hdr : H dr = some (.dT (rankD 0 rs))
  sm : Same H0 H
  fra : ∀ a ∈ as, H0 a = none
structure Fre (H0 : Hp) (x lr lp dn dr : Addr) : Prop where
  fx : H0 x = none
  flr : H0 lr = none
  flp : H0 lp = none
  fdn : H0 dn = none
  fdr : H0 dr = none
  rp : lr ≠ lp
theorem Mid.new {K : PySem.W.Frag} {H0 H : Hp} {x dx : Addr} {z : Str} {lr lp dn dr t : Addr} {as : List Addr} {ps : List Str} {rs : Rws} {o : HO} (M : Mid K H0 H x dx z lr lp dn dr as ps rs) (ht : H t = none) : Mid K H0 (upd H t o) x dx z lr lp dn dr as ps rs :=
  ⟨Same.new ht _ _ M.hx, Same.new ht _ _ M.hlr, TupAt.same (Same.new ht) M.hts, Same.new ht _ _ M.hlp, Same.new ht _ _ M.hdn, Same.new ht _ _ M.hdr, Same.put M.sm ht, M.fra⟩
theorem Mid.piece {K : PySem.W.Frag} {H0 H : Hp} {x dx : Addr} {z : Str} {lr lp dn dr : Addr} {as : List Addr} {ps : List Str} {rs : Rws} {p : Str} (F : Fre H0 x lr lp dn dr) (M : Mid K H0 H x dx z lr lp dn dr as ps rs) :
    Mid K H0 (upd (upd H dn (.dK (numD 0 (ps ++ [p])))) lp (.lst ((ps ++ [p]).map V.str))) x dx z lr lp dn dr as (ps ++ [p]) rs := by
  have x2 : x ≠ lp := ne_of M.hx M.hlp (by intro q; cases q)
  have x3 : x ≠ dn := ne_of M.hx M.hdn (by intro q; cases q)
  have r1 : lr ≠ dn := ne_of M.hlr M.hdn (by intro q; cases q)
  have p1 : lp ≠ dn := ne_of M.hlp M.hdn (by intro q; cases q)
  have p2 : lp ≠ dr := ne_of M.hlp M.hdr (by intro q; cases q)
  have d1 : dn ≠ dr := ne_of M.hdn M.hdr (by intro q; cases q)
  refine ⟨?_, ?_, ?_, upd_same, ?_, ?_, ?_, M.fra⟩
  · rw [upd_ne x2, upd_ne x3]; exact M.hx
  · rw [upd_ne F.rp, upd_ne r1]; exact M.hlr
  · refine L2.Paired.mapP M.hts fun b r hb => ?_
    show upd _ _ _ b = _
    have hb2 : H b = _ := hb
    have b1 : b ≠ lp := ne_of hb2 M.hlp (by intro q; cases q)
    have b2 : b ≠ dn := ne_of hb2 M.hdn (by intro q; cases q)
    rw [upd_ne b1, upd_ne b2]
    exact hb
  · rw [upd_ne (Ne.symm p1), upd_same]
  · rw [upd_ne (Ne.symm p2), upd_ne (Ne.symm d1)]; exact M.hdr
  · exact Same.mut (Same.mut M.sm F.fdn) F.flp
/-- a made table, all of it new behind H0 -/
def TabFr (C : Addr) (H0 H : Hp) (x : Addr) (z : Str) (rs : Rws) : Prop := ∃ (dx lr lp dn dr : Addr) (m : Nat) (as : List Addr), H x = some (.ins C dx (tf6 z lr lp dn dr (m : Int))) ∧ H lr = some (.lst (as.map V.ref)) ∧ Paired (TupAt H) as rs ∧ H lp = some (.lst ((pcs z rs).map V.str)) ∧ H dn = some (.dK (numD 0 (pcs z rs))) ∧ H dr = some (.dT (rankD 0 rs)) ∧
  (∃ p ∈ pcs z rs, p.length = m) ∧ (∀ p ∈ pcs z rs, p.length ≤ m) ∧ TabOk z rs ∧ H0 x = none ∧ H0 lr = none ∧ H0 lp = none ∧ H0 dn = none ∧ H0 dr = none ∧ ∀ a ∈ as, H0 a = none
theorem TabFr.tab {C : Addr} {H0 H : Hp} {x : Addr} {z : Str} {rs : Rws} (h : TabFr C H0 H x z rs) : TabAt C H x z rs := by
  obtain ⟨dx, lr, lp, dn, dr, m, as, h1, h2, h2', h3, h4, h5, h6, h7, ok, _⟩ := h
  exact ⟨⟨dx, lr, lp, dn, dr, m, h1, ⟨as, h2, h2'⟩, h3, h4, h5, h6, h7⟩, ok⟩
/-- what is done to objects that stood ahead leaves the table -/
theorem TabFr.keep {C : Addr} {H0 H H' : Hp} {x : Addr} {z : Str} {rs : Rws} (h : TabFr C H0 H x z rs) (k : ∀ b o, H0 b = none → H b = some o → H' b = some o) : TabFr C H0 H' x z rs := by
  obtain ⟨dx, lr, lp, dn, dr, m, as, h1, h2, h2', h3, h4, h5, h6, h7, ok, f1, f2, f3, f4, f5, f6⟩ := h
  refine ⟨dx, lr, lp, dn, dr, m, as, k _ _ f1 h1, k _ _ f2 h2, ?_, k _ _ f3 h3, k _ _ f4 h4, k _ _ f5 h5, h6, h7, ok, f1, f2, f3, f4, f5, f6⟩
  have key : ∀ {l : List Addr} {r : Rws}, Paired (TupAt H) l r → (∀ a ∈ l, H0 a = none) → Paired (TupAt H') l r := fun {l r} hp => by
    induction hp with
    | nil => intro _; exact .nil
    | cons q _ ih => intro hf; exact .cons (k _ _ (hf _ List.mem_cons_self) q) (ih fun a ha => hf a (List.mem_cons_of_mem _ ha))
  exact key h2' f6
theorem TabFr.same {C : Addr} {H0 H H' : Hp} {x : Addr} {z : Str} {rs : Rws} (h : TabFr C H0 H x z rs) (s : Same H H') : TabFr C H0 H' x z rs := h.keep fun b o _ e => s b o e
def spTInit2 (K : PySem.W.Frag) : Sp := fun vs H Q _ => ∃ (H0 : Hp) (x dx pr : Addr) (z : Str) (rs : Rws), vs = [.ref x, .str z, .ref pr] ∧ H = upd (upd H0 dx (.own x)) x (.ins (TC K) dx []) ∧ H0 x = none ∧ H0 dx = none ∧ dx ≠ x ∧ RowsAt H0 pr rs ∧ TabOk z rs ∧
  ∀ H', Same H0 H' → TabFr (TC K) H0 H' x z rs → Q .non H'
def spTInit (K : PySem.W.Frag) : Sp := fun vs H Q _ => ∃ (H0 : Hp) (x dx pr : Addr) (z : Str) (rs : Rws), vs = [.ref x, .str z, .ref pr] ∧ H = upd (upd H0 dx (.own x)) x (.ins (TC K) dx []) ∧ H0 x = none ∧ H0 dx = none ∧ dx ≠ x ∧ RowsAt H0 pr rs ∧ TabOk z rs ∧
  ∀ H', Same H0 H' → TabAt (TC K) H' x z rs → Q .non H'
theorem list_max : ∀ (l : List Str), l ≠ [] → ∃ p ∈ l, ∀ q ∈ l, q.length ≤ p.length
  | [], h => absurd rfl h
  | [a], _ => ⟨a, List.mem_cons_self, fun q hq => by rw [List.mem_singleton.mp hq]; exact Nat.le_refl _⟩
  | a :: b :: l, _ => by
    obtain ⟨p, hp, hm⟩ := list_max (b :: l) (by simp)
    by_cases h : p.length ≤ a.length
    · exact ⟨a, List.mem_cons_self, fun q hq => by
        rcases List.mem_cons.mp hq with e | e
        · rw [e]; exact Nat.le_refl _
        · exact Nat.le_trans (hm q e) h⟩
    · exact ⟨p, List.mem_cons_of_mem _ hp, fun q hq => by
        rcases List.mem_cons.mp hq with e | e
        · rw [e]; omega
        · exact hm q e⟩
section
variable {P : Program} {w : World} {K : PySem.W.Frag} {mg : Str → Option Value} {base : Heap}
theorem mkc_Table2 (T : Tx K mg) : Mkc P w K mg base CX0 3 "Table" (TC K) (spTInit2 K) := by
  have C_check_signs := cal_check_signs (P := P) (w := w) (base := base) T
  have M_Table_take_piece := met_take_piece (P := P) (w := w) (base := base) T
  have M_Table_may_take_row := met_may_take_row (P := P) (w := w) (base := base) T
  have M_Table_take_row := met_take_row (P := P) (w := w) (base := base) T
  obtain ⟨fd, F⟩ := T.d_Table___init__
  refine ⟨⟨_, fd, P_Table___init__, F.ok sc_Table___init__ (fun vs H Q E h => ?_) (fun cdv A outer s H vs Q E hr h => ?_), T.mk_Table, F.bindsN (ps := P_Table___init__) fun _ _ _ _ _ _ us hl => match us, hl with | [_, _, _], _ => rfl⟩, T.g_Table⟩
  · obtain ⟨H0, x, dx, pr, z, rs, rfl, _⟩ := h
    rfl
  · obtain ⟨H0, x, dx, pr, z, rs, rfl, rfl, x0, dx0, ndx, ⟨as0, hpr, hts0⟩, tk, k⟩ := h
    refine ⟨_, (PSs.nox (pss_cons (ps_expr (pe_cal C_check_signs (by first | exact hr | exact hr.mono (by decide)) (by rfl) (pa_cons (pv 1) pa_nil)))
      (pss_cons (ps_if (PW.pt (pw_or (pt_not (pt_val (pe_callB (id := "isinstance") call_isi (by rfl) T.n_isinstance (by decide +kernel) (pa_cons (pv 2) (pa_cons (pe_bltn (v := .ty "list") (by rfl) T.n_list (by decide +kernel) rfl) pa_nil))))) (pw_or1 (pt_cmpR op_gt (pe_callB (id := "len") call_len_seq (by rfl) T.n_len (by decide +kernel) (pa_cons (pv 2) pa_nil)) (pe_glob (v := .int 24) (by rfl) T.c_MOST_ROWS.choose_spec ⟨_, rfl⟩) (nomark _))))) (pss_one ps_never) pss_nil)
      (pss_cons (ps_fld (pv 0) (pv 1) rfl)
      (pss_cons (ps_fld (pv 0) (pe_lst pa_nil) rfl)
      (pss_cons (ps_fld (pv 0) (pe_lst pa_nil) rfl)
      (pss_cons (ps_fld (pv 0) pe_dnewK rfl)
      (pss_cons (ps_fld (pv 0) pe_dnewT rfl)
      (pss_cons (ps_for PassesOwn.never rfl (pi_str (pv 1)) (pg_name (i := 3) sc_Table___init__.nd rfl (Or.inl rfl)) (pss_one (ps_expr (pe_met M_Table_take_piece (pv 0) (by first | exact hr | exact hr.mono (by decide)) (pa_cons (pv 3) pa_nil)))))
      (pss_cons (ps_for PassesOwn.never rfl (pi_enum (by rfl) T.n_enumerate (pa_cons (pv 2) pa_nil)) (pg_tup rfl (pgs_cons (pg_name (i := 4) sc_Table___init__.nd rfl (Or.inl rfl)) (pgs_cons (pg_name (i := 5) sc_Table___init__.nd rfl (Or.inl rfl)) pgs_nil))) (pss_cons (ps_if (pt_not (pt_val (pe_met M_Table_may_take_row (pv 0) (by first | exact hr | exact hr.mono (by decide)) (pa_cons (pv 5) pa_nil)))) (pss_one ps_never) pss_nil)
      (pss_one (ps_expr (pe_met M_Table_take_row (pv 0) (by first | exact hr | exact hr.mono (by decide)) (pa_cons (pv 5) pa_nil))))))
      (pss_one (ps_fld (pv 0) (pe_callB (id := "max") (cr_max rfl) (by rfl) T.n_max (by decide +kernel) (pa_cons (pe_lc (own := [("piece", 6)]) (g := gName 6) (by rfl) sc_Table___init__.nd (pi_list (pe_fld (pv 0) rfl)) (blkOk_by (own := [("piece", 6)]) (N := N_Table___init__) (sc := defScope s_Table___init__) (by decide +kernel)) (fun _ _ _ _ _ => (pg_name (i := 6) sc_Table___init__.nd rfl (Or.inl rfl))) (fun _ _ _ _ _ => pts_nil) (fun _ _ _ _ _ => (pe_callB (id := "len") call_len_str (by rfl) T.n_len (by decide +kernel) (pa_cons (pv 6) pa_nil)))) pa_nil)) rfl)))))))))))), ?_⟩
    have n12 := tk.n12
    have n1 := tk.n1
    have many := tk.many
    have s00 : Same H0 (upd (upd H0 dx (.own x)) x (.ins (TC K) dx [])) := Same.mut (Same.new dx0) x0
    refine ⟨_, rfl, z, rfl, tk.sg, tk.n1, tk.n12, fun H1 s1 => ?_⟩
    have hx1 : H1 x = some (.ins (TC K) dx []) := s1 _ _ upd_same
    have s01 := s00.trans s1
    have hpr1 : H1 pr = some (.lst (as0.map V.ref)) := s01 _ _ hpr
    refine ⟨_, rfl, _, _, _, _, _, rfl, .ty "list", .base (.lst hpr1), isLst, _, rfl, iteF ⟨_, rfl, _, _, rfl, .inl (SqL.of hpr1), _, _, rfl, rfl, _, rfl, ?_⟩⟩
    rw [decide_eq_false (show ¬ (24 : Int) < ((as0.map V.ref).length : Nat) by rw [List.length_map, Paired.len hts0]; omega)]
    refine iteF ⟨_, rfl, _, rfl, x, _, dx, _, rfl, hx1, T.cl_Table, T.no_Table_sign_text, (by show 0 < 1000; decide), ?_⟩
    have s02 := Same.mut (o := .ins (TC K) dx (putF "sign_text" (.str z) [])) s01 x0
    refine ⟨Nat.zero_le _, fun lr hlr => ⟨_, rfl, x, _, dx, _, rfl, Same.new hlr _ _ upd_same, T.cl_Table, T.no_Table_row_list, (by show 1 < 1000; decide), ?_⟩⟩
    have s03 := Same.mut (o := .ins (TC K) dx (putF "row_list" (.ref lr) (putF "sign_text" (.str z) []))) (Same.put (o := .lst []) s02 hlr) x0
    refine ⟨Nat.zero_le _, fun lp hlp => ⟨_, rfl, x, _, dx, _, rfl, Same.new hlp _ _ upd_same, T.cl_Table, T.no_Table_piece_list, (by show 2 < 1000; decide), ?_⟩⟩
    have s04 := Same.mut (o := .ins (TC K) dx (putF "piece_list" (.ref lp) (putF "row_list" (.ref lr) (putF "sign_text" (.str z) [])))) (Same.put (o := .lst []) s03 hlp) x0
    intro dn hdn
    refine ⟨_, rfl, x, _, dx, _, rfl, Same.new hdn _ _ upd_same, T.cl_Table, T.no_Table_number_by_piece, (by show 3 < 1000; decide), ?_⟩
    have s05 := Same.mut (o := .ins (TC K) dx (putF "number_by_piece" (.ref dn) (putF "piece_list" (.ref lp) (putF "row_list" (.ref lr) (putF "sign_text" (.str z) []))))) (Same.put (o := .dK []) s04 hdn) x0
    intro dr hdr
    refine ⟨_, rfl, x, _, dx, _, rfl, Same.new hdr _ _ upd_same, T.cl_Table, T.no_Table_rank_by_row, (by show 4 < 1000; decide), ?_⟩
    rw [l5_put]
    have s06 := Same.mut (o := .ins (TC K) dx (tf5 z lr lp dn dr)) (Same.put (o := .dT []) s05 hdr) x0
    have fr : Fre H0 x lr lp dn dr := ⟨x0, s02.free hlr, s03.free hlp, s04.free hdn, s05.free hdr, fun e => by
      rw [← e] at hlp
      have xl : lr ≠ x := fun e2 => by rw [e2, upd_same] at hlr; cases hlr
      rw [upd_ne xl, upd_same] at hlp
      cases hlp⟩
    have xlr : lr ≠ x := fun e2 => by rw [e2, upd_same] at hlr; cases hlr
    have xlp : lp ≠ x := fun e2 => by rw [e2, upd_same] at hlp; cases hlp
    have xdn : dn ≠ x := fun e2 => by rw [e2, upd_same] at hdn; cases hdn
    have xdr : dr ≠ x := fun e2 => by rw [e2, upd_same] at hdr; cases hdr
    have q1 := hlp
    have q2 := hdn
    have q3 := hdr
    have a1 : lr ≠ dn := fun e => by
      rw [← e, upd_ne xlr, upd_ne fr.rp, upd_ne xlr, upd_same] at q2; cases q2
    have a2 : lp ≠ dn := fun e => by
      rw [← e, upd_ne xlp, upd_same] at q2; cases q2
    have a3 : lr ≠ dr := fun e => by
      rw [← e, upd_ne xlr, upd_ne a1, upd_ne xlr, upd_ne fr.rp, upd_ne xlr, upd_same] at q3; cases q3
    have a4 : lp ≠ dr := fun e => by
      rw [← e, upd_ne xlp, upd_ne a2, upd_ne xlp, upd_same] at q3; cases q3
    have a5 : dn ≠ dr := fun e => by
      rw [← e, upd_ne xdn, upd_same] at q3; cases q3
    have mid0 : Mid K H0 (upd (upd (upd (upd (upd (upd (upd (upd (upd H1 x (.ins (TC K) dx (putF "sign_text" (.str z) []))) lr (.lst [])) x (.ins (TC K) dx (putF "row_list" (.ref lr) (putF "sign_text" (.str z) [])))) lp (.lst [])) x (.ins (TC K) dx (putF "piece_list" (.ref lp) (putF "row_list" (.ref lr) (putF "sign_text" (.str z) []))))) dn (.dK [])) x (.ins (TC K) dx (putF "number_by_piece" (.ref dn) (putF "piece_list" (.ref lp) (putF "row_list" (.ref lr) (putF "sign_text" (.str z) [])))))) dr (.dT [])) x (.ins (TC K) dx (tf5 z lr lp dn dr))) x dx z lr lp dn dr [] [] [] := by
      refine ⟨upd_same, ?_, .nil, ?_, ?_, ?_, s06, fun a ha => by cases ha⟩
      · rw [upd_ne xlr, upd_ne a3, upd_ne xlr, upd_ne a1, upd_ne xlr, upd_ne fr.rp, upd_ne xlr, upd_same]; rfl
      · rw [upd_ne xlp, upd_ne a4, upd_ne xlp, upd_ne a2, upd_ne xlp, upd_same]; rfl
      · rw [upd_ne xdn, upd_ne a5, upd_ne xdn, upd_same]; rfl
      · rw [upd_ne xdr, upd_same]; rfl
    revert mid0
    generalize (upd (upd (upd (upd (upd (upd (upd (upd (upd H1 x (.ins (TC K) dx (putF "sign_text" (.str z) []))) lr (.lst [])) x (.ins (TC K) dx (putF "row_list" (.ref lr) (putF "sign_text" (.str z) [])))) lp (.lst [])) x (.ins (TC K) dx (putF "piece_list" (.ref lp) (putF "row_list" (.ref lr) (putF "sign_text" (.str z) []))))) dn (.dK [])) x (.ins (TC K) dx (putF "number_by_piece" (.ref dn) (putF "piece_list" (.ref lp) (putF "row_list" (.ref lr) (putF "sign_text" (.str z) [])))))) dr (.dT [])) x (.ins (TC K) dx (tf5 z lr lp dn dr))) = H6
    intro mid0
    refine ⟨_, rfl, z, rfl, for_str (x := z) (fun i σ H' => ∃ u, σ = [some (.ref x), some (.str z), some (.ref pr), u, none, none, none] ∧ Mid K H0 H' x dx z lr lp dn dr [] ((sgs z).take i) []) ⟨none, rfl, mid0⟩ ?_ ?_⟩
    · rintro i c σ H' hi ⟨u, rfl, M⟩
      have hsg : (sgs z)[i]? = some (sgn c) := by unfold sgs; rw [List.getElem?_map, hi]; rfl
      have hnew : ¬ sgn c ∈ (sgs z).take i := fun hm => by
        have nd := sgs_nodup tk.sg.nd
        rw [← List.take_append_drop i (sgs z), List.nodup_append] at nd
        refine nd.2.2 _ hm (sgn c) (List.mem_of_getElem? (i := 0) ?_) rfl
        rw [List.getElem?_drop]; exact hsg
      refine ⟨_, rfl, x, dx, _, rfl, M.hx, l5_tp _ _ _ _ _, _, rfl, x, dx, z, lr, lp, dn, dr, (sgs z).take i, sgn c, rfl, M.hx, M.hlp, M.hdn, hnew, ?_, ?_⟩
      · rw [List.length_take]; have := sgs_len z; omega
      · refine ⟨_, rfl, ?_⟩
        have e : (sgs z).take (i + 1) = (sgs z).take i ++ [sgn c] := by rw [List.take_add_one, hsg]; rfl
        rw [e]
        exact M.piece fr
    · rintro σ H' ⟨u, rfl, M⟩
      have e0 : (sgs z).take z.cps.toList.length = sgs z := by
        rw [List.take_of_length_le]; unfold sgs; rw [List.length_map]; exact Nat.le_refl _
      rw [e0] at M
      have ep : sgs z = pcs z [] := by unfold pcs; rw [List.map_nil, List.append_nil]
      rw [ep] at M
      refine ⟨_, rfl, pr, _, rfl, SqL.of (M.sm _ _ hpr), for_enum (K := K) (a := pr) (xs := as0.map V.ref) (fun i σ H' => ∃ (u v y : Option V) (as : List Addr), σ = [some (.ref x), some (.str z), some (.ref pr), u, v, y, none] ∧ Mid K H0 H' x dx z lr lp dn dr as (pcs z (rs.take i)) (rs.take i))
        ⟨u, none, none, [], rfl, M⟩ (fun i σ H' _ ⟨_, _, _, _, _, M⟩ => SqL.of (M.sm _ _ hpr)) ?_ ?_⟩
      · rintro i y t σ H' hi ht ⟨u, v, y', as, rfl, M0⟩
        have M := M0.new (o := .tup [.int (i : Nat), y]) ht
        rw [List.getElem?_map] at hi
        cases ea : as0[i]? with
        | none => rw [ea] at hi; cases hi
        | some a =>
          rw [ea] at hi
          cases hi
          obtain ⟨r, hri, hta⟩ := Paired.get hts0 ea
          obtain ⟨l, r⟩ := r
          have ro := tk.rows i _ hri
          have ha : upd H' t (.tup [.int (i : Nat), .ref a]) a = some (.tup [.str l, .str r]) := M.sm _ _ hta
          have tki := tk.take i
          have pln : (pcs z (rs.take i)).length ≤ 1000 := by rw [pcs_len, List.length_take]; omega
          refine ⟨t, _, rfl, SqT.of upd_same, rfl, _, _, rfl, _, _, rfl, rfl, ?_⟩
          refine ⟨_, rfl, x, dx, _, rfl, M.hx, l5_mt _ _ _ _ _, _, rfl, x, dx, z, lr, lp, dn, dr, pcs z (rs.take i), a, l, r, rfl, M.hx, M.hdn, tki.nodup, ha, ro.lm, ro.rm, ro.len, ro.new, _, rfl, iteF ?_⟩
          have hnr : ¬ (l, r) ∈ rs.take i := fun hm => ro.new (by unfold pcs; exact List.mem_append_right _ (List.mem_map.mpr ⟨_, hm, rfl⟩))
          have rlen : (rs.take i).length ≤ 1000 := by rw [List.length_take]; omega
          refine ⟨_, rfl, x, dx, _, rfl, M.hx, l5_tr _ _ _ _ _, _, rfl, x, dx, z, lr, lp, dn, dr, pcs z (rs.take i), as, rs.take i, a, l, r, rfl, M.hx, M.hlr, fr.rp, M.hlp, M.hdn, M.hdr, Paired.len M.hts, rlen, pln, ha, ro.new, Nat.le_trans ro.len (by decide), hnr, ?_⟩
          intro H7 t7 keep ht7 h7t h7r h7p h7n h7d
          have x1 : x ≠ lr := ne_of M.hx M.hlr (by intro q; cases q)
          have x2 : x ≠ lp := ne_of M.hx M.hlp (by intro q; cases q)
          have x3 : x ≠ dn := ne_of M.hx M.hdn (by intro q; cases q)
          have x4 : x ≠ dr := ne_of M.hx M.hdr (by intro q; cases q)
          have et : rs.take (i + 1) = rs.take i ++ [(l, r)] := by rw [List.take_add_one, hri]; rfl
          refine ⟨_, _, _, as ++ [t7], rfl, ?_⟩
          rw [et, pcs_snoc]
          refine ⟨keep _ _ x1 x2 x3 x4 M.hx, h7r, Paired.snoc (L2.Paired.mapP M.hts fun b q hb => ?_) h7t, h7p, h7n, h7d, fun b o hb => ?_, fun b hb => ?_⟩
          · have hb2 : upd H' t (.tup [.int (i : Nat), .ref a]) b = _ := hb
            exact keep _ _ (ne_of hb2 M.hlr (by intro q; cases q)) (ne_of hb2 M.hlp (by intro q; cases q)) (ne_of hb2 M.hdn (by intro q; cases q)) (ne_of hb2 M.hdr (by intro q; cases q)) hb2
          · exact keep _ _ (ne_of_none hb fr.flr) (ne_of_none hb fr.flp) (ne_of_none hb fr.fdn) (ne_of_none hb fr.fdr) (M.sm _ _ hb)
          · rcases List.mem_append.mp hb with hb | hb
            · exact M.fra b hb
            · rw [List.mem_singleton.mp hb]; exact M.sm.free ht7
      · rintro σ H' ⟨u, v, y, as, rfl, M⟩
        have e1 : rs.take (as0.map V.ref).length = rs := by rw [List.length_map, Paired.len hts0, List.take_length]
        rw [e1] at M
        refine ⟨_, rfl, x, _, dx, _, _, rfl, M.hx, T.cl_Table, T.no_Table_piece_list, l5_pl _ _ _ _ _, lp, rfl, ⟨_, SqL.of M.hlp⟩, fun D hD => lc_listM (K := K) (item := V.str) (p := fun _ => true) (f := fun q => V.int (q.length : Nat)) (l := pcs z rs) (SqL.of M.hlp) hD ?_ (fun q hq H2 _ N Mm hM _ => ?_) (fun H2 s2 hL => ?_)⟩
        · rw [pcs_len]; omega
        · exact ⟨rfl, _, rfl, _, rfl, sz (by have := (tk.plen hq).2; omega), hM rfl⟩
        · have ef : (pcs z rs).filter (fun _ => true) = pcs z rs := List.filter_eq_self.mpr fun _ _ => rfl
          rw [ef] at hL
          obtain ⟨p, hp, hmx⟩ := list_max (pcs z rs) (fun e => by have := congrArg List.length e; rw [pcs_len] at this; simp at this; omega)
          refine ⟨D, (pcs z rs).map fun q => ((q.length : Nat) : Int), rfl, SqL.of ?_, ?_, ?_⟩
          · rw [hL, List.map_map]; rfl
          · rw [List.length_map, pcs_len]; omega
          · intro m hm hmm
            obtain ⟨pm, hpm, rfl⟩ := List.mem_map.mp hm
            have M2hx := s2 _ _ M.hx
            refine ⟨_, rfl, x, _, dx, _, rfl, M2hx, T.cl_Table, T.no_Table_most_signs, (by show 5 < 1000; decide), ?_⟩
            rw [l5_most]
            have x1 : x ≠ lr := ne_of M.hx M.hlr (by intro q; cases q)
            have x2 : x ≠ lp := ne_of M.hx M.hlp (by intro q; cases q)
            have x3 : x ≠ dn := ne_of M.hx M.hdn (by intro q; cases q)
            have x4 : x ≠ dr := ne_of M.hx M.hdr (by intro q; cases q)
            refine k _ (Same.mut (M.sm.trans s2) x0) ⟨dx, lr, lp, dn, dr, pm.length, as, upd_same, ?_, ?_, ?_, ?_, ?_, ⟨pm, hpm, rfl⟩, fun q hq => ?_, tk, fr.fx, fr.flr, fr.flp, fr.fdn, fr.fdr, M.fra⟩
            · rw [upd_ne (Ne.symm x1)]; exact s2 _ _ M.hlr
            · refine L2.Paired.mapP M.hts fun b q hb => ?_
              have hb2 : H' b = _ := hb
              show upd H2 x _ b = _
              rw [upd_ne (ne_of hb2 M.hx (by intro q; cases q))]
              exact s2 _ _ hb2
            · rw [upd_ne (Ne.symm x2)]; exact s2 _ _ M.hlp
            · rw [upd_ne (Ne.symm x3)]; exact s2 _ _ M.hdn
            · rw [upd_ne (Ne.symm x4)]; exact s2 _ _ M.hdr
            · have := hmm _ (List.mem_map.mpr ⟨q, hq, rfl⟩)
              omega
theorem mkc_Table (T : Tx K mg) : Mkc P w K mg base CX0 3 "Table" (TC K) (spTInit K) := by
  obtain ⟨⟨f, fd, ps, G, mk, b⟩, g⟩ := mkc_Table2 (P := P) (w := w) (base := base) T
  refine ⟨⟨f, fd, ps, G.imp fun vs H Q E h => ?_, mk, b⟩, g⟩
  obtain ⟨H0, x, dx, pr, z, rs, e1, e2, e3, e4, e5, e6, e7, k⟩ := h
  exact ⟨H0, x, dx, pr, z, rs, e1, e2, e3, e4, e5, e6, e7, fun H' s t => k H' s t.tab⟩
end
end Jr
namespace Jr
open PySem PySem.Spec PyProof.Rows L2
/-! ### what a made table tells -/
def spTSigns (K : PySem.W.Frag) : Sp := fun vs H Q _ => ∃ (x : Addr) (z : Str) (rs : Rws), vs = [.ref x] ∧ TabAt (TC K) H x z rs ∧ Q (.str z) H
def spTRows (K : PySem.W.Frag) : Sp := fun vs H Q _ => ∃ (x : Addr) (z : Str) (rs : Rws), vs = [.ref x] ∧ TabAt (TC K) H x z rs ∧ ∀ H' p, Same H H' → H p = none → RowsAt H' p rs → Q (.ref p) H'
def spTPieces (K : PySem.W.Frag) : Sp := fun vs H Q _ => ∃ (x : Addr) (z : Str) (rs : Rws), vs = [.ref x] ∧ TabAt (TC K) H x z rs ∧ ∀ H' p, Same H H' → H p = none → H' p = some (.lst ((pcs z rs).map V.str)) → Q (.ref p) H'
section
variable {P : Program} {w : World} {K : PySem.W.Frag} {mg : Str → Option Value} {base : Heap}
theorem met_signs (T : Tx K mg) : Met P w K mg base CX0 1 (TC K) "signs" (spTSigns K) := by
  obtain ⟨fd, F⟩ := T.d_Table_signs
  refine ⟨T.cl_Table, _, fd, P_Table_signs, F.ok sc_Table_signs (fun vs H Q E h => ?_) (fun cdv A outer s H vs Q E hr h => ?_), T.m_Table_signs, F.bindsN (ps := P_Table_signs) fun _ _ _ _ _ _ us hl => match us, hl with | [_], _ => rfl⟩
  · obtain ⟨x, z, rs, rfl, _⟩ := h
    rfl
  · obtain ⟨x, z, rs, rfl, ta, k⟩ := h
    obtain ⟨dx, lr, lp, dn, dr, m, h1, _⟩ := ta.ex
    refine ⟨_, (PSs.nox (pss_one (ps_ret (pe_fld (pv 0) rfl)))), ?_⟩
    exact ⟨_, rfl, x, _, dx, _, _, rfl, h1, T.cl_Table, T.no_Table_sign_text, l6_st _ _ _ _ _ _, k⟩
theorem met_rows (T : Tx K mg) : Met P w K mg base CX0 1 (TC K) "rows" (spTRows K) := by
  obtain ⟨fd, F⟩ := T.d_Table_rows
  refine ⟨T.cl_Table, _, fd, P_Table_rows, F.ok sc_Table_rows (fun vs H Q E h => ?_) (fun cdv A outer s H vs Q E hr h => ?_), T.m_Table_rows, F.bindsN (ps := P_Table_rows) fun _ _ _ _ _ _ us hl => match us, hl with | [_], _ => rfl⟩
  · obtain ⟨x, z, rs, rfl, _⟩ := h
    rfl
  · obtain ⟨x, z, rs, rfl, ta, k⟩ := h
    obtain ⟨dx, lr, lp, dn, dr, m, h1, ⟨as, h2, h2'⟩, _⟩ := ta.ex
    refine ⟨_, (PSs.nox (pss_one (ps_ret (pe_callTy (T := "list") call_list_of (by rfl) T.n_list (by decide +kernel) (pa_cons (pe_fld (pv 0) rfl) pa_nil))))), ?_⟩
    exact ⟨_, rfl, x, _, dx, _, _, rfl, h1, T.cl_Table, T.no_Table_row_list, l6_rl _ _ _ _ _ _, lr, _, rfl, .inl (SqL.of h2), fun l hl => k _ l (Same.new hl) hl ⟨as, upd_same, TupAt.same (Same.new hl) h2'⟩⟩
end
end Jr
namespace Jr
open PySem PySem.Spec PyProof.Rows L2
/-- the rank of two texts as a value -/
def rankV (rs : Rws) (l r : Str) : V := (valV (rankD 0 rs) [Sum.inr l, Sum.inr r]).getD .non
theorem rankD_int : ∀ (i : Nat) (rs : Rws) (l r : Str), valV (rankD i rs) [Sum.inr l, Sum.inr r] = none ∨ ∃ n : Int, valV (rankD i rs) [Sum.inr l, Sum.inr r] = some (.int n)
  | _, [], _, _ => .inl rfl
  | i, q :: rs, l, r => by
    by_cases h : ([Sum.inr q.1, Sum.inr q.2] : List Key) = [Sum.inr l, Sum.inr r]
    · exact .inr ⟨_, valV_pos (p := (([Sum.inr q.1, Sum.inr q.2] : List Key), V.int (i : Nat))) h⟩
    · rcases rankD_int (i + 1) rs l r with e | ⟨n, e⟩
      · exact .inl ((valV_neg (p := (([Sum.inr q.1, Sum.inr q.2] : List Key), V.int (i : Nat))) h).trans e)
      · exact .inr ⟨n, (valV_neg (p := (([Sum.inr q.1, Sum.inr q.2] : List Key), V.int (i : Nat))) h).trans e⟩
theorem rankV_or (rs : Rws) (l r : Str) : rankV rs l r = .non ∨ ∃ n : Int, rankV rs l r = .int n := by
  unfold rankV
  rcases rankD_int 0 rs l r with e | ⟨n, e⟩
  · rw [e]; exact .inl rfl
  · rw [e]; exact .inr ⟨n, rfl⟩
theorem rankV_at {z : Str} {rs : Rws} (T : TabOk z rs) {j : Nat} {r : Str × Str} (h : rs[j]? = some r) : rankV rs r.1 r.2 = .int (j : Nat) := by
  unfold rankV
  rw [rankD_at 0 rs r j T.rnodup h, Nat.zero_add]
  rfl
theorem rankV_none {rs : Rws} {l r : Str} (h : ¬ (l, r) ∈ rs) : rankV rs l r = .non := by
  unfold rankV
  rw [rankD_none 0 rs l r h]
  rfl
end Jr
namespace Jr
open PySem PySem.Spec PyProof.Rows L2
section
variable {P : Program} {w : World} {K : PySem.W.Frag} {mg : Str → Option Value} {base : Heap}
def spRank (K : PySem.W.Frag) : Sp := fun vs H Q _ => ∃ (x : Addr) (z : Str) (rs : Rws) (l r : Str), vs = [.ref x, .str l, .str r] ∧ TabAt (TC K) H x z rs ∧ ∀ H', Same H H' → Q (rankV rs l r) H'
theorem met_rank (T : Tx K mg) : Met P w K mg base CX0 1 (TC K) "rank" (spRank K) := by
  obtain ⟨fd, F⟩ := T.d_Table_rank
  refine ⟨T.cl_Table, _, fd, P_Table_rank, F.ok sc_Table_rank (fun vs H Q E h => ?_) (fun cdv A outer s H vs Q E hr h => ?_), T.m_Table_rank, F.bindsN (ps := P_Table_rank) fun _ _ _ _ _ _ us hl => match us, hl with | [_, _, _], _ => rfl⟩
  · obtain ⟨x, z, rs, l, r, rfl, _⟩ := h
    rfl
  · obtain ⟨x, z, rs, l, r, rfl, ta, k⟩ := h
    refine ⟨_, (PSs.nox (pss_cons (ps_if (PW.pt (pw_or (pt_not (pt_val (pe_callB (id := "isinstance") call_isi (by rfl) T.n_isinstance (by decide +kernel) (pa_cons (pv 1) (pa_cons (pe_bltn (v := .ty "str") (by rfl) T.n_str (by decide +kernel) rfl) pa_nil))))) (pw_or1 (pt_not (pt_val (pe_callB (id := "isinstance") call_isi (by rfl) T.n_isinstance (by decide +kernel) (pa_cons (pv 2) (pa_cons (pe_bltn (v := .ty "str") (by rfl) T.n_str (by decide +kernel) rfl) pa_nil)))))))) (pss_one (ps_ret pe_non)) pss_nil)
      (pss_one (ps_ret (pe_dget1 (hu_of hr) (pe_fld (pv 0) rfl) (pe_tup (pa_cons (pv 1) (pa_cons (pv 2) pa_nil))) ⟨by rfl, by rfl, by rfl, by rfl⟩))))), ?_⟩
    obtain ⟨dx, lr, lp, dn, dr, m, h1, _, _, _, h5, _⟩ := ta.ex
    refine ⟨_, rfl, _, _, _, _, _, rfl, .ty "str", .base (.str l), isStr, _, rfl, iteF ⟨_, rfl, _, _, _, _, _, rfl, .ty "str", .base (.str r), isStr, _, rfl, iteF ?_⟩⟩
    refine ⟨_, rfl, x, _, dx, _, _, rfl, h1, T.cl_Table, T.no_Table_rank_by_row, l6_rk _ _ _ _ _ _, dr, rfl, .inr ⟨_, .inl h5⟩, _, rfl, _, rfl, (by show 2 ≤ sizeLine; decide), fun t ht => ?_⟩
    exact ⟨_, DGet.t (k := [Sum.inr l, Sum.inr r]) (Same.new ht _ _ h5) upd_same, k _ (Same.new ht)⟩
end
end Jr
namespace Jr
open PySem PySem.Spec PyProof.Rows L2
section
variable {P : Program} {w : World} {K : PySem.W.Frag} {mg : Str → Option Value} {base : Heap}
/-- what parts tells of a piece -/
def PartV (H : Hp) (z : Str) (rs : Rws) (p : Str) (v : V) : Prop := (p ∈ sgs z ∧ v = .non) ∨ ∃ (r : Str × Str) (a : Addr), r ∈ rs ∧ jn r = p ∧ TupAt H a r ∧ v = .ref a
/-- parts: of a sign None, of a made piece its row's tuple -/
def spParts (K : PySem.W.Frag) : Sp := fun vs H Q _ => ∃ (x : Addr) (z : Str) (rs : Rws) (p : Str), vs = [.ref x, .str p] ∧ TabAt (TC K) H x z rs ∧ p ∈ pcs z rs ∧ ∀ v : V, PartV H z rs p v → Q v H
theorem met_parts (T : Tx K mg) : Met P w K mg base CX0 2 (TC K) "parts" (spParts K) := by
  have M_Table_which := met_which (P := P) (w := w) (base := base) T
  obtain ⟨fd, F⟩ := T.d_Table_parts
  refine ⟨T.cl_Table, _, fd, P_Table_parts, F.ok sc_Table_parts (fun vs H Q E h => ?_) (fun cdv A outer s H vs Q E hr h => ?_), T.m_Table_parts, F.bindsN (ps := P_Table_parts) fun _ _ _ _ _ _ us hl => match us, hl with | [_, _], _ => rfl⟩
  · obtain ⟨x, z, rs, p, rfl, _⟩ := h
    rfl
  · obtain ⟨x, z, rs, p, rfl, ta, hp, k⟩ := h
    refine ⟨_, (PSs.nox (pss_cons (ps_set (i := 2) sc_Table_parts.nd rfl (Or.inl rfl) (pe_met M_Table_which (pv 0) (by first | exact hr | exact hr.mono (by decide)) (pa_cons (pv 1) pa_nil)))
      (pss_cons (ps_if (pt_cmpR op_isN (pv 2) pe_non (nomark _)) (pss_one ps_never) pss_nil)
      (pss_cons (ps_if (pt_cmpR op_lt (pv 2) (pe_callB (id := "len") call_len_str (by rfl) T.n_len (by decide +kernel) (pa_cons (pe_fld (pv 0) rfl) pa_nil)) (nomark _)) (pss_one (ps_ret pe_non)) pss_nil)
      (pss_one (ps_ret (pe_ix ix_list (pe_fld (pv 0) rfl) (pe_op op_sub (pv 2) (pe_callB (id := "len") call_len_str (by rfl) T.n_len (by decide +kernel) (pa_cons (pe_fld (pv 0) rfl) pa_nil))) (fun _ _ => rfl)))))))), ?_⟩
    obtain ⟨dx, lr, lp, dn, dr, m, h1, ⟨as, h2, h2'⟩, _, h4, _⟩ := ta.ex
    obtain ⟨i, hi, ei⟩ := num_some ta.ok.nodup hp
    have n12 := ta.ok.n12
    refine ⟨_, rfl, x, dx, _, rfl, h1, l6_mw _ _ _ _ _ _, _, rfl, x, dx, _, dn, _, _, rfl, h1, l6_num _ _ _ _ _ _, h4, .inl ⟨p, rfl, ?_⟩⟩
    rw [ei]
    refine ⟨_, rfl, rfl, _, rfl, iteF ?_⟩
    refine ⟨_, rfl, _, rfl, x, _, dx, _, _, rfl, h1, T.cl_Table, T.no_Table_sign_text, l6_st _ _ _ _ _ _, _, rfl, sz (by omega), _, _, rfl, rfl, _, rfl, ite2 (fun c => ?_) (fun c => ?_)⟩
    · have c' : i < z.length := by
        have := of_decide_eq_true c
        omega
      unfold pcs at hi
      rw [List.getElem?_append_left (by rw [sgs_len]; exact c')] at hi
      exact k _ (.inl ⟨List.mem_of_getElem? hi, rfl⟩)
    · have c' : ¬ i < z.length := by
        have : ¬ ((i : Int) < (z.length : Int)) := of_decide_eq_false (by simpa using c)
        omega
      unfold pcs at hi
      rw [List.getElem?_append_right (by rw [sgs_len]; omega), sgs_len, List.getElem?_map] at hi
      cases er : rs[i - z.length]? with
      | none => rw [er] at hi; cases hi
      | some r =>
        rw [er] at hi
        have e : jn r = p := Option.some.inj hi
        obtain ⟨a, ha, ht⟩ := Paired.get2 h2' er
        have ej : ((i : Int) - (z.length : Int)) = ((i - z.length : Nat) : Int) := by omega
        refine ⟨_, rfl, x, _, dx, _, _, rfl, h1, T.cl_Table, T.no_Table_row_list, l6_rl _ _ _ _ _ _, _, rfl, _, rfl, x, _, dx, _, _, rfl, h1, T.cl_Table, T.no_Table_sign_text, l6_st _ _ _ _ _ _, _, rfl, sz (by omega), _, _, rfl, rfl, lr, _, _, _, rfl, rfl, SqL.of h2, (by rw [ej]; exact atm ha), k _ (.inr ⟨r, a, List.mem_of_getElem? er, e, ht, rfl⟩)⟩
end
end Jr
namespace Jr
open PySem PySem.Spec PyProof.Rows L2
def optV : Option Nat → V
  | none => .non
  | some k => .int (k : Nat)
end Jr
namespace Jr
open PySem PySem.Spec PyProof.Rows L2
section
variable {P : Program} {w : World} {K : PySem.W.Frag} {mg : Str → Option Value} {base : Heap}
def spWithEnds (K : PySem.W.Frag) : Sp := fun vs H Q _ => ∃ (x q : Addr) (z : Str) (rs : Rws) (side : Nat) (p : Str) (es : List Str), vs = [.ref x, .ref q] ∧ TabAt (TC K) H x z rs ∧ H q = some (.lst (es.map V.str)) ∧ Edge rs side p es ∧ p ∈ pcs z rs ∧
  ∀ H' t fs, Same H H' → H t = none → EndsL H' t fs → EdgeE rs side rs.length p fs → Q (.ref t) H'
theorem cal_with_ends (T : Tx K mg) : Cal P w K mg base CX0 3 "with_ends" (spWithEnds K) := by
  have M_Table_rows := met_rows (P := P) (w := w) (base := base) T
  have M_Table_parts := met_parts (P := P) (w := w) (base := base) T
  have M_Table_rank := met_rank (P := P) (w := w) (base := base) T
  obtain ⟨fd, F⟩ := T.d_with_ends
  refine ⟨_, fd, P_with_ends, F.ok sc_with_ends (fun vs H Q E h => ?_) (fun cdv A outer s H vs Q E hr h => ?_), T.g_with_ends, F.kp, F.bindsN (ps := P_with_ends) fun _ _ _ _ _ _ us hl => match us, hl with | [_, _], _ => rfl⟩
  · obtain ⟨x, q, z, rs, side, p, es, rfl, _⟩ := h
    rfl
  · obtain ⟨x, q, z, rs, side, p, es, rfl, ta, hq, hE, hp, k⟩ := h
    refine ⟨_, (PSs.nox (pss_cons (ps_set (i := 2) sc_with_ends.nd rfl (Or.inl rfl) (pe_lstG pa_nil))
      (pss_cons (ps_set (i := 3) sc_with_ends.nd rfl (Or.inl rfl) (pe_callB (id := "len") call_len_seq (by rfl) T.n_len (by decide +kernel) (pa_cons (pe_met0 M_Table_rows (pv 0) (by first | exact hr | exact hr.mono (by decide))) pa_nil)))
      (pss_cons (ps_for PassesOwn.never rfl (pi_list (pv 1)) (pg_name (i := 4) sc_with_ends.nd rfl (Or.inl rfl)) (pss_cons (ps_expr (pe_bm PySem.F.plainAttrs_list PySem.F.slot_list_append PySem.F.type_list_append mt_append (pv 2) (pa_cons (pe_tupG (pa_cons (pv 4) (pa_cons (pv 3) pa_nil))) pa_nil)))
      (pss_cons (ps_set (i := 5) sc_with_ends.nd rfl (Or.inl rfl) (pe_met M_Table_parts (pv 0) (by first | exact hr | exact hr.mono (by decide)) (pa_cons (pv 4) pa_nil)))
      (pss_one (ps_if (pt_cmpR op_notN (pv 5) pe_non (nomark _)) (pss_one (ps_set (i := 3) sc_with_ends.nd rfl (Or.inl rfl) (pe_met M_Table_rank (pv 0) (by first | exact hr | exact hr.mono (by decide)) (pa_cons (pe_ix ix_tup (pv 5) pe_int (fun _ _ => rfl)) (pa_cons (pe_ix ix_tup (pv 5) pe_int (fun _ _ => rfl)) pa_nil))))) pss_nil)))))
      (pss_one (ps_ret (pv 2))))))), ?_⟩
    have many := ta.ok.many
    have esl := hE.len ta.ok hp
    have pl16 := ta.ok.plen hp
    refine ⟨(by show 0 ≤ sizeLine; decide), fun t H1 nt s1 ht => ?_⟩
    have ta1 := ta.same s1
    obtain ⟨dx, lr, lp, dn, dr, m, h1, _⟩ := ta1.ex
    refine ⟨_, rfl, x, dx, _, rfl, h1, l6_mr _ _ _ _ _ _, x, z, rs, rfl, ta1, fun H2 pr s2 npr ⟨as, hpr, hrs⟩ => ?_⟩
    refine ⟨pr, _, rfl, .inl (SqL.of hpr), ?_⟩
    have al : (as.map V.ref).length = rs.length := by rw [List.length_map, Paired.len hrs]
    rw [al]
    have s12 := s1.trans s2
    have hq2 := s12 _ _ hq
    have ht2 := s2 _ _ ht
    have tq : t ≠ q := fun e => by rw [e, hq] at nt; cases nt
    refine ⟨_, rfl, q, rfl, ⟨_, SqL.of hq2⟩, for_list (K := K) (a := q) (xs := es.map V.str) (fun i σ H' => ∃ (e : Nat) (u1 u2 : Option V) (done : List (Str × Nat)), σ = [some (.ref x), some (.ref q), some (.ref t), some (.int (e : Nat)), u1, u2] ∧ Same H H' ∧ EndsL H' t done ∧ done.length = i ∧
        ((∃ cur, Edge rs side cur (es.drop i) ∧ cur ∈ pcs z rs ∧ ∀ gs, EdgeE rs side e cur gs → EdgeE rs side rs.length p (done ++ gs)) ∨ (i = es.length ∧ EdgeE rs side rs.length p done)))
      ⟨rs.length, _, _, [], rfl, s12, ⟨[], ht2, .nil⟩, rfl, .inl ⟨p, hE, hp, fun gs h => h⟩⟩ (fun i σ H' _ ⟨_, _, _, _, _, s, _⟩ => SqL.of (s _ _ hq)) ?_ ?_⟩
    · rintro i y σ H' hi ⟨e, u1, u2, done, rfl, sm, ⟨bs, hT, hbs⟩, dl, hc⟩
      rw [List.getElem?_map] at hi
      cases ei : es[i]? with
      | none => rw [ei] at hi; cases hi
      | some pc =>
        rw [ei] at hi
        cases hi
        have il : i < es.length := (List.getElem?_eq_some_iff.mp ei).1
        rcases hc with ⟨cur, hEd, hcp, hgo⟩ | ⟨e2, _⟩
        rotate_left
        · omega
        obtain ⟨rest, er, hrest⟩ := hEd.head
        have ecur : pc = cur := by
          have h0 : (es.drop i)[0]? = some pc := by rw [List.getElem?_drop, Nat.add_zero, ei]
          rw [er] at h0
          exact (Option.some.inj h0).symm
        subst ecur
        have er1 : es.drop (i + 1) = rest := by
          have : es.drop (i + 1) = (es.drop i).drop 1 := by rw [List.drop_drop]
          rw [this, er]; rfl
        have ta' := ta.same sm
        have bl := Paired.len hbs
        refine ⟨_, rfl, .inl ⟨rfl, _, SqL.of hT⟩, _, rfl, _, rfl, (by show 2 ≤ sizeLine; decide), fun tq1 H3 ntq s3 htq => ?_⟩
        have hT3 := s3 _ _ hT
        refine ⟨t, _, _, rfl, rfl, hT3, (by rw [List.length_map]; exact szl (by omega)), ?_⟩
        have tt : tq1 ≠ t := fun e => by rw [e, hT] at ntq; cases ntq
        have s4 : Same H (upd H3 t (.lst (bs.map V.ref ++ [V.ref tq1]))) := Same.mut (sm.trans s3) nt
        have ends : EndsL (upd H3 t (.lst (bs.map V.ref ++ [V.ref tq1]))) t (done ++ [(pc, e)]) := by
          refine ⟨bs ++ [tq1], by rw [upd_same, List.map_append]; rfl, Paired.snoc (L2.Paired.mapP hbs fun b f hb => ?_) ?_⟩
          · have hb2 : H' b = _ := hb
            show upd _ _ _ b = _
            rw [upd_ne (ne_of hb2 hT (by intro q; cases q))]
            exact s3 _ _ hb2
          · show upd _ _ _ tq1 = _
            rw [upd_ne tt]
            exact htq
        revert s4 ends
        generalize (upd H3 t (.lst (bs.map V.ref ++ [V.ref tq1]))) = H4
        intro s4 ends
        have ta4 := ta.same s4
        obtain ⟨dx4, lr4, lp4, dn4, dr4, m4, h14, _⟩ := ta4.ex
        refine ⟨_, rfl, x, dx4, _, rfl, h14, l6_mpa _ _ _ _ _ _, _, rfl, x, z, rs, pc, rfl, ta4, hcp, fun v hv => ?_⟩
        have dl1 : (done ++ [(pc, e)]).length = i + 1 := by rw [List.length_append, dl]; rfl
        rcases hv with ⟨hsg, rfl⟩ | ⟨r, a, hr', ejr, hta, rfl⟩
        · refine ⟨_, rfl, rfl, _, rfl, iteF ?_⟩
          rcases hrest with ⟨e0, nr⟩ | ⟨q2, hq2, e2, _⟩
          · refine ⟨e, _, _, _, rfl, s4, ends, dl1, .inr ⟨?_, hgo _ (.one nr)⟩⟩
            have := congrArg List.length er1
            rw [e0, List.length_drop] at this
            simp at this
            omega
          · exact absurd e2 (no_row ta.ok hsg q2 hq2)
        · obtain ⟨j, hj, ej⟩ := List.mem_iff_getElem.mp hr'
          have hjr : rs[j]? = some r := by rw [List.getElem?_eq_getElem hj, ej]
          have hta : H4 a = some (.tup [.str r.1, .str r.2]) := hta
          refine ⟨_, rfl, rfl, _, rfl, iteT ?_⟩
          refine ⟨_, rfl, x, dx4, _, rfl, h14, l6_mrk _ _ _ _ _ _, _, rfl, a, _, _, _, rfl, rfl, SqT.of hta, (show atI _ ((0 : Nat) : Int) = _ from ats rfl), _, rfl, a, _, _, _, rfl, rfl, SqT.of hta, (show atI _ ((1 : Nat) : Int) = _ from ats rfl), ?_⟩
          refine ⟨x, z, rs, r.1, r.2, rfl, ta4, fun H5 s5 => ?_⟩
          rw [rankV_at ta.ok hjr]
          rcases hrest with ⟨e0, nr⟩ | ⟨q2, hq2, e2, hE2⟩
          · exact absurd ejr (nr r hr')
          · have e3 := jn_inj ta.ok hr' hq2 (ejr.trans e2.symm)
            subst e3
            refine ⟨j, _, _, _, rfl, s4.trans s5, ends.same s5, dl1, .inl ⟨_, by rw [er1]; exact hE2, (part_in ta.ok hr').1, fun gs hg => ?_⟩⟩
            rw [List.append_assoc]
            exact hgo _ (.more hjr ejr hg)
    · rintro σ H' ⟨e, u1, u2, done, rfl, sm, ends, dl, hc⟩
      rw [List.length_map] at dl hc
      rcases hc with ⟨cur, hEd, _, _⟩ | ⟨_, h⟩
      · obtain ⟨rest, er, _⟩ := hEd.head
        rw [List.drop_length] at er
        cases er
      · exact ⟨_, rfl, k _ t done sm nt ends h⟩
def spEdgesMeet (K : PySem.W.Frag) : Sp := fun vs H Q _ => ∃ (x q1 q2 : Addr) (z : Str) (rs : Rws) (es fs : List (Str × Nat)), vs = [.ref x, .ref q1, .ref q2] ∧ TabAt (TC K) H x z rs ∧ EndsL H q1 es ∧ EndsL H q2 fs ∧
  ∀ H', Same H H' → Q (optV ((List.range rs.length).find? (fallsAt rs es fs))) H'
theorem cal_edges_meet (T : Tx K mg) : Cal P w K mg base CX0 2 "edges_meet" (spEdgesMeet K) := by
  have M_Table_rank := met_rank (P := P) (w := w) (base := base) T
  obtain ⟨fd, F⟩ := T.d_edges_meet
  refine ⟨_, fd, P_edges_meet, F.ok sc_edges_meet (fun vs H Q E h => ?_) (fun cdv A outer s H vs Q E hr h => ?_), T.g_edges_meet, F.kp, F.bindsN (ps := P_edges_meet) fun _ _ _ _ _ _ us hl => match us, hl with | [_, _, _], _ => rfl⟩
  · obtain ⟨x, q1, q2, z, rs, es, fs, rfl, _⟩ := h
    rfl
  · obtain ⟨x, q1, q2, z, rs, es, fs, rfl, ta, ⟨as, ha, hes⟩, ⟨bs, hb, hfs⟩, k⟩ := h
    refine ⟨_, (PSs.nox (pss_cons (ps_set (i := 3) sc_edges_meet.nd rfl (Or.inl rfl) pe_non)
      (pss_cons (ps_for PassesOwn.never rfl (pi_list (pv 1)) (pg_tup rfl (pgs_cons (pg_name (i := 4) sc_edges_meet.nd rfl (Or.inl rfl)) (pgs_cons (pg_name (i := 5) sc_edges_meet.nd rfl (Or.inl rfl)) pgs_nil))) (pss_one (ps_for PassesOwn.never rfl (pi_list (pv 2)) (pg_tup rfl (pgs_cons (pg_name (i := 6) sc_edges_meet.nd rfl (Or.inl rfl)) (pgs_cons (pg_name (i := 7) sc_edges_meet.nd rfl (Or.inl rfl)) pgs_nil))) (pss_cons (ps_set (i := 8) sc_edges_meet.nd rfl (Or.inl rfl) (pe_met M_Table_rank (pv 0) (by first | exact hr | exact hr.mono (by decide)) (pa_cons (pv 4) (pa_cons (pv 6) pa_nil))))
      (pss_one (ps_if (PW.pt (pw_and (pt_cmpR op_notN (pv 8) pe_non (nomark _)) (pw_and (pt_cmpR op_lt (pv 8) (pv 5) (nomark _)) (pw_and (pt_cmpR op_le (pv 8) (pv 7) (nomark _)) (pw_and1 (PW.pt (pw_or (pt_cmpR op_isN (pv 3) pe_non (nomark _)) (pw_or1 (pt_cmpR op_lt (pv 8) (pv 3) (nomark _)))))))))) (pss_one (ps_set (i := 3) sc_edges_meet.nd rfl (Or.inl rfl) (pv 8))) pss_nil))))))
      (pss_one (ps_ret (pv 3)))))), ?_⟩
    refine ⟨_, rfl, q1, rfl, ⟨_, SqL.of ha⟩, for_list (K := K) (a := q1) (xs := as.map V.ref) (fun i σ H' => ∃ (m : Option Nat) (u1 u2 u3 u4 u5 : Option V) (L : List ((Str × Nat) × (Str × Nat))), σ = [some (.ref x), some (.ref q1), some (.ref q2), some (optV m), u1, u2, u3, u4, u5] ∧ Same H H' ∧ Least rs L m ∧ ∀ q, q ∈ L ↔ q.1 ∈ es.take i ∧ q.2 ∈ fs)
      ⟨none, _, _, _, _, _, [], rfl, Same.refl _, Least.nil rs, fun q => ⟨fun h => (by cases h), fun h => (by cases h.1)⟩⟩ (fun i σ H' _ ⟨_, _, _, _, _, _, _, _, s, _⟩ => SqL.of (s _ _ ha)) ?_ ?_⟩
    · rintro i y σ H' hi ⟨m, u1, u2, u3, u4, u5, L, rfl, sm, hle, hL⟩
      rw [List.getElem?_map] at hi
      cases ea : as[i]? with
      | none => rw [ea] at hi; cases hi
      | some qa =>
        rw [ea] at hi
        cases hi
        obtain ⟨⟨xl, xe⟩, hxi, hqa⟩ := Paired.get hes ea
        have hqa : H qa = some (.tup [.str xl, .int (xe : Nat)]) := hqa
        refine ⟨qa, _, rfl, SqT.of (sm _ _ hqa), rfl, _, _, rfl, _, _, rfl, rfl, ?_⟩
        refine ⟨_, rfl, q2, rfl, ⟨_, SqL.of (sm _ _ hb)⟩, for_list (K := K) (a := q2) (xs := bs.map V.ref) (fun j σ H' => ∃ (m : Option Nat) (u3 u4 u5 : Option V) (M : List ((Str × Nat) × (Str × Nat))), σ = [some (.ref x), some (.ref q1), some (.ref q2), some (optV m), some (.str xl), some (.int (xe : Nat)), u3, u4, u5] ∧ Same H H' ∧ Least rs (L ++ M) m ∧ ∀ q, q ∈ M ↔ q.1 = (xl, xe) ∧ q.2 ∈ fs.take j)
          ⟨m, _, _, _, [], rfl, sm, by rw [List.append_nil]; exact hle, fun q => ⟨fun h => (by cases h), fun h => (by cases h.2)⟩⟩ (fun j σ H' _ ⟨_, _, _, _, _, _, s, _⟩ => SqL.of (s _ _ hb)) ?_ ?_⟩
        · rintro j y σ H2 hj ⟨m, u3, u4, u5, M, rfl, sm2, hle2, hM⟩
          rw [List.getElem?_map] at hj
          cases eb : bs[j]? with
          | none => rw [eb] at hj; cases hj
          | some qb =>
            rw [eb] at hj
            cases hj
            obtain ⟨⟨yr, ye⟩, hyj, hqb⟩ := Paired.get hfs eb
            have hqb : H qb = some (.tup [.str yr, .int (ye : Nat)]) := hqb
            have et : fs.take (j + 1) = fs.take j ++ [(yr, ye)] := by rw [List.take_add_one, hyj]; rfl
            have hM1 : ∀ q, q ∈ M ++ [((xl, xe), (yr, ye))] ↔ q.1 = (xl, xe) ∧ q.2 ∈ fs.take (j + 1) := fun q => by
              rw [List.mem_append, List.mem_singleton, hM q, et, List.mem_append, List.mem_singleton]
              constructor
              · rintro (⟨h1, h2⟩ | h)
                · exact ⟨h1, .inl h2⟩
                · rw [h]; exact ⟨rfl, .inr rfl⟩
              · rintro ⟨h1, h2 | h2⟩
                · exact .inl ⟨h1, h2⟩
                · exact .inr (Prod.ext h1 h2)
            have skip : ∀ m, Least rs (L ++ M) m → (∀ k, rs[k]? = some (xl, yr) → k < xe → k ≤ ye → ∃ j, m = some j ∧ j ≤ k) → Least rs (L ++ (M ++ [((xl, xe), (yr, ye))])) m := fun m h1 h2 => by
              rw [← List.append_assoc]
              exact h1.skip h2
            refine ⟨qb, _, rfl, SqT.of (sm2 _ _ hqb), rfl, _, _, rfl, _, _, rfl, rfl, ?_⟩
            have ta2 := ta.same sm2
            obtain ⟨dx, lr, lp, dn, dr, mm, h1, _⟩ := ta2.ex
            refine ⟨_, rfl, x, dx, _, rfl, h1, l6_mrk _ _ _ _ _ _, _, rfl, _, rfl, x, z, rs, xl, yr, rfl, ta2, fun H3 s3 => ?_⟩
            have sm3 := sm2.trans s3
            by_cases hmem : (xl, yr) ∈ rs
            · obtain ⟨kk, hkk, ek⟩ := List.mem_iff_getElem.mp hmem
              have hk : rs[kk]? = some (xl, yr) := by rw [List.getElem?_eq_getElem hkk, ek]
              have uniq : ∀ k, rs[k]? = some (xl, yr) → k = kk := fun k h => by
                have r1 := rankV_at ta.ok h
                have r2 := rankV_at ta.ok hk
                have r3 := r1.symm.trans r2
                have := V.int.inj r3
                omega
              rw [rankV_at ta.ok hk]
              refine ⟨_, rfl, rfl, _, rfl, iteT ⟨_, rfl, _, rfl, _, _, rfl, rfl, _, rfl, ?_⟩⟩
              by_cases c1 : kk < xe
              · have c1' : ((kk : Nat) : Int) < ((xe : Nat) : Int) := by omega
                rw [decide_eq_true c1']
                refine iteT ⟨_, rfl, _, rfl, _, _, rfl, rfl, _, rfl, ?_⟩
                by_cases c2 : kk ≤ ye
                · have c2' : ((kk : Nat) : Int) ≤ ((ye : Nat) : Int) := by omega
                  rw [decide_eq_true c2']
                  have tk : (∀ j, m = some j → kk < j) → Least rs (L ++ (M ++ [((xl, xe), (yr, ye))])) (some kk) := fun h => by
                    rw [← List.append_assoc]
                    exact hle2.take ta.ok.rnodup hk c1 c2 h
                  cases m with
                  | none =>
                    refine iteT ⟨_, rfl, rfl, _, rfl, iteT (iteT ?_)⟩
                    exact ⟨_, rfl, some kk, _, _, _, _, rfl, sm3, tk (fun j e => by cases e), hM1⟩
                  | some m0 =>
                    refine iteT ⟨_, rfl, rfl, _, rfl, iteF ⟨_, rfl, _, rfl, _, _, rfl, rfl, _, rfl, ?_⟩⟩
                    by_cases c3 : kk < m0
                    · have c3' : ((kk : Nat) : Int) < ((m0 : Nat) : Int) := by omega
                      rw [decide_eq_true c3']
                      refine iteT ?_
                      exact ⟨_, rfl, some kk, _, _, _, _, rfl, sm3, tk (fun j e => by cases e; exact c3), hM1⟩
                    · have c3' : ¬ ((kk : Nat) : Int) < ((m0 : Nat) : Int) := by omega
                      rw [decide_eq_false c3']
                      refine iteF ⟨some m0, _, _, _, _, rfl, sm3, skip _ hle2 (fun k h _ _ => ⟨m0, rfl, by have := uniq k h; omega⟩), hM1⟩
                · have c2' : ¬ ((kk : Nat) : Int) ≤ ((ye : Nat) : Int) := by omega
                  rw [decide_eq_false c2']
                  exact iteF (iteF ⟨m, _, _, _, _, rfl, sm3, skip _ hle2 (fun k h _ h2 => by have := uniq k h; omega), hM1⟩)
              · have c1' : ¬ ((kk : Nat) : Int) < ((xe : Nat) : Int) := by omega
                rw [decide_eq_false c1']
                exact iteF (iteF ⟨m, _, _, _, _, rfl, sm3, skip _ hle2 (fun k h h1 _ => by have := uniq k h; omega), hM1⟩)
            · rw [rankV_none hmem]
              exact ⟨_, rfl, rfl, _, rfl, iteF (iteF ⟨m, _, _, _, _, rfl, sm3, skip _ hle2 (fun k h _ _ => absurd (List.mem_of_getElem? h) hmem), hM1⟩)⟩
        · rintro σ H2 ⟨m, u3, u4, u5, M, rfl, sm2, hle2, hM⟩
          rw [List.length_map, Paired.len hfs, List.take_length] at hM
          have et : es.take (i + 1) = es.take i ++ [(xl, xe)] := by rw [List.take_add_one, hxi]; rfl
          refine ⟨m, _, _, _, _, _, L ++ M, rfl, sm2, hle2, fun q => ?_⟩
          rw [List.mem_append, hL q, hM q, et, List.mem_append, List.mem_singleton]
          constructor
          · rintro (⟨h1, h2⟩ | ⟨h1, h2⟩)
            · exact ⟨.inl h1, h2⟩
            · exact ⟨.inr h1, h2⟩
          · rintro ⟨h1 | h1, h2⟩
            · exact .inl ⟨h1, h2⟩
            · exact .inr ⟨h1, h2⟩
    · rintro σ H' ⟨m, u1, u2, u3, u4, u5, L, rfl, sm, hle, hL⟩
      rw [List.length_map, Paired.len hes, List.take_length] at hL
      rw [← hle.find hL] at k
      exact ⟨_, rfl, k _ sm⟩
end
end Jr
namespace Jr
open PySem PySem.Spec PyProof.Rows L2
/-! ### a region of objects that change, beside what stays -/
structure Reg (S H : Hp) (L : List (Addr × HO)) : Prop where
  same : Same S H
  off : ∀ q ∈ L, S q.1 = none
  nd : (L.map (·.1)).Nodup
  at_ : ∀ q ∈ L, H q.1 = some q.2
def out (H : Hp) (L : List (Addr × HO)) : Hp := fun b => if b ∈ L.map (·.1) then none else H b
section
variable {S H H' : Hp} {L : List (Addr × HO)} {a p : Addr} {o o' : HO} {i : Nat}
theorem out_of (h : H a = some o) (n : ¬ a ∈ L.map (·.1)) : out H L a = some o := by
  unfold out
  rw [if_neg n]
  exact h
theorem Reg.nil (H : Hp) : Reg H H [] := ⟨Same.refl _, fun q h => (by cases h), List.nodup_nil, fun q h => (by cases h)⟩
theorem Reg.get (r : Reg S H L) (h : L[i]? = some (a, o)) : H a = some o := r.at_ (a, o) (List.mem_of_getElem? h)
theorem Reg.step (r : Reg S H L) (s : Same H H') : Reg S H' L := ⟨r.same.trans s, r.off, r.nd, fun q hq => s _ _ (r.at_ q hq)⟩
theorem Reg.free (r : Reg S H L) (h : H p = none) : ¬ p ∈ L.map (·.1) := fun hm => by
  obtain ⟨q, hq, e⟩ := List.mem_map.mp hm
  have := r.at_ q hq
  rw [e, h] at this
  cases this
theorem Reg.kind (r : Reg S H L) (h : H p = some o) (n : ∀ q ∈ L, q.2 ≠ o) : ¬ p ∈ L.map (·.1) := fun hm => by
  obtain ⟨q, hq, e⟩ := List.mem_map.mp hm
  have := r.at_ q hq
  rw [e, h] at this
  exact n q hq (Option.some.inj this).symm
theorem Reg.new (r : Reg S H L) (n : H p = none) (s : Same H H') (h : H' p = some o) : Reg S H' (L ++ [(p, o)]) := by
  have r' := r.step s
  refine ⟨r'.same, fun q hq => ?_, ?_, fun q hq => ?_⟩
  · rcases List.mem_append.mp hq with hq | hq
    · exact r.off q hq
    · rw [List.mem_singleton.mp hq]
      exact r.same.free n
  · rw [List.map_append, List.nodup_append]
    refine ⟨r.nd, by simp, fun x hx y hy => ?_⟩
    have e : y = p := by simpa using hy
    rw [e]
    exact fun e2 => r.free n (e2 ▸ hx)
  · rcases List.mem_append.mp hq with hq | hq
    · exact r'.at_ q hq
    · rw [List.mem_singleton.mp hq]
      exact h
theorem map_set_fst : ∀ (L : List (Addr × HO)) (i : Nat), L[i]? = some (a, o) → (L.set i (a, o')).map (·.1) = L.map (·.1)
  | [], _, h => by simp at h
  | q :: L, 0, h => by
    have e : q = (a, o) := Option.some.inj h
    subst e
    rfl
  | q :: L, i + 1, h => by
    show q.1 :: (L.set i (a, o')).map (·.1) = _
    rw [map_set_fst L i h]
    rfl
theorem Reg.set (r : Reg S H L) (h : L[i]? = some (a, o)) : Reg S (upd H a o') (L.set i (a, o')) := by
  have hm := List.mem_of_getElem? h
  have hi : i < L.length := (List.getElem?_eq_some_iff.mp h).1
  have ea := map_set_fst (o' := o') L i h
  have key : ∀ (j : Nat) (q : Addr × HO), (L.set i (a, o'))[j]? = some q → q = (a, o') ∨ (q ∈ L ∧ q.1 ≠ a) := fun j q hj => by
    by_cases c : j = i
    · subst c
      rw [List.getElem?_set_self hi] at hj
      exact .inl (Option.some.inj hj).symm
    · rw [List.getElem?_set_ne (fun e => c e.symm)] at hj
      refine .inr ⟨List.mem_of_getElem? hj, fun e => c ?_⟩
      have h1 : (L.map (·.1))[j]? = some q.1 := by rw [List.getElem?_map, hj]; rfl
      have h2 : (L.map (·.1))[i]? = some a := by rw [List.getElem?_map, h]; rfl
      obtain ⟨a1, b1⟩ := List.getElem?_eq_some_iff.mp h1
      obtain ⟨a2, b2⟩ := List.getElem?_eq_some_iff.mp h2
      rcases Nat.lt_trichotomy j i with c | c | c
      · exact absurd (b1.trans (e.trans b2.symm)) (List.pairwise_iff_getElem.mp r.nd j i a1 a2 c)
      · exact c
      · exact absurd (b2.trans (e.symm.trans b1.symm)) (List.pairwise_iff_getElem.mp r.nd i j a2 a1 c)
  refine ⟨Same.mut r.same (r.off _ hm), fun q hq => ?_, by rw [ea]; exact r.nd, fun q hq => ?_⟩
  · obtain ⟨j, hj, e⟩ := List.mem_iff_getElem.mp hq
    rcases key j q (by rw [List.getElem?_eq_getElem hj, e]) with e2 | ⟨h2, _⟩
    · rw [e2]; exact r.off (a, o) hm
    · exact r.off q h2
  · obtain ⟨j, hj, e⟩ := List.mem_iff_getElem.mp hq
    rcases key j q (by rw [List.getElem?_eq_getElem hj, e]) with e2 | ⟨h2, n2⟩
    · rw [e2, upd_same]
    · rw [upd_ne n2]; exact r.at_ q h2
theorem Reg.grow (r : Reg S H L) (s : Same H H') : Reg (out H' L) H' L ∧ Same S (out H' L) := by
  have r' := r.step s
  refine ⟨⟨fun b o hb => ?_, fun q hq => ?_, r.nd, r'.at_⟩, fun b o hb => ?_⟩
  · unfold out at hb
    split at hb
    · cases hb
    · exact hb
  · unfold out
    rw [if_pos (List.mem_map.mpr ⟨q, hq, rfl⟩)]
  · refine out_of (r'.same _ _ hb) fun hm => ?_
    obtain ⟨q, hq, e⟩ := List.mem_map.mp hm
    have := r.off q hq
    rw [e, hb] at this
    cases this
theorem Reg.perm {L' : List (Addr × HO)} (r : Reg S H L) (h : L.Perm L') : Reg S H L' := ⟨r.same, fun q hq => r.off q (h.mem_iff.mpr hq), (h.map (·.1)).nodup_iff.mp r.nd, fun q hq => r.at_ q (h.mem_iff.mpr hq)⟩
/-- some of the objects change no more -/
theorem Reg.freeze {L1 L2 : List (Addr × HO)} (r : Reg S H (L1 ++ L2)) : Reg (out H L2) H L2 ∧ Same S (out H L2) ∧ ∀ q ∈ L1, out H L2 q.1 = some q.2 := by
  have nd := r.nd
  rw [List.map_append, List.nodup_append] at nd
  have r2 : Reg S H L2 := ⟨r.same, fun q hq => r.off q (List.mem_append_right _ hq), nd.2.1, fun q hq => r.at_ q (List.mem_append_right _ hq)⟩
  obtain ⟨a, b⟩ := r2.grow (Same.refl H)
  exact ⟨a, b, fun q hq => out_of (r.at_ q (List.mem_append_left _ hq)) fun hm => nd.2.2 _ (List.mem_map.mpr ⟨q, hq, rfl⟩) _ hm rfl⟩
/-- a list of tuples that a call has laid stays outside -/
theorem Reg.outs (r : Reg S H L) (s : Same H H') (n : H p = none) {as : List Addr} {fs : List (Str × Nat)} (hp : H' p = some (.lst (as.map V.ref))) (ha : Paired (fun a x => H' a = some (.tup [.str x.1, .int ((x.2 : Nat) : Int)])) as fs) (nt : ∀ q ∈ L, ∀ xs, q.2 ≠ .tup xs) :
    out H' L p = some (.lst (as.map V.ref)) ∧ Paired (fun a x => out H' L a = some (.tup [.str x.1, .int ((x.2 : Nat) : Int)])) as fs :=
  ⟨out_of hp (r.free n), L2.Paired.mapP ha fun a x h => out_of h ((r.step s).kind h fun q hq => nt q hq _)⟩
end
end Jr
namespace Jr
open PySem PySem.Spec PyProof.Rows L2
abbrev FC (K : PySem.W.Frag) : Addr := He.ga K "Follows"
def fg7 (t re le al af ah pr : Addr) : List (Str × V) := [("held_table", .ref t), ("right_edges", .ref re), ("left_edges", .ref le), ("alone_pieces", .ref al), ("pieces_after", .ref af), ("pieces_ahead", .ref ah), ("pairs", .ref pr)]
section
variable (t re le al af ah pr : Addr)
theorem g7_t : (fg7 t re le al af ah pr).lookup ("held_table" : Str) = some (V.ref t) := by kernel_rfl
theorem g7_re : (fg7 t re le al af ah pr).lookup ("right_edges" : Str) = some (V.ref re) := by kernel_rfl
theorem g7_le : (fg7 t re le al af ah pr).lookup ("left_edges" : Str) = some (V.ref le) := by kernel_rfl
theorem g7_al : (fg7 t re le al af ah pr).lookup ("alone_pieces" : Str) = some (V.ref al) := by kernel_rfl
theorem g7_af : (fg7 t re le al af ah pr).lookup ("pieces_after" : Str) = some (V.ref af) := by kernel_rfl
theorem g7_ah : (fg7 t re le al af ah pr).lookup ("pieces_ahead" : Str) = some (V.ref ah) := by kernel_rfl
theorem g7_pr : (fg7 t re le al af ah pr).lookup ("pairs" : Str) = some (V.ref pr) := by kernel_rfl
theorem g7_mfr : (fg7 t re le al af ah pr).lookup ("first_rank" : Str) = none := by kernel_rfl
theorem g7_mia : (fg7 t re le al af ah pr).lookup ("is_alone" : Str) = none := by kernel_rfl
theorem g7_mpa : (fg7 t re le al af ah pr).lookup ("pair_all" : Str) = none := by kernel_rfl
theorem g7_mt : (fg7 t re le al af ah pr).lookup ("table" : Str) = none := by kernel_rfl
theorem g7_mal : (fg7 t re le al af ah pr).lookup ("alone" : Str) = none := by kernel_rfl
theorem g7_maf : (fg7 t re le al af ah pr).lookup ("after" : Str) = none := by kernel_rfl
theorem g7_mah : (fg7 t re le al af ah pr).lookup ("ahead" : Str) = none := by kernel_rfl
theorem g7_may : (fg7 t re le al af ah pr).lookup ("may" : Str) = none := by kernel_rfl
theorem g7_put : putF "pairs" (.ref pr) (putF "pieces_ahead" (.ref ah) (putF "pieces_after" (.ref af) (putF "alone_pieces" (.ref al) (putF "left_edges" (.ref le) (putF "right_edges" (.ref re) (putF "held_table" (.ref t) [])))))) = fg7 t re le al af ah pr := by kernel_rfl
end
/-- the edges of all pieces, by a dict -/
def Eds (H : Hp) (A : List (Key × V)) (z : Str) (rs : Rws) (side : Nat) : Prop := ∀ q ∈ pcs z rs, ∃ a fs, valV A (Sum.inr q) = some (.ref a) ∧ EndsL H a fs ∧ EdgeE rs side rs.length q fs
theorem Eds.same {H H' : Hp} {A : List (Key × V)} {z : Str} {rs : Rws} {side : Nat} (h : Eds H A z rs side) (s : Same H H') : Eds H' A z rs side := fun q hq => by
  obtain ⟨a, fs, h1, h2, h3⟩ := h q hq
  exact ⟨a, fs, h1, h2.same s, h3⟩
section
variable {P : Program} {w : World} {K : PySem.W.Frag} {mg : Str → Option Value} {base : Heap}
/-- a Follows that has its edges -/
structure FolE (K : PySem.W.Frag) (H : Hp) (x dx t re le al af ah pr : Addr) (z : Str) (rs : Rws) : Prop where
  hx : H x = some (.ins (FC K) dx (fg7 t re le al af ah pr))
  ta : TabAt (TC K) H t z rs
  ed : ∃ A B, H re = some (.dK A) ∧ H le = some (.dK B) ∧ Eds H A z rs 1 ∧ Eds H B z rs 0
theorem FolE.same {H H' : Hp} {x dx t re le al af ah pr : Addr} {z : Str} {rs : Rws} (h : FolE K H x dx t re le al af ah pr z rs) (s : Same H H') : FolE K H' x dx t re le al af ah pr z rs := by
  obtain ⟨A, B, h1, h2, h3, h4⟩ := h.ed
  exact ⟨s _ _ h.hx, h.ta.same s, A, B, s _ _ h1, s _ _ h2, h3.same s, h4.same s⟩
def spFirst (K : PySem.W.Frag) : Sp := fun vs H Q _ => ∃ (x dx t re le al af ah pr : Addr) (z : Str) (rs : Rws) (l r : Str), vs = [.ref x, .str l, .str r] ∧ FolE K H x dx t re le al af ah pr z rs ∧ l ∈ pcs z rs ∧ r ∈ pcs z rs ∧ sweep rs l = [l] ∧ sweep rs r = [r] ∧
  ∀ H', Same H H' → Q (optV (metR 0 rs (sgs (l ++ r)) l.length)) H'
theorem met_first_rank (T : Tx K mg) : Met P w K mg base CX0 3 (FC K) "first_rank" (spFirst K) := by
  have C_edges_meet := cal_edges_meet (P := P) (w := w) (base := base) T
  obtain ⟨fd, F⟩ := T.d_Follows_first_rank
  refine ⟨T.cl_Follows, _, fd, P_Follows_first_rank, F.ok sc_Follows_first_rank (fun vs H Q E h => ?_) (fun cdv A outer s H vs Q E hr h => ?_), T.m_Follows_first_rank, F.bindsN (ps := P_Follows_first_rank) fun _ _ _ _ _ _ us hl => match us, hl with | [_, _, _], _ => rfl⟩
  · obtain ⟨x, dx, t, re, le, al, af, ah, pr, z, rs, l, r, rfl, _⟩ := h
    rfl
  · obtain ⟨x, dx, t, re, le, al, af, ah, pr, z, rs, l, r, rfl, fe, hl, hr', al1, al2, k⟩ := h
    refine ⟨_, (PSs.nox (pss_one (ps_ret (pe_cal C_edges_meet (by first | exact hr | exact hr.mono (by decide)) (by rfl) (pa_cons (pe_fld (pv 0) rfl) (pa_cons (pe_dget (hu_of hr) (pe_fld (pv 0) rfl) (pv 1) (fun _ _ => rfl)) (pa_cons (pe_dget (hu_of hr) (pe_fld (pv 0) rfl) (pv 2) (fun _ _ => rfl)) pa_nil))))))), ?_⟩
    obtain ⟨A, B, h1, h2, h3, h4⟩ := fe.ed
    obtain ⟨q1, es, v1, e1, E1⟩ := h3 l hl
    obtain ⟨q2, fs, v2, e2, E2⟩ := h4 r hr'
    rw [meet_edges fe.ta.ok al1 al2 hl hr' E1 E2] at k
    refine ⟨_, rfl, x, _, dx, _, _, rfl, fe.hx, T.cl_Follows, T.no_Follows_held_table, g7_t _ _ _ _ _ _ _, ?_⟩
    refine ⟨_, rfl, x, _, dx, _, _, rfl, fe.hx, T.cl_Follows, T.no_Follows_right_edges, g7_re _ _ _ _ _ _ _, _, rfl, re, _, rfl, v1 ▸ DGet.k (k := Sum.inr l) h1, ?_⟩
    refine ⟨_, rfl, x, _, dx, _, _, rfl, fe.hx, T.cl_Follows, T.no_Follows_left_edges, g7_le _ _ _ _ _ _ _, _, rfl, le, _, rfl, v2 ▸ DGet.k (k := Sum.inr r) h2, ?_⟩
    exact ⟨t, q1, q2, z, rs, es, fs, rfl, fe.ta, e1, e2, k⟩
/-- is_alone, where the pieces ahead are known -/
def spIsAlone (K : PySem.W.Frag) : Sp := fun vs H Q _ => ∃ (x dx t re le al af ah pr : Addr) (z : Str) (rs : Rws) (p : Str) (D : List (Key × V)), vs = [.ref x, .str p] ∧ FolE K H x dx t re le al af ah pr z rs ∧ p ∈ pcs z rs ∧ H al = some (.dK D) ∧
  (∀ j r, rs[j]? = some r → jn r = p → ∀ q ∈ pcs z (rs.take j), valV D (Sum.inr q) = if sweep rs q = [q] then some (.bl true) else none) ∧
  ∀ H', Same H H' → Q (.bl (decide (sweep rs p = [p]))) H'
theorem met_is_alone (T : Tx K mg) : Met P w K mg base CX0 4 (FC K) "is_alone" (spIsAlone K) := by
  have M_Table_parts := met_parts (P := P) (w := w) (base := base) T
  have M_Table_rank := met_rank (P := P) (w := w) (base := base) T
  have M_Follows_first_rank := met_first_rank (P := P) (w := w) (base := base) T
  obtain ⟨fd, F⟩ := T.d_Follows_is_alone
  refine ⟨T.cl_Follows, _, fd, P_Follows_is_alone, F.ok sc_Follows_is_alone (fun vs H Q E h => ?_) (fun cdv A outer s H vs Q E hr h => ?_), T.m_Follows_is_alone, F.bindsN (ps := P_Follows_is_alone) fun _ _ _ _ _ _ us hl => match us, hl with | [_, _], _ => rfl⟩
  · obtain ⟨x, dx, t, re, le, al, af, ah, pr, z, rs, p, D, rfl, _⟩ := h
    rfl
  · obtain ⟨x, dx, t, re, le, al, af, ah, pr, z, rs, p, D, rfl, fe, hp, hD, hA, k⟩ := h
    refine ⟨_, (PSs.nox (pss_cons (ps_set (i := 2) sc_Follows_is_alone.nd rfl (Or.inl rfl) (pe_met M_Table_parts (pe_fld (pv 0) rfl) (by first | exact hr | exact hr.mono (by decide)) (pa_cons (pv 1) pa_nil)))
      (pss_cons (ps_if (pt_cmpR op_isN (pv 2) pe_non (nomark _)) (pss_one (ps_ret pe_bl)) pss_nil)
      (pss_cons (ps_asg (pv 2) (pg_tup rfl (pgs_cons (pg_name (i := 3) sc_Follows_is_alone.nd rfl (Or.inl rfl)) (pgs_cons (pg_name (i := 4) sc_Follows_is_alone.nd rfl (Or.inl rfl)) pgs_nil))))
      (pss_cons (ps_if (PW.pt (pw_or (pt_cmp (pc_dnotin (hu_of hr) (pv 3) (pe_fld (pv 0) rfl))) (pw_or1 (pt_cmp (pc_dnotin (hu_of hr) (pv 4) (pe_fld (pv 0) rfl)))))) (pss_one (ps_ret pe_bl)) pss_nil)
      (pss_one (ps_ret (pe_cmpR op_eq (pe_met M_Follows_first_rank (pv 0) (by first | exact hr | exact hr.mono (by decide)) (pa_cons (pv 3) (pa_cons (pv 4) pa_nil))) (pe_met M_Table_rank (pe_fld (pv 0) rfl) (by first | exact hr | exact hr.mono (by decide)) (pa_cons (pv 3) (pa_cons (pv 4) pa_nil))) (nomark _))))))))), ?_⟩
    obtain ⟨dxt, lr, lp, dn, dr, m, ht, _⟩ := fe.ta.ex
    refine ⟨_, rfl, x, _, dx, _, _, rfl, fe.hx, T.cl_Follows, T.no_Follows_held_table, g7_t _ _ _ _ _ _ _, t, dxt, _, rfl, ht, l6_mpa _ _ _ _ _ _, _, rfl, t, z, rs, p, rfl, fe.ta, hp, fun v hv => ?_⟩
    rcases hv with ⟨hsg, rfl⟩ | ⟨r, a, hr', ejr, hta, rfl⟩
    · have e : sweep rs p = [p] := by
        unfold sweep
        rw [sgs_sign hsg, passAll_one]
      rw [decide_eq_true e] at k
      exact ⟨_, rfl, rfl, _, rfl, iteT (k _ (Same.refl _))⟩
    · obtain ⟨j, hj, ej⟩ := List.mem_iff_getElem.mp hr'
      have hjr : rs[j]? = some r := by rw [List.getElem?_eq_getElem hj, ej]
      have ro := fe.ta.ok.rows j r hjr
      have hta : H a = some (.tup [.str r.1, .str r.2]) := hta
      have h1 := hA j r hjr ejr r.1 ro.lm
      have h2 := hA j r hjr ejr r.2 ro.rm
      refine ⟨_, rfl, rfl, _, rfl, iteF ?_⟩
      refine ⟨_, rfl, a, _, rfl, SqT.of hta, rfl, _, _, rfl, _, _, rfl, rfl, ?_⟩
      refine ⟨_, rfl, _, rfl, x, _, dx, _, _, rfl, fe.hx, T.cl_Follows, T.no_Follows_alone_pieces, g7_al _ _ _ _ _ _ _, al, _, rfl, DGet.k (k := Sum.inr r.1) hD, _, rfl, ?_⟩
      have pa := parts_alone fe.ta.ok (l := r.1) (r := r.2) hjr
      rw [h1]
      by_cases c1 : sweep rs r.1 = [r.1]
      · rw [if_pos c1]
        refine iteF ⟨_, rfl, _, rfl, x, _, dx, _, _, rfl, fe.hx, T.cl_Follows, T.no_Follows_alone_pieces, g7_al _ _ _ _ _ _ _, al, _, rfl, DGet.k (k := Sum.inr r.2) hD, _, rfl, ?_⟩
        rw [h2]
        by_cases c2 : sweep rs r.2 = [r.2]
        · rw [if_pos c2]
          refine iteF ?_
          refine ⟨_, rfl, x, dx, _, rfl, fe.hx, g7_mfr _ _ _ _ _ _ _, _, rfl, _, rfl, x, dx, t, re, le, al, af, ah, pr, z, rs, r.1, r.2, rfl, fe, pcs_take_all ro.lm, pcs_take_all ro.rm, c1, c2, fun H1 s1 => ?_⟩
          have fe1 := fe.same s1
          obtain ⟨dxt1, lr1, lp1, dn1, dr1, m1, ht1, _⟩ := fe1.ta.ex
          refine ⟨_, rfl, x, _, dx, _, _, rfl, fe1.hx, T.cl_Follows, T.no_Follows_held_table, g7_t _ _ _ _ _ _ _, t, dxt1, _, rfl, ht1, l6_mrk _ _ _ _ _ _, _, rfl, _, rfl, t, z, rs, r.1, r.2, rfl, fe1.ta, fun H2 s2 => ?_⟩
          have ai := alone_iff fe.ta.ok hjr c1 c2
          rw [ejr] at ai
          rw [rankV_at fe.ta.ok hjr]
          have ed : decide (optV (metR 0 rs (sgs (r.1 ++ r.2)) r.1.length) = V.int (j : Nat)) = decide (sweep rs p = [p]) := by
            by_cases c3 : sweep rs p = [p]
            · rw [decide_eq_true c3, ai.mp c3]
              exact decide_eq_true rfl
            · rw [decide_eq_false c3]
              refine decide_eq_false fun e => c3 (ai.mpr ?_)
              cases em : metR 0 rs (sgs (r.1 ++ r.2)) r.1.length with
              | none => rw [em] at e; cases e
              | some i =>
                rw [em] at e
                have := V.int.inj e
                have e2 : i = j := by omega
                rw [e2]
          have kk := k _ (s1.trans s2)
          rw [← ed] at kk
          cases em : metR 0 rs (sgs (r.1 ++ r.2)) r.1.length with
          | none => rw [em] at kk; exact ⟨rfl, kk⟩
          | some i => rw [em] at kk; exact ⟨rfl, kk⟩
        · rw [if_neg c2]
          have e : ¬ sweep rs p = [p] := fun e => c2 (pa (by rw [← ejr] at e; exact e)).2
          rw [decide_eq_false e] at k
          exact iteT (k _ (Same.refl _))
      · rw [if_neg c1]
        have e : ¬ sweep rs p = [p] := fun e => c1 (pa (by rw [← ejr] at e; exact e)).1
        rw [decide_eq_false e] at k
        exact iteT (iteT (k _ (Same.refl _)))
end
end Jr
namespace Jr
open PySem PySem.Spec PyProof.Rows L2
theorem call_list_dKG {X : Cx} (hc : X.calm = true) : CallR X (.type "list") (fun xs H Q => ∃ p kvs, xs = [.ref p] ∧ H p = some (.dK kvs) ∧ New H (.lst (kvs.map fun kv => kV kv.1)) Q) := call_mono (call_list_dK hc) fun _ _ _ ⟨p, kvs, e, h, n⟩ => ⟨p, kvs, e, h, n.of⟩
/-! ### who may follow whom, gathered pair by pair -/
def fitB (rs : Rws) (q : Str × Str) : Bool := decide (sweep rs (q.1 ++ q.2) = [q.1, q.2])
def aft (rs : Rws) (PL : List (Str × Str)) (p : Str) : List Str := (PL.filter fun q => decide (q.1 = p) && fitB rs q).map (·.2)
def ahd (rs : Rws) (PL : List (Str × Str)) (p : Str) : List Str := (PL.filter fun q => decide (q.2 = p) && fitB rs q).map (·.1)
def AL (z : Str) (rs : Rws) : List Str := (pcs z rs).filter fun p => decide (sweep rs p = [p])
theorem aft_snoc (rs : Rws) (PL : List (Str × Str)) (q : Str × Str) (p : Str) : aft rs (PL ++ [q]) p = aft rs PL p ++ (if q.1 = p ∧ fitB rs q = true then [q.2] else []) := by
  unfold aft
  rw [List.filter_append, List.map_append]
  congr 1
  by_cases c : q.1 = p ∧ fitB rs q = true
  · rw [if_pos c]; simp [c.1, c.2]
  · rw [if_neg c]
    have : (decide (q.1 = p) && fitB rs q) = false := by
      cases h : decide (q.1 = p) && fitB rs q with
      | false => rfl
      | true =>
        rw [Bool.and_eq_true, decide_eq_true_eq] at h
        exact absurd h c
    simp [this]
theorem ahd_snoc (rs : Rws) (PL : List (Str × Str)) (q : Str × Str) (p : Str) : ahd rs (PL ++ [q]) p = ahd rs PL p ++ (if q.2 = p ∧ fitB rs q = true then [q.1] else []) := by
  unfold ahd
  rw [List.filter_append, List.map_append]
  congr 1
  by_cases c : q.2 = p ∧ fitB rs q = true
  · rw [if_pos c]; simp [c.1, c.2]
  · rw [if_neg c]
    have : (decide (q.2 = p) && fitB rs q) = false := by
      cases h : decide (q.2 = p) && fitB rs q with
      | false => rfl
      | true =>
        rw [Bool.and_eq_true, decide_eq_true_eq] at h
        exact absurd h c
    simp [this]
theorem aft_len (rs : Rws) (PL : List (Str × Str)) (p : Str) : (aft rs PL p).length ≤ PL.length := by unfold aft; rw [List.length_map]; exact List.length_filter_le ..
theorem ahd_len (rs : Rws) (PL : List (Str × Str)) (p : Str) : (ahd rs PL p).length ≤ PL.length := by unfold ahd; rw [List.length_map]; exact List.length_filter_le ..
/-- the lists by pieces, as they stand -/
def lstsZ (as : List Addr) (ps : List Str) (f : Str → List Str) : List (Addr × HO) := (as.zip ps).map fun q => (q.1, HO.lst ((f q.2).map V.str))
def kvsZ (as : List Addr) (ps : List Str) : List (Key × V) := (as.zip ps).map fun q => (Sum.inr q.2, V.ref q.1)
theorem lstsZ_at {as : List Addr} {ps : List Str} {f : Str → List Str} {i : Nat} {a : Addr} {p : Str} (ha : as[i]? = some a) (hp : ps[i]? = some p) : (lstsZ as ps f)[i]? = some (a, HO.lst ((f p).map V.str)) := by
  unfold lstsZ
  have : (as.zip ps)[i]? = some (a, p) := List.getElem?_zip_eq_some.mpr ⟨ha, hp⟩
  rw [List.getElem?_map, this]
  rfl
theorem lstsZ_len {as : List Addr} {ps : List Str} (f : Str → List Str) (h : as.length = ps.length) : (lstsZ as ps f).length = ps.length := by
  unfold lstsZ
  rw [List.length_map, List.length_zip, h, Nat.min_self]
theorem lstsZ_ext (as : List Addr) {ps : List Str} {f g : Str → List Str} (h : ∀ p ∈ ps, f p = g p) : lstsZ as ps f = lstsZ as ps g := by
  unfold lstsZ
  refine List.map_congr_left fun q hq => ?_
  rw [h q.2 (List.of_mem_zip hq).2]
theorem nd_at {ps : List Str} (nd : ps.Nodup) {i j : Nat} {p : Str} (hi : ps[i]? = some p) (hj : ps[j]? = some p) : i = j := by
  obtain ⟨a1, b1⟩ := List.getElem?_eq_some_iff.mp hi
  obtain ⟨a2, b2⟩ := List.getElem?_eq_some_iff.mp hj
  rcases Nat.lt_trichotomy i j with c | c | c
  · exact absurd (b1.trans b2.symm) (List.pairwise_iff_getElem.mp nd i j a1 a2 c)
  · exact c
  · exact absurd (b2.trans b1.symm) (List.pairwise_iff_getElem.mp nd j i a2 a1 c)
theorem lstsZ_set {as : List Addr} {ps : List Str} {f : Str → List Str} {i : Nat} {a : Addr} {p : Str} (xs : List Str) (nd : ps.Nodup) (hl : as.length = ps.length) (ha : as[i]? = some a) (hp : ps[i]? = some p) :
    (lstsZ as ps f).set i (a, HO.lst (xs.map V.str)) = lstsZ as ps fun q => if q = p then xs else f q := by
  have hi : i < ps.length := (List.getElem?_eq_some_iff.mp hp).1
  refine List.ext_getElem? fun j => ?_
  by_cases c : j = i
  · subst c
    rw [List.getElem?_set_self (by rw [lstsZ_len f hl]; exact hi), lstsZ_at ha hp, if_pos rfl]
  · rw [List.getElem?_set_ne (fun e => c e.symm)]
    by_cases hj : j < ps.length
    · have hpj : ps[j]? = some ps[j] := List.getElem?_eq_getElem hj
      have haj : as[j]? = some (as[j]'(by omega)) := List.getElem?_eq_getElem (by omega)
      rw [lstsZ_at haj hpj, lstsZ_at haj hpj, if_neg (fun e => c (nd_at nd hpj (by rw [e]; exact hp)))]
    · rw [List.getElem?_eq_none (by rw [lstsZ_len f hl]; omega), List.getElem?_eq_none (by rw [lstsZ_len _ hl]; omega)]
theorem kvsZ_at : ∀ {as : List Addr} {ps : List Str} {i : Nat} {a : Addr} {p : Str}, ps.Nodup → as[i]? = some a → ps[i]? = some p → valV (kvsZ as ps) (Sum.inr p) = some (V.ref a)
  | [], _, _, _, _, _, h, _ => by simp at h
  | _ :: _, [], _, _, _, _, _, h => by simp at h
  | b :: as, q :: ps, 0, a, p, _, ha, hp => by
    have e1 : b = a := Option.some.inj ha
    have e2 : q = p := Option.some.inj hp
    subst e1 e2
    exact valV_pos (p := ((Sum.inr q : Key), V.ref b)) rfl
  | b :: as, q :: ps, i + 1, a, p, nd, ha, hp => by
    have nd' := List.nodup_cons.mp nd
    have h1 : ¬ (Sum.inr q : Key) = Sum.inr p := fun e => nd'.1 (by rw [Sum.inr.inj e]; exact List.mem_of_getElem? (show ps[i]? = some p from hp))
    exact (valV_neg (p := ((Sum.inr q : Key), V.ref b)) h1).trans (kvsZ_at (i := i) nd'.2 ha hp)
theorem put_len {κ : Type} [DecidableEq κ] (c : List (κ × V)) (k : κ) (x : V) : (putK c k x).length ≤ c.length + 1 := by
  unfold putK
  split
  · rw [List.length_map]; omega
  · rw [List.length_append]; exact Nat.le_refl _
theorem fit_alone {rs : Rws} {l r : Str} (h : sweep rs (l ++ r) = [l, r]) : sweep rs l = [l] ∧ sweep rs r = [r] := by
  refine ⟨way_alone (t := l ++ r) ?_, way_alone (t := l ++ r) ?_⟩
  · show l ∈ sweep rs (l ++ r)
    rw [h]; exact List.mem_cons_self
  · show r ∈ sweep rs (l ++ r)
    rw [h]; exact List.mem_cons_of_mem _ List.mem_cons_self
theorem fit_iff {z : Str} {rs : Rws} (T : TabOk z rs) {l r : Str} (h1 : sweep rs l = [l]) (h2 : sweep rs r = [r]) : metR 0 rs (sgs (l ++ r)) l.length = none ↔ fitB rs (l, r) = true := by
  unfold fitB
  rw [meet_iff T, h1, h2, decide_eq_true_eq]
  exact Iff.rfl
/-- all pairs -/
def PLs (z : Str) (rs : Rws) (n : Nat) : List (Str × Str) := ((AL z rs).take n).flatMap fun l => (AL z rs).map fun r => (l, r)
def ALD (z : Str) (rs : Rws) : List (Key × V) := (AL z rs).map fun p => (Sum.inr p, V.bl true)
theorem al_in {z : Str} {rs : Rws} {p : Str} (h : p ∈ AL z rs) : p ∈ pcs z rs ∧ sweep rs p = [p] := by
  have := List.mem_filter.mp h
  exact ⟨this.1, by simpa using this.2⟩
theorem al_len {z : Str} {rs : Rws} (T : TabOk z rs) : (AL z rs).length ≤ 36 := by
  have : (AL z rs).length ≤ (pcs z rs).length := List.length_filter_le ..
  have h1 := T.n12
  have h2 := T.many
  rw [pcs_len] at this
  omega
theorem pls_len {z : Str} {rs : Rws} (T : TabOk z rs) (n : Nat) : (PLs z rs n).length ≤ 1296 := by
  have h := al_len T
  have key : ∀ l : List Str, (l.flatMap fun a => (AL z rs).map fun r => (a, r)).length = l.length * (AL z rs).length := fun l => by
    induction l with
    | nil => simp
    | cons a l ih => rw [List.flatMap_cons, List.length_append, ih, List.length_map, List.length_cons, Nat.succ_mul]; omega
  unfold PLs
  rw [key, List.length_take]
  exact Nat.le_trans (Nat.mul_le_mul (show min n (AL z rs).length ≤ 36 by omega) h) (by decide)
/-- the pairs dict -/
structure PairD (rs : Rws) (PL : List (Str × Str)) (G : List (List Key × V)) : Prop where
  val : ∀ l r : Str, valV G [Sum.inr l, Sum.inr r] = if (l, r) ∈ PL ∧ fitB rs (l, r) = true then some (.bl true) else none
  len : G.length ≤ PL.length
theorem PairD.skip {rs : Rws} {PL : List (Str × Str)} {G : List (List Key × V)} {q : Str × Str} (h : PairD rs PL G) (n : ¬ fitB rs q = true) : PairD rs (PL ++ [q]) G := by
  refine ⟨fun l r => ?_, Nat.le_trans h.len (by rw [List.length_append]; omega)⟩
  rw [h.val]
  by_cases c : (l, r) ∈ PL ∧ fitB rs (l, r) = true
  · rw [if_pos c, if_pos ⟨List.mem_append_left _ c.1, c.2⟩]
  · rw [if_neg c, if_neg]
    rintro ⟨h1, h2⟩
    rcases List.mem_append.mp h1 with h3 | h3
    · exact c ⟨h3, h2⟩
    · rw [List.mem_singleton.mp h3] at h2
      exact n h2
theorem PairD.put {rs : Rws} {PL : List (Str × Str)} {G : List (List Key × V)} {l r : Str} (h : PairD rs PL G) (n : fitB rs (l, r) = true) : PairD rs (PL ++ [(l, r)]) (putK G [Sum.inr l, Sum.inr r] (.bl true)) := by
  refine ⟨fun a b => ?_, Nat.le_trans (put_len ..) (by rw [List.length_append]; have := h.len; simp; omega)⟩
  rw [valV_put]
  by_cases c : ([Sum.inr a, Sum.inr b] : List Key) = [Sum.inr l, Sum.inr r]
  · have e1 := Sum.inr.inj (List.cons.inj c).1
    have e2 := Sum.inr.inj (List.cons.inj (List.cons.inj c).2).1
    rw [if_pos c, e1, e2, if_pos ⟨List.mem_append_right _ (List.mem_singleton.mpr rfl), n⟩]
  · rw [if_neg c, h.val]
    by_cases c2 : (a, b) ∈ PL ∧ fitB rs (a, b) = true
    · rw [if_pos c2, if_pos ⟨List.mem_append_left _ c2.1, c2.2⟩]
    · rw [if_neg c2, if_neg]
      rintro ⟨h1, h2⟩
      rcases List.mem_append.mp h1 with h3 | h3
      · exact c2 ⟨h3, h2⟩
      · have e := List.mem_singleton.mp h3
        rw [(Prod.mk.inj e).1, (Prod.mk.inj e).2] at c
        exact c rfl
/-- the region while pairs are gathered -/
def PReg (S H : Hp) (pr : Addr) (asA asH : List Addr) (z : Str) (rs : Rws) (PL : List (Str × Str)) : Prop := ∃ G, Reg S H ((pr, HO.dT G) :: (lstsZ asA (pcs z rs) (aft rs PL) ++ lstsZ asH (pcs z rs) (ahd rs PL))) ∧ PairD rs PL G
section
variable {P : Program} {w : World} {K : PySem.W.Frag} {mg : Str → Option Value} {base : Heap}
/-- what stays while pairs are gathered -/
structure FolS (K : PySem.W.Frag) (S : Hp) (x dx t re le al af ah pr : Addr) (asA asH : List Addr) (z : Str) (rs : Rws) : Prop where
  fe : FolE K S x dx t re le al af ah pr z rs
  hal : S al = some (.dK (ALD z rs))
  haf : S af = some (.dK (kvsZ asA (pcs z rs)))
  hah : S ah = some (.dK (kvsZ asH (pcs z rs)))
  lA : asA.length = (pcs z rs).length
  lH : asH.length = (pcs z rs).length
theorem FolS.same {S S' : Hp} {x dx t re le al af ah pr : Addr} {asA asH : List Addr} {z : Str} {rs : Rws} (h : FolS K S x dx t re le al af ah pr asA asH z rs) (s : Same S S') : FolS K S' x dx t re le al af ah pr asA asH z rs :=
  ⟨h.fe.same s, s _ _ h.hal, s _ _ h.haf, s _ _ h.hah, h.lA, h.lH⟩
def spPairAll (K : PySem.W.Frag) : Sp := fun vs H Q _ => ∃ (S : Hp) (x dx t re le al af ah pr : Addr) (asA asH : List Addr) (z : Str) (rs : Rws), vs = [.ref x] ∧ FolS K S x dx t re le al af ah pr asA asH z rs ∧ PReg S H pr asA asH z rs [] ∧
  ∀ S' H', Same S S' → PReg S' H' pr asA asH z rs (PLs z rs (AL z rs).length) → Q .non H'
theorem met_pair_all (T : Tx K mg) : Met P w K mg base CX0 4 (FC K) "pair_all" (spPairAll K) := by
  have M_Follows_first_rank := met_first_rank (P := P) (w := w) (base := base) T
  obtain ⟨fd, F⟩ := T.d_Follows_pair_all
  refine ⟨T.cl_Follows, _, fd, P_Follows_pair_all, F.ok sc_Follows_pair_all (fun vs H Q E h => ?_) (fun cdv A outer s H vs Q E hr h => ?_), T.m_Follows_pair_all, F.bindsN (ps := P_Follows_pair_all) fun _ _ _ _ _ _ us hl => match us, hl with | [_], _ => rfl⟩
  · obtain ⟨S, x, dx, t, re, le, al, af, ah, pr, asA, asH, z, rs, rfl, _⟩ := h
    rfl
  · obtain ⟨S, x, dx, t, re, le, al, af, ah, pr, asA, asH, z, rs, rfl, fs, rg, k⟩ := h
    refine ⟨_, (PSs.nox (pss_cons (ps_set (i := 1) sc_Follows_pair_all.nd rfl (Or.inl rfl) (pe_callTy (T := "list") (call_list_dKG rfl) (by rfl) T.n_list (by decide +kernel) (pa_cons (pe_fld (pv 0) rfl) pa_nil)))
      (pss_one (ps_for PassesOwn.never rfl (pi_list (pv 1)) (pg_name (i := 2) sc_Follows_pair_all.nd rfl (Or.inl rfl)) (pss_one (ps_for PassesOwn.never rfl (pi_list (pv 1)) (pg_name (i := 3) sc_Follows_pair_all.nd rfl (Or.inl rfl)) (pss_one (ps_if (pt_cmpR op_isN (pe_met M_Follows_first_rank (pv 0) (by first | exact hr | exact hr.mono (by decide)) (pa_cons (pv 2) (pa_cons (pv 3) pa_nil))) pe_non (nomark _)) (pss_cons (ps_dput (hu_of hr) (pe_fld (pv 0) rfl) (pe_tupG (pa_cons (pv 2) (pa_cons (pv 3) pa_nil))) pe_bl rfl)
      (pss_cons (ps_expr (pe_bm PySem.F.plainAttrs_list PySem.F.slot_list_append PySem.F.type_list_append mt_append (pe_dget (hu_of hr) (pe_fld (pv 0) rfl) (pv 2) (fun _ _ => rfl)) (pa_cons (pv 3) pa_nil)))
      (pss_one (ps_expr (pe_bm PySem.F.plainAttrs_list PySem.F.slot_list_append PySem.F.type_list_append mt_append (pe_dget (hu_of hr) (pe_fld (pv 0) rfl) (pv 3) (fun _ _ => rfl)) (pa_cons (pv 2) pa_nil)))))) pss_nil)))))))), ?_⟩
    obtain ⟨G, r0, pd⟩ := rg
    have nd := fs.fe.ta.ok.nodup
    have all := al_len fs.fe.ta.ok
    have hxH := r0.same _ _ fs.fe.hx
    refine ⟨_, rfl, x, _, dx, _, _, rfl, hxH, T.cl_Follows, T.no_Follows_alone_pieces, g7_al _ _ _ _ _ _ _, al, _, rfl, r0.same _ _ fs.hal, fun q H1 nq s1 hq => ?_⟩
    have eq1 : (ALD z rs).map (fun kv => kV kv.1) = (AL z rs).map V.str := by
      unfold ALD
      rw [List.map_map]
      rfl
    rw [eq1] at hq
    obtain ⟨r1, sS⟩ := r0.grow s1
    have hqS := out_of (L := ((pr, HO.dT G) :: (lstsZ asA (pcs z rs) (aft rs []) ++ lstsZ asH (pcs z rs) (ahd rs [])))) hq (r0.free nq)
    have fs1 := fs.same sS
    revert r1 sS hqS fs1
    generalize (out H1 ((pr, HO.dT G) :: (lstsZ asA (pcs z rs) (aft rs []) ++ lstsZ asH (pcs z rs) (ahd rs [])))) = S1
    intro r1 sS hqS fs1
    refine ⟨_, rfl, q, rfl, ⟨_, SqL.of hq⟩, for_list (K := K) (a := q) (xs := (AL z rs).map V.str) (fun i σ H' => ∃ (S' : Hp) (u v : Option V), σ = [some (.ref x), some (.ref q), u, v] ∧ Same S1 S' ∧ PReg S' H' pr asA asH z rs (PLs z rs i))
      ⟨S1, _, _, rfl, Same.refl _, G, r1, pd⟩ (fun i σ H' _ ⟨S', _, _, _, s, G', r, _⟩ => SqL.of (r.same _ _ (s _ _ hqS))) ?_ ?_⟩
    · rintro i y σ H' hi ⟨S2, u, v, rfl, s2, rg2⟩
      rw [List.getElem?_map] at hi
      cases el : (AL z rs)[i]? with
      | none => rw [el] at hi; cases hi
      | some l =>
        rw [el] at hi
        cases hi
        obtain ⟨lp, la⟩ := al_in (List.mem_of_getElem? el)
        have hq2 : H' q = some (.lst ((AL z rs).map V.str)) := by
          obtain ⟨G', r, _⟩ := rg2
          exact r.same _ _ (s2 _ _ hqS)
        have eP : ∀ j, PLs z rs i ++ ((AL z rs).take j).map (fun r => (l, r)) = PLs z rs i ++ ((AL z rs).take j).map (fun r => (l, r)) := fun _ => rfl
        refine ⟨_, rfl, q, rfl, ⟨_, SqL.of hq2⟩, for_list (K := K) (a := q) (xs := (AL z rs).map V.str) (fun j σ H' => ∃ (S' : Hp) (v : Option V), σ = [some (.ref x), some (.ref q), some (.str l), v] ∧ Same S1 S' ∧ PReg S' H' pr asA asH z rs (PLs z rs i ++ ((AL z rs).take j).map fun r => (l, r)))
          ⟨S2, _, rfl, s2, by rw [List.take_zero, List.map_nil, List.append_nil]; exact rg2⟩ (fun j σ H' _ ⟨S', _, _, s, G', r, _⟩ => SqL.of (r.same _ _ (s _ _ hqS))) ?_ ?_⟩
        · rintro j y σ H3 hj ⟨S3, v, rfl, s3, G3, r3, pd3⟩
          rw [List.getElem?_map] at hj
          cases er : (AL z rs)[j]? with
          | none => rw [er] at hj; cases hj
          | some r =>
            rw [er] at hj
            cases hj
            obtain ⟨rp, ra⟩ := al_in (List.mem_of_getElem? er)
            obtain ⟨PL, ePL⟩ : ∃ PL, PL = PLs z rs i ++ ((AL z rs).take j).map (fun r => (l, r)) := ⟨_, rfl⟩
            have ePL1 : PLs z rs i ++ ((AL z rs).take (j + 1)).map (fun r => (l, r)) = PL ++ [(l, r)] := by
              rw [List.take_add_one, er, ePL, List.append_assoc]
              simp
            rw [← ePL] at r3 pd3
            rw [ePL1]
            have pll : PL.length ≤ 2000 := by
              have h1 := pls_len fs.fe.ta.ok i
              rw [ePL, List.length_append, List.length_map, List.length_take]
              omega
            have fs3 := fs1.same s3
            have fe3 := fs3.fe.same r3.same
            refine ⟨_, rfl, x, dx, _, rfl, fe3.hx, g7_mfr _ _ _ _ _ _ _, _, rfl, _, rfl, x, dx, t, re, le, al, af, ah, pr, z, rs, l, r, rfl, fe3, lp, rp, la, ra, fun H4 s4 => ?_⟩
            have fi := fit_iff fs.fe.ta.ok la ra
            by_cases c : fitB rs (l, r) = true
            · rw [fi.mpr c]
              refine ⟨rfl, _, rfl, iteT ?_⟩
              have r4 := r3.step s4
              have fe4 := fe3.same s4
              refine ⟨_, rfl, x, _, dx, _, _, rfl, fe4.hx, T.cl_Follows, T.no_Follows_pairs, g7_pr _ _ _ _ _ _ _, _, rfl, _, rfl, (by show 2 ≤ sizeLine; decide), fun tq H5 ntq s5 htq => ?_⟩
              obtain ⟨r5, sS5⟩ := r4.grow s5
              have r5' := r4.step s5
              have hpr : H5 pr = some (.dT G3) := r5'.get (i := 0) rfl
              refine ⟨pr, _, rfl, DPut.t (k := [Sum.inr l, Sum.inr r]) hpr htq (szl (by have := pd3.len; omega)), ?_⟩
              have r6 := r5'.set (i := 0) (a := pr) (o := .dT G3) (o' := .dT (putK G3 [Sum.inr l, Sum.inr r] (.bl true))) rfl
              have pd6 := pd3.put c
              obtain ⟨il, hil⟩ := List.getElem?_of_mem lp
              obtain ⟨ir, hir⟩ := List.getElem?_of_mem rp
              have hil' : il < (pcs z rs).length := (List.getElem?_eq_some_iff.mp hil).1
              have hir' : ir < (pcs z rs).length := (List.getElem?_eq_some_iff.mp hir).1
              obtain ⟨aa, haa⟩ : ∃ aa, asA[il]? = some aa := ⟨_, List.getElem?_eq_getElem (by rw [fs.lA]; exact hil')⟩
              obtain ⟨ab, hab⟩ : ∃ ab, asH[ir]? = some ab := ⟨_, List.getElem?_eq_getElem (by rw [fs.lH]; exact hir')⟩
              have lzA := lstsZ_len (aft rs PL) fs.lA
              have g1 : ((pr, HO.dT (putK G3 [Sum.inr l, Sum.inr r] (.bl true))) :: (lstsZ asA (pcs z rs) (aft rs PL) ++ lstsZ asH (pcs z rs) (ahd rs PL)))[il + 1]? = some (aa, HO.lst ((aft rs PL l).map V.str)) := by
                rw [List.getElem?_cons_succ, List.getElem?_append_left (by rw [lzA]; exact hil')]
                exact lstsZ_at haa hil
              have r6' : Reg S3 (upd H5 pr (.dT (putK G3 [Sum.inr l, Sum.inr r] (.bl true)))) ((pr, HO.dT (putK G3 [Sum.inr l, Sum.inr r] (.bl true))) :: (lstsZ asA (pcs z rs) (aft rs PL) ++ lstsZ asH (pcs z rs) (ahd rs PL))) := r6
              revert r6'
              generalize (upd H5 pr (.dT (putK G3 [Sum.inr l, Sum.inr r] (.bl true)))) = H6
              intro r6'
              have hxx := r6'.same _ _ fs3.fe.hx
              have haf6 := r6'.same _ _ fs3.haf
              have v1 := kvsZ_at nd haa hil
              have hA6 := r6'.get g1
              have l1 := aft_len rs PL l
              refine ⟨_, rfl, x, _, dx, _, _, rfl, hxx, T.cl_Follows, T.no_Follows_pieces_after, g7_af _ _ _ _ _ _ _, _, rfl, af, .ref aa, rfl, v1 ▸ DGet.k (k := Sum.inr l) haf6, .inl ⟨rfl, _, SqL.of hA6⟩, _, rfl, aa, _, _, rfl, rfl, hA6, (by rw [List.length_map]; exact szl (by omega)), ?_⟩
              have r7 := r6'.set (o' := .lst ((aft rs PL l).map V.str ++ [V.str r])) g1
              have eA : ((pr, HO.dT (putK G3 [Sum.inr l, Sum.inr r] (.bl true))) :: (lstsZ asA (pcs z rs) (aft rs PL) ++ lstsZ asH (pcs z rs) (ahd rs PL))).set (il + 1) (aa, HO.lst ((aft rs PL l).map V.str ++ [V.str r])) = (pr, HO.dT (putK G3 [Sum.inr l, Sum.inr r] (.bl true))) :: (lstsZ asA (pcs z rs) (aft rs (PL ++ [(l, r)])) ++ lstsZ asH (pcs z rs) (ahd rs PL)) := by
                rw [List.set_cons_succ, List.set_append_left _ _ (by rw [lzA]; exact hil')]
                have e2 : (aft rs PL l).map V.str ++ [V.str r] = (aft rs PL l ++ [r]).map V.str := by rw [List.map_append]; rfl
                rw [e2, lstsZ_set _ nd fs.lA haa hil]
                congr 2
                refine lstsZ_ext _ fun p hp => ?_
                rw [aft_snoc]
                by_cases cp : p = l
                · rw [if_pos cp, cp, if_pos ⟨rfl, c⟩]
                · rw [if_neg cp, if_neg (fun h => cp h.1.symm), List.append_nil]
              rw [eA] at r7
              revert r7
              generalize (upd H6 aa (.lst ((aft rs PL l).map V.str ++ [V.str r]))) = H7
              intro r7
              have lzA7 := lstsZ_len (aft rs (PL ++ [(l, r)])) fs.lA
              have g2 : ((pr, HO.dT (putK G3 [Sum.inr l, Sum.inr r] (.bl true))) :: (lstsZ asA (pcs z rs) (aft rs (PL ++ [(l, r)])) ++ lstsZ asH (pcs z rs) (ahd rs PL)))[((pcs z rs).length + ir) + 1]? = some (ab, HO.lst ((ahd rs PL r).map V.str)) := by
                rw [List.getElem?_cons_succ, List.getElem?_append_right (by rw [lzA7]; omega), lzA7, Nat.add_sub_cancel_left]
                exact lstsZ_at hab hir
              have hxx7 := r7.same _ _ fs3.fe.hx
              have hah7 := r7.same _ _ fs3.hah
              have v2 := kvsZ_at nd hab hir
              have hH7 := r7.get g2
              have l2 := ahd_len rs PL r
              refine ⟨_, rfl, x, _, dx, _, _, rfl, hxx7, T.cl_Follows, T.no_Follows_pieces_ahead, g7_ah _ _ _ _ _ _ _, _, rfl, ah, .ref ab, rfl, v2 ▸ DGet.k (k := Sum.inr r) hah7, .inl ⟨rfl, _, SqL.of hH7⟩, _, rfl, ab, _, _, rfl, rfl, hH7, (by rw [List.length_map]; exact szl (by omega)), ?_⟩
              have r8 := r7.set (o' := .lst ((ahd rs PL r).map V.str ++ [V.str l])) g2
              have eH : ((pr, HO.dT (putK G3 [Sum.inr l, Sum.inr r] (.bl true))) :: (lstsZ asA (pcs z rs) (aft rs (PL ++ [(l, r)])) ++ lstsZ asH (pcs z rs) (ahd rs PL))).set (((pcs z rs).length + ir) + 1) (ab, HO.lst ((ahd rs PL r).map V.str ++ [V.str l])) = (pr, HO.dT (putK G3 [Sum.inr l, Sum.inr r] (.bl true))) :: (lstsZ asA (pcs z rs) (aft rs (PL ++ [(l, r)])) ++ lstsZ asH (pcs z rs) (ahd rs (PL ++ [(l, r)]))) := by
                rw [List.set_cons_succ, List.set_append_right _ _ (by rw [lzA7]; omega), lzA7, Nat.add_sub_cancel_left]
                have e2 : (ahd rs PL r).map V.str ++ [V.str l] = (ahd rs PL r ++ [l]).map V.str := by rw [List.map_append]; rfl
                rw [e2, lstsZ_set _ nd fs.lH hab hir]
                congr 2
                refine lstsZ_ext _ fun p hp => ?_
                rw [ahd_snoc]
                by_cases cp : p = r
                · rw [if_pos cp, cp, if_pos ⟨rfl, c⟩]
                · rw [if_neg cp, if_neg (fun h => cp h.1.symm), List.append_nil]
              rw [eH] at r8
              exact ⟨S3, _, rfl, s3, _, r8, pd6⟩
            · have hn : metR 0 rs (sgs (l ++ r)) l.length ≠ none := fun e => c (fi.mp e)
              have e1 : lstsZ asA (pcs z rs) (aft rs PL) = lstsZ asA (pcs z rs) (aft rs (PL ++ [(l, r)])) := lstsZ_ext _ fun p hp => by rw [aft_snoc, if_neg (fun h => c h.2), List.append_nil]
              have e2 : lstsZ asH (pcs z rs) (ahd rs PL) = lstsZ asH (pcs z rs) (ahd rs (PL ++ [(l, r)])) := lstsZ_ext _ fun p hp => by rw [ahd_snoc, if_neg (fun h => c h.2), List.append_nil]
              have r4 := r3.step s4
              rw [e1, e2] at r4
              cases em : metR 0 rs (sgs (l ++ r)) l.length with
              | none => exact absurd em hn
              | some kk => exact ⟨rfl, _, rfl, iteF ⟨S3, _, rfl, s3, G3, r4, pd3.skip c⟩⟩
        · rintro σ H3 ⟨S3, v, rfl, s3, rg3⟩
          refine ⟨S3, _, _, rfl, s3, ?_⟩
          rw [List.length_map, List.take_length] at rg3
          have e : PLs z rs (i + 1) = PLs z rs i ++ (AL z rs).map fun r => (l, r) := by
            unfold PLs
            rw [List.take_add_one, el]
            simp
          rw [e]
          exact rg3
    · rintro σ H' ⟨S', u, v, rfl, s', rg'⟩
      rw [List.length_map] at rg'
      exact k S' H' (sS.trans s') rg'
end
end Jr
namespace Jr
open PySem PySem.Spec PyProof.Rows L2
section
variable {P : Program} {w : World} {K : PySem.W.Frag} {mg : Str → Option Value} {base : Heap}
def spCheckPiece (K : PySem.W.Frag) : Sp := fun vs H Q _ => ∃ (x : Addr) (z : Str) (rs : Rws) (p : Str), vs = [.ref x, .str p] ∧ TabAt (TC K) H x z rs ∧ p ∈ pcs z rs ∧ Q .non H
theorem cal_check_piece (T : Tx K mg) : Cal P w K mg base CX0 2 "check_piece" (spCheckPiece K) := by
  have M_Table_which := met_which (P := P) (w := w) (base := base) T
  obtain ⟨fd, F⟩ := T.d_check_piece
  refine ⟨_, fd, P_check_piece, F.ok sc_check_piece (fun vs H Q E h => ?_) (fun cdv A outer s H vs Q E hr h => ?_), T.g_check_piece, F.kp, F.bindsN (ps := P_check_piece) fun _ _ _ _ _ _ us hl => match us, hl with | [_, _], _ => rfl⟩
  · obtain ⟨x, z, rs, p, rfl, _⟩ := h
    rfl
  · obtain ⟨x, z, rs, p, rfl, ta, hp, k⟩ := h
    refine ⟨_, (PSs.nox (pss_one (ps_if (pt_cmpR op_isN (pe_met M_Table_which (pv 0) (by first | exact hr | exact hr.mono (by decide)) (pa_cons (pv 1) pa_nil)) pe_non (nomark _)) (pss_one ps_never) pss_nil))), ?_⟩
    obtain ⟨dx, lr, lp, dn, dr, m, h1, _, _, h4, _⟩ := ta.ex
    obtain ⟨i, _, ei⟩ := num_some ta.ok.nodup hp
    refine ⟨_, rfl, x, dx, _, rfl, h1, l6_mw _ _ _ _ _ _, _, rfl, x, dx, _, dn, _, _, rfl, h1, l6_num _ _ _ _ _ _, h4, .inl ⟨p, rfl, ?_⟩⟩
    rw [ei]
    exact ⟨rfl, _, rfl, iteF k⟩
end
end Jr
namespace Jr
open PySem PySem.Spec PyProof.Rows L2
section
variable {P : Program} {w : World} {K : PySem.W.Frag} {mg : Str → Option Value} {base : Heap}
def spEdge (K : PySem.W.Frag) : Sp := fun vs H Q _ => ∃ (x : Addr) (z : Str) (rs : Rws) (p : Str) (side : Nat), vs = [.ref x, .str p, .int (side : Nat)] ∧ side < 2 ∧ TabAt (TC K) H x z rs ∧ p ∈ pcs z rs ∧
  ∀ H' q es, Same H H' → H q = none → H' q = some (.lst (es.map V.str)) → Edge rs side p es → Q (.ref q) H'
theorem cal_edge (T : Tx K mg) : Cal P w K mg base CX0 3 "edge" (spEdge K) := by
  have M_Table_parts := met_parts (P := P) (w := w) (base := base) T
  obtain ⟨fd, F⟩ := T.d_edge
  refine ⟨_, fd, P_edge, F.ok sc_edge (fun vs H Q E h => ?_) (fun cdv A outer s H vs Q E hr h => ?_), T.g_edge, F.kp, F.bindsN (ps := P_edge) fun _ _ _ _ _ _ us hl => match us, hl with | [_, _, _], _ => rfl⟩
  · obtain ⟨x, z, rs, p, side, rfl, _⟩ := h
    rfl
  · obtain ⟨x, z, rs, p, side, rfl, hsd, ta, hp, k⟩ := h
    refine ⟨_, (PSs.nox (pss_cons (ps_set (i := 3) sc_edge.nd rfl (Or.inl rfl) (pe_lst (pa_cons (pv 1) pa_nil)))
      (pss_cons (ps_set (i := 4) sc_edge.nd rfl (Or.inl rfl) (pe_met M_Table_parts (pv 0) (by first | exact hr | exact hr.mono (by decide)) (pa_cons (pv 1) pa_nil)))
      (pss_cons (ps_while PassesOwn.never (pt_cmpR op_notN (pv 4) pe_non (nomark _)) (pss_cons (ps_expr (pe_bm PySem.F.plainAttrs_list PySem.F.slot_list_append PySem.F.type_list_append mt_append (pv 3) (pa_cons (pe_ix ix_tup (pv 4) (pv 2) (fun _ _ => rfl)) pa_nil)))
      (pss_one (ps_set (i := 4) sc_edge.nd rfl (Or.inl rfl) (pe_met M_Table_parts (pv 0) (by first | exact hr | exact hr.mono (by decide)) (pa_cons (pe_ix ix_tup (pv 4) (pv 2) (fun _ _ => rfl)) pa_nil))))))
      (pss_one (ps_ret (pv 3))))))), ?_⟩
    refine ⟨_, rfl, (by show 1 ≤ sizeLine; decide), fun q hq => ?_⟩
    have ta1 := ta.same (Same.new (o := .lst [V.str p]) hq)
    obtain ⟨dx, lr, lp, dn, dr, m, h1, _⟩ := ta1.ex
    have pl := ta.ok.plen hp
    refine ⟨_, rfl, x, dx, _, rfl, h1, l6_mpa _ _ _ _ _ _, _, rfl, x, z, rs, p, rfl, ta1, hp, fun v hv => ?_⟩
    refine ⟨fun n σ H2 => ∃ (v : V) (cur : Str) (done : List Str), n = 16 - done.length ∧ σ = [some (.ref x), some (.str p), some (.int (side : Nat)), some (.ref q), some v] ∧ Same H H2 ∧ cur ∈ pcs z rs ∧ H2 q = some (.lst ((done ++ [cur]).map V.str)) ∧ done.length + cur.length ≤ 16 ∧
      (∀ es, Edge rs side cur es → Edge rs side p (done ++ es)) ∧ PartV H2 z rs cur v, ⟨16, v, p, [], rfl, rfl, Same.new hq, hp, upd_same, by simp; omega, fun es h => h, hv⟩, ?_⟩
    rintro n σ H2 ⟨v, cur, done, rfl, rfl, sm, hc, hQ, hl, hE, hv⟩
    have cl := ta.ok.plen hc
    refine ⟨_, rfl, rfl, _, rfl, ?_⟩
    rcases hv with ⟨hsg, rfl⟩ | ⟨r, a, hr', er, hta, rfl⟩
    · refine iteF ⟨_, rfl, k _ q (done ++ [cur]) sm hq hQ (hE _ (.one (no_row ta.ok hsg)))⟩
    · obtain ⟨hn1, hn2⟩ := part_in (side := side) ta.ok hr'
      rw [er] at hn2
      have qa : a ≠ q := fun e => by
        have h := hta
        unfold TupAt at h
        rw [e, hQ] at h; cases h
      refine iteT ⟨fun σ' H' => ∃ m', m' < 16 - done.length ∧ ∃ (v : V) (cur : Str) (done : List Str), m' = 16 - done.length ∧ σ' = [some (.ref x), some (.str p), some (.int (side : Nat)), some (.ref q), some v] ∧ Same H H' ∧ cur ∈ pcs z rs ∧ H' q = some (.lst ((done ++ [cur]).map V.str)) ∧ done.length + cur.length ≤ 16 ∧
        (∀ es, Edge rs side cur es → Edge rs side p (done ++ es)) ∧ PartV H' z rs cur v, fun _ _ h => h, ?_⟩
      refine ⟨_, rfl, .inl ⟨rfl, _, SqL.of hQ⟩, _, rfl, _, rfl, a, _, _, _, rfl, rfl, SqT.of hta, at_side hsd, q, _, _, rfl, rfl, hQ, ?_, ?_⟩
      · rw [List.length_map, List.length_append]
        exact szl (by show done.length + 1 < 100000; omega)
      have sm3 := Same.mut (o := .lst ((done ++ [cur]).map V.str ++ [V.str (sdr side r)])) sm hq
      have ta3 := ta.same sm3
      obtain ⟨dx3, lr3, lp3, dn3, dr3, m3, h13, _⟩ := ta3.ex
      have hta3 : (upd H2 q (.lst ((done ++ [cur]).map V.str ++ [V.str (sdr side r)]))) a = some (.tup [.str r.1, .str r.2]) := by rw [upd_ne qa]; exact hta
      refine ⟨_, rfl, x, dx3, _, rfl, h13, l6_mpa _ _ _ _ _ _, _, rfl, _, rfl, a, _, _, _, rfl, rfl, SqT.of hta3, at_side hsd, x, z, rs, sdr side r, rfl, ta3, hn1, fun v2 hv2 => ?_⟩
      refine ⟨16 - (done ++ [cur]).length, ?_, v2, sdr side r, done ++ [cur], rfl, rfl, sm3, hn1, ?_, ?_, ?_, hv2⟩
      · rw [List.length_append]
        show 16 - (done.length + 1) < 16 - done.length
        omega
      · rw [upd_same, List.map_append (l₁ := done ++ [cur])]; rfl
      · rw [List.length_append]
        show done.length + 1 + _ ≤ 16
        omega
      · intro es he
        rw [List.append_assoc]
        exact hE _ (.more hr' er he)
def spSideEdge (K : PySem.W.Frag) (side : Nat) : Sp := fun vs H Q _ => ∃ (x : Addr) (z : Str) (rs : Rws) (p : Str), vs = [.ref x, .str p] ∧ TabAt (TC K) H x z rs ∧ p ∈ pcs z rs ∧
  ∀ H' q es, Same H H' → H q = none → H' q = some (.lst (es.map V.str)) → Edge rs side p es → Q (.ref q) H'
theorem cal_right_edge (T : Tx K mg) : Cal P w K mg base CX0 4 "right_edge" (spSideEdge K 1) := by
  have C_edge := cal_edge (P := P) (w := w) (base := base) T
  obtain ⟨fd, F⟩ := T.d_right_edge
  refine ⟨_, fd, P_right_edge, F.ok sc_right_edge (fun vs H Q E h => ?_) (fun cdv A outer s H vs Q E hr h => ?_), T.g_right_edge, F.kp, F.bindsN (ps := P_right_edge) fun _ _ _ _ _ _ us hl => match us, hl with | [_, _], _ => rfl⟩
  · obtain ⟨x, z, rs, p, rfl, _⟩ := h
    rfl
  · obtain ⟨x, z, rs, p, rfl, ta, hp, k⟩ := h
    refine ⟨_, (PSs.nox (pss_one (ps_ret (pe_cal C_edge (by first | exact hr | exact hr.mono (by decide)) (by rfl) (pa_cons (pv 0) (pa_cons (pv 1) (pa_cons pe_int pa_nil))))))), ?_⟩
    exact ⟨_, rfl, _, rfl, x, z, rs, p, 1, rfl, by decide, ta, hp, k⟩
theorem cal_left_edge (T : Tx K mg) : Cal P w K mg base CX0 4 "left_edge" (spSideEdge K 0) := by
  have C_edge := cal_edge (P := P) (w := w) (base := base) T
  obtain ⟨fd, F⟩ := T.d_left_edge
  refine ⟨_, fd, P_left_edge, F.ok sc_left_edge (fun vs H Q E h => ?_) (fun cdv A outer s H vs Q E hr h => ?_), T.g_left_edge, F.kp, F.bindsN (ps := P_left_edge) fun _ _ _ _ _ _ us hl => match us, hl with | [_, _], _ => rfl⟩
  · obtain ⟨x, z, rs, p, rfl, _⟩ := h
    rfl
  · obtain ⟨x, z, rs, p, rfl, ta, hp, k⟩ := h
    refine ⟨_, (PSs.nox (pss_one (ps_ret (pe_cal C_edge (by first | exact hr | exact hr.mono (by decide)) (by rfl) (pa_cons (pv 0) (pa_cons (pv 1) (pa_cons pe_int pa_nil))))))), ?_⟩
    exact ⟨_, rfl, _, rfl, x, z, rs, p, 0, rfl, by decide, ta, hp, k⟩
end
end Jr
namespace Jr
open PySem PySem.Spec PyProof.Rows L2
section
variable {P : Program} {w : World} {K : PySem.W.Frag} {mg : Str → Option Value} {base : Heap}
theorem met_pieces (T : Tx K mg) : Met P w K mg base CX0 1 (TC K) "pieces" (spTPieces K) := by
  obtain ⟨fd, F⟩ := T.d_Table_pieces
  refine ⟨T.cl_Table, _, fd, P_Table_pieces, F.ok sc_Table_pieces (fun vs H Q E h => ?_) (fun cdv A outer s H vs Q E hr h => ?_), T.m_Table_pieces, F.bindsN (ps := P_Table_pieces) fun _ _ _ _ _ _ us hl => match us, hl with | [_], _ => rfl⟩
  · obtain ⟨x, z, rs, rfl, _⟩ := h
    rfl
  · obtain ⟨x, z, rs, rfl, ta, k⟩ := h
    obtain ⟨dx, lr, lp, dn, dr, m, h1, _, h3, _⟩ := ta.ex
    refine ⟨_, (PSs.nox (pss_one (ps_ret (pe_callTy (T := "list") call_list_of (by rfl) T.n_list (by decide +kernel) (pa_cons (pe_fld (pv 0) rfl) pa_nil))))), ?_⟩
    exact ⟨_, rfl, x, _, dx, _, _, rfl, h1, T.cl_Table, T.no_Table_piece_list, l6_pl _ _ _ _ _ _, lp, _, rfl, .inl (SqL.of h3), fun l hl => k _ l (Same.new hl) hl upd_same⟩
end
end Jr
namespace Jr
open PySem PySem.Spec PyProof.Rows L2
/-- the seven -/
def R7 (K : PySem.W.Frag) (x dx t re le al af ah pr : Addr) (A B D E F : List (Key × V)) : List (Addr × HO) :=
  [(x, .ins (FC K) dx (fg7 t re le al af ah pr)), (re, .dK A), (le, .dK B), (al, .dK D), (af, .dK E), (ah, .dK F), (pr, .dT [])]
theorem kvsZ_snoc {as : List Addr} {ps : List Str} {a : Addr} {p : Str} (h : as.length = ps.length) : kvsZ (as ++ [a]) (ps ++ [p]) = kvsZ as ps ++ [(Sum.inr p, V.ref a)] := by
  unfold kvsZ
  rw [List.zip_append h, List.map_append]
  rfl
theorem lstsZ_snoc {as : List Addr} {ps : List Str} {a : Addr} {p : Str} (f : Str → List Str) (h : as.length = ps.length) : lstsZ (as ++ [a]) (ps ++ [p]) f = lstsZ as ps f ++ [(a, .lst ((f p).map V.str))] := by
  unfold lstsZ
  rw [List.zip_append h, List.map_append]
  rfl
theorem kvsZ_none : ∀ {as : List Addr} {ps : List Str} {p : Str}, ¬ p ∈ ps → valV (kvsZ as ps) (Sum.inr p) = none
  | [], _, _, _ => by unfold kvsZ; rfl
  | _ :: _, [], _, _ => by unfold kvsZ; rfl
  | a :: as, q :: ps, p, h => by
    have h1 : ¬ (Sum.inr q : Key) = Sum.inr p := fun e => h (by rw [Sum.inr.inj e]; exact List.mem_cons_self)
    exact (valV_neg (p := ((Sum.inr q : Key), V.ref a)) h1).trans (kvsZ_none fun z => h (List.mem_cons_of_mem _ z))
theorem kvsZ_len {as : List Addr} {ps : List Str} (h : as.length = ps.length) : (kvsZ as ps).length = ps.length := by
  unfold kvsZ
  rw [List.length_map, List.length_zip, h, Nat.min_self]
theorem aldT (L : List Str) (p : Str) : valV (L.map fun q => ((Sum.inr q : Key), V.bl true)) (Sum.inr p) = if p ∈ L then some (V.bl true) else none := by
  induction L with
  | nil => rfl
  | cons q L ih =>
    by_cases c : q = p
    · subst c
      rw [if_pos List.mem_cons_self]
      exact valV_pos (p := ((Sum.inr q : Key), V.bl true)) rfl
    · have h1 : ¬ (Sum.inr q : Key) = Sum.inr p := fun e => c (Sum.inr.inj e)
      refine (valV_neg (p := ((Sum.inr q : Key), V.bl true)) h1).trans ?_
      rw [ih]
      by_cases c2 : p ∈ L
      · rw [if_pos c2, if_pos (List.mem_cons_of_mem _ c2)]
      · rw [if_neg c2, if_neg (fun h => c2 ((List.mem_cons.mp h).resolve_left fun e => c e.symm))]
theorem notup_lsts {as : List Addr} {ps : List Str} {f : Str → List Str} : ∀ q ∈ lstsZ as ps f, ∀ xs, q.2 ≠ HO.tup xs := fun q hq xs e => by
  obtain ⟨y, _, rfl⟩ := List.mem_map.mp hq
  cases e
theorem notup_R7 {K : PySem.W.Frag} {x dx t re le al af ah pr : Addr} {A B D E F : List (Key × V)} : ∀ q ∈ R7 K x dx t re le al af ah pr A B D E F, ∀ xs, q.2 ≠ HO.tup xs := fun q hq xs e => by
  unfold R7 at hq
  simp only [List.mem_cons, List.not_mem_nil, or_false] at hq
  rcases hq with rfl | rfl | rfl | rfl | rfl | rfl | rfl <;> cases e
theorem notup_app {L M : List (Addr × HO)} (h1 : ∀ q ∈ L, ∀ xs, q.2 ≠ HO.tup xs) (h2 : ∀ q ∈ M, ∀ xs, q.2 ≠ HO.tup xs) : ∀ q ∈ L ++ M, ∀ xs, q.2 ≠ HO.tup xs := fun q hq => by
  rcases List.mem_append.mp hq with h | h
  · exact h1 q h
  · exact h2 q h
/-- the edges of the first pieces -/
def Eds1 (S : Hp) (rs : Rws) (side : Nat) (ra : List Addr) (ps : List Str) : Prop := Paired (fun a p => ∃ fs, EndsL S a fs ∧ EdgeE rs side rs.length p fs) ra ps
theorem Eds1.same {S S' : Hp} {rs : Rws} {side : Nat} {ra : List Addr} {ps : List Str} (h : Eds1 S rs side ra ps) (s : Same S S') : Eds1 S' rs side ra ps := L2.Paired.mapP h fun a p ⟨fs, e, g⟩ => ⟨fs, e.same s, g⟩
theorem Eds1.eds {S : Hp} {z : Str} {rs : Rws} {side : Nat} {ra : List Addr} (h : Eds1 S rs side ra (pcs z rs)) (nd : (pcs z rs).Nodup) : Eds S (kvsZ ra (pcs z rs)) z rs side := fun q hq => by
  obtain ⟨i, hi⟩ := List.getElem?_of_mem hq
  obtain ⟨a, ha, fs, e, g⟩ := Paired.get2 h hi
  exact ⟨a, fs, kvsZ_at nd ha hi, e, g⟩
/-- a Follows -/
def FolAt (K : PySem.W.Frag) (H : Hp) (x : Addr) (z : Str) (rs : Rws) : Prop := ∃ (dx t re le al af ah pr : Addr) (asA asH : List Addr) (G : List (List Key × V)), FolS K H x dx t re le al af ah pr asA asH z rs ∧ H pr = some (.dT G) ∧ PairD rs (PLs z rs (AL z rs).length) G ∧
  (∀ (i : Nat) (a : Addr) (p : Str), asA[i]? = some a → (pcs z rs)[i]? = some p → H a = some (.lst ((aft rs (PLs z rs (AL z rs).length) p).map V.str))) ∧
  (∀ (i : Nat) (a : Addr) (p : Str), asH[i]? = some a → (pcs z rs)[i]? = some p → H a = some (.lst ((ahd rs (PLs z rs (AL z rs).length) p).map V.str)))
theorem FolAt.same {K : PySem.W.Frag} {H H' : Hp} {x : Addr} {z : Str} {rs : Rws} (h : FolAt K H x z rs) (s : Same H H') : FolAt K H' x z rs := by
  obtain ⟨dx, t, re, le, al, af, ah, pr, asA, asH, G, fs, hp, pd, h1, h2⟩ := h
  exact ⟨dx, t, re, le, al, af, ah, pr, asA, asH, G, fs.same s, s _ _ hp, pd, fun i a p ha hp => s _ _ (h1 i a p ha hp), fun i a p ha hp => s _ _ (h2 i a p ha hp)⟩
theorem FolAt.ins {K : PySem.W.Frag} {H : Hp} {x : Addr} {z : Str} {rs : Rws} (h : FolAt K H x z rs) : ∃ dx t re le al af ah pr, H x = some (.ins (FC K) dx (fg7 t re le al af ah pr)) := by
  obtain ⟨dx, t, re, le, al, af, ah, pr, asA, asH, G, fs, _⟩ := h
  exact ⟨dx, t, re, le, al, af, ah, pr, fs.fe.hx⟩
theorem fol_of {K : PySem.W.Frag} {S H : Hp} {x dx t re le al af ah pr : Addr} {asA asH : List Addr} {z : Str} {rs : Rws} (fs : FolS K S x dx t re le al af ah pr asA asH z rs) (rg : PReg S H pr asA asH z rs (PLs z rs (AL z rs).length)) : FolAt K H x z rs := by
  obtain ⟨G, r, pd⟩ := rg
  have lzA := lstsZ_len (aft rs (PLs z rs (AL z rs).length)) fs.lA
  refine ⟨dx, t, re, le, al, af, ah, pr, asA, asH, G, fs.same r.same, r.get (i := 0) rfl, pd, fun i a p ha hp => ?_, fun i a p ha hp => ?_⟩
  · have hi : i < (pcs z rs).length := (List.getElem?_eq_some_iff.mp hp).1
    refine r.get (i := i + 1) ?_
    rw [List.getElem?_cons_succ, List.getElem?_append_left (by rw [lzA]; exact hi)]
    exact lstsZ_at ha hp
  · refine r.get (i := ((pcs z rs).length + i) + 1) ?_
    rw [List.getElem?_cons_succ, List.getElem?_append_right (by rw [lzA]; omega), lzA, Nat.add_sub_cancel_left]
    exact lstsZ_at ha hp
theorem mem_pls {z : Str} {rs : Rws} {l r : Str} : (l, r) ∈ PLs z rs (AL z rs).length ↔ l ∈ AL z rs ∧ r ∈ AL z rs := by
  unfold PLs
  rw [List.take_length, List.mem_flatMap]
  constructor
  · rintro ⟨a, ha, h⟩
    obtain ⟨b, hb, e⟩ := List.mem_map.mp h
    rw [← (Prod.mk.inj e).1, ← (Prod.mk.inj e).2]
    exact ⟨ha, hb⟩
  · rintro ⟨h1, h2⟩
    exact ⟨l, h1, List.mem_map.mpr ⟨r, h2, rfl⟩⟩
section
variable {P : Program} {w : World} {K : PySem.W.Frag} {mg : Str → Option Value} {base : Heap}
def spFTable (K : PySem.W.Frag) : Sp := fun vs H Q _ => ∃ (x : Addr) (z : Str) (rs : Rws), vs = [.ref x] ∧ FolAt K H x z rs ∧ ∀ t, TabAt (TC K) H t z rs → Q (.ref t) H
theorem met_ftable (T : Tx K mg) : Met P w K mg base CX0 1 (FC K) "table" (spFTable K) := by
  obtain ⟨fd, F⟩ := T.d_Follows_table
  refine ⟨T.cl_Follows, _, fd, P_Follows_table, F.ok sc_Follows_table (fun vs H Q E h => ?_) (fun cdv A outer s H vs Q E hr h => ?_), T.m_Follows_table, F.bindsN (ps := P_Follows_table) fun _ _ _ _ _ _ us hl => match us, hl with | [_], _ => rfl⟩
  · obtain ⟨x, z, rs, rfl, _⟩ := h
    rfl
  · obtain ⟨x, z, rs, rfl, ⟨dx, t, re, le, al, af, ah, pr, asA, asH, G, fs, _⟩, k⟩ := h
    refine ⟨_, (PSs.nox (pss_one (ps_ret (pe_fld (pv 0) rfl)))), ?_⟩
    exact ⟨_, rfl, x, _, dx, _, _, rfl, fs.fe.hx, T.cl_Follows, T.no_Follows_held_table, g7_t _ _ _ _ _ _ _, k t fs.fe.ta⟩
def spFAlone (K : PySem.W.Frag) : Sp := fun vs H Q _ => ∃ (x : Addr) (z : Str) (rs : Rws), vs = [.ref x] ∧ FolAt K H x z rs ∧ ∀ H' q, Same H H' → H q = none → H' q = some (.lst ((AL z rs).map V.str)) → Q (.ref q) H'
theorem met_falone (T : Tx K mg) : Met P w K mg base CX0 1 (FC K) "alone" (spFAlone K) := by
  obtain ⟨fd, F⟩ := T.d_Follows_alone
  refine ⟨T.cl_Follows, _, fd, P_Follows_alone, F.ok sc_Follows_alone (fun vs H Q E h => ?_) (fun cdv A outer s H vs Q E hr h => ?_), T.m_Follows_alone, F.bindsN (ps := P_Follows_alone) fun _ _ _ _ _ _ us hl => match us, hl with | [_], _ => rfl⟩
  · obtain ⟨x, z, rs, rfl, _⟩ := h
    rfl
  · obtain ⟨x, z, rs, rfl, ⟨dx, t, re, le, al, af, ah, pr, asA, asH, G, fs, _⟩, k⟩ := h
    refine ⟨_, (PSs.nox (pss_one (ps_ret (pe_callTy (T := "list") (call_list_dKG rfl) (by rfl) T.n_list (by decide +kernel) (pa_cons (pe_fld (pv 0) rfl) pa_nil))))), ?_⟩
    refine ⟨_, rfl, x, _, dx, _, _, rfl, fs.fe.hx, T.cl_Follows, T.no_Follows_alone_pieces, g7_al _ _ _ _ _ _ _, al, _, rfl, fs.hal, fun q H1 nq s1 hq => k H1 q s1 nq ?_⟩
    rw [hq]
    unfold ALD
    rw [List.map_map]
    rfl
def spFMay (K : PySem.W.Frag) : Sp := fun vs H Q _ => ∃ (x : Addr) (z : Str) (rs : Rws) (l r : Str), vs = [.ref x, .str l, .str r] ∧ FolAt K H x z rs ∧ l ∈ pcs z rs ∧ r ∈ pcs z rs ∧ ∀ H', Same H H' → Q (.bl (fitB rs (l, r))) H'
theorem met_fmay (T : Tx K mg) : Met P w K mg base CX0 3 (FC K) "may" (spFMay K) := by
  have C_check_piece := cal_check_piece (P := P) (w := w) (base := base) T
  obtain ⟨fd, F⟩ := T.d_Follows_may
  refine ⟨T.cl_Follows, _, fd, P_Follows_may, F.ok sc_Follows_may (fun vs H Q E h => ?_) (fun cdv A outer s H vs Q E hr h => ?_), T.m_Follows_may, F.bindsN (ps := P_Follows_may) fun _ _ _ _ _ _ us hl => match us, hl with | [_, _, _], _ => rfl⟩
  · obtain ⟨x, z, rs, l, r, rfl, _⟩ := h
    rfl
  · obtain ⟨x, z, rs, l, r, rfl, ⟨dx, t, re, le, al, af, ah, pr, asA, asH, G, fs, hpr, pd, _⟩, hl, hr', k⟩ := h
    refine ⟨_, (PSs.nox (pss_cons (ps_expr (pe_cal C_check_piece (by first | exact hr | exact hr.mono (by decide)) (by rfl) (pa_cons (pe_fld (pv 0) rfl) (pa_cons (pv 1) pa_nil))))
      (pss_cons (ps_expr (pe_cal C_check_piece (by first | exact hr | exact hr.mono (by decide)) (by rfl) (pa_cons (pe_fld (pv 0) rfl) (pa_cons (pv 2) pa_nil))))
      (pss_one (ps_ret (pe_cmp (pc_din (hu_of hr) (pe_tupG (pa_cons (pv 1) (pa_cons (pv 2) pa_nil))) (pe_fld (pv 0) rfl)) rfl)))))), ?_⟩
    refine ⟨_, rfl, x, _, dx, _, _, rfl, fs.fe.hx, T.cl_Follows, T.no_Follows_held_table, g7_t _ _ _ _ _ _ _, _, rfl, t, z, rs, l, rfl, fs.fe.ta, hl, ?_⟩
    refine ⟨_, rfl, x, _, dx, _, _, rfl, fs.fe.hx, T.cl_Follows, T.no_Follows_held_table, g7_t _ _ _ _ _ _ _, _, rfl, t, z, rs, r, rfl, fs.fe.ta, hr', ?_⟩
    refine ⟨_, rfl, _, rfl, (by show 2 ≤ sizeLine; decide), fun tq H1 ntq s1 htq => ?_⟩
    refine ⟨_, rfl, x, _, dx, _, _, rfl, s1 _ _ fs.fe.hx, T.cl_Follows, T.no_Follows_pairs, g7_pr _ _ _ _ _ _ _, pr, _, rfl, DGet.t (k := [Sum.inr l, Sum.inr r]) (s1 _ _ hpr) htq, ?_⟩
    rw [pd.val]
    have kk := k _ s1
    by_cases c : fitB rs (l, r) = true
    · have fa := fit_alone (of_decide_eq_true (show decide (sweep rs (l ++ r) = [l, r]) = true from c))
      have m1 : l ∈ AL z rs := List.mem_filter.mpr ⟨hl, by simpa using fa.1⟩
      have m2 : r ∈ AL z rs := List.mem_filter.mpr ⟨hr', by simpa using fa.2⟩
      rw [if_pos ⟨mem_pls.mpr ⟨m1, m2⟩, c⟩]
      rw [c] at kk
      exact kk
    · have c' : fitB rs (l, r) = false := by
        cases h : fitB rs (l, r) with
        | false => rfl
        | true => exact absurd h c
      rw [if_neg (fun h => c h.2)]
      rw [c'] at kk
      exact kk
end
end Jr
namespace Jr
open PySem PySem.Spec PyProof.Rows L2
theorem g7_mha (t re le al af ah pr : Addr) : (fg7 t re le al af ah pr).lookup ("has_alone" : Str) = none := by kernel_rfl
theorem ald_has (z : Str) (rs : Rws) (p : Str) : (valV (ALD z rs) (Sum.inr p)).isSome = decide (p ∈ AL z rs) := by
  unfold ALD
  rw [aldT]
  by_cases c : p ∈ AL z rs
  · rw [if_pos c, decide_eq_true c]; rfl
  · rw [if_neg c, decide_eq_false c]; rfl
theorem al_iff0 {z : Str} {rs : Rws} {p : Str} : p ∈ AL z rs ↔ p ∈ pcs z rs ∧ sweep rs p = [p] := by
  unfold AL
  rw [List.mem_filter, decide_eq_true_eq]
section
variable {P : Program} {w : World} {K : PySem.W.Frag} {mg : Str → Option Value} {base : Heap}
def spFHas (K : PySem.W.Frag) : Sp := fun vs H Q _ => ∃ (x : Addr) (z : Str) (rs : Rws) (p : Str), vs = [.ref x, .str p] ∧ FolAt K H x z rs ∧ Q (.bl (decide (p ∈ AL z rs))) H
theorem met_fhas (T : Tx K mg) : Met P w K mg base CX0 1 (FC K) "has_alone" (spFHas K) := by
  obtain ⟨fd, F⟩ := T.d_Follows_has_alone
  refine ⟨T.cl_Follows, _, fd, P_Follows_has_alone, F.ok sc_Follows_has_alone (fun vs H Q E h => ?_) (fun cdv A outer s H vs Q E hr h => ?_), T.m_Follows_has_alone, F.bindsN (ps := P_Follows_has_alone) fun _ _ _ _ _ _ us hl => match us, hl with | [_, _], _ => rfl⟩
  · obtain ⟨x, z, rs, p, rfl, _⟩ := h
    rfl
  · obtain ⟨x, z, rs, p, rfl, ⟨dx, t, re, le, al, af, ah, pr, asA, asH, G, fs, _⟩, k⟩ := h
    refine ⟨_, (PSs.nox (pss_one (ps_ret (pe_and (pe_callB (id := "isinstance") call_isi (by rfl) T.n_isinstance (by decide +kernel) (pa_cons (pv 1) (pa_cons (pe_bltn (v := .ty "str") (by rfl) T.n_str (by decide +kernel) rfl) pa_nil))) (pe_one (pe_cmp (pc_din (hu_of hr) (pv 1) (pe_fld (pv 0) rfl)) rfl)))))), ?_⟩
    refine ⟨_, rfl, _, _, _, _, _, rfl, .ty "str", .base (.str p), isStr, _, rfl, iteT ?_⟩
    refine ⟨_, rfl, _, rfl, x, _, dx, _, _, rfl, fs.fe.hx, T.cl_Follows, T.no_Follows_alone_pieces, g7_al _ _ _ _ _ _ _, al, _, rfl, DGet.k (k := Sum.inr p) fs.hal, ?_⟩
    rw [ald_has]
    exact k
end
end Jr
namespace Jr
open PySem PySem.Spec PyProof.Rows L2
/-! ### comprehensions whose test and element may make new things: a filter and a map -/
section
variable {α : Type} {item : α → V} {p : α → Bool} {f : α → V} {g : TG} {tt : TT} {te : TE} {vs : List Nat} {σ : L2.St} {H1 : Hp} {D : Addr} {Qd : Hp → Prop}
/-- one turn of such a comprehension -/
def LcTurnC (item : α → V) (p : α → Bool) (f : α → V) (g : TG) (tt : TT) (te : TE) (vs : List Nat) (σ : L2.St) (H1 : Hp) (x : α) : Prop :=
  ∀ (H' : Hp), Same H1 H' → ∀ (N : Hp → Prop) (M : V → Hp → Prop), (p x = true → ∀ H2, Same H' H2 → M (f x) H2) → (p x = false → ∀ H2, Same H' H2 → N H2) →
    g (item x) (wipe σ vs) H' fun σ2 H2 => wipe σ2 vs = wipe σ vs ∧ tt σ2 H2 fun b H3 => if b = true then te σ2 H3 M else N H3
theorem lc_stepC {l : List α} {i : Nat} {x : α} {H : Hp} (hD : H1 D = none) (hx : l[i]? = some x) (hlen : l.length ≤ 100000) (turn : LcTurnC item p f g tt te vs σ H1 x)
    (sm : Same H1 H) (hL : H D = some (.lst (((l.take i).filter p).map f))) :
    g (item x) (wipe σ vs) H fun σ2 H2 => wipe σ2 vs = wipe σ vs ∧ tt σ2 H2 fun b H3 =>
      if b = true then te σ2 H3 fun y H4 => ∃ acc, H4 D = some (.lst acc) ∧ acc.length < sizeLine ∧ (fun H' => Same H1 H' ∧ H' D = some (.lst (((l.take (i + 1)).filter p).map f))) (upd H4 D (.lst (acc ++ [y])))
      else (fun H' => Same H1 H' ∧ H' D = some (.lst (((l.take (i + 1)).filter p).map f))) H3 := by
  have e : l.take (i + 1) = l.take i ++ [x] := by rw [List.take_add_one, hx]; rfl
  refine turn H sm _ _ (fun hp H2 s2 => ?_) (fun hp H2 s2 => ?_)
  · refine ⟨_, s2 _ _ hL, ?_, Same.mut (sm.trans s2) hD, ?_⟩
    · have h1 : ((l.take i).filter p).length ≤ (l.take i).length := List.length_filter_le ..
      have h2 : (l.take i).length ≤ i := by rw [List.length_take]; omega
      have h3 : i < l.length := (List.getElem?_eq_some_iff.mp hx).1
      rw [List.length_map]
      exact szl (by omega)
    · rw [upd_same, e, List.filter_append, List.map_append]
      simp [hp]
  · refine ⟨sm.trans s2, ?_⟩
    rw [s2 _ _ hL, e, List.filter_append, List.map_append]
    simp [hp]
theorem lc_listC {K : PySem.W.Frag} {a : Addr} {l : List α} (hS : SqL K H1 a (l.map item)) (hD : H1 D = none) (hlen : l.length ≤ 100000) (turn : ∀ x ∈ l, LcTurnC item p f g tt te vs σ H1 x)
    (hd : ∀ H, Same H1 H → H D = some (.lst ((l.filter p).map f)) → Qd H) :
    ∃ W : Nat → Nat → Hp → Prop, (∃ m, W 0 m (upd H1 D (.lst []))) ∧ ∀ i m H, W i m H →
      ((Itl K a).stop i H ∧ Qd H) ∨ ((Itl K a).go i H ∧ ∃ Nx : Hp → Prop, (∀ H', Nx H' → ∃ m', m' < m ∧ W (i + 1) m' H') ∧ ∀ x H', (Itl K a).yld i H x H' → g x (wipe σ vs) H' fun σ2 H2 => wipe σ2 vs = wipe σ vs ∧ tt σ2 H2 fun b H3 =>
        if b = true then te σ2 H3 fun y H4 => ∃ acc, H4 D = some (.lst acc) ∧ acc.length < sizeLine ∧ Nx (upd H4 D (.lst (acc ++ [y]))) else Nx H3) := by
  refine lc_list (K := K) (a := a) (xs := l.map item) (fun i H => Same H1 H ∧ H D = some (.lst (((l.take i).filter p).map f))) ⟨Same.new hD, upd_same⟩ (fun i H _ ⟨s, _⟩ => s.seq hS) ?_ ?_
  · rintro i x H hx ⟨sm, hL⟩
    rw [List.getElem?_map] at hx
    cases e : l[i]? with
    | none => rw [e] at hx; cases hx
    | some y =>
      rw [e] at hx
      cases hx
      exact lc_stepC hD e hlen (turn y (List.mem_of_getElem? e)) sm hL
  · rintro H ⟨sm, hL⟩
    rw [List.length_map, List.take_length] at hL
    exact hd H sm hL
end
end Jr
namespace Jr
open PySem PySem.Spec PyProof.Rows L2
/-! ### a comprehension over a range whose test and element may make new things -/
section
variable {g : TG} {tt : TT} {te : TE} {vs : List Nat} {σ : L2.St} {H1 : Hp} {D : Addr} {Qd : Hp → Prop}
theorem lc_rangeC {lo : Int} {n : Nat} {p : Nat → Bool} {f : Nat → V} (hD : H1 D = none) (hlen : n ≤ 100000) (turn : ∀ i, i < n → LcTurnC (fun i : Nat => V.int (lo + i)) p f g tt te vs σ H1 i)
    (hd : ∀ H, Same H1 H → H D = some (.lst (((List.range n).filter p).map f)) → Qd H) :
    ∃ W : Nat → Nat → Hp → Prop, (∃ m, W 0 m (upd H1 D (.lst []))) ∧ ∀ i m H, W i m H →
      ((Itr lo n).stop i H ∧ Qd H) ∨ ((Itr lo n).go i H ∧ ∃ Nx : Hp → Prop, (∀ H', Nx H' → ∃ m', m' < m ∧ W (i + 1) m' H') ∧ ∀ y H', (Itr lo n).yld i H y H' → g y (wipe σ vs) H' fun σ2 H2 => wipe σ2 vs = wipe σ vs ∧ tt σ2 H2 fun b H3 =>
        if b = true then te σ2 H3 fun y H4 => ∃ acc, H4 D = some (.lst acc) ∧ acc.length < sizeLine ∧ Nx (upd H4 D (.lst (acc ++ [y]))) else Nx H3) := by
  refine lc_range (lo := lo) (n := n) (fun i H => Same H1 H ∧ H D = some (.lst ((((List.range n).take i).filter p).map f))) ⟨Same.new hD, upd_same⟩ ?_ ?_
  · rintro i H hi ⟨sm, hL⟩
    exact lc_stepC (l := List.range n) (item := fun i : Nat => V.int (lo + i)) hD (by rw [List.getElem?_range hi]) (by rw [List.length_range]; exact hlen) (turn i hi) sm hL
  · rintro H ⟨sm, hL⟩
    have e : (List.range n).take n = List.range n := by
      have := List.take_length (l := List.range n)
      rw [List.length_range] at this
      exact this
    rw [e] at hL
    exact hd H sm hL
end
section
variable {g : TG} {tb : TS} {D : Ends} {σ : L2.St} {H : Hp}
theorem for_itc {lo c : Int} {n : Nat} (Pv : Nat → L2.St → Hp → Prop) (h0 : Pv 0 σ H)
    (hs : ∀ i σ H, i < n → Pv i σ H → g (.int (lo + (i : Nat) * c)) σ H fun σ2 H2 => tb { D with nx := Pv (i + 1), ct := Pv (i + 1), bk := D.nx } σ2 H2) (hd : ∀ σ H, Pv n σ H → D.nx σ H) :
    ∃ W : Nat → Nat → L2.St → Hp → Prop, (∃ m, W 0 m σ H) ∧ ∀ i m σ H, W i m σ H →
      ((Itc lo c n).stop i H ∧ D.nx σ H) ∨ ((Itc lo c n).go i H ∧ ∃ N : L2.St → Hp → Prop, (∀ σ' H', N σ' H' → ∃ m', m' < m ∧ W (i + 1) m' σ' H') ∧ ∀ x H', (Itc lo c n).yld i H x H' → g x σ H' fun σ2 H2 => tb { D with nx := N, ct := N, bk := D.nx } σ2 H2) := by
  refine ⟨fun i m σ H => m = n - i ∧ i ≤ n ∧ Pv i σ H, ⟨n, by simp, Nat.zero_le _, h0⟩, ?_⟩
  rintro i m σ H ⟨rfl, hi, p⟩
  by_cases hlt : i < n
  · refine .inr ⟨hlt, Pv (i + 1), fun σ' H' p' => ⟨n - (i + 1), by omega, rfl, hlt, p'⟩, fun x H' y => ?_⟩
    obtain ⟨e, y⟩ := y
    subst e y
    exact hs i σ _ hlt p
  · have e : i = n := by omega
    subst e
    exact .inl ⟨Nat.le_refl _, hd σ H p⟩
end
/-! ### lists of texts and None -/
def oS : Option Str → V
  | none => .non
  | some p => .str p
def oD : Option Str → PyData
  | none => .none
  | some p => .str p
def dO (xs : List (Option Str)) : PyData := .list (xs.map oD)
def AscO (o : Option Str) : Prop := ∀ p, o = some p → Asc p
theorem lay_opts : ∀ xs : List (Option Str), (∀ x ∈ xs, AscO x) → PyData.canLayAll0 (xs.map oD) = true
  | [], _ => by simp [PyData.canLayAll0]
  | none :: xs, h => by
    have h2 := lay_opts xs fun y hy => h y (List.mem_cons_of_mem _ hy)
    simp [PyData.canLayAll0, PyData.canLay0, oD, h2]
  | some x :: xs, h => by
    have h1 := asc_ok (h (some x) List.mem_cons_self x rfl)
    have h2 := lay_opts xs fun y hy => h y (List.mem_cons_of_mem _ hy)
    simp [PyData.canLayAll0, PyData.canLay0, oD, h1, h2]
theorem dep_opts : ∀ xs : List (Option Str), PyData.depthAll (xs.map oD) = 0
  | [] => by simp [PyData.depthAll]
  | none :: xs => by simp [PyData.depthAll, PyData.depth, oD, dep_opts xs]
  | some x :: xs => by simp [PyData.depthAll, PyData.depth, oD, dep_opts xs]
theorem shO {xs : List (Option Str)} (h : ∀ x ∈ xs, AscO x) : SeqAt.shaped (dO xs) = true := by
  unfold SeqAt.shaped dO
  have h1 : PyData.canLay0 (.list (xs.map oD)) = true := by simp [PyData.canLay0, lay_opts xs h]
  have h2 : PyData.depth (.list (xs.map oD)) = 1 := by simp [PyData.depth, dep_opts]
  rw [h1, h2]; rfl
theorem eqvA_refl : ∀ xs : List (Option Str), PyData.eqvAll (xs.map oD) (xs.map oD) = true
  | [] => by simp [PyData.eqvAll]
  | none :: xs => by simp [PyData.eqvAll, PyData.eqv, oD, eqvA_refl xs]
  | some x :: xs => by simp [PyData.eqvAll, PyData.eqv, oD, eqvA_refl xs]
theorem eqO (xs : List (Option Str)) : PyData.eqv (dO xs) (dO xs) = true := by
  unfold dO
  rw [PyData.eqv]
  exact eqvA_refl xs
theorem dpA_opts {K : PySem.W.Frag} {H : Hp} : ∀ xs : List (Option Str), DpAll K H (xs.map oS) (xs.map oD)
  | [] => .nil
  | none :: xs => .cons .non (dpA_opts xs)
  | some x :: xs => .cons (.str x) (dpA_opts xs)
theorem dpO {K : PySem.W.Frag} {H : Hp} {a : Addr} {xs : List (Option Str)} (h : SqL K H a (xs.map oS)) : Dp K H (.ref a) (dO xs) := .lst h (dpA_opts xs)
end Jr
namespace Jr
open PySem PySem.Spec PyProof.Rows L2
/-- whether a piece may stand behind a last one -/
def endB (z : Str) (rs : Rws) (o : Option Str) (p : Str) : Bool := decide (p ∈ AL z rs) && (match o with | none => true | some l => fitB rs (l, p))
def begB (z : Str) (rs : Rws) (p : Str) (o : Option Str) : Bool := decide (p ∈ AL z rs) && (match o with | none => true | some r => fitB rs (p, r))
theorem al_iff {z : Str} {rs : Rws} {p : Str} : p ∈ AL z rs ↔ p ∈ pcs z rs ∧ sweep rs p = [p] := by
  unfold AL
  rw [List.mem_filter, decide_eq_true_eq]
theorem FolAt.ok {K : PySem.W.Frag} {H : Hp} {x : Addr} {z : Str} {rs : Rws} (h : FolAt K H x z rs) : TabOk z rs := by
  obtain ⟨dx, t, re, le, al, af, ah, pr, asA, asH, G, fs, _⟩ := h
  exact fs.fe.ta.ok
/-- the sizes that may end at n -/
theorem end_iff {z : Str} {rs : Rws} (T : TabOk z rs) {t : Str} (tx : TextOf z t) {n s : Nat} {p : Str} (h1 : 1 ≤ s) (h2 : s ≤ n) (h3 : n ≤ t.length) (e : lastO rs t n = some p) :
    endB z rs (lastO rs t (n - s)) (midS t (n - s) n) = true ↔ s = p.length := by
  have hm := midS_len t (a := n - s) (b := n) (by omega) h3
  have key := lastO_iff T (t := t) (n := n) (s := s) h1 h2 h3
  have al : sweep rs (midS t (n - s) n) = [midS t (n - s) n] → midS t (n - s) n ∈ AL z rs := fun h => al_iff.mpr ⟨sweep_pc (t := midS t (n - s) n) (text_mk tx fun c hc => List.mem_of_mem_drop (List.mem_of_mem_take hc)) (by rw [h]; exact List.mem_cons_self), h⟩
  unfold endB
  rw [Bool.and_eq_true, decide_eq_true_eq]
  constructor
  · rintro ⟨a, b⟩
    have h0 : lastO rs t n = some (midS t (n - s) n) := key.mpr ⟨(al_iff.mp a).2, by
      by_cases c : n - s = 0
      · exact .inl c
      · obtain ⟨l, hl⟩ := lastO_some (rs := rs) (t := t) (n := n - s) (by omega) (by omega)
        rw [hl] at b
        exact .inr ⟨l, hl, of_decide_eq_true b⟩⟩
    rw [e] at h0
    rw [Option.some.inj h0, hm]
    omega
  · intro hs
    have hp := (lastO_mid h3 e).1
    rw [← hs] at hp
    rw [hp] at e
    obtain ⟨a, b⟩ := key.mp e
    refine ⟨al a, ?_⟩
    rcases b with b | ⟨l, hl, b⟩
    · rw [b, lastO_zero]
    · rw [hl]
      exact decide_eq_true b
theorem beg_iff {z : Str} {rs : Rws} (T : TabOk z rs) {t : Str} (tx : TextOf z t) {n s : Nat} {p : Str} (h1 : 1 ≤ s) (h3 : n + s ≤ t.length) (e : firstO rs t n = some p) :
    begB z rs (midS t n (n + s)) (firstO rs t (n + s)) = true ↔ s = p.length := by
  have hm := midS_len t (a := n) (b := n + s) (by omega) h3
  have key := firstO_iff T (t := t) (n := n) (s := s) h1 h3
  have al : sweep rs (midS t n (n + s)) = [midS t n (n + s)] → midS t n (n + s) ∈ AL z rs := fun h => al_iff.mpr ⟨sweep_pc (t := midS t n (n + s)) (text_mk tx fun c hc => List.mem_of_mem_drop (List.mem_of_mem_take hc)) (by rw [h]; exact List.mem_cons_self), h⟩
  unfold begB
  rw [Bool.and_eq_true, decide_eq_true_eq]
  constructor
  · rintro ⟨a, b⟩
    have h0 : firstO rs t n = some (midS t n (n + s)) := key.mpr ⟨(al_iff.mp a).2, by
      by_cases c : n + s = t.length
      · exact .inl c
      · obtain ⟨l, hl⟩ := firstO_some (rs := rs) (t := t) (n := n + s) (by omega)
        rw [hl] at b
        exact .inr ⟨l, hl, of_decide_eq_true b⟩⟩
    rw [e] at h0
    rw [Option.some.inj h0, hm]
    omega
  · intro hs
    have hp := (firstO_mid (by omega) e).1
    rw [← hs] at hp
    rw [hp] at e
    obtain ⟨a, b⟩ := key.mp e
    refine ⟨al a, ?_⟩
    rcases b with b | ⟨l, hl, b⟩
    · rw [firstO_end (by omega)]
    · rw [hl]
      exact decide_eq_true b
def lenAt (H : Hp) (a : Addr) : Nat := match H a with | some (.lst l) => l.length | _ => 0
theorem lenAt_of {H : Hp} {a : Addr} {l : List V} (h : H a = some (.lst l)) : lenAt H a = l.length := by unfold lenAt; rw [h]
/-- what changes one object alone -/
def Keep1 (a : Addr) (H H' : Hp) : Prop := ∀ b o, b ≠ a → H b = some o → H' b = some o
theorem Keep1.same {a : Addr} {S H H' : Hp} (h : Keep1 a H H') (s : Same S H) (n : S a = none) : Same S H' := fun b o hb => h b o (fun e => by rw [e, n] at hb; cases hb) (s _ _ hb)
theorem Keep1.put {a : Addr} {H H' H2 : Hp} {o : HO} (h : Keep1 a H H') (s : Same H' H2) : Keep1 a H (upd H2 a o) := fun b o' hn hb => by rw [upd_ne hn]; exact s _ _ (h b o' hn hb)
end Jr
namespace Jr
open PySem PySem.Spec PyProof.Rows L2
section
variable {P : Program} {w : World} {K : PySem.W.Frag} {mg : Str → Option Value} {base : Heap}
def spLongest (K : PySem.W.Frag) : Sp := fun vs H Q _ => ∃ (x : Addr) (z : Str) (rs : Rws), vs = [.ref x] ∧ TabAt (TC K) H x z rs ∧ ∀ m : Nat, (∃ p ∈ pcs z rs, p.length = m) → (∀ p ∈ pcs z rs, p.length ≤ m) → Q (.int (m : Nat)) H
theorem met_longest (T : Tx K mg) : Met P w K mg base CX0 1 (TC K) "longest" (spLongest K) := by
  obtain ⟨fd, F⟩ := T.d_Table_longest
  refine ⟨T.cl_Table, _, fd, P_Table_longest, F.ok sc_Table_longest (fun vs H Q E h => ?_) (fun cdv A outer s H vs Q E hr h => ?_), T.m_Table_longest, F.bindsN (ps := P_Table_longest) fun _ _ _ _ _ _ us hl => match us, hl with | [_], _ => rfl⟩
  · obtain ⟨x, z, rs, rfl, _⟩ := h
    rfl
  · obtain ⟨x, z, rs, rfl, ta, k⟩ := h
    refine ⟨_, (PSs.nox (pss_one (ps_ret (pe_fld (pv 0) rfl)))), ?_⟩
    obtain ⟨dx, lr, lp, dn, dr, m, h1, _, _, _, _, h6, h7⟩ := ta.ex
    exact ⟨_, rfl, x, _, dx, _, _, rfl, h1, T.cl_Table, T.no_Table_most_signs, l6_ms _ _ _ _ _ _, k m h6 h7⟩
end
end Jr
namespace Jr
open PySem PySem.Spec PyProof.Rows L2
section
variable {P : Program} {w : World} {K : PySem.W.Frag} {mg : Str → Option Value} {base : Heap}
def spCheckText (K : PySem.W.Frag) : Sp := fun vs H Q _ => ∃ (x : Addr) (z : Str) (rs : Rws) (t : Str), vs = [.ref x, .str t] ∧ TabAt (TC K) H x z rs ∧ TextOf z t ∧ ∀ H', Same H H' → Q .non H'
theorem cal_check_text (T : Tx K mg) : Cal P w K mg base CX0 2 "check_text" (spCheckText K) := by
  have M_Table_signs := met_signs (P := P) (w := w) (base := base) T
  obtain ⟨fd, F⟩ := T.d_check_text
  refine ⟨_, fd, P_check_text, F.ok sc_check_text (fun vs H Q E h => ?_) (fun cdv A outer s H vs Q E hr h => ?_), T.g_check_text, F.kp, F.bindsN (ps := P_check_text) fun _ _ _ _ _ _ us hl => match us, hl with | [_, _], _ => rfl⟩
  · obtain ⟨x, z, rs, t, rfl, _⟩ := h
    rfl
  · obtain ⟨x, z, rs, t, rfl, ta, tx, k⟩ := h
    refine ⟨_, (PSs.nox (pss_cons (ps_if (pt_not (pt_val (pe_callB (id := "isinstance") call_isi (by rfl) T.n_isinstance (by decide +kernel) (pa_cons (pv 1) (pa_cons (pe_bltn (v := .ty "str") (by rfl) T.n_str (by decide +kernel) rfl) pa_nil))))) (pss_one ps_never) pss_nil)
      (pss_cons (ps_set (i := 2) sc_check_text.nd rfl (Or.inl rfl) (pe_met0 M_Table_signs (pv 0) (by first | exact hr | exact hr.mono (by decide))))
      (pss_one (ps_for PassesOwn.never rfl (pi_enumS (by rfl) T.n_enumerate (pa_cons (pv 1) pa_nil)) (pg_tup rfl (pgs_cons (pg_name (i := 3) sc_check_text.nd rfl (Or.inl rfl)) (pgs_cons (pg_name (i := 4) sc_check_text.nd rfl (Or.inl rfl)) pgs_nil))) (pss_one (ps_if (pt_cmpR op_notIn_sign (pv 4) (pv 2) rfl) (pss_one ps_never) pss_nil))))))), ?_⟩
    obtain ⟨dx, lr, lp, dn, dr, m, h1, _⟩ := ta.ex
    refine ⟨_, rfl, _, _, _, _, _, rfl, .ty "str", .base (.str t), isStr, _, rfl, iteF ?_⟩
    refine ⟨_, rfl, x, dx, _, rfl, h1, l6_ms_ _ _ _ _ _ _, x, z, rs, rfl, ta, ?_⟩
    refine ⟨_, rfl, t, rfl, for_enumS (x := t) (fun i σ H' => ∃ u v : Option V, σ = [some (.ref x), some (.str t), some (.str z), u, v] ∧ Same H H') ⟨none, none, rfl, Same.refl H⟩ ?_ ?_⟩
    · rintro i c q σ H' hi hq ⟨u, v, rfl, sm⟩
      have hc := tx c (List.mem_of_getElem? hi)
      have s2 := Same.put (o := .tup [.int (i : Nat), .str (sgn c)]) sm hq
      refine ⟨q, _, rfl, SqT.of upd_same, rfl, _, _, rfl, _, _, rfl, rfl, ?_⟩
      refine ⟨_, rfl, _, rfl, c, _, rfl, rfl, _, rfl, ?_⟩
      rw [decide_eq_true hc]
      exact iteF ⟨_, _, rfl, s2⟩
    · rintro σ H' ⟨u, v, rfl, sm⟩
      exact k _ sm
end
end Jr
namespace Jr
open PySem PySem.Spec PyProof.Rows L2
/-- the firsts from a begin on -/
def firstsL (rs : Rws) (t : Str) (n : Nat) : List (Option Str) := (List.range (t.length + 1)).map fun i => if n ≤ i then firstO rs t i else none
theorem firstsL_len (rs : Rws) (t : Str) (n : Nat) : (firstsL rs t n).length = t.length + 1 := by simp [firstsL]
theorem firstsL_get {rs : Rws} {t : Str} {n i : Nat} (h1 : n ≤ i) (h2 : i ≤ t.length) : (firstsL rs t n)[i]? = some (firstO rs t i) := by
  unfold firstsL
  rw [List.getElem?_map, List.getElem?_range (by omega)]
  show some (if n ≤ i then firstO rs t i else none) = _
  rw [if_pos h1]
theorem firstsL_top (rs : Rws) (t : Str) : firstsL rs t t.length = List.replicate (t.length + 1) none := by
  refine List.eq_replicate_iff.mpr ⟨firstsL_len rs t _, fun o ho => ?_⟩
  obtain ⟨i, _, e⟩ := List.mem_map.mp ho
  by_cases c : t.length ≤ i
  · rw [if_pos c, firstO_end c] at e; exact e.symm
  · rw [if_neg c] at e; exact e.symm
theorem firstsL_set (rs : Rws) (t : Str) {n : Nat} (h : n < t.length) : (firstsL rs t (n + 1)).set n (firstO rs t n) = firstsL rs t n := by
  refine List.ext_getElem? fun i => ?_
  by_cases c : i = n
  · subst c
    rw [List.getElem?_set_self (by rw [firstsL_len]; omega), firstsL_get (Nat.le_refl _) (by omega)]
  · rw [List.getElem?_set_ne (fun e => c e.symm)]
    unfold firstsL
    rw [List.getElem?_map, List.getElem?_map]
    by_cases c2 : i < t.length + 1
    · rw [List.getElem?_range c2]
      show some (if n + 1 ≤ i then firstO rs t i else none) = some (if n ≤ i then firstO rs t i else none)
      by_cases c3 : n ≤ i
      · rw [if_pos c3, if_pos (by omega)]
      · rw [if_neg c3, if_neg (by omega)]
    · rw [List.getElem?_eq_none (by rw [List.length_range]; omega)]; rfl
section
variable {P : Program} {w : World} {K : PySem.W.Frag} {mg : Str → Option Value} {base : Heap}
def spMayBegin (K : PySem.W.Frag) : Sp := fun vs H Q _ => ∃ (x : Addr) (z : Str) (rs : Rws) (o : Option Str) (p : Str), vs = [.ref x, .str p, oS o] ∧ FolAt K H x z rs ∧ (∀ l, o = some l → l ∈ pcs z rs) ∧ ∀ H', Same H H' → Q (.bl (begB z rs p o)) H'
theorem cal_may_begin_there (T : Tx K mg) : Cal P w K mg base CX0 4 "may_begin_there" (spMayBegin K) := by
  have M_Follows_has_alone := met_fhas (P := P) (w := w) (base := base) T
  have M_Follows_may := met_fmay (P := P) (w := w) (base := base) T
  obtain ⟨fd, F⟩ := T.d_may_begin_there
  refine ⟨_, fd, P_may_begin_there, F.ok sc_may_begin_there (fun vs H Q E h => ?_) (fun cdv A outer s H vs Q E hr h => ?_), T.g_may_begin_there, F.kp, F.bindsN (ps := P_may_begin_there) fun _ _ _ _ _ _ us hl => match us, hl with | [_, _, _], _ => rfl⟩
  · obtain ⟨x, z, rs, o, p, rfl, _⟩ := h
    rfl
  · obtain ⟨x, z, rs, o, p, rfl, fo, ho, k⟩ := h
    refine ⟨_, (PSs.nox (pss_one (ps_ret (pe_and (pe_met M_Follows_has_alone (pv 0) (by first | exact hr | exact hr.mono (by decide)) (pa_cons (pv 1) pa_nil)) (pe_one (pe_or (pe_cmpR op_isN (pv 2) pe_non (nomark _)) (pe_one (pe_met M_Follows_may (pv 0) (by first | exact hr | exact hr.mono (by decide)) (pa_cons (pv 1) (pa_cons (pv 2) pa_nil)))))))))), ?_⟩
    obtain ⟨dx, t, re, le, al, af, ah, pr, hx⟩ := fo.ins
    refine ⟨_, rfl, x, dx, _, rfl, hx, g7_mha _ _ _ _ _ _ _, _, rfl, x, z, rs, p, rfl, fo, _, rfl, ?_⟩
    unfold begB at k
    by_cases c : p ∈ AL z rs
    · rw [decide_eq_true c] at k ⊢
      refine iteT ?_
      cases o with
      | none => exact ⟨_, rfl, rfl, _, rfl, iteT (k H (Same.refl _))⟩
      | some l => exact ⟨_, rfl, rfl, _, rfl, iteF ⟨_, rfl, x, dx, _, rfl, hx, g7_may _ _ _ _ _ _ _, _, rfl, _, rfl, x, z, rs, p, l, rfl, fo, (al_iff.mp c).1, ho l rfl, fun H' s => k H' s⟩⟩
    · rw [decide_eq_false c] at k ⊢
      exact iteF (k H (Same.refl _))
def spFirstOf (K : PySem.W.Frag) : Sp := fun vs H Q _ => ∃ (x a : Addr) (z : Str) (rs : Rws) (t : Str) (n : Nat), vs = [.ref x, .str t, .ref a, .int (n : Nat)] ∧ FolAt K H x z rs ∧ TextOf z t ∧ t.length ≤ 10000 ∧ H a = some (.lst ((firstsL rs t (n + 1)).map oS)) ∧ n < t.length ∧
  ∀ H' p, Same H H' → firstO rs t n = some p → Q (.str p) H'
theorem cal_first_of (T : Tx K mg) : Cal P w K mg base CX0 5 "first_of" (spFirstOf K) := by
  have C_may_begin_there := cal_may_begin_there (P := P) (w := w) (base := base) T
  have M_Follows_table := met_ftable (P := P) (w := w) (base := base) T
  have M_Table_longest := met_longest (P := P) (w := w) (base := base) T
  obtain ⟨fd, F⟩ := T.d_first_of
  refine ⟨_, fd, P_first_of, F.ok sc_first_of (fun vs H Q E h => ?_) (fun cdv A outer s H vs Q E hr h => ?_), T.g_first_of, F.kp, F.bindsN (ps := P_first_of) fun _ _ _ _ _ _ us hl => match us, hl with | [_, _, _, _], _ => rfl⟩
  · obtain ⟨x, a, z, rs, t, n, rfl, _⟩ := h
    rfl
  · obtain ⟨x, a, z, rs, t, n, rfl, fo, tx, tl, hL, n2, k⟩ := h
    refine ⟨_, (PSs.nox (pss_cons (ps_set (i := 4) sc_first_of.nd rfl (Or.inl rfl) (pe_callB (id := "min") (call_min2 rfl) (by rfl) T.n_min (by decide +kernel) (pa_cons (pe_op op_sub (pe_callB (id := "len") call_len_str (by rfl) T.n_len (by decide +kernel) (pa_cons (pv 1) pa_nil)) (pv 3)) (pa_cons (pe_met0 M_Table_longest (pe_met0 M_Follows_table (pv 0) (by first | exact hr | exact hr.mono (by decide))) (by first | exact hr | exact hr.mono (by decide))) pa_nil))))
      (pss_cons (ps_setLc (i := 5) (own := [("size", 6)]) (g := gName 6) (by rfl) sc_first_of.nd rfl rfl (sw_true rfl rfl rfl (by decide +kernel)) (pi_range2 (by rfl) T.n_range (pa_cons pe_int (pa_cons (pe_op op_add (pv 4) pe_int) pa_nil))) (blkOk_by (own := [("size", 6)]) (N := N_first_of) (sc := defScope s_first_of) (by decide +kernel)) (fun _ _ _ _ _ => (pg_name (i := 6) sc_first_of.nd rfl (Or.inl rfl))) (fun _ _ _ _ _ => (pts_one (pt_val (pe_cal C_may_begin_there (by first | exact hr | exact hr.mono (by decide)) (by rfl) (pa_cons (pv 0) (pa_cons (pe_slice sl_str (pv 1) (po_some (pv 3)) (po_some (pe_op op_add (pv 3) (pv 6)))) (pa_cons (pe_ix (ix_listK (K := K)) (pv 2) (pe_op op_add (pv 3) (pv 6)) (fun _ _ => rfl)) pa_nil))))))) (fun _ _ _ _ _ => (pv 6)))
      (pss_one (ps_ret (pe_slice sl_str (pv 1) (po_some (pv 3)) (po_some (pe_op op_add (pv 3) (pe_ix ix_list (pv 5) pe_int (fun _ _ => rfl)))))))))), ?_⟩
    obtain ⟨p, hp⟩ := firstO_some (rs := rs) n2
    have pin := firstO_in tx hp
    obtain ⟨pm, pl⟩ := firstO_mid (by omega) hp
    have p1 := (fo.ok.plen pin.1).1
    obtain ⟨dx, t', re, le, al, af, ah, pr, hx⟩ := fo.ins
    refine ⟨_, rfl, t, rfl, sz (by omega), _, rfl, _, _, rfl, rfl, _, rfl, x, dx, _, rfl, hx, g7_mt _ _ _ _ _ _ _, x, z, rs, rfl, fo, fun tt ta => ?_⟩
    obtain ⟨dx2, lr, lp, dn, dr, m', h1, _⟩ := ta.ex
    refine ⟨tt, dx2, _, rfl, h1, l6_ml _ _ _ _ _ _, tt, z, rs, rfl, ta, fun m hm1 hm2 => ?_⟩
    refine ⟨_, _, rfl, ?_⟩
    have hmost : (if (m : Int) < (t.length : Int) - (n : Int) then (m : Int) else (t.length : Int) - (n : Int)) = ((min (t.length - n) m : Nat) : Int) := by
      split <;> omega
    rw [hmost]
    have em : (((min (t.length - n) m : Nat) : Int) + 1 - 1).toNat = min (t.length - n) m := by omega
    refine ⟨_, rfl, _, _, rfl, rfl, _, _, rfl, (by omega), fun D hD => ?_⟩
    rw [em]
    have pin' : p.length ≤ m := hm2 p pin.1
    refine lc_rangeC (lo := 1) (n := min (t.length - n) m) (p := fun i => decide (i = p.length - 1)) (f := fun i => V.int (1 + (i : Int))) hD (by omega) (fun i hi H2 s2 N M hM hN => ?_) (fun H2 s2 hL2 => ?_)
    · have e1 : (n : Int) + (1 + (i : Int)) = ((n + (i + 1) : Nat) : Int) := by omega
      have A1 : atI ((firstsL rs t (n + 1)).map oS) ((n : Int) + (1 + (i : Int))) = some (oS (firstO rs t (n + (i + 1)))) := by rw [e1]; exact atm (firstsL_get (by omega) (by omega))
      have ei := beg_iff fo.ok tx (s := i + 1) (by omega) (by omega) hp
      refine ⟨rfl, _, rfl, _, rfl, _, rfl, _, rfl, _, rfl, _, rfl, _, _, rfl, rfl, _, rfl, t, rfl, sz (by omega), _, rfl, _, rfl, _, rfl, _, _, rfl, rfl, a, _, _, _, rfl, rfl, SqL.of (s2 _ _ hL), A1, ?_⟩
      refine ⟨x, z, rs, firstO rs t (n + (i + 1)), midS t n (n + (i + 1)), (by rw [e1, cutS_mid]), fo.same s2, fun l hl => (firstO_in tx hl).1, fun H3 s3 => ⟨_, rfl, ?_⟩⟩
      by_cases c : i + 1 = p.length
      · rw [ei.mpr c]
        exact iteT ⟨_, rfl, hM (by simp; omega) _ s3⟩
      · have c' : begB z rs (midS t n (n + (i + 1))) (firstO rs t (n + (i + 1))) = false := by
          cases hb : begB z rs (midS t n (n + (i + 1))) (firstO rs t (n + (i + 1))) with
          | false => rfl
          | true => exact absurd (ei.mp hb) c
        rw [c']
        exact iteF (hN (by simp; omega) _ s3)
    · rw [fit_head (m := p.length - 1) (by omega) (fun i _ => by simp)] at hL2
      have e2 : (n : Int) + (1 + ((p.length - 1 : Nat) : Int)) = ((n + p.length : Nat) : Int) := by omega
      refine ⟨_, rfl, _, rfl, _, rfl, _, rfl, _, rfl, D, _, _, _, rfl, rfl, SqL.of hL2, rfl, _, _, rfl, rfl, _, rfl, t, rfl, sz (by omega), ?_⟩
      rw [e2, cutS_mid, ← pm]
      exact k H2 p s2 hp
def spFirsts (K : PySem.W.Frag) : Sp := fun vs H Q _ => ∃ (x : Addr) (z : Str) (rs : Rws) (t : Str), vs = [.ref x, .str t] ∧ FolAt K H x z rs ∧ TextOf z t ∧ t.length ≤ 10000 ∧ ∀ H' q, Same H H' → H q = none → H' q = some (.lst ((firstsL rs t 0).map oS)) → Q (.ref q) H'
theorem cal_firsts (T : Tx K mg) : Cal P w K mg base CX0 6 "firsts" (spFirsts K) := by
  have C_first_of := cal_first_of (P := P) (w := w) (base := base) T
  have C_check_text := cal_check_text (P := P) (w := w) (base := base) T
  have M_Follows_table := met_ftable (P := P) (w := w) (base := base) T
  obtain ⟨fd, F⟩ := T.d_firsts
  refine ⟨_, fd, P_firsts, F.ok sc_firsts (fun vs H Q E h => ?_) (fun cdv A outer s H vs Q E hr h => ?_), T.g_firsts, F.kp, F.bindsN (ps := P_firsts) fun _ _ _ _ _ _ us hl => match us, hl with | [_, _], _ => rfl⟩
  · obtain ⟨x, z, rs, t, rfl, _⟩ := h
    rfl
  · obtain ⟨x, z, rs, t, rfl, fo, tx, tl, k⟩ := h
    refine ⟨_, (PSs.nox (pss_cons (ps_expr (pe_cal C_check_text (by first | exact hr | exact hr.mono (by decide)) (by rfl) (pa_cons (pe_met0 M_Follows_table (pv 0) (by first | exact hr | exact hr.mono (by decide))) (pa_cons (pv 1) pa_nil))))
      (pss_cons (ps_set (i := 2) sc_firsts.nd rfl (Or.inl rfl) (pe_op op_repG (pe_lstG (pa_cons pe_non pa_nil)) (pe_op op_add (pe_callB (id := "len") call_len_str (by rfl) T.n_len (by decide +kernel) (pa_cons (pv 1) pa_nil)) pe_int)))
      (pss_cons (ps_for PassesOwn.never rfl (pi_revR (by rfl) T.n_reversed (prg_1 (by rfl) T.n_range (pe_callB (id := "len") call_len_str (by rfl) T.n_len (by decide +kernel) (pa_cons (pv 1) pa_nil)))) (pg_name (i := 3) sc_firsts.nd rfl (Or.inl rfl)) (pss_one (ps_asg (pe_cal C_first_of (by first | exact hr | exact hr.mono (by decide)) (by rfl) (pa_cons (pv 0) (pa_cons (pv 1) (pa_cons (pv 2) (pa_cons (pv 3) pa_nil))))) (pg_sub (pv 2) (pv 3) set_list))))
      (pss_one (ps_ret (pv 2))))))), ?_⟩
    obtain ⟨dx, t', re, le, al, af, ah, pr, hx⟩ := fo.ins
    refine ⟨_, rfl, x, dx, _, rfl, hx, g7_mt _ _ _ _ _ _ _, x, z, rs, rfl, fo, fun tt ta => ?_⟩
    refine ⟨_, rfl, tt, z, rs, t, rfl, ta, tx, fun H1 s1 => ?_⟩
    refine ⟨(by show 1 ≤ sizeLine; decide), fun a0 H2 na0 s2 h0 => ?_⟩
    have er : ((t.length : Int) + 1).toNat = t.length + 1 := by omega
    refine ⟨_, rfl, t, rfl, sz (by omega), _, _, rfl, rfl, a0, _, _, rfl, rfl, h0, (by omega), (by omega), ?_, fun a H3 na s3 hL => ?_⟩
    · show 1 * ((t.length : Int) + 1).toNat ≤ sizeLine
      exact sz (by omega)
    have hL' : H3 a = some (.lst ((firstsL rs t t.length).map oS)) := by
      rw [hL, er, firstsL_top, rep_one, map_rep]; rfl
    refine ⟨_, rfl, t, rfl, sz (by omega), _, rfl, by omega, by omega, by omega, by omega, ?_⟩
    have en : ((t.length : Int) - 0).toNat = t.length := by omega
    rw [en]
    have na1 : H1 a = none := s2.free na
    refine for_itc (n := t.length) (fun i σ H' => ∃ u : Option V, σ = [some (.ref x), some (.str t), some (.ref a), u] ∧ Same H1 H' ∧ H' a = some (.lst ((firstsL rs t (t.length - i)).map oS))) ⟨none, rfl, s2.trans s3, hL'⟩ ?_ ?_
    · rintro i σ H' hi ⟨u, rfl, sm, hA⟩
      have eb : (0 : Int) + (t.length : Int) - 1 + (i : Nat) * (-1) = ((t.length - 1 - i : Nat) : Int) := by omega
      rw [eb]
      have e1 : t.length - i = (t.length - 1 - i) + 1 := by omega
      rw [e1] at hA
      have hn : t.length - 1 - i < t.length := by omega
      revert hA hn
      have e3 : t.length - (i + 1) = t.length - 1 - i := by omega
      rw [e3]
      generalize t.length - 1 - i = n
      intro hA hn
      refine ⟨_, rfl, _, rfl, _, rfl, _, rfl, x, a, z, rs, t, n, rfl, (fo.same s1).same sm, tx, tl, hA, hn, fun H4 p s4 hp => ?_⟩
      refine ⟨_, rfl, _, rfl, a, _, _, n, rfl, rfl, s4 _ _ hA, ?_, ⟨_, rfl, Same.mut (sm.trans s4) na1, ?_⟩⟩
      · unfold ixN
        rw [List.length_map, firstsL_len]
        simp
        omega
      · rw [upd_same, ← firstsL_set rs t hn, hp, List.map_set]; rfl
    · rintro σ H' ⟨u, rfl, sm, hA⟩
      rw [Nat.sub_self] at hA
      exact ⟨_, rfl, k H' a (s1.trans sm) (s1.free na1) hA⟩
end
end Jr
namespace Jr
open PySem PySem.Spec PyProof.Rows L2
section
variable {P : Program} {w : World} {K : PySem.W.Frag} {mg : Str → Option Value} {base : Heap}
def spReadOn (K : PySem.W.Frag) : Sp := fun vs H Q _ => ∃ (x : Addr) (z : Str) (rs : Rws) (t : Str), vs = [.ref x, .str t] ∧ FolAt K H x z rs ∧ TextOf z t ∧ t.length ≤ 10000 ∧ ∀ H' q, Same H H' → H q = none → H' q = some (.lst ((sweep rs t).map V.str)) → Q (.ref q) H'
theorem cal_read_on (T : Tx K mg) : Cal P w K mg base CX0 7 "read_on" (spReadOn K) := by
  have C_firsts := cal_firsts (P := P) (w := w) (base := base) T
  obtain ⟨fd, F⟩ := T.d_read_on
  refine ⟨_, fd, P_read_on, F.ok sc_read_on (fun vs H Q E h => ?_) (fun cdv A outer s H vs Q E hr h => ?_), T.g_read_on, F.kp, F.bindsN (ps := P_read_on) fun _ _ _ _ _ _ us hl => match us, hl with | [_, _], _ => rfl⟩
  · obtain ⟨x, z, rs, t, rfl, _⟩ := h
    rfl
  · obtain ⟨x, z, rs, t, rfl, fo, tx, tl, k⟩ := h
    refine ⟨_, (PSs.nox (pss_cons (ps_set (i := 2) sc_read_on.nd rfl (Or.inl rfl) (pe_cal C_firsts (by first | exact hr | exact hr.mono (by decide)) (by rfl) (pa_cons (pv 0) (pa_cons (pv 1) pa_nil))))
      (pss_cons (ps_set (i := 3) sc_read_on.nd rfl (Or.inl rfl) (pe_lstG pa_nil))
      (pss_cons (ps_set (i := 4) sc_read_on.nd rfl (Or.inl rfl) pe_int)
      (pss_cons (ps_while PassesOwn.never (pt_cmpR op_lt (pv 4) (pe_callB (id := "len") call_len_str (by rfl) T.n_len (by decide +kernel) (pa_cons (pv 1) pa_nil)) (nomark _)) (pss_cons (ps_expr (pe_bm PySem.F.plainAttrs_list PySem.F.slot_list_append PySem.F.type_list_append mt_append (pv 3) (pa_cons (pe_ix ix_list (pv 2) (pv 4) (fun _ _ => rfl)) pa_nil)))
      (pss_one (ps_aug (i := 4) sc_read_on.nd rfl (Or.inl rfl) (pe_callB (id := "len") call_len_str (by rfl) T.n_len (by decide +kernel) (pa_cons (pe_ix ix_list (pv 2) (pv 4) (fun _ _ => rfl)) pa_nil)) ip_add))))
      (pss_one (ps_ret (pv 3)))))))), ?_⟩
    refine ⟨_, rfl, _, rfl, x, z, rs, t, rfl, fo, tx, tl, fun H1 q s1 nq hq => ?_⟩
    refine ⟨(by show 0 ≤ sizeLine; decide), fun r H2 nr s2 hr' => ?_⟩
    refine while_by (fun σ H' => ∃ (n : Nat) (ys : List Str), σ = [some (.ref x), some (.str t), some (.ref q), some (.ref r), some (.int (n : Nat))] ∧ Same H1 H' ∧ H' r = some (.lst (ys.map V.str)) ∧ n ≤ t.length ∧ ys ++ sweep rs (sufS t n) = sweep rs t)
      (fun σ _ => match σ with | [_, _, _, _, some (.int i)] => t.length - i.toNat | _ => 0) ⟨0, [], rfl, s2, hr', Nat.zero_le _, by rw [sufS_zero]; rfl⟩ ?_ ?_
    · rintro σ H' ⟨n, ys, rfl, sm, hR, hn, e⟩
      have yl : ys.length ≤ 10000 := by
        have h1 := congrArg List.length e
        have h2 := passAll_len rs (sgs t)
        rw [sgs_len] at h2
        rw [List.length_append] at h1
        unfold sweep at h1
        omega
      refine ⟨_, rfl, _, rfl, t, rfl, sz (by omega), _, _, rfl, rfl, _, rfl, ite2 (fun c => ?_) (fun c => ?_)⟩
      · have c' : n < t.length := by
          have := of_decide_eq_true c
          omega
        obtain ⟨p, hp⟩ := firstO_some (rs := rs) c'
        have A1 : atI ((firstsL rs t 0).map oS) ((n : Nat) : Int) = some (V.str p) := by
          have := atm (f := oS) (firstsL_get (rs := rs) (t := t) (Nat.zero_le n) hn)
          rw [hp] at this
          exact this
        obtain ⟨_, pl⟩ := firstO_mid hn hp
        have p1 := (fo.ok.plen (firstO_in tx hp).1).1
        have hqr : r ≠ q := fun h => by rw [h, hq] at nr; cases nr
        have hq' := sm _ _ hq
        refine ⟨_, rfl, .inl ⟨rfl, _, SqL.of hR⟩, _, rfl, _, rfl, q, _, _, _, rfl, rfl, SqL.of hq', A1, r, _, _, rfl, rfl, hR, (by rw [List.length_map]; exact szl (by omega)), ?_⟩
        have hq2 : (upd H' r (.lst (ys.map V.str ++ [V.str p]))) q = some (.lst ((firstsL rs t 0).map oS)) := by rw [upd_ne (Ne.symm hqr)]; exact hq'
        refine ⟨_, rfl, _, rfl, _, rfl, q, _, _, _, rfl, rfl, SqL.of hq2, A1, p, rfl, sz (by omega), _, _, rfl, rfl, ⟨n + p.length, ys ++ [p], rfl, Same.mut sm nr, ?_, pl, ?_⟩, ?_⟩
        · rw [upd_same, List.map_append]; rfl
        · rw [← e, read_step hn hp, List.append_assoc]; rfl
        · show t.length - ((n : Int) + (p.length : Int)).toNat < t.length - ((n : Int)).toNat
          omega
      · have c' : n = t.length := by
          have : ¬ ((n : Int) < (t.length : Int)) := fun h => c (decide_eq_true h)
          omega
        rw [c', sweep_zero (by rw [sufS_len]; omega), List.append_nil] at e
        rw [e] at hR
        exact ⟨_, rfl, k H' r (s1.trans sm) (s1.free nr) hR⟩
    · intro σ H' Q1 Q2 himp hh
      obtain ⟨v1, g1, v2, g2, v3, h3, v4, g4, v5, g5, v6, v7, v8, v9⟩ := hh
      exact ⟨v1, g1, v2, g2, v3, h3, v4, g4, v5, g5, v6, v7, v8, himp _ _ v9⟩
end
end Jr
namespace Jr
open PySem PySem.Spec PyProof.Rows L2
theorem isInt {K : PySem.W.Frag} : PySem.W.kitOne K (.type "int") (.type "int") = some true := kit_ty (by decide +kernel)
theorem intBool {K : PySem.W.Frag} : PySem.W.kitOne K (.type "int") (.type "bool") = some false := kit_ty (by decide +kernel)
theorem boolInt {K : PySem.W.Frag} : PySem.W.kitOne K (.type "bool") (.type "int") = some true := kit_ty (by decide +kernel)
theorem boolBool {K : PySem.W.Frag} : PySem.W.kitOne K (.type "bool") (.type "bool") = some true := kit_ty (by decide +kernel)
/-- no int, no bool -/
def NoInt (K : PySem.W.Frag) (H : Hp) (v : V) : Prop := ∃ t, TyX K H v t ∧ PySem.W.kitOne K t (.type "int") = some false
/-- is_whole: of an int True, of a bool and all else False -/
def spWhole (K : PySem.W.Frag) : Sp := fun vs H Q _ => ∃ v : V, vs = [v] ∧ ((∃ n : Int, v = .int n ∧ Q (.bl true) H) ∨ (((∃ b : Bool, v = .bl b) ∨ NoInt K H v) ∧ Q (.bl false) H))
end Jr
namespace Jr
open PySem PySem.Spec PyProof.Rows L2
section
variable {P : Program} {w : World} {K : PySem.W.Frag} {mg : Str → Option Value} {base : Heap}
theorem cal_is_whole (T : Tx K mg) : Cal P w K mg base CX0 1 "is_whole" (spWhole K) := by
  obtain ⟨fd, F⟩ := T.d_is_whole
  refine ⟨_, fd, P_is_whole, F.ok sc_is_whole (fun vs H Q E h => ?_) (fun cdv A outer s H vs Q E hr h => ?_), T.g_is_whole, F.kp, F.bindsN (ps := P_is_whole) fun _ _ _ _ _ _ us hl => match us, hl with | [_], _ => rfl⟩
  · obtain ⟨v, rfl, _⟩ := h
    rfl
  · obtain ⟨v, rfl, k⟩ := h
    refine ⟨_, (PSs.nox (pss_one (ps_ret (pe_and (pe_callB (id := "isinstance") call_isi (by rfl) T.n_isinstance (by decide +kernel) (pa_cons (pv 0) (pa_cons (pe_bltn (v := .ty "int") (by rfl) T.n_int (by decide +kernel) rfl) pa_nil))) (pe_one (pe_not (pe_callB (id := "isinstance") call_isi (by rfl) T.n_isinstance (by decide +kernel) (pa_cons (pv 0) (pa_cons (pe_bltn (v := .ty "bool") (by rfl) T.n_bool (by decide +kernel) rfl) pa_nil))))))))), ?_⟩
    rcases k with ⟨n, rfl, k⟩ | ⟨⟨b, rfl⟩ | ⟨t, ht, hk⟩, k⟩
    · exact ⟨_, rfl, _, _, _, _, _, rfl, .ty "int", .base (.int n), isInt, _, rfl, iteT ⟨_, rfl, _, _, _, _, _, rfl, .ty "bool", .base (.int n), intBool, _, rfl, k⟩⟩
    · exact ⟨_, rfl, _, _, _, _, _, rfl, .ty "int", .base (.bl b), boolInt, _, rfl, iteT ⟨_, rfl, _, _, _, _, _, rfl, .ty "bool", .base (.bl b), boolBool, _, rfl, k⟩⟩
    · exact ⟨_, rfl, _, _, _, _, _, rfl, .ty "int", ht, hk, _, rfl, iteF k⟩
/-- is_up_to of a whole number -/
def spUpTo : Sp := fun vs H Q _ => ∃ n m : Int, vs = [.int n, .int m] ∧ Q (.bl (decide (0 ≤ n ∧ n ≤ m))) H
theorem cal_is_up_to (T : Tx K mg) : Cal P w K mg base CX0 2 "is_up_to" spUpTo := by
  have C_is_whole := cal_is_whole (P := P) (w := w) (base := base) T
  obtain ⟨fd, F⟩ := T.d_is_up_to
  refine ⟨_, fd, P_is_up_to, F.ok sc_is_up_to (fun vs H Q E h => ?_) (fun cdv A outer s H vs Q E hr h => ?_), T.g_is_up_to, F.kp, F.bindsN (ps := P_is_up_to) fun _ _ _ _ _ _ us hl => match us, hl with | [_, _], _ => rfl⟩
  · obtain ⟨n, m, rfl, _⟩ := h
    rfl
  · obtain ⟨n, m, rfl, k⟩ := h
    refine ⟨_, (PSs.nox (pss_one (ps_ret (pe_and (pe_cal C_is_whole (by first | exact hr | exact hr.mono (by decide)) (by rfl) (pa_cons (pv 0) pa_nil)) (pe_one (pe_chain op_le op_le pe_int (pv 0) (pv 1))))))), ?_⟩
    refine ⟨_, rfl, .int n, rfl, .inl ⟨n, rfl, _, rfl, iteT ⟨_, rfl, _, _, rfl, rfl, _, rfl, ite2 (fun c => ⟨_, rfl, _, _, rfl, rfl, ?_⟩) (fun c => ?_)⟩⟩⟩
    · have c' : (0 : Int) ≤ n := of_decide_eq_true c
      have e : decide (n ≤ m) = decide (0 ≤ n ∧ n ≤ m) := by
        by_cases c2 : n ≤ m
        · rw [decide_eq_true c2, decide_eq_true ⟨c', c2⟩]
        · rw [decide_eq_false c2, decide_eq_false (fun z => c2 z.2)]
      show Q (V.bl (decide (n ≤ m))) H
      rw [e]
      exact k
    · have c' : ¬ (0 : Int) ≤ n := of_decide_eq_false (by simpa using c)
      rw [decide_eq_false (fun z => c' z.1)] at k
      exact k
end
end Jr
namespace Jr
open PySem PySem.Spec PyProof.Rows L2
section
variable {P : Program} {w : World} {K : PySem.W.Frag} {mg : Str → Option Value} {base : Heap}
def spCheckPlace : Sp := fun vs H Q _ => ∃ n m : Int, vs = [.int n, .int m] ∧ 0 ≤ n ∧ n ≤ m ∧ Q .non H
theorem cal_check_place (T : Tx K mg) : Cal P w K mg base CX0 3 "check_place" spCheckPlace := by
  have C_is_up_to := cal_is_up_to (P := P) (w := w) (base := base) T
  obtain ⟨fd, F⟩ := T.d_check_place
  refine ⟨_, fd, P_check_place, F.ok sc_check_place (fun vs H Q E h => ?_) (fun cdv A outer s H vs Q E hr h => ?_), T.g_check_place, F.kp, F.bindsN (ps := P_check_place) fun _ _ _ _ _ _ us hl => match us, hl with | [_, _], _ => rfl⟩
  · obtain ⟨n, m, rfl, _⟩ := h
    rfl
  · obtain ⟨n, m, rfl, h1, h2, k⟩ := h
    refine ⟨_, (PSs.nox (pss_one (ps_if (pt_not (pt_val (pe_cal C_is_up_to (by first | exact hr | exact hr.mono (by decide)) (by rfl) (pa_cons (pv 0) (pa_cons (pv 1) pa_nil))))) (pss_one ps_never) pss_nil))), ?_⟩
    refine ⟨_, rfl, _, rfl, n, m, rfl, ?_⟩
    rw [decide_eq_true ⟨h1, h2⟩]
    exact ⟨_, rfl, iteF k⟩
end
end Jr
namespace Jr
open PySem PySem.Spec PyProof.Rows L2
/-! ### zip within enumerate: the pairs given out stay -/
section
variable {prog : Program} {w : World} {A : Around} {E : Value → Shared → Prop} {s : Shared}
/-- what zip has: nothing given out yet, or a tuple that is still there -/
def ZSt (h : Heap) (z TI TO : Addr) (T : Option Addr) : Prop := match T with
  | none => IsZip h z TI TO .none ∧ ∃ x y, IsPair h TO x y
  | some t => ∃ f, IsZipHeld h z TI TO t f
/-- the next pair, whether or not one is out -/
theorem ez_zip {z TI TO i1 i2 l1 l2 : Addr} {k : Nat} {xs ys : Array Value} {x y : Value} {T : Option Addr} {Q : Value → Shared → Prop} (D : ZipApart z TI TO i1 i2 l1 l2) (hz : ZSt s.heap z TI TO T) (hT : ∀ t, T = some t → ∃ o, s.heap.get? t = some o) (hTI : IsPair s.heap TI (.ref i1) (.ref i2))
    (h1 : s.heap.IsListIter i1 l1 k) (h2 : s.heap.IsListIter i2 l2 k) (hl1 : s.heap.IsList l1 xs) (hl2 : s.heap.IsList l2 ys) (hx : xs[k]? = some x) (hy : ys[k]? = some y)
    (hQ : ∀ g, (∃ T', ZSt g z TI TO (some T') ∧ (T = some T' ∨ T' = s.heap.objs.size)) → g.IsListIter i1 l1 (k + 1) → g.IsListIter i2 l2 (k + 1) → IsPair g s.heap.objs.size x y → g.objs.size = s.heap.objs.size + 1 →
      (∀ c o, c ≠ z → c ≠ TO → c ≠ i1 → c ≠ i2 → s.heap.get? c = some o → g.get? c = some o) → (∃ o, g.get? TO = some o ∧ ∀ v, o.data ≠ .cell v) → Q (.ref s.heap.objs.size) { s with heap := g }) (hTO : ∃ o, s.heap.get? TO = some o ∧ ∀ v, o.data ≠ .cell v) :
    wpAny (model prog w) A (Builtin.«zip.__next__» ⟨[.ref z], []⟩) (fun fin s' => ∃ v, fin = .done (.ret v) ∧ Q v s') E s := by
  cases T with
  | none =>
    obtain ⟨a, b, c, d⟩ := hz
    exact zip_next_item D a hTI d h1 h2 hl1 hl2 hx hy fun g a1 a2 a3 a4 a5 a6 a7 => hQ g ⟨_, ⟨false, a1⟩, .inr rfl⟩ a3 a4 a5 a6 a7 ⟨_, a2, fun v q => nomatch q⟩
  | some t =>
    obtain ⟨f, a⟩ := hz
    obtain ⟨o, ho⟩ := hT t rfl
    obtain ⟨oo, hoo, hod⟩ := hTO
    exact zip_next_item_held D a ho hTI h1 h2 hl1 hl2 hx hy fun g a1 a3 a4 a5 a6 a7 => hQ g ⟨t, ⟨true, a1⟩, .inl rfl⟩ a3 a4 a5 a6 (fun c o n1 _ n3 n4 e => a7 c o n1 n3 n4 e) ⟨oo, a7 _ _ D.TOz D.TOi1 D.TOi2 hoo, hod⟩
theorem ez_end {z TI TO i1 i2 l1 l2 : Addr} {k : Nat} {xs ys : Array Value} {T : Option Addr} {Q : Fin → Shared → Prop} (hh : A.handled = none) (D : ZipApart z TI TO i1 i2 l1 l2) (hz : ZSt s.heap z TI TO T) (hT : ∀ t, T = some t → ∃ o, s.heap.get? t = some o) (hTI : IsPair s.heap TI (.ref i1) (.ref i2))
    (h1 : s.heap.IsListIter i1 l1 k) (h2 : s.heap.IsListIter i2 l2 k) (hl1 : s.heap.IsList l1 xs) (hl2 : s.heap.IsList l2 ys) (he : xs[k]? = none ∨ ys[k]? = none)
    (hE : ∀ g e, (∀ c o, c ≠ z → c ≠ TO → c ≠ i1 → c ≠ i2 → s.heap.get? c = some o → g.get? c = some o) → (∃ o, g.get? e = some o ∧ o.cls = .type "StopIteration") → E (.ref e) { s with heap := g }) :
    wpAny (model prog w) A (Builtin.«zip.__next__» ⟨[.ref z], []⟩) Q E s := by
  cases T with
  | none =>
    obtain ⟨a, b, c, d⟩ := hz
    exact zip_next_end hh D a hTI d h1 h2 hl1 hl2 he hE
  | some t =>
    obtain ⟨f, a⟩ := hz
    obtain ⟨o, ho⟩ := hT t rfl
    exact zip_next_end_held hh D a ho hTI h1 h2 hl1 hl2 he fun g e k2 q => hE g e (fun c o n1 _ n3 n4 e => k2 c o n1 n3 n4 e) q
theorem ez_typ {z TI TO : Addr} {T : Option Addr} (hz : ZSt s.heap z TI TO T) : s.TypeIs (.ref z) "zip" := by
  cases T with
  | none => exact ⟨_, hz.1, rfl⟩
  | some t => obtain ⟨f, a⟩ := hz; exact ⟨_, a, rfl⟩
/-- within a builtin: the next of a zip -/
theorem ez_nextOf {z : Addr} {Q : Value → Shared → Prop} (hT : s.TypeIs (.ref z) "zip") (h : wpAny (model prog w) A.in1 (Builtin.«zip.__next__» ⟨[.ref z], []⟩) (fun fin s' => ∃ v, fin = .done (.ret v) ∧ Q v s') E s) : wpAny (model prog w) A (Builtin.SmallTypes.nextOf (.ref z)) Q E s := by
  unfold Builtin.SmallTypes.nextOf
  refine wpAny_bind (wpAny_callSpecial?_slot (name := Str.ofString "__next__") hT F.slot_zip_next (wpAny_call_entry F.slot_zip_next hT F.entry_zip_next ?_ (F.args_zip_next_1 _)))
  refine thn h fun fin s' q => ?_
  obtain ⟨v, e, q⟩ := q
  exact ⟨v, e, wpAny_pure q⟩
/-- enumerate's next, whatever its inner iterator does beside it -/
theorem ez_enum {e it : Addr} {i : Nat} {old : Value} {Q : Value → Shared → Prop} {R : Value → Heap → Prop} (he : IsEnum s.heap e it i old)
    (hin : ∀ Q' : Value → Shared → Prop, (∀ x g, R x g → Q' x { s with heap := g }) → wpAny (model prog w) A (Builtin.SmallTypes.nextOf (.ref it)) Q' E s) (hR : ∀ x g, R x g → g.get? e = s.heap.get? e)
    (hQ : ∀ x g g' tk, R x g → IsEnumOut g' e it ((i : Int) + 1) x g.objs.size → g'.get? g.objs.size = some { cls := .type "tuple", data := .seq #[.int i tk, x] } → g'.objs.size = g.objs.size + 1 → (∀ b o, b ≠ e → g.get? b = some o → g'.get? b = some o) → Q (.ref g.objs.size) { s with heap := g', toks := tk + 1 }) :
    wpAny (model prog w) A (Builtin.«enumerate.__next__» ⟨[.ref e], []⟩) (fun fin s' => ∃ v, fin = .done (.ret v) ∧ Q v s') E s := by
  rcases s with ⟨hs, gn, dn, tk, ow⟩
  show wpAny _ _ (field (.ref e) 2 >>= _) _ _ _; refine wpAny_bind (wpAny_field he rfl (x := .ref it) rfl (wpAny_bind (hin _ fun x g r => ?_)))
  have e1 : IsEnum g e it i old := (hR x g r).trans he
  show wpAny _ _ (field (.ref e) 3 >>= _) _ _ ⟨g, gn, dn, tk, ow⟩; refine wpAny_bind (wpAny_field e1 rfl (x := rawInt i) rfl ?_)
  show wpAny _ _ (field (.ref e) 4 >>= _) _ _ ⟨g, gn, dn, tk, ow⟩; refine wpAny_bind (wpAny_field e1 rfl (x := .none) rfl ?_)
  show wpAny _ _ (mkInt i >>= _) _ _ ⟨g, gn, dn, tk, ow⟩; refine wpAny_bind (wpAny_mkInt ?_)
  show wpAny _ _ (setField (.ref e) 3 (rawInt ((i : Int) + 1)) >>= _) _ _ ⟨g, gn, dn, tk + 1, ow⟩; refine wpAny_bind (wpAny_setField_rec e1 (by simp) fun g2 e2 b2 => ?_)
  have e2' : IsEnum g2 e it ((i : Int) + 1) old := e2
  show wpAny _ _ (setField (.ref e) 4 .none >>= _) _ _ ⟨g2, gn, dn, tk + 1, ow⟩; refine wpAny_bind (wpAny_setField_rec e2' (by simp) fun g3 e3 b3 => ?_)
  have e3' : IsEnum g3 e it ((i : Int) + 1) old := e3
  show wpAny _ _ (newTuple [.int i tk, x] >>= _) _ _ ⟨g3, gn, dn, tk + 1, ow⟩; refine wpAny_bind (wpAny_newTuple ?_)
  have z3 : g3.objs.size = g.objs.size := b3.1.trans b2.1
  have le : e < g.objs.size := Heap.lt_size e1
  have k3 : ∀ b o, b ≠ e → g.get? b = some o → g3.get? b = some o := fun b o n q => b3.extBut b o n (b2.extBut b o n q)
  obtain ⟨g4, eg4⟩ : ∃ g4, g4 = g3.push { cls := .type "tuple", data := .seq #[.int i tk, x] } := ⟨_, rfl⟩
  have t4 : g4.get? g.objs.size = some { cls := .type "tuple", data := .seq #[.int i tk, x] } := by rw [eg4, ← z3]; exact Heap.get?_push_size _ rfl
  have e4 : IsEnum g4 e it ((i : Int) + 1) old := by rw [eg4]; exact Heap.get?_push_of_some _ e3'
  have z4 : g4.objs.size = g.objs.size + 1 := by rw [eg4, Heap.size_push, z3]
  have k4 : ∀ b o, b ≠ e → g.get? b = some o → g4.get? b = some o := fun b o n q => by rw [eg4]; exact Heap.get?_push_of_some _ (k3 b o n q)
  rw [← eg4]
  show wpAny _ _ (Builtin.SmallTypes.ownedTupleIsFree (.ref e) >>= _) _ _ ⟨g4, gn, dn, tk + 1, ow⟩
  rw [z3]
  clear eg4 e3' e3 b3 e2' e2 b2 k3 z3
  refine wpAny_bind ?_
  unfold Builtin.SmallTypes.ownedTupleIsFree
  refine wpAny_bind (wpAny_field e4 rfl (x := .none) rfl (wpAny_pure ?_))
  simp only [if_true]
  refine wpAny_bind (wpAny_rule (wpAny_bind (wpAny_field e4 rfl (x := old) rfl (wpAny_bind (wpAny_setField_rec e4 (by simp) fun g5 e5 b5 => ?_)))))
  have e5' : IsEnum g5 e it ((i : Int) + 1) x := e5
  show wpAny _ _ (Builtin.SmallTypes.ownedTupleHandOut (.ref e) (.ref g.objs.size) >>= _) _ _ ⟨g5, gn, dn, tk + 1, ow⟩
  refine wpAny_bind ?_
  unfold Builtin.SmallTypes.ownedTupleHandOut
  refine wpAny_bind (wpAny_setField_rec e5' (by simp) fun g6 e6 b6 => ?_)
  have e6' : IsEnumOut g6 e it ((i : Int) + 1) x g.objs.size := e6
  refine wpAny_setField_rec e6' (by simp) fun g7 e7 b7 => wpAny_bind (wpAny_letGo (wpAny_pure ⟨_, rfl, hQ x g g7 tk r e7 ?_ ?_ ?_⟩))
  · exact b7.extBut _ _ (Nat.ne_of_gt le) (b6.extBut _ _ (Nat.ne_of_gt le) (b5.extBut _ _ (Nat.ne_of_gt le) t4))
  · rw [b7.1, b6.1, b5.1]; exact z4
  · exact fun b o n q => b7.extBut b o n (b6.extBut b o n (b5.extBut b o n (k4 b o n q)))
theorem ZSt.mv {g g' : Heap} {z TI TO : Addr} {t : Addr} (h : ZSt g z TI TO (some t)) (k : ∀ o, g.get? z = some o → g'.get? z = some o) : ZSt g' z TI TO (some t) := by
  obtain ⟨f, a⟩ := h
  exact ⟨f, k _ a⟩
theorem ez_item {e z TI TO i1 i2 l1 l2 : Addr} {i : Nat} {old : Value} {xs ys : Array Value} {x y : Value} {T : Option Addr} {Q : Option Value → Shared → Prop} (he : IsEnum s.heap e z i old) (D : ZipApart z TI TO i1 i2 l1 l2) (hz : ZSt s.heap z TI TO T) (hT : ∀ t, T = some t → ∃ o, s.heap.get? t = some o) (hTI : IsPair s.heap TI (.ref i1) (.ref i2))
    (h1 : s.heap.IsListIter i1 l1 i) (h2 : s.heap.IsListIter i2 l2 i) (hl1 : s.heap.IsList l1 xs) (hl2 : s.heap.IsList l2 ys) (hx : xs[i]? = some x) (hy : ys[i]? = some y) (hTO : ∃ o, s.heap.get? TO = some o ∧ ∀ v, o.data ≠ .cell v)
    (ne : e ≠ z ∧ e ≠ TO ∧ e ≠ i1 ∧ e ≠ i2 ∧ e ≠ TI)
    (hQ : ∀ g g' tk T', ZSt g z TI TO (some T') → (T = some T' ∨ T' = s.heap.objs.size) → IsPair g s.heap.objs.size x y → g.IsListIter i1 l1 (i + 1) → g.IsListIter i2 l2 (i + 1) → (∃ o, g.get? TO = some o ∧ ∀ v, o.data ≠ .cell v) → g.objs.size = s.heap.objs.size + 1 → (∀ c o, c ≠ z → c ≠ TO → c ≠ i1 → c ≠ i2 → s.heap.get? c = some o → g.get? c = some o) →
      IsEnumOut g' e z ((i : Int) + 1) (.ref s.heap.objs.size) (s.heap.objs.size + 1) → g'.get? (s.heap.objs.size + 1) = some { cls := .type "tuple", data := .seq #[.int i tk, .ref s.heap.objs.size] } → (∀ b o, b ≠ e → g.get? b = some o → g'.get? b = some o) → Q (some (.ref (s.heap.objs.size + 1))) { s with heap := g', toks := tk + 1 }) :
    wpAny (model prog w) A (pyNext (.ref e)) Q E s := by
  have hTe : s.TypeIs (.ref e) "enumerate" := ⟨_, he, rfl⟩
  have hTz := ez_typ hz
  have le : e < s.heap.objs.size := Heap.lt_size he
  unfold pyNext
  refine wpAny_bind (wpAny_attempt (wpAny_callSpecial?_slot (name := Str.ofString "__next__") hTe F.slot_enumerate_next (wpAny_call_entry F.slot_enumerate_next hTe F.entry_enumerate_next ?_ (F.args_enumerate_next_1 _))))
  refine ez_enum (R := fun v g => v = .ref s.heap.objs.size ∧ (∃ T', ZSt g z TI TO (some T') ∧ (T = some T' ∨ T' = s.heap.objs.size)) ∧ g.IsListIter i1 l1 (i + 1) ∧ g.IsListIter i2 l2 (i + 1) ∧ IsPair g s.heap.objs.size x y ∧ g.objs.size = s.heap.objs.size + 1 ∧ (∀ c o, c ≠ z → c ≠ TO → c ≠ i1 → c ≠ i2 → s.heap.get? c = some o → g.get? c = some o) ∧ ∃ o, g.get? TO = some o ∧ ∀ v, o.data ≠ .cell v) he
    (fun Q' q => ez_nextOf hTz (ez_zip D hz hT hTI h1 h2 hl1 hl2 hx hy (fun g a1 a2 a3 a4 a5 a6 a7 => q _ g ⟨rfl, a1, a2, a3, a4, a5, a6, a7⟩) hTO)) (fun v g r => ?_) (fun v g g' tk r eo tt sz kp => wpAny_pure ?_)
  · obtain ⟨_, _, _, _, _, _, kz, _⟩ := r
    rw [he]
    exact kz e _ ne.1 ne.2.1 ne.2.2.1 ne.2.2.2.1 he
  · obtain ⟨ev, ⟨T', a1, a1'⟩, a2, a3, a4, a5, a6, oo, a7, a8⟩ := r
    subst ev
    rw [a5] at eo tt ⊢
    exact hQ g g' tk T' a1 a1' a4 a2 a3 ⟨oo, a7, a8⟩ a5 a6 eo tt kp
theorem ez_stop {e z TI TO i1 i2 l1 l2 : Addr} {i : Nat} {old : Value} {xs ys : Array Value} {T : Option Addr} {Q : Option Value → Shared → Prop} (hh : A.handled = none) (he : IsEnum s.heap e z i old) (D : ZipApart z TI TO i1 i2 l1 l2) (hz : ZSt s.heap z TI TO T) (hT : ∀ t, T = some t → ∃ o, s.heap.get? t = some o) (hTI : IsPair s.heap TI (.ref i1) (.ref i2))
    (h1 : s.heap.IsListIter i1 l1 i) (h2 : s.heap.IsListIter i2 l2 i) (hl1 : s.heap.IsList l1 xs) (hl2 : s.heap.IsList l2 ys) (hend : xs[i]? = none ∨ ys[i]? = none)
    (hQ : ∀ g, (∀ c o, c ≠ z → c ≠ TO → c ≠ i1 → c ≠ i2 → s.heap.get? c = some o → g.get? c = some o) → Q none { s with heap := g }) : wpAny (model prog w) A (pyNext (.ref e)) Q E s := by
  have hTe : s.TypeIs (.ref e) "enumerate" := ⟨_, he, rfl⟩
  have hTz := ez_typ hz
  unfold pyNext
  refine wpAny_bind (wpAny_attempt (wpAny_callSpecial?_slot (name := Str.ofString "__next__") hTe F.slot_enumerate_next (wpAny_call_entry F.slot_enumerate_next hTe F.entry_enumerate_next ?_ (F.args_enumerate_next_1 _))))
  rcases s with ⟨hs, gn, dn, tk, ow⟩
  show wpAny _ _ (field (.ref e) 2 >>= _) _ _ _; refine wpAny_bind (wpAny_field he rfl (x := .ref z) rfl (wpAny_bind (ez_nextOf hTz (ez_end hh D hz hT hTI h1 h2 hl1 hl2 hend fun g x kp hx => ?_))))
  obtain ⟨o, ho, hc⟩ := hx
  refine wpAny_bind (wpAny_isInstance (T := "StopIteration") (b := true) ⟨o, ho, hc⟩ isSubtype_stop (wpAny_pure (hQ _ kp)))
end
end Jr
namespace Jr
open PySem PySem.Spec PyProof.Rows L2
/-! ### for over an iterator whose given out tuple stays -/
def TOk (H : Hp) (T : Option Addr) : Prop := ∀ t, T = some t → ∃ xs, H t = some (.tup xs)
def TupKeep (H H' : Hp) : Prop := ∀ t xs, H t = some (.tup xs) → H' t = some (.tup xs)
theorem TupKeep.of {H H' : Hp} (s : Same H H') : TupKeep H H' := fun t _ h => s t _ h
structure TurnT (P : Program) (w : World) (K : PySem.W.Frag) (tg : Expr) (J : It) (fp : List Addr) (it : Addr) (tn : Option Addr → Nat → Heap → Prop) : Prop where
  obj : ∀ T i h, tn T i h → ∀ b ∈ fp, ∃ o, h.get? b = some o ∧ ∀ v, o.data ≠ .cell v
  keep : ∀ T i h h', tn T i h → (∀ b ∈ fp, ∀ o, h.get? b = some o → h'.get? b = some o) → tn T i h'
  item : ∀ (X : Cx), X.prog = P → X.w = w → X.K = K → X.calm = true → ∀ (T : Option Addr) (i : Nat) (pins : List (Addr × Obj)) (s : Shared) (σ : L2.St) (H : Hp) (E : Value → Shared → Prop), Inv X pins σ H s → (∀ b ∈ fp, FpOk X pins H b) → tn T i s.heap → TOk H T → J.go i H →
    wpAny (model P w) X.A (pyNext (.ref it)) (fun r s1 => ∃ u, r = some u ∧ wpAny (model P w) X.A (letOwnedTupleGo tg (.ref it) u) (fun _ s2 => ∃ x H' T', Inv X pins σ H' s2 ∧ RelV x u ∧ J.yld i H x H' ∧ tn T' (i + 1) s2.heap ∧ TOk H' T' ∧ ∀ b ∈ fp, H' b = none) E s1) E s
  done : ∀ (X : Cx), X.prog = P → X.w = w → X.K = K → X.calm = true → ∀ (T : Option Addr) (i : Nat) (pins : List (Addr × Obj)) (s : Shared) (σ : L2.St) (H : Hp) (E : Value → Shared → Prop), Inv X pins σ H s → (∀ b ∈ fp, FpOk X pins H b) → tn T i s.heap → TOk H T → J.stop i H →
    wpAny (model P w) X.A (pyNext (.ref it)) (fun r s1 => r = none ∧ Inv X pins σ H s1) E s
structure PIT (X : Cx) (tg iter : Expr) (wi : TI) : Prop where
  run : ∀ (pins : List (Addr × Obj)) (s : Shared) (σ : L2.St) (H : Hp) (R : It → Hp → Prop), Inv X pins σ H s → wi σ H R →
    wpAny (model X.prog X.w) X.A (eval iter X.env) (fun v s1 => wpAny (model X.prog X.w) X.A (pyIter v) (fun itv s2 => ∃ (it : Addr) (fp : List Addr) (tn : Option Addr → Nat → Heap → Prop) (J : It) (H' : Hp), itv = .ref it ∧ Inv X pins σ H' s2 ∧ TurnT X.prog X.w X.K tg J fp it tn ∧ tn none 0 s2.heap ∧ (∀ b ∈ fp, FpOk X pins H' b) ∧ R J H') X.xe s1) X.xe s
def tForT (wi : TI) (g : TG) (tb : TS) : TS := fun D σ H => wi σ H fun J H1 => ∃ W : Nat → Nat → L2.St → Hp → Prop, (∃ m, W 0 m σ H1) ∧ ∀ i m σ H, W i m σ H →
  (J.stop i H ∧ D.nx σ H) ∨ (J.go i H ∧ ∃ N : L2.St → Hp → Prop, (∀ σ' H', N σ' H' → ∃ m', m' < m ∧ W (i + 1) m' σ' H') ∧ ∀ x H', J.yld i H x H' → g x σ H' fun σ2 H2 =>
    tb { D with nx := fun σ' H3 => TupKeep H' H3 ∧ N σ' H3, ct := fun σ' H3 => TupKeep H' H3 ∧ N σ' H3, bk := D.nx } σ2 H2)
theorem ps_forT {X : Cx} {tg iter : Expr} {body : List Stmt} {wi : TI} {g : TG} {tb : TS} {pos : Pos} (hp : PassesOwn (model X.prog X.w) X.A X.env X.xe) (hc : X.calm = true) (hi : PIT X tg iter wi) (hg : PG X tg g) (hb : PSs X body tb) (hs : ∀ x, foldedSetIterable iter X.env x = pure x := by intro _; rfl) :
    PS X (.For tg iter body [] pos) (tForT wi g tb) := by
  refine ⟨fun pins s σ H D I h => wpAny_For (thn (hi.run pins s σ H _ I h) fun v s1 h1 => thn h1 fun itv s2 h2 => ?_) hs⟩
  obtain ⟨it, fp, tn, J, H2, rfl, I2, TT, st2, f2, W, ⟨m0, w0⟩, turn⟩ := h2
  have stat : ∀ {H' : Hp}, (∀ b ∈ fp, H' b = none) → ∀ b ∈ fp, FpOk X pins H' b := fun hn b hb => ⟨hn b hb, (f2 b hb).2⟩
  refine codeAny_forLoop_any (fun n s' => ∃ T i σ' H', Inv X pins σ' H' s' ∧ tn T i s'.heap ∧ TOk H' T ∧ (∀ b ∈ fp, H' b = none) ∧ W i n σ' H') ?_ m0 ⟨none, 0, σ, H2, I2, st2, (fun t e => by cases e), fun b hb => (f2 b hb).1, w0⟩
  rintro n s3 ⟨T, i, σ3, H3, I3, st3, tk3, fr3, w3⟩
  rcases turn i n σ3 H3 w3 with ⟨stop, qn⟩ | ⟨go, N, hN, step⟩
  · refine wpAny_passesOwn hp (thn (TT.done X rfl rfl rfl hc T i pins s3 σ3 H3 X.xe I3 (stat fr3) st3 tk3 stop) fun r s4 hr => ?_)
    obtain ⟨hr, I4⟩ := hr
    subst hr
    exact wpAny_execs_nil ⟨σ3, H3, I4, qn⟩
  · refine wpAny_passesOwn hp (thn (TT.item X rfl rfl rfl hc T i pins s3 σ3 H3 X.xe I3 (stat fr3) st3 tk3 go) fun r s4 hr => ?_)
    obtain ⟨u, hr, h4⟩ := hr
    subst hr
    refine wpAny_passesOwn hp (thn h4 fun _ s5 h5 => ?_)
    obtain ⟨x, H5, T5, I5, r5, y5, st5, tk5, fr5⟩ := h5
    have ob5 := TT.obj _ _ _ st5
    refine wpAny_passesOwn hp (thn (hg.run _ s5 σ3 H5 x u _ (I5.pinned (stat fr5) ob5) r5 (step x H5 y5)) fun _ s6 h6 => ?_)
    obtain ⟨σ6, H6, I6, q6⟩ := h6
    refine wpAny_passesOwn hp (thn (hb.run _ s6 σ6 H6 _ I6 q6) fun f s7 q7 => ?_)
    have back : ∀ {σ7 : L2.St} {H7 : Hp}, Inv X (pins ++ pinsAt fp s5.heap) σ7 H7 s7 → TupKeep H5 H7 ∧ N σ7 H7 → ∃ m, m < n ∧ ∃ T i σ' H', Inv X pins σ' H' s7 ∧ tn T i s7.heap ∧ TOk H' T ∧ (∀ b ∈ fp, H' b = none) ∧ W i m σ' H' := fun {σ7 H7} I7 n7 => by
      obtain ⟨m', hm, w7⟩ := hN σ7 H7 n7.2
      have pin := fun b (hb : b ∈ fp) o (q : s5.heap.get? b = some o) => I7.pin (b, o) (List.mem_append_right _ (List.mem_append_right _ (mem_pinsAt hb q)))
      refine ⟨m', hm, T5, i + 1, σ7, H7, I7.unpinned, TT.keep _ _ _ _ st5 fun b hb o q => (pin b hb o q).1, fun t e => ?_, fun b hb => ?_, w7⟩
      · obtain ⟨xs, hx⟩ := tk5 t e
        exact ⟨xs, n7.1 t xs hx⟩
      · obtain ⟨o, q, _⟩ := ob5 b hb
        exact (pin b hb o q).2.1
    cases f with
    | next => obtain ⟨σ7, H7, I7, n7⟩ := q7; exact back I7 n7
    | cont => obtain ⟨σ7, H7, I7, n7⟩ := q7; exact back I7 n7
    | brk => obtain ⟨σ7, H7, I7, n7⟩ := q7; exact ⟨σ7, H7, I7.unpinned, n7⟩
    | ret v => obtain ⟨x7, σ7, H7, I7, r7, n7⟩ := q7; exact ⟨x7, σ7, H7, I7.unpinned, r7, n7⟩
end Jr
namespace Jr
open PySem PySem.Spec PyProof.Rows L2
/-! ### for pair in zip(xs, ys); for number, pair in enumerate(zip(xs, ys)) -/
theorem meets_enumZ (z TI TO : Addr) : Meets (Builtin.«enumerate.__new__» ⟨[.type "enumerate", .ref z], []⟩) (fun _ R s => IsZip s.heap z TI TO .none ∧ R (.ok (.ret (.ref s.heap.objs.size))) { s with heap := s.heap.push { cls := .type "enumerate", data := .fields #[.none, .bool false, .ref z, rawInt 0, .none, .none] } }) :=
  .of_wp fun prog w A R s h => by
    rcases s with ⟨hs, gn, dn, tk, ow⟩
    obtain ⟨hz, h⟩ := h
    have hsub := sub_enumerate
    have hZ : IsZip (Shared.heap ⟨hs, gn, dn, tk, ow⟩) z TI TO .none := hz
    wp_walk
    refine wpAny_stack_any fun st => wpAny_pure ?_
    split
    · rename_i c _ _ _ _ _
      cases (c == Value.type "enumerate") <;> (wp_walk using wpAny_pyIter_zip hZ; exact ⟨_, rfl, h⟩)
    · wp_walk using wpAny_pyIter_zip hZ; exact ⟨_, rfl, h⟩
theorem call_enumZ {prog : Program} {w : World} {A : Around} {E : Value → Shared → Prop} {s : Shared} {z TI TO : Addr} {Q : Value → Shared → Prop} (hz : IsZip s.heap z TI TO .none)
    (h : ∀ h', IsEnum h' s.heap.objs.size z 0 .none → h'.objs.size = s.heap.objs.size + 1 → (∀ b o, s.heap.get? b = some o → h'.get? b = some o) → Q (.ref s.heap.objs.size) { s with heap := h' }) :
    wpAny (model prog w) A (call (.type "enumerate") [.ref z]) Q E s := by
  refine callType_new F.called_enumerate (by decide) (F.typeCall_enumerate_1 _) (F.newCall_enumerate_1 _) (fun obj => F.args_object_init_2 obj _) F.entry_enumerate_new (meets_enumZ z TI TO) ⟨hz, ?_⟩
  have he : IsEnum (s.heap.push { cls := .type "enumerate", data := .fields #[.none, .bool false, .ref z, rawInt 0, .none, .none] }) s.heap.objs.size z 0 .none := Heap.get?_push_size _ rfl
  exact ⟨⟨_, he, rfl⟩, h _ he (Heap.size_push ..) fun b o q => Heap.get?_push_of_some _ q⟩
/-- the state of a zip of two lists -/
def ZTn (z TI TO i1 i2 a b : Addr) (T : Option Addr) (i : Nat) (h : Heap) : Prop := ZSt h z TI TO T ∧ IsPair h TI (.ref i1) (.ref i2) ∧ (∃ o, h.get? TO = some o ∧ ∀ v, o.data ≠ .cell v) ∧ h.IsListIter i1 a i ∧ h.IsListIter i2 b i
theorem ZTn.obj {z TI TO i1 i2 a b : Addr} {T : Option Addr} {i : Nat} {h : Heap} (st : ZTn z TI TO i1 i2 a b T i h) : ∀ c ∈ [z, TI, TO, i1, i2], ∃ o, h.get? c = some o ∧ ∀ v, o.data ≠ .cell v := fun c hc => by
  obtain ⟨hz, hTI, hTO, ⟨o1, e1, _, d1⟩, ⟨o2, e2, _, d2⟩⟩ := st
  simp only [List.mem_cons, List.not_mem_nil, or_false] at hc
  rcases hc with rfl | rfl | rfl | rfl | rfl
  · cases T with
    | none => exact ⟨_, hz.1, fun v q => nomatch q⟩
    | some t => obtain ⟨f, q⟩ := hz; exact ⟨_, q, fun v q => nomatch q⟩
  · exact ⟨_, hTI, fun v q => nomatch q⟩
  · exact hTO
  · exact ⟨o1, e1, fun v q => by rw [d1] at q; cases q⟩
  · exact ⟨o2, e2, fun v q => by rw [d2] at q; cases q⟩
theorem ZTn.keep {z TI TO i1 i2 a b : Addr} {T : Option Addr} {i : Nat} {h h' : Heap} (st : ZTn z TI TO i1 i2 a b T i h) (k : ∀ c ∈ [z, TI, TO, i1, i2], ∀ o, h.get? c = some o → h'.get? c = some o) : ZTn z TI TO i1 i2 a b T i h' := by
  obtain ⟨hz, hTI, ⟨oo, hTO, hd⟩, h1, h2⟩ := st
  refine ⟨?_, k TI (by simp) _ hTI, ⟨oo, k TO (by simp) _ hTO, hd⟩, h1.at fun o q => k i1 (by simp) o q, h2.at fun o q => k i2 (by simp) o q⟩
  cases T with
  | none =>
    obtain ⟨q, x, y, q2⟩ := hz
    exact ⟨k z (by simp) _ q, x, y, k TO (by simp) _ q2⟩
  | some t => obtain ⟨f, q⟩ := hz; exact ⟨f, k z (by simp) _ q⟩
theorem alive {X : Cx} {pins : List (Addr × Obj)} {σ : L2.St} {H : Hp} {s : Shared} {T : Option Addr} (I : Inv X pins σ H s) (h : TOk H T) : ∀ t, T = some t → ∃ o, s.heap.get? t = some o := fun t e => by
  obtain ⟨xs, q⟩ := h t e
  obtain ⟨its, rv, ⟨o, ho, _⟩, _⟩ := I.tuple (SqT.of q)
  exact ⟨o, ho⟩
theorem lt5 (n : Nat) : n + 5 ≠ n + 4 ∧ n + 5 ≠ n + 3 ∧ n + 5 ≠ n ∧ n + 5 ≠ n + 1 ∧ n + 5 ≠ n + 2 := by omega
/-- enumerate(zip(..)) of two lists -/
def Itez (K : PySem.W.Frag) (a b : Addr) : It :=
  ⟨(Itz K a b).go, fun i H v H' => ∃ T S x y, v = .ref S ∧ H T = none ∧ S ≠ T ∧ H S = none ∧ H' = upd (upd H T (.tup [x, y])) S (.tup [.int (i : Nat), .ref T]) ∧ (∀ xs, SqL K H a xs → xs[i]? = some x) ∧ ∀ ys, SqL K H b ys → ys[i]? = some y, (Itz K a b).stop⟩
theorem turnT_zip {P : Program} {w : World} {K : PySem.W.Frag} {nm : Str} {tpos : Pos} {a b z TI TO i1 i2 : Addr} (D : ZipApart z TI TO i1 i2 a b) :
    TurnT P w K (.Name nm tpos) (Itz K a b) [z, TI, TO, i1, i2] z (ZTn z TI TO i1 i2 a b) where
  obj := fun T i h st => st.obj
  keep := fun T i h h' st k => st.keep k
  item := by
    intro X hP hw hK hc T i pins s σ H E I hf st tk hg
    subst hP hw hK
    obtain ⟨hz, hTI, hTO, h1, h2⟩ := id st
    obtain ⟨xs, ys, x, y, hqx, hqy, hx, hy⟩ := hg
    obtain ⟨its, rv, p, _⟩ := I.list hqx
    obtain ⟨its2, rv2, p2, _⟩ := I.list hqy
    obtain ⟨u, hu, ru⟩ := rv.get hx
    obtain ⟨u2, hu2, ru2⟩ := rv2.get hy
    have hTz := ez_typ hz
    have lt : ∀ c ∈ [z, TI, TO, i1, i2], c < s.heap.objs.size := fun c hcm => by
      obtain ⟨o, ho, _⟩ := st.obj c hcm
      exact Heap.lt_size ho
    unfold pyNext
    refine wpAny_bind (wpAny_attempt (wpAny_callSpecial?_slot (name := Str.ofString "__next__") hTz F.slot_zip_next (wpAny_call_entry F.slot_zip_next hTz F.entry_zip_next ?_ (F.args_zip_next_1 _))))
    refine ez_zip D hz (alive I tk) hTI h1 h2 p.isList p2.isList (x := u) (y := u2) (by simpa using hu) (by simpa using hu2) (fun g a1 a2 a3 a4 a5 a6 a7 => wpAny_pure ⟨_, rfl, ?_⟩) hTO
    obtain ⟨T', z', tt⟩ := a1
    unfold letOwnedTupleGo
    refine wpAny_pure ?_
    have new : ObjOk X.prog X.w (upd H s.heap.objs.size (.tup [x, y])) g s.heap.objs.size (.tup [x, y]) := ⟨by show 2 ≤ sizeLine; decide, [u, u2], .cons ru (.cons ru2 .nil), ⟨_, a4, rfl, _, rfl⟩⟩
    have I1 : Inv X pins σ (upd H s.heap.objs.size (.tup [x, y])) { s with heap := g } := I.turnedNew (t' := s.toks) (ch := [z, TI, TO, i1, i2]) (fun c o hb q => a6 c o (fun e => hb (by simp [e])) (fun e => hb (by simp [e])) (fun e => hb (by simp [e])) (fun e => hb (by simp [e])) q) hf (Nat.le_refl _) new
    refine ⟨.ref s.heap.objs.size, _, some T', I1, rfl, ⟨_, x, y, rfl, I.hok.fresh (Nat.le_refl _), rfl, fun l hl => by rw [I.list_inj hl hqx]; exact hx, fun l hl => by rw [I.list_inj hl hqy]; exact hy⟩, ⟨z', a6 _ _ D.TIz D.TITO D.TIi1 D.TIi2 hTI, a7, a2, a3⟩, fun t e => ?_, fun c hcm => ?_⟩
    · cases e
      rcases tt with e2 | e2
      · obtain ⟨zs, hq⟩ := tk _ e2
        refine ⟨zs, ?_⟩
        rw [upd_ne (fun e3 => by rw [e3, I.hok.fresh (Nat.le_refl _)] at hq; cases hq)]
        exact hq
      · rw [e2, upd_same]; exact ⟨_, rfl⟩
    · rw [upd_ne (Nat.ne_of_lt (lt c hcm))]
      exact (hf c hcm).1
  done := by
    intro X hP hw hK hc T i pins s σ H E I hf st tk hg
    subst hP hw hK
    obtain ⟨hz, hTI, hTO, h1, h2⟩ := st
    obtain ⟨xs, ys, hqx, hqy, hend⟩ := hg
    obtain ⟨its, rv, p, _⟩ := I.list hqx
    obtain ⟨its2, rv2, p2, _⟩ := I.list hqy
    have l1 := rv.length
    have l2 := rv2.length
    have hTz := ez_typ hz
    unfold pyNext
    refine wpAny_bind (wpAny_attempt (wpAny_callSpecial?_slot (name := Str.ofString "__next__") hTz F.slot_zip_next (wpAny_call_entry F.slot_zip_next hTz F.entry_zip_next ?_ (F.args_zip_next_1 _))))
    refine ez_end (I.ok.hd hc) D hz (alive I tk) hTI h1 h2 p.isList p2.isList (hend.elim (fun q => .inl (by simp; omega)) fun q => .inr (by simp; omega)) fun g e kp hx => ?_
    obtain ⟨o, ho, hcl⟩ := hx
    refine wpAny_bind (wpAny_isInstance (T := "StopIteration") (b := true) ⟨o, ho, hcl⟩ isSubtype_stop (wpAny_pure ⟨rfl, ?_⟩))
    exact I.turnedL (t' := s.toks) (ch := [z, TI, TO, i1, i2]) (fun c o hb q => kp c o (fun e => hb (by simp [e])) (fun e => hb (by simp [e])) (fun e => hb (by simp [e])) (fun e => hb (by simp [e])) q) hf
theorem turnT_ez {P : Program} {w : World} {K : PySem.W.Frag} {elts : List Expr} {kk : Nat} {tpos : Pos} {a b e z TI TO i1 i2 : Addr} (D : ZipApart z TI TO i1 i2 a b) (ne : e ≠ z ∧ e ≠ TO ∧ e ≠ i1 ∧ e ≠ i2 ∧ e ≠ TI) :
    TurnT P w K (.Tuple elts kk tpos) (Itez K a b) (e :: [z, TI, TO, i1, i2]) e (fun T i h => ZTn z TI TO i1 i2 a b T i h ∧ ∃ old, IsEnum h e z (i : Nat) old) where
  obj := fun T i h st c hcm => by
    obtain ⟨st, old, he⟩ := st
    rcases List.mem_cons.mp hcm with rfl | hcm
    · exact ⟨_, he, fun v q => nomatch q⟩
    · exact st.obj c hcm
  keep := fun T i h h' st k => by
    obtain ⟨st, old, he⟩ := st
    exact ⟨st.keep fun c hc => k c (List.mem_cons_of_mem _ hc), old, k e List.mem_cons_self _ he⟩
  item := by
    intro X hP hw hK hc T i pins s σ H E I hf st tk hg
    subst hP hw hK
    obtain ⟨st, old, he⟩ := st
    obtain ⟨hz, hTI, hTO, h1, h2⟩ := id st
    obtain ⟨xs, ys, x, y, hqx, hqy, hx, hy⟩ := hg
    obtain ⟨its, rv, p, _⟩ := I.list hqx
    obtain ⟨its2, rv2, p2, _⟩ := I.list hqy
    obtain ⟨u, hu, ru⟩ := rv.get hx
    obtain ⟨u2, hu2, ru2⟩ := rv2.get hy
    have le : e < s.heap.objs.size := Heap.lt_size he
    have lt : ∀ c ∈ e :: [z, TI, TO, i1, i2], c < s.heap.objs.size := fun c hcm => by
      rcases List.mem_cons.mp hcm with rfl | hcm
      · exact le
      · obtain ⟨o, ho, _⟩ := st.obj c hcm
        exact Heap.lt_size ho
    refine ez_item he D hz (alive I tk) hTI h1 h2 p.isList p2.isList (x := u) (y := u2) (by simpa using hu) (by simpa using hu2) hTO ne fun g g' tk' T' a1 a1' a2 a3 a4 a5 a6 a7 b1 b2 b3 => ⟨_, rfl, ?_⟩
    refine wpAny_letOwnedTupleGo_enum (s := { s with heap := g', toks := tk' + 1 }) b1 fun g2 e2 sb => ?_
    have new1 : ObjOk X.prog X.w (upd H s.heap.objs.size (.tup [x, y])) g s.heap.objs.size (.tup [x, y]) := ⟨by show 2 ≤ sizeLine; decide, [u, u2], .cons ru (.cons ru2 .nil), ⟨_, a2, rfl, _, rfl⟩⟩
    have I1 : Inv X pins σ (upd H s.heap.objs.size (.tup [x, y])) { s with heap := g } := I.turnedNew (t' := s.toks) (ch := e :: [z, TI, TO, i1, i2]) (fun c o hb q => a7 c o (fun e => hb (by simp [e])) (fun e => hb (by simp [e])) (fun e => hb (by simp [e])) (fun e => hb (by simp [e])) q) hf (Nat.le_refl _) new1
    have k2 : ∀ b o, b ≠ e → g.get? b = some o → g2.get? b = some o := fun b o n q => (sb.2 b n).trans (b3 b o n q)
    have t2 : g2.get? (s.heap.objs.size + 1) = some { cls := .type "tuple", data := .seq #[.int i tk', .ref s.heap.objs.size] } := (sb.2 _ (Nat.ne_of_gt (Nat.lt_succ_of_lt le))).trans b2
    have n1 : (upd H s.heap.objs.size (.tup [x, y])) (s.heap.objs.size + 1) = none := by
      rw [upd_ne (Nat.succ_ne_self _)]
      exact I.hok.fresh (Nat.le_succ _)
    have new2 : ObjOk X.prog X.w (upd (upd H s.heap.objs.size (.tup [x, y])) (s.heap.objs.size + 1) (.tup [.int (i : Nat), .ref s.heap.objs.size])) g2 (s.heap.objs.size + 1) (.tup [.int (i : Nat), .ref s.heap.objs.size]) := ⟨by show 2 ≤ sizeLine; decide, [.int i tk', .ref s.heap.objs.size], .cons ⟨_, rfl⟩ (.cons rfl .nil), ⟨_, t2, rfl, _, rfl⟩⟩
    have hf1 : ∀ c ∈ [e], FpOk X pins (upd H s.heap.objs.size (.tup [x, y])) c := fun c hcm => by
      have hce : c = e := by simpa using hcm
      subst hce
      refine ⟨?_, (hf c List.mem_cons_self).2⟩
      rw [upd_ne (Nat.ne_of_lt le)]
      exact (hf c List.mem_cons_self).1
    have I2 : Inv X pins σ (upd (upd H s.heap.objs.size (.tup [x, y])) (s.heap.objs.size + 1) (.tup [.int (i : Nat), .ref s.heap.objs.size])) { s with heap := g2, toks := tk' + 1 } := I1.turnedNew (t' := tk' + 1) (ch := [e]) (fun c o hb q => k2 c o (fun e => hb (by simp [e])) q) hf1 (by show g.objs.size ≤ _; rw [a6]; exact Nat.le_refl _) new2
    refine ⟨.ref (s.heap.objs.size + 1), _, some T', I2, rfl, ⟨_, _, x, y, rfl, I.hok.fresh (Nat.le_refl _), Nat.succ_ne_self _, I.hok.fresh (Nat.le_succ _), rfl, fun l hl => by rw [I.list_inj hl hqx]; exact hx, fun l hl => by rw [I.list_inj hl hqy]; exact hy⟩, ⟨?_, .ref s.heap.objs.size, ?_⟩, fun t e3 => ?_, fun c hcm => ?_⟩
    · have z1 : ZTn z TI TO i1 i2 a b (some T') (i + 1) g := ⟨a1, a7 _ _ D.TIz D.TITO D.TIi1 D.TIi2 hTI, a5, a3, a4⟩
      refine z1.keep fun c hcm o q => k2 c o (fun e3 => ?_) q
      subst e3
      simp only [List.mem_cons, List.not_mem_nil, or_false] at hcm
      rcases hcm with h | h | h | h | h
      · exact ne.1 h
      · exact ne.2.2.2.2 h
      · exact ne.2.1 h
      · exact ne.2.2.1 h
      · exact ne.2.2.2.1 h
    · have q : ((i + 1 : Nat) : Int) = (i : Int) + 1 := by omega
      rw [q]
      exact e2
    · cases e3
      rcases a1' with e4 | e4
      · obtain ⟨zs, hq⟩ := tk _ e4
        refine ⟨zs, ?_⟩
        have f1 : H s.heap.objs.size = none := I.hok.fresh (Nat.le_refl _)
        have f2 : H (s.heap.objs.size + 1) = none := I.hok.fresh (Nat.le_succ _)
        rw [upd_ne (fun e5 => by rw [e5, f2] at hq; cases hq), upd_ne (fun e5 => by rw [e5, f1] at hq; cases hq)]
        exact hq
      · rw [e4, upd_ne (Nat.ne_of_lt (Nat.lt_succ_self _)), upd_same]; exact ⟨_, rfl⟩
    · have hl := lt c hcm
      rw [upd_ne (Nat.ne_of_lt (Nat.lt_succ_of_lt hl)), upd_ne (Nat.ne_of_lt hl)]
      exact (hf c hcm).1
  done := by
    intro X hP hw hK hc T i pins s σ H E I hf st tk hg
    subst hP hw hK
    obtain ⟨st, old, he⟩ := st
    obtain ⟨hz, hTI, hTO, h1, h2⟩ := st
    obtain ⟨xs, ys, hqx, hqy, hend⟩ := hg
    obtain ⟨its, rv, p, _⟩ := I.list hqx
    obtain ⟨its2, rv2, p2, _⟩ := I.list hqy
    have l1 := rv.length
    have l2 := rv2.length
    refine ez_stop (I.ok.hd hc) he D hz (alive I tk) hTI h1 h2 p.isList p2.isList (hend.elim (fun q => .inl (by simp; omega)) fun q => .inr (by simp; omega)) fun g kp => ⟨rfl, ?_⟩
    exact I.turnedL (t' := s.toks) (ch := e :: [z, TI, TO, i1, i2]) (fun c o hb q => kp c o (fun e => hb (by simp [e])) (fun e => hb (by simp [e])) (fun e => hb (by simp [e])) (fun e => hb (by simp [e])) q) hf
section
variable {X : Cx} {e e2 : Expr} {ta : TA} {p p2 pos pos2 tpos : Pos}
theorem pi_zipT {nm : Str} (hg : Gl X "zip") (hm : X.mg "zip" = none) (ha : PA X [e, e2] ta) (hs : starEach [e, e2] X.env = (false, eval e X.env) :: starEach [e2] X.env := by rfl) (hpl : (backTo pos (starEach [e2] X.env)).any (·.1) = false := by rfl) :
    PIT X (.Name nm tpos) (.Call (.Name "zip" p) [e, e2] [] pos) (iZip X.K ta) := by
  refine ⟨fun pins s σ H R I h => Call_ (ld_blt I hg hm PyProof.Rows.boot_zip (PyProof.Rows.callWith_type1 (thn (ha.run pos pins s σ H _ I h) fun us s1 h1 => ?_) hs hpl))⟩
  obtain ⟨vs, H1, I1, r1, a, b, xs, ys, ex, hqx, hqy, q⟩ := h1
  subst ex
  cases r1 with
  | cons r rr =>
    cases rr with
    | cons r' rr =>
      cases rr; cases r; cases r'
      obtain ⟨its, rv, p1, _⟩ := I1.list hqx
      obtain ⟨its2, rv2, p2, _⟩ := I1.list hqy
      refine call_zip_2 p1.isList p2.isList fun h' hz hTI hTO h1 h2 hsz hk => wpAny_pyIter_zip hz ⟨_, _, _, _, H1, rfl, I1.kept (t' := s1.toks) hk, turnT_zip (PySem.W.ktu_apart s1.heap.objs.size a b p1.lt p2.lt), ⟨⟨hz, _, _, hTO⟩, hTI, ⟨_, hTO, fun v q => nomatch q⟩, h1, h2⟩, fun c hcm => ?_, q⟩
      have hle : s1.heap.objs.size ≤ c := by
        simp only [List.mem_cons, List.not_mem_nil, or_false] at hcm
        rcases hcm with z | z | z | z | z <;> rw [z] <;> first | exact Nat.le_add_right _ _ | exact Nat.le_refl _
      exact I1.fpOk hle (I1.hok.fresh hle)
theorem pi_enumZip {elts : List Expr} {kk : Nat} (hg : Gl X "zip") (hm : X.mg "zip" = none) (hg2 : Gl X "enumerate") (hm2 : X.mg "enumerate" = none) (ha : PA X [e, e2] ta) (hs : starEach [e, e2] X.env = (false, eval e X.env) :: starEach [e2] X.env := by rfl) (hpl : (backTo pos (starEach [e2] X.env)).any (·.1) = false := by rfl)
    (hs2 : starEach [.Call (.Name "zip" p) [e, e2] [] pos] X.env = (false, eval (.Call (.Name "zip" p) [e, e2] [] pos) X.env) :: starEach [] X.env := by rfl) :
    PIT X (.Tuple elts kk tpos) (.Call (.Name "enumerate" p2) [.Call (.Name "zip" p) [e, e2] [] pos] [] pos2) (fun σ H R => ta σ H fun vs H1 => ∃ a b xs ys, vs = [.ref a, .ref b] ∧ SqL X.K H1 a xs ∧ SqL X.K H1 b ys ∧ R (Itez X.K a b) H1) := by
  refine ⟨fun pins s σ H R I h => Call_ (ld_blt I hg2 hm2 boot_enumerate (PyProof.Rows.callWith_type1 (args_cons (Call_ (ld_blt I hg hm PyProof.Rows.boot_zip (PyProof.Rows.callWith_type1 (thn (ha.run pos pins s σ H _ I h) fun us s1 h1 => ?_) hs hpl))) hs2) hs2 rfl))⟩
  obtain ⟨vs, H1, I1, r1, a, b, xs, ys, ex, hqx, hqy, q⟩ := h1
  subst ex
  cases r1 with
  | cons r rr =>
    cases rr with
    | cons r' rr =>
      cases rr; cases r; cases r'
      obtain ⟨its, rv, p1, _⟩ := I1.list hqx
      obtain ⟨its2, rv2, p2, _⟩ := I1.list hqy
      refine call_zip_2 p1.isList p2.isList fun h' hz hTI hTO h1 h2 hsz hk => args_nil ?_
      refine call_enumZ (s := { s1 with heap := h' }) hz fun g he hsz2 hk2 => wpAny_pyIter_enum he ?_
      refine ⟨_, _, _, _, H1, rfl, I1.kept (t' := s1.toks) fun b o q => hk2 b o (hk b o q), turnT_ez (PySem.W.ktu_apart s1.heap.objs.size a b p1.lt p2.lt) ?_, ⟨⟨⟨hk2 _ _ hz, _, _, hk2 _ _ hTO⟩, hk2 _ _ hTI, ⟨_, hk2 _ _ hTO, fun v q => nomatch q⟩, h1.at fun o q => hk2 _ _ q, h2.at fun o q => hk2 _ _ q⟩, _, he⟩, fun c hcm => ?_, q⟩
      · show h'.objs.size ≠ _ ∧ h'.objs.size ≠ _ ∧ h'.objs.size ≠ _ ∧ h'.objs.size ≠ _ ∧ h'.objs.size ≠ _
        rw [hsz]
        exact lt5 s1.heap.objs.size
      · have hle : s1.heap.objs.size ≤ c := by
          rcases List.mem_cons.mp hcm with z | hcm
          · rw [z]; show _ ≤ h'.objs.size; rw [hsz]; exact Nat.le_add_right _ _
          · simp only [List.mem_cons, List.not_mem_nil, or_false] at hcm
            rcases hcm with z | z | z | z | z <;> rw [z] <;> first | exact Nat.le_add_right _ _ | exact Nat.le_refl _
        exact I1.fpOk hle (I1.hok.fresh hle)
end
end Jr
namespace Jr
open PySem PySem.Spec PyProof.Rows L2
/-! ### what is wrong with a row of pieces -/
def idleAt (rs : Rws) (ys : List Str) : Option Nat := ys.findIdx? fun p => !decide (sweep rs p = [p])
def fitP (rs : Rws) (q : Str × Str) : Bool := decide (sweep rs (q.1 ++ q.2) = [q.1, q.2])
def badAt (rs : Rws) (ys : List Str) : Option Nat := (ys.zip (ys.drop 1)).findIdx? fun q => !fitP rs q
inductive Amiss (rs : Rws) (ys : List Str) : Option (Str × Nat) → Prop
  | alone {k : Nat} : idleAt rs ys = some k → Amiss rs ys (some ("alone", k))
  | border {k : Nat} : idleAt rs ys = none → badAt rs ys = some k → Amiss rs ys (some ("border", k))
  | none : idleAt rs ys = none → badAt rs ys = none → Amiss rs ys none
def amissV (H : Hp) (o : Option (Str × Nat)) (v : V) : Prop := match o with
  | none => v = .non
  | some (s, k) => ∃ t, v = .ref t ∧ H t = some (.tup [.str s, .int (k : Nat)])
/-- a row that nothing is wrong with is the cutting of its text -/
theorem sweep_join : ∀ {z : Str} {rs : Rws} (_ : TabOk z rs) (ys : List Str), (∀ p ∈ ys, sweep rs p = [p]) → (∀ q ∈ ys.zip (ys.drop 1), sweep rs (q.1 ++ q.2) = [q.1, q.2]) → sweep rs (mkS (flat ys)) = ys
  | _, rs, _, [], _, _ => sweep_zero (by rw [mkS_len]; rfl)
  | _, rs, T, [p], h, _ => by
    have e : mkS (flat [p]) = p := str_ext (by rw [mkS_cps, flat_cons]; simp [flat])
    rw [e]
    exact h p List.mem_cons_self
  | _, rs, T, p :: q :: ys, h, f => by
    have ih := sweep_join T (q :: ys) (fun x hx => h x (List.mem_cons_of_mem _ hx)) (fun x hx => f x (List.mem_cons_of_mem _ hx))
    have e : mkS (flat (p :: q :: ys)) = p ++ mkS (flat (q :: ys)) := str_ext (by rw [app_cps, mkS_cps, mkS_cps, flat_cons])
    have a := h p List.mem_cons_self
    rw [e, (split_near T (l := p) (r := q) (by rw [a]; rfl) (by rw [ih]; rfl)).mpr (f (p, q) List.mem_cons_self), a, ih]
    rfl
theorem zip_split {α : Type} : ∀ (ys : List α) (q : α × α), q ∈ ys.zip (ys.drop 1) → ∃ A B, ys = A ++ q.1 :: q.2 :: B
  | [], q, h => by cases h
  | [a], q, h => by simp at h
  | a :: b :: ys, q, h => by
    rcases List.mem_cons.mp (show q ∈ (a, b) :: (b :: ys).zip ((b :: ys).drop 1) from h) with e | h
    · subst e
      exact ⟨[], ys, rfl⟩
    · obtain ⟨A, B, e⟩ := zip_split (b :: ys) q h
      exact ⟨a :: A, B, by rw [e]; rfl⟩
theorem cut_fits {z : Str} {rs : Rws} (T : TabOk z rs) {t : Str} : (∀ p ∈ sweep rs t, sweep rs p = [p]) ∧ ∀ q ∈ (sweep rs t).zip ((sweep rs t).drop 1), sweep rs (q.1 ++ q.2) = [q.1, q.2] := by
  refine ⟨fun p hp => way_alone hp, fun q hq => ?_⟩
  obtain ⟨A, B, e⟩ := zip_split _ q hq
  have e' : sweep rs t = (A ++ [q.1]) ++ (q.2 :: B) := by rw [e]; simp
  obtain ⟨e1, e2⟩ := sweep_split e'
  have e3 : sweep rs (preS t (flat (A ++ [q.1])).length ++ sufS t (flat (A ++ [q.1])).length) = sweep rs (preS t (flat (A ++ [q.1])).length) ++ sweep rs (sufS t (flat (A ++ [q.1])).length) := by rw [pre_suf, e1, e2, e']
  exact (split_near T (l := q.1) (r := q.2) (by rw [e1]; exact List.getLast?_concat) (by rw [e2]; rfl)).mp e3
theorem idle_none {rs : Rws} {ys : List Str} : idleAt rs ys = none ↔ ∀ p ∈ ys, sweep rs p = [p] := by
  unfold idleAt
  rw [List.findIdx?_eq_none_iff]
  simp
theorem bad_none {rs : Rws} {ys : List Str} : badAt rs ys = none ↔ ∀ q ∈ ys.zip (ys.drop 1), sweep rs (q.1 ++ q.2) = [q.1, q.2] := by
  unfold badAt fitP
  rw [List.findIdx?_eq_none_iff]
  simp
/-- nothing is wrong just with the cutting -/
theorem amiss_none {z : Str} {rs : Rws} (T : TabOk z rs) {ys : List Str} : Amiss rs ys none ↔ sweep rs (mkS (flat ys)) = ys := by
  constructor
  · intro h
    cases h with
    | none h1 h2 => exact sweep_join T ys (idle_none.mp h1) (bad_none.mp h2)
  · intro h
    obtain ⟨a, b⟩ := cut_fits T (t := mkS (flat ys))
    rw [h] at a b
    exact .none (idle_none.mpr a) (bad_none.mpr b)
section
variable {K : PySem.W.Frag} {a b : Addr} {xs ys : List V} {g : TG} {tb : TS} {D : Ends} {σ : L2.St} {H : Hp}
theorem for_ez (Pv : Nat → L2.St → Hp → Prop) (h0 : Pv 0 σ H) (hl : ∀ i σ H, Pv i σ H → SqL K H a xs ∧ SqL K H b ys)
    (hs : ∀ i x y T S σ H H', xs[i]? = some x → ys[i]? = some y → Same H H' → H' T = some (.tup [x, y]) → H' S = some (.tup [.int (i : Nat), .ref T]) → Pv i σ H → g (.ref S) σ H' fun σ2 H2 => tb { D with nx := fun σ' H3 => TupKeep H' H3 ∧ Pv (i + 1) σ' H3, ct := fun σ' H3 => TupKeep H' H3 ∧ Pv (i + 1) σ' H3, bk := D.nx } σ2 H2)
    (hd : ∀ i σ H, (xs.length ≤ i ∨ ys.length ≤ i) → Pv i σ H → D.nx σ H) :
    ∃ W : Nat → Nat → L2.St → Hp → Prop, (∃ m, W 0 m σ H) ∧ ∀ i m σ H, W i m σ H → ((Itez K a b).stop i H ∧ D.nx σ H) ∨ ((Itez K a b).go i H ∧ ∃ N : L2.St → Hp → Prop, (∀ σ' H', N σ' H' → ∃ m', m' < m ∧ W (i + 1) m' σ' H') ∧ ∀ x H', (Itez K a b).yld i H x H' → g x σ H' fun σ2 H2 =>
      tb { D with nx := fun σ' H3 => TupKeep H' H3 ∧ N σ' H3, ct := fun σ' H3 => TupKeep H' H3 ∧ N σ' H3, bk := D.nx } σ2 H2) := by
  refine ⟨fun i m σ H => m = xs.length - i ∧ Pv i σ H, ⟨_, rfl, h0⟩, ?_⟩
  rintro i m σ H ⟨rfl, p⟩
  obtain ⟨qx, qy⟩ := hl i σ H p
  by_cases c : i < xs.length ∧ i < ys.length
  · refine .inr ⟨⟨xs, ys, xs[i], ys[i], qx, qy, List.getElem?_eq_getElem c.1, List.getElem?_eq_getElem c.2⟩, Pv (i + 1), fun σ' H' p' => ⟨xs.length - (i + 1), by omega, rfl, p'⟩, fun v H' y => ?_⟩
    obtain ⟨T, S, x, y, rfl, hT, ne, hS, rfl, hx, hy⟩ := y
    have hS' : (upd H T (.tup [x, y])) S = none := by rw [upd_ne ne]; exact hS
    refine hs i x y T S σ H _ (hx xs qx) (hy ys qy) ((Same.new hT).trans (Same.new hS')) ?_ upd_same p
    rw [upd_ne (Ne.symm ne), upd_same]
  · refine .inl ⟨⟨xs, ys, qx, qy, by omega⟩, hd i σ H (by omega) p⟩
theorem for_zt (Pv : Nat → L2.St → Hp → Prop) (h0 : Pv 0 σ H) (hl : ∀ i σ H, Pv i σ H → SqL K H a xs ∧ SqL K H b ys)
    (hs : ∀ i x y T σ H H', xs[i]? = some x → ys[i]? = some y → H T = none → Same H H' → H' T = some (.tup [x, y]) → Pv i σ H → g (.ref T) σ H' fun σ2 H2 => tb { D with nx := fun σ' H3 => TupKeep H' H3 ∧ Pv (i + 1) σ' H3, ct := fun σ' H3 => TupKeep H' H3 ∧ Pv (i + 1) σ' H3, bk := D.nx } σ2 H2)
    (hd : ∀ i σ H, (xs.length ≤ i ∨ ys.length ≤ i) → Pv i σ H → D.nx σ H) :
    ∃ W : Nat → Nat → L2.St → Hp → Prop, (∃ m, W 0 m σ H) ∧ ∀ i m σ H, W i m σ H → ((Itz K a b).stop i H ∧ D.nx σ H) ∨ ((Itz K a b).go i H ∧ ∃ N : L2.St → Hp → Prop, (∀ σ' H', N σ' H' → ∃ m', m' < m ∧ W (i + 1) m' σ' H') ∧ ∀ x H', (Itz K a b).yld i H x H' → g x σ H' fun σ2 H2 =>
      tb { D with nx := fun σ' H3 => TupKeep H' H3 ∧ N σ' H3, ct := fun σ' H3 => TupKeep H' H3 ∧ N σ' H3, bk := D.nx } σ2 H2) := by
  refine ⟨fun i m σ H => m = xs.length - i ∧ Pv i σ H, ⟨_, rfl, h0⟩, ?_⟩
  rintro i m σ H ⟨rfl, p⟩
  obtain ⟨qx, qy⟩ := hl i σ H p
  by_cases c : i < xs.length ∧ i < ys.length
  · refine .inr ⟨⟨xs, ys, xs[i], ys[i], qx, qy, List.getElem?_eq_getElem c.1, List.getElem?_eq_getElem c.2⟩, Pv (i + 1), fun σ' H' p' => ⟨xs.length - (i + 1), by omega, rfl, p'⟩, fun v H' y => ?_⟩
    obtain ⟨T, x, y, rfl, hT, rfl, hx, hy⟩ := y
    exact hs i x y T σ H _ (hx xs qx) (hy ys qy) hT (Same.new hT) upd_same p
  · refine .inl ⟨⟨xs, ys, qx, qy, by omega⟩, hd i σ H (by omega) p⟩
end
end Jr
namespace Jr
open PySem PySem.Spec PyProof.Rows L2
/-! ### borders of the cuttings of a text's beginnings -/
def Bord (rs : Rws) (t : Str) (n m : Nat) : Prop := m ≤ n ∧ ∃ B, sweep rs (preS t n) = sweep rs (preS t m) ++ B
theorem Bord.refl (rs : Rws) (t : Str) (n : Nat) : Bord rs t n n := ⟨Nat.le_refl _, [], by simp⟩
theorem Bord.zero (rs : Rws) (t : Str) (n : Nat) : Bord rs t n 0 := ⟨Nat.zero_le _, _, by rw [sweep_zero (t := preS t 0) (by rw [preS_len t (Nat.zero_le _)])]; rfl⟩
theorem Bord.trans {rs : Rws} {t : Str} {n m k : Nat} (h : Bord rs t n m) (g : Bord rs t m k) : Bord rs t n k := by
  obtain ⟨a, B, e⟩ := h
  obtain ⟨b, C, f⟩ := g
  exact ⟨Nat.le_trans b a, C ++ B, by rw [e, f, List.append_assoc]⟩
theorem flat_nil {z : Str} {rs : Rws} (T : TabOk z rs) {L : List Str} (hL : ∀ p ∈ L, p ∈ pcs z rs) (h : (flat L).length = 0) : L = [] := by
  cases L with
  | nil => rfl
  | cons p L =>
    rw [flat_clen] at h
    have := (T.plen (hL p List.mem_cons_self)).1
    omega
theorem Bord.len {rs : Rws} {t : Str} {n m : Nat} {B : List Str} (hn : n ≤ t.length) (hm : m ≤ n) (e : sweep rs (preS t n) = sweep rs (preS t m) ++ B) : n = m + (flat B).length := by
  have := sweep_len rs (preS t n)
  rw [e, flat_len_app, sweep_len, preS_len t hn, preS_len t (by omega)] at this
  omega
/-- of two borders the lesser one is one of what is ahead of the other -/
theorem Bord.chain {z : Str} {rs : Rws} (T : TabOk z rs) {t : Str} (tx : TextOf z t) {n m k : Nat} (hn : n ≤ t.length) (h : Bord rs t n m) (g : Bord rs t n k) (hk : k ≤ m) : Bord rs t m k := by
  obtain ⟨a, B, e⟩ := h
  obtain ⟨b, C, f⟩ := g
  have ef := e.symm.trans f
  rcases List.append_eq_append_iff.mp ef with ⟨A', e1, e2⟩ | ⟨C', e1, e2⟩
  · have l1 := Bord.len hn a e
    have l2 := Bord.len hn b f
    rw [e2, flat_len_app] at l1
    have hA : A' = [] := flat_nil T (fun p hp => sweep_pc (text_pre tx n) (by rw [e, e2]; exact List.mem_append_right _ (List.mem_append_left _ hp))) (by omega)
    rw [hA, List.append_nil] at e1
    exact ⟨hk, [], by rw [e1, List.append_nil]⟩
  · exact ⟨hk, C', e1⟩
theorem Bord.back {z : Str} {rs : Rws} (T : TabOk z rs) {t : Str} (tx : TextOf z t) {n k : Nat} {p : Str} (hn : n ≤ t.length) (e : lastO rs t n = some p) (h : Bord rs t n k) (hk : k < n) : Bord rs t (n - p.length) k := by
  have b := back_step hn e
  obtain ⟨_, B, f⟩ := id h
  have l := Bord.len hn h.1 f
  have : B ≠ [] := fun q => by rw [q] at l; simp [flat] at l; omega
  obtain ⟨B2, y, rfl⟩ : ∃ B2 y, B = B2 ++ [y] := ⟨B.dropLast, B.getLast this, (List.dropLast_concat_getLast this).symm⟩
  rw [b, ← List.append_assoc] at f
  obtain ⟨e1, _⟩ := List.append_inj' f rfl
  refine ⟨?_, B2, e1⟩
  have pl := (lastO_mid hn e).2
  have l2 := sweep_len rs (preS t (n - p.length))
  rw [e1, flat_len_app, sweep_len, preS_len t (by omega), preS_len t (by omega)] at l2
  omega
theorem Bord.last {rs : Rws} {t : Str} {n : Nat} {p : Str} (hn : n ≤ t.length) (e : lastO rs t n = some p) : Bord rs t n (n - p.length) := ⟨by omega, [p], back_step hn e⟩
/-- where two chains of borders meet -/
structure Meets (rs : Rws) (t : Str) (a b m : Nat) : Prop where
  one : Bord rs t a m
  two : Bord rs t b m
  top : ∀ k, Bord rs t a k → Bord rs t b k → Bord rs t m k
/-! ### ways on: pieces that may stand over the end -/
structure Way (z : Str) (rs : Rws) (t : Str) (w : Nat × Str) : Prop where
  lt : w.1 < t.length
  al : w.2 ∈ pcs z rs ∧ sweep rs w.2 = [w.2]
  pre : ∃ d, w.2 = sufS t w.1 ++ d ∧ 1 ≤ d.length
  fit : w.1 = 0 ∨ ∃ l, lastO rs t w.1 = some l ∧ sweep rs (l ++ w.2) = [l, w.2]
/-- the last place up to which all is sure -/
structure Sure (z : Str) (rs : Rws) (t : Str) (s : Nat) : Prop where
  own : Bord rs t t.length s
  way : ∀ w, Way z rs t w → Bord rs t w.1 s
  top : ∀ k, Bord rs t t.length k → (∀ w, Way z rs t w → Bord rs t w.1 k) → Bord rs t s k
theorem split_at (n : Nat) : ∀ L : List Str, ∃ A C, L = A ++ C ∧ (flat A).length ≤ n ∧ ∀ p C', C = p :: C' → n < (flat A).length + p.length
  | [] => ⟨[], [], rfl, Nat.zero_le _, fun p C' e => by cases e⟩
  | x :: L => by
    by_cases c : x.length ≤ n
    · obtain ⟨A, C, e, h1, h2⟩ := split_at (n - x.length) L
      refine ⟨x :: A, C, by rw [e]; rfl, by rw [flat_clen]; omega, fun p C' q => ?_⟩
      have := h2 p C' q
      rw [flat_clen]; omega
    · exact ⟨[], x :: L, rfl, Nat.zero_le _, fun p C' q => by
        have : x = p := (List.cons.inj q).1
        subst this
        show n < 0 + x.length
        omega⟩
theorem pre_of_pre {u t : Str} {n : Nat} (h : preS u t.length = t) (hn : n ≤ t.length) : preS u n = preS t n := str_ext (by
  rw [← h, preS_cps, preS_cps, preS_cps, List.take_take, Nat.min_eq_left]
  exact hn)
theorem way_of {z : Str} {rs : Rws} (T : TabOk z rs) {u t q : Str} {A C : List Str} (tu : TextOf z u) (h : preS u t.length = t) (e : sweep rs u = A ++ q :: C) (h1 : (flat A).length < t.length) (h2 : t.length < (flat A).length + q.length) : Way z rs t ((flat A).length, q) := by
  have hq : q ∈ sweep rs u := by rw [e]; exact List.mem_append_right _ List.mem_cons_self
  obtain ⟨e1, e2⟩ := sweep_split e
  obtain ⟨f1, f2, f3⟩ := sweep_first e2
  have lu := sweep_len rs u
  rw [e, flat_len_app, flat_clen] at lu
  refine ⟨h1, ⟨sweep_pc tu hq, f2⟩, ⟨mkS (q.cps.toList.drop (t.length - (flat A).length)), ?_, ?_⟩, ?_⟩
  · refine str_ext ?_
    rw [app_cps, mkS_cps, sufS_cps]
    have g : t.cps.toList.drop (flat A).length = q.cps.toList.take (t.length - (flat A).length) := by
      rw [← h, ← f1, preS_cps, preS_cps, sufS_cps, List.take_take, Nat.min_eq_left (by rw [h]; omega), List.drop_take, h]
    rw [g, List.take_append_drop]
  · rw [mkS_len, List.length_drop, len_cps]; omega
  · by_cases c : (flat A).length = 0
    · exact .inl c
    · right
      have ep := pre_of_pre h (Nat.le_of_lt h1)
      rw [ep] at e1
      obtain ⟨l, hl⟩ := lastO_some (rs := rs) (t := t) (n := (flat A).length) (by omega) (Nat.le_of_lt h1)
      refine ⟨l, hl, ?_⟩
      have hl' : A.getLast? = some l := by rw [← e1]; exact hl
      have hz : (l, q) ∈ (sweep rs u).zip ((sweep rs u).drop 1) := by
        obtain ⟨A2, rfl⟩ := List.getLast?_eq_some_iff.mp hl'
        rw [e]
        have : ∀ A2 : List Str, (l, q) ∈ ((A2 ++ [l]) ++ q :: C).zip (((A2 ++ [l]) ++ q :: C).drop 1) := fun A2 => by
          induction A2 with
          | nil => exact List.mem_cons_self
          | cons a A2 ih =>
            cases A2 with
            | nil => exact List.mem_cons_of_mem _ ih
            | cons b A3 => exact List.mem_cons_of_mem _ ih
        exact this A2
      exact (cut_fits T (t := u)).2 (l, q) hz
/-- what is sure stays, whatever comes -/
theorem Sure.stays {z : Str} {rs : Rws} (T : TabOk z rs) {u t : Str} {s : Nat} (S : Sure z rs t s) (tu : TextOf z u) (h : preS u t.length = t) (hl : t.length ≤ u.length) : ∃ B, sweep rs u = sweep rs (preS t s) ++ B := by
  obtain ⟨A, C, e, h1, h2⟩ := split_at t.length (sweep rs u)
  have e0 := (sweep_split e).1
  rw [pre_of_pre h h1] at e0
  have lu := sweep_len rs u
  rw [e, flat_len_app] at lu
  by_cases c : (flat A).length = t.length
  · rw [c] at e0
    obtain ⟨_, B, f⟩ := S.own
    exact ⟨B ++ C, by rw [e, ← e0, f, List.append_assoc]⟩
  · cases C with
    | nil =>
      have : (flat ([] : List Str)).length = 0 := rfl
      omega
    | cons q C =>
      have w := way_of T tu h e (by omega) (h2 q C rfl)
      obtain ⟨_, B, f⟩ := S.way _ w
      have f' : sweep rs (preS t (flat A).length) = sweep rs (preS t s) ++ B := f
      exact ⟨B ++ q :: C, by rw [e, ← e0, f', List.append_assoc]⟩
theorem Way.cut {z : Str} {rs : Rws} (T : TabOk z rs) {t : Str} {w : Nat × Str} (W : Way z rs t w) : sweep rs (preS t w.1 ++ w.2) = sweep rs (preS t w.1) ++ [w.2] := by
  rcases W.fit with h | ⟨l, hl, h⟩
  · have e : preS t w.1 ++ w.2 = w.2 := str_ext (by rw [app_cps, preS_cps, h]; rfl)
    rw [e, sweep_zero (t := preS t w.1) (by rw [h, preS_len t (Nat.zero_le _)]), W.al.2]; rfl
  · rw [(split_near T (l := l) (r := w.2) hl (by rw [W.al.2]; rfl)).mpr h, W.al.2]
theorem Way.ext {z : Str} {rs : Rws} {t : Str} {w : Nat × Str} (W : Way z rs t w) : ∃ d, preS t w.1 ++ w.2 = t ++ d ∧ 1 ≤ d.length := by
  obtain ⟨d, e, h⟩ := W.pre
  exact ⟨d, by rw [e, ← app_assoc, pre_suf], h⟩
theorem pre_app (t d : Str) : preS (t ++ d) t.length = t := str_ext (by rw [preS_cps, app_cps, ← len_cps t]; simp)
theorem pc_text0 {z : Str} {rs : Rws} (T : TabOk z rs) {p : Str} (h : p ∈ pcs z rs) : TextOf z p := by
  have key : ∀ n, n ≤ rs.length → ∀ p ∈ pcs z (rs.take n), TextOf z p := fun n => by
    induction n with
    | zero =>
      intro _ p hp
      have hp2 : p ∈ sgs z ++ [] := hp
      rw [List.append_nil] at hp2
      obtain ⟨c, hc, rfl⟩ := List.mem_map.mp hp2
      intro d hd
      have : d = c := by simpa [sgn] using hd
      rw [this]; exact hc
    | succ n ih =>
      intro hn p hp
      have hx : rs[n]? = some rs[n] := List.getElem?_eq_getElem (by omega)
      rw [List.take_add_one, hx] at hp
      have hp2 : p ∈ pcs z (rs.take n ++ [rs[n]]) := hp
      rw [pcs_snoc] at hp2
      rcases List.mem_append.mp hp2 with q | q
      · exact ih (by omega) p q
      · rw [List.mem_singleton.mp q]
        have o := T.rows n _ hx
        exact text_app (ih (by omega) _ o.lm) (ih (by omega) _ o.rm)
  have := key rs.length (Nat.le_refl _) p
  rw [List.take_length] at this
  exact this h
/-- the sure place rises -/
theorem Sure.rises {z : Str} {rs : Rws} (T : TabOk z rs) {t d : Str} {s s' : Nat} (tx : TextOf z (t ++ d)) (S : Sure z rs t s) (S' : Sure z rs (t ++ d) s') : Bord rs (t ++ d) s' s := by
  have sl : s ≤ t.length := S.own.1
  have ep : preS (t ++ d) s = preS t s := pre_of_pre (pre_app t d) sl
  have la := app_len t d
  refine S'.top s ⟨by omega, ?_⟩ fun w W => ?_
  · obtain ⟨B, e⟩ := S.stays T tx (pre_app t d) (by omega)
    exact ⟨B, by rw [preS_all _ (Nat.le_refl _), ep]; exact e⟩
  · obtain ⟨d2, e2, h2⟩ := W.ext
    have c := W.cut T
    have tu : TextOf z ((t ++ d) ++ d2) := by rw [← e2]; exact text_app (text_pre tx _) (pc_text0 T W.al.1)
    have le := app_len (t ++ d) d2
    rw [app_assoc] at e2 tu le
    obtain ⟨B, e⟩ := S.stays T tu (pre_app t (d ++ d2)) (by omega)
    rw [← e2, c] at e
    have l1 := congrArg (fun l => (flat l).length) e
    simp only [flat_len_app, flat_one, sweep_len] at l1
    have le2 := congrArg Str.length e2
    rw [app_len] at le2
    have hw := W.lt
    rw [preS_len t sl] at l1
    rw [preS_len (t ++ d) (Nat.le_of_lt hw)] at l1 le2
    have nb : B ≠ [] := fun q => by rw [q] at l1; simp [flat] at l1; omega
    obtain ⟨B2, y, rfl⟩ : ∃ B2 y, B = B2 ++ [y] := ⟨B.dropLast, B.getLast nb, (List.dropLast_concat_getLast nb).symm⟩
    rw [← List.append_assoc] at e
    obtain ⟨e1, ey⟩ := List.append_inj' e rfl
    have ey2 : w.2 = y := by simpa using ey
    subst ey2
    rw [flat_len_app, flat_one] at l1
    refine ⟨by omega, B2, ?_⟩
    rw [ep]; exact e1
theorem Sure.empty (z : Str) (rs : Rws) {t : Str} (h : t.length = 0) : Sure z rs t 0 := by
  refine ⟨Bord.zero rs t _, fun w W => Bord.zero rs t _, fun k hk _ => ?_⟩
  have : k = 0 := by have := hk.1; omega
  rw [this]; exact Bord.refl rs t 0
end Jr
namespace Jr
open PySem PySem.Spec PyProof.Rows L2
/-- a patch told anew: its lists are new ones -/
def PatchN (H H' : Hp) (t : Addr) (p : Patch) : Prop := ∃ a b : Addr, H t = none ∧ H a = none ∧ H b = none ∧ a ≠ b ∧ H' t = some (.tup [.int ((p.first : Nat) : Int), .ref a, .ref b]) ∧ H' a = some (.lst (p.out.map V.str)) ∧ H' b = some (.lst (p.into.map V.str))
theorem PatchN.at_ {H H' : Hp} {t : Addr} {p : Patch} (h : PatchN H H' t p) : PatchAt H' t p := by
  obtain ⟨a, b, _, _, _, _, h1, h2, h3⟩ := h
  exact ⟨a, b, h1, h2, h3⟩
theorem PatchN.before {H H0 H' : Hp} {t : Addr} {p : Patch} (h : PatchN H H' t p) (s : Same H0 H) : PatchN H0 H' t p := by
  obtain ⟨a, b, h0, h1, h2, h3, h4⟩ := h
  exact ⟨a, b, s.free h0, s.free h1, s.free h2, h3, h4⟩
theorem PatchN.after {H H' H'' : Hp} {t : Addr} {p : Patch} (h : PatchN H H' t p) (s : Same H' H'') : PatchN H H'' t p := by
  obtain ⟨a, b, h0, h1, h2, h3, h4, h5, h6⟩ := h
  exact ⟨a, b, h0, h1, h2, h3, s _ _ h4, s _ _ h5, s _ _ h6⟩
/-- a text, changed -/
def chgT (t : Str) (pl gn : Nat) (put : Str) : Str := preS t pl ++ put ++ sufS t (pl + gn)
theorem chgT_text {z t put : Str} (tx : TextOf z t) (hp : TextOf z put) (pl gn : Nat) : TextOf z (chgT t pl gn put) := text_app (text_app (text_pre tx pl) hp) (text_suf tx _)
theorem chgT_len (t put : Str) {pl gn : Nat} (h1 : pl ≤ t.length) (h2 : gn ≤ t.length - pl) : (chgT t pl gn put).length = t.length - gn + put.length := by
  unfold chgT
  rw [app_len, app_len, preS_len t h1, sufS_len]
  omega
section
variable {P : Program} {w : World} {K : PySem.W.Frag} {mg : Str → Option Value} {base : Heap}
def spChgT : Sp := fun vs H Q _ => ∃ (t put : Str) (pl gn : Nat), vs = [.str t, .int (pl : Nat), .int (gn : Nat), .str put] ∧ pl ≤ t.length ∧ gn ≤ t.length - pl ∧ t.length ≤ 10000 ∧ put.length ≤ 10000 ∧ Q (.str (chgT t pl gn put)) H
theorem cal_changed_text (T : Tx K mg) : Cal P w K mg base CX0 1 "changed_text" spChgT := by
  obtain ⟨fd, F⟩ := T.d_changed_text
  refine ⟨_, fd, P_changed_text, F.ok sc_changed_text (fun vs H Q E h => ?_) (fun cdv A outer s H vs Q E hr h => ?_), T.g_changed_text, F.kp, F.bindsN (ps := P_changed_text) fun _ _ _ _ _ _ us hl => match us, hl with | [_, _, _, _], _ => rfl⟩
  · obtain ⟨t, put, pl, gn, rfl, _⟩ := h
    rfl
  · obtain ⟨t, put, pl, gn, rfl, h1, h2, h3, h4, k⟩ := h
    refine ⟨_, (PSs.nox (pss_one (ps_ret (pe_op op_add_str (pe_op op_add_str (pe_slice sl_str (pv 0) po_none (po_some (pv 1))) (pv 3)) (pe_slice sl_str (pv 0) (po_some (pe_op op_add (pv 1) (pv 2))) po_none))))), ?_⟩
    have e2 : ((pl : Nat) : Int) + ((gn : Nat) : Int) = ((pl + gn : Nat) : Int) := by omega
    refine ⟨_, rfl, _, rfl, _, rfl, t, rfl, sz (by omega), _, rfl, _, _, rfl, rfl, ?_, ?_⟩
    · rw [cutS_pre, preS_len t h1]; exact sz (by omega)
    refine ⟨_, rfl, _, rfl, _, rfl, _, _, rfl, rfl, _, rfl, t, rfl, sz (by omega), _, _, rfl, rfl, ?_, ?_⟩
    · rw [e2, cutS_suf, cutS_pre, app_len, preS_len t h1, sufS_len]; exact sz (by omega)
    rw [e2, cutS_suf, cutS_pre]
    exact k
def spCkChg (K : PySem.W.Frag) : Sp := fun vs H Q _ => ∃ (x : Addr) (z : Str) (rs : Rws) (t put : Str) (pl gn : Nat), vs = [.ref x, .str t, .int (pl : Nat), .int (gn : Nat), .str put] ∧ TabAt (TC K) H x z rs ∧ pl ≤ t.length ∧ gn ≤ t.length - pl ∧ t.length ≤ 10000 ∧ put.length ≤ 10000 ∧ TextOf z put ∧ ∀ H', Same H H' → Q .non H'
theorem cal_check_change (T : Tx K mg) : Cal P w K mg base CX0 4 "check_change" (spCkChg K) := by
  have C_check_place := cal_check_place (P := P) (w := w) (base := base) T
  have C_check_text := cal_check_text (P := P) (w := w) (base := base) T
  obtain ⟨fd, F⟩ := T.d_check_change
  refine ⟨_, fd, P_check_change, F.ok sc_check_change (fun vs H Q E h => ?_) (fun cdv A outer s H vs Q E hr h => ?_), T.g_check_change, F.kp, F.bindsN (ps := P_check_change) fun _ _ _ _ _ _ us hl => match us, hl with | [_, _, _, _, _], _ => rfl⟩
  · obtain ⟨x, z, rs, t, put, pl, gn, rfl, _⟩ := h
    rfl
  · obtain ⟨x, z, rs, t, put, pl, gn, rfl, ta, h1, h2, h3, h4, tp, k⟩ := h
    refine ⟨_, (PSs.nox (pss_cons (ps_expr (pe_cal C_check_place (by first | exact hr | exact hr.mono (by decide)) (by rfl) (pa_cons (pv 2) (pa_cons (pe_callB (id := "len") call_len_str (by rfl) T.n_len (by decide +kernel) (pa_cons (pv 1) pa_nil)) pa_nil))))
      (pss_cons (ps_expr (pe_cal C_check_place (by first | exact hr | exact hr.mono (by decide)) (by rfl) (pa_cons (pv 3) (pa_cons (pe_op op_sub (pe_callB (id := "len") call_len_str (by rfl) T.n_len (by decide +kernel) (pa_cons (pv 1) pa_nil)) (pv 2)) pa_nil))))
      (pss_one (ps_expr (pe_cal C_check_text (by first | exact hr | exact hr.mono (by decide)) (by rfl) (pa_cons (pv 0) (pa_cons (pv 4) pa_nil)))))))), ?_⟩
    refine ⟨_, rfl, _, rfl, t, rfl, sz (by omega), _, _, rfl, by omega, by omega, ?_⟩
    refine ⟨_, rfl, _, rfl, t, rfl, sz (by omega), _, rfl, _, _, rfl, rfl, _, _, rfl, by omega, by omega, ?_⟩
    exact ⟨_, rfl, _, rfl, x, z, rs, put, rfl, ta, tp, fun H1 s1 => k _ s1⟩
def spSame0 (K : PySem.W.Frag) : Sp := fun vs H Q _ => ∃ (a b : Addr) (xs ys : List Str) (m : Int), vs = [.ref a, .ref b, .int m] ∧ SqL K H a (xs.map V.str) ∧ SqL K H b (ys.map V.str) ∧ 0 ≤ m ∧ (∀ x ∈ xs, x.length ≤ 1000) ∧ ∀ H', Same H H' → Q (.int ((sameN xs ys m : Nat) : Int)) H'
theorem cal_same_ahead (T : Tx K mg) : Cal P w K mg base CX0 1 "same_ahead" (spSame0 K) := by
  obtain ⟨fd, F⟩ := T.d_same_ahead
  refine ⟨_, fd, P_same_ahead, F.ok sc_same_ahead (fun vs H Q E h => ?_) (fun cdv A outer s H vs Q E hr h => ?_), T.g_same_ahead, F.kp, F.bindsN (ps := P_same_ahead) fun _ _ _ _ _ _ us hl => match us, hl with | [_, _, _], _ => rfl⟩
  · obtain ⟨a, b, xs, ys, m, rfl, _⟩ := h
    rfl
  · obtain ⟨a, b, xs, ys, m, rfl, hA, hB, hm, xl, k⟩ := h
    refine ⟨_, (PSs.nox (pss_cons (ps_set (i := 3) sc_same_ahead.nd rfl (Or.inl rfl) pe_int)
      (pss_cons (ps_for PassesOwn.never rfl (pi_zip (by rfl) T.n_zip (pa_cons (pv 0) (pa_cons (pv 1) pa_nil))) (pg_tup rfl (pgs_cons (pg_name (i := 4) sc_same_ahead.nd rfl (Or.inl rfl)) (pgs_cons (pg_name (i := 5) sc_same_ahead.nd rfl (Or.inl rfl)) pgs_nil))) (pss_cons (ps_aug (i := 2) sc_same_ahead.nd rfl (Or.inl rfl) (pe_callB (id := "len") call_len_str (by rfl) T.n_len (by decide +kernel) (pa_cons (pv 4) pa_nil)) ip_sub)
      (pss_cons (ps_if (PW.pt (pw_or (pt_cmpR op_ne (pv 4) (pv 5) (nomark _)) (pw_or1 (pt_cmpR op_lt (pv 2) pe_int (nomark _))))) (pss_one (ps_ret (pv 3))) pss_nil)
      (pss_one (ps_aug (i := 3) sc_same_ahead.nd rfl (Or.inl rfl) pe_int ip_add)))))
      (pss_one (ps_ret (pv 3)))))), ?_⟩
    refine ⟨_, rfl, _, rfl, a, b, _, _, rfl, hA, hB, for_zip (K := K) (a := a) (b := b) (xs := xs.map V.str) (ys := ys.map V.str) (fun i σ H' => ∃ u1 u2 : Option V, σ = [some (.ref a), some (.ref b), some (.int (m - ((flat (xs.take i)).length : Int))), some (.int (i : Nat)), u1, u2] ∧ Same H H' ∧ xs.take i = ys.take i ∧ i ≤ xs.length ∧ i ≤ ys.length ∧ ((flat (xs.take i)).length : Int) ≤ m)
      ⟨_, _, by rw [show ((flat (xs.take 0)).length : Int) = 0 from rfl, Int.sub_zero]; rfl, Same.refl _, rfl, Nat.zero_le _, Nat.zero_le _, hm⟩ (fun i σ H' ⟨_, _, _, s, _⟩ => ⟨s.seq hA, s.seq hB⟩) ?_ ?_⟩
    · rintro i x y T' σ H' hx hy ⟨u1, u2, rfl, sm, ht, i1, i2, hf⟩ hT
      rw [List.getElem?_map] at hx hy
      cases ex : xs[i]? with
      | none => rw [ex] at hx; cases hx
      | some p =>
        cases ey : ys[i]? with
        | none => rw [ey] at hy; cases hy
        | some q =>
          rw [ex] at hx
          rw [ey] at hy
          cases hx
          cases hy
          have l1 := (List.getElem?_eq_some_iff.mp ex).1
          have l2 := (List.getElem?_eq_some_iff.mp ey).1
          have pl := xl p (List.mem_of_getElem? ex)
          have sm1 := Same.put (o := .tup [.str p, .str q]) sm hT
          refine ⟨T', _, rfl, SqT.of upd_same, rfl, _, _, rfl, _, _, rfl, rfl, ?_⟩
          revert sm1
          generalize (upd H' T' (.tup [.str p, .str q])) = H5
          intro sm1
          have et : xs.take (i + 1) = xs.take i ++ [p] := by rw [List.take_add_one, ex]; rfl
          have et2 : ys.take (i + 1) = ys.take i ++ [q] := by rw [List.take_add_one, ey]; rfl
          have ef : (flat (xs.take (i + 1))).length = (flat (xs.take i)).length + p.length := by
            rw [et, flat_app, List.length_append, flat_cons, List.length_append, len_cps]; rfl
          refine ⟨_, rfl, _, rfl, p, rfl, sz (by omega), _, _, rfl, rfl, ?_⟩
          refine ⟨_, rfl, _, rfl, rfl, _, rfl, ?_⟩
          by_cases c : p = q
          · subst c
            rw [decide_eq_true (rfl : V.str p = V.str p)]
            refine iteF ⟨_, rfl, _, _, rfl, rfl, _, rfl, ?_⟩
            by_cases c2 : m - ((flat (xs.take i)).length : Int) - ((p.length : Nat) : Int) < 0
            · rw [decide_eq_true c2]
              refine iteT ⟨_, rfl, ?_⟩
              have := sameN_stop xs ys m i ht i1 i2 (.inr hf) (.inr (.inr ⟨p, p, ex, ey, fun z => by have := z.2; omega⟩))
              have kk := k _ sm1
              rw [this] at kk
              exact kk
            · rw [decide_eq_false c2]
              refine iteF ⟨_, rfl, _, _, rfl, rfl, some (.str p), some (.str p), ?_, sm1, by rw [et, et2, ht], l1, l2, by rw [ef]; omega⟩
              rw [ef]
              show [some (V.ref a), some (V.ref b), some (V.int (m - ((flat (xs.take i)).length : Int) - ((p.length : Nat) : Int))), some (V.int (((i : Nat) : Int) + 1)), some (V.str p), some (V.str p)] = _
              rw [show m - ((flat (xs.take i)).length : Int) - ((p.length : Nat) : Int) = m - (((flat (xs.take i)).length + p.length : Nat) : Int) by omega, show ((i : Nat) : Int) + 1 = ((i + 1 : Nat) : Int) by omega]
          · rw [decide_eq_false (fun e => c (V.str.inj e))]
            refine iteT ⟨_, rfl, ?_⟩
            have := sameN_stop xs ys m i ht i1 i2 (.inr hf) (.inr (.inr ⟨p, q, ex, ey, fun z => c z.1⟩))
            have kk := k _ sm1
            rw [this] at kk
            exact kk
    · rintro i σ H' hi h1 h2 ⟨u1, u2, rfl, sm, ht, i1, i2, hf⟩
      rw [List.length_map, List.length_map] at hi
      refine ⟨_, rfl, ?_⟩
      have := sameN_stop xs ys m i ht i1 i2 (.inr hf) (by rcases hi with h | h; exact .inl h; exact .inr (.inl h))
      have kk := k _ sm
      rw [this] at kk
      exact kk
def spBetween (K : PySem.W.Frag) : Sp := fun vs H Q _ => ∃ (a b : Addr) (xs ys : List Str) (m n : Int), vs = [.ref a, .ref b, .int m, .int n] ∧ SqL K H a (xs.map V.str) ∧ SqL K H b (ys.map V.str) ∧ 0 ≤ m ∧ 0 ≤ n ∧ (∀ x ∈ xs, x.length ≤ 1000) ∧ ∀ H' t, Same H H' → PatchN H H' t (patchF xs ys m n) → Q (.ref t) H'
theorem cal_patch_between (T : Tx K mg) : Cal P w K mg base CX0 2 "patch_between" (spBetween K) := by
  have C_same_ahead := cal_same_ahead (P := P) (w := w) (base := base) T
  obtain ⟨fd, F⟩ := T.d_patch_between
  refine ⟨_, fd, P_patch_between, F.ok sc_patch_between (fun vs H Q E h => ?_) (fun cdv A outer s H vs Q E hr h => ?_), T.g_patch_between, F.kp, F.bindsN (ps := P_patch_between) fun _ _ _ _ _ _ us hl => match us, hl with | [_, _, _, _], _ => rfl⟩
  · obtain ⟨a, b, xs, ys, m, n, rfl, _⟩ := h
    rfl
  · obtain ⟨a, b, xs, ys, m, n, rfl, hA, hB, hm, hn, xl, k⟩ := h
    refine ⟨_, (PSs.nox (pss_cons (ps_set (i := 4) sc_patch_between.nd rfl (Or.inl rfl) (pe_cal C_same_ahead (by first | exact hr | exact hr.mono (by decide)) (by rfl) (pa_cons (pv 0) (pa_cons (pv 1) (pa_cons (pv 2) pa_nil)))))
      (pss_cons (ps_set (i := 5) sc_patch_between.nd rfl (Or.inl rfl) (pe_slice sl_listG (pv 0) (po_some (pv 4)) po_none))
      (pss_cons (ps_set (i := 6) sc_patch_between.nd rfl (Or.inl rfl) (pe_slice sl_listG (pv 1) (po_some (pv 4)) po_none))
      (pss_cons (ps_set (i := 7) sc_patch_between.nd rfl (Or.inl rfl) (pe_cal C_same_ahead (by first | exact hr | exact hr.mono (by decide)) (by rfl) (pa_cons (pe_revL (pv 5)) (pa_cons (pe_revL (pv 6)) (pa_cons (pv 3) pa_nil)))))
      (pss_one (ps_ret (pe_tupG (pa_cons (pv 4) (pa_cons (pe_slice sl_listG (pv 5) po_none (po_some (pe_op op_sub (pe_callB (id := "len") call_len_seq (by rfl) T.n_len (by decide +kernel) (pa_cons (pv 5) pa_nil)) (pv 7)))) (pa_cons (pe_slice sl_listG (pv 6) po_none (po_some (pe_op op_sub (pe_callB (id := "len") call_len_seq (by rfl) T.n_len (by decide +kernel) (pa_cons (pv 6) pa_nil)) (pv 7)))) pa_nil))))))))))), ?_⟩
    refine ⟨_, rfl, _, rfl, _, rfl, a, b, xs, ys, m, rfl, hA, hB, hm, xl, fun H1 s1 => ?_⟩
    obtain ⟨f, ef⟩ : ∃ f, f = sameN xs ys m := ⟨_, rfl⟩
    rw [← ef]
    refine ⟨_, rfl, _, rfl, _, rfl, a, _, rfl, s1.seq hA, fun ol H2 nol s2 hol => ?_⟩
    rw [cutV_from, ← List.map_drop] at hol
    refine ⟨_, rfl, _, rfl, _, rfl, b, _, rfl, (s1.trans s2).seq hB, fun nl H3 nnl s3 hnl => ?_⟩
    rw [cutV_from, ← List.map_drop] at hnl
    have hol3 := s3 _ _ hol
    refine ⟨_, rfl, ol, _, rfl, SqL.of hol3, fun r1 nr1 => ?_⟩
    have s4 := Same.new (o := .lst ((xs.drop f).map V.str).reverse) nr1
    have hr1 : (upd H3 r1 (.lst ((xs.drop f).map V.str).reverse)) r1 = some (.lst ((xs.drop f).reverse.map V.str)) := by rw [upd_same, List.map_reverse]
    revert hr1 s4
    generalize (upd H3 r1 (.lst ((xs.drop f).map V.str).reverse)) = H4
    intro s4 hr1
    refine ⟨_, rfl, nl, _, rfl, SqL.of (s4 _ _ hnl), fun r2 nr2 => ?_⟩
    have s5 := Same.new (o := .lst ((ys.drop f).map V.str).reverse) nr2
    have hr2 : (upd H4 r2 (.lst ((ys.drop f).map V.str).reverse)) r2 = some (.lst ((ys.drop f).reverse.map V.str)) := by rw [upd_same, List.map_reverse]
    revert hr2 s5
    generalize (upd H4 r2 (.lst ((ys.drop f).map V.str).reverse)) = H5
    intro s5 hr2
    refine ⟨_, rfl, r1, r2, _, _, n, rfl, SqL.of (s5 _ _ hr1), SqL.of hr2, hn, fun x hx => xl x (List.mem_of_mem_drop (List.mem_reverse.mp hx)), fun H6 s6 => ?_⟩
    obtain ⟨l, el⟩ : ∃ l, l = sameN (xs.drop f).reverse (ys.drop f).reverse n := ⟨_, rfl⟩
    rw [← el]
    have hl := sameN_le (xs.drop f).reverse (ys.drop f).reverse n
    rw [← el, List.length_reverse, List.length_reverse] at hl
    have s36 := (s4.trans s5).trans s6
    have hol6 := s36 _ _ hol3
    have hnl6 := s36 _ _ hnl
    have e1 : (((xs.drop f).map V.str).length : Int) - ((l : Nat) : Int) = (((xs.drop f).length - l : Nat) : Int) := by rw [List.length_map]; omega
    have e2 : (((ys.drop f).map V.str).length : Int) - ((l : Nat) : Int) = (((ys.drop f).length - l : Nat) : Int) := by rw [List.length_map]; omega
    refine ⟨_, rfl, _, rfl, _, rfl, ol, _, rfl, .inl (SqL.of hol6), _, rfl, _, _, rfl, rfl, _, rfl, ol, _, rfl, SqL.of hol6, fun o1 H7 no1 s7 ho1 => ?_⟩
    rw [e1, cutV_to, ← List.map_take] at ho1
    refine ⟨_, rfl, _, rfl, nl, _, rfl, .inl (SqL.of (s7 _ _ hnl6)), _, rfl, _, _, rfl, rfl, _, rfl, nl, _, rfl, SqL.of (s7 _ _ hnl6), fun o2 H8 no2 s8 ho2 => ?_⟩
    rw [e2, cutV_to, ← List.map_take] at ho2
    refine ⟨(by show 3 ≤ sizeLine; decide), fun tt H9 ntt s9 htt => ?_⟩
    have s06 := ((s1.trans s2).trans s3).trans s36
    have s07 := s06.trans s7
    have s08 := s07.trans s8
    refine k H9 tt (s08.trans s9) ⟨o1, o2, s08.free ntt, s06.free no1, s07.free no2, fun e => ?_, ?_, ?_, ?_⟩
    · rw [e, no2] at ho1; cases ho1
    · rw [htt, ef]; rfl
    · rw [s9 _ _ (s8 _ _ ho1), el, ef]; rfl
    · rw [s9 _ _ ho2, el, ef]; rfl
def spPatchOf (K : PySem.W.Frag) : Sp := fun vs H Q _ => ∃ (x a : Addr) (z : Str) (rs : Rws) (t put : Str) (pl gn : Nat), vs = [.ref x, .ref a, .int (pl : Nat), .int (gn : Nat), .str put] ∧ FolAt K H x z rs ∧ TabOk z rs ∧ H a = some (.lst ((sweep rs t).map V.str)) ∧ TextOf z t ∧ pl ≤ t.length ∧ gn ≤ t.length - pl ∧ t.length ≤ 1000 ∧ put.length ≤ 1000 ∧ TextOf z put ∧
  ∀ H' tt, Same H H' → PatchN H H' tt (patchF (sweep rs t) (sweep rs (chgT t pl gn put)) (pl : Nat) ((t.length - pl - gn : Nat) : Int)) → Q (.ref tt) H'
theorem cal_patch_of (T : Tx K mg) : Cal P w K mg base CX0 8 "patch_of" (spPatchOf K) := by
  have C_read_on := cal_read_on (P := P) (w := w) (base := base) T
  have C_changed_text := cal_changed_text (P := P) (w := w) (base := base) T
  have C_patch_between := cal_patch_between (P := P) (w := w) (base := base) T
  obtain ⟨fd, F⟩ := T.d_patch_of
  refine ⟨_, fd, P_patch_of, F.ok sc_patch_of (fun vs H Q E h => ?_) (fun cdv A outer s H vs Q E hr h => ?_), T.g_patch_of, F.kp, F.bindsN (ps := P_patch_of) fun _ _ _ _ _ _ us hl => match us, hl with | [_, _, _, _, _], _ => rfl⟩
  · obtain ⟨x, a, z, rs, t, put, pl, gn, rfl, _⟩ := h
    rfl
  · obtain ⟨x, a, z, rs, t, put, pl, gn, rfl, fo, tk, hA, tx, h1, h2, h3, h4, tp, k⟩ := h
    refine ⟨_, (PSs.nox (pss_cons (ps_set (i := 5) sc_patch_of.nd rfl (Or.inl rfl) (pe_join pe_str (pv 1)))
      (pss_cons (ps_set (i := 6) sc_patch_of.nd rfl (Or.inl rfl) (pe_cal C_read_on (by first | exact hr | exact hr.mono (by decide)) (by rfl) (pa_cons (pv 0) (pa_cons (pe_cal C_changed_text (by first | exact hr | exact hr.mono (by decide)) (by rfl) (pa_cons (pv 5) (pa_cons (pv 2) (pa_cons (pv 3) (pa_cons (pv 4) pa_nil))))) pa_nil))))
      (pss_one (ps_ret (pe_cal C_patch_between (by first | exact hr | exact hr.mono (by decide)) (by rfl) (pa_cons (pv 1) (pa_cons (pv 6) (pa_cons (pv 2) (pa_cons (pe_op op_sub (pe_op op_sub (pe_callB (id := "len") call_len_str (by rfl) T.n_len (by decide +kernel) (pa_cons (pv 5) pa_nil)) (pv 2)) (pv 3)) pa_nil)))))))))), ?_⟩
    have fl : (flat (sweep rs t)).length = t.length := sweep_len rs t
    have sl : ((sweep rs t).map (·.length)).sum = (flat (sweep rs t)).length := flat_len _
    have e0' : (Str.ofString "").length = 0 := by decide +kernel
    have cl := chgT_len t put h1 h2
    refine ⟨⟨_, rfl⟩, _, rfl, _, a, _, rfl, rfl, .inl (SqL.of hA), (by rw [e0', sl, fl]; omega), ?_⟩
    rw [join_sweep]
    refine ⟨_, rfl, _, rfl, _, rfl, _, rfl, _, rfl, t, put, pl, gn, rfl, h1, h2, by omega, by omega, ?_⟩
    refine ⟨x, z, rs, chgT t pl gn put, rfl, fo, chgT_text tx tp pl gn, by omega, fun H1 nw s1 nnw hnw => ?_⟩
    refine ⟨_, rfl, _, rfl, _, rfl, _, rfl, t, rfl, sz (by omega), _, rfl, _, _, rfl, rfl, _, rfl, _, _, rfl, rfl, ?_⟩
    have en : ((t.length : Nat) : Int) - ((pl : Nat) : Int) - ((gn : Nat) : Int) = ((t.length - pl - gn : Nat) : Int) := by omega
    refine ⟨a, nw, _, _, (pl : Nat), ((t.length - pl - gn : Nat) : Int), by rw [← en], SqL.of (s1 _ _ hA), SqL.of hnw, by omega, by omega, fun y hy => ?_, fun H2 tt s2 hp => k H2 tt (s1.trans s2) (hp.before s1)⟩
    have := (tk.plen (sweep_pc tx hy)).2
    omega
end
end Jr
namespace Jr
open PySem PySem.Spec PyProof.Rows L2
section
variable {P : Program} {w : World} {K : PySem.W.Frag} {mg : Str → Option Value} {base : Heap}
def spPatched (K : PySem.W.Frag) : Sp := fun vs H Q _ => ∃ (a tt : Addr) (xs : List Str) (p : Patch), vs = [.ref a, .ref tt] ∧ SqL K H a (xs.map V.str) ∧ PatchAt H tt p ∧ xs.length ≤ 10000 ∧ p.into.length ≤ 10000 ∧ ∀ H' b, Same H H' → H b = none → H' b = some (.lst ((xs.take p.first ++ p.into ++ xs.drop (p.first + p.out.length)).map V.str)) → Q (.ref b) H'
theorem cal_patched (T : Tx K mg) : Cal P w K mg base CX0 1 "patched" (spPatched K) := by
  obtain ⟨fd, F⟩ := T.d_patched
  refine ⟨_, fd, P_patched, F.ok sc_patched (fun vs H Q E h => ?_) (fun cdv A outer s H vs Q E hr h => ?_), T.g_patched, F.kp, F.bindsN (ps := P_patched) fun _ _ _ _ _ _ us hl => match us, hl with | [_, _], _ => rfl⟩
  · obtain ⟨a, tt, xs, p, rfl, _⟩ := h
    rfl
  · obtain ⟨a, tt, xs, p, rfl, hA, hp, xl, il, k⟩ := h
    refine ⟨_, (PSs.nox (pss_cons (ps_asg (pv 1) (pg_tup rfl (pgs_cons (pg_name (i := 2) sc_patched.nd rfl (Or.inl rfl)) (pgs_cons (pg_name (i := 3) sc_patched.nd rfl (Or.inl rfl)) (pgs_cons (pg_name (i := 4) sc_patched.nd rfl (Or.inl rfl)) pgs_nil)))))
      (pss_one (ps_ret (pe_op op_catG (pe_op op_catG (pe_slice sl_listG (pv 0) po_none (po_some (pv 2))) (pv 4)) (pe_slice sl_listG (pv 0) (po_some (pe_op op_add (pv 2) (pe_callB (id := "len") call_len_seq (by rfl) T.n_len (by decide +kernel) (pa_cons (pv 3) pa_nil)))) po_none)))))), ?_⟩
    obtain ⟨b1, b2, g1, g2, g3⟩ := hp
    refine ⟨_, rfl, tt, _, rfl, SqT.of g1, rfl, _, _, rfl, _, _, rfl, _, _, rfl, rfl, ?_⟩
    refine ⟨_, rfl, _, rfl, _, rfl, a, _, rfl, hA, fun r1 H1 nr1 s1 hr1 => ?_⟩
    rw [cutV_to, ← List.map_take] at hr1
    refine ⟨_, rfl, r1, b2, _, _, rfl, rfl, SqL.of hr1, SqL.of (s1 _ _ g3), ?_, fun r2 H2 nr2 s2 hr2 => ?_⟩
    · rw [List.length_map, List.length_map, List.length_take]; exact sz (by omega)
    rw [← List.map_append] at hr2
    have s12 := s1.trans s2
    have en : ((p.first : Nat) : Int) + (((p.out.map V.str).length : Nat) : Int) = ((p.first + p.out.length : Nat) : Int) := by rw [List.length_map]; omega
    refine ⟨_, rfl, _, rfl, _, rfl, b1, _, rfl, .inl (SqL.of (s12 _ _ g2)), _, _, rfl, rfl, _, rfl, a, _, rfl, s12.seq hA, fun r3 H3 nr3 s3 hr3 => ?_⟩
    rw [en, cutV_from, ← List.map_drop] at hr3
    refine ⟨r2, r3, _, _, rfl, rfl, SqL.of (s3 _ _ hr2), SqL.of hr3, ?_, fun r4 H4 nr4 s4 hr4 => ?_⟩
    · rw [List.length_map, List.length_map, List.length_append, List.length_take, List.length_drop]; exact sz (by omega)
    rw [← List.map_append] at hr4
    have s13 := s12.trans s3
    exact k H4 r4 (s13.trans s4) (s13.free nr4) hr4
end
end Jr
namespace Jr
open PySem PySem.Spec PyProof.Rows L2
theorem Reg.fld {S H : Hp} {L : List (Addr × HO)} {x d : Addr} {o : HO} (o' q : HO) (r : Reg S H ((x, o) :: L)) (hd : H d = none) : Reg S (upd (upd H d q) x o') ((x, o') :: (L ++ [(d, q)])) :=
  (r.new hd (Same.new hd) (upd_same (H := H) (a := d) (o := q))).set (i := 0) (o := o) rfl
theorem perm4 {α : Type} (R A B : List α) (a h : α) : (((R ++ (A ++ B)) ++ [a]) ++ [h]).Perm (R ++ ((A ++ [a]) ++ (B ++ [h]))) := by
  have e1 : ((R ++ (A ++ B)) ++ [a]) ++ [h] = (R ++ A) ++ (B ++ a :: [h]) := by simp
  have e2 : R ++ ((A ++ [a]) ++ (B ++ [h])) = (R ++ A) ++ (a :: (B ++ [h])) := by simp
  rw [e1, e2]
  exact List.Perm.append_left _ List.perm_middle
theorem pcs_take_eq {z : Str} {rs : Rws} {j : Nat} (h : j ≤ rs.length) : (pcs z rs).take (z.length + j) = pcs z (rs.take j) := by
  unfold pcs
  rw [← sgs_len z, List.take_length_add_append, List.map_take]
/-- a Follows just made: its lists are new behind H0 -/
def FolFr (K : PySem.W.Frag) (H0 H : Hp) (x t : Addr) (z : Str) (rs : Rws) : Prop := ∃ (dx re le al af ah pr : Addr) (asA asH : List Addr) (G : List (List Key × V)), FolS K H x dx t re le al af ah pr asA asH z rs ∧ H pr = some (.dT G) ∧ PairD rs (PLs z rs (AL z rs).length) G ∧
  (∀ (i : Nat) (a : Addr) (p : Str), asA[i]? = some a → (pcs z rs)[i]? = some p → H a = some (.lst ((aft rs (PLs z rs (AL z rs).length) p).map V.str)) ∧ H0 a = none) ∧
  (∀ (i : Nat) (a : Addr) (p : Str), asH[i]? = some a → (pcs z rs)[i]? = some p → H a = some (.lst ((ahd rs (PLs z rs (AL z rs).length) p).map V.str)) ∧ H0 a = none)
theorem FolFr.fol {K : PySem.W.Frag} {H0 H : Hp} {x t : Addr} {z : Str} {rs : Rws} (h : FolFr K H0 H x t z rs) : FolAt K H x z rs := by
  obtain ⟨dx, re, le, al, af, ah, pr, asA, asH, G, fs, hp, pd, h1, h2⟩ := h
  exact ⟨dx, t, re, le, al, af, ah, pr, asA, asH, G, fs, hp, pd, fun i a p ha hp => (h1 i a p ha hp).1, fun i a p ha hp => (h2 i a p ha hp).1⟩
theorem fol_fr {K : PySem.W.Frag} {H0 S H : Hp} {x dx t re le al af ah pr : Addr} {asA asH : List Addr} {z : Str} {rs : Rws} (fs : FolS K S x dx t re le al af ah pr asA asH z rs) (rg : PReg S H pr asA asH z rs (PLs z rs (AL z rs).length)) (s : Same H0 S) : FolFr K H0 H x t z rs := by
  obtain ⟨G, r, pd⟩ := rg
  have lzA := lstsZ_len (aft rs (PLs z rs (AL z rs).length)) fs.lA
  refine ⟨dx, re, le, al, af, ah, pr, asA, asH, G, fs.same r.same, r.get (i := 0) rfl, pd, fun i a p ha hp => ?_, fun i a p ha hp => ?_⟩
  · have hi : i < (pcs z rs).length := (List.getElem?_eq_some_iff.mp hp).1
    have g : ((pr, HO.dT G) :: (lstsZ asA (pcs z rs) (aft rs (PLs z rs (AL z rs).length)) ++ lstsZ asH (pcs z rs) (ahd rs (PLs z rs (AL z rs).length))))[i + 1]? = some (a, HO.lst ((aft rs (PLs z rs (AL z rs).length) p).map V.str)) := by
      rw [List.getElem?_cons_succ, List.getElem?_append_left (by rw [lzA]; exact hi)]
      exact lstsZ_at ha hp
    exact ⟨r.get g, s.free (r.off _ (List.mem_of_getElem? g))⟩
  · have g : ((pr, HO.dT G) :: (lstsZ asA (pcs z rs) (aft rs (PLs z rs (AL z rs).length)) ++ lstsZ asH (pcs z rs) (ahd rs (PLs z rs (AL z rs).length))))[((pcs z rs).length + i) + 1]? = some (a, HO.lst ((ahd rs (PLs z rs (AL z rs).length) p).map V.str)) := by
      rw [List.getElem?_cons_succ, List.getElem?_append_right (by rw [lzA]; omega), lzA, Nat.add_sub_cancel_left]
      exact lstsZ_at ha hp
    exact ⟨r.get g, s.free (r.off _ (List.mem_of_getElem? g))⟩
/-- what is done to one list of objects leaves a Follows -/
theorem FolFr.keep {K : PySem.W.Frag} {H0 H H' : Hp} {x t D : Addr} {z : Str} {rs : Rws} {bs : List Addr} {oD : HO} (h : FolFr K H0 H x t z rs) (ta : TabAt (TC K) H' t z rs) (k : ∀ b o, H b = some o → b ≠ D → H' b = some o) (hD : H D = some (.lst (bs.map V.ref))) (h0 : H0 D = some oD)
    (hb : ∀ b ∈ bs, ∃ C d f, H b = some (.ins C d f)) : FolAt K H' x z rs := by
  obtain ⟨dx, re, le, al, af, ah, pr, asA, asH, G, fs, hp, pd, h1, h2⟩ := h
  have ends : ∀ (A : List (Key × V)) (side : Nat), Eds H A z rs side → Eds H' A z rs side := fun A side he q hq => by
    obtain ⟨a, es, v, ⟨as, ha, hs⟩, eg⟩ := he q hq
    refine ⟨a, es, v, ⟨as, k _ _ ha ?_, L2.Paired.mapP hs fun b y hy => k _ _ hy ?_⟩, eg⟩
    · intro e
      rw [e, hD] at ha
      obtain ⟨x0, rr, er⟩ : ∃ x0 rr, es = x0 :: rr := by
        cases eg with
        | one _ => exact ⟨_, _, rfl⟩
        | more _ _ _ => exact ⟨_, _, rfl⟩
      rw [er] at hs
      cases hs with
      | cons h3 h4 =>
        cases bs with
        | nil => simp at ha
        | cons b bs =>
          simp only [Option.some.injEq, HO.lst.injEq, List.map_cons, List.cons.injEq, V.ref.injEq] at ha
          obtain ⟨C, d, f, h5⟩ := hb b List.mem_cons_self
          rw [ha.1] at h5
          have h3' : H _ = some (.tup _) := h3
          rw [h3'] at h5
          cases h5
    · have hy' : H b = some (.tup _) := hy
      exact ne_of hy' hD (by intro q; cases q)
  obtain ⟨A, B, e1, e2, e3, e4⟩ := fs.fe.ed
  refine ⟨dx, t, re, le, al, af, ah, pr, asA, asH, G, ⟨⟨k _ _ fs.fe.hx ?_, ta, A, B, k _ _ e1 ?_, k _ _ e2 ?_, ends _ _ e3, ends _ _ e4⟩, k _ _ fs.hal ?_, k _ _ fs.haf ?_, k _ _ fs.hah ?_, fs.lA, fs.lH⟩, k _ _ hp ?_, pd, fun i a p ha hp => k _ _ (h1 i a p ha hp).1 ?_, fun i a p ha hp => k _ _ (h2 i a p ha hp).1 ?_⟩
  · exact ne_of fs.fe.hx hD (by intro q; cases q)
  · exact ne_of e1 hD (by intro q; cases q)
  · exact ne_of e2 hD (by intro q; cases q)
  · exact ne_of fs.hal hD (by intro q; cases q)
  · exact ne_of fs.haf hD (by intro q; cases q)
  · exact ne_of fs.hah hD (by intro q; cases q)
  · exact ne_of hp hD (by intro q; cases q)
  · intro e
    have := (h1 i a p ha hp).2
    rw [e, h0] at this
    cases this
  · intro e
    have := (h2 i a p ha hp).2
    rw [e, h0] at this
    cases this
/-- a Follows just made: its dicts are new behind H0 -/
def FolNw (K : PySem.W.Frag) (H0 H : Hp) (x : Addr) : Prop := ∃ (dx t re le al af ah pr : Addr), H x = some (.ins (FC K) dx (fg7 t re le al af ah pr)) ∧ H0 re = none ∧ H0 le = none ∧ H0 al = none ∧ H0 af = none ∧ H0 ah = none ∧ H0 pr = none
theorem fg7_inj {t re le al af ah pr t' re' le' al' af' ah' pr' : Addr} (h : fg7 t re le al af ah pr = fg7 t' re' le' al' af' ah' pr') : re = re' ∧ le = le' ∧ al = al' ∧ af = af' ∧ ah = ah' ∧ pr = pr' := by
  unfold fg7 at h
  simp only [List.cons.injEq, Prod.mk.injEq, V.ref.injEq, true_and, and_true] at h
  obtain ⟨_, a, b, c, d, e, f⟩ := h
  exact ⟨a, b, c, d, e, f⟩
/-- what is done to one dict of another's leaves a Follows -/
theorem FolFr.offD {K : PySem.W.Frag} {H0 H H' : Hp} {x t D : Addr} {z : Str} {rs : Rws} {kvs : List (Key × V)} {oD : HO} (h : FolFr K H0 H x t z rs) (nw : FolNw K H0 H x) (ta : TabAt (TC K) H' t z rs) (k : ∀ b o, H b = some o → b ≠ D → H' b = some o) (hD : H D = some (.dK kvs)) (h0 : H0 D = some oD) : FolAt K H' x z rs := by
  obtain ⟨dx, re, le, al, af, ah, pr, asA, asH, G, fs, hp, pd, h1, h2⟩ := h
  obtain ⟨dx', t', re', le', al', af', ah', pr', hx', n1, n2, n3, n4, n5, n6⟩ := nw
  have e := fs.fe.hx.symm.trans hx'
  simp only [Option.some.injEq, HO.ins.injEq, true_and] at e
  obtain ⟨rfl, rfl, rfl, rfl, rfl, rfl⟩ := fg7_inj e.2
  have ne : ∀ {b : Addr}, H0 b = none → b ≠ D := fun hb e => by rw [e, h0] at hb; cases hb
  have ends : ∀ (A : List (Key × V)) (side : Nat), Eds H A z rs side → Eds H' A z rs side := fun A side he q hq => by
    obtain ⟨a, es, v, ⟨as, ha, hs⟩, eg⟩ := he q hq
    refine ⟨a, es, v, ⟨as, k _ _ ha (ne_of ha hD (by intro q; cases q)), L2.Paired.mapP hs fun b y hy => k _ _ hy ?_⟩, eg⟩
    have hy' : H b = some (.tup _) := hy
    exact ne_of hy' hD (by intro q; cases q)
  obtain ⟨A, B, e1, e2, e3, e4⟩ := fs.fe.ed
  exact ⟨dx, t, re, le, al, af, ah, pr, asA, asH, G, ⟨⟨k _ _ fs.fe.hx (ne_of fs.fe.hx hD (by intro q; cases q)), ta, A, B, k _ _ e1 (ne n1), k _ _ e2 (ne n2), ends _ _ e3, ends _ _ e4⟩, k _ _ fs.hal (ne n3), k _ _ fs.haf (ne n4), k _ _ fs.hah (ne n5), fs.lA, fs.lH⟩, k _ _ hp (ne n6), pd, fun i a p ha hp => k _ _ (h1 i a p ha hp).1 (ne_of (h1 i a p ha hp).1 hD (by intro q; cases q)), fun i a p ha hp => k _ _ (h2 i a p ha hp).1 (ne_of (h2 i a p ha hp).1 hD (by intro q; cases q))⟩
section
variable {P : Program} {w : World} {K : PySem.W.Frag} {mg : Str → Option Value} {base : Heap}
def spFInit (K : PySem.W.Frag) : Sp := fun vs H Q _ => ∃ (H0 : Hp) (x dx t : Addr) (z : Str) (rs : Rws), vs = [.ref x, .ref t] ∧ H = upd (upd H0 dx (.own x)) x (.ins (FC K) dx []) ∧ H0 x = none ∧ H0 dx = none ∧ dx ≠ x ∧ TabAt (TC K) H0 t z rs ∧
  ∀ H', Same H0 H' → FolAt K H' x z rs → Q .non H'
def spFInit2 (K : PySem.W.Frag) : Sp := fun vs H Q _ => ∃ (H0 : Hp) (x dx t : Addr) (z : Str) (rs : Rws), vs = [.ref x, .ref t] ∧ H = upd (upd H0 dx (.own x)) x (.ins (FC K) dx []) ∧ H0 x = none ∧ H0 dx = none ∧ dx ≠ x ∧ TabAt (TC K) H0 t z rs ∧
  ∀ H', Same H0 H' → FolFr K H0 H' x t z rs → Q .non H'
def spFInit3 (K : PySem.W.Frag) : Sp := fun vs H Q _ => ∃ (H0 : Hp) (x dx t : Addr) (z : Str) (rs : Rws), vs = [.ref x, .ref t] ∧ H = upd (upd H0 dx (.own x)) x (.ins (FC K) dx []) ∧ H0 x = none ∧ H0 dx = none ∧ dx ≠ x ∧ TabAt (TC K) H0 t z rs ∧
  ∀ H', Same H0 H' → FolFr K H0 H' x t z rs → FolNw K H0 H' x → Q .non H'
theorem mkc_Follows3 (T : Tx K mg) : Mkc P w K mg base CX0 5 "Follows" (FC K) (spFInit3 K) := by
  have M_Table_pieces := met_pieces (P := P) (w := w) (base := base) T
  have C_with_ends := cal_with_ends (P := P) (w := w) (base := base) T
  have C_right_edge := cal_right_edge (P := P) (w := w) (base := base) T
  have C_left_edge := cal_left_edge (P := P) (w := w) (base := base) T
  have M_Follows_is_alone := met_is_alone (P := P) (w := w) (base := base) T
  have M_Follows_pair_all := met_pair_all (P := P) (w := w) (base := base) T
  obtain ⟨fd, F⟩ := T.d_Follows___init__
  refine ⟨⟨_, fd, P_Follows___init__, F.ok sc_Follows___init__ (fun vs H Q E h => ?_) (fun cdv A outer s H vs Q E hr h => ?_), T.mk_Follows, F.bindsN (ps := P_Follows___init__) fun _ _ _ _ _ _ us hl => match us, hl with | [_, _], _ => rfl⟩, T.g_Follows⟩
  · obtain ⟨H0, x, dx, t, z, rs, rfl, _⟩ := h
    rfl
  · obtain ⟨H0, x, dx, t, z, rs, rfl, rfl, x0, dx0, ndx, ta, k⟩ := h
    refine ⟨_, (PSs.nox (pss_cons (ps_fld (pv 0) (pv 1) rfl)
      (pss_cons (ps_fld (pv 0) pe_dnewK rfl)
      (pss_cons (ps_fld (pv 0) pe_dnewK rfl)
      (pss_cons (ps_fld (pv 0) pe_dnewK rfl)
      (pss_cons (ps_fld (pv 0) pe_dnewK rfl)
      (pss_cons (ps_fld (pv 0) pe_dnewK rfl)
      (pss_cons (ps_fld (pv 0) pe_dnewT rfl)
      (pss_cons (ps_for PassesOwn.never rfl (pi_list (pe_met0 M_Table_pieces (pv 1) (by first | exact hr | exact hr.mono (by decide)))) (pg_name (i := 2) sc_Follows___init__.nd rfl (Or.inl rfl)) (pss_cons (ps_dput (hu_of hr) (pe_fld (pv 0) rfl) (pv 2) (pe_cal C_with_ends (by first | exact hr | exact hr.mono (by decide)) (by rfl) (pa_cons (pv 1) (pa_cons (pe_cal C_right_edge (by first | exact hr | exact hr.mono (by decide)) (by rfl) (pa_cons (pv 1) (pa_cons (pv 2) pa_nil))) pa_nil))) rfl)
      (pss_cons (ps_dput (hu_of hr) (pe_fld (pv 0) rfl) (pv 2) (pe_cal C_with_ends (by first | exact hr | exact hr.mono (by decide)) (by rfl) (pa_cons (pv 1) (pa_cons (pe_cal C_left_edge (by first | exact hr | exact hr.mono (by decide)) (by rfl) (pa_cons (pv 1) (pa_cons (pv 2) pa_nil))) pa_nil))) rfl)
      (pss_cons (ps_dput (hu_of hr) (pe_fld (pv 0) rfl) (pv 2) (pe_lstG pa_nil) rfl)
      (pss_one (ps_dput (hu_of hr) (pe_fld (pv 0) rfl) (pv 2) (pe_lstG pa_nil) rfl))))))
      (pss_cons (ps_for PassesOwn.never rfl (pi_list (pe_met0 M_Table_pieces (pv 1) (by first | exact hr | exact hr.mono (by decide)))) (pg_name (i := 2) sc_Follows___init__.nd rfl (Or.inl rfl)) (pss_one (ps_if (pt_val (pe_met M_Follows_is_alone (pv 0) (by first | exact hr | exact hr.mono (by decide)) (pa_cons (pv 2) pa_nil))) (pss_one (ps_dput (hu_of hr) (pe_fld (pv 0) rfl) (pv 2) pe_bl rfl)) pss_nil)))
      (pss_one (ps_expr (pe_met0 M_Follows_pair_all (pv 0) (by first | exact hr | exact hr.mono (by decide))))))))))))))), ?_⟩
    have n12 := ta.ok.n12
    have many := ta.ok.many
    have nd := ta.ok.nodup
    have pl := pcs_len z rs
    have sS0 : Same H0 (upd H0 dx (.own x)) := Same.new dx0
    have S0x : (upd H0 dx (.own x)) x = none := by rw [upd_ne (Ne.symm ndx)]; exact x0
    revert sS0 S0x
    generalize (upd H0 dx (.own x)) = S0
    intro sS0 S0x
    have r0 : Reg S0 (upd S0 x (.ins (FC K) dx [])) [(x, .ins (FC K) dx [])] := (Reg.nil S0).new S0x (Same.new S0x) upd_same
    revert r0
    generalize (upd S0 x (.ins (FC K) dx [])) = Ha
    intro r0
    refine ⟨_, rfl, _, rfl, x, _, dx, _, rfl, r0.get (i := 0) rfl, T.cl_Follows, T.no_Follows_held_table, (by show 0 < 1000; decide), ?_⟩
    have r1 : Reg S0 (upd Ha x (.ins (FC K) dx (putF "held_table" (.ref t) []))) [(x, .ins (FC K) dx (putF "held_table" (.ref t) []))] := r0.set (i := 0) (o := .ins (FC K) dx []) rfl
    revert r1
    generalize (upd Ha x (.ins (FC K) dx (putF "held_table" (.ref t) []))) = Hb
    intro r1
    intro re hre
    refine ⟨_, rfl, x, _, dx, _, rfl, Same.new hre _ _ (r1.get (i := 0) rfl), T.cl_Follows, T.no_Follows_right_edges, (by show 1 < 1000; decide), ?_⟩
    have r2 := r1.fld (.ins (FC K) dx (putF "right_edges" (.ref re) (putF "held_table" (.ref t) []))) (.dK []) hre
    revert r2
    generalize (upd (upd Hb re (.dK [])) x (.ins (FC K) dx (putF "right_edges" (.ref re) (putF "held_table" (.ref t) [])))) = Hc
    intro r2
    intro le hle
    refine ⟨_, rfl, x, _, dx, _, rfl, Same.new hle _ _ (r2.get (i := 0) rfl), T.cl_Follows, T.no_Follows_left_edges, (by show 2 < 1000; decide), ?_⟩
    have r3 := r2.fld (.ins (FC K) dx (putF "left_edges" (.ref le) (putF "right_edges" (.ref re) (putF "held_table" (.ref t) [])))) (.dK []) hle
    revert r3
    generalize (upd (upd Hc le (.dK [])) x (.ins (FC K) dx (putF "left_edges" (.ref le) (putF "right_edges" (.ref re) (putF "held_table" (.ref t) []))))) = Hd
    intro r3
    intro al hal
    refine ⟨_, rfl, x, _, dx, _, rfl, Same.new hal _ _ (r3.get (i := 0) rfl), T.cl_Follows, T.no_Follows_alone_pieces, (by show 3 < 1000; decide), ?_⟩
    have r4 := r3.fld (.ins (FC K) dx (putF "alone_pieces" (.ref al) (putF "left_edges" (.ref le) (putF "right_edges" (.ref re) (putF "held_table" (.ref t) []))))) (.dK []) hal
    revert r4
    generalize (upd (upd Hd al (.dK [])) x (.ins (FC K) dx (putF "alone_pieces" (.ref al) (putF "left_edges" (.ref le) (putF "right_edges" (.ref re) (putF "held_table" (.ref t) [])))))) = He'
    intro r4
    intro af haf
    refine ⟨_, rfl, x, _, dx, _, rfl, Same.new haf _ _ (r4.get (i := 0) rfl), T.cl_Follows, T.no_Follows_pieces_after, (by show 4 < 1000; decide), ?_⟩
    have r5 := r4.fld (.ins (FC K) dx (putF "pieces_after" (.ref af) (putF "alone_pieces" (.ref al) (putF "left_edges" (.ref le) (putF "right_edges" (.ref re) (putF "held_table" (.ref t) [])))))) (.dK []) haf
    revert r5
    generalize (upd (upd He' af (.dK [])) x (.ins (FC K) dx (putF "pieces_after" (.ref af) (putF "alone_pieces" (.ref al) (putF "left_edges" (.ref le) (putF "right_edges" (.ref re) (putF "held_table" (.ref t) []))))))) = Hf
    intro r5
    intro ah hah
    refine ⟨_, rfl, x, _, dx, _, rfl, Same.new hah _ _ (r5.get (i := 0) rfl), T.cl_Follows, T.no_Follows_pieces_ahead, (by show 5 < 1000; decide), ?_⟩
    have r6 := r5.fld (.ins (FC K) dx (putF "pieces_ahead" (.ref ah) (putF "pieces_after" (.ref af) (putF "alone_pieces" (.ref al) (putF "left_edges" (.ref le) (putF "right_edges" (.ref re) (putF "held_table" (.ref t) []))))))) (.dK []) hah
    revert r6
    generalize (upd (upd Hf ah (.dK [])) x (.ins (FC K) dx (putF "pieces_ahead" (.ref ah) (putF "pieces_after" (.ref af) (putF "alone_pieces" (.ref al) (putF "left_edges" (.ref le) (putF "right_edges" (.ref re) (putF "held_table" (.ref t) [])))))))) = Hg
    intro r6
    intro pr hpr
    refine ⟨_, rfl, x, _, dx, _, rfl, Same.new hpr _ _ (r6.get (i := 0) rfl), T.cl_Follows, T.no_Follows_pairs, (by show 6 < 1000; decide), ?_⟩
    rw [g7_put]
    have r7 : Reg S0 _ (R7 K x dx t re le al af ah pr [] [] [] [] []) := r6.fld (.ins (FC K) dx (fg7 t re le al af ah pr)) (.dT []) hpr
    revert r7
    generalize (upd (upd Hg pr (.dT [])) x (.ins (FC K) dx (fg7 t re le al af ah pr))) = H7
    intro r7
    have taS := ta.same sS0
    have ta7 := taS.same r7.same
    obtain ⟨dxt, lr, lp, dn, dr, m, ht, _⟩ := ta7.ex
    -- the first loop
    refine ⟨_, rfl, t, dxt, _, rfl, ht, l6_mp _ _ _ _ _ _, t, z, rs, rfl, ta7, fun H8 q0 s8 nq0 hq0 => ?_⟩
    obtain ⟨r8, sS8⟩ := r7.grow s8
    have hq0S := out_of (L := R7 K x dx t re le al af ah pr [] [] [] [] []) hq0 (r7.free nq0)
    have taS8 := taS.same sS8
    revert r8 sS8 hq0S taS8
    generalize (out H8 (R7 K x dx t re le al af ah pr [] [] [] [] [])) = S1
    intro r8 sS8 hq0S taS8
    obtain ⟨ps, eps⟩ : ∃ ps, ps = pcs z rs := ⟨_, rfl⟩
    rw [← eps] at hq0 hq0S nd pl
    refine ⟨q0, rfl, ⟨_, SqL.of hq0⟩, for_list (K := K) (a := q0) (xs := ps.map V.str) (fun i σ H' => ∃ (S' : Hp) (ra la asA asH : List Addr) (u : Option V), σ = [some (.ref x), some (.ref t), u] ∧ Same S1 S' ∧
        Reg S' H' (R7 K x dx t re le al af ah pr (kvsZ ra (ps.take i)) (kvsZ la (ps.take i)) [] (kvsZ asA (ps.take i)) (kvsZ asH (ps.take i)) ++ (lstsZ asA (ps.take i) (fun _ => []) ++ lstsZ asH (ps.take i) (fun _ => []))) ∧
        asA.length = (ps.take i).length ∧ asH.length = (ps.take i).length ∧ Eds1 S' rs 1 ra (ps.take i) ∧ Eds1 S' rs 0 la (ps.take i))
      ⟨S1, [], [], [], [], _, rfl, Same.refl _, r8, rfl, rfl, .nil, .nil⟩ (fun i σ H' _ ⟨S', _, _, _, _, _, _, s, r, _⟩ => SqL.of (r.same _ _ (s _ _ hq0S))) ?_ ?_⟩
    · rintro i y σ H' hi ⟨S', ra, la, asA, asH, u, rfl, sS', r, lA, lH, e1, e0⟩
      rw [List.getElem?_map] at hi
      cases ep : ps[i]? with
      | none => rw [ep] at hi; cases hi
      | some p =>
        rw [ep] at hi
        cases hi
        have il : i < ps.length := (List.getElem?_eq_some_iff.mp ep).1
        have et : ps.take (i + 1) = ps.take i ++ [p] := by rw [List.take_add_one, ep]; rfl
        have hp : p ∈ pcs z rs := by rw [← eps]; exact List.mem_of_getElem? ep
        have hnew : ¬ p ∈ ps.take i := fun hm => by
          obtain ⟨j, hj⟩ := List.getElem?_of_mem hm
          rw [List.getElem?_take] at hj
          split at hj
          · have := nd_at nd hj ep
            omega
          · cases hj
        have tl : (ps.take i).length ≤ 36 := by rw [List.length_take]; omega
        obtain ⟨pi, epi⟩ : ∃ pi, pi = ps.take i := ⟨_, rfl⟩
        rw [et]
        rw [← epi] at r lA lH e1 e0 hnew tl ⊢
        have lr1 := Paired.len e1
        have lr0 := Paired.len e0
        have nt0 : ∀ q ∈ lstsZ asA pi (fun _ => []) ++ lstsZ asH pi (fun _ => []), ∀ xs, q.2 ≠ HO.tup xs := notup_app notup_lsts notup_lsts
        -- right_edges
        have ta1 := (taS8.same sS').same r.same
        refine ⟨_, rfl, _, rfl, _, rfl, t, z, rs, p, rfl, ta1, hp, fun H9 q1 es s9 nq1 hq1 hE1 => ?_⟩
        refine ⟨t, q1, z, rs, 1, p, es, rfl, ta1.same s9, hq1, hE1, hp, fun H10 te1 fs1 s10 nte1 ⟨as1, hte1, hpe1⟩ hEE1 => ?_⟩
        have s910 := s9.trans s10
        obtain ⟨ra1, sSa⟩ := r.grow s910
        obtain ⟨o1, o2⟩ := r.outs s910 (s9.free nte1) hte1 hpe1 (notup_app notup_R7 nt0)
        refine ⟨_, rfl, x, _, dx, _, _, rfl, ra1.get (i := 0) rfl, T.cl_Follows, T.no_Follows_right_edges, g7_re _ _ _ _ _ _ _, _, rfl, re, _, rfl, DPut.k (k := Sum.inr p) (ra1.get (i := 1) rfl) (szl (by rw [kvsZ_len lr1]; omega)), ?_⟩
        rw [putK_new _ (kvsZ_none hnew), ← kvsZ_snoc lr1]
        have e1' : Eds1 (out H10 _) rs 1 (ra ++ [te1]) (pi ++ [p]) := Paired.snoc (e1.same sSa) ⟨fs1, ⟨as1, o1, o2⟩, hEE1⟩
        have e0' := e0.same sSa
        have sSb := sS'.trans sSa
        have ra2 : Reg _ _ (R7 K x dx t re le al af ah pr (kvsZ (ra ++ [te1]) (pi ++ [p])) (kvsZ la pi) [] (kvsZ asA pi) (kvsZ asH pi) ++ (lstsZ asA pi (fun _ => []) ++ lstsZ asH pi (fun _ => []))) := ra1.set (i := 1) (a := re) (o := .dK (kvsZ ra pi)) (o' := .dK (kvsZ (ra ++ [te1]) (pi ++ [p]))) rfl
        clear o1 o2 ra1 sSa e1 e0
        revert e1' e0' sSb ra2
        generalize (out H10 (R7 K x dx t re le al af ah pr (kvsZ ra pi) (kvsZ la pi) [] (kvsZ asA pi) (kvsZ asH pi) ++ (lstsZ asA pi (fun _ => []) ++ lstsZ asH pi (fun _ => [])))) = S2
        generalize (upd H10 re (.dK (kvsZ (ra ++ [te1]) (pi ++ [p])))) = H11
        intro e1 e0 sS2 r2
        -- left_edges
        have ta2 := (taS8.same sS2).same r2.same
        refine ⟨_, rfl, _, rfl, _, rfl, t, z, rs, p, rfl, ta2, hp, fun H12 q2 es2 s12 nq2 hq2 hE2 => ?_⟩
        refine ⟨t, q2, z, rs, 0, p, es2, rfl, ta2.same s12, hq2, hE2, hp, fun H13 te2 fs2 s13 nte2 ⟨as2, hte2, hpe2⟩ hEE2 => ?_⟩
        have s1213 := s12.trans s13
        obtain ⟨ra1, sSa⟩ := r2.grow s1213
        obtain ⟨o1, o2⟩ := r2.outs s1213 (s12.free nte2) hte2 hpe2 (notup_app notup_R7 nt0)
        refine ⟨_, rfl, x, _, dx, _, _, rfl, ra1.get (i := 0) rfl, T.cl_Follows, T.no_Follows_left_edges, g7_le _ _ _ _ _ _ _, _, rfl, le, _, rfl, DPut.k (k := Sum.inr p) (ra1.get (i := 2) rfl) (szl (by rw [kvsZ_len lr0]; omega)), ?_⟩
        rw [putK_new _ (kvsZ_none hnew), ← kvsZ_snoc lr0]
        have e0' : Eds1 (out H13 _) rs 0 (la ++ [te2]) (pi ++ [p]) := Paired.snoc (e0.same sSa) ⟨fs2, ⟨as2, o1, o2⟩, hEE2⟩
        have e1' := e1.same sSa
        have sSb := sS2.trans sSa
        have ra2 : Reg _ _ (R7 K x dx t re le al af ah pr (kvsZ (ra ++ [te1]) (pi ++ [p])) (kvsZ (la ++ [te2]) (pi ++ [p])) [] (kvsZ asA pi) (kvsZ asH pi) ++ (lstsZ asA pi (fun _ => []) ++ lstsZ asH pi (fun _ => []))) := ra1.set (i := 2) (a := le) (o := .dK (kvsZ la pi)) (o' := .dK (kvsZ (la ++ [te2]) (pi ++ [p]))) rfl
        clear o1 o2 ra1 sSa e1 e0
        revert e1' e0' sSb ra2
        generalize (out H13 (R7 K x dx t re le al af ah pr (kvsZ (ra ++ [te1]) (pi ++ [p])) (kvsZ la pi) [] (kvsZ asA pi) (kvsZ asH pi) ++ (lstsZ asA pi (fun _ => []) ++ lstsZ asH pi (fun _ => [])))) = S3
        generalize (upd H13 le (.dK (kvsZ (la ++ [te2]) (pi ++ [p])))) = H14
        intro e0 e1 sS3 r3
        -- pieces_after, pieces_ahead
        refine ⟨(by show 0 ≤ sizeLine; decide), fun aa H15 naa s15 haa => ?_⟩
        have r4 := r3.new naa s15 haa
        refine ⟨_, rfl, x, _, dx, _, _, rfl, r4.get (i := 0) rfl, T.cl_Follows, T.no_Follows_pieces_after, g7_af _ _ _ _ _ _ _, _, rfl, af, _, rfl, DPut.k (k := Sum.inr p) (r4.get (i := 4) rfl) (szl (by rw [kvsZ_len lA]; omega)), ?_⟩
        rw [putK_new _ (kvsZ_none hnew), ← kvsZ_snoc lA]
        have r5 : Reg S3 _ ((R7 K x dx t re le al af ah pr (kvsZ (ra ++ [te1]) (pi ++ [p])) (kvsZ (la ++ [te2]) (pi ++ [p])) [] (kvsZ (asA ++ [aa]) (pi ++ [p])) (kvsZ asH pi) ++ (lstsZ asA pi (fun _ => []) ++ lstsZ asH pi (fun _ => []))) ++ [(aa, .lst [])]) := r4.set (i := 4) (a := af) (o := .dK (kvsZ asA pi)) (o' := .dK (kvsZ (asA ++ [aa]) (pi ++ [p]))) rfl
        revert r5
        generalize (upd H15 af (.dK (kvsZ (asA ++ [aa]) (pi ++ [p])))) = H16
        intro r5
        refine ⟨(by show 0 ≤ sizeLine; decide), fun ab H17 nab s17 hab => ?_⟩
        have r6 := r5.new nab s17 hab
        refine ⟨_, rfl, x, _, dx, _, _, rfl, r6.get (i := 0) rfl, T.cl_Follows, T.no_Follows_pieces_ahead, g7_ah _ _ _ _ _ _ _, _, rfl, ah, _, rfl, DPut.k (k := Sum.inr p) (r6.get (i := 5) rfl) (szl (by rw [kvsZ_len lH]; omega)), ?_⟩
        rw [putK_new _ (kvsZ_none hnew), ← kvsZ_snoc lH]
        have r7 : Reg S3 _ (((R7 K x dx t re le al af ah pr (kvsZ (ra ++ [te1]) (pi ++ [p])) (kvsZ (la ++ [te2]) (pi ++ [p])) [] (kvsZ (asA ++ [aa]) (pi ++ [p])) (kvsZ (asH ++ [ab]) (pi ++ [p])) ++ (lstsZ asA pi (fun _ => []) ++ lstsZ asH pi (fun _ => []))) ++ [(aa, .lst [])]) ++ [(ab, .lst [])]) := r6.set (i := 5) (a := ah) (o := .dK (kvsZ asH pi)) (o' := .dK (kvsZ (asH ++ [ab]) (pi ++ [p]))) rfl
        have r8 := r7.perm (perm4 ..)
        refine ⟨S3, ra ++ [te1], la ++ [te2], asA ++ [aa], asH ++ [ab], _, rfl, sS3, ?_, ?_, ?_, e1, e0⟩
        · rw [lstsZ_snoc _ lA, lstsZ_snoc _ lH]
          exact r8
        · rw [List.length_append, List.length_append, lA]; rfl
        · rw [List.length_append, List.length_append, lH]; rfl
    · rintro σ H' ⟨S', ra, la, asA, asH, u, rfl, sS', r, lA, lH, e1, e0⟩
      rw [List.length_map, List.take_length] at r lA lH e1 e0
      -- the second loop
      have ta9 := (taS8.same sS').same r.same
      obtain ⟨dxt, lr, lp, dn, dr, m, ht, _⟩ := ta9.ex
      refine ⟨_, rfl, t, dxt, _, rfl, ht, l6_mp _ _ _ _ _ _, t, z, rs, rfl, ta9, fun H9 q1 s9 nq1 hq1 => ?_⟩
      rw [← eps] at hq1
      obtain ⟨r9, sS9⟩ := r.grow s9
      have hq1S := out_of hq1 (r.free nq1)
      have sS9' := sS'.trans sS9
      have e1' := e1.same sS9
      have e0' := e0.same sS9
      clear e1 e0
      revert r9 sS9' hq1S e1' e0'
      generalize (out H9 (R7 K x dx t re le al af ah pr (kvsZ ra ps) (kvsZ la ps) [] (kvsZ asA ps) (kvsZ asH ps) ++ (lstsZ asA ps (fun _ => []) ++ lstsZ asH ps (fun _ => [])))) = S4
      intro r9 hq1S sS4 e1 e0
      have taS4 := taS8.same sS4
      have ed1 : Eds S4 (kvsZ ra ps) z rs 1 := by rw [eps] at e1 nd ⊢; exact e1.eds nd
      have ed0 : Eds S4 (kvsZ la ps) z rs 0 := by rw [eps] at e0 nd ⊢; exact e0.eds nd
      refine ⟨q1, rfl, ⟨_, SqL.of hq1⟩, for_list (K := K) (a := q1) (xs := ps.map V.str) (fun i σ H' => ∃ (u : Option V), σ = [some (.ref x), some (.ref t), u] ∧
          Reg S4 H' (R7 K x dx t re le al af ah pr (kvsZ ra ps) (kvsZ la ps) (((ps.take i).filter fun p => decide (sweep rs p = [p])).map fun q => (Sum.inr q, V.bl true)) (kvsZ asA ps) (kvsZ asH ps) ++ (lstsZ asA ps (fun _ => []) ++ lstsZ asH ps (fun _ => []))))
        ⟨_, rfl, r9⟩ (fun i σ H' _ ⟨_, _, r⟩ => SqL.of (r.same _ _ hq1S)) ?_ ?_⟩
      · rintro i y σ H' hi ⟨u, rfl, r⟩
        rw [List.getElem?_map] at hi
        cases ep : ps[i]? with
        | none => rw [ep] at hi; cases hi
        | some p =>
          rw [ep] at hi
          cases hi
          have il : i < ps.length := (List.getElem?_eq_some_iff.mp ep).1
          have et : ps.take (i + 1) = ps.take i ++ [p] := by rw [List.take_add_one, ep]; rfl
          have hp : p ∈ pcs z rs := by rw [← eps]; exact List.mem_of_getElem? ep
          have hnew : ¬ p ∈ ps.take i := fun hm => by
            obtain ⟨j, hj⟩ := List.getElem?_of_mem hm
            rw [List.getElem?_take] at hj
            split at hj
            · have := nd_at nd hj ep
              omega
            · cases hj
          have fe : FolE K H' x dx t re le al af ah pr z rs := ⟨r.get (i := 0) rfl, taS4.same r.same, _, _, r.get (i := 1) rfl, r.get (i := 2) rfl, ed1.same r.same, ed0.same r.same⟩
          have dl : (((ps.take i).filter fun p => decide (sweep rs p = [p])).map fun q => ((Sum.inr q : Key), V.bl true)).length ≤ 36 := by
            rw [List.length_map]
            have h1 := List.length_filter_le (fun p => decide (sweep rs p = [p])) (ps.take i)
            rw [List.length_take] at h1
            omega
          refine ⟨_, rfl, x, dx, _, rfl, r.get (i := 0) rfl, g7_mia _ _ _ _ _ _ _, _, rfl, x, dx, t, re, le, al, af, ah, pr, z, rs, p, _, rfl, fe, hp, r.get (i := 3) rfl, fun j rr hj ej q hq => ?_, fun H1 s1 => ?_⟩
          · have hjl : j < rs.length := (List.getElem?_eq_some_iff.mp hj).1
            have hij : i = z.length + j := by
              refine nd_at nd ep ?_
              rw [eps]
              unfold pcs
              rw [List.getElem?_append_right (by rw [sgs_len]; omega), sgs_len, Nat.add_sub_cancel_left, List.getElem?_map, hj, ← ej]
              rfl
            rw [← pcs_take_eq (by omega), ← hij, ← eps] at hq
            rw [aldT]
            by_cases c : sweep rs q = [q]
            · rw [if_pos c, if_pos (List.mem_filter.mpr ⟨hq, by simpa using c⟩)]
            · rw [if_neg c, if_neg (fun h => c (by simpa using (List.mem_filter.mp h).2))]
          · have r1 := r.step s1
            have ef : (ps.take (i + 1)).filter (fun p => decide (sweep rs p = [p])) = (ps.take i).filter (fun p => decide (sweep rs p = [p])) ++ (if sweep rs p = [p] then [p] else []) := by
              rw [et, List.filter_append]
              by_cases c : sweep rs p = [p]
              · rw [if_pos c]; simp [c]
              · rw [if_neg c]; simp [c]
            rw [ef]
            refine ⟨_, rfl, ?_⟩
            by_cases c : sweep rs p = [p]
            · rw [decide_eq_true c, if_pos c]
              refine iteT ⟨_, rfl, x, _, dx, _, _, rfl, r1.get (i := 0) rfl, T.cl_Follows, T.no_Follows_alone_pieces, g7_al _ _ _ _ _ _ _, _, rfl, al, _, rfl, DPut.k (k := Sum.inr p) (r1.get (i := 3) rfl) (szl (by omega)), ?_⟩
              rw [putK_new _ (by rw [aldT, if_neg (fun h => hnew (List.mem_filter.mp h).1)])]
              refine ⟨_, rfl, ?_⟩
              rw [List.map_append]
              exact r1.set (i := 3) (a := al) (o := .dK (((ps.take i).filter fun p => decide (sweep rs p = [p])).map fun q => (Sum.inr q, V.bl true))) rfl
            · rw [decide_eq_false c, if_neg c, List.append_nil]
              exact iteF ⟨_, rfl, r1⟩
      · rintro σ H' ⟨u, rfl, r⟩
        rw [List.length_map, List.take_length] at r
        have r' : Reg S4 H' ([(x, .ins (FC K) dx (fg7 t re le al af ah pr)), (re, .dK (kvsZ ra ps)), (le, .dK (kvsZ la ps)), (al, .dK ((ps.filter fun p => decide (sweep rs p = [p])).map fun q => (Sum.inr q, V.bl true))), (af, .dK (kvsZ asA ps)), (ah, .dK (kvsZ asH ps))] ++ ((pr, .dT []) :: (lstsZ asA ps (fun _ => []) ++ lstsZ asH ps (fun _ => [])))) := r
        have sH4 := (sS0.trans sS8).trans sS4
        have n1 := sH4.free (r.off _ (List.mem_of_getElem? (show _ = some (re, HO.dK (kvsZ ra ps)) from (rfl : _[1]? = _))))
        have n2 := sH4.free (r.off _ (List.mem_of_getElem? (show _ = some (le, HO.dK (kvsZ la ps)) from (rfl : _[2]? = _))))
        have n3 := sH4.free (r.off _ (List.mem_of_getElem? (show _ = some (al, HO.dK ((ps.filter fun p => decide (sweep rs p = [p])).map fun q => (Sum.inr q, V.bl true))) from (rfl : _[3]? = _))))
        have n4 := sH4.free (r.off _ (List.mem_of_getElem? (show _ = some (af, HO.dK (kvsZ asA ps)) from (rfl : _[4]? = _))))
        have n5 := sH4.free (r.off _ (List.mem_of_getElem? (show _ = some (ah, HO.dK (kvsZ asH ps)) from (rfl : _[5]? = _))))
        have n6 := sH4.free (r.off _ (List.mem_of_getElem? (show _ = some (pr, HO.dT []) from (rfl : _[6]? = _))))
        obtain ⟨rf, sSf, hf⟩ := r'.freeze
        have h0 := hf _ (List.mem_cons_self)
        have h1 := hf _ (List.mem_cons_of_mem _ List.mem_cons_self)
        have h2 := hf _ (List.mem_cons_of_mem _ (List.mem_cons_of_mem _ List.mem_cons_self))
        have h3 := hf _ (List.mem_cons_of_mem _ (List.mem_cons_of_mem _ (List.mem_cons_of_mem _ List.mem_cons_self)))
        have h4 := hf _ (List.mem_cons_of_mem _ (List.mem_cons_of_mem _ (List.mem_cons_of_mem _ (List.mem_cons_of_mem _ List.mem_cons_self))))
        have h5 := hf _ (List.mem_cons_of_mem _ (List.mem_cons_of_mem _ (List.mem_cons_of_mem _ (List.mem_cons_of_mem _ (List.mem_cons_of_mem _ List.mem_cons_self)))))
        have hxH := r.get (i := 0) rfl
        clear hf
        revert rf sSf h0 h1 h2 h3 h4 h5
        generalize (out H' ((pr, .dT []) :: (lstsZ asA ps (fun _ => []) ++ lstsZ asH ps (fun _ => [])))) = S5
        intro rf sSf h0 h1 h2 h3 h4 h5
        subst eps
        have fs : FolS K S5 x dx t re le al af ah pr asA asH z rs := ⟨⟨h0, taS4.same sSf, _, _, h1, h2, ed1.same sSf, ed0.same sSf⟩, h3, h4, h5, lA, lH⟩
        refine ⟨_, rfl, x, dx, _, rfl, hxH, g7_mpa _ _ _ _ _ _ _, S5, x, dx, t, re, le, al, af, ah, pr, asA, asH, z, rs, rfl, fs, ⟨[], rf, ⟨fun l r => (by rw [if_neg (fun h => by cases h.1)]; rfl), Nat.le_refl _⟩⟩, fun S6 H6 sS6 rg => ?_⟩
        obtain ⟨G, rr, pd⟩ := id rg
        have sA := (((sS0.trans sS8).trans sS4).trans sSf).trans sS6
        exact k H6 (sA.trans rr.same) (fol_fr (fs.same sS6) rg sA) ⟨dx, t, re, le, al, af, ah, pr, ((fs.same sS6).fe.same rr.same).hx, n1, n2, n3, n4, n5, n6⟩
theorem mkc_Follows2 (T : Tx K mg) : Mkc P w K mg base CX0 5 "Follows" (FC K) (spFInit2 K) := by
  obtain ⟨⟨f, fd, ps, G, mk, b⟩, g⟩ := mkc_Follows3 (P := P) (w := w) (base := base) T
  refine ⟨⟨f, fd, ps, G.imp fun vs H Q E h => ?_, mk, b⟩, g⟩
  obtain ⟨H0, x, dx, t, z, rs, e1, e2, e3, e4, e5, e6, k⟩ := h
  exact ⟨H0, x, dx, t, z, rs, e1, e2, e3, e4, e5, e6, fun H' s t _ => k H' s t⟩
theorem mkc_Follows (T : Tx K mg) : Mkc P w K mg base CX0 5 "Follows" (FC K) (spFInit K) := by
  obtain ⟨⟨f, fd, ps, G, mk, b⟩, g⟩ := mkc_Follows2 (P := P) (w := w) (base := base) T
  refine ⟨⟨f, fd, ps, G.imp fun vs H Q E h => ?_, mk, b⟩, g⟩
  obtain ⟨H0, x, dx, t, z, rs, e1, e2, e3, e4, e5, e6, k⟩ := h
  exact ⟨H0, x, dx, t, z, rs, e1, e2, e3, e4, e5, e6, fun H' s t => k H' s t.fol⟩
end
end Jr
namespace Jr
open PySem PySem.Spec PyProof.Rows L2
/-- what is done to another object leaves a Follows -/
theorem FolFr.offI {K : PySem.W.Frag} {H0 H H' : Hp} {x t D C dD : Addr} {fD : List (Str × V)} {z : Str} {rs : Rws} (h : FolFr K H0 H x t z rs) (ta : TabAt (TC K) H' t z rs) (k : ∀ b o, H b = some o → b ≠ D → H' b = some o) (hD : H D = some (.ins C dD fD)) (hf : fD.length ≠ 7) : FolAt K H' x z rs := by
  obtain ⟨dx, re, le, al, af, ah, pr, asA, asH, G, fs, hp, pd, h1, h2⟩ := h
  have ends : ∀ (A : List (Key × V)) (side : Nat), Eds H A z rs side → Eds H' A z rs side := fun A side he q hq => by
    obtain ⟨a, es, v, ⟨as, ha, hs⟩, eg⟩ := he q hq
    refine ⟨a, es, v, ⟨as, k _ _ ha (ne_of ha hD (by intro q; cases q)), L2.Paired.mapP hs fun b y hy => k _ _ hy ?_⟩, eg⟩
    have hy' : H b = some (.tup _) := hy
    exact ne_of hy' hD (by intro q; cases q)
  obtain ⟨A, B, e1, e2, e3, e4⟩ := fs.fe.ed
  refine ⟨dx, t, re, le, al, af, ah, pr, asA, asH, G, ⟨⟨k _ _ fs.fe.hx ?_, ta, A, B, k _ _ e1 (ne_of e1 hD (by intro q; cases q)), k _ _ e2 (ne_of e2 hD (by intro q; cases q)), ends _ _ e3, ends _ _ e4⟩, k _ _ fs.hal (ne_of fs.hal hD (by intro q; cases q)), k _ _ fs.haf (ne_of fs.haf hD (by intro q; cases q)), k _ _ fs.hah (ne_of fs.hah hD (by intro q; cases q)), fs.lA, fs.lH⟩, k _ _ hp (ne_of hp hD (by intro q; cases q)), pd, fun i a p ha hp => k _ _ (h1 i a p ha hp).1 (ne_of (h1 i a p ha hp).1 hD (by intro q; cases q)), fun i a p ha hp => k _ _ (h2 i a p ha hp).1 (ne_of (h2 i a p ha hp).1 hD (by intro q; cases q))⟩
  intro e
  have hx := fs.fe.hx
  rw [e, hD] at hx
  simp only [Option.some.injEq, HO.ins.injEq] at hx
  exact hf (by rw [hx.2.2]; rfl)
end Jr
namespace Jr
open PySem PySem.Spec PyProof.Rows L2
abbrev KC (K : PySem.W.Frag) : Addr := He.ga K "Kept"
def kf (f cu : Addr) (t : Str) (wb : Addr) : List (Str × V) := [("held_follows", .ref f), ("held_cutting", .ref cu), ("held_text", .str t), ("ways_back", .ref wb)]
section
variable (f cu : Addr) (t : Str) (wb : Addr)
theorem kf_f : (kf f cu t wb).lookup ("held_follows" : Str) = some (V.ref f) := by kernel_rfl
theorem kf_c : (kf f cu t wb).lookup ("held_cutting" : Str) = some (V.ref cu) := by kernel_rfl
theorem kf_t : (kf f cu t wb).lookup ("held_text" : Str) = some (V.str t) := by kernel_rfl
theorem kf_w : (kf f cu t wb).lookup ("ways_back" : Str) = some (V.ref wb) := by kernel_rfl
theorem kf_mdo : (kf f cu t wb).lookup ("do_change" : Str) = none := by kernel_rfl
theorem kf_mch : (kf f cu t wb).lookup ("change" : Str) = none := by kernel_rfl
theorem kf_mtb : (kf f cu t wb).lookup ("table" : Str) = none := by kernel_rfl
theorem kf_mtx : (kf f cu t wb).lookup ("text" : Str) = none := by kernel_rfl
theorem kf_mcu : (kf f cu t wb).lookup ("cutting" : Str) = none := by kernel_rfl
theorem kf_mun : (kf f cu t wb).lookup ("undo" : Str) = none := by kernel_rfl
theorem kf_putt (u : Str) : putF "held_text" (.str u) (kf f cu t wb) = kf f cu u wb := by kernel_rfl
theorem kf_putc (c : Addr) : putF "held_cutting" (.ref c) (kf f cu t wb) = kf f c t wb := by kernel_rfl
theorem kf_new : putF "ways_back" (.ref wb) (putF "held_text" (.str t) (putF "held_cutting" (.ref cu) (putF "held_follows" (.ref f) []))) = kf f cu t wb := by kernel_rfl
theorem kf_2 : (putF "held_follows" (.ref f) ([] : List (Str × V))).lookup ("held_follows" : Str) = some (V.ref f) := by kernel_rfl
end
/-- what stays of a kept text -/
structure KeptF (K : PySem.W.Frag) (S : Hp) (f : Addr) (z : Str) (rs : Rws) (t : Str) (cu : Addr) : Prop where
  fol : FolAt K S f z rs
  ok : TabOk z rs
  cut : S cu = some (.lst ((sweep rs t).map V.str))
  tx : TextOf z t
  tl : t.length ≤ 1000
theorem KeptF.same {K : PySem.W.Frag} {S S' : Hp} {f : Addr} {z : Str} {rs : Rws} {t : Str} {cu : Addr} (h : KeptF K S f z rs t cu) (s : Same S S') : KeptF K S' f z rs t cu := ⟨h.fol.same s, h.ok, s _ _ h.cut, h.tx, h.tl⟩
/-- what changes -/
def ktL (K : PySem.W.Frag) (x dx f cu : Addr) (t : Str) (wb : Addr) (ws : List V) : List (Addr × HO) := [(x, .ins (KC K) dx (kf f cu t wb)), (wb, .lst ws)]
section
variable {P : Program} {w : World} {K : PySem.W.Frag} {mg : Str → Option Value} {base : Heap}
def spKInit (K : PySem.W.Frag) : Sp := fun vs H Q _ => ∃ (H0 : Hp) (x dx t : Addr) (z : Str) (rs : Rws) (u : Str), vs = [.ref x, .ref t, .str u] ∧ H = upd (upd H0 dx (.own x)) x (.ins (KC K) dx []) ∧ H0 x = none ∧ H0 dx = none ∧ dx ≠ x ∧ TabAt (TC K) H0 t z rs ∧ TextOf z u ∧ u.length ≤ 1000 ∧
  ∀ S H' f cu wb, Same H0 S → KeptF K S f z rs u cu → Reg S H' (ktL K x dx f cu u wb []) → Q .non H'
theorem mkc_Kept (T : Tx K mg) : Mkc P w K mg base CX0 9 "Kept" (KC K) (spKInit K) := by
  have C_Follows := mkc_Follows2 (P := P) (w := w) (base := base) T
  have C_read_on := cal_read_on (P := P) (w := w) (base := base) T
  obtain ⟨fd, F⟩ := T.d_Kept___init__
  refine ⟨⟨_, fd, P_Kept___init__, F.ok sc_Kept___init__ (fun vs H Q E h => ?_) (fun cdv A outer s H vs Q E hr h => ?_), T.mk_Kept, F.bindsN (ps := P_Kept___init__) fun _ _ _ _ _ _ us hl => match us, hl with | [_, _, _], _ => rfl⟩, T.g_Kept⟩
  · obtain ⟨H0, x, dx, t, z, rs, u, rfl, _⟩ := h
    rfl
  · obtain ⟨H0, x, dx, t, z, rs, u, rfl, rfl, nx, ndx, ne, ta, tx, tl, k⟩ := h
    refine ⟨_, (PSs.nox (pss_cons (ps_fld (pv 0) (pe_mk C_Follows (by first | exact hr | exact hr.mono (by decide)) rfl (pa_cons (pv 1) pa_nil)) rfl)
      (pss_cons (ps_fld (pv 0) (pe_cal C_read_on (by first | exact hr | exact hr.mono (by decide)) (by rfl) (pa_cons (pe_fld (pv 0) rfl) (pa_cons (pv 2) pa_nil))) rfl)
      (pss_cons (ps_fld (pv 0) (pv 2) rfl)
      (pss_one (ps_fld (pv 0) (pe_lstG pa_nil) rfl)))))), ?_⟩
    have sd : Same H0 (upd H0 dx (.own x)) := Same.new ndx
    have nx' : (upd H0 dx (.own x)) x = none := by rw [upd_ne (Ne.symm ne)]; exact nx
    have ta0 := ta.same sd
    revert sd nx' ta0
    generalize (upd H0 dx (.own x)) = S0
    intro sd nx' ta0
    have r0 := (Reg.nil S0).new nx' (Same.new nx') (upd_same (o := HO.ins (KC K) dx []))
    revert r0
    generalize (upd S0 x (HO.ins (KC K) dx [])) = H1
    intro r0
    refine ⟨_, rfl, fun f df hf hdf nf => ?_⟩
    refine ⟨H1, f, df, t, z, rs, rfl, rfl, hf, hdf, nf, ta0.same r0.same, fun H2 s2 fr => ⟨rfl, ?_⟩⟩
    have h2 := (r0.step s2).get (i := 0) rfl
    refine ⟨_, rfl, x, _, dx, _, rfl, h2, T.cl_Kept, T.no_Kept_held_follows, (by show 0 < 1000; decide), ?_⟩
    obtain ⟨g2, sS⟩ := r0.grow s2
    have fo := fr.offI (D := x) (ta0.same sS) (fun b o hb nb => out_of hb (fun hm => nb (by simpa using hm))) h2 (by show 0 ≠ 7; decide)
    have s02 := sd.trans sS
    revert g2 fo s02
    generalize (out H2 ([] ++ [(x, HO.ins (KC K) dx [])])) = S
    intro g2 fo s02
    have r3 := g2.set (i := 0) (a := x) (o' := .ins (KC K) dx (putF "held_follows" (.ref f) [])) rfl
    revert r3
    generalize (upd H2 x (.ins (KC K) dx (putF "held_follows" (.ref f) []))) = H3
    intro r3
    have hx3 := r3.get (i := 0) rfl
    refine ⟨_, rfl, x, _, dx, _, _, rfl, hx3, T.cl_Kept, T.no_Kept_held_follows, kf_2 f, _, rfl, f, z, rs, u, rfl, fo.same r3.same, tx, by omega, fun H4 cu s4 ncu hcu => ?_⟩
    obtain ⟨g4, sS4⟩ := r3.grow s4
    have hcS := out_of (L := ([] ++ [(x, HO.ins (KC K) dx [])]).set 0 (x, .ins (KC K) dx (putF "held_follows" (.ref f) []))) hcu (r3.free ncu)
    have fo4 := fo.same sS4
    have s04 := s02.trans sS4
    revert g4 hcS fo4 s04
    generalize (out H4 (([] ++ [(x, HO.ins (KC K) dx [])]).set 0 (x, .ins (KC K) dx (putF "held_follows" (.ref f) [])))) = S4
    intro g4 hcS fo4 s04
    refine ⟨_, rfl, x, _, dx, _, rfl, g4.get (i := 0) rfl, T.cl_Kept, T.no_Kept_held_cutting, (by show 1 < 1000; decide), ?_⟩
    have r5 := g4.set (i := 0) (a := x) (o' := .ins (KC K) dx (putF "held_cutting" (.ref cu) (putF "held_follows" (.ref f) []))) rfl
    revert r5
    generalize (upd H4 x (.ins (KC K) dx (putF "held_cutting" (.ref cu) (putF "held_follows" (.ref f) [])))) = H5
    intro r5
    refine ⟨_, rfl, _, rfl, x, _, dx, _, rfl, r5.get (i := 0) rfl, T.cl_Kept, T.no_Kept_held_text, (by show 2 < 1000; decide), ?_⟩
    have r6 := r5.set (i := 0) (a := x) (o' := .ins (KC K) dx (putF "held_text" (.str u) (putF "held_cutting" (.ref cu) (putF "held_follows" (.ref f) [])))) rfl
    revert r6
    generalize (upd H5 x (.ins (KC K) dx (putF "held_text" (.str u) (putF "held_cutting" (.ref cu) (putF "held_follows" (.ref f) []))))) = H6
    intro r6
    refine ⟨Nat.zero_le _, fun wb H7 nwb s7 hwb => ?_⟩
    have r7 := r6.new nwb s7 hwb
    refine ⟨_, rfl, x, _, dx, _, rfl, r7.get (i := 0) rfl, T.cl_Kept, T.no_Kept_ways_back, (by show 3 < 1000; decide), ?_⟩
    have r8 := r7.set (i := 0) (a := x) (o' := .ins (KC K) dx (putF "ways_back" (.ref wb) (putF "held_text" (.str u) (putF "held_cutting" (.ref cu) (putF "held_follows" (.ref f) []))))) rfl
    rw [kf_new] at r8 ⊢
    exact k S4 _ f cu wb s04 ⟨fo4, ta.ok, hcS, tx, tl⟩ r8
def spKTable (K : PySem.W.Frag) : Sp := fun vs H Q _ => ∃ (x dx f cu wb : Addr) (z : Str) (rs : Rws) (t : Str), vs = [.ref x] ∧ FolAt K H f z rs ∧ H x = some (.ins (KC K) dx (kf f cu t wb)) ∧ ∀ tt, TabAt (TC K) H tt z rs → Q (.ref tt) H
theorem met_ktable (T : Tx K mg) : Met P w K mg base CX0 2 (KC K) "table" (spKTable K) := by
  have M_Follows_table := met_ftable (P := P) (w := w) (base := base) T
  obtain ⟨fd, F⟩ := T.d_Kept_table
  refine ⟨T.cl_Kept, _, fd, P_Kept_table, F.ok sc_Kept_table (fun vs H Q E h => ?_) (fun cdv A outer s H vs Q E hr h => ?_), T.m_Kept_table, F.bindsN (ps := P_Kept_table) fun _ _ _ _ _ _ us hl => match us, hl with | [_], _ => rfl⟩
  · obtain ⟨x, dx, f, cu, wb, z, rs, t, rfl, _⟩ := h
    rfl
  · obtain ⟨x, dx, f, cu, wb, z, rs, t, rfl, fo, hx, k⟩ := h
    refine ⟨_, (PSs.nox (pss_one (ps_ret (pe_met0 M_Follows_table (pe_fld (pv 0) rfl) (by first | exact hr | exact hr.mono (by decide)))))), ?_⟩
    obtain ⟨dxf, t', re, le, al, af, ah, pr, hf⟩ := fo.ins
    exact ⟨_, rfl, x, _, dx, _, _, rfl, hx, T.cl_Kept, T.no_Kept_held_follows, kf_f _ _ _ _, f, dxf, _, rfl, hf, g7_mt _ _ _ _ _ _ _, f, z, rs, rfl, fo, k⟩
def spKText (K : PySem.W.Frag) : Sp := fun vs H Q _ => ∃ (x dx f cu wb : Addr) (t : Str), vs = [.ref x] ∧ H x = some (.ins (KC K) dx (kf f cu t wb)) ∧ Q (.str t) H
theorem met_ktext (T : Tx K mg) : Met P w K mg base CX0 1 (KC K) "text" (spKText K) := by
  obtain ⟨fd, F⟩ := T.d_Kept_text
  refine ⟨T.cl_Kept, _, fd, P_Kept_text, F.ok sc_Kept_text (fun vs H Q E h => ?_) (fun cdv A outer s H vs Q E hr h => ?_), T.m_Kept_text, F.bindsN (ps := P_Kept_text) fun _ _ _ _ _ _ us hl => match us, hl with | [_], _ => rfl⟩
  · obtain ⟨x, dx, f, cu, wb, t, rfl, _⟩ := h
    rfl
  · obtain ⟨x, dx, f, cu, wb, t, rfl, hx, k⟩ := h
    refine ⟨_, (PSs.nox (pss_one (ps_ret (pe_fld (pv 0) rfl)))), ?_⟩
    exact ⟨_, rfl, x, _, dx, _, _, rfl, hx, T.cl_Kept, T.no_Kept_held_text, kf_t _ _ _ _, k⟩
def spKCut (K : PySem.W.Frag) : Sp := fun vs H Q _ => ∃ (x dx f cu wb : Addr) (t : Str) (ys : List Str), vs = [.ref x] ∧ H x = some (.ins (KC K) dx (kf f cu t wb)) ∧ H cu = some (.lst (ys.map V.str)) ∧ ∀ H' b, Same H H' → H b = none → H' b = some (.lst (ys.map V.str)) → Q (.ref b) H'
theorem met_kcut (T : Tx K mg) : Met P w K mg base CX0 1 (KC K) "cutting" (spKCut K) := by
  obtain ⟨fd, F⟩ := T.d_Kept_cutting
  refine ⟨T.cl_Kept, _, fd, P_Kept_cutting, F.ok sc_Kept_cutting (fun vs H Q E h => ?_) (fun cdv A outer s H vs Q E hr h => ?_), T.m_Kept_cutting, F.bindsN (ps := P_Kept_cutting) fun _ _ _ _ _ _ us hl => match us, hl with | [_], _ => rfl⟩
  · obtain ⟨x, dx, f, cu, wb, t, ys, rfl, _⟩ := h
    rfl
  · obtain ⟨x, dx, f, cu, wb, t, ys, rfl, hx, hc, k⟩ := h
    refine ⟨_, (PSs.nox (pss_one (ps_ret (pe_callTy (T := "list") call_listG (by rfl) T.n_list (by decide +kernel) (pa_cons (pe_fld (pv 0) rfl) pa_nil))))), ?_⟩
    exact ⟨_, rfl, x, _, dx, _, _, rfl, hx, T.cl_Kept, T.no_Kept_held_cutting, kf_c _ _ _ _, cu, _, rfl, .inl (SqL.of hc), fun b H1 nb s1 hb => k _ b s1 nb hb⟩
def spKDo (K : PySem.W.Frag) : Sp := fun vs H Q _ => ∃ (S : Hp) (x dx f cu wb : Addr) (z : Str) (rs : Rws) (t put : Str) (pl gn : Nat) (ws : List V) (M : List (Addr × HO)), vs = [.ref x, .int (pl : Nat), .int (gn : Nat), .str put] ∧ KeptF K S f z rs t cu ∧ pl ≤ t.length ∧ gn ≤ t.length - pl ∧ put.length ≤ 1000 ∧ TextOf z put ∧ (chgT t pl gn put).length ≤ 1000 ∧ Reg S H (ktL K x dx f cu t wb ws ++ M) ∧
  ∀ S' H' tt cu', Same S S' → PatchN S S' tt (patchF (sweep rs t) (sweep rs (chgT t pl gn put)) (pl : Nat) ((t.length - pl - gn : Nat) : Int)) → (∀ v a b, S' tt = some (.tup [v, .ref a, .ref b]) → cu' ≠ a ∧ cu' ≠ b) → KeptF K S' f z rs (chgT t pl gn put) cu' → Reg S' H' (ktL K x dx f cu' (chgT t pl gn put) wb ws ++ M) → Q (.ref tt) H'
theorem met_kdo (T : Tx K mg) : Met P w K mg base CX0 9 (KC K) "do_change" (spKDo K) := by
  have C_patch_of := cal_patch_of (P := P) (w := w) (base := base) T
  have C_changed_text := cal_changed_text (P := P) (w := w) (base := base) T
  have C_patched := cal_patched (P := P) (w := w) (base := base) T
  obtain ⟨fd, F⟩ := T.d_Kept_do_change
  refine ⟨T.cl_Kept, _, fd, P_Kept_do_change, F.ok sc_Kept_do_change (fun vs H Q E h => ?_) (fun cdv A outer s H vs Q E hr h => ?_), T.m_Kept_do_change, F.bindsN (ps := P_Kept_do_change) fun _ _ _ _ _ _ us hl => match us, hl with | [_, _, _, _], _ => rfl⟩
  · obtain ⟨S, x, dx, f, cu, wb, z, rs, t, put, pl, gn, ws, M, rfl, _⟩ := h
    rfl
  · obtain ⟨S, x, dx, f, cu, wb, z, rs, t, put, pl, gn, ws, M, rfl, F, h1, h2, h3, tp, cl, rg, k⟩ := h
    refine ⟨_, (PSs.nox (pss_cons (ps_set (i := 4) sc_Kept_do_change.nd rfl (Or.inl rfl) (pe_cal C_patch_of (by first | exact hr | exact hr.mono (by decide)) (by rfl) (pa_cons (pe_fld (pv 0) rfl) (pa_cons (pe_fld (pv 0) rfl) (pa_cons (pv 1) (pa_cons (pv 2) (pa_cons (pv 3) pa_nil)))))))
      (pss_cons (ps_fld (pv 0) (pe_cal C_changed_text (by first | exact hr | exact hr.mono (by decide)) (by rfl) (pa_cons (pe_fld (pv 0) rfl) (pa_cons (pv 1) (pa_cons (pv 2) (pa_cons (pv 3) pa_nil))))) rfl)
      (pss_cons (ps_fld (pv 0) (pe_cal C_patched (by first | exact hr | exact hr.mono (by decide)) (by rfl) (pa_cons (pe_fld (pv 0) rfl) (pa_cons (pv 4) pa_nil))) rfl)
      (pss_one (ps_ret (pv 4))))))), ?_⟩
    have hx := rg.get (i := 0) rfl
    have tl := F.tl
    have tx2 := chgT_text F.tx tp pl gn
    refine ⟨_, rfl, x, _, dx, _, _, rfl, hx, T.cl_Kept, T.no_Kept_held_follows, kf_f _ _ _ _, _, rfl, x, _, dx, _, _, rfl, hx, T.cl_Kept, T.no_Kept_held_cutting, kf_c _ _ _ _, _, rfl, _, rfl, _, rfl, ?_⟩
    refine ⟨f, cu, z, rs, t, put, pl, gn, rfl, F.fol.same rg.same, F.ok, rg.same _ _ F.cut, F.tx, h1, h2, tl, h3, tp, fun H1 tt s1 hp => ?_⟩
    have hp0 := hp.before rg.same
    have r1 := rg.step s1
    have hx1 := r1.get (i := 0) rfl
    refine ⟨_, rfl, x, _, dx, _, _, rfl, hx1, T.cl_Kept, T.no_Kept_held_text, kf_t _ _ _ _, _, rfl, _, rfl, _, rfl, t, put, pl, gn, rfl, h1, h2, by omega, by omega, ?_⟩
    refine ⟨_, rfl, x, _, dx, _, rfl, hx1, T.cl_Kept, T.no_Kept_held_text, (by show 4 < 1000; decide), ?_⟩
    rw [kf_putt]
    have r2 := r1.set (i := 0) (a := x) (o' := .ins (KC K) dx (kf f cu (chgT t pl gn put) wb)) rfl
    have k2 : ∀ b o, b ≠ x → H1 b = some o → (upd H1 x (.ins (KC K) dx (kf f cu (chgT t pl gn put) wb))) b = some o := fun b o n h => by rw [upd_ne n]; exact h
    revert r2 k2
    generalize (upd H1 x (.ins (KC K) dx (kf f cu (chgT t pl gn put) wb))) = H2
    intro r2 k2
    have hx2 := r2.get (i := 0) rfl
    have xr : ∀ b o, H1 b = some o → (∀ fs, o ≠ .ins (KC K) dx fs) → b ≠ x := fun b o hb hn e => by
      rw [e, hx1] at hb
      exact hn _ (Option.some.inj hb).symm
    have hp2 : PatchN S H2 tt (patchF (sweep rs t) (sweep rs (chgT t pl gn put)) (pl : Nat) ((t.length - pl - gn : Nat) : Int)) := by
      obtain ⟨a, b, n0, n1, n2, n3, g1, g2, g3⟩ := hp0
      exact ⟨a, b, n0, n1, n2, n3, k2 _ _ (xr _ _ g1 (by intro fs q; cases q)) g1, k2 _ _ (xr _ _ g2 (by intro fs q; cases q)) g2, k2 _ _ (xr _ _ g3 (by intro fs q; cases q)) g3⟩
    have ll : ∀ u : Str, (sweep rs u).length ≤ u.length := fun u => by
      have := passAll_len rs (sgs u)
      rw [sgs_len] at this
      exact this
    have il : (patchF (sweep rs t) (sweep rs (chgT t pl gn put)) (pl : Nat) ((t.length - pl - gn : Nat) : Int)).into.length ≤ 10000 := by
      have e1 : (patchF (sweep rs t) (sweep rs (chgT t pl gn put)) (pl : Nat) ((t.length - pl - gn : Nat) : Int)).into.length ≤ (sweep rs (chgT t pl gn put)).length := by
        unfold patchF
        rw [List.length_take, List.length_drop]
        omega
      have := ll (chgT t pl gn put)
      omega
    refine ⟨_, rfl, x, _, dx, _, _, rfl, hx2, T.cl_Kept, T.no_Kept_held_cutting, kf_c _ _ _ _, _, rfl, cu, tt, _, _, rfl, SqL.of (r2.same _ _ F.cut), hp2.at_, by have := ll t; omega, il, fun H3 cu' s3 ncu hcu => ?_⟩
    rw [patchF_leads] at hcu
    have hp3 := hp2.after s3
    obtain ⟨g3, sS⟩ := r2.grow s3
    have hcS := out_of (L := (ktL K x dx f cu t wb ws ++ M).set 0 (x, .ins (KC K) dx (kf f cu (chgT t pl gn put) wb))) hcu (r2.free ncu)
    have hpS : PatchN S (out H3 ((ktL K x dx f cu t wb ws ++ M).set 0 (x, .ins (KC K) dx (kf f cu (chgT t pl gn put) wb)))) tt (patchF (sweep rs t) (sweep rs (chgT t pl gn put)) (pl : Nat) ((t.length - pl - gn : Nat) : Int)) := by
      have off : ∀ c, H c = none → ¬ c ∈ (((ktL K x dx f cu t wb ws ++ M).set 0 (x, .ins (KC K) dx (kf f cu (chgT t pl gn put) wb))).map (·.1)) := fun c hc hm => by
        rw [map_set_fst (a := x) (o := .ins (KC K) dx (kf f cu t wb)) _ 0 rfl] at hm
        exact rg.free hc hm
      obtain ⟨a0, b0, m0, m1, m2, m3, q1, q2, q3⟩ := hp
      have et := (s3 _ _ (k2 _ _ (xr _ _ q1 (by intro fs q; cases q)) q1))
      have ea := (s3 _ _ (k2 _ _ (xr _ _ q2 (by intro fs q; cases q)) q2))
      have eb := (s3 _ _ (k2 _ _ (xr _ _ q3 (by intro fs q; cases q)) q3))
      exact ⟨a0, b0, rg.same.free m0, rg.same.free m1, rg.same.free m2, m3, out_of et (off _ m0), out_of ea (off _ m1), out_of eb (off _ m2)⟩
    have fS := F.same sS
    have nc : ∀ v a b, (out H3 ((ktL K x dx f cu t wb ws ++ M).set 0 (x, .ins (KC K) dx (kf f cu (chgT t pl gn put) wb)))) tt = some (.tup [v, .ref a, .ref b]) → cu' ≠ a ∧ cu' ≠ b := fun v a b e => by
      obtain ⟨a0, b0, m0, m1, m2, m3, q1, q2, q3⟩ := hp
      have et := (s3 _ _ (k2 _ _ (xr _ _ q1 (by intro fs q; cases q)) q1))
      have e' := g3.same _ _ e
      rw [et] at e'
      simp only [Option.some.injEq, HO.tup.injEq, List.cons.injEq, V.ref.injEq, and_true] at e'
      obtain ⟨_, rfl, rfl⟩ := e'
      have ea := k2 _ _ (xr _ _ q2 (by intro fs q; cases q)) q2
      have eb := k2 _ _ (xr _ _ q3 (by intro fs q; cases q)) q3
      exact ⟨fun z => (by rw [← z, ncu] at ea; cases ea), fun z => (by rw [← z, ncu] at eb; cases eb)⟩
    revert g3 sS hcS hpS fS nc
    generalize (out H3 ((ktL K x dx f cu t wb ws ++ M).set 0 (x, .ins (KC K) dx (kf f cu (chgT t pl gn put) wb)))) = S3
    intro g3 sS hcS hpS fS nc
    refine ⟨_, rfl, x, _, dx, _, rfl, g3.get (i := 0) rfl, T.cl_Kept, T.no_Kept_held_cutting, (by show 4 < 1000; decide), ?_⟩
    rw [kf_putc]
    have r4 := g3.set (i := 0) (a := x) (o' := .ins (KC K) dx (kf f cu' (chgT t pl gn put) wb)) rfl
    exact ⟨_, rfl, k S3 _ tt cu' sS hpS nc ⟨fS.fol, F.ok, hcS, tx2, cl⟩ r4⟩
end
end Jr
namespace Jr
open PySem PySem.Spec PyProof.Rows L2
/-! ### one table led by another -/
def newC (z1 z2 : Str) : List Nat := z2.cps.toList.filter fun c => !decide (c ∈ z1.cps.toList)
def ledZ (z1 z2 : Str) : Str := z1 ++ ⟨(newC z1 z2).toArray⟩
def keepB (z1 : Str) (rs1 : Rws) (r : Str × Str) : Bool := !decide (jn r ∈ pcs z1 rs1)
def ledR (z1 : Str) (rs1 rs2 : Rws) : Rws := rs1 ++ rs2.filter (keepB z1 rs1)
theorem ledZ_cps (z1 z2 : Str) : (ledZ z1 z2).cps.toList = z1.cps.toList ++ newC z1 z2 := by
  unfold ledZ
  rw [app_cps]
theorem ledZ_mem {z1 z2 : Str} {c : Nat} : c ∈ (ledZ z1 z2).cps.toList ↔ c ∈ z1.cps.toList ∨ c ∈ z2.cps.toList := by
  rw [ledZ_cps, List.mem_append]
  unfold newC
  rw [List.mem_filter]
  by_cases h : c ∈ z1.cps.toList
  · simp [h]
  · simp [h]
theorem ledZ_ok {z1 z2 : Str} (h1 : SignsOk z1) (h2 : SignsOk z2) : SignsOk (ledZ z1 z2) := by
  refine ⟨?_, fun c hc => ?_⟩
  · rw [ledZ_cps, List.nodup_append]
    refine ⟨h1.nd, h2.nd.filter _, fun x hx y hy e => ?_⟩
    have := (List.mem_filter.mp hy).2
    rw [← e] at this
    simp [hx] at this
  · rcases ledZ_mem.mp hc with h | h
    · exact h1.ok c h
    · exact h2.ok c h
theorem sgs_mem {z : Str} {p : Str} : p ∈ sgs z ↔ ∃ c ∈ z.cps.toList, p = sgn c := by
  unfold sgs
  rw [List.mem_map]
  exact ⟨fun ⟨c, h, e⟩ => ⟨c, h, e.symm⟩, fun ⟨c, h, e⟩ => ⟨c, h, e.symm⟩⟩
theorem pcs_mem {z : Str} {rs : Rws} {p : Str} : p ∈ pcs z rs ↔ p ∈ sgs z ∨ ∃ r ∈ rs, jn r = p := by
  unfold pcs
  rw [List.mem_append, List.mem_map]
theorem led_mem {z1 z2 : Str} {rs1 rs2 : Rws} {p : Str} : p ∈ pcs (ledZ z1 z2) (ledR z1 rs1 rs2) ↔ p ∈ pcs z1 rs1 ∨ p ∈ pcs z2 rs2 := by
  rw [pcs_mem, sgs_mem]
  constructor
  · rintro (⟨c, hc, e⟩ | ⟨r, hr, e⟩)
    · rcases ledZ_mem.mp hc with h | h
      · exact .inl (pcs_mem.mpr (.inl (sgs_mem.mpr ⟨c, h, e⟩)))
      · exact .inr (pcs_mem.mpr (.inl (sgs_mem.mpr ⟨c, h, e⟩)))
    · rcases List.mem_append.mp hr with h | h
      · exact .inl (pcs_mem.mpr (.inr ⟨r, h, e⟩))
      · exact .inr (pcs_mem.mpr (.inr ⟨r, (List.mem_filter.mp h).1, e⟩))
  · rintro (h | h)
    · rcases pcs_mem.mp h with q | ⟨r, hr, e⟩
      · obtain ⟨c, hc, e⟩ := sgs_mem.mp q
        exact .inl ⟨c, ledZ_mem.mpr (.inl hc), e⟩
      · exact .inr ⟨r, List.mem_append_left _ hr, e⟩
    · rcases pcs_mem.mp h with q | ⟨r, hr, e⟩
      · obtain ⟨c, hc, e⟩ := sgs_mem.mp q
        exact .inl ⟨c, ledZ_mem.mpr (.inr hc), e⟩
      · by_cases c : jn r ∈ pcs z1 rs1
        · rcases pcs_mem.mp c with q | ⟨r', hr', e'⟩
          · obtain ⟨d, hd, e2⟩ := sgs_mem.mp q
            exact .inl ⟨d, ledZ_mem.mpr (.inl hd), by rw [← e, e2]⟩
          · exact .inr ⟨r', List.mem_append_left _ hr', by rw [e', e]⟩
        · exact .inr ⟨r, List.mem_append_right _ (List.mem_filter.mpr ⟨hr, by simp [keepB, c]⟩), e⟩
theorem filter_take {α : Type} (p : α → Bool) : ∀ (l : List α) (i : Nat) (x : α), (l.filter p)[i]? = some x → ∃ j, l[j]? = some x ∧ p x = true ∧ (l.take j).filter p = (l.filter p).take i
  | [], i, x, h => by simp at h
  | a :: l, i, x, h => by
    cases c : p a with
    | true =>
      rw [List.filter_cons, if_pos c] at h
      cases i with
      | zero =>
        have e : a = x := Option.some.inj h
        subst e
        exact ⟨0, rfl, c, by simp⟩
      | succ i =>
        obtain ⟨j, h1, h2, h3⟩ := filter_take p l i x h
        exact ⟨j + 1, h1, h2, by rw [List.take_succ_cons, List.filter_cons, if_pos c, List.filter_cons, if_pos c, List.take_succ_cons, h3]⟩
    | false =>
      rw [List.filter_cons, if_neg (by simp [c])] at h
      obtain ⟨j, h1, h2, h3⟩ := filter_take p l i x h
      exact ⟨j + 1, h1, h2, by rw [List.take_succ_cons, List.filter_cons, if_neg (by simp [c]), List.filter_cons, if_neg (by simp [c]), h3]⟩
/-- leading makes a table -/
theorem led_ok {z1 z2 : Str} {rs1 rs2 : Rws} (T1 : TabOk z1 rs1) (T2 : TabOk z2 rs2) (h1 : (ledZ z1 z2).length ≤ 12) (h2 : (ledR z1 rs1 rs2).length ≤ 24) : TabOk (ledZ z1 z2) (ledR z1 rs1 rs2) := by
  have nz : 1 ≤ (ledZ z1 z2).length := by
    unfold ledZ
    rw [app_len]
    have := T1.n1
    omega
  refine ⟨ledZ_ok T1.sg T2.sg, nz, h1, h2, fun i r hi => ?_⟩
  unfold ledR at hi ⊢
  by_cases c : i < rs1.length
  · rw [List.getElem?_append_left c] at hi
    rw [List.take_append_of_le_length (by omega)]
    have ro := T1.rows i r hi
    have up : ∀ p, p ∈ pcs z1 (rs1.take i) → p ∈ pcs (ledZ z1 z2) (rs1.take i) := fun p hp => by
      rcases pcs_mem.mp hp with q | q
      · obtain ⟨d, hd, e⟩ := sgs_mem.mp q
        exact pcs_mem.mpr (.inl (sgs_mem.mpr ⟨d, ledZ_mem.mpr (.inl hd), e⟩))
      · exact pcs_mem.mpr (.inr q)
    refine ⟨up _ ro.lm, up _ ro.rm, ro.len, fun hm => ?_⟩
    rcases pcs_mem.mp hm with q | q
    · obtain ⟨d, hd, e⟩ := sgs_mem.mp q
      have l2 : (jn r).length = r.1.length + r.2.length := app_len _ _
      have l3 := ((T1.take i).plen ro.lm).1
      have l4 := ((T1.take i).plen ro.rm).1
      have := congrArg Str.length e
      rw [sgn_len] at this
      omega
    · exact ro.new (pcs_mem.mpr (.inr q))
  · rw [List.getElem?_append_right (by omega)] at hi
    obtain ⟨j, hj, kp, ef⟩ := filter_take (keepB z1 rs1) rs2 (i - rs1.length) r hi
    have et : (rs1 ++ rs2.filter (keepB z1 rs1)).take i = rs1 ++ (rs2.take j).filter (keepB z1 rs1) := by
      rw [List.take_append, List.take_of_length_le (by omega), ef]
    rw [et]
    have ro := T2.rows j r hj
    have e : rs1 ++ (rs2.take j).filter (keepB z1 rs1) = ledR z1 rs1 (rs2.take j) := rfl
    rw [e]
    refine ⟨led_mem.mpr (.inr ro.lm), led_mem.mpr (.inr ro.rm), ro.len, fun hm => ?_⟩
    rcases led_mem.mp hm with q | q
    · have : keepB z1 rs1 r = false := by unfold keepB; rw [decide_eq_true q]; rfl
      rw [this] at kp; cases kp
    · exact ro.new q
/-! ### in any grouping -/
theorem ledZ_assoc (a b c : Str) : ledZ (ledZ a b) c = ledZ a (ledZ b c) := str_ext (by
  have e1 : newC a (ledZ b c) = newC a b ++ (newC b c).filter fun x => !decide (x ∈ a.cps.toList) := by
    unfold newC
    rw [ledZ_cps, List.filter_append]
    rfl
  have e2 : newC (ledZ a b) c = (newC b c).filter fun x => !decide (x ∈ a.cps.toList) := by
    unfold newC
    rw [List.filter_filter]
    refine List.filter_congr fun x hx => ?_
    have m := ledZ_mem (z1 := a) (z2 := b) (c := x)
    by_cases h1 : x ∈ a.cps.toList
    · rw [decide_eq_true (m.mpr (.inl h1)), decide_eq_true h1]; rfl
    · by_cases h2 : x ∈ b.cps.toList
      · rw [decide_eq_true (m.mpr (.inr h2)), decide_eq_true h2]; simp
      · rw [decide_eq_false (fun h => (m.mp h).elim h1 h2), decide_eq_false h1, decide_eq_false h2]; rfl
  rw [ledZ_cps, ledZ_cps, ledZ_cps, List.append_assoc, e1, e2])
theorem ledR_assoc (z1 z2 : Str) (rs1 rs2 rs3 : Rws) : ledR (ledZ z1 z2) (ledR z1 rs1 rs2) rs3 = ledR z1 rs1 (ledR z2 rs2 rs3) := by
  have e : rs3.filter (keepB (ledZ z1 z2) (ledR z1 rs1 rs2)) = (rs3.filter (keepB z2 rs2)).filter (keepB z1 rs1) := by
    rw [List.filter_filter]
    refine List.filter_congr fun r hr => ?_
    unfold keepB
    have m := led_mem (z1 := z1) (z2 := z2) (rs1 := rs1) (rs2 := rs2) (p := jn r)
    by_cases h1 : jn r ∈ pcs z1 rs1
    · rw [decide_eq_true (m.mpr (.inl h1)), decide_eq_true h1]; rfl
    · by_cases h2 : jn r ∈ pcs z2 rs2
      · rw [decide_eq_true (m.mpr (.inr h2)), decide_eq_true h2]; simp
      · rw [decide_eq_false (fun h => (m.mp h).elim h1 h2), decide_eq_false h1, decide_eq_false h2]; rfl
  show ledR z1 rs1 rs2 ++ rs3.filter (keepB (ledZ z1 z2) (ledR z1 rs1 rs2)) = rs1 ++ (rs2 ++ rs3.filter (keepB z2 rs2)).filter (keepB z1 rs1)
  rw [e, List.filter_append, ← List.append_assoc]
  rfl
theorem ledZ_le1 (a b : Str) : a.length ≤ (ledZ a b).length := by
  unfold ledZ
  rw [app_len]; omega
theorem ledZ_le2 {a b : Str} (h : SignsOk b) : b.length ≤ (ledZ a b).length := by
  rw [← len_cps, ← len_cps]
  exact pigeon _ _ h.nd fun x hx => ledZ_mem.mpr (.inr hx)
theorem ledR_le1 (z1 : Str) (rs1 rs2 : Rws) : rs1.length ≤ (ledR z1 rs1 rs2).length := by
  unfold ledR
  rw [List.length_append]; omega
theorem ledR_le2 {z1 z2 : Str} {rs1 rs2 : Rws} (nd : (pcs z2 rs2).Nodup) (l2 : ∀ r ∈ rs2, 2 ≤ (jn r).length) : rs2.length ≤ (ledR z1 rs1 rs2).length := by
  have n2 : (rs2.map jn).Nodup := by
    unfold pcs at nd
    exact (List.nodup_append.mp nd).2.1
  have := pigeon (rs2.map jn) ((ledR z1 rs1 rs2).map jn) n2 fun p hp => by
    obtain ⟨r, hr, rfl⟩ := List.mem_map.mp hp
    have hm := led_mem (z1 := z1) (z2 := z2) (rs1 := rs1) (rs2 := rs2) (p := jn r) |>.mpr (.inr (pcs_mem.mpr (.inr ⟨r, hr, rfl⟩)))
    rcases pcs_mem.mp hm with q | ⟨r', hr', e⟩
    · obtain ⟨d, _, e⟩ := sgs_mem.mp q
      have l := l2 r hr
      rw [e, sgn_len] at l
      omega
    · exact List.mem_map.mpr ⟨r', hr', e⟩
  rw [List.length_map, List.length_map] at this
  exact this
theorem TabOk.row2 {z : Str} {rs : Rws} (T : TabOk z rs) : ∀ r ∈ rs, 2 ≤ (jn r).length := fun r hr => by
  obtain ⟨j, hj⟩ := List.getElem?_of_mem hr
  have ro := T.rows j r hj
  have l2 : (jn r).length = r.1.length + r.2.length := app_len _ _
  have l3 := ((T.take j).plen ro.lm).1
  have l4 := ((T.take j).plen ro.rm).1
  omega
/-- whether both together are a table -/
def ledFits (z1 : Str) (rs1 : Rws) (z2 : Str) (rs2 : Rws) : Prop := (ledZ z1 z2).length ≤ 12 ∧ (ledR z1 rs1 rs2).length ≤ 24
instance (z1 : Str) (rs1 : Rws) (z2 : Str) (rs2 : Rws) : Decidable (ledFits z1 rs1 z2 rs2) := by unfold ledFits; infer_instance
end Jr
namespace Jr
open PySem PySem.Spec PyProof.Rows L2
/-! ### texts sorted: one order only -/
theorem risingS_iff : ∀ (p : Str) (l : List Str), risingS p l = true → ∀ y ∈ l, p.cps.toList ≤ y.cps.toList
  | _, [], _, _, h => by cases h
  | p, x :: r, h, y, hy => by
    have h' : (!ltCps x.cps.toList p.cps.toList && risingS x r) = true := h
    obtain ⟨h1, h2⟩ := Bool.and_eq_true_iff.mp h'
    rw [ltCps_eq] at h1
    have hp : p.cps.toList ≤ x.cps.toList := List.not_lt.mp (of_decide_eq_false (by simpa using h1))
    rcases List.mem_cons.mp hy with rfl | hy
    · exact hp
    · exact List.le_trans hp (risingS_iff x r h2 y hy)
theorem sortedS_tail {x : Str} {l : List Str} (h : sortedS (x :: l) = true) : sortedS l = true := by
  cases l with
  | nil => rfl
  | cons y r => exact (Bool.and_eq_true_iff.mp (show (!ltCps y.cps.toList x.cps.toList && risingS y r) = true from h)).2
theorem sortedS_one : ∀ (ys zs : List Str), ys.Perm zs → sortedS ys = true → sortedS zs = true → ys = zs
  | [], zs, p, _, _ => (List.nil_perm.mp p).symm
  | y :: ys, zs, p, hy, hz => by
    cases zs with
    | nil => exact absurd p.length_eq (by simp)
    | cons z zs =>
      have e : y = z := by
        have m1 : z ∈ y :: ys := p.symm.subset (List.mem_cons_self ..)
        have m2 : y ∈ z :: zs := p.subset (List.mem_cons_self ..)
        rcases List.mem_cons.mp m1 with e | m1
        · exact e.symm
        · rcases List.mem_cons.mp m2 with e | m2
          · exact e
          · exact str_ext (List.le_antisymm (risingS_iff y ys hy z m1) (risingS_iff z zs hz y m2))
      subst e
      rw [sortedS_one ys zs p.cons_inv (sortedS_tail hy) (sortedS_tail hz)]
theorem led_perm {z1 z2 : Str} {rs1 rs2 : Rws} (T1 : TabOk z1 rs1) (T2 : TabOk z2 rs2) (T : TabOk (ledZ z1 z2) (ledR z1 rs1 rs2)) : (pcs (ledZ z1 z2) (ledR z1 rs1 rs2)).Perm (pcs z1 rs1 ++ (pcs z2 rs2).filter fun p => !decide (p ∈ pcs z1 rs1)) := by
  refine (List.perm_ext_iff_of_nodup T.nodup ?_).mpr fun p => ?_
  · rw [List.nodup_append]
    refine ⟨T1.nodup, T2.nodup.sublist (List.filter_sublist), fun a ha b hb e => ?_⟩
    subst e
    have := (List.mem_filter.mp hb).2
    rw [decide_eq_true ha] at this
    cases this
  · rw [led_mem, List.mem_append, List.mem_filter]
    constructor
    · rintro (h | h)
      · exact .inl h
      · by_cases c : p ∈ pcs z1 rs1
        · exact .inl c
        · exact .inr ⟨h, by rw [decide_eq_false c]; rfl⟩
    · rintro (h | h)
      · exact .inl h
      · exact .inr h.1
end Jr
namespace Jr
open PySem PySem.Spec PyProof.Rows L2
/-! ### two tables: whether they cut every text alike -/
def SameZ (z1 z2 : Str) : Prop := ∀ c, c ∈ z1.cps.toList ↔ c ∈ z2.cps.toList
theorem SameZ.symm {z1 z2 : Str} (h : SameZ z1 z2) : SameZ z2 z1 := fun c => (h c).symm
theorem SameZ.refl (z : Str) : SameZ z z := fun _ => Iff.rfl
theorem SameZ.trans {z1 z2 z3 : Str} (h : SameZ z1 z2) (g : SameZ z2 z3) : SameZ z1 z3 := fun c => (h c).trans (g c)
theorem SameZ.text {z1 z2 t : Str} (h : SameZ z1 z2) (x : TextOf z1 t) : TextOf z2 t := fun c hc => (h c).mp (x c hc)
instance {z1 z2 : Str} : Decidable (SameZ z1 z2) := by
  have : (SameZ z1 z2) ↔ ((∀ c ∈ z1.cps.toList, c ∈ z2.cps.toList) ∧ ∀ c ∈ z2.cps.toList, c ∈ z1.cps.toList) := ⟨fun h => ⟨fun c hc => (h c).mp hc, fun c hc => (h c).mpr hc⟩, fun h c => ⟨h.1 c, h.2 c⟩⟩
  exact decidable_of_iff _ this.symm
def inOne (a b : List Str) : List Str := (a.filter fun x => !decide (x ∈ b)) ++ b.filter fun x => !decide (x ∈ a)
theorem inOne_mem {a b : List Str} {x : Str} : x ∈ inOne a b ↔ (x ∈ a ∧ ¬ x ∈ b) ∨ (x ∈ b ∧ ¬ x ∈ a) := by
  unfold inOne
  rw [List.mem_append, List.mem_filter, List.mem_filter]
  simp
theorem inOne_nil {a b : List Str} (h : inOne a b = []) (x : Str) : x ∈ a ↔ x ∈ b := by
  have n : ¬ x ∈ inOne a b := by rw [h]; simp
  rw [inOne_mem] at n
  by_cases c1 : x ∈ a <;> by_cases c2 : x ∈ b <;> simp_all
def besA (z : Str) (rs : Rws) (l : Str) : List Str := (pcs z rs).filter fun o => fitB rs (l, o)
theorem besA_mem {z : Str} {rs : Rws} {l r : Str} : r ∈ besA z rs l ↔ r ∈ pcs z rs ∧ sweep rs (l ++ r) = [l, r] := by
  unfold besA fitB
  rw [List.mem_filter, decide_eq_true_iff]
theorem alW {z : Str} {rs : Rws} {p : Str} : p ∈ AL z rs ↔ p ∈ pcs z rs ∧ sweep rs p = [p] := by
  unfold AL
  rw [List.mem_filter, decide_eq_true_iff]
def unlikeF (z1 : Str) (rs1 : Rws) (z2 : Str) (rs2 : Rws) : Option Str :=
  match inOne (AL z1 rs1) (AL z2 rs2) with
  | x :: _ => some x
  | [] => (AL z1 rs1).findSome? fun l => ((inOne (besA z1 rs1 l) (besA z2 rs2 l)).head?).map fun r => l ++ r
theorem flat_text {rs : Rws} {t : Str} : mkS (flat (sweep rs t)) = t := str_ext (by rw [mkS_cps, sweep_flat])
theorem alike_of {z1 z2 : Str} {rs1 rs2 : Rws} (T2 : TabOk z2 rs2) (T1 : TabOk z1 rs1)
    (h1 : ∀ p, p ∈ AL z1 rs1 → p ∈ AL z2 rs2) (h2 : ∀ l ∈ AL z1 rs1, ∀ r, r ∈ besA z1 rs1 l → r ∈ besA z2 rs2 l) {t : Str} (tx : TextOf z1 t) : sweep rs1 t = sweep rs2 t := by
  obtain ⟨a, b⟩ := cut_fits T1 (t := t)
  have hin : ∀ p ∈ sweep rs1 t, p ∈ pcs z1 rs1 := fun p hp => sweep_pc tx hp
  have := sweep_join T2 (sweep rs1 t) (fun p hp => (alW.mp (h1 p (alW.mpr ⟨hin p hp, a p hp⟩))).2) (fun q hq => by
    have m1 : q.1 ∈ sweep rs1 t := (List.of_mem_zip hq).1
    have m2 : q.2 ∈ sweep rs1 t := List.mem_of_mem_drop (List.of_mem_zip hq).2
    exact (besA_mem.mp (h2 q.1 (alW.mpr ⟨hin _ m1, a _ m1⟩) q.2 (besA_mem.mpr ⟨hin _ m2, b q hq⟩))).2)
  rw [flat_text] at this
  exact this.symm
theorem unlike_none {z1 z2 : Str} {rs1 rs2 : Rws} (T1 : TabOk z1 rs1) (T2 : TabOk z2 rs2) (h : unlikeF z1 rs1 z2 rs2 = none) {t : Str} (tx : TextOf z1 t) : sweep rs1 t = sweep rs2 t := by
  unfold unlikeF at h
  split at h
  · cases h
  rename_i e
  rw [List.findSome?_eq_none_iff] at h
  refine alike_of T2 T1 (fun p hp => (inOne_nil e p).mp hp) (fun l hl r hr => ?_) tx
  have := h l hl
  rw [Option.map_eq_none_iff, List.head?_eq_none_iff] at this
  exact (inOne_nil this r).mp hr
/-- alone by one table only: cut otherwise by the other -/
theorem lone_cut {z1 z2 : Str} {rs1 rs2 : Rws} (T1 : TabOk z1 rs1) (s : SameZ z1 z2) {x : Str} (h : x ∈ AL z1 rs1) (n : ¬ x ∈ AL z2 rs2) : sweep rs1 x ≠ sweep rs2 x := fun e => by
  obtain ⟨a, b⟩ := alW.mp h
  have e2 : sweep rs2 x = [x] := e.symm.trans b
  have tx := s.text (pc_text T1 a)
  exact n (alW.mpr ⟨sweep_pc tx (by rw [e2]; exact List.mem_cons_self), e2⟩)
theorem fit_cut {z1 z2 : Str} {rs1 rs2 : Rws} (hA : ∀ p, p ∈ AL z1 rs1 → p ∈ AL z2 rs2) {l r : Str} (h : r ∈ besA z1 rs1 l) (n : ¬ r ∈ besA z2 rs2 l) : r ∈ AL z1 rs1 ∧ sweep rs1 (l ++ r) ≠ sweep rs2 (l ++ r) := by
  obtain ⟨a, b⟩ := besA_mem.mp h
  have ra : r ∈ AL z1 rs1 := alW.mpr ⟨a, (fit_alone b).2⟩
  refine ⟨ra, fun e => n (besA_mem.mpr ⟨(alW.mp (hA r ra)).1, e.symm.trans b⟩)⟩
/-- what a text told is -/
structure Unl (z1 : Str) (rs1 : Rws) (z2 : Str) (rs2 : Rws) (t : Str) : Prop where
  tx : TextOf z1 t
  len : 1 ≤ t.length ∧ t.length ≤ 32
  ne : sweep rs1 t ≠ sweep rs2 t
  how : (t ∈ pcs z1 rs1 ∨ t ∈ pcs z2 rs2) ∨ ∃ l r, l ∈ AL z1 rs1 ∧ r ∈ AL z1 rs1 ∧ t = l ++ r
theorem unlike_some {z1 z2 : Str} {rs1 rs2 : Rws} (T1 : TabOk z1 rs1) (T2 : TabOk z2 rs2) (s : SameZ z1 z2) {t : Str} (h : unlikeF z1 rs1 z2 rs2 = some t) : Unl z1 rs1 z2 rs2 t := by
  unfold unlikeF at h
  split at h
  · rename_i x r e
    rw [← Option.some.inj h]
    have hx : x ∈ inOne (AL z1 rs1) (AL z2 rs2) := by rw [e]; exact List.mem_cons_self
    rcases inOne_mem.mp hx with ⟨a, n⟩ | ⟨a, n⟩
    · have a1 := (alW.mp a).1
      have l := T1.plen a1
      exact ⟨pc_text T1 a1, ⟨l.1, by omega⟩, lone_cut T1 s a n, .inl (.inl a1)⟩
    · have a1 := (alW.mp a).1
      have l := T2.plen a1
      exact ⟨s.symm.text (pc_text T2 a1), ⟨l.1, by omega⟩, fun e => lone_cut T2 s.symm a n e.symm, .inl (.inr a1)⟩
  · rename_i e
    obtain ⟨l, hl, hr⟩ := List.exists_of_findSome?_eq_some h
    obtain ⟨r, hr2, rfl⟩ := Option.map_eq_some_iff.mp hr
    have hr := List.mem_of_head? hr2
    have ll := T1.plen (alW.mp hl).1
    have lt := app_len l r
    rcases inOne_mem.mp hr with ⟨a, n⟩ | ⟨a, n⟩
    · obtain ⟨ra, ne⟩ := fit_cut (fun p hp => (inOne_nil e p).mp hp) a n
      have lr := T1.plen (alW.mp ra).1
      exact ⟨text_app (pc_text T1 (alW.mp hl).1) (pc_text T1 (alW.mp ra).1), ⟨by omega, by omega⟩, ne, .inr ⟨l, r, hl, ra, rfl⟩⟩
    · obtain ⟨ra, ne⟩ := fit_cut (fun p hp => (inOne_nil e p).mpr hp) a n
      have ra1 := (inOne_nil e r).mpr ra
      have lr := T1.plen (alW.mp ra1).1
      exact ⟨text_app (pc_text T1 (alW.mp hl).1) (pc_text T1 (alW.mp ra1).1), ⟨by omega, by omega⟩, fun e => ne e.symm, .inr ⟨l, r, hl, ra1, rfl⟩⟩
/-- none told just where every text is cut alike -/
theorem unlike_iff {z1 z2 : Str} {rs1 rs2 : Rws} (T1 : TabOk z1 rs1) (T2 : TabOk z2 rs2) (s : SameZ z1 z2) : unlikeF z1 rs1 z2 rs2 = none ↔ ∀ t, TextOf z1 t → sweep rs1 t = sweep rs2 t := by
  refine ⟨fun h t tx => unlike_none T1 T2 h tx, fun h => ?_⟩
  cases e : unlikeF z1 rs1 z2 rs2 with
  | none => rfl
  | some t => exact absurd (h t (unlike_some T1 T2 s e).tx) (unlike_some T1 T2 s e).ne
/-- the law's look at pieces and pairs -/
def AliB (z1 : Str) (rs1 : Rws) (z2 : Str) (rs2 : Rws) : Prop := (∀ p, p ∈ pcs z1 rs1 ∨ p ∈ pcs z2 rs2 → sweep rs1 p = sweep rs2 p) ∧ ∀ l ∈ AL z1 rs1, ∀ r ∈ AL z1 rs1, sweep rs1 (l ++ r) = sweep rs2 (l ++ r)
theorem aliB_iff {z1 z2 : Str} {rs1 rs2 : Rws} (T1 : TabOk z1 rs1) (T2 : TabOk z2 rs2) (s : SameZ z1 z2) : AliB z1 rs1 z2 rs2 ↔ unlikeF z1 rs1 z2 rs2 = none := by
  constructor
  · intro h
    cases e : unlikeF z1 rs1 z2 rs2 with
    | none => rfl
    | some t =>
      have u := unlike_some T1 T2 s e
      rcases u.how with a | ⟨l, r, hl, hr, rfl⟩
      · exact absurd (h.1 t a) u.ne
      · exact absurd (h.2 l hl r hr) u.ne
  · intro h
    refine ⟨fun p hp => unlike_none T1 T2 h ?_, fun l hl r hr => unlike_none T1 T2 h (text_app (pc_text T1 (alW.mp hl).1) (pc_text T1 (alW.mp hr).1))⟩
    rcases hp with a | a
    · exact pc_text T1 a
    · exact s.symm.text (pc_text T2 a)
/-- signs in their order tell whether two texts have the same -/
theorem same_sorted {z1 z2 : Str} (s1 : SignsOk z1) (s2 : SignsOk z2) {ys1 ys2 : List Str} (p1 : ys1.Perm (sgs z1)) (p2 : ys2.Perm (sgs z2)) (o1 : sortedS ys1 = true) (o2 : sortedS ys2 = true) : ys1 = ys2 ↔ SameZ z1 z2 := by
  have ms : ∀ {z : Str} {c : Nat}, sgn c ∈ sgs z ↔ c ∈ z.cps.toList := fun {z c} => by
    unfold sgs
    rw [List.mem_map]
    refine ⟨fun ⟨d, hd, e⟩ => ?_, fun h => ⟨c, h, rfl⟩⟩
    have : d = c := by
      have e2 := congrArg (fun x : Str => x.cps.toList) e
      simpa [sgn] using e2
    rwa [this] at hd
  constructor
  · intro e c
    rw [← ms, ← ms, ← p1.mem_iff, ← p2.mem_iff, e]
  · intro s
    refine sortedS_one _ _ (p1.trans ((?_ : (sgs z1).Perm (sgs z2)).trans p2.symm)) o1 o2
    unfold sgs
    exact List.Perm.map _ ((List.perm_ext_iff_of_nodup s1.nd s2.nd).mpr s)
end Jr
namespace Jr
open PySem PySem.Spec PyProof.Rows L2
theorem TabOk.rasc50 {z : Str} {rs : Rws} (T : TabOk z rs) : ∀ r ∈ rs, Asc r.1 ∧ Asc r.2 := fun r hr => by
  obtain ⟨j, hj⟩ := List.getElem?_of_mem hr
  have ro := T.rows j r hj
  have T' := T.take j
  exact ⟨T'.asc ro.lm, T'.asc ro.rm⟩
/-- the numbers of the pieces, sign by sign -/
def dueN : Nat → List Str → List Nat
  | _, [] => []
  | k, y :: ys => List.replicate y.length k ++ dueN (k + 1) ys
theorem dueN_len : ∀ (k : Nat) (ys : List Str), (dueN k ys).length = (flat ys).length
  | _, [] => rfl
  | k, y :: ys => by
    show (List.replicate y.length k ++ dueN (k + 1) ys).length = _
    rw [List.length_append, List.length_replicate, dueN_len, flat_cons, List.length_append, len_cps]
theorem dueN_snoc : ∀ (k : Nat) (ys : List Str) (q : Str), dueN k (ys ++ [q]) = dueN k ys ++ List.replicate q.length (k + ys.length)
  | k, [], q => by show List.replicate q.length k ++ [] = [] ++ List.replicate q.length (k + 0); simp
  | k, y :: ys, q => by
    show List.replicate y.length k ++ dueN (k + 1) (ys ++ [q]) = (List.replicate y.length k ++ dueN (k + 1) ys) ++ _
    rw [dueN_snoc, List.append_assoc, List.length_cons, show k + 1 + ys.length = k + (ys.length + 1) by omega]
theorem dueN_get : ∀ (ys : List Str) (k j n : Nat), (flat (ys.take j)).length ≤ n → n < (flat (ys.take (j + 1))).length → (dueN k ys)[n]? = some (k + j)
  | [], k, j, n, _, h => by rw [List.take_nil] at h; exact absurd h (Nat.not_lt_zero _)
  | y :: ys, k, j, n, h1, h2 => by
    show (List.replicate y.length k ++ dueN (k + 1) ys)[n]? = _
    cases j with
    | zero =>
      have h2' : n < y.length := by
        have : (flat ((y :: ys).take (0 + 1))).length = y.length := by
          show (flat [y]).length = _
          rw [flat_cons, List.length_append, len_cps]; rfl
        omega
      rw [List.getElem?_append_left (by rw [List.length_replicate]; exact h2'), List.getElem?_replicate, if_pos h2']
      rfl
    | succ j =>
      rw [List.take_succ_cons, flat_cons, List.length_append, len_cps] at h1 h2
      rw [List.getElem?_append_right (by rw [List.length_replicate]; omega), List.length_replicate, dueN_get ys (k + 1) j (n - y.length) (by omega) (by omega)]
      congr 1
      omega
theorem eqIntD (a : Int) : PyData.eqv (.int a) (.int a) = true := by
  rw [PyData.eqv]
  simp
end Jr
namespace Jr
open PySem PySem.Spec PyProof.Rows L2
/-! ### what is to undo: the ways back, the texts ahead -/
structure Ent where
  pl : Nat
  gn : Nat
  put : Str
  old : Str
structure EntOk (z : Str) (most : Nat) (t : Str) (e : Ent) : Prop where
  pl : e.pl ≤ t.length
  gn : e.gn ≤ t.length - e.pl
  len : e.put.length ≤ most
  tx : TextOf z e.put
  eq : chgT t e.pl e.gn e.put = e.old
  ol : e.old.length ≤ most
inductive Stk (z : Str) (most : Nat) (first : Str) : List Ent → Str → Prop
  | nil : Stk z most first [] first
  | snoc {es : List Ent} {e : Ent} {t : Str} : Stk z most first es e.old → EntOk z most t e → Stk z most first (es ++ [e]) t
theorem Stk.last {z : Str} {most : Nat} {first t : Str} {es : List Ent} {e : Ent} (h : Stk z most first (es ++ [e]) t) : Stk z most first es e.old ∧ EntOk z most t e := by
  generalize eq : es ++ [e] = xs at h
  cases h with
  | nil => simp at eq
  | snoc h1 h2 =>
    obtain ⟨rfl, e2⟩ := List.append_inj' eq rfl
    have := (List.cons.inj e2).1
    subst this
    exact ⟨h1, h2⟩
theorem Stk.empty {z : Str} {most : Nat} {first t : Str} (h : Stk z most first [] t) : t = first := by
  generalize eq : ([] : List Ent) = xs at h
  cases h with
  | nil => rfl
  | snoc _ _ => simp at eq
def topT (es : List Ent) (t : Str) : Str := match es.getLast? with
  | none => t
  | some e => e.old
def EntAt (S : Hp) (a : Addr) (e : Ent) : Prop := ∃ b, S a = some (.tup [.ref b, .str e.old]) ∧ S b = some (.tup [.int (e.pl : Nat), .int (e.gn : Nat), .str e.put])
def WayAt (S : Hp) (v : V) (e : Ent) : Prop := ∃ y, v = .ref y ∧ S y = some (.tup [.int (e.pl : Nat), .int (e.gn : Nat), .str e.put])
theorem EntAt.same {S S' : Hp} {a : Addr} {e : Ent} (h : EntAt S a e) (s : Same S S') : EntAt S' a e := by
  obtain ⟨b, h1, h2⟩ := h
  exact ⟨b, s _ _ h1, s _ _ h2⟩
theorem WayAt.same {S S' : Hp} {v : V} {e : Ent} (h : WayAt S v e) (s : Same S S') : WayAt S' v e := by
  obtain ⟨b, h1, h2⟩ := h
  exact ⟨b, h1, s _ _ h2⟩
def dEnt (e : Ent) : PyData := .tuple [.tuple [.int ((e.pl : Nat) : Int), .int ((e.gn : Nat) : Int), .str e.put], .str e.old]
def dStk (es : List Ent) : PyData := .list (es.map dEnt)
theorem dpEnts {K : PySem.W.Frag} {H : Hp} : ∀ {as : List Addr} {es : List Ent}, Paired (EntAt H) as es → DpAll K H (as.map V.ref) (es.map dEnt)
  | _, _, .nil => .nil
  | _, _, .cons h q => by
    obtain ⟨b, h1, h2⟩ := h
    exact .cons (.tup (SqT.of h1) (.cons (.tup (SqT.of h2) (.cons (.int _) (.cons (.int _) (.cons (.str _) .nil)))) (.cons (.str _) .nil))) (dpEnts q)
theorem dpStk {K : PySem.W.Frag} {H : Hp} {a : Addr} {as : List Addr} {es : List Ent} (h : H a = some (.lst (as.map V.ref))) (p : Paired (EntAt H) as es) : Dp K H (.ref a) (dStk es) := .lst (SqL.of h) (dpEnts p)
theorem lay_ents : ∀ es : List Ent, (∀ e ∈ es, Asc e.put ∧ Asc e.old) → PyData.canLayAll0 (es.map dEnt) = true
  | [], _ => by simp [PyData.canLayAll0]
  | e :: es, h => by
    obtain ⟨h1, h2⟩ := h e List.mem_cons_self
    have h3 := lay_ents es fun y hy => h y (List.mem_cons_of_mem _ hy)
    simp [PyData.canLayAll0, PyData.canLay0, dEnt, asc_ok h1, asc_ok h2, h3]
theorem dep_ents : ∀ es : List Ent, PyData.depthAll (es.map dEnt) ≤ 2
  | [] => by simp [PyData.depthAll]
  | e :: es => by
    have := dep_ents es
    simp only [List.map_cons, PyData.depthAll, PyData.depth, dEnt]
    omega
theorem shStk {es : List Ent} (h : ∀ e ∈ es, Asc e.put ∧ Asc e.old) : SeqAt.shaped (dStk es) = true := by
  unfold SeqAt.shaped dStk
  have h1 : PyData.canLay0 (.list (es.map dEnt)) = true := by simp [PyData.canLay0, lay_ents es h]
  have h2 : PyData.depth (.list (es.map dEnt)) ≤ 3 := by
    have := dep_ents es
    simp only [PyData.depth]
    omega
  rw [h1, decide_eq_true (Nat.le_trans h2 (by decide))]; rfl
theorem eqStk0 (es : List Ent) : PyData.eqv (dStk es) (dS []) = decide (es = []) := by
  unfold dStk dS
  rw [PyData.eqv]
  cases es with
  | nil => simp [PyData.eqvAll]
  | cons e es => simp [PyData.eqvAll]
theorem chgT_back {t put : Str} {pl gn : Nat} (h1 : pl ≤ t.length) (h2 : gn ≤ t.length - pl) : chgT (chgT t pl gn put) pl put.length (midS t pl (pl + gn)) = t := by
  have lp := preS_len t h1
  have e1 : preS (chgT t pl gn put) pl = preS t pl := str_ext (by
    rw [preS_cps]
    unfold chgT
    rw [app_cps, app_cps, List.append_assoc, List.take_append_of_le_length (by rw [len_cps, lp]; exact Nat.le_refl _), List.take_of_length_le (by rw [len_cps, lp]; exact Nat.le_refl _)])
  have e2 : sufS (chgT t pl gn put) (pl + put.length) = sufS t (pl + gn) := str_ext (by
    rw [sufS_cps]
    unfold chgT
    rw [app_cps, List.drop_append_of_le_length (by rw [len_cps, app_len, lp]; exact Nat.le_refl _), List.drop_of_length_le (by rw [len_cps, app_len, lp]; exact Nat.le_refl _), List.nil_append])
  unfold chgT
  show preS (chgT t pl gn put) pl ++ midS t pl (pl + gn) ++ sufS (chgT t pl gn put) (pl + put.length) = t
  rw [e1, e2, ← pre_mid t (Nat.le_add_right pl gn), pre_suf]
end Jr
namespace Jr
open PySem PySem.Spec PyProof.Rows L2
section
variable {P : Program} {w : World} {K : PySem.W.Frag} {mg : Str → Option Value} {base : Heap}
theorem cal__law_whole (T : Tx K mg) : Cal P w K mg base CX0 1 "_law_whole" (spWhole K) := by
  obtain ⟨fd, F⟩ := T.d__law_whole
  refine ⟨_, fd, P__law_whole, F.ok sc__law_whole (fun vs H Q E h => ?_) (fun cdv A outer s H vs Q E hr h => ?_), T.g__law_whole, F.kp, F.bindsN (ps := P__law_whole) fun _ _ _ _ _ _ us hl => match us, hl with | [_], _ => rfl⟩
  · obtain ⟨v, rfl, _⟩ := h
    rfl
  · obtain ⟨v, rfl, k⟩ := h
    refine ⟨_, (PSs.nox (pss_one (ps_ret (pe_and (pe_callB (id := "isinstance") call_isi (by rfl) T.n_isinstance (by decide +kernel) (pa_cons (pv 0) (pa_cons (pe_bltn (v := .ty "int") (by rfl) T.n_int (by decide +kernel) rfl) pa_nil))) (pe_one (pe_not (pe_callB (id := "isinstance") call_isi (by rfl) T.n_isinstance (by decide +kernel) (pa_cons (pv 0) (pa_cons (pe_bltn (v := .ty "bool") (by rfl) T.n_bool (by decide +kernel) rfl) pa_nil))))))))), ?_⟩
    rcases k with ⟨n, rfl, k⟩ | ⟨⟨b, rfl⟩ | ⟨t, ht, hk⟩, k⟩
    · exact ⟨_, rfl, _, _, _, _, _, rfl, .ty "int", .base (.int n), isInt, _, rfl, iteT ⟨_, rfl, _, _, _, _, _, rfl, .ty "bool", .base (.int n), intBool, _, rfl, k⟩⟩
    · exact ⟨_, rfl, _, _, _, _, _, rfl, .ty "int", .base (.bl b), boolInt, _, rfl, iteT ⟨_, rfl, _, _, _, _, _, rfl, .ty "bool", .base (.bl b), boolBool, _, rfl, k⟩⟩
    · exact ⟨_, rfl, _, _, _, _, _, rfl, .ty "int", ht, hk, _, rfl, iteF k⟩
end
end Jr
namespace Jr
open PySem PySem.Spec PyProof.Rows L2
theorem at_neg {α : Type} {xs : List α} {j : Nat} {x : α} (h : xs.reverse[j]? = some x) : atI xs (-1 - (j : Int)) = some x := by
  have hj := (List.getElem?_eq_some_iff.mp h).1
  rw [List.length_reverse] at hj
  rw [List.getElem?_reverse hj] at h
  unfold atI ixN
  rw [if_neg (by omega), if_pos (by omega)]
  have e : ((-1 : Int) - (j : Int) + (xs.length : Int)).toNat = xs.length - 1 - j := by omega
  rw [e]
  exact h
theorem min_int (a b : Nat) : (if ((b : Nat) : Int) < ((a : Nat) : Int) then ((b : Nat) : Int) else ((a : Nat) : Int)) = ((min a b : Nat) : Int) := by
  by_cases c : b < a
  · rw [if_pos (by omega), Nat.min_eq_right (by omega)]
  · rw [if_neg (by omega), Nat.min_eq_left (by omega)]
theorem drop_rev {α : Type} {xs : List α} {f j : Nat} (h : j < xs.length - f) : (xs.drop f).reverse[j]? = xs.reverse[j]? := by
  rw [List.getElem?_reverse (by rw [List.length_drop]; omega), List.getElem?_reverse (by omega), List.length_drop, List.getElem?_drop]
  congr 1
  omega
def dPt (p : Patch) : PyData := .tuple [.int ((p.first : Nat) : Int), dS p.out, dS p.into]
theorem dpPt {K : PySem.W.Frag} {H : Hp} {t : Addr} {p : Patch} (h : PatchAt H t p) : Dp K H (.ref t) (dPt p) := by
  obtain ⟨a, b, h1, h2, h3⟩ := h
  exact .tup (SqT.of h1) (.cons (.int _) (.cons (dpS (SqL.of h2)) (.cons (dpS (SqL.of h3)) .nil)))
theorem shPt {p : Patch} (h : ∀ x ∈ p.out, Asc x) (h' : ∀ x ∈ p.into, Asc x) : SeqAt.shaped (dPt p) = true := by
  unfold SeqAt.shaped dPt dS
  have h1 : PyData.canLay0 (.tuple [.int ((p.first : Nat) : Int), .list (p.out.map PyData.str), .list (p.into.map PyData.str)]) = true := by simp [PyData.canLay0, PyData.canLayAll0, lay_strs _ h, lay_strs _ h']
  have h2 : PyData.depth (.tuple [.int ((p.first : Nat) : Int), .list (p.out.map PyData.str), .list (p.into.map PyData.str)]) = 2 := by simp [PyData.depth, PyData.depthAll, dep_strs]
  rw [h1, h2]; rfl
theorem eqPt (p : Patch) : PyData.eqv (dPt p) (dPt p) = true := by
  have e1 := eqS p.out p.out
  have e2 := eqS p.into p.into
  rw [decide_eq_true rfl] at e1 e2
  unfold dPt
  rw [PyData.eqv]
  simp [PyData.eqvAll, e1, e2, PyData.eqv]
section
variable {P : Program} {w : World} {K : PySem.W.Frag} {mg : Str → Option Value} {base : Heap}
theorem cal__law_patch (T : Tx K mg) : Cal P w K mg base CX0 1 "_law_patch" (spBetween K) := by
  obtain ⟨fd, F⟩ := T.d__law_patch
  refine ⟨_, fd, P__law_patch, F.ok sc__law_patch (fun vs H Q E h => ?_) (fun cdv A outer s H vs Q E hr h => ?_), T.g__law_patch, F.kp, F.bindsN (ps := P__law_patch) fun _ _ _ _ _ _ us hl => match us, hl with | [_, _, _, _], _ => rfl⟩
  · obtain ⟨a, b, xs, ys, m, n, rfl, _⟩ := h
    rfl
  · obtain ⟨a, b, xs, ys, m, n, rfl, hA, hB, hm, hn, xl, k⟩ := h
    refine ⟨_, (PSs.nox (pss_cons (ps_set (i := 4) sc__law_patch.nd rfl (Or.inl rfl) pe_int)
      (pss_cons (ps_set (i := 5) sc__law_patch.nd rfl (Or.inl rfl) pe_int)
      (C8.pss_cut (ps_while PassesOwn.never (PW.pt (pw_and (pt_cmpR op_lt (pv 4) (pe_callB (id := "min") (call_min2 rfl) (by rfl) T.n_min (by decide +kernel) (pa_cons (pe_callB (id := "len") call_len_seq (by rfl) T.n_len (by decide +kernel) (pa_cons (pv 0) pa_nil)) (pa_cons (pe_callB (id := "len") call_len_seq (by rfl) T.n_len (by decide +kernel) (pa_cons (pv 1) pa_nil)) pa_nil))) (nomark _)) (pw_and (pt_cmpR op_eq (pe_ix ix_list (pv 0) (pv 4) (fun _ _ => rfl)) (pe_ix ix_list (pv 1) (pv 4) (fun _ _ => rfl)) (nomark _)) (pw_and1 (pt_cmpR op_le (pe_op op_add (pv 5) (pe_callB (id := "len") call_len_str (by rfl) T.n_len (by decide +kernel) (pa_cons (pe_ix ix_list (pv 0) (pv 4) (fun _ _ => rfl)) pa_nil))) (pv 2) (nomark _)))))) (pss_cons (ps_set (i := 5) sc__law_patch.nd rfl (Or.inl rfl) (pe_op op_add (pv 5) (pe_callB (id := "len") call_len_str (by rfl) T.n_len (by decide +kernel) (pa_cons (pe_ix ix_list (pv 0) (pv 4) (fun _ _ => rfl)) pa_nil))))
      (pss_one (ps_set (i := 4) sc__law_patch.nd rfl (Or.inl rfl) (pe_op op_add (pv 4) pe_int)))))
      (pss_cons (ps_set (i := 6) sc__law_patch.nd rfl (Or.inl rfl) pe_int)
      (pss_cons (ps_set (i := 5) sc__law_patch.nd rfl (Or.inl rfl) pe_int)
      (pss_cons (ps_set (i := 7) sc__law_patch.nd rfl (Or.inl rfl) (pe_op op_sub (pe_callB (id := "min") (call_min2 rfl) (by rfl) T.n_min (by decide +kernel) (pa_cons (pe_callB (id := "len") call_len_seq (by rfl) T.n_len (by decide +kernel) (pa_cons (pv 0) pa_nil)) (pa_cons (pe_callB (id := "len") call_len_seq (by rfl) T.n_len (by decide +kernel) (pa_cons (pv 1) pa_nil)) pa_nil))) (pv 4)))
      (C8.pss_cut (ps_while PassesOwn.never (PW.pt (pw_and (pt_cmpR op_lt (pv 6) (pv 7) (nomark _)) (pw_and (pt_cmpR op_eq (pe_ix ix_list (pv 0) (pe_op op_sub (pe_un un_neg pe_int) (pv 6)) (fun _ _ => rfl)) (pe_ix ix_list (pv 1) (pe_op op_sub (pe_un un_neg pe_int) (pv 6)) (fun _ _ => rfl)) (nomark _)) (pw_and1 (pt_cmpR op_le (pe_op op_add (pv 5) (pe_callB (id := "len") call_len_str (by rfl) T.n_len (by decide +kernel) (pa_cons (pe_ix ix_list (pv 0) (pe_op op_sub (pe_un un_neg pe_int) (pv 6)) (fun _ _ => rfl)) pa_nil))) (pv 3) (nomark _)))))) (pss_cons (ps_set (i := 5) sc__law_patch.nd rfl (Or.inl rfl) (pe_op op_add (pv 5) (pe_callB (id := "len") call_len_str (by rfl) T.n_len (by decide +kernel) (pa_cons (pe_ix ix_list (pv 0) (pe_op op_sub (pe_un un_neg pe_int) (pv 6)) (fun _ _ => rfl)) pa_nil))))
      (pss_one (ps_set (i := 6) sc__law_patch.nd rfl (Or.inl rfl) (pe_op op_add (pv 6) pe_int)))))
      (pss_one (ps_ret (pe_tupG (pa_cons (pv 4) (pa_cons (pe_slice sl_listG (pv 0) (po_some (pv 4)) (po_some (pe_op op_sub (pe_callB (id := "len") call_len_seq (by rfl) T.n_len (by decide +kernel) (pa_cons (pv 0) pa_nil)) (pv 6)))) (pa_cons (pe_slice sl_listG (pv 1) (po_some (pv 4)) (po_some (pe_op op_sub (pe_callB (id := "len") call_len_seq (by rfl) T.n_len (by decide +kernel) (pa_cons (pv 1) pa_nil)) (pv 6)))) pa_nil)))))))))))))), ?_⟩
    obtain ⟨f, ef⟩ : ∃ f, f = sameN xs ys m := ⟨_, rfl⟩
    refine ⟨fun σ H2 => σ = [some (.ref a), some (.ref b), some (.int m), some (.int n), some (.int (f : Nat)), some (.int ((flat (xs.take f)).length : Int)), none, none] ∧ H2 = H, ?_, ?_⟩
    · refine ⟨fun c σ H2 => ∃ (i : Nat), c = xs.length - i ∧ σ = [some (.ref a), some (.ref b), some (.int m), some (.int n), some (.int (i : Nat)), some (.int ((flat (xs.take i)).length : Int)), none, none] ∧ H2 = H ∧ xs.take i = ys.take i ∧ i ≤ xs.length ∧ i ≤ ys.length ∧ ((flat (xs.take i)).length : Int) ≤ m,
        ⟨xs.length, 0, rfl, rfl, rfl, rfl, Nat.zero_le _, Nat.zero_le _, hm⟩, ?_⟩
      rintro c σ H2 ⟨i, rfl, rfl, rfl, ht, i1, i2, hf⟩
      refine ⟨_, rfl, _, rfl, a, _, rfl, .inl hA, _, rfl, b, _, rfl, .inl hB, _, _, rfl, _, _, rfl, rfl, _, rfl, ?_⟩
      rw [List.length_map, List.length_map, min_int]
      have stop : (i = xs.length ∨ i = ys.length ∨ ∃ a b, xs[i]? = some a ∧ ys[i]? = some b ∧ ¬ (a = b ∧ ((flat (xs.take i)).length : Int) + a.length ≤ m)) → [some (V.ref a), some (.ref b), some (.int m), some (.int n), some (.int (i : Nat)), some (.int ((flat (xs.take i)).length : Int)), none, none] = [some (.ref a), some (.ref b), some (.int m), some (.int n), some (.int (f : Nat)), some (.int ((flat (xs.take f)).length : Int)), none, none] ∧ H2 = H2 := fun hs => by
        have := sameN_stop xs ys m i ht i1 i2 (.inr hf) hs
        rw [← ef] at this
        rw [this]
        exact ⟨rfl, rfl⟩
      by_cases c1 : ((i : Nat) : Int) < ((min xs.length ys.length : Nat) : Int)
      · rw [decide_eq_true c1]
        have l1 : i < xs.length := by omega
        have l2 : i < ys.length := by omega
        have ex : xs[i]? = some xs[i] := List.getElem?_eq_getElem l1
        have ey : ys[i]? = some ys[i] := List.getElem?_eq_getElem l2
        have pl := xl xs[i] (List.getElem_mem l1)
        refine iteT ⟨_, rfl, _, rfl, a, _, _, _, rfl, rfl, hA, atm ex, _, rfl, _, rfl, b, _, _, _, rfl, rfl, hB, atm ey, rfl, _, rfl, ?_⟩
        by_cases c2 : xs[i] = ys[i]
        · rw [decide_eq_true (by rw [c2])]
          refine iteT ⟨_, rfl, _, rfl, _, rfl, a, _, _, _, rfl, rfl, hA, atm ex, _, rfl, sz (by omega), _, _, rfl, rfl, _, rfl, _, _, rfl, rfl, _, rfl, ?_⟩
          by_cases c3 : ((flat (xs.take i)).length : Int) + ((xs[i].length : Nat) : Int) ≤ m
          · rw [decide_eq_true c3]
            have et : xs.take (i + 1) = xs.take i ++ [xs[i]] := by rw [List.take_add_one, ex]; rfl
            have et2 : ys.take (i + 1) = ys.take i ++ [ys[i]] := by rw [List.take_add_one, ey]; rfl
            have eflt : (flat (xs.take (i + 1))).length = (flat (xs.take i)).length + xs[i].length := by
              rw [et, flat_app, List.length_append, flat_cons, List.length_append, len_cps]; rfl
            refine iteT ⟨fun σ' H' => ∃ m', m' < xs.length - i ∧ ∃ (i : Nat), m' = xs.length - i ∧ σ' = [some (.ref a), some (.ref b), some (.int m), some (.int n), some (.int (i : Nat)), some (.int ((flat (xs.take i)).length : Int)), none, none] ∧ H' = H2 ∧ xs.take i = ys.take i ∧ i ≤ xs.length ∧ i ≤ ys.length ∧ ((flat (xs.take i)).length : Int) ≤ m, fun _ _ h => h, ?_⟩
            refine ⟨_, rfl, _, rfl, _, rfl, a, _, _, _, rfl, rfl, hA, atm ex, _, rfl, sz (by omega), _, _, rfl, rfl, ?_⟩
            refine ⟨_, rfl, _, _, rfl, rfl, xs.length - (i + 1), by omega, i + 1, rfl, ?_, rfl, by rw [et, et2, ht, c2], l1, l2, by rw [eflt]; omega⟩
            rw [eflt]
            show [some (V.ref a), some (V.ref b), some (V.int m), some (V.int n), some (V.int (((i : Nat) : Int) + 1)), some (V.int (((flat (xs.take i)).length : Int) + ((xs[i].length : Nat) : Int))), none, none] = _
            rw [show ((i : Nat) : Int) + 1 = ((i + 1 : Nat) : Int) by omega, show ((flat (xs.take i)).length : Int) + ((xs[i].length : Nat) : Int) = (((flat (xs.take i)).length + xs[i].length : Nat) : Int) by omega]
          · rw [decide_eq_false c3]
            exact iteF (stop (.inr (.inr ⟨_, _, ex, ey, fun z => c3 z.2⟩)))
        · rw [decide_eq_false (fun e => c2 (V.str.inj e))]
          exact iteF (iteF (stop (.inr (.inr ⟨_, _, ex, ey, fun z => c2 z.1⟩))))
      · rw [decide_eq_false c1]
        exact iteF (iteF (stop (by omega)))
    rintro σ H2 ⟨rfl, rfl⟩
    have hf := sameN_le xs ys m
    rw [← ef] at hf
    have hm1 : (((min xs.length ys.length : Nat) : Int) - ((f : Nat) : Int)) = ((min (xs.drop f).length (ys.drop f).length : Nat) : Int) := by rw [List.length_drop, List.length_drop]; omega
    refine ⟨_, rfl, a, _, rfl, .inl hA, _, rfl, b, _, rfl, .inl hB, _, _, rfl, _, rfl, _, _, rfl, rfl, ?_⟩
    obtain ⟨R1, eR1⟩ : ∃ R1, R1 = (xs.drop f).reverse := ⟨_, rfl⟩
    obtain ⟨R2, eR2⟩ : ∃ R2, R2 = (ys.drop f).reverse := ⟨_, rfl⟩
    have r1l : R1.length = xs.length - f := by rw [eR1, List.length_reverse, List.length_drop]
    have r2l : R2.length = ys.length - f := by rw [eR2, List.length_reverse, List.length_drop]
    obtain ⟨l, el⟩ : ∃ l, l = sameN R1 R2 n := ⟨_, rfl⟩
    have em : (if ((((ys.map V.str).length : Nat) : Int)) < ((((xs.map V.str).length : Nat) : Int)) then (((ys.map V.str).length : Nat) : Int) else (((xs.map V.str).length : Nat) : Int)) - ((f : Nat) : Int) = ((min R1.length R2.length : Nat) : Int) := by
      rw [List.length_map, List.length_map, min_int, r1l, r2l]; omega
    refine ⟨fun σ H3 => ∃ e : V, σ = [some (.ref a), some (.ref b), some (.int m), some (.int n), some (.int (f : Nat)), some e, some (.int (l : Nat)), some (.int ((min R1.length R2.length : Nat) : Int))] ∧ H3 = H2, ?_, ?_⟩
    · refine ⟨fun c σ H3 => ∃ (i : Nat), c = R1.length - i ∧ σ = [some (.ref a), some (.ref b), some (.int m), some (.int n), some (.int (f : Nat)), some (.int ((flat (R1.take i)).length : Int)), some (.int (i : Nat)), some (.int ((min R1.length R2.length : Nat) : Int))] ∧ H3 = H2 ∧ R1.take i = R2.take i ∧ i ≤ R1.length ∧ i ≤ R2.length ∧ ((flat (R1.take i)).length : Int) ≤ n,
        ⟨R1.length, 0, rfl, by rw [← em]; rfl, rfl, rfl, Nat.zero_le _, Nat.zero_le _, hn⟩, ?_⟩
      rintro c σ H3 ⟨i, rfl, rfl, rfl, ht, i1, i2, hfl⟩
      refine ⟨_, rfl, _, rfl, _, _, rfl, rfl, _, rfl, ?_⟩
      have stop : (i = R1.length ∨ i = R2.length ∨ ∃ a b, R1[i]? = some a ∧ R2[i]? = some b ∧ ¬ (a = b ∧ ((flat (R1.take i)).length : Int) + a.length ≤ n)) → ∃ e : V, [some (V.ref a), some (.ref b), some (.int m), some (.int n), some (.int (f : Nat)), some (.int ((flat (R1.take i)).length : Int)), some (.int (i : Nat)), some (.int ((min R1.length R2.length : Nat) : Int))] = [some (.ref a), some (.ref b), some (.int m), some (.int n), some (.int (f : Nat)), some e, some (.int (l : Nat)), some (.int ((min R1.length R2.length : Nat) : Int))] ∧ H3 = H3 := fun hs => by
        have := sameN_stop R1 R2 n i ht i1 i2 (.inr hfl) hs
        rw [← el] at this
        rw [this]
        exact ⟨_, rfl, rfl⟩
      by_cases c1 : ((i : Nat) : Int) < ((min R1.length R2.length : Nat) : Int)
      · rw [decide_eq_true c1]
        have l1 : i < R1.length := by omega
        have l2 : i < R2.length := by omega
        have ex : R1[i]? = some R1[i] := List.getElem?_eq_getElem l1
        have ey : R2[i]? = some R2[i] := List.getElem?_eq_getElem l2
        have ex' : xs.reverse[i]? = some R1[i] := by rw [← drop_rev (f := f) (by omega), ← eR1]; exact ex
        have ey' : ys.reverse[i]? = some R2[i] := by rw [← drop_rev (f := f) (by omega), ← eR2]; exact ey
        have ax : atI (xs.map V.str) (-1 - (i : Int)) = some (V.str R1[i]) := at_neg (by rw [← List.map_reverse, List.getElem?_map, ex']; rfl)
        have ay : atI (ys.map V.str) (-1 - (i : Int)) = some (V.str R2[i]) := at_neg (by rw [← List.map_reverse, List.getElem?_map, ey']; rfl)
        have rin : R1[i] ∈ xs := by
          have := List.mem_of_getElem? ex'
          exact List.mem_reverse.mp this
        have pl := xl R1[i] rin
        refine iteT ⟨_, rfl, _, rfl, _, rfl, _, _, rfl, rfl, a, _, _, _, rfl, rfl, hA, ax, _, rfl, _, rfl, _, rfl, _, _, rfl, rfl, b, _, _, _, rfl, rfl, hB, ay, rfl, _, rfl, ?_⟩
        by_cases c2 : R1[i] = R2[i]
        · rw [decide_eq_true (by rw [c2])]
          refine iteT ⟨_, rfl, _, rfl, _, rfl, _, rfl, _, _, rfl, rfl, a, _, _, _, rfl, rfl, hA, ax, _, rfl, sz (by omega), _, _, rfl, rfl, _, rfl, _, _, rfl, rfl, _, rfl, ?_⟩
          by_cases c3 : ((flat (R1.take i)).length : Int) + ((R1[i].length : Nat) : Int) ≤ n
          · rw [decide_eq_true c3]
            have et : R1.take (i + 1) = R1.take i ++ [R1[i]] := by rw [List.take_add_one, ex]; rfl
            have et2 : R2.take (i + 1) = R2.take i ++ [R2[i]] := by rw [List.take_add_one, ey]; rfl
            have eflt : (flat (R1.take (i + 1))).length = (flat (R1.take i)).length + R1[i].length := by
              rw [et, flat_app, List.length_append, flat_cons, List.length_append, len_cps]; rfl
            refine iteT ⟨fun σ' H' => ∃ m', m' < R1.length - i ∧ ∃ (i : Nat), m' = R1.length - i ∧ σ' = [some (.ref a), some (.ref b), some (.int m), some (.int n), some (.int (f : Nat)), some (.int ((flat (R1.take i)).length : Int)), some (.int (i : Nat)), some (.int ((min R1.length R2.length : Nat) : Int))] ∧ H' = H3 ∧ R1.take i = R2.take i ∧ i ≤ R1.length ∧ i ≤ R2.length ∧ ((flat (R1.take i)).length : Int) ≤ n, fun _ _ h => h, ?_⟩
            refine ⟨_, rfl, _, rfl, _, rfl, _, rfl, _, _, rfl, rfl, a, _, _, _, rfl, rfl, hA, ax, _, rfl, sz (by omega), _, _, rfl, rfl, ?_⟩
            refine ⟨_, rfl, _, _, rfl, rfl, R1.length - (i + 1), by omega, i + 1, rfl, ?_, rfl, by rw [et, et2, ht, c2], l1, l2, by rw [eflt]; omega⟩
            rw [eflt]
            show [some (V.ref a), some (V.ref b), some (V.int m), some (V.int n), some (V.int (f : Nat)), some (V.int (((flat (R1.take i)).length : Int) + ((R1[i].length : Nat) : Int))), some (V.int (((i : Nat) : Int) + 1)), some (.int ((min R1.length R2.length : Nat) : Int))] = _
            rw [show ((i : Nat) : Int) + 1 = ((i + 1 : Nat) : Int) by omega, show ((flat (R1.take i)).length : Int) + ((R1[i].length : Nat) : Int) = (((flat (R1.take i)).length + R1[i].length : Nat) : Int) by omega]
          · rw [decide_eq_false c3]
            exact iteF (stop (.inr (.inr ⟨_, _, ex, ey, fun z => c3 z.2⟩)))
        · rw [decide_eq_false (fun e => c2 (V.str.inj e))]
          exact iteF (iteF (stop (.inr (.inr ⟨_, _, ex, ey, fun z => c2 z.1⟩))))
      · rw [decide_eq_false c1]
        exact iteF (iteF (stop (by omega)))
    rintro σ H3 ⟨e, rfl, rfl⟩
    have hl := sameN_le R1 R2 n
    rw [← el] at hl
    have e1 : (((xs.map V.str).length : Nat) : Int) - ((l : Nat) : Int) = ((xs.length - l : Nat) : Int) := by rw [List.length_map]; omega
    have e2 : (((ys.map V.str).length : Nat) : Int) - ((l : Nat) : Int) = ((ys.length - l : Nat) : Int) := by rw [List.length_map]; omega
    refine ⟨_, rfl, _, rfl, _, rfl, _, rfl, _, rfl, a, _, rfl, .inl hA, _, rfl, _, _, rfl, rfl, _, rfl, a, _, rfl, hA, fun o1 H7 no1 s7 ho1 => ?_⟩
    rw [e1, cutV_mid, ← List.map_drop, ← List.map_take] at ho1
    refine ⟨_, rfl, _, rfl, _, rfl, _, rfl, b, _, rfl, .inl (s7.seq hB), _, rfl, _, _, rfl, rfl, _, rfl, b, _, rfl, s7.seq hB, fun o2 H8 no2 s8 ho2 => ?_⟩
    rw [e2, cutV_mid, ← List.map_drop, ← List.map_take] at ho2
    refine ⟨(by show 3 ≤ sizeLine; decide), fun tt H9 ntt s9 htt => ?_⟩
    have q1 : xs.length - l - f = (xs.drop f).length - l := by rw [List.length_drop]; omega
    have q2 : ys.length - l - f = (ys.drop f).length - l := by rw [List.length_drop]; omega
    rw [q1] at ho1
    rw [q2] at ho2
    have s78 := s7.trans s8
    have el' : sameN (xs.drop (sameN xs ys m)).reverse (ys.drop (sameN xs ys m)).reverse n = l := by rw [← ef, ← eR1, ← eR2, el]
    refine k H9 tt (s78.trans s9) ⟨o1, o2, s78.free ntt, no1, s7.free no2, fun e => ?_, ?_, ?_, ?_⟩
    · rw [e, no2] at ho1; cases ho1
    · rw [htt, ef]; rfl
    · rw [s9 _ _ (s8 _ _ ho1)]
      show _ = some (HO.lst (((xs.drop (sameN xs ys m)).take ((xs.drop (sameN xs ys m)).length - sameN (xs.drop (sameN xs ys m)).reverse (ys.drop (sameN xs ys m)).reverse n)).map V.str))
      rw [el', ← ef]
    · rw [s9 _ _ ho2]
      show _ = some (HO.lst (((ys.drop (sameN xs ys m)).take ((ys.drop (sameN xs ys m)).length - sameN (xs.drop (sameN xs ys m)).reverse (ys.drop (sameN xs ys m)).reverse n)).map V.str))
      rw [el', ← ef]
def spIsPatch (K : PySem.W.Frag) : Sp := fun vs H Q _ => ∃ (t1 t2 : Addr) (p : Patch), vs = [.ref t1, .ref t2] ∧ PatchAt H t1 p ∧ PatchAt H t2 p ∧ (∀ x ∈ p.out, Asc x) ∧ (∀ x ∈ p.into, Asc x) ∧ Q (.bl true) H
theorem cal__law_is_patch (T : Tx K mg) : Cal P w K mg base CX0 2 "_law_is_patch" (spIsPatch K) := by
  have C__law_whole := cal__law_whole (P := P) (w := w) (base := base) T
  obtain ⟨fd, F⟩ := T.d__law_is_patch
  refine ⟨_, fd, P__law_is_patch, F.ok sc__law_is_patch (fun vs H Q E h => ?_) (fun cdv A outer s H vs Q E hr h => ?_), T.g__law_is_patch, F.kp, F.bindsN (ps := P__law_is_patch) fun _ _ _ _ _ _ us hl => match us, hl with | [_, _], _ => rfl⟩
  · obtain ⟨t1, t2, p, rfl, _⟩ := h
    rfl
  · obtain ⟨t1, t2, p, rfl, h1, h2, a1, a2, k⟩ := h
    refine ⟨_, (PSs.nox (pss_cons (ps_if (PW.pt (pw_or (pt_not (pt_val (pe_callB (id := "isinstance") call_isi (by rfl) T.n_isinstance (by decide +kernel) (pa_cons (pv 0) (pa_cons (pe_bltn (v := .ty "tuple") (by rfl) T.n_tuple (by decide +kernel) rfl) pa_nil))))) (pw_or (pt_cmpR op_ne (pe_callB (id := "len") call_len_seq (by rfl) T.n_len (by decide +kernel) (pa_cons (pv 0) pa_nil)) pe_int (nomark _)) (pw_or1 (pt_not (pt_val (pe_cal C__law_whole (by first | exact hr | exact hr.mono (by decide)) (by rfl) (pa_cons (pe_ix ix_tup (pv 0) pe_int (fun _ _ => rfl)) pa_nil)))))))) (pss_one (ps_ret pe_bl)) pss_nil)
      (pss_one (ps_ret (pe_and (pe_callB (id := "isinstance") call_isi (by rfl) T.n_isinstance (by decide +kernel) (pa_cons (pe_ix ix_tup (pv 0) pe_int (fun _ _ => rfl)) (pa_cons (pe_bltn (v := .ty "list") (by rfl) T.n_list (by decide +kernel) rfl) pa_nil))) (pe_and (pe_callB (id := "isinstance") call_isi (by rfl) T.n_isinstance (by decide +kernel) (pa_cons (pe_ix ix_tup (pv 0) pe_int (fun _ _ => rfl)) (pa_cons (pe_bltn (v := .ty "list") (by rfl) T.n_list (by decide +kernel) rfl) pa_nil))) (pe_one (pe_cmpR (op_eqD hr.units) (pv 0) (pv 1) (nomark _))))))))), ?_⟩
    obtain ⟨a, b, g1, g2, g3⟩ := id h1
    refine ⟨_, rfl, _, _, _, _, _, rfl, .ty "tuple", .base (.tup g1), isTup, _, rfl, iteF ?_⟩
    refine ⟨_, rfl, t1, _, rfl, .inr (SqT.of g1), rfl, _, rfl, iteF ?_⟩
    refine ⟨_, rfl, t1, _, _, _, rfl, rfl, SqT.of g1, rfl, .int _, rfl, .inl ⟨_, rfl, _, rfl, iteF ?_⟩⟩
    refine ⟨_, rfl, t1, _, _, _, rfl, rfl, SqT.of g1, rfl, _, _, _, _, _, rfl, .ty "list", .base (.lst g2), isLst, _, rfl, iteT ?_⟩
    refine ⟨_, rfl, t1, _, _, _, rfl, rfl, SqT.of g1, rfl, _, _, _, _, _, rfl, .ty "list", .base (.lst g3), isLst, _, rfl, iteT ?_⟩
    refine ⟨_, rfl, _, rfl, _, _, dpPt h1, dpPt h2, shPt a1 a2, shPt a1 a2, ?_⟩
    rw [eqPt]
    exact k
end
end Jr
namespace Jr
open PySem PySem.Spec PyProof.Rows L2
section
variable {P : Program} {w : World} {K : PySem.W.Frag} {mg : Str → Option Value} {base : Heap}
def spCut (K : PySem.W.Frag) : Sp := fun vs H Q _ => ∃ (p : Addr) (z : Str) (rs : Rws) (t : Str), vs = [.ref p, .str t] ∧ RowsAt H p rs ∧ TabOk z rs ∧ TextOf z t ∧ t.length ≤ 10000 ∧
  ∀ H' b, Same H H' → H b = none → H' b = some (.lst ((sweep rs t).map V.str)) → Q (.ref b) H'
theorem cal__law_cut (T : Tx K mg) : Cal P w K mg base CX0 1 "_law_cut" (spCut K) := by
  obtain ⟨fd, F⟩ := T.d__law_cut
  refine ⟨_, fd, P__law_cut, F.ok sc__law_cut (fun vs H Q E h => ?_) (fun cdv A outer s H vs Q E hr h => ?_), T.g__law_cut, F.kp, F.bindsN (ps := P__law_cut) fun _ _ _ _ _ _ us hl => match us, hl with | [_, _], _ => rfl⟩
  · obtain ⟨p, z, rs, t, rfl, _⟩ := h
    rfl
  · obtain ⟨p, z, rs, t, rfl, ⟨as, hp, hrs⟩, tk, tx, tl, k⟩ := h
    refine ⟨_, (PSs.nox (pss_cons (ps_set (i := 2) sc__law_cut.nd rfl (Or.inl rfl) (pe_callTy (T := "list") (call_list_str rfl) (by rfl) T.n_list (by decide +kernel) (pa_cons (pv 1) pa_nil)))
      (pss_cons (ps_for PassesOwn.never rfl (pi_list (pv 0)) (pg_tup rfl (pgs_cons (pg_name (i := 3) sc__law_cut.nd rfl (Or.inl rfl)) (pgs_cons (pg_name (i := 4) sc__law_cut.nd rfl (Or.inl rfl)) pgs_nil))) (pss_cons (ps_set (i := 5) sc__law_cut.nd rfl (Or.inl rfl) (pe_lst pa_nil))
      (pss_cons (ps_for PassesOwn.never rfl (pi_list (pv 2)) (pg_name (i := 6) sc__law_cut.nd rfl (Or.inl rfl)) (pss_one (ps_if (PW.pt (pw_and (pt_cmpR op_eq (pv 6) (pv 4) (nomark _)) (pw_and (pt_cmpR (op_neD hr.units) (pv 5) (pe_lst pa_nil) (nomark _)) (pw_and1 (pt_cmpR op_eq (pe_ix ix_list (pv 5) (pe_un un_neg pe_int) (fun _ _ => rfl)) (pv 3) (nomark _)))))) (pss_one (ps_asg (pe_op op_add_str (pv 3) (pv 4)) (pg_sub (pv 5) (pe_un un_neg pe_int) set_list))) (pss_one (ps_expr (pe_bm PySem.F.plainAttrs_list PySem.F.slot_list_append PySem.F.type_list_append mt_append (pv 5) (pa_cons (pv 6) pa_nil)))))))
      (pss_one (ps_set (i := 2) sc__law_cut.nd rfl (Or.inl rfl) (pv 5))))))
      (pss_one (ps_ret (pv 2)))))), ?_⟩
    refine ⟨_, rfl, t, rfl, sz (by omega), fun b0 hb0 => ?_⟩
    refine ⟨_, rfl, p, rfl, ⟨_, SqL.of (Same.new hb0 _ _ hp)⟩, for_list (K := K) (a := p) (xs := as.map V.ref) (fun i σ H' => ∃ (b : Addr) (u v x y : Option V), σ = [some (.ref p), some (.str t), some (.ref b), u, v, x, y] ∧ Same H H' ∧ H b = none ∧ H' b = some (.lst ((passAll (rs.take i) (sgs t)).map V.str)))
      ⟨b0, none, none, none, none, rfl, Same.new hb0, hb0, upd_same⟩ (fun i σ H' _ ⟨_, _, _, _, _, _, s, _⟩ => SqL.of (s _ _ hp)) ?_ ?_⟩
    · rintro i y σ H' hi ⟨b, u, v, x, y', rfl, sm, hb, hB⟩
      rw [List.getElem?_map] at hi
      cases ea : as[i]? with
      | none => rw [ea] at hi; cases hi
      | some q =>
        rw [ea] at hi
        cases hi
        obtain ⟨⟨l, r⟩, hri, hq⟩ := Paired.get hrs ea
        have ro := tk.rows i _ hri
        have tki := tk.take i
        have hl1 : 1 ≤ l.length ∧ l.length ≤ 16 := tki.plen ro.lm
        have hr1 : 1 ≤ r.length ∧ r.length ≤ 16 := tki.plen ro.rm
        have la := app_len l r
        refine ⟨q, _, rfl, SqT.of (sm _ _ hq), rfl, _, _, rfl, _, _, rfl, rfl, ?_⟩
        refine ⟨Nat.zero_le _, fun f hf => ?_⟩
        have hfH : H f = none := sm.free hf
        have hB1 := Same.new (o := .lst []) hf _ _ hB
        obtain ⟨ys, ey⟩ : ∃ ys, ys = passAll (rs.take i) (sgs t) := ⟨_, rfl⟩
        rw [← ey] at hB1
        have yl : ys.length ≤ 10000 := by
          rw [ey]
          have := passAll_len (rs.take i) (sgs t)
          rw [sgs_len] at this
          omega
        have yin : ∀ p ∈ ys, p ∈ pcs z rs := fun p hp => by rw [ey] at hp; exact sweep_in tx hp
        have jin : l ++ r ∈ pcs z rs := List.mem_append_right _ (List.mem_map.mpr ⟨(l, r), List.mem_of_getElem? hri, rfl⟩)
        have bf : b ≠ f := fun e => by rw [e, hf] at hB; cases hB
        refine ⟨_, rfl, b, rfl, ⟨_, SqL.of hB1⟩, for_list (K := K) (a := b) (xs := ys.map V.str) (fun j σ H2 => ∃ (y2 : Option V), σ = [some (.ref p), some (.str t), some (.ref b), some (.str l), some (.str r), some (.ref f), y2] ∧ Same H H2 ∧ H2 b = some (.lst (ys.map V.str)) ∧ H2 f = some (.lst ((pass1 l r (ys.take j)).map V.str)))
          ⟨_, rfl, Same.put sm hf, hB1, ?_⟩ (fun j σ H2 _ ⟨_, _, _, q, _⟩ => SqL.of q) ?_ ?_⟩
        · rw [List.take_zero, pass1_nil, upd_same]; rfl
        · rintro j y2 σ H2 hj ⟨y3, rfl, sm2, hB2, hF⟩
          rw [List.getElem?_map] at hj
          cases ep : ys[j]? with
          | none => rw [ep] at hj; cases hj
          | some pc =>
            rw [ep] at hj
            cases hj
            have st := pass1_take (l := l) (r := r) hr1.1 ep
            obtain ⟨fs, efs⟩ : ∃ fs, fs = pass1 l r (ys.take j) := ⟨_, rfl⟩
            rw [← efs] at hF st
            have fin : ∀ p ∈ fs, p ∈ pcs z rs := fun p hp => by
              rw [efs] at hp
              rcases pass1_mem l r _ p hp with q | q
              · exact yin p (List.mem_of_mem_take q)
              · rw [q]; exact jin
            have fl : fs.length ≤ 10000 := by
              rw [efs]
              have := pass1_len l r (ys.take j)
              rw [List.length_take] at this
              omega
            have app : stp l r fs pc = fs ++ [pc] → ∃ (y2 : Option V), [some (V.ref p), some (.str t), some (.ref b), some (.str l), some (.str r), some (.ref f), some (.str pc)] = [some (.ref p), some (.str t), some (.ref b), some (.str l), some (.str r), some (.ref f), y2] ∧ Same H (upd H2 f (.lst (fs.map V.str ++ [V.str pc]))) ∧ (upd H2 f (.lst (fs.map V.str ++ [V.str pc]))) b = some (.lst (ys.map V.str)) ∧ (upd H2 f (.lst (fs.map V.str ++ [V.str pc]))) f = some (.lst ((pass1 l r (ys.take (j + 1))).map V.str)) := fun e => by
              refine ⟨_, rfl, Same.mut sm2 hfH, by rw [upd_ne bf]; exact hB2, ?_⟩
              rw [upd_same, st, e, List.map_append]; rfl
            by_cases c1 : pc = r
            · subst c1
              refine ⟨_, rfl, _, rfl, rfl, _, rfl, ?_⟩
              rw [decide_eq_true (rfl : V.str pc = V.str pc)]
              refine iteT ⟨_, rfl, Nat.zero_le _, fun e he => ?_⟩
              have hF1 := Same.new (o := .lst []) he _ _ hF
              refine ⟨_, _, dpS (SqL.of hF1), dpS (xs := []) (SqL.of upd_same), shS (fun p hp => tk.asc (fin p hp)), shS (fun p hp => by cases hp), _, rfl, ?_⟩
              rw [eqS]
              have sm3 := Same.put (o := .lst []) sm2 he
              by_cases c2 : fs = []
              · rw [decide_eq_true c2]
                refine iteF (iteF ?_)
                refine ⟨_, rfl, .inl ⟨rfl, _, SqL.of hF1⟩, _, rfl, f, _, _, rfl, rfl, hF1, (by rw [List.length_map]; exact szl (by omega)), ?_⟩
                refine ⟨_, rfl, Same.mut sm3 hfH, ?_, ?_⟩
                · rw [upd_ne bf]; exact Same.new he _ _ hB2
                · have e2 : stp l pc fs pc = fs ++ [pc] := by unfold stp; rw [c2]; exact if_neg (by simp)
                  rw [upd_same, st, e2, List.map_append]; rfl
              · rw [decide_eq_false c2]
                obtain ⟨la1, hla⟩ : ∃ x, fs.getLast? = some x := by
                  cases e5 : fs.getLast? with
                  | none => exact absurd (List.getLast?_eq_none_iff.mp e5) c2
                  | some x => exact ⟨x, rfl⟩
                have hla2 : (fs.map V.str).getLast? = some (V.str la1) := by rw [List.getLast?_map, hla]; rfl
                refine iteT ⟨_, rfl, _, rfl, _, _, _, _, rfl, rfl, SqL.of hF1, at_last hla2, _, rfl, rfl, _, rfl, ?_⟩
                by_cases c3 : la1 = l
                · subst c3
                  rw [decide_eq_true (rfl : V.str la1 = V.str la1)]
                  refine iteT ⟨_, rfl, _, rfl, _, _, rfl, rfl, sz (by omega), _, rfl, _, rfl, f, _, _, _, rfl, rfl, hF1, ix_last (by rw [List.length_map]; exact List.length_pos_iff.mpr c2), ?_⟩
                  refine ⟨_, rfl, Same.mut sm3 hfH, ?_, ?_⟩
                  · rw [upd_ne bf]; exact Same.new he _ _ hB2
                  · have e2 : stp la1 pc fs pc = fs.dropLast ++ [la1 ++ pc] := by unfold stp; exact if_pos ⟨rfl, hla⟩
                    rw [upd_same, st, e2, set_last _ _ (fun z => c2 (List.map_eq_nil_iff.mp z)), List.map_append, List.map_dropLast]; rfl
                · have c3' : ¬ V.str la1 = V.str l := fun e => c3 (V.str.inj e)
                  rw [decide_eq_false c3']
                  refine iteF ?_
                  refine ⟨_, rfl, .inl ⟨rfl, _, SqL.of hF1⟩, _, rfl, f, _, _, rfl, rfl, hF1, (by rw [List.length_map]; exact szl (by omega)), ?_⟩
                  refine ⟨_, rfl, Same.mut sm3 hfH, ?_, ?_⟩
                  · rw [upd_ne bf]; exact Same.new he _ _ hB2
                  · have e2 : stp l pc fs pc = fs ++ [pc] := by
                      unfold stp
                      exact if_neg fun z => c3 (Option.some.inj (hla.symm.trans z.2))
                    rw [upd_same, st, e2, List.map_append]; rfl
            · have c1' : ¬ V.str pc = V.str r := fun e => c1 (V.str.inj e)
              refine ⟨_, rfl, _, rfl, rfl, _, rfl, ?_⟩
              rw [decide_eq_false c1']
              refine iteF (iteF ?_)
              refine ⟨_, rfl, .inl ⟨rfl, _, SqL.of hF⟩, _, rfl, f, _, _, rfl, rfl, hF, (by rw [List.length_map]; exact szl (by omega)), ?_⟩
              exact app (by unfold stp; exact if_neg fun z => c1 z.1)
        · rintro σ H2 ⟨y3, rfl, sm2, hB2, hF⟩
          rw [List.length_map, List.take_length] at hF
          refine ⟨_, rfl, f, _, _, _, _, rfl, sm2, hfH, ?_⟩
          rw [passAll_take _ hri, ← ey]
          exact hF
    · rintro σ H' ⟨b, u, v, x, y, rfl, sm, hb, hB⟩
      have e : rs.take (as.map V.ref).length = rs := by rw [List.length_map, Paired.len hrs, List.take_length]
      rw [e] at hB
      exact ⟨_, rfl, k _ b sm hb hB⟩
end
end Jr
namespace Jr
open PySem PySem.Spec PyProof.Rows L2
section
variable {P : Program} {w : World} {K : PySem.W.Frag} {mg : Str → Option Value} {base : Heap}
def spPatchOf48 (K : PySem.W.Frag) : Sp := fun vs H Q _ => ∃ (p q : Addr) (z : Str) (rs : Rws) (t : Str) (n : Nat) (c : Chg), vs = [.ref p, .str t, .ref q] ∧ RowsAt H p rs ∧ TabOk z rs ∧ TextOf z t ∧ t.length ≤ 1000 ∧ H q = some (chO c) ∧ ChgOk z t n c ∧ n ≤ 1000 ∧
  ∀ H' tt, Same H H' → PatchN H H' tt (patchF (sweep rs t) (sweep rs (chgT t c.pl c.gn c.put)) (c.pl : Nat) ((t.length - c.pl - c.gn : Nat) : Int)) → Q (.ref tt) H'
theorem cal__law_patch_of (T : Tx K mg) : Cal P w K mg base CX0 2 "_law_patch_of" (spPatchOf48 K) := by
  have C__law_cut := cal__law_cut (P := P) (w := w) (base := base) T
  have C__law_patch := cal__law_patch (P := P) (w := w) (base := base) T
  obtain ⟨fd, F⟩ := T.d__law_patch_of
  refine ⟨_, fd, P__law_patch_of, F.ok sc__law_patch_of (fun vs H Q E h => ?_) (fun cdv A outer s H vs Q E hr h => ?_), T.g__law_patch_of, F.kp, F.bindsN (ps := P__law_patch_of) fun _ _ _ _ _ _ us hl => match us, hl with | [_, _, _], _ => rfl⟩
  · obtain ⟨p, q, z, rs, t, n, c, rfl, _⟩ := h
    rfl
  · obtain ⟨p, q, z, rs, t, n, c, rfl, hR, tk, tx, tl, hq, ok, nl, k⟩ := h
    refine ⟨_, (PSs.nox (pss_cons (ps_asg (pv 2) (pg_tup rfl (pgs_cons (pg_name (i := 3) sc__law_patch_of.nd rfl (Or.inl rfl)) (pgs_cons (pg_name (i := 4) sc__law_patch_of.nd rfl (Or.inl rfl)) (pgs_cons (pg_name (i := 5) sc__law_patch_of.nd rfl (Or.inl rfl)) pgs_nil)))))
      (pss_cons (ps_set (i := 6) sc__law_patch_of.nd rfl (Or.inl rfl) (pe_cal C__law_cut (by first | exact hr | exact hr.mono (by decide)) (by rfl) (pa_cons (pv 0) (pa_cons (pe_op op_add_str (pe_op op_add_str (pe_slice sl_str (pv 1) po_none (po_some (pv 3))) (pv 5)) (pe_slice sl_str (pv 1) (po_some (pe_op op_add (pv 3) (pv 4))) po_none)) pa_nil))))
      (pss_one (ps_ret (pe_cal C__law_patch (by first | exact hr | exact hr.mono (by decide)) (by rfl) (pa_cons (pe_cal C__law_cut (by first | exact hr | exact hr.mono (by decide)) (by rfl) (pa_cons (pv 0) (pa_cons (pv 1) pa_nil))) (pa_cons (pv 6) (pa_cons (pv 3) (pa_cons (pe_op op_sub (pe_op op_sub (pe_callB (id := "len") call_len_str (by rfl) T.n_len (by decide +kernel) (pa_cons (pv 1) pa_nil)) (pv 3)) (pv 4)) pa_nil)))))))))), ?_⟩
    have h1 := ok.pl
    have h2 := ok.gn
    have h3 := ok.len
    have cl := chgT_len t c.put h1 h2
    have e2 : ((c.pl : Nat) : Int) + ((c.gn : Nat) : Int) = ((c.pl + c.gn : Nat) : Int) := by omega
    refine ⟨_, rfl, q, _, rfl, SqT.of hq, rfl, _, _, rfl, _, _, rfl, _, _, rfl, rfl, ?_⟩
    refine ⟨_, rfl, _, rfl, _, rfl, _, rfl, t, rfl, sz (by omega), _, rfl, _, _, rfl, rfl, ?_, ?_⟩
    · rw [cutS_pre, preS_len t h1]; exact sz (by omega)
    refine ⟨_, rfl, _, rfl, _, rfl, _, _, rfl, rfl, _, rfl, t, rfl, sz (by omega), _, _, rfl, rfl, ?_, ?_⟩
    · rw [e2, cutS_suf, cutS_pre, app_len, preS_len t h1, sufS_len]; exact sz (by omega)
    refine ⟨p, z, rs, chgT t c.pl c.gn c.put, ?_, hR, tk, chgT_text tx ok.tx _ _, by omega, fun H1 nw s1 nnw hnw => ?_⟩
    · rw [e2, cutS_suf, cutS_pre]; rfl
    refine ⟨_, rfl, _, rfl, p, z, rs, t, rfl, hR.same s1, tk, tx, by omega, fun H2 od s2 nod hod => ?_⟩
    refine ⟨_, rfl, _, rfl, _, rfl, t, rfl, sz (by omega), _, rfl, _, _, rfl, rfl, _, rfl, _, _, rfl, rfl, ?_⟩
    have en : ((t.length : Nat) : Int) - ((c.pl : Nat) : Int) - ((c.gn : Nat) : Int) = ((t.length - c.pl - c.gn : Nat) : Int) := by omega
    refine ⟨od, nw, _, _, (c.pl : Nat), ((t.length - c.pl - c.gn : Nat) : Int), by rw [← en], SqL.of hod, SqL.of (s2 _ _ hnw), by omega, by omega, fun y hy => ?_, fun H3 tt s3 hp => k H3 tt ((s1.trans s2).trans s3) (hp.before (s1.trans s2))⟩
    have := (tk.plen (sweep_pc tx hy)).2
    omega
end
end Jr
namespace Jr
open PySem PySem.Spec PyProof.Rows L2
/-! ### changes that were made, each with the text ahead of it -/
structure En where
  old : Str
  c : Chg
def En.new (e : En) : Str := chgT e.old e.c.pl e.c.gn e.c.put
def backC (t : Str) (c : Chg) : Chg := ⟨c.pl, c.put.length, midS t c.pl (c.pl + c.gn)⟩
def EnAt (S : Hp) (a : Addr) (e : En) : Prop := ∃ b, S a = some (.tup [.str e.old, .ref b]) ∧ S b = some (chO e.c)
def WbAt (S : Hp) (v : V) (e : En) : Prop := ∃ y, v = .ref y ∧ S y = some (chO (backC e.old e.c))
theorem EnAt.same {S S' : Hp} {a : Addr} {e : En} (h : EnAt S a e) (s : Same S S') : EnAt S' a e := by
  obtain ⟨b, h1, h2⟩ := h
  exact ⟨b, s _ _ h1, s _ _ h2⟩
theorem WbAt.same {S S' : Hp} {v : V} {e : En} (h : WbAt S v e) (s : Same S S') : WbAt S' v e := by
  obtain ⟨b, h1, h2⟩ := h
  exact ⟨b, h1, s _ _ h2⟩
theorem EnAt.sames {S S' : Hp} (s : Same S S') {as : List Addr} {es : List En} (h : Paired (EnAt S) as es) : Paired (EnAt S') as es := L2.Paired.mapP h fun _ _ q => q.same s
theorem WbAt.sames {S S' : Hp} (s : Same S S') {as : List V} {es : List En} (h : Paired (WbAt S) as es) : Paired (WbAt S') as es := L2.Paired.mapP h fun _ _ q => q.same s
structure EnOk (z : Str) (e : En) : Prop where
  tx : TextOf z e.old
  ok : ChgOk z e.old 64 e.c
  len : e.old.length ≤ 24
  len2 : e.old.length - e.c.gn + e.c.put.length ≤ 24
inductive Sk (z first : Str) : List En → Str → Prop
  | nil : Sk z first [] first
  | snoc {es : List En} {e : En} : Sk z first es e.old → EnOk z e → Sk z first (es ++ [e]) e.new
theorem Sk.last {z first t : Str} {es : List En} {e : En} (h : Sk z first (es ++ [e]) t) : Sk z first es e.old ∧ EnOk z e ∧ t = e.new := by
  generalize eq : es ++ [e] = xs at h
  cases h with
  | nil => simp at eq
  | snoc h1 h2 =>
    obtain ⟨rfl, e2⟩ := List.append_inj' eq rfl
    cases e2
    exact ⟨h1, h2, rfl⟩
theorem EnOk.to {z z' : Str} {e : En} (s : SameZ z z') (h : EnOk z e) : EnOk z' e := ⟨s.text h.tx, ⟨h.ok.pl, h.ok.gn, s.text h.ok.tx, h.ok.len⟩, h.len, h.len2⟩
theorem Sk.to {z z' first t : Str} {es : List En} (s : SameZ z z') (h : Sk z first es t) : Sk z' first es t := by
  induction h with
  | nil => exact .nil
  | snoc _ o ih => exact .snoc ih (o.to s)
theorem EnOk.nlen {z : Str} {e : En} (h : EnOk z e) : e.new.length ≤ 24 := by
  unfold En.new
  rw [chgT_len _ _ h.ok.pl h.ok.gn]
  exact h.len2
theorem EnOk.ntx {z : Str} {e : En} (h : EnOk z e) : TextOf z e.new := chgT_text h.tx h.ok.tx _ _
/-- the way back -/
theorem EnOk.back {z : Str} {e : En} (h : EnOk z e) : (backC e.old e.c).pl ≤ e.new.length ∧ (backC e.old e.c).gn ≤ e.new.length - (backC e.old e.c).pl ∧ (backC e.old e.c).put.length ≤ 24 ∧ TextOf z (backC e.old e.c).put ∧
    chgT e.new (backC e.old e.c).pl (backC e.old e.c).gn (backC e.old e.c).put = e.old := by
  have l := chgT_len e.old e.c.put h.ok.pl h.ok.gn
  have p := h.ok.pl
  have g := h.ok.gn
  have lm : (midS e.old e.c.pl (e.c.pl + e.c.gn)).length ≤ 24 := by
    have := h.len
    rw [midS_len _ (by omega) (by omega)]
    omega
  refine ⟨?_, ?_, lm, text_mk h.tx (fun _ hc => List.mem_of_mem_drop (List.mem_of_mem_take hc)), chgT_back p g⟩
  · show e.c.pl ≤ (chgT _ _ _ _).length
    omega
  · show e.c.put.length ≤ (chgT _ _ _ _).length - e.c.pl
    omega
theorem Sk.bound {z first t : Str} {es : List En} (h : Sk z first es t) (hf : TextOf z first) (hl : first.length ≤ 24) : TextOf z t ∧ t.length ≤ 24 := by
  cases h with
  | nil => exact ⟨hf, hl⟩
  | snoc _ o => exact ⟨o.ntx, o.nlen⟩
section
variable {P : Program} {w : World} {K : PySem.W.Frag} {mg : Str → Option Value} {base : Heap}
def spBehind51 (K : PySem.W.Frag) : Sp := fun vs H Q _ => ∃ (t : Str) (q : Addr) (c : Chg), vs = [.str t, .ref q] ∧ H q = some (chO c) ∧ t.length ≤ 1000 ∧ c.put.length ≤ 1000 ∧ Q (.str (chgT t c.pl c.gn c.put)) H
theorem cal__law_behind (T : Tx K mg) : Cal P w K mg base CX0 1 "_law_behind" (spBehind51 K) := by
  obtain ⟨fd, F⟩ := T.d__law_behind
  refine ⟨_, fd, P__law_behind, F.ok sc__law_behind (fun vs H Q E h => ?_) (fun cdv A outer s H vs Q E hr h => ?_), T.g__law_behind, F.kp, F.bindsN (ps := P__law_behind) fun _ _ _ _ _ _ us hl => match us, hl with | [_, _], _ => rfl⟩
  · obtain ⟨t, q, c, rfl, _⟩ := h
    rfl
  · obtain ⟨t, q, c, rfl, hq, tl, cl, k⟩ := h
    refine ⟨_, (PSs.nox (pss_one (ps_ret (pe_op op_add_str (pe_op op_add_str (pe_slice sl_str (pv 0) po_none (po_some (pe_ix ix_tup (pv 1) pe_int (fun _ _ => rfl)))) (pe_ix ix_tup (pv 1) pe_int (fun _ _ => rfl))) (pe_slice sl_str (pv 0) (po_some (pe_op op_add (pe_ix ix_tup (pv 1) pe_int (fun _ _ => rfl)) (pe_ix ix_tup (pv 1) pe_int (fun _ _ => rfl)))) po_none))))), ?_⟩
    have l1 : (preS t c.pl).length ≤ t.length := by rw [← len_cps, preS_cps, List.length_take, len_cps]; omega
    have l2 : (sufS t (c.pl + c.gn)).length ≤ t.length := by rw [sufS_len]; omega
    have hs := SqT.of (K := K) hq
    have e2 : ((c.pl : Nat) : Int) + ((c.gn : Nat) : Int) = ((c.pl + c.gn : Nat) : Int) := by omega
    refine ⟨_, rfl, _, rfl, q, _, _, _, rfl, rfl, hs, rfl, _, rfl, t, rfl, sz (by omega), _, rfl, q, _, _, _, rfl, rfl, hs, rfl, _, _, rfl, rfl, ?_, ?_⟩
    · rw [cutS_pre]; exact sz (by omega)
    refine ⟨_, rfl, _, rfl, q, _, _, _, rfl, rfl, hs, rfl, _, rfl, q, _, _, _, rfl, rfl, hs, rfl, _, _, rfl, rfl, _, rfl, t, rfl, sz (by omega), _, _, rfl, rfl, ?_, ?_⟩
    · rw [e2, cutS_suf, cutS_pre, app_len]; exact sz (by omega)
    rw [e2, cutS_suf, cutS_pre]
    exact k
def spBack51 (K : PySem.W.Frag) : Sp := fun vs H Q _ => ∃ (t : Str) (q : Addr) (c : Chg), vs = [.str t, .ref q] ∧ H q = some (chO c) ∧ t.length ≤ 1000 ∧ c.put.length ≤ 1000 ∧ ∀ H' r, Same H H' → H' r = some (chO (backC t c)) → Q (.ref r) H'
theorem cal__law_back (T : Tx K mg) : Cal P w K mg base CX0 1 "_law_back" (spBack51 K) := by
  obtain ⟨fd, F⟩ := T.d__law_back
  refine ⟨_, fd, P__law_back, F.ok sc__law_back (fun vs H Q E h => ?_) (fun cdv A outer s H vs Q E hr h => ?_), T.g__law_back, F.kp, F.bindsN (ps := P__law_back) fun _ _ _ _ _ _ us hl => match us, hl with | [_, _], _ => rfl⟩
  · obtain ⟨t, q, c, rfl, _⟩ := h
    rfl
  · obtain ⟨t, q, c, rfl, hq, tl, cl, k⟩ := h
    refine ⟨_, (PSs.nox (pss_one (ps_ret (pe_tupG (pa_cons (pe_ix ix_tup (pv 1) pe_int (fun _ _ => rfl)) (pa_cons (pe_callB (id := "len") call_len_str (by rfl) T.n_len (by decide +kernel) (pa_cons (pe_ix ix_tup (pv 1) pe_int (fun _ _ => rfl)) pa_nil)) (pa_cons (pe_slice sl_str (pv 0) (po_some (pe_ix ix_tup (pv 1) pe_int (fun _ _ => rfl))) (po_some (pe_op op_add (pe_ix ix_tup (pv 1) pe_int (fun _ _ => rfl)) (pe_ix ix_tup (pv 1) pe_int (fun _ _ => rfl))))) pa_nil))))))), ?_⟩
    have hs := SqT.of (K := K) hq
    refine ⟨_, rfl, q, _, _, _, rfl, rfl, hs, rfl, _, rfl, q, _, _, _, rfl, rfl, hs, rfl, _, rfl, sz (by omega), ?_⟩
    have e2 : ((c.pl : Nat) : Int) + ((c.gn : Nat) : Int) = ((c.pl + c.gn : Nat) : Int) := by omega
    refine ⟨_, rfl, _, rfl, q, _, _, _, rfl, rfl, hs, rfl, _, rfl, _, rfl, q, _, _, _, rfl, rfl, hs, rfl, _, rfl, q, _, _, _, rfl, rfl, hs, rfl, _, _, rfl, rfl, _, rfl, t, rfl, sz (by omega), (by show 3 ≤ sizeLine; decide), fun r H1 nr s1 hr => ?_⟩
    rw [e2, cutS_mid] at hr
    exact k H1 r s1 hr
def spDrawn51 (K : PySem.W.Frag) : Sp := fun vs H Q _ => ∃ (cl salt : Int) (lp : Addr) (z : Str) (rs : Rws) (t : Str), vs = [.int cl, .int salt, .ref lp, .str t] ∧ 0 ≤ salt ∧ salt ≤ 100000 ∧ SqL K H lp ((pcs z rs).map V.str) ∧ TabOk z rs ∧ TextOf z t ∧ t.length ≤ 24 ∧
  ∀ H' q c, Same H H' → H' q = some (chO c) → EnOk z ⟨t, c⟩ → Q (.ref q) H'
theorem cal__law_drawn (T : Tx K mg) : Cal P w K mg base CX0 3 "_law_drawn" (spDrawn51 K) := by
  have C__law_change := cal__law_change (P := P) (w := w) (base := base) T
  have C__law_short := cal__law_short (P := P) (w := w) (base := base) T
  obtain ⟨fd, F⟩ := T.d__law_drawn
  refine ⟨_, fd, P__law_drawn, F.ok sc__law_drawn (fun vs H Q E h => ?_) (fun cdv A outer s H vs Q E hr h => ?_), T.g__law_drawn, F.kp, F.bindsN (ps := P__law_drawn) fun _ _ _ _ _ _ us hl => match us, hl with | [_, _, _, _], _ => rfl⟩
  · obtain ⟨cl, salt, lp, z, rs, t, rfl, _⟩ := h
    rfl
  · obtain ⟨cl, salt, lp, z, rs, t, rfl, s0, s1, hlp, tk, tx, tl, k⟩ := h
    refine ⟨_, (PSs.nox (pss_one (ps_ret (pe_cal C__law_short (by first | exact hr | exact hr.mono (by decide)) (by rfl) (pa_cons (pe_cal C__law_change (by first | exact hr | exact hr.mono (by decide)) (by rfl) (pa_cons (pv 0) (pa_cons (pv 1) (pa_cons (pv 2) (pa_cons (pv 3) (pa_cons pe_int pa_nil)))))) (pa_cons (pv 3) (pa_cons pe_int pa_nil))))))), ?_⟩
    refine ⟨_, rfl, _, rfl, _, rfl, _, rfl, cl, salt, lp, z, rs, t, 2, rfl, s0, s1, hlp, tk, by omega, by decide, fun H1 q c s1' hq ok => ?_⟩
    refine ⟨_, rfl, q, z, t, 24, 2 * 16, c, rfl, hq, ok, by omega, by decide, tl, fun H2 q' c' s2 hq' ok' le => ?_⟩
    exact k H2 q' c' (s1'.trans s2) hq' ⟨tx, ⟨ok'.pl, ok'.gn, ok'.tx, by have := ok'.len; show c'.put.length ≤ 64; omega⟩, tl, le⟩
def spSame51 (K : PySem.W.Frag) : Sp := fun vs H Q _ => ∃ (x dx f cu wb tt p : Addr) (z : Str) (rs : Rws) (t : Str), vs = [.ref x, .ref tt] ∧ H x = some (.ins (KC K) dx (kf f cu t wb)) ∧ FolAt K H f z rs ∧ H tt = some (.tup [.str z, .ref p]) ∧ RowsAt H p rs ∧ TabOk z rs ∧ ∀ H', Same H H' → Q (.bl true) H'
theorem cal__law_same (T : Tx K mg) : Cal P w K mg base CX0 3 "_law_same" (spSame51 K) := by
  have M_Kept_table := met_ktable (P := P) (w := w) (base := base) T
  have M_Table_signs := met_signs (P := P) (w := w) (base := base) T
  have M_Table_rows := met_rows (P := P) (w := w) (base := base) T
  obtain ⟨fd, F⟩ := T.d__law_same
  refine ⟨_, fd, P__law_same, F.ok sc__law_same (fun vs H Q E h => ?_) (fun cdv A outer s H vs Q E hr h => ?_), T.g__law_same, F.kp, F.bindsN (ps := P__law_same) fun _ _ _ _ _ _ us hl => match us, hl with | [_, _], _ => rfl⟩
  · obtain ⟨x, dx, f, cu, wb, tt, p, z, rs, t, rfl, _⟩ := h
    rfl
  · obtain ⟨x, dx, f, cu, wb, tt, p, z, rs, t, rfl, hx, fo, htt, hR, tk, k⟩ := h
    refine ⟨_, (PSs.nox (pss_one (ps_ret (pe_and (pe_cmpR op_eq (pe_met0 M_Table_signs (pe_met0 M_Kept_table (pv 0) (by first | exact hr | exact hr.mono (by decide))) (by first | exact hr | exact hr.mono (by decide))) (pe_ix ix_tup (pv 1) pe_int (fun _ _ => rfl)) (nomark _)) (pe_one (pe_cmpR (op_eqD hr.units) (pe_met0 M_Table_rows (pe_met0 M_Kept_table (pv 0) (by first | exact hr | exact hr.mono (by decide))) (by first | exact hr | exact hr.mono (by decide))) (pe_ix ix_tup (pv 1) pe_int (fun _ _ => rfl)) (nomark _))))))), ?_⟩
    refine ⟨_, rfl, x, dx, _, rfl, hx, kf_mtb _ _ _ _, x, dx, f, cu, wb, z, rs, t, rfl, fo, hx, fun tm ta => ?_⟩
    obtain ⟨dxt, lr, lp, dn, dr, m, h1, _⟩ := id ta.ex
    refine ⟨tm, dxt, _, rfl, h1, l6_ms_ _ _ _ _ _ _, tm, z, rs, rfl, ta, ?_⟩
    refine ⟨_, rfl, tt, _, _, _, rfl, rfl, SqT.of htt, rfl, rfl, _, rfl, ?_⟩
    rw [decide_eq_true (rfl : V.str z = V.str z)]
    refine iteT ?_
    refine ⟨_, rfl, x, dx, _, rfl, hx, kf_mtb _ _ _ _, x, dx, f, cu, wb, z, rs, t, rfl, fo, hx, fun tm2 ta2 => ?_⟩
    obtain ⟨dxt2, lr2, lp2, dn2, dr2, m2, h12, _⟩ := id ta2.ex
    refine ⟨tm2, dxt2, _, rfl, h12, l6_mr _ _ _ _ _ _, tm2, z, rs, rfl, ta2, fun H2 q s2 nq hq => ?_⟩
    refine ⟨_, rfl, tt, _, _, _, rfl, rfl, SqT.of (s2 _ _ htt), rfl, _, _, dpR hq, dpR (hR.same s2), shR tk.rasc50, shR tk.rasc50, ?_⟩
    rw [eqR, decide_eq_true rfl]
    exact k _ s2
end
end Jr
namespace Jr
open PySem PySem.Spec PyProof.Rows L2
theorem len2 {s y : Str} {n m : Nat} (h : s.length ≤ n) (hy : y.length ≤ m) : (s ++ y).length ≤ n + m := by rw [app_len]; omega
section
variable {P : Program} {w : World} {K : PySem.W.Frag} {mg : Str → Option Value} {base : Heap}
def spJE (K : PySem.W.Frag) : Sp := fun vs H Q _ => ∃ (a C : Addr) (v : V), vs = [.ref a, v] ∧ OexC K C ∧ H a = some (exo a C none) ∧ Q .non H
theorem cdf_JoinError (T : Tx K mg) : Cdf P w K mg base 1 "JoinError" (He.ga K "JoinError") "__init__" (spJE K) := by
  obtain ⟨fd, F⟩ := T.d_JoinError___init__
  refine ⟨⟨_, fd, P_JoinError___init__, F.ok sc_JoinError___init__ (fun vs H Q E h => ?_) (fun cdv A outer s H vs Q E hr h => ?_), T.rd_JoinError, T.ga_JoinError, T.fc_JoinError, F.kp,
    F.bindsN (ps := P_JoinError___init__) fun _ _ _ _ _ _ us hl => match us, hl with | [_, _], _ => rfl⟩, T.g_JoinError⟩
  · obtain ⟨a, C, v, rfl, _⟩ := h
    rfl
  · obtain ⟨a, C, v, rfl, ox, ha, k⟩ := h
    refine ⟨_, (PSs.nox (pss_one (ps_expr (pe_veinit (by rfl) T.n_ValueError (vV _) (pa_cons (pv 0) (pa_cons (pv 1) pa_nil)))))), ?_⟩
    exact ⟨_, rfl, _, rfl, a, C, [v], rfl, (by show 1 ≤ 1000; decide), ox, ha, k⟩
end
end Jr
namespace Jr
open PySem PySem.Spec PyProof.Rows L2
/-! ### what is refused, and with what -/
theorem tyx_same {K : PySem.W.Frag} {H H' : Hp} {v : V} {t : Value} (h : TyX K H v t) (s : Same H H') : TyX K H' v t := by
  cases h with
  | base b =>
    cases b with
    | non => exact .base .non
    | bl x => exact .base (.bl x)
    | int i => exact .base (.int i)
    | str x => exact .base (.str x)
    | flt x => exact .base (.flt x)
    | lst e => exact .base (.lst (s _ _ e))
    | frz e => exact .base (.frz (s _ _ e))
    | tup e => exact .base (.tup (s _ _ e))
    | dK e => exact .base (.dK (s _ _ e))
    | dT e => exact .base (.dT (s _ _ e))
    | ins e cl ha hn htk hm => exact .base (.ins (s _ _ e) cl ha hn htk hm)
  | byt b => exact .byt b
  | set e => exact .set (s _ _ e)
  | kList e c => exact .kList e c
  | kTuple e c => exact .kTuple e c
  | kDict e c => exact .kDict e c
  | fTuple e => exact .fTuple (s _ _ e)
  | fDict e => exact .fDict (s _ _ e)
theorem NoStr.same {K : PySem.W.Frag} {H H' : Hp} {v : V} (h : NoStr K H v) (s : Same H H') : NoStr K H' v := by
  obtain ⟨t, a, b⟩ := h
  exact ⟨t, tyx_same a s, b⟩
section
variable {K : PySem.W.Frag} {H : Hp}
theorem noStr_non : NoStr K H .non := ⟨_, .base .non, kit_ty (by decide +kernel)⟩
theorem noStr_bl (b : Bool) : NoStr K H (.bl b) := ⟨_, .base (.bl b), kit_ty (by decide +kernel)⟩
theorem noStr_int (i : Int) : NoStr K H (.int i) := ⟨_, .base (.int i), kit_ty (by decide +kernel)⟩
theorem noStr_lst {a : Addr} {xs : List V} (h : H a = some (.lst xs)) : NoStr K H (.ref a) := ⟨_, .base (.lst h), kit_ty (by decide +kernel)⟩
theorem noStr_tup {a : Addr} {xs : List V} (h : H a = some (.tup xs)) : NoStr K H (.ref a) := ⟨_, .base (.tup h), kit_ty (by decide +kernel)⟩
theorem noStr_dK {a : Addr} {xs : List (Key × V)} (h : H a = some (.dK xs)) : NoStr K H (.ref a) := ⟨_, .base (.dK h), kit_ty (by decide +kernel)⟩
end
/-- the place of the first sign that is not z's -/
def wrong1 (z t : Str) : Option Nat := t.cps.toList.findIdx? fun c => !decide (c ∈ z.cps.toList)
theorem wrong1_none {z t : Str} : wrong1 z t = none ↔ TextOf z t := by
  unfold wrong1
  rw [List.findIdx?_eq_none_iff]
  exact ⟨fun h c hc => by simpa using h c hc, fun h c hc => by simpa using h c hc⟩
theorem wrong1_at {z t : Str} {i c : Nat} (h : ∀ j d, j < i → t.cps.toList[j]? = some d → d ∈ z.cps.toList) (hc : t.cps.toList[i]? = some c) (n : ¬ c ∈ z.cps.toList) : wrong1 z t = some i := by
  unfold wrong1
  obtain ⟨hi, e⟩ := List.getElem?_eq_some_iff.mp hc
  rw [List.findIdx?_eq_some_iff_getElem]
  refine ⟨hi, ?_, fun j hj => ?_⟩
  · rw [e]; simpa using n
  · have := h j _ hj (List.getElem?_eq_getElem (by omega))
    simpa using this
theorem wrong1_lt {z t : Str} {i : Nat} (h : wrong1 z t = some i) : i < t.length := by
  unfold wrong1 at h
  obtain ⟨hi, _⟩ := List.findIdx?_eq_some_iff_getElem.mp h
  rw [← len_cps]; exact hi
/-- v is refused as a text of z's signs, w the place -/
def Bad (K : PySem.W.Frag) (H : Hp) (z : Str) (v w : V) : Prop := (∃ t i, v = .str t ∧ wrong1 z t = some i ∧ w = .int (i : Nat)) ∨ (NoStr K H v ∧ w = .non)
theorem Bad.same {K : PySem.W.Frag} {H H' : Hp} {z : Str} {v w : V} (h : Bad K H z v w) (s : Same H H') : Bad K H' z v w := by
  rcases h with h | ⟨h, e⟩
  · exact .inl h
  · exact .inr ⟨h.same s, e⟩
/-- an error of the class at C with one field is wanted -/
def Rz (C : Addr) (f : Str) (v : V) (H : Hp) (E : XK) : Prop := ∀ H' d, Same H H' → H d = none → H' d = some (.xd [(f, v)]) → E (.ref C) (some d) H'
theorem Rz.same {C : Addr} {f : Str} {v : V} {H H1 : Hp} {E : XK} (h : Rz C f v H E) (s : Same H H1) : Rz C f v H1 E := fun H' d s1 n e => h H' d (s.trans s1) (s.free n) e
theorem Rz.now {C : Addr} {f : Str} {v : V} {H : Hp} {E : XK} (h : Rz C f v H E) : ∀ d, H d = none → E (.ref C) (some d) (upd H d (.xd [(f, v)])) := fun d n => h _ d (Same.new n) n upd_same
theorem fmt_nat (i : Nat) (h : i ≤ 100000) : Fmt (.int (i : Nat)) := .inr (.inl ⟨_, rfl, by
  have e : ((i : Nat) : Int).natAbs = i := by omega
  rw [e]
  rcases Nat.eq_zero_or_pos i with h0 | h0
  · rw [h0]; decide
  · have : i.log2 < 20 := (Nat.log2_lt (by omega)).mpr (by omega)
    omega⟩)
end Jr
namespace Jr
open PySem PySem.Spec PyProof.Rows L2
/-! ### errors made of a text alone: no dict -/
theorem mk_endN {X : Cx} {pins : List (Addr × Obj)} {σ : L2.St} {H1 H2 : Hp} {hp hp2 h2 : Heap} {g1 g2 : Array GenState} {d1 d2 : Drawn} {t1 t2 : Nat} {os1 os2 : OsState} {a C : Addr} (I1 : Inv X pins σ H1 ⟨hp, g1, d1, t1, os1⟩)
    (ha : hp.objs.size ≤ a) (k : ∀ b o, hp.get? b = some o → hp2.get? b = some o) (un : Un (frs X.stack) [] (upd H1 a (exo a C none)) H2 hp2 h2) (hok : HOk X.prog X.w H2 h2) (ho : os2 = os1) (hb : AllBare g2)
    (ea : H2 a = some (exo a C none)) :
    ∃ (t0 : Addr) (G : Heap), Inv X pins σ (del H2 a) ⟨G, g2, d2, t2, os2⟩ ∧ (∀ b o, G.get? b = some o → h2.get? b = some o) ∧ G.get? a = none ∧
      h2.get? a = some ({ cls := .ref C, dict := none, data := .fields #[.ref t0, .none, .none, .none, .bool false, .none] } : Obj) := by
  obtain ⟨t0, hoe⟩ := exo_at hok ea
  have hn : H1 a = none := I1.hok.fresh ha
  obtain ⟨G, g1', g2'⟩ := restrict h2 fun b => decide (b ≠ a)
  have gk : ∀ b, b ≠ a → G.get? b = h2.get? b := fun b hb => g1' b (decide_eq_true hb)
  have ge : G.get? a = none := g2' a (by simp)
  have nha : ∀ {b : Addr} {o : Obj}, hp.get? b = some o → b ≠ a := fun {b o} z => Nat.ne_of_lt (Nat.lt_of_lt_of_le (Heap.lt_size z) ha)
  have up : ∀ {b : Addr}, b ≠ a → H1 b = none → upd H1 a (exo a C none) b = none := fun {b} hb n => by rw [upd_ne hb]; exact n
  have U : Un (frs X.stack) [] H1 (del H2 a) hp G := {
    keep := fun b o z n hf hx => by
      rw [gk b (nha z)]
      exact un.keep b o (k b o z) (up (nha z) n) hf hx
    slot := fun b o z n hf hx => by
      rw [gk b (nha z)]
      exact un.slot b o (k b o z) (up (nha z) n) hf hx
    free := fun b o z n hx => by
      rw [del_ne (nha z)]
      exact un.free b o (k b o z) (up (nha z) n) hx
    there := fun b o z hx => by
      rw [gk b (nha z)]
      exact un.there b o (k b o z) hx
    tups := fun b xs z => by
      rw [del_ne (ne_of_none z hn)]
      exact un.tups b xs (by rw [upd_ne (ne_of_none z hn)]; exact z)
    frzs := fun b o v z => by
      rw [del_ne (ne_of_none z hn)]
      exact un.frzs b o v (by rw [upd_ne (ne_of_none z hn)]; exact z)
    tbls := fun b ps z => by
      rw [del_ne (ne_of_none z hn)]
      exact un.tbls b ps (by rw [upd_ne (ne_of_none z hn)]; exact z) }
  have hok3 : HOk X.prog X.w (del H2 a) G := fun b o z => by
    have hba : b ≠ a := fun e => by
      rw [e, del_same] at z
      cases z
    rw [del_ne hba] at z
    have noa : ∀ {c : Addr}, H2 c = some (.own b) → c ≠ a := fun {c} hc => at_ne ea hc exo_own
    exact (hok b o z).stay (fun c v hc y => by
        have hca : c ≠ a := by
          rcases hc with hc | hc
          · rw [hc]
            exact hba
          · exact noa hc
        rw [gk c hca]
        exact y)
      (fun c hc => by rw [del_ne (noa hc)]; exact hc) (fun c xs hc => by rw [del_ne (at_ne ea hc exo_tup)]; exact hc)
  have J : Inv X pins σ (del H2 a) ⟨G, g2, d2, t2, os2⟩ := I1.call' (ch := []) ho U hok3 hb (fun b z => absurd z (by simp))
  refine ⟨t0, G, J, fun b o z => ?_, ge, hoe⟩
  by_cases hba : b = a
  · rw [hba, ge] at z
    cases z
  · exact (gk b hba).symm.trans z
/-- C(e, ..), C's own __init__ keeping sp, no field set -/
def tMkN (C : Addr) (sp : Sp) (ta : TA) : L2.St → Hp → XK → Prop := fun σ H Q => ta σ H fun vs H1 => vs.length ≤ 1000 ∧ ∀ a, H1 a = none → sp (.ref a :: vs) (upd H1 a (exo a C none))
  (fun v H2 => v = .non ∧ H2 a = some (exo a C none) ∧ Q (.ref C) none (del H2 a)) (fun _ _ _ => False)
section
variable {X : Cx} {e : Expr} {es : List Expr} {ta : TA} {p pos : Pos}
theorem pmk_oexN {CX : CXT} {x : Str} {C fI : Addr} {k : Nat} {fd : FuncData} {ps : List Str} {sp : Sp} (T : OexC X.K C) (iC : PySem.W.findIn X.K (.ref C) "__init__" = some (some (.ref fI))) (tI : PySem.W.typeIn X.K (.ref fI) = some (.type "function"))
    (F1 : FnOk X.prog X.w X.K X.mg X.base CX k fI fd ps sp) (hr : Room (k + 1) X.A) (hb : Binds X.K fd ps []) (hx : Passes CX X (fun _ _ _ => False)) (hg : Gl X x) (hm : X.mg x = some (.ref C)) (ha : PA X (e :: es) ta)
    (hdb : (x == ("__debug__" : Str)) = false := by decide) (he : starEach (e :: es) X.env = (false, eval e X.env) :: starEach es X.env := by rfl) (hpl : (backTo pos (starEach es X.env)).any (·.1) = false := by rfl) :
    PMk X (.Call (.Name x p) (e :: es) [] pos) (tMkN C sp ta) := by
  intro pins s σ H Q I h
  obtain ⟨nm, q, N, bs, bm, sn, sub, ab, col, dd, k0, k1, k2, k3, k5, hC, hbm⟩ := T.cls
  refine wpAny_Call_Name_kw (ld_glob I hg hm ?_ hdb)
  refine PySem.W.callWith_K (h₀ := X.base) I.ok.mod.kin T.kC (thn (ha.run pos pins s σ H _ I h) fun us s1 ⟨vs, H1, I1, r1, hz, q1⟩ => ⟨I1.kIn, ?_⟩) he hpl
  show wpAny _ _ (call (.ref C) us) _ _ _
  obtain ⟨hp, g, dr, tk, os⟩ := s1
  have hsz : hp.objs.size ≤ hp.objs.size + 1 := Nat.le_succ _
  have hn : H1 (hp.objs.size + 1) = none := I1.hok.fresh hsz
  have hq := q1 (hp.objs.size + 1) hn
  have kk : ∀ b o, hp.get? b = some o → ((hp.push (PySem.W.kdv_tup us)).push (PySem.HandSPX.excO C hp.objs.size)).get? b = some o := fun b o e => Heap.get?_push_of_some _ (Heap.get?_push_of_some _ e)
  have hget : ((hp.push (PySem.W.kdv_tup us)).push (PySem.HandSPX.excO C hp.objs.size)).get? (hp.objs.size + 1) = some (PySem.HandSPX.excO C hp.objs.size) := by heap_get
  have I2 : Inv X pins σ (upd H1 (hp.objs.size + 1) (exo (hp.objs.size + 1) C none)) ⟨(hp.push (PySem.W.kdv_tup us)).push (PySem.HandSPX.excO C hp.objs.size), g, dr, tk, os⟩ :=
    I1.laid (t' := tk) (a := hp.objs.size + 1) (o := exo (hp.objs.size + 1) C none) (h' := (hp.push (PySem.W.kdv_tup us)).push (PySem.HandSPX.excO C hp.objs.size)) kk hsz (exo_ok hget)
  have r2 : Vals (V.ref (hp.objs.size + 1) :: vs) (Value.ref (hp.objs.size + 1) :: us) := .cons rfl r1
  have hl : (Value.ref (hp.objs.size + 1) :: us ++ []).length = ps.length := by
    have e := r2.length
    rw [F1.len _ _ _ _ hq] at e
    rw [List.append_nil]
    exact e.symm
  have hus : us.length ≤ sizeLine := by
    rw [← Paired.length r1, sizeLine_eq]
    omega
  have hbn := hb ⟨(hp.push (PySem.W.kdv_tup us)).push (PySem.HandSPX.excO C hp.objs.size), g, dr, tk, os⟩ (Value.ref (hp.objs.size + 1) :: us) I2.kIn hl
  rw [List.append_nil] at hbn
  refine wpAny_call (PySem.HandSPX.call_own F.excBase_ValueError (fun Y => PySem.HandSPX.refsVE_contains Y bm hbm) (I1.kIn _ _ hC) (PySem.W.looks_findIn I1.kIn iC) (fun self => PySem.W.bind_fn I1.kIn self tI) hus
    (codeAny_mono (F1.run _ X.stack _ _ ⟨Value.ref (hp.objs.size + 1) :: us, []⟩ (Value.ref (hp.objs.size + 1) :: us) _ _ (fun _ _ _ => False) (hr.make C us []) (I2.env0.make C us []) hbn r2 hq) fun r s' hq' => ?_))
  cases r with
  | error er => exact hx pins σ _ _ er s' I2 hq'
  | ok fl =>
    cases fl with
    | ret u =>
      obtain ⟨v, H2, os2, bare2, un2, hok2, rv, ev, ea, q2⟩ := hq'
      subst ev
      obtain ⟨h2, g2, d2, t2, os'⟩ := s'
      obtain ⟨t0, G, J, kG, ge, hoe⟩ := mk_endN (d2 := d2) (t2 := t2) I1 hsz kk un2 hok2 os2 bare2 ea
      exact ⟨rv, _, _, _, ⟨G, g2, d2, t2, os'⟩, _, .ref C, none, rfl, J, kG, ge, hoe, ⟨rfl, rfl⟩, rfl, rfl, del_same, rfl, bare2, raises_own T.exC T.tyC, q2⟩
    | next => exact False.elim hq'
    | brk => exact False.elim hq'
    | cont => exact False.elim hq'
end
/-- __init__(self, words): no field -/
def spX0 (C : Addr) : Sp := fun vs H Q _ => ∃ (a : Addr) (v : V), vs = [.ref a, v] ∧ H a = some (exo a C none) ∧ Q .non H
def tMk0 (C : Addr) (ta : TA) : L2.St → Hp → XK → Prop := fun σ H Q => ta σ H fun vs H1 => ∃ v, vs = [v] ∧ Q (.ref C) none H1
theorem del_new {H : Hp} {a : Addr} {o : HO} (h : H a = none) : del (upd H a o) a = H := by
  funext b
  by_cases e : b = a
  · rw [e, del_same, h]
  · rw [del_ne e, upd_ne e]
section
variable {X : Cx} {k : Nat} {x : Str} {C : Addr} {e : Expr} {ta : TA} {p pos : Pos}
theorem Exk.mk0 (F : Exk X.prog X.w X.K X.mg X.base k x C (spX0 C)) (hr : Room (k + 1) X.A) (ha : PA X [e] ta) (hg : Gl X x := by rfl) (hdb : (x == ("__debug__" : Str)) = false := by decide)
    (he : starEach [e] X.env = (false, eval e X.env) :: starEach [] X.env := by rfl) (hpl : (backTo pos (starEach [] X.env)).any (·.1) = false := by rfl) : PMk X (.Call (.Name x p) [e] [] pos) (tMk0 C ta) := by
  obtain ⟨fI, fd, ps, G, iC, tI, b⟩ := F.ex
  refine pmk_mono (pmk_oexN F.xc.oex iC tI G hr b pass0F hg F.g (pa_cl ha) hdb he hpl) fun σ H Q q => ⟨_, ?_, q⟩
  rintro vs H1 ⟨v, rfl, q⟩
  refine ⟨by show 1 ≤ 1000; decide, fun a na => ⟨a, v, rfl, upd_same, rfl, upd_same, ?_⟩⟩
  rw [del_new na]
  exact q
end
/-- an error of the class at C without fields is wanted -/
def Rz0 (C : Addr) (H : Hp) (E : XK) : Prop := ∀ H', Same H H' → E (.ref C) none H'
theorem Rz0.same {C : Addr} {H H1 : Hp} {E : XK} (h : Rz0 C H E) (s : Same H H1) : Rz0 C H1 E := fun H' s1 => h H' (s.trans s1)
end Jr
namespace Jr
open PySem PySem.Spec PyProof.Rows L2
section
variable {P : Program} {w : World} {K : PySem.W.Frag} {mg : Str → Option Value} {base : Heap}
theorem exk_NoDeed (T : Tx K mg) : Exk P w K mg base 1 "NoDeed" (He.ga K "NoDeed") (spX0 (He.ga K "NoDeed")) := by
  obtain ⟨fd, F⟩ := T.d_JoinError___init__
  refine ⟨⟨_, fd, P_JoinError___init__, F.ok sc_JoinError___init__ (fun vs H Q E h => ?_) (fun cdv A outer s H vs Q E hr h => ?_), T.in_NoDeed, T.it_NoDeed,
    F.bindsN (ps := P_JoinError___init__) fun _ _ _ _ _ _ us hl => match us, hl with | [_, _], _ => rfl⟩, T.xc_NoDeed, T.g_NoDeed⟩
  · obtain ⟨a, v, rfl, _⟩ := h
    rfl
  · obtain ⟨a, v, rfl, ha, k⟩ := h
    refine ⟨_, (PSs.nox (pss_one (ps_expr (pe_veinit (by rfl) T.n_ValueError (vV _) (pa_cons (pv 0) (pa_cons (pv 1) pa_nil)))))), ?_⟩
    exact ⟨_, rfl, _, rfl, a, _, [v], rfl, (by show 1 ≤ 1000; decide), T.xc_NoDeed.oex, ha, k⟩
end
end Jr
namespace Jr
open PySem PySem.Spec PyProof.Rows L2
section
variable {P : Program} {w : World} {K : PySem.W.Frag} {mg : Str → Option Value} {base : Heap}
abbrev CDeed (K : PySem.W.Frag) : Addr := He.ga K "NoDeed"
def spKUndo (K : PySem.W.Frag) : Sp := fun vs H Q E => ∃ (S : Hp) (x dx f cu wb : Addr) (z : Str) (rs : Rws) (t : Str) (ws : List V) (M : List (Addr × HO)), vs = [.ref x] ∧ KeptF K S f z rs t cu ∧ Reg S H (ktL K x dx f cu t wb ws ++ M) ∧
  ((ws = [] ∧ Rz0 (CDeed K) H E) ∨ ∃ (ws0 : List V) (wy : Addr) (pl gn : Nat) (put : Str), ws = ws0 ++ [.ref wy] ∧ S wy = some (.tup [.int (pl : Nat), .int (gn : Nat), .str put]) ∧ pl ≤ t.length ∧ gn ≤ t.length - pl ∧ put.length ≤ 1000 ∧ TextOf z put ∧ (chgT t pl gn put).length ≤ 1000 ∧
    ∀ S' H' tt cu', Same S S' → PatchN S S' tt (patchF (sweep rs t) (sweep rs (chgT t pl gn put)) (pl : Nat) ((t.length - pl - gn : Nat) : Int)) → (∀ v a b, S' tt = some (.tup [v, .ref a, .ref b]) → cu' ≠ a ∧ cu' ≠ b) → KeptF K S' f z rs (chgT t pl gn put) cu' → Reg S' H' (ktL K x dx f cu' (chgT t pl gn put) wb ws0 ++ M) → Q (.ref tt) H')
theorem metx_kundo (T : Tx K mg) : Met P w K mg base (L2.CX P w) 10 (KC K) "undo" (spKUndo K) := by
  have M_Kept_do_change := met_kdo (P := P) (w := w) (base := base) T
  have E_NoDeed := exk_NoDeed (P := P) (w := w) (base := base) T
  obtain ⟨fd, F⟩ := T.d_Kept_undo
  refine ⟨T.cl_Kept, _, fd, P_Kept_undo, F.ok sc_Kept_undo (fun vs H Q E h => ?_) (fun cdv A outer s H vs Q E hr h => ?_), T.m_Kept_undo, F.bindsN (ps := P_Kept_undo) fun _ _ _ _ _ _ us hl => match us, hl with | [_], _ => rfl⟩
  · obtain ⟨S, x, dx, f, cu, wb, z, rs, t, ws, M, rfl, _⟩ := h
    rfl
  · obtain ⟨S, x, dx, f, cu, wb, z, rs, t, ws, M, rfl, F, rg, k⟩ := h
    refine ⟨_, (pss_cons (ps_if (pt_not (pt_truth (pe_fld (pv 0) rfl) (fun _ => rfl))) (pss_one (ps_raise rfl (takes_of rfl rfl rfl rfl) (E_NoDeed.mk0 (by first | exact hr | exact hr.mono (by decide)) (pa_cons pe_str pa_nil)))) pss_nil)
      (pss_cons (ps_asg (pe_bm0 PySem.F.plainAttrs_list PySem.F.slot_list_pop PySem.F.type_list_pop mt_pop (pe_fld (pv 0) rfl)) (pg_tup rfl (pgs_cons (pg_name (i := 1) sc_Kept_undo.nd rfl (Or.inl rfl)) (pgs_cons (pg_name (i := 2) sc_Kept_undo.nd rfl (Or.inl rfl)) (pgs_cons (pg_name (i := 3) sc_Kept_undo.nd rfl (Or.inl rfl)) pgs_nil)))))
      (pss_one (ps_ret (pe_met M_Kept_do_change (pv 0) (by first | exact hr | exact hr.mono (by decide)) (pa_cons (pv 1) (pa_cons (pv 2) (pa_cons (pv 3) pa_nil)))))))), ?_⟩
    have hx := rg.get (i := 0) rfl
    have hw := rg.get (i := 1) rfl
    refine ⟨_, rfl, x, _, dx, _, _, rfl, hx, T.cl_Kept, T.no_Kept_ways_back, kf_w _ _ _ _, ?_⟩
    rcases k with ⟨rfl, k⟩ | ⟨ws0, wy, pl, gn, put, rfl, hwy, h1, h2, h3, tp, cl, k⟩
    · exact ⟨_, .inl ⟨_, SqL.of hw, rfl⟩, iteT ⟨_, rfl, k _ (Same.refl _)⟩⟩
    refine ⟨true, .inl ⟨_, SqL.of hw, (by simp)⟩, iteF ?_⟩
    have el : (ws0 ++ [V.ref wy])[(ws0 ++ [V.ref wy]).length - 1]? = some (V.ref wy) := by simp
    refine ⟨_, rfl, x, _, dx, _, _, rfl, hx, T.cl_Kept, T.no_Kept_ways_back, kf_w _ _ _ _, .inl ⟨rfl, _, SqL.of hw⟩, wb, _, _, rfl, rfl, hw, el, ?_⟩
    rw [List.dropLast_concat]
    have r2 := rg.set (i := 1) (a := wb) (o' := .lst ws0) rfl
    revert r2
    generalize (upd H wb (.lst ws0)) = H2
    intro r2
    have r2' : Reg S H2 (ktL K x dx f cu t wb ws0 ++ M) := r2
    refine ⟨wy, _, rfl, SqT.of (r2'.same _ _ hwy), rfl, _, _, rfl, _, _, rfl, _, _, rfl, rfl, ?_⟩
    have hx2 := r2'.get (i := 0) rfl
    exact ⟨_, rfl, x, dx, _, rfl, hx2, kf_mdo _ _ _ _, _, rfl, _, rfl, _, rfl, S, x, dx, f, cu, wb, z, rs, t, put, pl, gn, ws0, M, rfl, F, h1, h2, h3, tp, cl, r2', fun S3 H3 tt cu' sS3 hp nc F3 r3 => k S3 H3 tt cu' sS3 hp nc F3 r3⟩
end
end Jr
namespace Jr
open PySem PySem.Spec PyProof.Rows L2
theorem Reg.spoil {S H H' : Hp} {L : List (Addr × HO)} {b : Addr} {o : HO} (r : Reg S H L) (nb : H b = none) (s : Same H H') : Reg S (upd H' b o) L := by
  refine ⟨Same.mut (r.same.trans s) (r.same.free nb), r.off, r.nd, fun q hq => ?_⟩
  have h := r.at_ q hq
  have ne : q.1 ≠ b := fun e => by rw [e, nb] at h; cases h
  rw [upd_ne ne]
  exact s _ _ h
section
variable {P : Program} {w : World} {K : PySem.W.Frag} {mg : Str → Option Value} {base : Heap}
def spKChange (K : PySem.W.Frag) : Sp := fun vs H Q _ => ∃ (S : Hp) (x dx f cu wb : Addr) (z : Str) (rs : Rws) (t put : Str) (pl gn : Nat) (ws : List V) (M : List (Addr × HO)), vs = [.ref x, .int (pl : Nat), .int (gn : Nat), .str put] ∧ KeptF K S f z rs t cu ∧ pl ≤ t.length ∧ gn ≤ t.length - pl ∧ put.length ≤ 1000 ∧ TextOf z put ∧ (chgT t pl gn put).length ≤ 1000 ∧ ws.length ≤ 10000 ∧ Reg S H (ktL K x dx f cu t wb ws ++ M) ∧
  ∀ S' H' tt cu' wy, Same S S' → PatchN S S' tt (patchF (sweep rs t) (sweep rs (chgT t pl gn put)) (pl : Nat) ((t.length - pl - gn : Nat) : Int)) → (∀ v a b, S' tt = some (.tup [v, .ref a, .ref b]) → cu' ≠ a ∧ cu' ≠ b) → KeptF K S' f z rs (chgT t pl gn put) cu' → S' wy = some (.tup [.int (pl : Nat), .int ((put.length : Nat) : Int), .str (midS t pl (pl + gn))]) → Reg S' H' (ktL K x dx f cu' (chgT t pl gn put) wb (ws ++ [.ref wy]) ++ M) → Q (.ref tt) H'
theorem met_kchange (T : Tx K mg) : Met P w K mg base CX0 10 (KC K) "change" (spKChange K) := by
  have C_check_change := cal_check_change (P := P) (w := w) (base := base) T
  have M_Kept_table := met_ktable (P := P) (w := w) (base := base) T
  have M_Kept_do_change := met_kdo (P := P) (w := w) (base := base) T
  obtain ⟨fd, F⟩ := T.d_Kept_change
  refine ⟨T.cl_Kept, _, fd, P_Kept_change, F.ok sc_Kept_change (fun vs H Q E h => ?_) (fun cdv A outer s H vs Q E hr h => ?_), T.m_Kept_change, F.bindsN (ps := P_Kept_change) fun _ _ _ _ _ _ us hl => match us, hl with | [_, _, _, _], _ => rfl⟩
  · obtain ⟨S, x, dx, f, cu, wb, z, rs, t, put, pl, gn, ws, M, rfl, _⟩ := h
    rfl
  · obtain ⟨S, x, dx, f, cu, wb, z, rs, t, put, pl, gn, ws, M, rfl, F, h1, h2, h3, tp, cl, wl, rg, k⟩ := h
    refine ⟨_, (PSs.nox (pss_cons (ps_expr (pe_cal C_check_change (by first | exact hr | exact hr.mono (by decide)) (by rfl) (pa_cons (pe_met0 M_Kept_table (pv 0) (by first | exact hr | exact hr.mono (by decide))) (pa_cons (pe_fld (pv 0) rfl) (pa_cons (pv 1) (pa_cons (pv 2) (pa_cons (pv 3) pa_nil)))))))
      (pss_cons (ps_set (i := 4) sc_Kept_change.nd rfl (Or.inl rfl) (pe_tupG (pa_cons (pv 1) (pa_cons (pe_callB (id := "len") call_len_str (by rfl) T.n_len (by decide +kernel) (pa_cons (pv 3) pa_nil)) (pa_cons (pe_slice sl_str (pe_fld (pv 0) rfl) (po_some (pv 1)) (po_some (pe_op op_add (pv 1) (pv 2)))) pa_nil)))))
      (pss_cons (ps_set (i := 5) sc_Kept_change.nd rfl (Or.inl rfl) (pe_met M_Kept_do_change (pv 0) (by first | exact hr | exact hr.mono (by decide)) (pa_cons (pv 1) (pa_cons (pv 2) (pa_cons (pv 3) pa_nil)))))
      (pss_cons (ps_expr (pe_bm PySem.F.plainAttrs_list PySem.F.slot_list_append PySem.F.type_list_append mt_append (pe_fld (pv 0) rfl) (pa_cons (pv 4) pa_nil)))
      (pss_one (ps_ret (pv 5)))))))), ?_⟩
    have hx := rg.get (i := 0) rfl
    have tl := F.tl
    refine ⟨_, rfl, x, dx, _, rfl, hx, kf_mtb _ _ _ _, x, dx, f, cu, wb, z, rs, t, rfl, F.fol.same rg.same, hx, fun tt0 ta => ?_⟩
    refine ⟨_, rfl, x, _, dx, _, _, rfl, hx, T.cl_Kept, T.no_Kept_held_text, kf_t _ _ _ _, _, rfl, _, rfl, _, rfl, tt0, z, rs, t, put, pl, gn, rfl, ta, h1, h2, by omega, by omega, tp, fun H1 s1 => ?_⟩
    have hx1 := s1 _ _ hx
    have e2 : ((pl : Nat) : Int) + ((gn : Nat) : Int) = ((pl + gn : Nat) : Int) := by omega
    refine ⟨_, rfl, _, rfl, put, rfl, sz (by omega), _, rfl, x, _, dx, _, _, rfl, hx1, T.cl_Kept, T.no_Kept_held_text, kf_t _ _ _ _, _, rfl, _, rfl, _, rfl, _, rfl, _, _, rfl, rfl, _, rfl, t, rfl, sz (by omega), (by show 3 ≤ sizeLine; decide), fun wy H2 nwy s2 hwy => ?_⟩
    rw [e2, cutS_mid] at hwy
    have s12 := s1.trans s2
    obtain ⟨g2, sS2⟩ := rg.grow s12
    have hwS := out_of (L := ktL K x dx f cu t wb ws ++ M) hwy (rg.free (s1.free nwy))
    have F2 := F.same sS2
    revert g2 sS2 hwS F2
    generalize (out H2 (ktL K x dx f cu t wb ws ++ M)) = S2
    intro g2 sS2 hwS F2
    have hx2 := g2.get (i := 0) rfl
    refine ⟨_, rfl, x, dx, _, rfl, hx2, kf_mdo _ _ _ _, _, rfl, _, rfl, _, rfl, S2, x, dx, f, cu, wb, z, rs, t, put, pl, gn, ws, M, rfl, F2, h1, h2, h3, tp, cl, g2, fun S3 H3 tt cu' sS3 hp nc F3 r3 => ?_⟩
    have hx3 := r3.get (i := 0) rfl
    have hw3 := r3.get (i := 1) rfl
    refine ⟨_, rfl, x, _, dx, _, _, rfl, hx3, T.cl_Kept, T.no_Kept_ways_back, kf_w _ _ _ _, .inl ⟨rfl, _, SqL.of hw3⟩, _, rfl, wb, _, _, rfl, rfl, hw3, szl (by omega), ?_⟩
    have r4 := r3.set (i := 1) (a := wb) (o' := .lst (ws ++ [.ref wy])) rfl
    exact ⟨_, rfl, k S3 _ tt cu' wy (sS2.trans sS3) (hp.before sS2) nc F3 (sS3 _ _ hwS) r4⟩
end
end Jr
namespace Jr
open PySem PySem.Spec PyProof.Rows L2
/-! ### a promise that may raise, told where nothing is raised -/
theorem okCalm {P : Program} {w : World} {K : PySem.W.Frag} {mg : Str → Option Value} {base : Heap} {k : Nat} {f : Addr} {fd : FuncData} {ps : List Str} {sp : Sp} (F : FnOk P w K mg base (L2.CX P w) k f fd ps sp) :
    FnOk P w K mg base CX0 k f fd ps (fun vs H Q _ => sp vs H Q fun _ _ _ => False) := by
  refine ⟨fun vs H Q _ h => F.len vs H Q _ h, fun A outer s H args us vs Q E hr e0 hb rv h => ?_⟩
  refine codeAny_mono (F.run A outer s H args us vs Q _ hr e0 hb rv h) fun r s' hq => ?_
  cases r with
  | error e =>
    obtain ⟨_, _, _, _, _, _, _, _, _, _, _, _, z⟩ := hq
    exact z.elim
  | ok fl =>
    cases fl with
    | ret u => exact hq
    | next => exact hq
    | brk => exact hq
    | cont => exact hq
theorem Cal.calm {P : Program} {w : World} {K : PySem.W.Frag} {mg : Str → Option Value} {base : Heap} {k : Nat} {x : Str} {sp : Sp} (F : Cal P w K mg base (L2.CX P w) k x sp) : Cal P w K mg base CX0 k x (fun vs H Q _ => sp vs H Q fun _ _ _ => False) := by
  obtain ⟨f, fd, ps, G, r⟩ := F.ex
  exact ⟨f, fd, ps, okCalm G, r⟩
theorem Met.calm {P : Program} {w : World} {K : PySem.W.Frag} {mg : Str → Option Value} {base : Heap} {k : Nat} {C : Addr} {m : Str} {sp : Sp} (F : Met P w K mg base (L2.CX P w) k C m sp) : Met P w K mg base CX0 k C m (fun vs H Q _ => sp vs H Q fun _ _ _ => False) := by
  obtain ⟨cl, f, fd, ps, G, r⟩ := F
  exact ⟨cl, f, fd, ps, okCalm G, r⟩
theorem Mkc.calm {P : Program} {w : World} {K : PySem.W.Frag} {mg : Str → Option Value} {base : Heap} {k : Nat} {x : Str} {C : Addr} {sp : Sp} (F : Mkc P w K mg base (L2.CX P w) k x C sp) : Mkc P w K mg base CX0 k x C (fun vs H Q _ => sp vs H Q fun _ _ _ => False) := by
  obtain ⟨⟨f, fd, ps, G, r⟩, g⟩ := F
  exact ⟨⟨f, fd, ps, okCalm G, r⟩, g⟩
end Jr
namespace Jr
open PySem PySem.Spec PyProof.Rows L2
section
variable {P : Program} {w : World} {K : PySem.W.Frag} {mg : Str → Option Value} {base : Heap}
def spHeld (K : PySem.W.Frag) : Sp := fun vs H Q _ => ∃ (x dx f cu wb p : Addr) (z : Str) (rs : Rws) (t : Str), vs = [.ref x, .ref p, .str t] ∧ H x = some (.ins (KC K) dx (kf f cu t wb)) ∧ H cu = some (.lst ((sweep rs t).map V.str)) ∧ RowsAt H p rs ∧ TabOk z rs ∧ TextOf z t ∧ t.length ≤ 1000 ∧ ∀ H', Same H H' → Q (.bl true) H'
theorem cal__law_held (T : Tx K mg) : Cal P w K mg base CX0 2 "_law_held" (spHeld K) := by
  have C__law_cut := cal__law_cut (P := P) (w := w) (base := base) T
  have M_Kept_cutting := met_kcut (P := P) (w := w) (base := base) T
  have M_Kept_text := met_ktext (P := P) (w := w) (base := base) T
  obtain ⟨fd, F⟩ := T.d__law_held
  refine ⟨_, fd, P__law_held, F.ok sc__law_held (fun vs H Q E h => ?_) (fun cdv A outer s H vs Q E hr h => ?_), T.g__law_held, F.kp, F.bindsN (ps := P__law_held) fun _ _ _ _ _ _ us hl => match us, hl with | [_, _, _], _ => rfl⟩
  · obtain ⟨x, dx, f, cu, wb, p, z, rs, t, rfl, _⟩ := h
    rfl
  · obtain ⟨x, dx, f, cu, wb, p, z, rs, t, rfl, hx, hc, hR, tk, tx, tl, k⟩ := h
    refine ⟨_, (PSs.nox (pss_cons (ps_set (i := 3) sc__law_held.nd rfl (Or.inl rfl) (pe_met0 M_Kept_cutting (pv 0) (by first | exact hr | exact hr.mono (by decide))))
      (pss_one (ps_ret (pe_and (pe_callB (id := "isinstance") call_isi (by rfl) T.n_isinstance (by decide +kernel) (pa_cons (pv 3) (pa_cons (pe_bltn (v := .ty "list") (by rfl) T.n_list (by decide +kernel) rfl) pa_nil))) (pe_and (pe_cmpR (op_eqD hr.units) (pv 3) (pe_cal C__law_cut (by first | exact hr | exact hr.mono (by decide)) (by rfl) (pa_cons (pv 1) (pa_cons (pv 2) pa_nil))) (nomark _)) (pe_one (pe_cmpR op_eq (pe_met0 M_Kept_text (pv 0) (by first | exact hr | exact hr.mono (by decide))) (pv 2) (nomark _))))))))), ?_⟩
    have asc : ∀ y ∈ sweep rs t, Asc y := fun y hy => tk.asc (sweep_pc tx hy)
    refine ⟨_, rfl, x, dx, _, rfl, hx, kf_mcu _ _ _ _, x, dx, f, cu, wb, t, _, rfl, hx, hc, fun H1 r s1 nr hr' => ?_⟩
    refine ⟨_, rfl, _, _, _, _, _, rfl, .ty "list", .base (.lst hr'), isLst, _, rfl, iteT ?_⟩
    refine ⟨_, rfl, _, rfl, _, rfl, p, z, rs, t, rfl, hR.same s1, tk, tx, by omega, fun H2 c s2 nc hc2 => ?_⟩
    refine ⟨_, _, dpS (SqL.of (s2 _ _ hr')), dpS (SqL.of hc2), shS asc, shS asc, _, rfl, ?_⟩
    rw [eqS, decide_eq_true rfl]
    have s12 := s1.trans s2
    refine iteT ⟨_, rfl, x, dx, _, rfl, s12 _ _ hx, kf_mtx _ _ _ _, x, dx, f, cu, wb, t, rfl, s12 _ _ hx, _, rfl, rfl, ?_⟩
    rw [decide_eq_true (rfl : V.str t = V.str t)]
    exact k _ s12
end
end Jr
namespace Jr
open PySem PySem.Spec PyProof.Rows L2
theorem paired_snoc51 {α β : Type} {F : α → β → Prop} : ∀ {l : List α} {m : List β} {y : β}, Paired F l (m ++ [y]) → ∃ l0 x, l = l0 ++ [x] ∧ Paired F l0 m ∧ F x y
  | _, [], y, .cons h .nil => ⟨[], _, rfl, .nil, h⟩
  | _, b :: m, y, .cons h q => by
    obtain ⟨l0, x, rfl, p, hx⟩ := paired_snoc51 q
    exact ⟨_ :: l0, x, rfl, .cons h p, hx⟩
theorem Sk.empty {z first t : Str} {es : List En} (h : Sk z first es t) (e : es = []) : t = first := by
  cases h with
  | nil => rfl
  | snoc _ _ => simp at e
theorem PatchN.outs {S H H' : Hp} {L : List (Addr × HO)} {t : Addr} {p : Patch} (h : PatchN H H' t p) (r : Reg S H L) : PatchAt (out H' L) t p := by
  obtain ⟨a, b, n0, n1, n2, _, h1, h2, h3⟩ := h
  exact ⟨a, b, out_of h1 (r.free n0), out_of h2 (r.free n1), out_of h3 (r.free n2)⟩
theorem out_len51 (old new : List Str) (a b : Int) : (patchF old new a b).out.length ≤ old.length := by
  unfold patchF
  rw [List.length_take, List.length_drop]
  omega
section
variable {P : Program} {w : World} {K : PySem.W.Frag} {mg : Str → Option Value} {base : Heap}
def spUndone51 (K : PySem.W.Frag) : Sp := fun vs H Q _ => ∃ (S : Hp) (x dx f cu wb p sk : Addr) (z : Str) (rs : Rws) (t first : Str) (ws : List V) (es : List En) (as : List Addr) (M : List (Addr × HO)), vs = [.ref x, .ref p, .ref sk, .str t] ∧ KeptF K S f z rs t cu ∧ Reg S H (ktL K x dx f cu t wb ws ++ M) ∧ RowsAt S p rs ∧
  (sk, HO.lst (as.map V.ref)) ∈ M ∧ Paired (WbAt S) ws es ∧ Paired (EnAt S) as es ∧ Sk z first es t ∧ TextOf z first ∧ first.length ≤ 24 ∧ es.length ≤ 100 ∧
  ∀ S' H' cu', Same S S' → KeptF K S' f z rs first cu' → Reg S' H' (ktL K x dx f cu' first wb [] ++ M) → Q (.bl true) H'
theorem cal__law_undone (T : Tx K mg) : Cal P w K mg base CX0 11 "_law_undone" (spUndone51 K) := by
  have M_Kept_undo := (metx_kundo (P := P) (w := w) (base := base) T).calm
  have C__law_held := cal__law_held (P := P) (w := w) (base := base) T
  have C__law_back := cal__law_back (P := P) (w := w) (base := base) T
  have C__law_is_patch := cal__law_is_patch (P := P) (w := w) (base := base) T
  have C__law_patch_of := cal__law_patch_of (P := P) (w := w) (base := base) T
  obtain ⟨fd, F⟩ := T.d__law_undone
  refine ⟨_, fd, P__law_undone, F.ok sc__law_undone (fun vs H Q E h => ?_) (fun cdv A outer s H vs Q E hr h => ?_), T.g__law_undone, F.kp, F.bindsN (ps := P__law_undone) fun _ _ _ _ _ _ us hl => match us, hl with | [_, _, _, _], _ => rfl⟩
  · obtain ⟨S, x, dx, f, cu, wb, p, sk, z, rs, t, first, ws, es, as, M, rfl, _⟩ := h
    rfl
  · obtain ⟨S, x, dx, f, cu, wb, p, sk, z, rs, t, first, ws, es, as, M, rfl, F, rg, hR, hsk, hW, hE, st, tf, lf, el, k⟩ := h
    refine ⟨_, (PSs.nox (pss_cons (ps_for PassesOwn.never rfl (pi_list (pe_revL (pv 2))) (pg_tup rfl (pgs_cons (pg_name (i := 4) sc__law_undone.nd rfl (Or.inl rfl)) (pgs_cons (pg_name (i := 5) sc__law_undone.nd rfl (Or.inl rfl)) pgs_nil))) (pss_cons (ps_set (i := 6) sc__law_undone.nd rfl (Or.inl rfl) (pe_cal C__law_patch_of (by first | exact hr | exact hr.mono (by decide)) (by rfl) (pa_cons (pv 1) (pa_cons (pv 3) (pa_cons (pe_cal C__law_back (by first | exact hr | exact hr.mono (by decide)) (by rfl) (pa_cons (pv 4) (pa_cons (pv 5) pa_nil))) pa_nil)))))
      (pss_cons (ps_if (PW.pt (pw_or (pt_not (pt_val (pe_cal C__law_is_patch (by first | exact hr | exact hr.mono (by decide)) (by rfl) (pa_cons (pe_met0 M_Kept_undo (pv 0) (by first | exact hr | exact hr.mono (by decide))) (pa_cons (pv 6) pa_nil))))) (pw_or1 (pt_not (pt_val (pe_cal C__law_held (by first | exact hr | exact hr.mono (by decide)) (by rfl) (pa_cons (pv 0) (pa_cons (pv 1) (pa_cons (pv 4) pa_nil))))))))) (pss_one (ps_ret pe_bl)) pss_nil)
      (pss_one (ps_set (i := 3) sc__law_undone.nd rfl (Or.inl rfl) (pv 4))))))
      (pss_one (ps_ret pe_bl)))), ?_⟩
    have hsk0 : H sk = some (.lst (as.map V.ref)) := rg.at_ _ (List.mem_append_right _ hsk)
    refine ⟨_, rfl, sk, _, rfl, SqL.of hsk0, fun rv hrv => ?_⟩
    have s1 := Same.new (o := .lst (as.map V.ref).reverse) hrv
    have hrv1 : (upd H rv (.lst (as.map V.ref).reverse)) rv = _ := upd_same
    revert s1 hrv1
    generalize (upd H rv (.lst (as.map V.ref).reverse)) = H1
    intro s1 hrv1
    obtain ⟨rg1, sS1⟩ := rg.grow s1
    have hrvS := out_of hrv1 (rg.free hrv)
    revert rg1 sS1 hrvS
    generalize (out H1 (ktL K x dx f cu t wb ws ++ M)) = S1
    intro rg1 sS1 hrvS
    have al : as.length = es.length := Paired.len hE
    refine ⟨rv, rfl, ⟨_, SqL.of hrv1⟩, for_list (K := K) (a := rv) (xs := (as.map V.ref).reverse) (fun i σ H' => ∃ (S' : Hp) (cu' : Addr) (t' : Str) (ws' : List V) (u4 u5 u6 : Option V), σ = [some (.ref x), some (.ref p), some (.ref sk), some (.str t'), u4, u5, u6] ∧ Same S1 S' ∧ KeptF K S' f z rs t' cu' ∧ Reg S' H' (ktL K x dx f cu' t' wb ws' ++ M) ∧ Paired (WbAt S') ws' (es.take (es.length - i)) ∧ Sk z first (es.take (es.length - i)) t')
      ⟨S1, cu, t, ws, _, _, _, rfl, Same.refl _, F.same sS1, rg1, (by rw [Nat.sub_zero, List.take_length]; exact WbAt.sames sS1 hW), (by rw [Nat.sub_zero, List.take_length]; exact st)⟩ (fun i σ H' _ ⟨_, _, _, _, _, _, _, _, sS, _, r, _⟩ => SqL.of (r.same _ _ (sS _ _ hrvS))) ?_ ?_⟩
    · rintro i y σ H2 hi ⟨S2, cu2, t2, ws2, u4, u5, u6, rfl, sS2, F2, rg2, hW2, st2⟩
      have il : i < es.length := by
        have := (List.getElem?_eq_some_iff.mp hi).1
        rw [List.length_reverse, List.length_map] at this
        omega
      obtain ⟨m, em⟩ : ∃ m, es.length - i = m + 1 := ⟨es.length - i - 1, by omega⟩
      have em2 : es.length - (i + 1) = m := by omega
      rw [em2]
      rw [em] at hW2 st2
      have hem : es[m]? = some es[m] := List.getElem?_eq_getElem (by omega)
      generalize es[m] = e at hem
      rw [List.take_add_one, hem] at hW2 st2
      obtain ⟨ws0, v, rfl, hW0, wy, rfl, hwy⟩ := paired_snoc51 hW2
      obtain ⟨st0, eo, rfl⟩ := st2.last
      obtain ⟨a0, ha0, b0, hb1, hb2⟩ := Paired.get2 hE hem
      have ey : y = V.ref a0 := by
        rw [List.getElem?_reverse (by rw [List.length_map]; omega), List.length_map, show as.length - 1 - i = m by omega, List.getElem?_map, ha0] at hi
        exact (Option.some.inj hi).symm
      subst ey
      have sS02 := sS1.trans sS2
      have hb1' := rg2.same _ _ (sS02 _ _ hb1)
      have hb2' := rg2.same _ _ (sS02 _ _ hb2)
      obtain ⟨q1, q2, q3, q4, q5⟩ := eo.back
      have tk := F.ok
      have nl := eo.nlen
      have ol := eo.len
      have asc : ∀ (u : Str), TextOf z u → ∀ y ∈ sweep rs u, Asc y := fun u hu y hy => tk.asc (sweep_pc hu hy)
      refine ⟨a0, _, rfl, SqT.of hb1', rfl, _, _, rfl, _, _, rfl, rfl, ?_⟩
      have hpl := eo.ok.len
      refine ⟨_, rfl, _, rfl, _, rfl, _, rfl, e.old, b0, e.c, rfl, hb2', by omega, by omega, fun H3 r s3 hr => ?_⟩
      have rg3 := rg2.step s3
      refine ⟨p, r, z, rs, e.new, 24, backC e.old e.c, rfl, hR.same (sS02.trans rg3.same), tk, eo.ntx, by omega, hr, ⟨q1, q2, q4, q3⟩, by decide, fun H4 dt s4 hp4 => ?_⟩
      rw [q5] at hp4
      obtain ⟨rg4, sG⟩ := rg3.grow s4
      have hpG := hp4.outs rg3
      revert rg4 sG hpG
      generalize (out H4 (ktL K x dx f cu2 e.new wb (ws0 ++ [.ref wy]) ++ M)) = SG
      intro rg4 sG hpG
      have hx4 := rg4.get (i := 0) rfl
      refine ⟨_, rfl, x, dx, _, rfl, hx4, kf_mun _ _ _ _, SG, x, dx, f, cu2, wb, z, rs, e.new, ws0 ++ [.ref wy], M, rfl, F2.same sG, rg4, .inr ⟨ws0, wy, _, _, _, rfl, sG _ _ hwy, q1, q2, by omega, q4, by rw [q5]; omega, fun S5 H5 tt cu5 sS5 hp5 nc F5 rg5 => ?_⟩⟩
      rw [q5] at hp5 F5 rg5
      have sGH := sS5.trans rg5.same
      refine ⟨_, rfl, tt, dt, _, rfl, hp5.at_.same rg5.same, hpG.same sGH, fun y hy => asc _ eo.ntx y (patchF_out hy), fun y hy => asc _ eo.tx y (patchF_into hy), ?_⟩
      refine ⟨_, rfl, iteF ?_⟩
      have sR := sS02.trans (sG.trans sS5)
      refine ⟨_, rfl, _, rfl, _, rfl, x, dx, f, cu5, wb, p, z, rs, e.old, rfl, rg5.get (i := 0) rfl, rg5.same _ _ F5.cut, hR.same (sR.trans rg5.same), tk, eo.tx, by omega, fun H6 s6 => ⟨_, rfl, iteF ?_⟩⟩
      exact ⟨_, rfl, S5, cu5, e.old, ws0, _, _, _, rfl, sS2.trans (sG.trans sS5), F5, rg5.step s6, WbAt.sames (sG.trans sS5) hW0, st0⟩
    · rintro σ H2 ⟨S2, cu2, t2, ws2, u4, u5, u6, rfl, sS2, F2, rg2, hW2, st2⟩
      rw [List.length_reverse, List.length_map, al, Nat.sub_self, List.take_zero] at hW2 st2
      cases hW2
      have e0 := st2.empty rfl
      subst e0
      exact k S2 H2 cu2 (sS1.trans sS2) F2 rg2
def spChanged51 (K : PySem.W.Frag) : Sp := fun vs H Q _ => ∃ (S : Hp) (x dx f cu wb p sk q : Addr) (z : Str) (rs : Rws) (t : Str) (c : Chg) (ws : List V) (as : List Addr) (M : List (Addr × HO)), vs = [.ref x, .ref p, .ref sk, .str t, .ref q] ∧ KeptF K S f z rs t cu ∧ Reg S H (ktL K x dx f cu t wb ws ++ ((sk, HO.lst (as.map V.ref)) :: M)) ∧ RowsAt S p rs ∧
  S q = some (chO c) ∧ EnOk z ⟨t, c⟩ ∧ ws.length ≤ 100 ∧ as.length ≤ 100 ∧
  ∀ S' H' cu' wy a, Same S S' → KeptF K S' f z rs (chgT t c.pl c.gn c.put) cu' → WbAt S' (.ref wy) ⟨t, c⟩ → EnAt S' a ⟨t, c⟩ → Reg S' H' (ktL K x dx f cu' (chgT t c.pl c.gn c.put) wb (ws ++ [.ref wy]) ++ ((sk, HO.lst ((as ++ [a]).map V.ref)) :: M)) → Q (.bl true) H'
theorem cal__law_changed (T : Tx K mg) : Cal P w K mg base CX0 11 "_law_changed" (spChanged51 K) := by
  have M_Kept_change := met_kchange (P := P) (w := w) (base := base) T
  have C__law_is_patch := cal__law_is_patch (P := P) (w := w) (base := base) T
  have C__law_patch_of := cal__law_patch_of (P := P) (w := w) (base := base) T
  obtain ⟨fd, F⟩ := T.d__law_changed
  refine ⟨_, fd, P__law_changed, F.ok sc__law_changed (fun vs H Q E h => ?_) (fun cdv A outer s H vs Q E hr h => ?_), T.g__law_changed, F.kp, F.bindsN (ps := P__law_changed) fun _ _ _ _ _ _ us hl => match us, hl with | [_, _, _, _, _], _ => rfl⟩
  · obtain ⟨S, x, dx, f, cu, wb, p, sk, q, z, rs, t, c, ws, as, M, rfl, _⟩ := h
    rfl
  · obtain ⟨S, x, dx, f, cu, wb, p, sk, q, z, rs, t, c, ws, as, M, rfl, F, rg, hR, hq, ok, wl, al, k⟩ := h
    refine ⟨_, (PSs.nox (pss_cons (ps_set (i := 5) sc__law_changed.nd rfl (Or.inl rfl) (pe_met M_Kept_change (pv 0) (by first | exact hr | exact hr.mono (by decide)) (pa_cons (pe_ix ix_tup (pv 4) pe_int (fun _ _ => rfl)) (pa_cons (pe_ix ix_tup (pv 4) pe_int (fun _ _ => rfl)) (pa_cons (pe_ix ix_tup (pv 4) pe_int (fun _ _ => rfl)) pa_nil)))))
      (pss_cons (ps_expr (pe_bm PySem.F.plainAttrs_list PySem.F.slot_list_append PySem.F.type_list_append mt_append (pv 2) (pa_cons (pe_tupG (pa_cons (pv 3) (pa_cons (pv 4) pa_nil))) pa_nil)))
      (pss_one (ps_ret (pe_cal C__law_is_patch (by first | exact hr | exact hr.mono (by decide)) (by rfl) (pa_cons (pv 5) (pa_cons (pe_cal C__law_patch_of (by first | exact hr | exact hr.mono (by decide)) (by rfl) (pa_cons (pv 1) (pa_cons (pv 3) (pa_cons (pv 4) pa_nil)))) pa_nil)))))))), ?_⟩
    have hx := rg.get (i := 0) rfl
    have hqs := SqT.of (K := K) (rg.same _ _ hq)
    have ok1 := ok.ok
    have l1 : t.length ≤ 24 := ok.len
    have l3 : c.put.length ≤ 64 := ok1.len
    have l2 : t.length - c.gn + c.put.length ≤ 24 := ok.len2
    have cl := chgT_len t c.put ok1.pl ok1.gn
    refine ⟨_, rfl, x, dx, _, rfl, hx, kf_mch _ _ _ _, ?_⟩
    refine ⟨_, rfl, q, _, _, _, rfl, rfl, hqs, rfl, _, rfl, q, _, _, _, rfl, rfl, hqs, rfl, _, rfl, q, _, _, _, rfl, rfl, hqs, rfl, ?_⟩
    refine ⟨S, x, dx, f, cu, wb, z, rs, t, c.put, c.pl, c.gn, ws, _, rfl, F, ok1.pl, ok1.gn, by omega, ok1.tx, by rw [cl]; exact Nat.le_trans l2 (by decide), by omega, rg, fun S1 H1 tt cu1 wy sS1 hp1 nc F1 hwy rg1 => ?_⟩
    have hsk1 : H1 sk = some (.lst (as.map V.ref)) := rg1.at_ (sk, _) (List.mem_append_right _ List.mem_cons_self)
    refine ⟨_, rfl, .inl ⟨rfl, _, SqL.of hsk1⟩, _, rfl, _, rfl, (by show 2 ≤ sizeLine; decide), fun a H2 na s2 ha => ?_⟩
    obtain ⟨rg2, sS2⟩ := rg1.grow s2
    have haS := out_of ha (rg1.free na)
    revert rg2 sS2 haS
    generalize (out H2 (ktL K x dx f cu1 (chgT t c.pl c.gn c.put) wb (ws ++ [.ref wy]) ++ ((sk, HO.lst (as.map V.ref)) :: M))) = S2
    intro rg2 sS2 haS
    have sS02 := sS1.trans sS2
    have rg3 := rg2.set (i := 2) (a := sk) (o' := .lst ((as ++ [a]).map V.ref)) rfl
    refine ⟨sk, _, _, rfl, rfl, s2 _ _ hsk1, szl (by rw [List.length_map]; omega), ?_⟩
    rw [show (as ++ [a]).map V.ref = as.map V.ref ++ [V.ref a] by simp] at rg3
    have rg3 : Reg S2 (upd H2 sk (.lst (as.map V.ref ++ [V.ref a]))) (ktL K x dx f cu1 (chgT t c.pl c.gn c.put) wb (ws ++ [.ref wy]) ++ ((sk, HO.lst (as.map V.ref ++ [V.ref a])) :: M)) := rg3
    revert rg3
    generalize (upd H2 sk (.lst (as.map V.ref ++ [V.ref a]))) = H3
    intro rg3
    have tk := F.ok
    have asc : ∀ (u : Str), TextOf z u → ∀ y ∈ sweep rs u, Asc y := fun u hu y hy => tk.asc (sweep_pc hu hy)
    refine ⟨_, rfl, _, rfl, _, rfl, _, rfl, p, q, z, rs, t, 64, c, rfl, hR.same (sS02.trans rg3.same), tk, F.tx, by have := F.tl; omega, rg3.same _ _ (sS02 _ _ hq), ok1, by decide, fun H4 dt s4 hp4 => ?_⟩
    have rg4 := rg3.step s4
    refine ⟨tt, dt, _, rfl, (hp1.at_.same sS2).same rg4.same, hp4.at_, fun y hy => asc t F.tx y (patchF_out hy), fun y hy => asc _ (chgT_text F.tx ok1.tx _ _) y (patchF_into hy), ?_⟩
    exact k S2 H4 cu1 wy a sS02 (F1.same sS2) ⟨wy, rfl, sS2 _ _ hwy⟩ ⟨q, haS, sS02 _ _ hq⟩ (by rw [show (as ++ [a]).map V.ref = as.map V.ref ++ [V.ref a] by simp]; exact rg4)
end
end Jr
namespace Jr
open PySem PySem.Spec PyProof.Rows L2
/-- what may be taken away beside a Follows just made: objects that were there before it, of other kinds -/
def Aside (H : Hp) (o : HO) : Prop := (∃ C d f, o = HO.ins C d f ∧ f.length ≠ 7) ∨ ∃ vs, o = HO.lst vs ∧ ∀ a vs', vs = V.ref a :: vs' → ∃ o', H a = some o' ∧ ∀ (y : Str) (ys : Int × List V), o' ≠ .tup (V.str y :: V.int ys.1 :: ys.2)
theorem Aside.same {H H' : Hp} {o : HO} (h : Aside H o) (s : Same H H') : Aside H' o := by
  rcases h with h | ⟨vs, e, hv⟩
  · exact .inl h
  · exact .inr ⟨vs, e, fun a vs' ev => by
      obtain ⟨o', h1, h2⟩ := hv a vs' ev
      exact ⟨o', s _ _ h1, h2⟩⟩
theorem FolFr.offM {K : PySem.W.Frag} {H0 H H' : Hp} {x t : Addr} {z : Str} {rs : Rws} (R : Addr → Prop) (h : FolFr K H0 H x t z rs) (nw : FolNw K H0 H x) (ta : TabAt (TC K) H' t z rs) (k : ∀ b o, H b = some o → ¬ R b → H' b = some o)
    (hR : ∀ D, R D → (∃ o, H0 D = some o) ∧ ∃ o, H D = some o ∧ Aside H o) : FolAt K H' x z rs := by
  obtain ⟨dx, re, le, al, af, ah, pr, asA, asH, G, fs, hp, pd, h1, h2⟩ := h
  obtain ⟨dx', t', re', le', al', af', ah', pr', hx', n1, n2, n3, n4, n5, n6⟩ := nw
  have e := fs.fe.hx.symm.trans hx'
  simp only [Option.some.injEq, HO.ins.injEq, true_and] at e
  obtain ⟨rfl, rfl, rfl, rfl, rfl, rfl⟩ := fg7_inj e.2
  have ne : ∀ {b : Addr}, H0 b = none → ¬ R b := fun hb r => by
    obtain ⟨⟨o, ho⟩, _⟩ := hR _ r
    rw [hb] at ho; cases ho
  have nt : ∀ {b : Addr} {vs : List V}, H b = some (.tup vs) → ¬ R b := fun hb r => by
    obtain ⟨_, o, ho, hA⟩ := hR _ r
    rw [hb] at ho
    cases ho
    rcases hA with ⟨C, d, f, e, _⟩ | ⟨vs, e, _⟩ <;> cases e
  have ends : ∀ (A : List (Key × V)) (side : Nat), Eds H A z rs side → Eds H' A z rs side := fun A side he q hq => by
    obtain ⟨a, es, v, ⟨as, ha, hs⟩, eg⟩ := he q hq
    refine ⟨a, es, v, ⟨as, k _ _ ha ?_, L2.Paired.mapP hs fun b y hy => k _ _ hy ?_⟩, eg⟩
    · intro r
      obtain ⟨_, o, ho, hA⟩ := hR _ r
      rw [ha] at ho
      cases ho
      rcases hA with ⟨C, d, f, e, _⟩ | ⟨vs, e, hv⟩
      · cases e
      · obtain ⟨x0, rr, er⟩ : ∃ x0 rr, es = x0 :: rr := by
          cases eg with
          | one _ => exact ⟨_, _, rfl⟩
          | more _ _ _ => exact ⟨_, _, rfl⟩
        rw [er] at hs
        cases hs with
        | cons h3 h4 =>
          cases e
          obtain ⟨o', h5, h6⟩ := hv _ _ rfl
          have h3' : H _ = some (.tup _) := h3
          rw [h3'] at h5
          cases h5
          exact h6 _ (_, _) rfl
    · have hy' : H b = some (.tup _) := hy
      exact nt hy'
  obtain ⟨A, B, e1, e2, e3, e4⟩ := fs.fe.ed
  refine ⟨dx, t, re, le, al, af, ah, pr, asA, asH, G, ⟨⟨k _ _ fs.fe.hx ?_, ta, A, B, k _ _ e1 (ne n1), k _ _ e2 (ne n2), ends _ _ e3, ends _ _ e4⟩, k _ _ fs.hal (ne n3), k _ _ fs.haf (ne n4), k _ _ fs.hah (ne n5), fs.lA, fs.lH⟩, k _ _ hp (ne n6), pd, fun i a p ha hp => k _ _ (h1 i a p ha hp).1 (ne (h1 i a p ha hp).2), fun i a p ha hp => k _ _ (h2 i a p ha hp).1 (ne (h2 i a p ha hp).2)⟩
  intro r
  obtain ⟨_, o, ho, hA⟩ := hR _ r
  rw [fs.fe.hx] at ho
  cases ho
  rcases hA with ⟨C, d, f, e, hf⟩ | ⟨vs, e, _⟩
  · simp only [HO.ins.injEq] at e
    exact hf (by rw [← e.2.2]; rfl)
  · cases e
section
variable {P : Program} {w : World} {K : PySem.W.Frag} {mg : Str → Option Value} {base : Heap}
def spKInit2 (K : PySem.W.Frag) : Sp := fun vs H Q _ => ∃ (B0 H0 : Hp) (M : List (Addr × HO)) (x dx t : Addr) (z : Str) (rs : Rws) (u : Str), vs = [.ref x, .ref t, .str u] ∧ H = upd (upd H0 dx (.own x)) x (.ins (KC K) dx []) ∧ H0 x = none ∧ H0 dx = none ∧ dx ≠ x ∧ TabAt (TC K) B0 t z rs ∧ Reg B0 H0 M ∧ (∀ q ∈ M, Aside H0 q.2) ∧ TextOf z u ∧ u.length ≤ 1000 ∧
  ∀ S H' f cu wb, Same B0 S → KeptF K S f z rs u cu → Reg S H' (ktL K x dx f cu u wb [] ++ M) → Q .non H'
theorem mkc_Kept2 (T : Tx K mg) : Mkc P w K mg base CX0 9 "Kept" (KC K) (spKInit2 K) := by
  have C_Follows := mkc_Follows3 (P := P) (w := w) (base := base) T
  have C_read_on := cal_read_on (P := P) (w := w) (base := base) T
  obtain ⟨fd, F⟩ := T.d_Kept___init__
  refine ⟨⟨_, fd, P_Kept___init__, F.ok sc_Kept___init__ (fun vs H Q E h => ?_) (fun cdv A outer s H vs Q E hr h => ?_), T.mk_Kept, F.bindsN (ps := P_Kept___init__) fun _ _ _ _ _ _ us hl => match us, hl with | [_, _, _], _ => rfl⟩, T.g_Kept⟩
  · obtain ⟨B0, H0, M, x, dx, t, z, rs, u, rfl, _⟩ := h
    rfl
  · obtain ⟨B0, H0, M, x, dx, t, z, rs, u, rfl, rfl, nx, ndx, ne, ta, rM, hM, tx, tl, k⟩ := h
    refine ⟨_, (PSs.nox (pss_cons (ps_fld (pv 0) (pe_mk C_Follows (by first | exact hr | exact hr.mono (by decide)) rfl (pa_cons (pv 1) pa_nil)) rfl)
      (pss_cons (ps_fld (pv 0) (pe_cal C_read_on (by first | exact hr | exact hr.mono (by decide)) (by rfl) (pa_cons (pe_fld (pv 0) rfl) (pa_cons (pv 2) pa_nil))) rfl)
      (pss_cons (ps_fld (pv 0) (pv 2) rfl)
      (pss_one (ps_fld (pv 0) (pe_lstG pa_nil) rfl)))))), ?_⟩
    have sd : Same H0 (upd H0 dx (.own x)) := Same.new ndx
    have nx' : (upd H0 dx (.own x)) x = none := by rw [upd_ne (Ne.symm ne)]; exact nx
    have r00 := rM.step sd
    have hM0 : ∀ q ∈ M, Aside (upd H0 dx (.own x)) q.2 := fun q hq => (hM q hq).same sd
    revert sd nx' r00 hM0
    generalize (upd H0 dx (.own x)) = S0
    intro sd nx' r00 hM0
    have r0 := (r00.new nx' (Same.new nx') (upd_same (o := HO.ins (KC K) dx []))).perm (List.perm_append_singleton _ _)
    have hM1 : ∀ q ∈ M, Aside (upd S0 x (HO.ins (KC K) dx [])) q.2 := fun q hq => (hM0 q hq).same (Same.new nx')
    revert r0 hM1
    generalize (upd S0 x (HO.ins (KC K) dx [])) = H1
    intro r0 hM1
    refine ⟨_, rfl, fun f df hf hdf nf => ?_⟩
    refine ⟨H1, f, df, t, z, rs, rfl, rfl, hf, hdf, nf, ta.same r0.same, fun H2 s2 fr nw => ⟨rfl, ?_⟩⟩
    have r2 := r0.step s2
    have h2 := r2.get (i := 0) rfl
    refine ⟨_, rfl, x, _, dx, _, rfl, h2, T.cl_Kept, T.no_Kept_held_follows, (by show 0 < 1000; decide), ?_⟩
    obtain ⟨g2, sS⟩ := r0.grow s2
    have fo := fr.offM (fun b => b ∈ ((x, HO.ins (KC K) dx []) :: M).map (·.1)) nw (ta.same sS) (fun b o hb nb => out_of hb nb) (fun D hD => by
      obtain ⟨q, hq, rfl⟩ := List.mem_map.mp hD
      refine ⟨⟨_, r0.at_ _ hq⟩, _, r2.at_ _ hq, ?_⟩
      rcases List.mem_cons.mp hq with rfl | hq
      · exact .inl ⟨_, _, _, rfl, by show 0 ≠ 7; decide⟩
      · exact (hM1 q hq).same s2)
    have s02 := sS
    revert g2 fo s02
    generalize (out H2 ((x, HO.ins (KC K) dx []) :: M)) = S
    intro g2 fo s02
    have r3 : Reg S (upd H2 x (.ins (KC K) dx (putF "held_follows" (.ref f) []))) ((x, .ins (KC K) dx (putF "held_follows" (.ref f) [])) :: M) := g2.set (i := 0) (a := x) (o' := .ins (KC K) dx (putF "held_follows" (.ref f) [])) rfl
    revert r3
    generalize (upd H2 x (.ins (KC K) dx (putF "held_follows" (.ref f) []))) = H3
    intro r3
    have hx3 := r3.get (i := 0) rfl
    refine ⟨_, rfl, x, _, dx, _, _, rfl, hx3, T.cl_Kept, T.no_Kept_held_follows, kf_2 f, _, rfl, f, z, rs, u, rfl, fo.same r3.same, tx, by omega, fun H4 cu s4 ncu hcu => ?_⟩
    obtain ⟨g4, sS4⟩ := r3.grow s4
    have hcS := out_of (L := ((x, .ins (KC K) dx (putF "held_follows" (.ref f) [])) :: M)) hcu (r3.free ncu)
    have fo4 := fo.same sS4
    have s04 := s02.trans sS4
    revert g4 hcS fo4 s04
    generalize (out H4 ((x, .ins (KC K) dx (putF "held_follows" (.ref f) [])) :: M)) = S4
    intro g4 hcS fo4 s04
    refine ⟨_, rfl, x, _, dx, _, rfl, g4.get (i := 0) rfl, T.cl_Kept, T.no_Kept_held_cutting, (by show 1 < 1000; decide), ?_⟩
    have r5 : Reg S4 (upd H4 x (.ins (KC K) dx (putF "held_cutting" (.ref cu) (putF "held_follows" (.ref f) [])))) ((x, .ins (KC K) dx (putF "held_cutting" (.ref cu) (putF "held_follows" (.ref f) []))) :: M) := g4.set (i := 0) (a := x) (o' := .ins (KC K) dx (putF "held_cutting" (.ref cu) (putF "held_follows" (.ref f) []))) rfl
    revert r5
    generalize (upd H4 x (.ins (KC K) dx (putF "held_cutting" (.ref cu) (putF "held_follows" (.ref f) [])))) = H5
    intro r5
    refine ⟨_, rfl, _, rfl, x, _, dx, _, rfl, r5.get (i := 0) rfl, T.cl_Kept, T.no_Kept_held_text, (by show 2 < 1000; decide), ?_⟩
    have r6 : Reg S4 (upd H5 x (.ins (KC K) dx (putF "held_text" (.str u) (putF "held_cutting" (.ref cu) (putF "held_follows" (.ref f) []))))) ((x, .ins (KC K) dx (putF "held_text" (.str u) (putF "held_cutting" (.ref cu) (putF "held_follows" (.ref f) [])))) :: M) := r5.set (i := 0) (a := x) (o' := .ins (KC K) dx (putF "held_text" (.str u) (putF "held_cutting" (.ref cu) (putF "held_follows" (.ref f) [])))) rfl
    revert r6
    generalize (upd H5 x (.ins (KC K) dx (putF "held_text" (.str u) (putF "held_cutting" (.ref cu) (putF "held_follows" (.ref f) []))))) = H6
    intro r6
    refine ⟨Nat.zero_le _, fun wb H7 nwb s7 hwb => ?_⟩
    have r7 := (r6.new nwb s7 hwb).perm (List.Perm.cons _ (List.perm_append_singleton _ _))
    refine ⟨_, rfl, x, _, dx, _, rfl, r7.get (i := 0) rfl, T.cl_Kept, T.no_Kept_ways_back, (by show 3 < 1000; decide), ?_⟩
    have r8 : Reg S4 (upd H7 x (.ins (KC K) dx (putF "ways_back" (.ref wb) (putF "held_text" (.str u) (putF "held_cutting" (.ref cu) (putF "held_follows" (.ref f) [])))))) ((x, .ins (KC K) dx (putF "ways_back" (.ref wb) (putF "held_text" (.str u) (putF "held_cutting" (.ref cu) (putF "held_follows" (.ref f) []))))) :: (wb, .lst []) :: M) := r7.set (i := 0) (a := x) (o' := .ins (KC K) dx (putF "ways_back" (.ref wb) (putF "held_text" (.str u) (putF "held_cutting" (.ref cu) (putF "held_follows" (.ref f) []))))) rfl
    rw [kf_new] at r8 ⊢
    exact k S4 _ f cu wb s04 ⟨fo4, ta.ok, hcS, tx, tl⟩ r8
end
end Jr
namespace Jr
open PySem PySem.Spec PyProof.Rows L2
theorem kf_putw (f cu : Addr) (t : Str) (wb l : Addr) : putF "ways_back" (.ref l) (kf f cu t wb) = kf f cu t l := by kernel_rfl
theorem kf_mcb (f cu : Addr) (t : Str) (wb : Addr) : (kf f cu t wb).lookup ("cut_by" : Str) = none := by kernel_rfl
theorem kf_mtw (f cu : Addr) (t : Str) (wb : Addr) : (kf f cu t wb).lookup ("twin" : Str) = none := by kernel_rfl
section
variable {P : Program} {w : World} {K : PySem.W.Frag} {mg : Str → Option Value} {base : Heap}
/-- a Follows's table, told of a heap behind -/
def spFTable2 (K : PySem.W.Frag) : Sp := fun vs H Q _ => ∃ (S : Hp) (x : Addr) (z : Str) (rs : Rws), vs = [.ref x] ∧ Same S H ∧ FolAt K S x z rs ∧ ∀ t, TabAt (TC K) S t z rs → Q (.ref t) H
theorem met_ftable2 (T : Tx K mg) : Met P w K mg base CX0 1 (FC K) "table" (spFTable2 K) := by
  obtain ⟨fd, F⟩ := T.d_Follows_table
  refine ⟨T.cl_Follows, _, fd, P_Follows_table, F.ok sc_Follows_table (fun vs H Q E h => ?_) (fun cdv A outer s H vs Q E hr h => ?_), T.m_Follows_table, F.bindsN (ps := P_Follows_table) fun _ _ _ _ _ _ us hl => match us, hl with | [_], _ => rfl⟩
  · obtain ⟨S, x, z, rs, rfl, _⟩ := h
    rfl
  · obtain ⟨S, x, z, rs, rfl, sS, ⟨dx, t, re, le, al, af, ah, pr, asA, asH, G, fs, _⟩, k⟩ := h
    refine ⟨_, (PSs.nox (pss_one (ps_ret (pe_fld (pv 0) rfl)))), ?_⟩
    exact ⟨_, rfl, x, _, dx, _, _, rfl, sS _ _ fs.fe.hx, T.cl_Follows, T.no_Follows_held_table, g7_t _ _ _ _ _ _ _, k t fs.fe.ta⟩
def spKTable2 (K : PySem.W.Frag) : Sp := fun vs H Q _ => ∃ (S : Hp) (x dx f cu wb : Addr) (z : Str) (rs : Rws) (t : Str), vs = [.ref x] ∧ Same S H ∧ FolAt K S f z rs ∧ H x = some (.ins (KC K) dx (kf f cu t wb)) ∧ ∀ tt, TabAt (TC K) S tt z rs → Q (.ref tt) H
theorem met_ktable2 (T : Tx K mg) : Met P w K mg base CX0 2 (KC K) "table" (spKTable2 K) := by
  have M_Follows_table := met_ftable2 (P := P) (w := w) (base := base) T
  obtain ⟨fd, F⟩ := T.d_Kept_table
  refine ⟨T.cl_Kept, _, fd, P_Kept_table, F.ok sc_Kept_table (fun vs H Q E h => ?_) (fun cdv A outer s H vs Q E hr h => ?_), T.m_Kept_table, F.bindsN (ps := P_Kept_table) fun _ _ _ _ _ _ us hl => match us, hl with | [_], _ => rfl⟩
  · obtain ⟨S, x, dx, f, cu, wb, z, rs, t, rfl, _⟩ := h
    rfl
  · obtain ⟨S, x, dx, f, cu, wb, z, rs, t, rfl, sS, fo, hx, k⟩ := h
    refine ⟨_, (PSs.nox (pss_one (ps_ret (pe_met0 M_Follows_table (pe_fld (pv 0) rfl) (by first | exact hr | exact hr.mono (by decide)))))), ?_⟩
    obtain ⟨dxf, t', re, le, al, af, ah, pr, hf⟩ := fo.ins
    exact ⟨_, rfl, x, _, dx, _, _, rfl, hx, T.cl_Kept, T.no_Kept_held_follows, kf_f _ _ _ _, f, dxf, _, rfl, sS _ _ hf, g7_mt _ _ _ _ _ _ _, S, f, z, rs, rfl, sS, fo, k⟩
def spKCutBy (K : PySem.W.Frag) : Sp := fun vs H Q _ => ∃ (S : Hp) (M : List (Addr × HO)) (x dx f cu wb tt : Addr) (z : Str) (rs : Rws) (t : Str) (ws : List V), vs = [.ref x, .ref tt] ∧ TabAt (TC K) S tt z rs ∧ TextOf z t ∧ t.length ≤ 1000 ∧ Reg S H (ktL K x dx f cu t wb ws ++ M) ∧ (∀ q ∈ ktL K x dx f cu t wb ws ++ M, Aside H q.2) ∧
  ∀ S' H' y dy f' cu' wb', Same S S' → KeptF K S' f' z rs t cu' → Reg S' H' (ktL K y dy f' cu' t wb' ws ++ (ktL K x dx f cu t wb ws ++ M)) → Q (.ref y) H'
theorem met_kcutby (T : Tx K mg) : Met P w K mg base CX0 11 (KC K) "cut_by" (spKCutBy K) := by
  have C_Kept := mkc_Kept2 (P := P) (w := w) (base := base) T
  obtain ⟨fd, F⟩ := T.d_Kept_cut_by
  refine ⟨T.cl_Kept, _, fd, P_Kept_cut_by, F.ok sc_Kept_cut_by (fun vs H Q E h => ?_) (fun cdv A outer s H vs Q E hr h => ?_), T.m_Kept_cut_by, F.bindsN (ps := P_Kept_cut_by) fun _ _ _ _ _ _ us hl => match us, hl with | [_, _], _ => rfl⟩
  · obtain ⟨S, M, x, dx, f, cu, wb, tt, z, rs, t, ws, rfl, _⟩ := h
    rfl
  · obtain ⟨S, M, x, dx, f, cu, wb, tt, z, rs, t, ws, rfl, ta, tx, tl, rg, hA, k⟩ := h
    refine ⟨_, (PSs.nox (pss_cons (ps_set (i := 2) sc_Kept_cut_by.nd rfl (Or.inl rfl) (pe_mk C_Kept (by first | exact hr | exact hr.mono (by decide)) rfl (pa_cons (pv 1) (pa_cons (pe_fld (pv 0) rfl) pa_nil))))
      (pss_cons (ps_fld (pv 2) (pe_callTy (T := "list") call_listG (by rfl) T.n_list (by decide +kernel) (pa_cons (pe_fld (pv 0) rfl) pa_nil)) rfl)
      (pss_one (ps_ret (pv 2)))))), ?_⟩
    have hx := rg.get (i := 0) rfl
    refine ⟨_, rfl, _, rfl, x, _, dx, _, _, rfl, hx, T.cl_Kept, T.no_Kept_held_text, kf_t _ _ _ _, ?_⟩
    intro y dy hy hdy ndy
    refine ⟨S, H, ktL K x dx f cu t wb ws ++ M, y, dy, tt, z, rs, t, rfl, rfl, hy, hdy, ndy, ta, rg, hA, tx, tl, fun S1 H1 f' cu' wb0 s1 F1 r1 => ⟨rfl, ?_⟩⟩
    have hx1 := r1.get (i := 2) rfl
    have hw1 := r1.get (i := 3) rfl
    refine ⟨_, rfl, x, _, dx, _, _, rfl, hx1, T.cl_Kept, T.no_Kept_ways_back, kf_w _ _ _ _, wb, _, rfl, .inl (SqL.of hw1), fun l H2 nl s2 hl => ?_⟩
    have r2 := r1.new nl s2 hl
    have hy2 := r2.get (i := 0) rfl
    refine ⟨_, rfl, y, _, dy, _, rfl, hy2, T.cl_Kept, T.no_Kept_ways_back, (by show 4 < 1000; decide), ?_⟩
    rw [kf_putw]
    have r3 : Reg S1 (upd H2 y (.ins (KC K) dy (kf f' cu' t l))) ((y, .ins (KC K) dy (kf f' cu' t l)) :: (wb0, .lst []) :: ((ktL K x dx f cu t wb ws ++ M) ++ [(l, .lst ws)])) := r2.set (i := 0) (a := y) (o' := .ins (KC K) dy (kf f' cu' t l)) rfl
    revert r3
    generalize (upd H2 y (.ins (KC K) dy (kf f' cu' t l))) = H3
    intro r3
    have pm : ((y, HO.ins (KC K) dy (kf f' cu' t l)) :: (wb0, HO.lst []) :: ((ktL K x dx f cu t wb ws ++ M) ++ [(l, HO.lst ws)])).Perm ([(wb0, HO.lst [])] ++ (ktL K y dy f' cu' t l ws ++ (ktL K x dx f cu t wb ws ++ M))) :=
      (List.Perm.swap ..).trans (List.Perm.cons _ (List.Perm.cons _ (List.perm_append_singleton _ _)))
    obtain ⟨r4, sS4, _⟩ := Reg.freeze (L1 := [(wb0, HO.lst [])]) (L2 := ktL K y dy f' cu' t l ws ++ (ktL K x dx f cu t wb ws ++ M)) (r3.perm pm)
    exact ⟨_, rfl, k _ H3 y dy f' cu' l (s1.trans sS4) (F1.same sS4) r4⟩
def spKTwin (K : PySem.W.Frag) : Sp := fun vs H Q _ => ∃ (S : Hp) (M : List (Addr × HO)) (x dx f cu wb : Addr) (z : Str) (rs : Rws) (t : Str) (ws : List V), vs = [.ref x] ∧ KeptF K S f z rs t cu ∧ Reg S H (ktL K x dx f cu t wb ws ++ M) ∧ (∀ q ∈ ktL K x dx f cu t wb ws ++ M, Aside H q.2) ∧
  ∀ S' H' y dy f' cu' wb', Same S S' → KeptF K S' f' z rs t cu' → Reg S' H' (ktL K y dy f' cu' t wb' ws ++ (ktL K x dx f cu t wb ws ++ M)) → Q (.ref y) H'
theorem met_ktwin (T : Tx K mg) : Met P w K mg base CX0 12 (KC K) "twin" (spKTwin K) := by
  have M_Kept_table := met_ktable2 (P := P) (w := w) (base := base) T
  have M_Kept_cut_by := met_kcutby (P := P) (w := w) (base := base) T
  obtain ⟨fd, F⟩ := T.d_Kept_twin
  refine ⟨T.cl_Kept, _, fd, P_Kept_twin, F.ok sc_Kept_twin (fun vs H Q E h => ?_) (fun cdv A outer s H vs Q E hr h => ?_), T.m_Kept_twin, F.bindsN (ps := P_Kept_twin) fun _ _ _ _ _ _ us hl => match us, hl with | [_], _ => rfl⟩
  · obtain ⟨S, M, x, dx, f, cu, wb, z, rs, t, ws, rfl, _⟩ := h
    rfl
  · obtain ⟨S, M, x, dx, f, cu, wb, z, rs, t, ws, rfl, F, rg, hA, k⟩ := h
    refine ⟨_, (PSs.nox (pss_one (ps_ret (pe_met M_Kept_cut_by (pv 0) (by first | exact hr | exact hr.mono (by decide)) (pa_cons (pe_met0 M_Kept_table (pv 0) (by first | exact hr | exact hr.mono (by decide))) pa_nil))))), ?_⟩
    have hx := rg.get (i := 0) rfl
    refine ⟨_, rfl, x, dx, _, rfl, hx, kf_mcb _ _ _ _, _, rfl, x, dx, _, rfl, hx, kf_mtb _ _ _ _, S, x, dx, f, cu, wb, z, rs, t, rfl, rg.same, F.fol, hx, fun tt ta => ?_⟩
    exact ⟨S, M, x, dx, f, cu, wb, tt, z, rs, t, ws, rfl, ta, F.tx, F.tl, rg, hA, k⟩
end
end Jr
namespace Jr
open PySem PySem.Spec PyProof.Rows L2
section
variable {P : Program} {w : World} {K : PySem.W.Frag} {mg : Str → Option Value} {base : Heap}
theorem exk_NoLead (T : Tx K mg) : Exk P w K mg base 1 "NoLead" (He.ga K "NoLead") (spX0 (He.ga K "NoLead")) := by
  obtain ⟨fd, F⟩ := T.d_JoinError___init__
  refine ⟨⟨_, fd, P_JoinError___init__, F.ok sc_JoinError___init__ (fun vs H Q E h => ?_) (fun cdv A outer s H vs Q E hr h => ?_), T.in_NoLead, T.it_NoLead,
    F.bindsN (ps := P_JoinError___init__) fun _ _ _ _ _ _ us hl => match us, hl with | [_, _], _ => rfl⟩, T.xc_NoLead, T.g_NoLead⟩
  · obtain ⟨a, v, rfl, _⟩ := h
    rfl
  · obtain ⟨a, v, rfl, ha, k⟩ := h
    refine ⟨_, (PSs.nox (pss_one (ps_expr (pe_veinit (by rfl) T.n_ValueError (vV _) (pa_cons (pv 0) (pa_cons (pv 1) pa_nil)))))), ?_⟩
    exact ⟨_, rfl, _, rfl, a, _, [v], rfl, (by show 1 ≤ 1000; decide), T.xc_NoLead.oex, ha, k⟩
end
end Jr
namespace Jr
open PySem PySem.Spec PyProof.Rows L2
/-! ### tuple(text) -/
section
variable {prog : Program} {w : World} {A : Around} {E : Value → Shared → Prop} {s : Shared} {x : Str} {tx : Tok}
/-- what stands behind the walk over the signs -/
def SgAcc (s : Shared) (x : Str) (l : Addr) (s' : Shared) : Prop := ∃ (h' : Heap) (tk : Nat) (acc : Array Value) (c' : Nat), s' = { s with heap := h', toks := tk } ∧ (∀ b o, s.heap.get? b = some o → h'.get? b = some o) ∧
  h'.get? l = some { cls := .type "list", dict := none, data := .seq acc c', slots := #[] } ∧ ItemsOf (SignAt x) acc x.cps.size
theorem collect_str {Q : List Value → Shared → Prop} (hh : A.handled = none) (hn : x.cps.size ≤ sizeLine)
    (hQ : ∀ (h' : Heap) (tk : Nat) (acc : Array Value), s.heap.objs.size ≤ h'.objs.size → (∀ b o, s.heap.get? b = some o → h'.get? b = some o) → ItemsOf (SignAt x) acc x.cps.size → Q acc.toList { s with heap := h', toks := tk }) :
    wpAny (model prog w) A (collect (.str x tx)) Q E s := by
  unfold collect; refine wpAny_bind (wpAny_runValue (codeAny_builtin F.entry_proto_collect ?_)); rw [Around.under_plainId F.plain_proto_collect _]
  show wpAny _ A.in1 (newList [] >>= fun l => again (.builtin "list.__iadd__" ⟨[l, .str x tx], []⟩)) _ _ s
  refine wpAny_bind (wpAny_newObj_type (wpAny_pure ⟨plainId_quiet F.plain_list_iadd _, codeAny_builtin F.entry_list_iadd ?_⟩)); rw [Around.under_plainId F.plain_list_iadd _]
  show wpAny _ A.in1 (Builtin.List.listExtendWith (.ref s.heap.objs.size) (.str x tx) (.ref s.heap.objs.size)) _ _ _
  have hS : (s.heap.push { cls := .type "list", data := .seq ([] : List Value).toArray }).get? s.heap.objs.size = some { cls := .type "list", data := .seq #[] 0 } := by exact Heap.get?_push_size _ rfl
  have Z := wpAny_extend_str (prog := prog) (w := w) (A := A) (R := fun rr s' => rr = .ok (.ret (.ref s.heap.objs.size)) ∧ SgAcc s x s.heap.objs.size s')
    (s := { s with heap := s.heap.push { cls := .type "list", data := .seq ([] : List Value).toArray } }) hh x tx _ (.ref s.heap.objs.size) 0 hS
    (fun h' tk acc c' hk e hi => ⟨rfl, h', tk, acc, c', rfl, fun b o q => hk b o (Nat.ne_of_lt (Heap.lt_size q)) (Heap.get?_push_of_some _ q), e, hi⟩) hn
  refine wpAny_mono Z (fun f s' h => ?_) (fun e s' h => absurd h.1 (by simp))
  cases f with
  | done f =>
    obtain ⟨e, h', tk, acc, c', rfl, hk, hS', hi⟩ := h
    cases e
    show wpAny _ A (load s.heap.objs.size >>= _) _ _ _; exact wpAny_bind (wpAny_load hS' (wpAny_pure (hQ h' tk acc (Nat.le_of_lt (Heap.lt_size hS')) hk hi)))
  | again c =>
    refine ⟨h.1, codeAny_mono h.2 fun rr s2 q => ?_⟩
    obtain ⟨e, h', tk, acc, c', rfl, hk, hS', hi⟩ := q
    cases e
    show wpAny _ A (load s.heap.objs.size >>= _) _ _ _; exact wpAny_bind (wpAny_load hS' (wpAny_pure (hQ h' tk acc (Nat.le_of_lt (Heap.lt_size hS')) hk hi)))
theorem new_tuple_str {Q : Value → Shared → Prop} (hh : A.handled = none) (hn : x.cps.size ≤ sizeLine)
    (h : ∀ (h' : Heap) (tk : Nat) (acc : Array Value), s.heap.objs.size ≤ h'.objs.size → (∀ b o, s.heap.get? b = some o → h'.get? b = some o) → ItemsOf (SignAt x) acc x.cps.size → Q (.ref h'.objs.size) { s with heap := h'.push { cls := .type "tuple", data := .seq acc }, toks := tk }) :
    codeAny (model prog w) A (.call (.builtin "tuple.__new__") ⟨[.type "tuple", .str x tx], []⟩) (wants Q E) s := by
  refine codeAny_of_tree ?_
  show wpAny _ A.in1 (do checkBuiltinCall "tuple.__new__" ⟨[.type "tuple", .str x tx], []⟩; again (.builtin "tuple.__new__" ⟨[.type "tuple", .str x tx], []⟩)) _ _ s
  refine wpAny_bind (wpAny_of_eq (F.newCall_tuple_1 _) (wpAny_pure ⟨plainId_quiet F.plain_tuple_new _, codeAny_builtin F.entry_tuple_new ?_⟩)); rw [Around.under_plainId F.plain_tuple_new _]
  have q1 := sub_tuple_self
  have q2 := init_tuple_lookup
  have q3 := madeHere_tuple
  have q4 : s.TypeIs (.str x tx) "str" := rfl
  have q5 : A.in1.handled = none := hh
  wp_walk using wpAny_typeOf q4, collect_str (A := A.in1) q5 hn
  intro h' tk acc hz hk hi
  show wpAny _ _ (Builtin.Tuple.tupleExact acc.toList.toArray >>= fun v => ret v) _ _ _; unfold Builtin.Tuple.tupleExact
  refine wpAny_bind (wpAny_newObj_type ?_ (by show acc.toList.toArray.size ≤ sizeLine; simp only [Array.toArray_toList]; rw [hi.1]; exact hn))
  refine wpAny_pure ?_
  have e : acc.toList.toArray = acc := by simp
  rw [e]
  exact h h' tk acc hz hk hi
theorem call_tuple_sgn {Q : Value → Shared → Prop} (hh : A.handled = none) (hn : x.cps.size ≤ sizeLine)
    (hQ : ∀ (h' : Heap) (tk : Nat) (acc : Array Value), s.heap.objs.size ≤ h'.objs.size → (∀ b o, s.heap.get? b = some o → h'.get? b = some o) → ItemsOf (SignAt x) acc x.cps.size → Q (.ref h'.objs.size) { s with heap := h'.push { cls := .type "tuple", data := .seq acc }, toks := tk }) :
    wpAny (model prog w) A (call (.type "tuple") [.str x tx]) Q E s := by
  refine callType_codes (Q₁ := fun obj s₁ => s₁.TypeIs obj "tuple" ∧ Q obj s₁) F.called_tuple (F.typeCall_tuple_1 _) F.entry_object_init (new_tuple_str (A := A.in1) hh hn fun h' tk acc hz hk hi => ⟨⟨_, Heap.get?_push_size _ rfl, rfl⟩, hQ h' tk acc hz hk hi⟩) fun obj s₁ h₁ => ?_
  exact ⟨h₁.1, F.args_object_init_2 obj _, object_init_meets F.called_tuple.init.lookup F.called_tuple.made (by decide) prog w A.in1 _ s₁ ⟨h₁.1, rfl, h₁.2⟩⟩
end
theorem call_tupleS {X : Cx} (hc : X.calm = true) : CallR X (.type "tuple") (fun xs H Q => ∃ z : Str, xs = [.str z] ∧ z.length ≤ sizeLine ∧ New H (.tup ((sgs z).map V.str)) Q) := by
  intro pins s σ H xs us Q I r h
  obtain ⟨z, rfl, hz, q⟩ := h
  cases r with
  | cons r rr =>
    cases rr
    obtain ⟨t, rfl⟩ := r
    refine call_tuple_sgn (I.ok.hd hc) hz fun h' tk acc hsz hk hi => ?_
    have hT : (h'.push { cls := .type "tuple", data := .seq acc }).get? h'.objs.size = some { cls := .type "tuple", data := .seq acc } := Heap.get?_push_size _ rfl
    have hk2 : ∀ b o, s.heap.get? b = some o → (h'.push { cls := .type "tuple", data := .seq acc }).get? b = some o := fun b o e => Heap.get?_push_of_some _ (hk b o e)
    have vals : Vals ((sgs z).map V.str) acc.toList := by
      refine vals_of_idx _ _ (by rw [List.length_map, sgs_len, Array.length_toList]; exact hi.1) fun j u hj => ?_
      obtain ⟨c, t', hcx, rfl⟩ := hi.2 j u (by rw [← Array.getElem?_toList]; exact hj)
      refine ⟨.str (sgn c), ?_, ⟨_, rfl⟩⟩
      have e1 : z.cps.toList[j]? = some c := by rw [Array.getElem?_toList]; exact hcx
      simp [sgs, e1]
    refine ⟨.ref h'.objs.size, upd H h'.objs.size (.tup ((sgs z).map V.str)), I.laid hk2 hsz ⟨by rw [List.length_map, sgs_len]; exact hz, acc.toList, vals, ⟨_, hT, rfl, _, by rw [Array.toArray_toList]⟩⟩, rfl, q.of _ (I.hok.fresh hsz)⟩
end Jr
namespace Jr
open PySem PySem.Spec PyProof.Rows L2
/-! ### sorted(text) -/
section
variable {X : Cx}
def rSortT : List V → Hp → VK → Prop := fun vs H Q => ∃ z : Str, vs = [V.str z] ∧ z.length < 64 ∧
  ∀ (ys : List Str) (p : Addr), ys.Perm (sgs z) → sortedS ys = true → H p = none → Q (.ref p) (upd H p (.lst (ys.map V.str)))
theorem cr_sortT (hcalm : X.calm = true) : CallR X (.builtin "sorted") rSortT := by
  intro pins s σ H xs us Q I r q
  obtain ⟨z, ex, h64, q⟩ := q
  subst ex
  obtain ⟨u, eu, rx⟩ := vals1 r
  subst eu
  obtain ⟨t, rfl⟩ := (show ∃ t, u = Value.str z t from rx)
  have zl : z.cps.size = (sgs z).length := by rw [sgs_len]; rfl
  refine Calls.call_function_entry PyProof.Rows.kind_sorted PyProof.Rows.plain_sorted PyProof.Rows.entry_sorted (PyProof.Rows.args_sorted1 _) ?_
  unfold Builtin.«sorted»
  refine wpAny_bind (m := checkCount "sorted" 1 1 _) (wpAny_pure ?_)
  refine wpAny_bind (collect_str (A := X.A.in1) (I.ok.hd hcalm) (by show z.length ≤ _; rw [sizeLine_eq]; omega) fun h' tk acc _ hk hacc => ?_)
  have hal : acc.toList.length = (sgs z).length := by rw [Array.length_toList, hacc.1, zl]
  have hS : StrsAre acc.toList (sgs z) := strs_at hal fun j v e => by
    obtain ⟨c, u, e1, e2⟩ := hacc.2 j v (by rw [← Array.getElem?_toList]; exact e)
    refine ⟨sgn c, u, ?_, e2⟩
    unfold sgs
    rw [List.getElem?_map, Array.getElem?_toList, e1]
    rfl
  have I1 : Inv X pins σ H { s with heap := h', toks := tk } := I.kept hk
  have h64' : acc.toList.length < 64 := by rw [hal, sgs_len]; exact h64
  refine wpAny_bind (wpAny_newList ?_ (by rw [sizeLine_eq]; omega))
  have hoL : (h'.push (seqObj "list" acc.toList.toArray 0)).get? h'.objs.size = some (seqObj "list" acc.toList.toArray 0) := Heap.get?_push_size _ rfl
  show wpAny _ _ _ _ _ { s with heap := h'.push (seqObj "list" acc.toList.toArray 0), toks := tk }
  refine wpAny_bind (wpAny_holding (wpAny_call_entry PyProof.Rows.slot_list_sort ⟨_, hoL, rfl⟩ PyProof.Rows.entry_list_sort
    (list_sort_treeK strKind_oneLt (s := { s with heap := h'.push (seqObj "list" acc.toList.toArray 0), toks := tk }) hoL hS.keysOf (fun v₁ v₂ rest e => keyKind_strs (by rw [← e]; exact hS)) h64' fun st' hp hs => ⟨_, rfl, ?_⟩)
    (PyProof.Rows.args_list_sort _)))
  obtain ⟨ys, g1, g2, g3⟩ := sorted_out_str hS hp hs
  obtain ⟨e', he'⟩ := PyProof.Rows.sortedHeap_at (vs := acc.toList) (out := (arrOf st').map (·.2)) hoL
  have hlen : (ys.map V.str).length ≤ sizeLine := by
    rw [List.length_map, g2.length_eq, ← hal]
    exact Nat.le_trans (Nat.le_of_lt h64') (by decide)
  refine wpAny_pure ⟨_, rfl, .ref h'.objs.size, upd H h'.objs.size (.lst (ys.map V.str)), I1.laid (t' := tk) (fun b u e => ?_) (Nat.le_refl _)
    (show ObjOk X.prog X.w _ _ _ (.lst (ys.map V.str)) from ⟨hlen, ((arrOf st').map (·.2)).toList, e', vals_of_strs g1, by rw [Array.toArray_toList]; exact he'⟩), rfl, q ys _ g2 g3 (I1.hok.fresh (Nat.le_refl _))⟩
  have hb : b < h'.objs.size := Heap.lt_size e
  rw [PyProof.Rows.sortedHeap_old (Nat.ne_of_lt hb) (by rw [size_push']; exact Nat.lt_succ_of_lt hb)]
  exact Heap.get?_push_of_some _ e
end
end Jr
namespace Jr
open PySem PySem.Spec PyProof.Rows L2
section
variable {P : Program} {w : World} {K : PySem.W.Frag} {mg : Str → Option Value} {base : Heap}
abbrev CLd (K : PySem.W.Frag) : Addr := He.ga K "NoLead"
def spCSame (K : PySem.W.Frag) : Sp := fun vs H Q E => ∃ (x y : Addr) (z1 z2 : Str) (rs1 rs2 : Rws), vs = [.ref x, .ref y] ∧ TabAt (TC K) H x z1 rs1 ∧ TabAt (TC K) H y z2 rs2 ∧
  (SameZ z1 z2 → ∀ H', Same H H' → Q .non H') ∧ (¬ SameZ z1 z2 → Rz0 (CLd K) H E)
theorem calx_check_same_signs (T : Tx K mg) : Cal P w K mg base (L2.CX P w) 3 "check_same_signs" (spCSame K) := by
  have M_Table_signs := met_signs (P := P) (w := w) (base := base) T
  have E_NoLead := exk_NoLead (P := P) (w := w) (base := base) T
  obtain ⟨fd, F⟩ := T.d_check_same_signs
  refine ⟨_, fd, P_check_same_signs, F.ok sc_check_same_signs (fun vs H Q E h => ?_) (fun cdv A outer s H vs Q E hr h => ?_), T.g_check_same_signs, F.kp, F.bindsN (ps := P_check_same_signs) fun _ _ _ _ _ _ us hl => match us, hl with | [_, _], _ => rfl⟩
  · obtain ⟨x, y, z1, z2, rs1, rs2, rfl, _⟩ := h
    rfl
  · obtain ⟨x, y, z1, z2, rs1, rs2, rfl, ta, tb, kg, kb⟩ := h
    refine ⟨_, (pss_one (ps_if (pt_cmpR (op_neD hr.units) (pe_callB (id := "sorted") (cr_sortT rfl) (by rfl) T.n_sorted (by decide +kernel) (pa_cons (pe_met0 M_Table_signs (pv 0) (by first | exact hr | exact hr.mono (by decide))) pa_nil)) (pe_callB (id := "sorted") (cr_sortT rfl) (by rfl) T.n_sorted (by decide +kernel) (pa_cons (pe_met0 M_Table_signs (pv 1) (by first | exact hr | exact hr.mono (by decide))) pa_nil)) (nomark _)) (pss_one (ps_raise rfl (takes_of rfl rfl rfl rfl) (E_NoLead.mk0 (by first | exact hr | exact hr.mono (by decide)) (pa_cons pe_str pa_nil)))) pss_nil)), ?_⟩
    have T1 := ta.ok
    have T2 := tb.ok
    have n1 := T1.n12
    have n2 := T2.n12
    obtain ⟨dx, lr, lp, dn, dr, m, h1, _⟩ := id ta.ex
    refine ⟨_, rfl, x, dx, _, rfl, h1, l6_ms_ _ _ _ _ _ _, x, z1, rs1, rfl, ta, ?_⟩
    refine ⟨z1, rfl, by omega, fun ys1 p1 q1 o1 np1 => ?_⟩
    have s1 := Same.new (o := .lst (ys1.map V.str)) np1
    have hp1 : (upd H p1 (.lst (ys1.map V.str))) p1 = _ := upd_same
    revert s1 hp1
    generalize (upd H p1 (.lst (ys1.map V.str))) = H1
    intro s1 hp1
    have tb1 := tb.same s1
    obtain ⟨dx2, lr2, lp2, dn2, dr2, m2, h2, _⟩ := id tb1.ex
    refine ⟨_, rfl, y, dx2, _, rfl, h2, l6_ms_ _ _ _ _ _ _, y, z2, rs2, rfl, tb1, ?_⟩
    refine ⟨z2, rfl, by omega, fun ys2 p2 q2 o2 np2 => ?_⟩
    have s2 := Same.new (o := .lst (ys2.map V.str)) np2
    have hp2 : (upd H1 p2 (.lst (ys2.map V.str))) p2 = _ := upd_same
    revert s2 hp2
    generalize (upd H1 p2 (.lst (ys2.map V.str))) = H2
    intro s2 hp2
    have asc : ∀ {z : Str} {rs : Rws} {ys : List Str}, TabOk z rs → ys.Perm (sgs z) → ∀ v ∈ ys, Asc v := fun {z rs ys} tk q v hv => tk.asc (List.mem_append_left _ (q.mem_iff.mp hv))
    refine ⟨_, _, dpS (SqL.of (s2 _ _ hp1)), dpS (SqL.of hp2), shS (asc T1 q1), shS (asc T2 q2), ?_⟩
    rw [eqS]
    by_cases c : SameZ z1 z2
    · rw [decide_eq_true ((same_sorted T1.sg T2.sg q1 q2 o1 o2).mpr c)]
      exact ⟨_, rfl, iteF (kg c _ (s1.trans s2))⟩
    · rw [decide_eq_false fun e => c ((same_sorted T1.sg T2.sg q1 q2 o1 o2).mp e)]
      exact ⟨_, rfl, iteT ⟨_, rfl, kb c _ (s1.trans s2)⟩⟩
end
end Jr
namespace Jr
open PySem PySem.Spec PyProof.Rows L2
/-! ### a caught error kept behind its suite -/
/-- an exception object of the class cls with the dict d, kept at a -/
def ExV (cls : Value) (d : Option Addr) (a : Addr) : HO := .ext fun h => ∃ (oe : Obj) (vs : Array Value), h.get? a = some oe ∧ Zc cls d oe ∧ oe.data = .fields vs
theorem exV_ok {P : Program} {w : World} {H : Hp} {h : Heap} {a : Addr} {cls : Value} {d : Option Addr} {oe : Obj} {vs : Array Value} (e : h.get? a = some oe) (z : Zc cls d oe) (hd : oe.data = .fields vs) : ObjOk P w H h a (ExV cls d a) :=
  ⟨⟨oe, vs, e, z, hd⟩, ⟨oe, e⟩, fun _ _ ⟨o, v, q, r⟩ k => ⟨o, v, k o q, r⟩⟩
section
variable {X : Cx} {pins : List (Addr × Obj)} {σ : L2.St} {H : Hp} {s : Shared}
theorem Inv.keepX {a : Addr} {oe : Obj} {vs : Array Value} {cls : Value} {d : Option Addr} (ok : X.Ok) (I : Inv (X.suite a ((a, oe) :: (X.pn ++ pins))) [] σ H s) (n0 : X.s_0.heap.get? a = none) (np : ∀ p ∈ X.pn ++ pins, p.1 ≠ a) (hz : Zc cls d oe) (hd : oe.data = .fields vs) :
    Inv X pins σ (upd H a (ExV cls d a)) s := by
  obtain ⟨ha, na, nL, nF, nc⟩ := I.pin (a, oe) (List.mem_append_left _ List.mem_cons_self)
  simp only at ha na nL nF nc
  have ne0 : ∀ b o, X.s_0.heap.get? b = some o → b ≠ a := fun b o e z => by
    rw [z, n0] at e
    cases e
  have neT : ∀ b o, H b = some o → b ≠ a := fun b o e z => by
    rw [z, na] at e
    cases e
  have base : Un X.fs X.ex X.H_0 (upd H a (ExV cls d a)) X.s_0.heap s.heap := by
    refine ⟨I.base.keep, I.base.slot, fun b o e n hq => ?_, I.base.there, fun b xs e => ?_, fun b o u e => ?_, fun b ps e => ?_⟩
    · rw [upd_ne (ne0 b o e)]
      exact I.base.free b o e n hq
    · have q := I.base.tups b xs e
      rw [upd_ne (neT b _ q)]
      exact q
    · have q := I.base.frzs b o u e
      rw [upd_ne (neT b _ q)]
      exact q
    · obtain ⟨m, q⟩ := I.base.tbls b ps e
      exact ⟨m, by rw [upd_ne (neT b _ q)]; exact q⟩
  refine ⟨ok, I.os, I.bare, base, I.loc, I.cell, ?_, fun x c e => ?_, fun p hp => ?_, fun b u e => ?_, I.len⟩
  · rw [upd_ne (Ne.symm nL)]
    exact I.free
  · have hc : c ≠ a := fun z => by
      obtain ⟨v, o, ho, hv⟩ := I.cell x c e
      rw [z, ha] at ho
      cases ho
      exact nc v hv
    rw [upd_ne hc]
    exact I.freeC x c e
  · obtain ⟨e, n, ne, nf, dd⟩ := I.pin p (List.mem_append_left _ (List.mem_cons_of_mem _ hp))
    exact ⟨e, by rw [upd_ne (np p hp)]; exact n, ne, nf, dd⟩
  · by_cases hb : b = a
    · subst hb
      rw [upd_same] at e
      cases e
      exact exV_ok ha hz hd
    · rw [upd_ne hb] at e
      exact (I.hok b u e).stay (fun c v _ q => q) (fun c q => by rw [upd_ne (neT c _ q)]; exact q) fun c xs q => by rw [upd_ne (neT c _ q)]; exact q
end
/-- what the clause 'except x as n' wishes of an exception of the body, where the error stays behind the suite -/
def wKeep (K : PySem.W.Frag) (c : Value) (i : Nat) (ts : Addr → Value → Option Addr → TS) (Wout : WX) (D : Ends) : WX := fun cls d σ H =>
  ∃ b, PySem.W.exmOne K cls c = some b ∧ (b = true → ∀ a, H a = none → ts a cls d { nx := fun σ' H' => D.nx (σ'.set i none) (upd H' a (ExV cls d a)), rt := fun v H' => D.rt v (upd H' a (ExV cls d a)), bk := fun σ' H' => D.bk (σ'.set i none) (upd H' a (ExV cls d a)), ct := fun σ' H' => D.ct (σ'.set i none) (upd H' a (ExV cls d a)) } (σ.set i (some (.ref a))) H) ∧
    (b = false → Wout cls d σ H)
section
variable {X : Cx} {x n : Str} {c : Value} {i : Nat} {body suite : List Stmt} {b₀ : Stmt} {np pos pos' : Pos} {tb : WX → TS} {ts : Addr → Value → Option Addr → TS} {Wout : WX}
theorem ps_try_keep (hs : X.stack = X.env :: X.outer) (hf : X.env.frame = some X.env.locals) (hN : X.N.Nodup) (hi : X.N[i]? = some n) (hln : X.env.kindOf n = some .local) (hex : X.ex = []) (hc : Names X x c) (tk : Takes X Wout)
    (hb : ∀ (W : WX) (pn : List (Addr × Obj)) (xe : Value → Shared → Prop), Takes (X.tr pn xe) W → PassesOwn (model X.prog X.w) X.A X.env xe → PSs (X.tr pn xe) body (tb W))
    (hsu : ∀ (a : Addr) (oe : Obj) (cls : Value) (d : Option Addr) (pn : List (Addr × Obj)), Zc cls d oe → (∃ vs, oe.data = .fields vs) → PSs (X.suite a ((a, oe) :: pn)) (b₀ :: suite) (ts a cls d)) :
    PS X (.Try body [.ExceptHandler (some (.Name x np)) (some n) (b₀ :: suite) pos'] [] [] pos) (fun D σ H => tb (wKeep X.K c i ts Wout D) D σ H) := by
  refine ⟨fun pins s σ H D I h => ?_⟩
  have ok := I.ok
  have hfr : X.A.frames = some (X.env :: X.outer) := by rw [ok.frames, hs]
  have hloc : Loc X.env.scope n := .inl hln
  refine wpAny_Try_except ?_
  refine wpAny_mono ((hb (wKeep X.K c i ts Wout D) (X.pn ++ pins) (fun e s₁ => wpAny (model X.prog X.w) X.A (noteFrame e X.env) (fun _ s₂ => wpAny (model X.prog X.w) X.A (setFlight e none) (fun _ s₃ =>
    wpAny (model X.prog X.w) X.A (handleBy e X.env [.ExceptHandler (some (.Name x np)) (some n) (b₀ :: suite) pos']) (SP X pins D) X.xe s₃) X.xe s₂) X.xe s₁) (fun u s' xx => ?_) PassesOwn.looking).run [] s σ H D (I.toTry _) h) (fun f s1 hsp => ?_) (fun e s1 he => he)
  · -- the catch
    obtain ⟨a, B, sI, pins', σ', H', cls, d, rfl, J', nb, up, sky, na, os, ag, b, hb1, hyes, hno⟩ := xx
    have J : Inv X pins σ' H' sI := J'.ofTry ok
    have sky' : Sky B (X.env :: X.outer) a (Zc cls d) X.env.locals s'.heap := by rw [← hs]; exact sky
    show wpAny (model X.prog X.w) X.A (noteFrame (.ref a) X.env) _ _ _
    refine Sky.land Zc.steady hfr hf sky' fun h3 fl3 up3 => ?_
    have J3 : Inv X pins σ' H' { s' with heap := h3 } := J.landed nb fl3.1 (up.trans up3) os ag
    obtain ⟨oe3, vs3, he3, hz3, hd3⟩ := fl3.there
    have notFr : ∀ {h : Heap} {o : Obj} {vs : Array Value}, h.FunFrames B (X.env :: X.outer) → h.get? a = some o → o.data = .fields vs → a ∉ frs (X.env :: X.outer) := fun {h o vs} ff e dd hm => by
      obtain ⟨_, o', e', hnf⟩ := ff.mem hm
      rw [e] at e'; cases e'
      exact hnf _ dd
    have nfr := notFr fl3.2.2.1 he3 hd3
    have nL : a ≠ X.env.locals := fun z => nfr (List.mem_filterMap.mpr ⟨X.env, List.mem_cons_self, by rw [hf, z]⟩)
    have nF : a ∉ X.fs := fun hm => by
      obtain ⟨e, he, q⟩ := List.mem_filterMap.mp hm
      exact nfr (List.mem_filterMap.mpr ⟨e, List.mem_cons_of_mem _ he, q⟩)
    have nst : a ∉ frs X.stack := by rw [hs]; exact nfr
    have nI : sI.heap.get? a = none := by
      cases e : sI.heap.get? a with
      | none => rfl
      | some o =>
        have q := nb a o e nst
        rw [fl3.2.1] at q
        cases q
    have n0 : X.s_0.heap.get? a = none := by
      cases e : X.s_0.heap.get? a with
      | none => rfl
      | some o =>
        obtain ⟨o', q⟩ := J.base.there a o e (by rw [hex]; exact fun z => nomatch z)
        rw [nI] at q
        cases q
    have npp : ∀ p ∈ X.pn ++ pins, p.1 ≠ a := fun p hp z => by
      have q := (J.pin p hp).1
      rw [z, nI] at q
      cases q
    have S3 := J3.suite he3 hd3 na nL nF
    refine wpAny_handleBy_cons (codeAny_handlers_test ?_) (by intro q; cases q)
    have LT : PySem.W.Looks (model X.prog X.w) h3 (typeOf (.ref a)) cls := fun A Q E s k q => wpAny_typeOf_ref (k _ _ he3) (by rw [hz3.1]; exact q)
    have LM := PySem.W.exm_one (M := model X.prog X.w) (J3.kIn) LT hb1
    have test : ∀ {Q : Value → Shared → Prop} {E : Value → Shared → Prop}, Q c { s' with heap := h3 } → wpAny (model X.prog X.w) (X.A.mark (some (.ref a))) (eval (.Name x np) X.env) Q E { s' with heap := h3 } := fun {Q E} q => by
      obtain ⟨hg, hdbg, hm | ⟨hm, hv, hnn⟩⟩ := hc
      · exact ld_glob (X := X.suite a ((a, oe3) :: (X.pn ++ pins))) S3 hg hm q hdbg
      · exact ld_blt (X := X.suite a ((a, oe3) :: (X.pn ++ pins))) S3 hg hm hv q hnn hdbg
    refine test (LM.here ?_)
    cases b with
    | true =>
      refine codeAny_handlers_suite_as ?_
      refine HandSPX.lands_againZ fl3 fun h4 fl4 up4 => ?_
      have J4 : Inv X pins σ' H' { s' with heap := h4 } := J.landed nb fl4.1 ((up.trans up3).trans up4) os ag
      obtain ⟨oe4, vs4, he4, hz4, hd4⟩ := fl4.there
      have S4 := J4.suite he4 hd4 na nL nF
      refine store_ok (X := X.suite a ((a, oe4) :: (X.pn ++ pins))) (v := .ref a) S4 hN hi hloc rfl (fun s5 S5 => ?_) (.inr hln)
      refine wpAny_mono ((hsu a oe4 cls d (X.pn ++ pins) hz4 ⟨_, hd4⟩).run [] s5 _ H' _ S5 (hyes rfl a na)) (fun f s6 hsp => ?_) (fun _ _ z => False.elim z)
      have end_ : ∀ {σ6 : L2.St} {H6 : Hp} {Q : Shared → Prop}, Inv (X.suite a ((a, oe4) :: (X.pn ++ pins))) [] σ6 H6 s6 → (∀ s7, Inv X pins (σ6.set i none) (upd H6 a (ExV cls d a)) s7 → Q s7) →
          wpAny (model X.prog X.w) X.A (do bindName X.env n .none; unbindBehindTheSuite X.env n pos') (fun _ s7 => Q s7) X.xe s6 := fun {σ6 H6 Q} S6 hq =>
        gone_ok (X := X.suite a ((a, oe4) :: (X.pn ++ pins))) S6 hN hi hln fun s7 S7 => hq s7 (Inv.keepX ok S7 n0 npp hz4 hd4)
      cases f with
      | next =>
        obtain ⟨σ6, H6, S6, q6⟩ := hsp
        exact end_ S6 fun s7 J7 => ⟨_, _, J7, q6⟩
      | brk =>
        obtain ⟨σ6, H6, S6, q6⟩ := hsp
        exact end_ S6 fun s7 J7 => ⟨_, _, J7, q6⟩
      | cont =>
        obtain ⟨σ6, H6, S6, q6⟩ := hsp
        exact end_ S6 fun s7 J7 => ⟨_, _, J7, q6⟩
      | ret u =>
        obtain ⟨v6, σ6, H6, S6, r6, q6⟩ := hsp
        exact end_ S6 fun s7 J7 => ⟨_, _, _, J7, r6, q6⟩
    | false =>
      show wpAny _ X.A (handleBy (.ref a) X.env []) _ _ _
      refine wpAny_handleBy_nil ?_
      obtain ⟨k1, k2, k3, oe, vs, T, oT, ts', he, hz, hd, h1, hr⟩ := id fl3
      unfold PySem.passOn
      refine wpAny_bind (wpAny_field he hd h1 ?_)
      rw [if_neg (show ¬ ((Value.ref T == Value.none) = true) from by simp)]
      have fin : wpAny (model X.prog X.w) X.A (setFlight (.ref a) X.env.frame) (fun _ s4 => wpAny (model X.prog X.w) X.A (throw (.ref a) : Sem Flow) (SP X pins D) X.xe s4) X.xe { s' with heap := h3 } := by
        rw [hf]
        refine HandSPX.setFlight_upZ fl3 fun h4 hh4 up4 => wpAny_throw (tk _ _ ?_)
        exact ⟨a, B, sI, pins, σ', H', cls, d, rfl, J, nb, (up.trans up3).trans up4, .inr (.inr (by rw [hs]; exact hh4)), na, os, ag, hno rfl⟩
      first
        | exact wpAny_bind (wpAny_pure (wpAny_bind fin))
        | exact wpAny_bind fin
  · cases f with
    | next =>
      obtain ⟨σ', H', J', q⟩ := hsp
      exact wpAny_execs_nil ⟨σ', H', J'.ofTry ok, q⟩
    | brk =>
      obtain ⟨σ', H', J', q⟩ := hsp
      exact ⟨σ', H', J'.ofTry ok, q⟩
    | cont =>
      obtain ⟨σ', H', J', q⟩ := hsp
      exact ⟨σ', H', J'.ofTry ok, q⟩
    | ret u =>
      obtain ⟨v, σ', H', J', r, q⟩ := hsp
      exact ⟨v, σ', H', J'.ofTry ok, r, q⟩
end
/-! ### isinstance and fields of a kept error -/
/-- a kept error of the class at D, its fields fs -/
structure ExcAt (H : Hp) (a D : Addr) (d : Option Addr) (fs : List (Str × V)) : Prop where
  at_ : H a = some (ExV (.ref D) d a)
  dic : (d = none ∧ fs = []) ∨ ∃ dd, d = some dd ∧ H dd = some (.xd fs)
theorem ExcAt.same {H H' : Hp} {a D : Addr} {d : Option Addr} {fs : List (Str × V)} (h : ExcAt H a D d fs) (s : Same H H') : ExcAt H' a D d fs :=
  ⟨s _ _ h.at_, h.dic.imp id fun ⟨dd, e, q⟩ => ⟨dd, e, s _ _ q⟩⟩
theorem ExcAt.inst {X : Cx} {pins : List (Addr × Obj)} {σ : L2.St} {H : Hp} {s : Shared} {a D : Addr} {d : Option Addr} {fs : List (Str × V)} (I : Inv X pins σ H s) (h : ExcAt H a D d fs) : ∃ oe od, PySem.W.InstAt s.heap a oe D od := by
  have ho : ObjOk X.prog X.w H s.heap a (ExV (.ref D) d a) := I.hok a _ h.at_
  obtain ⟨⟨oe, vs, hget, hz, hv⟩, _⟩ := ho
  rcases h.dic with ⟨rfl, _⟩ | ⟨dd, rfl, hdd⟩
  · refine ⟨oe, none, ?_⟩
    obtain ⟨oc, od, oda, osl⟩ := oe
    obtain ⟨h1, h2⟩ := hz
    dsimp only at h1 h2 hv
    subst h1 h2 hv
    exact ⟨hget, rfl, rfl, trivial⟩
  · have hx : ObjOk X.prog X.w H s.heap dd (.xd fs) := I.hok dd _ hdd
    obtain ⟨mA, hns, _⟩ := hx
    obtain ⟨od, ho, _⟩ := lookIn_ns hns
    exact ⟨oe, some od, ⟨hget, hz.1, by unfold PySem.W.notCls; rw [hv] <;> rfl, by rw [hz.2]; exact ho⟩⟩
def rIsV (K : PySem.W.Frag) : List V → Hp → VK → Prop := fun xs H Q => ∃ (a D : Addr) (d : Option Addr) (fs : List (Str × V)) (c : V) (cv : Value) (b : Bool), xs = [.ref a, c] ∧ ExcAt H a D d fs ∧ XcC K D ∧
  (∀ u, RelV c u → u = cv) ∧ PySem.W.kitOne K (.ref D) cv = some b ∧ Q (.bl b) H
theorem call_isV {X : Cx} : CallR X (.builtin "isinstance") (rIsV X.K) := by
  intro pins s σ H xs us Q I r h
  obtain ⟨a, D, d, fs, c, cv, b, rfl, hx, C, hcv, e, q⟩ := h
  cases r with
  | cons rx rr =>
    cases rr with
    | cons rt rr =>
      cases rr
      cases rx
      have e1 := hcv _ rt
      subst e1
      obtain ⟨oe, od, J⟩ := hx.inst I
      exact PySem.W.kia_one (PySem.W.kitx_exc C.ic C.xf.ga C.xf.gg C.xf.exC C.ca C.cg C.ct C.cm) I.kIn J e (fun z => nomatch z) fun tk => ⟨.bl b, H, I.kept (t' := tk) fun _ _ z => z, rfl, q⟩
def tXv (K : PySem.W.Frag) (f : Str) (te : TE) : TE := fun σ H Q => te σ H fun x H1 => ∃ (a D dd : Addr) (fs : List (Str × V)) (v : V), x = .ref a ∧ ExcAt H1 a D (some dd) fs ∧ XfC K D ∧ PySem.W.findIn K (.ref D) f = some none ∧ fs.lookup f = some v ∧ Q v H1
theorem pe_xv {X : Cx} {e : Expr} {te : TE} {pos : Pos} {n : Str} (he : PE X e te) (hb : attributeBase e n X.env (eval e X.env) = eval e X.env := by rfl) :
    PE X (.Attribute e n pos) (tXv X.K n te) := by
  refine ⟨fun pins s σ H Q I h => ?_⟩
  refine attr_of hb (thn (he.run pins s σ H _ I h) fun u s1 hh => ?_)
  obtain ⟨x, H1, I1, rx, a, D, dd, fs, v, ex, hx, T, hno, l, q⟩ := hh
  subst ex
  obtain rfl : u = Value.ref a := rx
  have ho : ObjOk X.prog X.w H1 s1.heap a (ExV (.ref D) (some dd) a) := I1.hok a _ hx.at_
  obtain ⟨⟨oe, vs, hget, hz, hv⟩, _⟩ := ho
  obtain ⟨dd', ed, hdd⟩ : ∃ dd', some dd = some dd' ∧ H1 dd' = some (.xd fs) := by
    rcases hx.dic with ⟨z, _⟩ | z
    · cases z
    · exact z
  cases ed
  have hx2 : ObjOk X.prog X.w H1 s1.heap dd (.xd fs) := I1.hok dd _ hdd
  obtain ⟨mA, hns, hr⟩ := hx2
  obtain ⟨od, ho, hl⟩ := lookIn_ns hns
  obtain ⟨u, hu, ru⟩ := RelO.some_of (v := v) (o := mA n) (by rw [← l]; exact hr n)
  have J : PySem.W.InstAt s1.heap a oe D (some od) := ⟨hget, hz.1, by unfold PySem.W.notCls; rw [hv] <;> rfl, by rw [hz.2]; exact ho⟩
  exact HandSPX.exc_get I1.kIn J T.ga T.gg T.exC (PySem.W.findObj_own T.hdC hno rfl (by rw [hl, hu])) (handed_of ru) ⟨v, H1, I1.tok _, ru, q⟩
/-! ### methods without arguments that may raise -/
section
variable {X : Cx} {k : Nat} {sp : Sp} {pos apos : Pos} {C : Addr} {m : Str} {o : Expr} {ta : TE} {W : WX}
theorem pe_metX0 {pl : Sem Bool} (F : Met X.prog X.w X.K X.mg X.base (L2.CX X.prog X.w) k C m sp) (ho : PE X o ta) (hr : Room k X.A) (tk : Takes X W)
    (hc : eval (.Call (.Attribute o m apos) [] [] pos) X.env = (do
      let ov ← eval o X.env
      standAt apos.atName
      let (f, first) ← holding [ov] (getMethod ov m pl)
      callWith pos f first (backTo pos (starEach [] X.env)) (backToKw pos (keywordEach [] X.env))) := by rfl) :
    PE X (.Call (.Attribute o m apos) [] [] pos) (fun σ H Q => ta σ H fun x H1 => ∃ a dx fs, x = .ref a ∧ H1 a = some (.ins C dx fs) ∧ fs.lookup m = none ∧ sp [x] H1 Q (WE W σ)) := by
  obtain ⟨f, fd, ps, G, mt, b⟩ := F.ex
  constructor
  intro pins s σ H Q I h
  refine PySem.W.methodCall_KW (pl := pl) (thn (ho.run pins s σ H _ I h) ?_) hc
  rintro u s1 ⟨v, H1, I1, rv, a, dx, fs, ev, ea, hl, q⟩
  subst ev
  obtain rfl : u = Value.ref a := rv
  refine getmeth_ok I1 ea F.cl mt hl ?_
  exact PySem.W.callWith_K0 (first := [.ref a]) I1.kIn mt.kp (run_fnS (us := [.ref a]) (vs := [.ref a]) G hr b (passAt tk σ) I1 (.cons rfl .nil) q)
theorem pe_metL0 {pl : Sem Bool} (F : Met X.prog X.w X.K X.mg X.base (L2.CX X.prog X.w) k C m sp) (ho : PE X o ta) (hr : Room k X.A)
    (hc : eval (.Call (.Attribute o m apos) [] [] pos) X.env = (do
      let ov ← eval o X.env
      standAt apos.atName
      let (f, first) ← holding [ov] (getMethod ov m pl)
      callWith pos f first (backTo pos (starEach [] X.env)) (backToKw pos (keywordEach [] X.env))) := by rfl) :
    PE X (.Call (.Attribute o m apos) [] [] pos) (fun σ H Q => ta σ H fun x H1 => ∃ a dx fs, x = .ref a ∧ H1 a = some (.ins C dx fs) ∧ fs.lookup m = none ∧ sp [x] H1 Q E0) := by
  obtain ⟨f, fd, ps, G, mt, b⟩ := F.ex
  have z := pe_meth0 (apos := apos) (pos := pos) ho F.cl mt G hr b .nil passL hc
  exact ⟨fun pins s σ H Q I h => z.run pins s σ H Q I h⟩
end
end Jr
namespace Jr
open PySem PySem.Spec PyProof.Rows L2
/-- an error of the k-th of the thirteen kinds -/
structure KindC (K : PySem.W.Frag) (D : Addr) (k : Nat) : Prop where
  xc : XcC K D
  je : PySem.W.kitOne K (.ref D) (.ref (He.ga K "JoinError")) = some true
  ve : PySem.W.kitOne K (.ref D) (.type "ValueError") = some true
  k0 : PySem.W.kitOne K (.ref D) (.ref (He.ga K "NoTable")) = some (decide (0 = k))
  k1 : PySem.W.kitOne K (.ref D) (.ref (He.ga K "NoGrammar")) = some (decide (1 = k))
  k2 : PySem.W.kitOne K (.ref D) (.ref (He.ga K "NoCutting")) = some (decide (2 = k))
  k3 : PySem.W.kitOne K (.ref D) (.ref (He.ga K "NoSign")) = some (decide (3 = k))
  k4 : PySem.W.kitOne K (.ref D) (.ref (He.ga K "NoPiece")) = some (decide (4 = k))
  k5 : PySem.W.kitOne K (.ref D) (.ref (He.ga K "NoNumber")) = some (decide (5 = k))
  k6 : PySem.W.kitOne K (.ref D) (.ref (He.ga K "NoCount")) = some (decide (6 = k))
  k7 : PySem.W.kitOne K (.ref D) (.ref (He.ga K "NoText")) = some (decide (7 = k))
  k8 : PySem.W.kitOne K (.ref D) (.ref (He.ga K "NoPlace")) = some (decide (8 = k))
  k9 : PySem.W.kitOne K (.ref D) (.ref (He.ga K "NoLead")) = some (decide (9 = k))
  k10 : PySem.W.kitOne K (.ref D) (.ref (He.ga K "NoDeed")) = some (decide (10 = k))
  k11 : PySem.W.kitOne K (.ref D) (.ref (He.ga K "NoRow")) = some (decide (11 = k))
  k12 : PySem.W.kitOne K (.ref D) (.ref (He.ga K "NoName")) = some (decide (12 = k))
section
variable {P : Program} {w : World} {K : PySem.W.Frag} {mg : Str → Option Value} {base : Heap}
def spRefusal (K : PySem.W.Frag) : Sp := fun vs H Q _ => ∃ (a D : Addr) (d : Option Addr) (fs : List (Str × V)) (k : Nat), vs = [.ref a] ∧ ExcAt H a D d fs ∧ KindC K D k ∧ k < 13 ∧ ∀ H' q, Same H H' → H q = none → H' q = some (.lst [.int (k : Nat)]) → Q (.ref q) H'
theorem cal__law_refusal (T : Tx K mg) : Cal P w K mg base CX0 1 "_law_refusal" (spRefusal K) := by
  obtain ⟨fd, F⟩ := T.d__law_refusal
  refine ⟨_, fd, P__law_refusal, F.ok sc__law_refusal (fun vs H Q E h => ?_) (fun cdv A outer s H vs Q E hr h => ?_), T.g__law_refusal, F.kp, F.bindsN (ps := P__law_refusal) fun _ _ _ _ _ _ us hl => match us, hl with | [_], _ => rfl⟩
  · obtain ⟨a, D, d, fs, k, rfl, _⟩ := h
    rfl
  · obtain ⟨a, D, d, fs, kk, rfl, hx, kc, kl, k⟩ := h
    refine ⟨_, (PSs.nox (pss_cons (ps_if (PW.pt (pw_or (pt_not (pt_val (pe_callB (id := "isinstance") call_isV (by rfl) T.n_isinstance (by decide +kernel) (pa_cons (pv 0) (pa_cons (pe_glob (v := .ref (He.ga K "JoinError")) (by rfl) T.g_JoinError rfl) pa_nil))))) (pw_or1 (pt_not (pt_val (pe_callB (id := "isinstance") call_isV (by rfl) T.n_isinstance (by decide +kernel) (pa_cons (pv 0) (pa_cons (pe_bltn (v := .ty "ValueError") (by rfl) T.n_ValueError (by decide +kernel) rfl) pa_nil)))))))) (pss_one (ps_ret (pe_lstG pa_nil))) pss_nil)
      (pss_cons (ps_set (i := 1) sc__law_refusal.nd rfl (Or.inr rfl) (pe_lstG (pa_cons (pe_callB (id := "isinstance") call_isV (by rfl) T.n_isinstance (by decide +kernel) (pa_cons (pv 0) (pa_cons (pe_glob (v := .ref (He.ga K "NoTable")) (by rfl) T.g_NoTable rfl) pa_nil))) (pa_cons (pe_callB (id := "isinstance") call_isV (by rfl) T.n_isinstance (by decide +kernel) (pa_cons (pv 0) (pa_cons (pe_glob (v := .ref (He.ga K "NoGrammar")) (by rfl) T.g_NoGrammar rfl) pa_nil))) (pa_cons (pe_callB (id := "isinstance") call_isV (by rfl) T.n_isinstance (by decide +kernel) (pa_cons (pv 0) (pa_cons (pe_glob (v := .ref (He.ga K "NoCutting")) (by rfl) T.g_NoCutting rfl) pa_nil))) pa_nil)))))
      (pss_cons (ps_set (i := 1) sc__law_refusal.nd rfl (Or.inr rfl) (pe_op op_catG (pv 1) (pe_lstG (pa_cons (pe_callB (id := "isinstance") call_isV (by rfl) T.n_isinstance (by decide +kernel) (pa_cons (pv 0) (pa_cons (pe_glob (v := .ref (He.ga K "NoSign")) (by rfl) T.g_NoSign rfl) pa_nil))) (pa_cons (pe_callB (id := "isinstance") call_isV (by rfl) T.n_isinstance (by decide +kernel) (pa_cons (pv 0) (pa_cons (pe_glob (v := .ref (He.ga K "NoPiece")) (by rfl) T.g_NoPiece rfl) pa_nil))) (pa_cons (pe_callB (id := "isinstance") call_isV (by rfl) T.n_isinstance (by decide +kernel) (pa_cons (pv 0) (pa_cons (pe_glob (v := .ref (He.ga K "NoNumber")) (by rfl) T.g_NoNumber rfl) pa_nil))) pa_nil))))))
      (pss_cons (ps_set (i := 1) sc__law_refusal.nd rfl (Or.inr rfl) (pe_op op_catG (pv 1) (pe_lstG (pa_cons (pe_callB (id := "isinstance") call_isV (by rfl) T.n_isinstance (by decide +kernel) (pa_cons (pv 0) (pa_cons (pe_glob (v := .ref (He.ga K "NoCount")) (by rfl) T.g_NoCount rfl) pa_nil))) (pa_cons (pe_callB (id := "isinstance") call_isV (by rfl) T.n_isinstance (by decide +kernel) (pa_cons (pv 0) (pa_cons (pe_glob (v := .ref (He.ga K "NoText")) (by rfl) T.g_NoText rfl) pa_nil))) (pa_cons (pe_callB (id := "isinstance") call_isV (by rfl) T.n_isinstance (by decide +kernel) (pa_cons (pv 0) (pa_cons (pe_glob (v := .ref (He.ga K "NoPlace")) (by rfl) T.g_NoPlace rfl) pa_nil))) pa_nil))))))
      (pss_cons (ps_set (i := 1) sc__law_refusal.nd rfl (Or.inr rfl) (pe_op op_catG (pv 1) (pe_lstG (pa_cons (pe_callB (id := "isinstance") call_isV (by rfl) T.n_isinstance (by decide +kernel) (pa_cons (pv 0) (pa_cons (pe_glob (v := .ref (He.ga K "NoLead")) (by rfl) T.g_NoLead rfl) pa_nil))) (pa_cons (pe_callB (id := "isinstance") call_isV (by rfl) T.n_isinstance (by decide +kernel) (pa_cons (pv 0) (pa_cons (pe_glob (v := .ref (He.ga K "NoDeed")) (by rfl) T.g_NoDeed rfl) pa_nil))) (pa_cons (pe_callB (id := "isinstance") call_isV (by rfl) T.n_isinstance (by decide +kernel) (pa_cons (pv 0) (pa_cons (pe_glob (v := .ref (He.ga K "NoRow")) (by rfl) T.g_NoRow rfl) pa_nil))) pa_nil))))))
      (pss_cons (ps_set (i := 1) sc__law_refusal.nd rfl (Or.inr rfl) (pe_op op_catG (pv 1) (pe_lstG (pa_cons (pe_callB (id := "isinstance") call_isV (by rfl) T.n_isinstance (by decide +kernel) (pa_cons (pv 0) (pa_cons (pe_glob (v := .ref (He.ga K "NoName")) (by rfl) T.g_NoName rfl) pa_nil))) pa_nil))))
      (pss_one (ps_ret (pe_lc (own := [("_law_k", 2)]) (g := gName 2) (by rfl) sc__law_refusal.nd (pi_range1 (by rfl) T.n_range (pa_cons pe_int pa_nil)) (blkOk_by (own := [("_law_k", 2)]) (N := N__law_refusal) (sc := defScope s__law_refusal) (by decide +kernel)) (fun _ _ _ _ _ => (pg_name (i := 2) sc__law_refusal.nd rfl (Or.inl rfl))) (fun _ _ _ _ _ => (pts_one (pt_val (pe_ix (ix_listK (K := K)) (pv 1) (pv 2) (fun _ _ => rfl))))) (fun _ _ _ _ _ => (pv 2)))))))))))), ?_⟩
    refine ⟨_, rfl, a, D, d, fs, _, _, _, rfl, hx, kc.xc, fun _ r => r, kc.je, _, rfl, iteF ?_⟩
    refine ⟨_, rfl, a, D, d, fs, _, _, _, rfl, hx, kc.xc, fun _ r => r, kc.ve, _, rfl, iteF ?_⟩
    have kind : ∀ {H' : Hp}, Same H H' → ExcAt H' a D d fs := fun s => hx.same s
    refine ⟨_, rfl, a, D, d, fs, _, _, _, rfl, kind (Same.refl _), kc.xc, fun _ r => r, kc.k0, _, rfl, a, D, d, fs, _, _, _, rfl, kind (Same.refl _), kc.xc, fun _ r => r, kc.k1, _, rfl, a, D, d, fs, _, _, _, rfl, kind (Same.refl _), kc.xc, fun _ r => r, kc.k2, (by show 3 ≤ sizeLine; decide), fun q0 H0 n0 s0 h0 => ?_⟩
    refine ⟨_, rfl, _, rfl, a, D, d, fs, _, _, _, rfl, kind s0, kc.xc, fun _ r => r, kc.k3, _, rfl, a, D, d, fs, _, _, _, rfl, kind s0, kc.xc, fun _ r => r, kc.k4, _, rfl, a, D, d, fs, _, _, _, rfl, kind s0, kc.xc, fun _ r => r, kc.k5, (by show 3 ≤ sizeLine; decide), fun p1 G1 m1 r1 g1 => ?_⟩
    refine ⟨q0, p1, _, _, rfl, rfl, SqL.of (r1 _ _ h0), SqL.of g1, (by show 3 + 3 ≤ sizeLine; decide), fun q1 H1 n1 t1 h1 => ?_⟩
    have s1 := (s0.trans r1).trans t1
    refine ⟨_, rfl, _, rfl, a, D, d, fs, _, _, _, rfl, kind s1, kc.xc, fun _ r => r, kc.k6, _, rfl, a, D, d, fs, _, _, _, rfl, kind s1, kc.xc, fun _ r => r, kc.k7, _, rfl, a, D, d, fs, _, _, _, rfl, kind s1, kc.xc, fun _ r => r, kc.k8, (by show 3 ≤ sizeLine; decide), fun p2 G2 m2 r2 g2 => ?_⟩
    refine ⟨q1, p2, _, _, rfl, rfl, SqL.of (r2 _ _ h1), SqL.of g2, (by show 6 + 3 ≤ sizeLine; decide), fun q2 H2 n2 t2 h2 => ?_⟩
    have s2 := (s1.trans r2).trans t2
    refine ⟨_, rfl, _, rfl, a, D, d, fs, _, _, _, rfl, kind s2, kc.xc, fun _ r => r, kc.k9, _, rfl, a, D, d, fs, _, _, _, rfl, kind s2, kc.xc, fun _ r => r, kc.k10, _, rfl, a, D, d, fs, _, _, _, rfl, kind s2, kc.xc, fun _ r => r, kc.k11, (by show 3 ≤ sizeLine; decide), fun p3 G3 m3 r3 g3 => ?_⟩
    refine ⟨q2, p3, _, _, rfl, rfl, SqL.of (r3 _ _ h2), SqL.of g3, (by show 9 + 3 ≤ sizeLine; decide), fun q3 H3 n3 t3 h3 => ?_⟩
    have s3 := (s2.trans r3).trans t3
    refine ⟨_, rfl, _, rfl, a, D, d, fs, _, _, _, rfl, kind s3, kc.xc, fun _ r => r, kc.k12, (by show 1 ≤ sizeLine; decide), fun p4 G4 m4 r4 g4 => ?_⟩
    refine ⟨q3, p4, _, _, rfl, rfl, SqL.of (r4 _ _ h3), SqL.of g4, (by show 12 + 1 ≤ sizeLine; decide), fun q4 H4 n4 t4 h4 => ?_⟩
    have s4 := (s3.trans r4).trans t4
    have h4 : H4 q4 = some (.lst ((List.range 13).map fun i => V.bl (decide (i = kk)))) := h4
    refine ⟨_, rfl, by decide, by decide, fun Dd hDd => lc_rangeM (n := 13) (lo := 0) (p := fun i => decide (i = kk)) (f := fun i : Nat => V.int (0 + (i : Int))) hDd (by decide) (fun i hi H' s' N M hM hN => ?_) (fun H5 s5 hL => ?_)⟩
    · have at_ : atI ((List.range 13).map fun i => V.bl (decide (i = kk))) (0 + (i : Int)) = some (V.bl (decide (i = kk))) := by
        rw [Int.zero_add]
        exact atm (f := fun i => V.bl (decide (i = kk))) (List.getElem?_range hi)
      refine ⟨rfl, _, rfl, _, rfl, q4, _, _, _, rfl, rfl, SqL.of (s' _ _ h4), at_, _, rfl, ?_⟩
      cases c : decide (i = kk) with
      | true => exact iteT ⟨_, rfl, hM c⟩
      | false => exact iteF (hN c)
    · have ef : (List.range 13).filter (fun i => decide (i = kk)) = [kk] := by
        have key : ∀ k : Nat, k < 13 → (List.range 13).filter (fun i => decide (i = k)) = [k] := by decide
        exact key kk kl
      rw [ef] at hL
      have hL' : H5 Dd = some (.lst [.int (kk : Nat)]) := by
        rw [hL]
        show some (HO.lst [V.int (0 + (kk : Int))]) = _
        rw [Int.zero_add]
      exact k _ Dd (s4.trans s5) (s4.free hDd) hL'
end
end Jr
namespace Jr
open PySem PySem.Spec PyProof.Rows L2
section
variable {P : Program} {w : World} {K : PySem.W.Frag} {mg : Str → Option Value} {base : Heap}
def spKPiece (K : PySem.W.Frag) : Sp := fun vs H Q _ => ∃ (x dx f cu wb : Addr) (t : Str) (ys : List Str) (n : Nat), vs = [.ref x, .int (n : Nat)] ∧ H x = some (.ins (KC K) dx (kf f cu t wb)) ∧ H cu = some (.lst (ys.map V.str)) ∧ (flat ys).length = t.length ∧ t.length ≤ 1000 ∧ (∀ y ∈ ys, 1 ≤ y.length) ∧ n < t.length ∧
  ∀ k : Nat, k < ys.length → (flat (ys.take k)).length ≤ n → n < (flat (ys.take (k + 1))).length → Q (.int (k : Nat)) H
theorem met_kpiece (T : Tx K mg) : Met P w K mg base CX0 4 (KC K) "piece_at" (spKPiece K) := by
  have C_check_place := cal_check_place (P := P) (w := w) (base := base) T
  obtain ⟨fd, F⟩ := T.d_Kept_piece_at
  refine ⟨T.cl_Kept, _, fd, P_Kept_piece_at, F.ok sc_Kept_piece_at (fun vs H Q E h => ?_) (fun cdv A outer s H vs Q E hr h => ?_), T.m_Kept_piece_at, F.bindsN (ps := P_Kept_piece_at) fun _ _ _ _ _ _ us hl => match us, hl with | [_, _], _ => rfl⟩
  · obtain ⟨x, dx, f, cu, wb, t, ys, n, rfl, _⟩ := h
    rfl
  · obtain ⟨x, dx, f, cu, wb, t, ys, n, rfl, hx, hc, fl, tl, y1, hn, k⟩ := h
    refine ⟨_, (PSs.nox (pss_cons (ps_expr (pe_cal C_check_place (by first | exact hr | exact hr.mono (by decide)) (by rfl) (pa_cons (pv 1) (pa_cons (pe_op op_sub (pe_callB (id := "len") call_len_str (by rfl) T.n_len (by decide +kernel) (pa_cons (pe_fld (pv 0) rfl) pa_nil)) pe_int) pa_nil))))
      (pss_cons (ps_set (i := 2) sc_Kept_piece_at.nd rfl (Or.inl rfl) pe_int)
      (pss_cons (ps_set (i := 3) sc_Kept_piece_at.nd rfl (Or.inl rfl) (pe_callB (id := "len") call_len (by rfl) T.n_len (by decide +kernel) (pa_cons (pe_ix ix_list (pe_fld (pv 0) rfl) pe_int (fun _ _ => rfl)) pa_nil)))
      (pss_cons (ps_while PassesOwn.never (pt_cmpR op_le (pv 3) (pv 1) (nomark _)) (pss_cons (ps_aug (i := 2) sc_Kept_piece_at.nd rfl (Or.inl rfl) pe_int ip_add)
      (pss_one (ps_aug (i := 3) sc_Kept_piece_at.nd rfl (Or.inl rfl) (pe_callB (id := "len") call_len (by rfl) T.n_len (by decide +kernel) (pa_cons (pe_ix ix_list (pe_fld (pv 0) rfl) (pv 2) (fun _ _ => rfl)) pa_nil)) ip_add))))
      (pss_one (ps_ret (pv 2)))))))), ?_⟩
    have hys : ys ≠ [] := fun e => by rw [e] at fl; have : (flat ([] : List Str)).length = 0 := rfl; omega
    have tk1 : ∀ (i : Nat) (q : Str), ys[i]? = some q → (flat (ys.take (i + 1))).length = (flat (ys.take i)).length + q.length := fun i q hq => by
      rw [List.take_add_one, hq, flat_app, List.length_append]
      show _ + (flat [q]).length = _
      rw [flat_cons, List.length_append, len_cps]; rfl
    obtain ⟨y0, ey0⟩ : ∃ y0, ys[0]? = some y0 := by
      cases ys with
      | nil => exact absurd rfl hys
      | cons y0 ys => exact ⟨y0, rfl⟩
    have len1 : ∀ (i : Nat) (q : Str), ys[i]? = some q → q.length ≤ 1000 := fun i q hq => by
      have h1 := tk1 i q hq
      have h2 : (flat (ys.take (i + 1))).length ≤ (flat ys).length := by
        have e : flat ys = flat (ys.take (i + 1)) ++ flat (ys.drop (i + 1)) := by rw [← flat_app, List.take_append_drop]
        rw [e, List.length_append]; omega
      omega
    refine ⟨_, rfl, _, rfl, x, _, dx, _, _, rfl, hx, T.cl_Kept, T.no_Kept_held_text, kf_t _ _ _ _, t, rfl, sz (by omega), _, _, rfl, rfl, _, _, rfl, by omega, by omega, ?_⟩
    refine ⟨_, rfl, x, _, dx, _, _, rfl, hx, T.cl_Kept, T.no_Kept_held_cutting, kf_c _ _ _ _, cu, _, _, _, rfl, rfl, SqL.of hc, atm (f := V.str) ey0, ?_⟩
    have fy0 : (flat (ys.take 1)).length = y0.length := by
      have h0 : (flat (ys.take 1)).length = (flat (ys.take 0)).length + y0.length := tk1 0 y0 ey0
      have e0 : (flat (ys.take 0)).length = 0 := rfl
      omega
    have yl := (List.getElem?_eq_some_iff.mp ey0).1
    refine ⟨.str y0, y0.length, rfl, ⟨sz (by have := len1 0 y0 ey0; omega), rfl⟩, ?_⟩
    refine while_by (fun σ H' => ∃ (k e : Nat), σ = [some (.ref x), some (.int (n : Nat)), some (.int (k : Nat)), some (.int (e : Nat))] ∧ H' = H ∧ k < ys.length ∧ (flat (ys.take k)).length ≤ n ∧ e = (flat (ys.take (k + 1))).length)
      (fun σ _ => match σ with | [_, _, some (.int i), _] => ys.length - i.toNat | _ => 0) ⟨0, y0.length, rfl, rfl, yl, by rw [List.take_zero]; exact Nat.zero_le _, fy0.symm⟩ ?_ ?_
    · rintro σ H' ⟨j, e, rfl, rfl, hj, h1, he⟩
      refine ⟨_, rfl, _, rfl, _, _, rfl, rfl, _, rfl, ite2 (fun c => ?_) (fun c => ?_)⟩
      · have c' : e ≤ n := by
          have := of_decide_eq_true c
          omega
        have hj2 : j + 1 < ys.length := by
          rcases Nat.lt_or_ge (j + 1) ys.length with h | h
          · exact h
          · rw [List.take_of_length_le h] at he
            omega
        obtain ⟨q, hq⟩ : ∃ q, ys[j + 1]? = some q := ⟨_, List.getElem?_eq_getElem hj2⟩
        have e2 := tk1 (j + 1) q hq
        refine ⟨_, rfl, _, _, rfl, rfl, ?_⟩
        refine ⟨_, rfl, _, rfl, x, _, dx, _, _, rfl, hx, T.cl_Kept, T.no_Kept_held_cutting, kf_c _ _ _ _, _, rfl, cu, _, _, _, rfl, rfl, SqL.of hc, ?_, .str q, q.length, rfl, ⟨sz (by have := len1 _ q hq; omega), rfl⟩, ?_⟩
        · show atI _ (((j : Nat) : Int) + 1) = _
          rw [show ((j : Nat) : Int) + 1 = ((j + 1 : Nat) : Int) by omega]
          exact atm (f := V.str) hq
        · refine ⟨_, _, rfl, rfl, ⟨j + 1, e + q.length, rfl, rfl, hj2, by omega, by omega⟩, ?_⟩
          show ys.length - (((j : Nat) : Int) + 1).toNat < ys.length - ((j : Nat) : Int).toNat
          omega
      · have c' : n < e := by
          have : ¬ ((e : Int) ≤ (n : Int)) := fun h => c (decide_eq_true h)
          omega
        exact ⟨_, rfl, k j hj h1 (by omega)⟩
    · intro σ H' Q1 Q2 himp hh
      obtain ⟨v1, g1, v2, g2, i, j, e1, e2, b, eb, q⟩ := hh
      exact ⟨v1, g1, v2, g2, i, j, e1, e2, b, eb, himp _ _ q⟩
end
end Jr
namespace Jr
open PySem PySem.Spec PyProof.Rows L2
/-! ### a method's call as the element of a comprehension: its reading by a name, so that it is found -/
def tMet (C : Addr) (m : Str) (ta : TE) (t : TA) (sp : Sp) : TE := fun σ H Q => ta σ H fun x H1 => ∃ a dx fs, x = .ref a ∧ H1 a = some (.ins C dx fs) ∧ fs.lookup m = none ∧ t σ H1 fun vs H2 => sp (x :: vs) H2 Q E0
theorem pe_metT {X : Cx} {k : Nat} {sp : Sp} {e : Expr} {es : List Expr} {t : TA} {pos apos : Pos} {C : Addr} {m : Str} {o : Expr} {ta : TE} {pl : Sem Bool} (F : Met X.prog X.w X.K X.mg X.base CX0 k C m sp) (ho : PE X o ta) (hr : Room k X.A) (ha : PA X (e :: es) t)
    (hc : eval (.Call (.Attribute o m apos) (e :: es) [] pos) X.env = (do
      let ov ← eval o X.env
      standAt apos.atName
      let (f, first) ← holding [ov] (getMethod ov m pl)
      callWith pos f first (backTo pos (starEach (e :: es) X.env)) (backToKw pos (keywordEach [] X.env))) := by rfl)
    (he : starEach (e :: es) X.env = (false, eval e X.env) :: starEach es X.env := by rfl) (hpl : (backTo pos (starEach es X.env)).any (·.1) = false := by rfl) :
    PE X (.Call (.Attribute o m apos) (e :: es) [] pos) (tMet C m ta t sp) := pe_met F ho hr ha hc he hpl
/-- a list's method as the element of a comprehension -/
theorem pe_bmT {X : Cx} {K0 : PySem.W.Frag} {o e : Expr} {es : List Expr} {to : TE} {t : TA} {name : Str} {apos cpos : Pos} {T id : String} {r : V → List V → Hp → VK → Prop} (hK : X.K = K0) (pa : PlainAttrs T) (slot : Slot T name id) (hty : typeOf (.builtin id) = pure (.type "method_descriptor")) (hm : MtR X id r) (ho : PE X o to) (ha : PA X (e :: es) t)
    (hbase : attributeBase o name X.env (eval o X.env) = eval o X.env := by rfl)
    (hfew : ((backTo cpos (starEach (e :: es) X.env)).all (fun x => !x.1) && (backToKw cpos (keywordEach [] X.env)).all (fun x => x.1.isSome)
      && decide ((e :: es).length + ([] : List Keyword).length + (if ([] : List Keyword).isEmpty then 0 else 1) < 30)) = true := by rfl)
    (hline : (apos.endLine == cpos.line) = true := by rfl) (hs : starEach (e :: es) X.env = (false, eval e X.env) :: starEach es X.env := by rfl) (hplain : (backTo cpos (starEach es X.env)).any (·.1) = false := by rfl) :
    PE X (.Call (.Attribute o name apos) (e :: es) [] cpos) (tBM K0 T r to t) := hK ▸ pe_bm pa slot hty hm ho ha hbase hfew hline hs hplain
/-- join as the element of a comprehension -/
theorem pe_joinT {X : Cx} {K0 : PySem.W.Frag} {o e : Expr} {to te : TE} {apos pos : Pos} (hK : X.K = K0) (ho : PE X o to) (he : PE X e te) (hs : starEach [e] X.env = [(false, eval e X.env)] := by rfl) (hbase : attributeBase o "join" X.env (eval o X.env) = eval o X.env := by rfl) (hline : (apos.endLine == pos.line) = true := by rfl) :
    PE X (.Call (.Attribute o "join" apos) [e] [] pos) (tM1 (fun x xs H Q => ∃ a p, ∃ ys : List Str, x = .str a ∧ xs = [.ref p] ∧ (SqL K0 H p (ys.map V.str) ∨ SqT K0 H p (ys.map V.str)) ∧
      (ys.map (·.length)).sum + ys.length * a.length ≤ 16777216 ∧ Q (.str (Txt.join a ys)) H) to te) := hK ▸ pe_join ho he hs hbase hline
theorem mt_indexT {X : Cx} {K0 : PySem.W.Frag} (hK : X.K = K0) : MtR X "list.index" (rIndex K0) := hK ▸ mt_index
end Jr
namespace Jr
open PySem PySem.Spec PyProof.Rows L2
/-! ### a call as the element of a comprehension: its reading by a name, so that it is found -/
def tCal (t : TA) (sp : Sp) : TE := fun σ H Q => t σ H fun vs H1 => sp vs H1 Q E0
theorem pe_calT {X : Cx} {k : Nat} {x : Str} {sp : Sp} {e : Expr} {es : List Expr} {t : TA} {p pos : Pos} (F : Cal X.prog X.w X.K X.mg X.base CX0 k x sp) (hr : Room k X.A) (hg : Gl X x) (ha : PA X (e :: es) t) (hdb : (x == ("__debug__" : Str)) = false := by decide)
    (he : starEach (e :: es) X.env = (false, eval e X.env) :: starEach es X.env := by rfl) (hpl : (backTo pos (starEach es X.env)).any (·.1) = false := by rfl) :
    PE X (.Call (.Name x p) (e :: es) [] pos) (tCal t sp) := pe_cal F hr hg ha hdb he hpl
/-! ### comprehensions without a test whose elements are objects of some kind, each by a rule of its own -/
section
variable {α β : Type} {item : α → V} {R : α → β → Prop} {o : β → HO} {g : TG} {tt : TT} {te : TE} {vs : List Nat} {σ : L2.St} {H1 : Hp} {D : Addr} {Qd : Hp → Prop}
def ObjE (R : α → β → Prop) (o : β → HO) (H : Hp) (a : Addr) (x : α) : Prop := ∃ y, R x y ∧ H a = some (o y)
theorem ObjE.same {H H' : Hp} (s : Same H H') {as : List Addr} {l : List α} (h : Paired (ObjE R o H) as l) : Paired (ObjE R o H') as l := L2.Paired.mapP h fun _ _ ⟨y, h1, h2⟩ => ⟨y, h1, s _ _ h2⟩
def LcTurnE (item : α → V) (R : α → β → Prop) (o : β → HO) (g : TG) (tt : TT) (te : TE) (vs : List Nat) (σ : L2.St) (H1 : Hp) (x : α) : Prop :=
  ∀ (H' : Hp), Same H1 H' → ∀ (N : Hp → Prop) (M : V → Hp → Prop), (∀ y q H2, R x y → Same H' H2 → H2 q = some (o y) → M (.ref q) H2) →
    g (item x) (wipe σ vs) H' fun σ2 H2 => wipe σ2 vs = wipe σ vs ∧ tt σ2 H2 fun b H3 => if b = true then te σ2 H3 M else N H3
theorem lc_stepE {l : List α} {i : Nat} {x : α} {H : Hp} (hk : ∀ y xs, o y ≠ .lst xs) (hD : H1 D = none) (hx : l[i]? = some x) (hlen : l.length ≤ 90000) (turn : LcTurnE item R o g tt te vs σ H1 x)
    (sm : Same H1 H) (hL : ∃ as, H D = some (.lst (as.map V.ref)) ∧ Paired (ObjE R o H) as (l.take i)) :
    g (item x) (wipe σ vs) H fun σ2 H2 => wipe σ2 vs = wipe σ vs ∧ tt σ2 H2 fun b H3 =>
      if b = true then te σ2 H3 fun y H4 => ∃ acc, H4 D = some (.lst acc) ∧ acc.length < sizeLine ∧ (fun H' => Same H1 H' ∧ ∃ as, H' D = some (.lst (as.map V.ref)) ∧ Paired (ObjE R o H') as (l.take (i + 1))) (upd H4 D (.lst (acc ++ [y])))
      else (fun H' => Same H1 H' ∧ ∃ as, H' D = some (.lst (as.map V.ref)) ∧ Paired (ObjE R o H') as (l.take (i + 1))) H3 := by
  have e : l.take (i + 1) = l.take i ++ [x] := by rw [List.take_add_one, hx]; rfl
  obtain ⟨as, hA, hP⟩ := hL
  refine turn H sm _ _ (fun y q H2 hR s2 hq => ?_)
  have hA2 := s2 _ _ hA
  refine ⟨_, hA2, ?_, Same.mut (sm.trans s2) hD, as ++ [q], ?_, ?_⟩
  · have h2 : (l.take i).length ≤ i := by rw [List.length_take]; omega
    have h3 : i < l.length := (List.getElem?_eq_some_iff.mp hx).1
    have h4 := Paired.len hP
    rw [List.length_map]
    exact szl (by omega)
  · rw [upd_same, List.map_append]; rfl
  · rw [e]
    have hP2 : Paired (ObjE R o H2) (as ++ [q]) (l.take i ++ [x]) := Paired.app (ObjE.same s2 hP) (.cons ⟨y, hR, hq⟩ .nil)
    refine L2.Paired.mapP hP2 fun b x' ⟨y', h1, h2⟩ => ⟨y', h1, ?_⟩
    have hne : b ≠ D := fun eb => by
      rw [eb, hA2] at h2
      exact hk y' _ (Option.some.inj h2).symm
    rw [upd_ne hne]; exact h2
theorem lc_listE {K : PySem.W.Frag} {a : Addr} {l : List α} (hk : ∀ y xs, o y ≠ .lst xs) (hS : SqL K H1 a (l.map item)) (hD : H1 D = none) (hlen : l.length ≤ 90000) (turn : ∀ x ∈ l, LcTurnE item R o g tt te vs σ H1 x)
    (hd : ∀ H as, Same H1 H → H D = some (.lst (as.map V.ref)) → Paired (ObjE R o H) as l → Qd H) :
    ∃ W : Nat → Nat → Hp → Prop, (∃ m, W 0 m (upd H1 D (.lst []))) ∧ ∀ i m H, W i m H →
      ((Itl K a).stop i H ∧ Qd H) ∨ ((Itl K a).go i H ∧ ∃ Nx : Hp → Prop, (∀ H', Nx H' → ∃ m', m' < m ∧ W (i + 1) m' H') ∧ ∀ x H', (Itl K a).yld i H x H' → g x (wipe σ vs) H' fun σ2 H2 => wipe σ2 vs = wipe σ vs ∧ tt σ2 H2 fun b H3 =>
        if b = true then te σ2 H3 fun y H4 => ∃ acc, H4 D = some (.lst acc) ∧ acc.length < sizeLine ∧ Nx (upd H4 D (.lst (acc ++ [y]))) else Nx H3) := by
  refine lc_list (K := K) (a := a) (xs := l.map item) (fun i H => Same H1 H ∧ ∃ as, H D = some (.lst (as.map V.ref)) ∧ Paired (ObjE R o H) as (l.take i)) ⟨Same.new hD, [], upd_same, .nil⟩ (fun i H _ ⟨s, _⟩ => s.seq hS) ?_ ?_
  · rintro i x H hx ⟨sm, hL⟩
    rw [List.getElem?_map] at hx
    cases e : l[i]? with
    | none => rw [e] at hx; cases hx
    | some y =>
      rw [e] at hx
      cases hx
      exact lc_stepE hk hD e hlen (turn y (List.mem_of_getElem? e)) sm hL
  · rintro H ⟨sm, as, hA, hP⟩
    rw [List.length_map, List.take_length] at hP
    exact hd H as sm hA hP
theorem lc_rangeE {lo : Int} {n : Nat} {R : Nat → β → Prop} (hk : ∀ y xs, o y ≠ .lst xs) (hD : H1 D = none) (hlen : n ≤ 90000) (turn : ∀ i, i < n → LcTurnE (fun i : Nat => V.int (lo + i)) R o g tt te vs σ H1 i)
    (hd : ∀ H as, Same H1 H → H D = some (.lst (as.map V.ref)) → Paired (ObjE R o H) as (List.range n) → Qd H) :
    ∃ W : Nat → Nat → Hp → Prop, (∃ m, W 0 m (upd H1 D (.lst []))) ∧ ∀ i m H, W i m H →
      ((Itr lo n).stop i H ∧ Qd H) ∨ ((Itr lo n).go i H ∧ ∃ Nx : Hp → Prop, (∀ H', Nx H' → ∃ m', m' < m ∧ W (i + 1) m' H') ∧ ∀ y H', (Itr lo n).yld i H y H' → g y (wipe σ vs) H' fun σ2 H2 => wipe σ2 vs = wipe σ vs ∧ tt σ2 H2 fun b H3 =>
        if b = true then te σ2 H3 fun y H4 => ∃ acc, H4 D = some (.lst acc) ∧ acc.length < sizeLine ∧ Nx (upd H4 D (.lst (acc ++ [y]))) else Nx H3) := by
  refine lc_range (lo := lo) (n := n) (fun i H => Same H1 H ∧ ∃ as, H D = some (.lst (as.map V.ref)) ∧ Paired (ObjE R o H) as ((List.range n).take i)) ⟨Same.new hD, [], upd_same, .nil⟩ ?_ ?_
  · rintro i H hi ⟨sm, hL⟩
    exact lc_stepE (l := List.range n) (item := fun i : Nat => V.int (lo + i)) hk hD (by rw [List.getElem?_range hi]) (by rw [List.length_range]; exact hlen) (turn i hi) sm hL
  · rintro H ⟨sm, as, hA, hP⟩
    have e : (List.range n).take n = List.range n := by
      have := List.take_length (l := List.range n)
      rw [List.length_range] at this
      exact this
    rw [e] at hP
    exact hd H as sm hA hP
end
end Jr
namespace Jr
open PySem PySem.Spec PyProof.Rows L2
section
variable {P : Program} {w : World} {K : PySem.W.Frag} {mg : Str → Option Value} {base : Heap}
theorem kf_mund (f cu : Addr) (t : Str) (wb : Addr) : (kf f cu t wb).lookup ("under" : Str) = none := by kernel_rfl
/-- under a table of the same signs: a new one; else refused -/
def spUnder51 (K : PySem.W.Frag) : Sp := fun vs H Q E => ∃ (S : Hp) (M : List (Addr × HO)) (x dx f cu wb tt : Addr) (z z2 : Str) (rs rs2 : Rws) (t : Str) (ws : List V), vs = [.ref x, .ref tt] ∧ KeptF K S f z rs t cu ∧ TabAt (TC K) S tt z2 rs2 ∧ Reg S H (ktL K x dx f cu t wb ws ++ M) ∧ (∀ q ∈ ktL K x dx f cu t wb ws ++ M, Aside H q.2) ∧
  (SameZ z z2 → ∀ S' H' y dy f' cu' wb', Same S S' → KeptF K S' f' z2 rs2 t cu' → Reg S' H' (ktL K y dy f' cu' t wb' ws ++ (ktL K x dx f cu t wb ws ++ M)) → Q (.ref y) H') ∧ (¬ SameZ z z2 → Rz0 (CLd K) H E)
theorem metx_under51 (T : Tx K mg) : Met P w K mg base (L2.CX P w) 12 (KC K) "under" (spUnder51 K) := by
  have CX_check_same_signs := calx_check_same_signs (P := P) (w := w) (base := base) T
  have M_Kept_table := met_ktable2 (P := P) (w := w) (base := base) T
  have M_Kept_cut_by := met_kcutby (P := P) (w := w) (base := base) T
  obtain ⟨fd, F⟩ := T.d_Kept_under
  refine ⟨T.cl_Kept, _, fd, P_Kept_under, F.ok sc_Kept_under (fun vs H Q E h => ?_) (fun cdv A outer s H vs Q E hr h => ?_), T.m_Kept_under, F.bindsN (ps := P_Kept_under) fun _ _ _ _ _ _ us hl => match us, hl with | [_, _], _ => rfl⟩
  · obtain ⟨S, M, x, dx, f, cu, wb, tt, z, z2, rs, rs2, t, ws, rfl, _⟩ := h
    rfl
  · obtain ⟨S, M, x, dx, f, cu, wb, tt, z, z2, rs, rs2, t, ws, rfl, F, ta, rg, asd, k, kx⟩ := h
    refine ⟨_, (pss_cons (ps_expr (pe_calX CX_check_same_signs (by first | exact hr | exact hr.mono (by decide)) (by rfl) (takes_of rfl rfl rfl rfl) (pa_cons (pe_met0 M_Kept_table (pv 0) (by first | exact hr | exact hr.mono (by decide))) (pa_cons (pv 1) pa_nil))))
      (pss_one (ps_ret (pe_met M_Kept_cut_by (pv 0) (by first | exact hr | exact hr.mono (by decide)) (pa_cons (pv 1) pa_nil))))), ?_⟩
    have hx := rg.get (i := 0) rfl
    refine ⟨_, rfl, x, dx, _, rfl, hx, kf_mtb _ _ _ _, S, x, dx, f, cu, wb, z, rs, t, rfl, rg.same, F.fol, hx, fun tm tb => ?_⟩
    refine ⟨_, rfl, tm, tt, z, z2, rs, rs2, rfl, tb.same rg.same, ta.same rg.same, fun sm H1 s1 => ?_, fun n => ?_⟩
    · have rg1 := rg.step s1
      refine ⟨_, rfl, x, dx, _, rfl, rg1.get (i := 0) rfl, kf_mcb _ _ _ _, _, rfl, S, M, x, dx, f, cu, wb, tt, z2, rs2, t, ws, rfl, ta, sm.text F.tx, F.tl, rg1, fun q hq => (asd q hq).same s1, fun S2 H2 y dy f' cu' wb' sS F' r' => k sm S2 H2 y dy f' cu' wb' sS F' r'⟩
    · exact kx n
theorem kind_lead51 (T : Tx K mg) : KindC K (He.ga K "NoLead") 9 := ⟨T.xc_NoLead, T.kit_NoLead_JoinError, T.kit_NoLead_ValueError, T.kit_NoLead_NoTable, T.kit_NoLead_NoGrammar, T.kit_NoLead_NoCutting, T.kit_NoLead_NoSign, T.kit_NoLead_NoPiece, T.kit_NoLead_NoNumber, T.kit_NoLead_NoCount, T.kit_NoLead_NoText, T.kit_NoLead_NoPlace, T.kit_NoLead_NoLead, T.kit_NoLead_NoDeed, T.kit_NoLead_NoRow, T.kit_NoLead_NoName⟩
theorem kind_deed51 (T : Tx K mg) : KindC K (He.ga K "NoDeed") 10 := ⟨T.xc_NoDeed, T.kit_NoDeed_JoinError, T.kit_NoDeed_ValueError, T.kit_NoDeed_NoTable, T.kit_NoDeed_NoGrammar, T.kit_NoDeed_NoCutting, T.kit_NoDeed_NoSign, T.kit_NoDeed_NoPiece, T.kit_NoDeed_NoNumber, T.kit_NoDeed_NoCount, T.kit_NoDeed_NoText, T.kit_NoDeed_NoPlace, T.kit_NoDeed_NoLead, T.kit_NoDeed_NoDeed, T.kit_NoDeed_NoRow, T.kit_NoDeed_NoName⟩
def spRefused51 (K : PySem.W.Frag) : Sp := fun vs H Q _ => ∃ (S : Hp) (M : List (Addr × HO)) (x dx f cu wb tt : Addr) (n : Int) (z z2 : Str) (rs rs2 : Rws) (t : Str) (ws : List V), vs = [.ref x, .ref tt, .int n] ∧ KeptF K S f z rs t cu ∧ Reg S H (ktL K x dx f cu t wb ws ++ M) ∧
  ((n = 9 ∧ (∀ q ∈ ktL K x dx f cu t wb ws ++ M, Aside H q.2) ∧ TabAt (TC K) S tt z2 rs2 ∧ ¬ SameZ z z2) ∨ (n = 10 ∧ ws = [])) ∧ ∀ H', Same H H' → Q (.bl true) H'
theorem cal__law_refused (T : Tx K mg) : Cal P w K mg base CX0 13 "_law_refused" (spRefused51 K) := by
  have MX_Kept_under := metx_under51 (P := P) (w := w) (base := base) T
  have MX_Kept_undo := metx_kundo (P := P) (w := w) (base := base) T
  have C__law_refusal := cal__law_refusal (P := P) (w := w) (base := base) T
  obtain ⟨fd, F⟩ := T.d__law_refused
  refine ⟨_, fd, P__law_refused, F.ok sc__law_refused (fun vs H Q E h => ?_) (fun cdv A outer s H vs Q E hr h => ?_), T.g__law_refused, F.kp, F.bindsN (ps := P__law_refused) fun _ _ _ _ _ _ us hl => match us, hl with | [_, _, _], _ => rfl⟩
  · obtain ⟨S, M, x, dx, f, cu, wb, tt, n, z, z2, rs, rs2, t, ws, rfl, _⟩ := h
    rfl
  · obtain ⟨S, M, x, dx, f, cu, wb, tt, n, z, z2, rs, rs2, t, ws, rfl, F, rg, hh, k⟩ := h
    refine ⟨_, (PSs.nox (pss_cons (ps_set (i := 3) sc__law_refused.nd rfl (Or.inl rfl) pe_non)
      (pss_cons (ps_try_keep (i := 4) rfl rfl sc__law_refused.nd rfl rfl rfl ⟨rfl, by decide, .inl T.g_JoinError⟩ takes0 (fun W pn xe tk _ => (pss_one (ps_if (pt_cmpR op_eq (pv 2) pe_int (nomark _)) (pss_one (ps_expr (pe_metX MX_Kept_under (pv 0) (by first | exact hr | exact hr.mono (by decide)) tk (pa_cons (pv 1) pa_nil)))) (pss_one (ps_expr (pe_metX0 MX_Kept_undo (pv 0) (by first | exact hr | exact hr.mono (by decide)) tk)))))) (fun a oe cls d pn hz hf => (pss_one (ps_set (i := 3) sc__law_refused.nd rfl (Or.inl rfl) (pv 4)))))
      (pss_one (ps_ret (pe_and (pe_cmpR op_notN (pv 3) pe_non (nomark _)) (pe_one (pe_cmpR (op_eqD hr.units) (pe_cal C__law_refusal (by first | exact hr | exact hr.mono (by decide)) (by rfl) (pa_cons (pv 3) pa_nil)) (pe_lstG (pa_cons (pv 2) pa_nil)) (nomark _))))))))), ?_⟩
    have hx := rg.get (i := 0) rfl
    rcases hh with ⟨rfl, asd, ta, nsm⟩ | ⟨rfl, rfl⟩
    · refine ⟨_, rfl, rfl, _, rfl, iteT ?_⟩
      refine ⟨_, rfl, x, dx, _, rfl, hx, kf_mund _ _ _ _, _, rfl, S, M, x, dx, f, cu, wb, tt, z, z2, rs, rs2, t, ws, rfl, F, ta, rg, asd, fun c' => absurd c' nsm, fun _ H1 s1 => ?_⟩
      refine ⟨true, T.exm_NoLead_JoinError, fun _ a na => ?_, fun q => nomatch q⟩
      have hxv : ExcAt (upd H1 a (ExV (.ref (CLd K)) none a)) a (CLd K) none [] := ⟨upd_same, .inl ⟨rfl, rfl⟩⟩
      have s2 := Same.new (o := ExV (.ref (CLd K)) none a) na
      refine ⟨_, rfl, _, rfl, rfl, _, rfl, iteT ?_⟩
      refine ⟨_, rfl, a, _, _, _, 9, rfl, hxv, kind_lead51 T, by decide, fun H2 q s3 nq hq => ?_⟩
      refine ⟨_, rfl, (by show 1 ≤ sizeLine; decide), fun q2 H3 nq2 s4 hq2 => ?_⟩
      refine ⟨_, _, dpI (xs := [9]) (SqL.of (s4 _ _ hq)), dpI (xs := [9]) (SqL.of hq2), shI _, shI _, ?_⟩
      rw [eqI, decide_eq_true rfl]
      exact k _ (((s1.trans s2).trans s3).trans s4)
    · refine ⟨_, rfl, rfl, _, rfl, iteF ?_⟩
      refine ⟨_, rfl, x, dx, _, rfl, hx, kf_mun _ _ _ _, S, x, dx, f, cu, wb, z, rs, t, [], M, rfl, F, rg, .inl ⟨rfl, fun H1 s1 => ?_⟩⟩
      refine ⟨true, T.exm_NoDeed_JoinError, fun _ a na => ?_, fun q => nomatch q⟩
      have hxv : ExcAt (upd H1 a (ExV (.ref (CDeed K)) none a)) a (CDeed K) none [] := ⟨upd_same, .inl ⟨rfl, rfl⟩⟩
      have s2 := Same.new (o := ExV (.ref (CDeed K)) none a) na
      refine ⟨_, rfl, _, rfl, rfl, _, rfl, iteT ?_⟩
      refine ⟨_, rfl, a, _, _, _, 10, rfl, hxv, kind_deed51 T, by decide, fun H2 q s3 nq hq => ?_⟩
      refine ⟨_, rfl, (by show 1 ≤ sizeLine; decide), fun q2 H3 nq2 s4 hq2 => ?_⟩
      refine ⟨_, _, dpI (xs := [10]) (SqL.of (s4 _ _ hq)), dpI (xs := [10]) (SqL.of hq2), shI _, shI _, ?_⟩
      rw [eqI, decide_eq_true rfl]
      exact k _ (((s1.trans s2).trans s3).trans s4)
theorem kf_mpi51 (f cu : Addr) (t : Str) (wb : Addr) : (kf f cu t wb).lookup ("piece_at" : Str) = none := by kernel_rfl
theorem getD_all51 (D : List Nat) : (List.range D.length).map (fun j => V.int ((D.getD j 0 : Nat) : Int)) = (D.map fun n : Nat => (n : Int)).map V.int := by
  rw [List.map_map]
  apply List.ext_getElem
  · simp
  · intro i h1 h2
    simp only [List.length_map, List.length_range] at h1
    simp [List.getD_eq_getElem?_getD, List.getElem?_eq_getElem h1]
def spPlaces51 (K : PySem.W.Frag) : Sp := fun vs H Q _ => ∃ (x dx f cu wb p : Addr) (z : Str) (rs : Rws) (t : Str), vs = [.ref x, .ref p, .str t] ∧ H x = some (.ins (KC K) dx (kf f cu t wb)) ∧ H cu = some (.lst ((sweep rs t).map V.str)) ∧ RowsAt H p rs ∧ TabOk z rs ∧ TextOf z t ∧ t.length ≤ 1000 ∧ ∀ H', Same H H' → Q (.bl true) H'
theorem cal__law_places (T : Tx K mg) : Cal P w K mg base CX0 6 "_law_places" (spPlaces51 K) := by
  have C__law_cut := cal__law_cut (P := P) (w := w) (base := base) T
  have C__law_whole := cal__law_whole (P := P) (w := w) (base := base) T
  have M_Kept_piece_at := met_kpiece (P := P) (w := w) (base := base) T
  obtain ⟨fd, F⟩ := T.d__law_places
  refine ⟨_, fd, P__law_places, F.ok sc__law_places (fun vs H Q E h => ?_) (fun cdv A outer s H vs Q E hr h => ?_), T.g__law_places, F.kp, F.bindsN (ps := P__law_places) fun _ _ _ _ _ _ us hl => match us, hl with | [_, _, _], _ => rfl⟩
  · obtain ⟨x, dx, f, cu, wb, p, z, rs, t, rfl, _⟩ := h
    rfl
  · obtain ⟨x, dx, f, cu, wb, p, z, rs, t, rfl, hx, hc, hR, tk, tx, tl, k⟩ := h
    refine ⟨_, (PSs.nox (pss_cons (ps_set (i := 3) sc__law_places.nd rfl (Or.inl rfl) (pe_lstG pa_nil))
      (pss_cons (ps_for PassesOwn.never rfl (pi_enum (by rfl) T.n_enumerate (pa_cons (pe_cal C__law_cut (by first | exact hr | exact hr.mono (by decide)) (by rfl) (pa_cons (pv 1) (pa_cons (pv 2) pa_nil))) pa_nil)) (pg_tup rfl (pgs_cons (pg_name (i := 4) sc__law_places.nd rfl (Or.inl rfl)) (pgs_cons (pg_name (i := 5) sc__law_places.nd rfl (Or.inl rfl)) pgs_nil))) (pss_one (ps_set (i := 3) sc__law_places.nd rfl (Or.inl rfl) (pe_op op_catG (pv 3) (pe_op op_repG (pe_lstG (pa_cons (pv 4) pa_nil)) (pe_callB (id := "len") call_len_str (by rfl) T.n_len (by decide +kernel) (pa_cons (pv 5) pa_nil)))))))
      (pss_cons (ps_setLc (i := 6) (own := [("_law_place", 7)]) (g := gName 7) (by rfl) sc__law_places.nd rfl rfl (sw_true rfl rfl rfl (by decide +kernel)) (pi_range1 (by rfl) T.n_range (pa_cons (pe_callB (id := "len") call_len_str (by rfl) T.n_len (by decide +kernel) (pa_cons (pv 2) pa_nil)) pa_nil)) (blkOk_by (own := [("_law_place", 7)]) (N := N__law_places) (sc := defScope s__law_places) (by decide +kernel)) (fun _ _ _ _ _ => (pg_name (i := 7) sc__law_places.nd rfl (Or.inl rfl))) (fun _ _ _ _ _ => pts_nil) (fun _ _ _ _ _ => (pe_metT M_Kept_piece_at (pv 0) (by first | exact hr | exact hr.mono (by decide)) (pa_cons (pv 7) pa_nil))))
      (pss_one (ps_ret (pe_and (pe_callB (id := "all") (cr_all rfl) (by rfl) T.n_all (by decide +kernel) (pa_cons (pe_lc (own := [("_law_one", 8)]) (g := gName 8) (by rfl) sc__law_places.nd (pi_list (pv 6)) (blkOk_by (own := [("_law_one", 8)]) (N := N__law_places) (sc := defScope s__law_places) (by decide +kernel)) (fun _ _ _ _ _ => (pg_name (i := 8) sc__law_places.nd rfl (Or.inl rfl))) (fun _ _ _ _ _ => pts_nil) (fun _ _ _ _ _ => (pe_calT C__law_whole (by first | exact hr | exact hr.mono (by decide)) (by rfl) (pa_cons (pv 8) pa_nil)))) pa_nil)) (pe_one (pe_cmpR (op_eqD hr.units) (pv 6) (pv 3) (nomark _)))))))))), ?_⟩
    have l1 : (sweep rs t).length ≤ t.length := by
      have := passAll_len rs (sgs t)
      rw [sgs_len] at this
      exact this
    have ft : (flat (sweep rs t)).length = t.length := by unfold sweep; rw [passAll_flat, flat_sgs, len_cps]
    have plen : ∀ y ∈ sweep rs t, 1 ≤ y.length ∧ y.length ≤ 16 := fun y hy => tk.plen (sweep_pc tx hy)
    refine ⟨(by show 0 ≤ sizeLine; decide), fun du0 H3 ndu0 s3 hdu0 => ?_⟩
    refine ⟨_, rfl, _, rfl, p, z, rs, t, rfl, hR.same s3, tk, tx, by omega, fun H4 cc s4 ncc hcc => ?_⟩
    have s14 := s3.trans s4
    refine ⟨cc, _, rfl, SqL.of hcc, for_enum (K := K) (a := cc) (xs := (sweep rs t).map V.str) (fun i σ H' => ∃ (du : Addr) (u5 u6 u7 u8 : Option V), σ = [some (.ref x), some (.ref p), some (.str t), some (.ref du), u5, u6, none, none, none] ∧ Same H4 H' ∧ H' du = some (.lst ((dueN 0 ((sweep rs t).take i)).map fun n : Nat => V.int (n : Int))))
      ⟨du0, _, _, none, none, rfl, Same.refl _, s4 _ _ hdu0⟩ (fun i σ H' _ ⟨_, _, _, _, _, _, s, _⟩ => SqL.of (s _ _ hcc)) ?_ ?_⟩
    · rintro i y e σ H' hi he ⟨du, u5, u6, u7, u8, rfl, sm, hdu⟩
      rw [List.getElem?_map] at hi
      cases ed : (sweep rs t)[i]? with
      | none => rw [ed] at hi; cases hi
      | some q =>
        rw [ed] at hi
        cases hi
        have il := (List.getElem?_eq_some_iff.mp ed).1
        have ql := (plen q (List.mem_of_getElem? ed)).2
        have sm1 := Same.new (o := .tup [.int (i : Nat), .str q]) he
        refine ⟨e, _, rfl, SqT.of upd_same, rfl, _, _, rfl, _, _, rfl, rfl, ?_⟩
        revert sm1
        generalize (upd H' e (.tup [.int (i : Nat), .str q])) = H5
        intro sm1
        refine ⟨_, rfl, _, rfl, (by show 1 ≤ sizeLine; decide), fun lA H6 nl1 s6 hl1 => ?_⟩
        refine ⟨_, rfl, q, rfl, sz (by omega), lA, _, _, rfl, rfl, hl1, by omega, by omega, ?_, fun l2 H7 nl2 s7 hl2 => ?_⟩
        · show 1 * ((q.length : Nat) : Int).toNat ≤ sizeLine
          exact sz (by omega)
        rw [rep_one] at hl2
        have sA := (sm1.trans s6).trans s7
        have hdu7 := sA _ _ hdu
        have dl := dueN_len 0 ((sweep rs t).take i)
        have fle : (flat ((sweep rs t).take i)).length ≤ t.length := by
          have e : flat (sweep rs t) = flat ((sweep rs t).take i) ++ flat ((sweep rs t).drop i) := by rw [← flat_app, List.take_append_drop]
          rw [← ft, e, List.length_append]; omega
        refine ⟨du, l2, _, _, rfl, rfl, SqL.of hdu7, SqL.of hl2, ?_, fun du2 H8 ndu2 s8 hdu2 => ?_⟩
        · rw [List.length_map, List.length_replicate]
          exact sz (by omega)
        refine ⟨du2, _, _, none, none, rfl, (sm.trans sA).trans s8, ?_⟩
        have et : (sweep rs t).take (i + 1) = (sweep rs t).take i ++ [q] := by rw [List.take_add_one, ed]; rfl
        rw [hdu2, et, dueN_snoc, List.map_append, List.map_replicate, List.length_take, Nat.min_eq_left (by omega)]
        show _ = some (HO.lst (_ ++ List.replicate q.length (V.int ((0 + i : Nat) : Int))))
        rw [Nat.zero_add]
        rfl
    · rintro σ H' ⟨du, u5, u6, u7, u8, rfl, sm, hdu⟩
      rw [List.length_map, List.take_length] at hdu
      have s0' := s14.trans sm
      have hx0 := s0' _ _ hx
      have hc0 := s0' _ _ hc
      obtain ⟨D, eD⟩ : ∃ D, D = dueN 0 (sweep rs t) := ⟨_, rfl⟩
      have dl : D.length = t.length := by rw [eD, dueN_len, ft]
      refine ⟨_, rfl, t, rfl, sz (by omega), _, rfl, (by omega), (by omega), fun D1 hD1 => ?_⟩
      rw [show (((t.length : Nat) : Int)).toNat = t.length by omega]
      refine lc_rangeC (lo := 0) (n := t.length) (p := fun _ => true) (f := fun j => V.int ((D.getD j 0 : Nat) : Int)) hD1 (by omega) (fun j hj G5 g5 N M hM hN => ?_) (fun G5 g5 hL2 => ?_)
      · have hx5 := g5 _ _ hx0
        have hc5 := g5 _ _ hc0
        refine ⟨rfl, _, rfl, x, dx, _, rfl, hx5, kf_mpi51 _ _ _ _, _, rfl, x, dx, f, cu, wb, t, sweep rs t, j, ?_, hx5, hc5, ft, tl, fun y hy => (plen y hy).1, hj, fun kk kl h1 h2 => ?_⟩
        · show [V.ref x, V.int (0 + ((j : Nat) : Int))] = _
          rw [Int.zero_add]
        have dg := dueN_get (sweep rs t) 0 kk j h1 h2
        rw [Nat.zero_add, ← eD] at dg
        have e1 : D.getD j 0 = kk := by rw [List.getD_eq_getElem?_getD, dg]; rfl
        have : M (V.int ((D.getD j 0 : Nat) : Int)) G5 := hM rfl G5 (Same.refl _)
        rw [e1] at this
        exact this
      · obtain ⟨DI, eDI⟩ : ∃ DI : List Int, DI = D.map fun n : Nat => (n : Int) := ⟨_, rfl⟩
        have hL3 : G5 D1 = some (.lst (DI.map V.int)) := by
          rw [hL2, List.filter_eq_self.mpr (fun _ _ => rfl), ← dl, getD_all51, eDI]
        have dil : DI.length = t.length := by rw [eDI, List.length_map, dl]
        refine ⟨_, rfl, D1, rfl, ⟨_, SqL.of hL3⟩, fun D2 hD2 => lc_listM (K := K) (item := V.int) (p := fun _ => true) (f := fun _ => V.bl true) (l := DI) (SqL.of hL3) hD2 (by omega) (fun x' hx' G6 g6 N M hM _ => ?_) (fun G6 g6 hL4 => ?_)⟩
        · exact ⟨rfl, _, rfl, _, rfl, .inl ⟨_, rfl, hM rfl⟩⟩
        have ef : DI.filter (fun _ => true) = DI := List.filter_eq_self.mpr fun _ _ => rfl
        rw [ef] at hL4
        refine ⟨D2, List.replicate DI.length true, rfl, SqL.of ?_, ?_⟩
        · rw [hL4, map_rep, List.map_const']
        rw [show (List.replicate DI.length true).all id = true by simp]
        refine ⟨_, rfl, iteT ?_⟩
        have s56 := g5.trans g6
        have hdu6 : G6 du = some (.lst (DI.map V.int)) := by
          rw [s56 _ _ hdu, eDI, eD, List.map_map]; rfl
        refine ⟨_, rfl, _, rfl, _, _, dpI (SqL.of (g6 _ _ hL3)), dpI (SqL.of hdu6), shI _, shI _, ?_⟩
        rw [eqI, decide_eq_true rfl]
        exact k _ (s0'.trans s56)
end
end Jr
namespace Jr
open PySem PySem.Spec PyProof.Rows L2
section
variable {P : Program} {w : World} {K : PySem.W.Frag} {mg : Str → Option Value} {base : Heap}
/-- undo where there is a change to be undone -/
def spKUndo0 (K : PySem.W.Frag) : Sp := fun vs H Q _ => ∃ (S : Hp) (x dx f cu wb wy : Addr) (z : Str) (rs : Rws) (t put : Str) (ws0 : List V) (pl gn : Nat) (M : List (Addr × HO)), vs = [.ref x] ∧ KeptF K S f z rs t cu ∧ Reg S H (ktL K x dx f cu t wb (ws0 ++ [.ref wy]) ++ M) ∧
  S wy = some (.tup [.int (pl : Nat), .int (gn : Nat), .str put]) ∧ pl ≤ t.length ∧ gn ≤ t.length - pl ∧ put.length ≤ 1000 ∧ TextOf z put ∧ (chgT t pl gn put).length ≤ 1000 ∧
    ∀ S' H' tt cu', Same S S' → KeptF K S' f z rs (chgT t pl gn put) cu' → Reg S' H' (ktL K x dx f cu' (chgT t pl gn put) wb ws0 ++ M) → Q (.ref tt) H'
theorem met_kundo0 (T : Tx K mg) : Met P w K mg base CX0 10 (KC K) "undo" (spKUndo0 K) := by
  have M_Kept_do_change := met_kdo (P := P) (w := w) (base := base) T
  obtain ⟨fd, F⟩ := T.d_Kept_undo
  refine ⟨T.cl_Kept, _, fd, P_Kept_undo, F.ok sc_Kept_undo (fun vs H Q E h => ?_) (fun cdv A outer s H vs Q E hr h => ?_), T.m_Kept_undo, F.bindsN (ps := P_Kept_undo) fun _ _ _ _ _ _ us hl => match us, hl with | [_], _ => rfl⟩
  · obtain ⟨S, x, dx, f, cu, wb, wy, z, rs, t, put, ws0, pl, gn, M, rfl, _⟩ := h
    rfl
  · obtain ⟨S, x, dx, f, cu, wb, wy, z, rs, t, put, ws0, pl, gn, M, rfl, F, rg, hwy, h1, h2, h3, tp, cl, k⟩ := h
    refine ⟨_, (PSs.nox (pss_cons (ps_if (pt_not (pt_truth (pe_fld (pv 0) rfl) (fun _ => rfl))) (pss_one ps_never) pss_nil)
      (pss_cons (ps_asg (pe_bm0 PySem.F.plainAttrs_list PySem.F.slot_list_pop PySem.F.type_list_pop mt_pop (pe_fld (pv 0) rfl)) (pg_tup rfl (pgs_cons (pg_name (i := 1) sc_Kept_undo.nd rfl (Or.inl rfl)) (pgs_cons (pg_name (i := 2) sc_Kept_undo.nd rfl (Or.inl rfl)) (pgs_cons (pg_name (i := 3) sc_Kept_undo.nd rfl (Or.inl rfl)) pgs_nil)))))
      (pss_one (ps_ret (pe_met M_Kept_do_change (pv 0) (by first | exact hr | exact hr.mono (by decide)) (pa_cons (pv 1) (pa_cons (pv 2) (pa_cons (pv 3) pa_nil))))))))), ?_⟩
    have hx := rg.get (i := 0) rfl
    have hw := rg.get (i := 1) rfl
    refine ⟨_, rfl, x, _, dx, _, _, rfl, hx, T.cl_Kept, T.no_Kept_ways_back, kf_w _ _ _ _, ?_⟩
    refine ⟨true, .inl ⟨_, SqL.of hw, (by simp)⟩, iteF ?_⟩
    have el : (ws0 ++ [V.ref wy])[(ws0 ++ [V.ref wy]).length - 1]? = some (V.ref wy) := by simp
    refine ⟨_, rfl, x, _, dx, _, _, rfl, hx, T.cl_Kept, T.no_Kept_ways_back, kf_w _ _ _ _, .inl ⟨rfl, _, SqL.of hw⟩, wb, _, _, rfl, rfl, hw, el, ?_⟩
    rw [List.dropLast_concat]
    have r2 := rg.set (i := 1) (a := wb) (o' := .lst ws0) rfl
    revert r2
    generalize (upd H wb (.lst ws0)) = H2
    intro r2
    have r2' : Reg S H2 (ktL K x dx f cu t wb ws0 ++ M) := r2
    refine ⟨wy, _, rfl, SqT.of (r2'.same _ _ hwy), rfl, _, _, rfl, _, _, rfl, _, _, rfl, rfl, ?_⟩
    have hx2 := r2'.get (i := 0) rfl
    exact ⟨_, rfl, x, dx, _, rfl, hx2, kf_mdo _ _ _ _, _, rfl, _, rfl, _, rfl, S, x, dx, f, cu, wb, z, rs, t, put, pl, gn, ws0, M, rfl, F, h1, h2, h3, tp, cl, r2', fun S3 H3 tt cu' sS3 _ _ F3 r3 => k S3 H3 tt cu' sS3 F3 r3⟩
end
end Jr
namespace Jr
open PySem PySem.Spec PyProof.Rows L2
section
variable {P : Program} {w : World} {K : PySem.W.Frag} {mg : Str → Option Value} {base : Heap}
def spCellAt (K : PySem.W.Frag) : Sp := fun vs H Q _ => ∃ (a : Addr) (ns : List Int) (k : Nat), vs = [.ref a, .int (k : Nat)] ∧ SqL K H a (ns.map V.int) ∧ ∀ c : Int, Q (.int c) H
theorem cal__law_cell_at (T : Tx K mg) : Cal P w K mg base CX0 1 "_law_cell_at" (spCellAt K) := by
  obtain ⟨fd, F⟩ := T.d__law_cell_at
  refine ⟨_, fd, P__law_cell_at, F.ok sc__law_cell_at (fun vs H Q E h => ?_) (fun cdv A outer s H vs Q E hr h => ?_), T.g__law_cell_at, F.kp, F.bindsN (ps := P__law_cell_at) fun _ _ _ _ _ _ us hl => match us, hl with | [_, _], _ => rfl⟩
  · obtain ⟨a, ns, i, rfl, _⟩ := h
    rfl
  · obtain ⟨a, ns, i, rfl, hS, k⟩ := h
    refine ⟨_, (PSs.nox (pss_cons (ps_if (pt_cmpR op_lt (pv 1) (pe_callB (id := "len") call_len_seq (by rfl) T.n_len (by decide +kernel) (pa_cons (pv 0) pa_nil)) (nomark _)) (pss_one (ps_ret (pe_ix ix_list (pv 0) (pv 1) (fun _ _ => rfl)))) pss_nil)
      (pss_one (ps_ret pe_int)))), ?_⟩
    refine ⟨_, rfl, _, rfl, _, _, rfl, .inl hS, _, _, rfl, rfl, _, rfl, ite2 (fun c => ?_) (fun c => k 0)⟩
    have c' : i < ns.length := by
      have := of_decide_eq_true c
      rw [List.length_map] at this
      omega
    exact ⟨_, rfl, _, rfl, _, _, _, _, rfl, rfl, hS, atm (f := V.int) (List.getElem?_eq_getElem c'), k _⟩
end
end Jr
namespace Jr
open PySem PySem.Spec PyProof.Rows L2
theorem ktL_ne51 {K : PySem.W.Frag} {x dx f cu wb sk : Addr} {t : Str} {ws ys : List V} (c : Chg) : ∀ q ∈ ktL K x dx f cu t wb ws ++ [(sk, HO.lst ys)], q.2 ≠ chO c := fun q hq e => by
  rcases List.mem_append.mp hq with h | h
  · rcases List.mem_cons.mp h with h | h
    · rw [h] at e; cases e
    · rw [List.mem_singleton.mp h] at e; cases e
  · rw [List.mem_singleton.mp h] at e; cases e
section
variable {P : Program} {w : World} {K : PySem.W.Frag} {mg : Str → Option Value} {base : Heap}
def spBegun51 (K : PySem.W.Frag) : Sp := fun vs H Q _ => ∃ (S : Hp) (a : Addr) (ns : List Int) (i : Nat) (lp x dx f cu wb : Addr) (z : Str) (rs : Rws) (t : Str), vs = [.ref a, .int (i : Nat), .ref lp, .ref x, .str t] ∧ i ≤ 63 ∧ SqL K S a (ns.map V.int) ∧ SqL K S lp ((pcs z rs).map V.str) ∧ KeptF K S f z rs t cu ∧ t.length ≤ 24 ∧ Reg S H (ktL K x dx f cu t wb []) ∧
  ∀ S' H' r sk cu' t' ws es as, Same S S' → KeptF K S' f z rs t' cu' → H' r = some (.tup [.ref sk, .str t']) → Paired (WbAt S') ws es → Paired (EnAt S') as es → Sk z t es t' → es.length ≤ 2 → Reg S' H' (ktL K x dx f cu' t' wb ws ++ [(sk, HO.lst (as.map V.ref))]) → Q (.ref r) H'
theorem cal__law_begun (T : Tx K mg) : Cal P w K mg base CX0 11 "_law_begun" (spBegun51 K) := by
  have C__law_cell_at := cal__law_cell_at (P := P) (w := w) (base := base) T
  have C__law_numbers := cal__law_numbers (P := P) (w := w) (base := base) T
  have C__law_drawn := cal__law_drawn (P := P) (w := w) (base := base) T
  have C__law_behind := cal__law_behind (P := P) (w := w) (base := base) T
  have M_Kept_change := met_kchange (P := P) (w := w) (base := base) T
  have M_Kept_undo := met_kundo0 (P := P) (w := w) (base := base) T
  obtain ⟨fd, F⟩ := T.d__law_begun
  refine ⟨_, fd, P__law_begun, F.ok sc__law_begun (fun vs H Q E h => ?_) (fun cdv A outer s H vs Q E hr h => ?_), T.g__law_begun, F.kp, F.bindsN (ps := P__law_begun) fun _ _ _ _ _ _ us hl => match us, hl with | [_, _, _, _, _], _ => rfl⟩
  · obtain ⟨S, a, ns, i, lp, x, dx, f, cu, wb, z, rs, t, rfl, _⟩ := h
    rfl
  · obtain ⟨S, a, ns, i, lp, x, dx, f, cu, wb, z, rs, t, rfl, hi, hS, hlp, F, tl, rg, k⟩ := h
    refine ⟨_, (PSs.nox (pss_cons (ps_set (i := 5) sc__law_begun.nd rfl (Or.inl rfl) (pe_lstG pa_nil))
      (pss_cons (ps_set (i := 6) sc__law_begun.nd rfl (Or.inl rfl) (pe_ix ix_list (pe_cal C__law_numbers (by first | exact hr | exact hr.mono (by decide)) (by rfl) (pa_cons (pe_cal C__law_cell_at (by first | exact hr | exact hr.mono (by decide)) (by rfl) (pa_cons (pv 0) (pa_cons (pe_op op_add (pv 1) pe_int) pa_nil))) (pa_cons (pe_op op_add pe_int (pv 1)) (pa_cons (pe_intsAs (ns := [3]) (pe_litI (ns := [3]) (pe_lst (pa_cons pe_int pa_nil)) (fun _ _ _ => rfl) (by decide)) (by decide)) pa_nil)))) pe_int (fun _ _ => rfl)))
      (pss_cons (ps_for PassesOwn.never rfl (pi_range1 (by rfl) T.n_range (pa_cons (pe_op op_add pe_int (pe_callTy (T := "int") call_int1 (by rfl) T.n_int (by decide +kernel) (pa_cons (pe_cmpR op_gt (pv 6) pe_int (nomark _)) pa_nil))) pa_nil)) (pg_name (i := 7) sc__law_begun.nd rfl (Or.inl rfl)) (pss_cons (ps_set (i := 8) sc__law_begun.nd rfl (Or.inl rfl) (pe_cal C__law_drawn (by first | exact hr | exact hr.mono (by decide)) (by rfl) (pa_cons (pe_cal C__law_cell_at (by first | exact hr | exact hr.mono (by decide)) (by rfl) (pa_cons (pv 0) (pa_cons (pe_op op_add (pe_op op_add (pv 1) pe_int) (pv 7)) pa_nil))) (pa_cons (pe_op op_add (pe_op op_add pe_int (pv 1)) (pv 7)) (pa_cons (pv 2) (pa_cons (pv 4) pa_nil))))))
      (pss_cons (ps_expr (pe_met M_Kept_change (pv 3) (by first | exact hr | exact hr.mono (by decide)) (pa_cons (pe_ix ix_tup (pv 8) pe_int (fun _ _ => rfl)) (pa_cons (pe_ix ix_tup (pv 8) pe_int (fun _ _ => rfl)) (pa_cons (pe_ix ix_tup (pv 8) pe_int (fun _ _ => rfl)) pa_nil)))))
      (pss_cons (ps_expr (pe_bm PySem.F.plainAttrs_list PySem.F.slot_list_append PySem.F.type_list_append mt_append (pv 5) (pa_cons (pe_tupG (pa_cons (pv 4) (pa_cons (pv 8) pa_nil))) pa_nil)))
      (pss_one (ps_set (i := 4) sc__law_begun.nd rfl (Or.inl rfl) (pe_cal C__law_behind (by first | exact hr | exact hr.mono (by decide)) (by rfl) (pa_cons (pv 4) (pa_cons (pv 8) pa_nil)))))))))
      (pss_cons (ps_if (pt_cmpR op_eq (pv 6) pe_int (nomark _)) (pss_cons (ps_expr (pe_met0 M_Kept_undo (pv 3) (by first | exact hr | exact hr.mono (by decide))))
      (pss_one (ps_set (i := 4) sc__law_begun.nd rfl (Or.inl rfl) (pe_ix ix_tup (pe_bm0 PySem.F.plainAttrs_list PySem.F.slot_list_pop PySem.F.type_list_pop mt_pop (pv 5)) pe_int (fun _ _ => rfl))))) pss_nil)
      (pss_one (ps_ret (pe_tupG (pa_cons (pv 5) (pa_cons (pv 4) pa_nil)))))))))), ?_⟩
    have tk := F.ok
    refine ⟨(by show 0 ≤ sizeLine; decide), fun sk H1 nsk s1 hsk => ?_⟩
    have rg1 := rg.new nsk s1 hsk
    refine ⟨_, rfl, _, rfl, _, _, rfl, rfl, a, ns, i + 6, rfl, rg1.same.seq hS, fun c0 => ?_⟩
    refine ⟨_, rfl, _, _, rfl, rfl, fun q1 H12 nq1 s12 hq1 => ?_⟩
    refine ⟨c0, _, q1, [3], rfl, ?_, ?_, SqL.of hq1, by decide, sizes_ok (by decide), fun H13 pd ds s13 hpd hD hds => ?_⟩
    · show (0 : Int) ≤ 5106 + ((i : Nat) : Int)
      omega
    · show 5106 + ((i : Nat) : Int) ≤ 100000
      omega
    obtain ⟨d0, e0, bd0, A0⟩ := dig hds (j := 0) rfl
    have bd0 : d0 < 3 := by omega
    refine ⟨pd, _, _, _, rfl, rfl, SqL.of hD, A0, ?_⟩
    have rg2 := (rg1.step s12).step s13
    obtain ⟨n, en, n1, n2⟩ : ∃ n : Nat, ((1 : Int) + (if decide ((0 : Int) < ((d0 : Nat) : Int)) = true then 1 else 0)).toNat = n ∧ 1 ≤ n ∧ n ≤ 2 := by
      refine ⟨_, rfl, ?_, ?_⟩ <;> split <;> omega
    refine ⟨_, rfl, _, _, rfl, rfl, .inr ⟨_, rfl, _, _, rfl, rfl, _, rfl, (by split <;> omega), (by split <;> omega), ?_⟩⟩
    rw [en]
    refine for_range (lo := 0) (n := n) (fun j σ H' => ∃ (S' : Hp) (cu' : Addr) (t' : Str) (ws : List V) (es : List En) (as : List Addr) (u7 u8 : Option V), σ = [some (.ref a), some (.int (i : Nat)), some (.ref lp), some (.ref x), some (.str t'), some (.ref sk), some (.int (d0 : Nat)), u7, u8] ∧ Same S S' ∧ KeptF K S' f z rs t' cu' ∧ Reg S' H' (ktL K x dx f cu' t' wb ws ++ [(sk, HO.lst (as.map V.ref))]) ∧ Paired (WbAt S') ws es ∧ Paired (EnAt S') as es ∧ Sk z t es t' ∧ es.length = j)
      ⟨S, cu, t, [], [], [], _, _, rfl, Same.refl _, F, rg2, .nil, .nil, .nil, rfl⟩ ?_ ?_
    · rintro j σ H2 hj ⟨S2, cu2, t2, ws, es, as, u7, u8, rfl, sS2, F2, rg2, hW, hE, st, el⟩
      obtain ⟨tx2, tl2⟩ := st.bound F.tx tl
      have al : as.length = es.length := Paired.len hE
      have wl : ws.length = es.length := Paired.len hW
      refine ⟨_, rfl, _, rfl, _, _, rfl, rfl, _, rfl, _, _, rfl, rfl, a, ns, i + 2 + j, ?_, (sS2.trans rg2.same).seq hS, fun c1 => ?_⟩
      · show [V.ref a, V.int (((i : Nat) : Int) + 2 + (0 + ((j : Nat) : Int)))] = _
        rw [show ((i : Nat) : Int) + 2 + (0 + ((j : Nat) : Int)) = ((i + 2 + j : Nat) : Int) by omega]
      refine ⟨_, rfl, _, _, rfl, rfl, _, rfl, _, _, rfl, rfl, _, rfl, _, rfl, c1, _, lp, z, rs, t2, rfl, ?_, ?_, (sS2.trans rg2.same).seq hlp, tk, tx2, tl2, fun H3 q c s3 hq ok => ?_⟩
      · show (0 : Int) ≤ 5102 + ((i : Nat) : Int) + (0 + ((j : Nat) : Int))
        omega
      · show 5102 + ((i : Nat) : Int) + (0 + ((j : Nat) : Int)) ≤ 100000
        omega
      obtain ⟨rg3, sS3⟩ := rg2.grow s3
      have hqS := out_of hq ((rg2.step s3).kind hq (ktL_ne51 c))
      revert rg3 sS3 hqS
      generalize (out H3 (ktL K x dx f cu2 t2 wb ws ++ [(sk, HO.lst (as.map V.ref))])) = S3
      intro rg3 sS3 hqS
      have ok1 := ok.ok
      have l1 : t2.length ≤ 24 := ok.len
      have l3 : c.put.length ≤ 64 := ok1.len
      have l2 : t2.length - c.gn + c.put.length ≤ 24 := ok.len2
      have cl := chgT_len t2 c.put ok1.pl ok1.gn
      have hx := rg3.get (i := 0) rfl
      have hqs := SqT.of (K := K) hq
      have F3 := F2.same sS3
      refine ⟨_, rfl, x, dx, _, rfl, hx, kf_mch _ _ _ _, ?_⟩
      refine ⟨_, rfl, q, _, _, _, rfl, rfl, hqs, rfl, _, rfl, q, _, _, _, rfl, rfl, hqs, rfl, _, rfl, q, _, _, _, rfl, rfl, hqs, rfl, ?_⟩
      refine ⟨S3, x, dx, f, cu2, wb, z, rs, t2, c.put, c.pl, c.gn, ws, _, rfl, F3, ok1.pl, ok1.gn, by omega, ok1.tx, by rw [cl]; exact Nat.le_trans l2 (by decide), by omega, rg3, fun S4 H4 tt cu4 wy sS4 hp4 nc F4 hwy rg4 => ?_⟩
      have hsk4 : H4 sk = some (.lst (as.map V.ref)) := rg4.at_ (sk, _) (List.mem_append_right _ List.mem_cons_self)
      refine ⟨_, rfl, .inl ⟨rfl, _, SqL.of hsk4⟩, _, rfl, _, rfl, (by show 2 ≤ sizeLine; decide), fun b H5 nb s5 hb => ?_⟩
      obtain ⟨rg5, sS5⟩ := rg4.grow s5
      have hbS := out_of hb (rg4.free nb)
      revert rg5 sS5 hbS
      generalize (out H5 (ktL K x dx f cu4 (chgT t2 c.pl c.gn c.put) wb (ws ++ [.ref wy]) ++ [(sk, HO.lst (as.map V.ref))])) = S5
      intro rg5 sS5 hbS
      have rg6 := rg5.set (i := 2) (a := sk) (o' := .lst (as.map V.ref ++ [V.ref b])) rfl
      refine ⟨sk, _, _, rfl, rfl, s5 _ _ hsk4, szl (by rw [List.length_map]; omega), ?_⟩
      have rg6 : Reg S5 (upd H5 sk (.lst (as.map V.ref ++ [V.ref b]))) (ktL K x dx f cu4 (chgT t2 c.pl c.gn c.put) wb (ws ++ [.ref wy]) ++ [(sk, HO.lst (as.map V.ref ++ [V.ref b]))]) := rg6
      revert rg6
      generalize (upd H5 sk (.lst (as.map V.ref ++ [V.ref b]))) = H6
      intro rg6
      have sS35 := sS4.trans sS5
      have sA := sS3.trans sS35
      have hq6 := rg6.same _ _ (sS35 _ _ hqS)
      refine ⟨_, rfl, _, rfl, t2, q, c, rfl, hq6, by omega, by omega, ?_⟩
      refine ⟨S5, cu4, chgT t2 c.pl c.gn c.put, ws ++ [.ref wy], es ++ [⟨t2, c⟩], as ++ [b], _, _, rfl, sS2.trans sA, F4.same sS5, ?_, Paired.app (WbAt.sames sA hW) (.cons ⟨wy, rfl, (show S5 wy = some (chO (backC t2 c)) from sS5 _ _ hwy)⟩ .nil), Paired.app (EnAt.sames sA hE) (.cons ⟨q, (show S5 b = some (.tup [.str t2, .ref q]) from hbS), (show S5 q = some (chO c) from sS35 _ _ hqS)⟩ .nil), .snoc st ok, by rw [List.length_append, el]; rfl⟩
      rw [show (as ++ [b]).map V.ref = as.map V.ref ++ [V.ref b] by simp]
      exact rg6
    · rintro σ H2 ⟨S2, cu2, t2, ws, es, as, u7, u8, rfl, sS2, F2, rg2, hW, hE, st, el⟩
      refine ⟨_, rfl, rfl, _, rfl, ite2 (fun _ => ?_) (fun _ => ?_)⟩
      · obtain ⟨es0, e, rfl⟩ : ∃ es0 e, es = es0 ++ [e] := by
          rcases List.eq_nil_or_concat es with h | ⟨es0, e, h⟩
          · rw [h] at el; simp at el; omega
          · exact ⟨es0, e, by rw [h, List.concat_eq_append]⟩
        obtain ⟨ws0, v, rfl, hW0, wy, rfl, hwy⟩ := paired_snoc51 hW
        obtain ⟨as0, a0, rfl, hE0, b0, hb1, hb2⟩ := paired_snoc51 hE
        obtain ⟨st0, eo, rfl⟩ := st.last
        obtain ⟨q1, q2, q3, q4, q5⟩ := eo.back
        have ol := eo.len
        have hx := rg2.get (i := 0) rfl
        refine ⟨_, rfl, x, dx, _, rfl, hx, kf_mun _ _ _ _, S2, x, dx, f, cu2, wb, wy, z, rs, e.new, _, ws0, _, _, _, rfl, F2, rg2, hwy, q1, q2, by omega, q4, by rw [q5]; omega, fun S3 H3 tt cu3 sS3 F3 rg3 => ?_⟩
        rw [q5] at F3 rg3
        have hsk3 : H3 sk = some (.lst ((as0 ++ [a0]).map V.ref)) := rg3.at_ (sk, _) (List.mem_append_right _ List.mem_cons_self)
        have gl : ((as0 ++ [a0]).map V.ref)[((as0 ++ [a0]).map V.ref).length - 1]? = some (V.ref a0) := by rw [List.map_append]; simp
        have dL : ((as0 ++ [a0]).map V.ref).dropLast = as0.map V.ref := by rw [List.map_append]; exact List.dropLast_concat
        refine ⟨_, rfl, .inl ⟨rfl, _, SqL.of hsk3⟩, sk, _, _, rfl, rfl, hsk3, gl, ?_⟩
        rw [dL]
        have rg4 := rg3.set (i := 2) (a := sk) (o' := .lst (as0.map V.ref)) rfl
        have rg4 : Reg S3 (upd H3 sk (.lst (as0.map V.ref))) (ktL K x dx f cu3 e.old wb ws0 ++ [(sk, HO.lst (as0.map V.ref))]) := rg4
        revert rg4
        generalize (upd H3 sk (.lst (as0.map V.ref))) = H4
        intro rg4
        refine ⟨a0, _, _, _, rfl, rfl, SqT.of (rg4.same _ _ (sS3 _ _ hb1)), rfl, ?_⟩
        refine ⟨_, rfl, _, rfl, (by show 2 ≤ sizeLine; decide), fun r H5 nr s5 hr => ?_⟩
        exact k S3 H5 r sk cu3 e.old ws0 es0 as0 (sS2.trans sS3) F3 hr (WbAt.sames sS3 hW0) (EnAt.sames sS3 hE0) st0 (by rw [List.length_append, List.length_singleton] at el; omega) (rg4.step s5)
      · refine ⟨_, rfl, _, rfl, (by show 2 ≤ sizeLine; decide), fun r H5 nr s5 hr => ?_⟩
        exact k S2 H5 r sk cu2 t2 ws es as sS2 F2 hr hW hE st (by omega) (rg2.step s5)
end
end Jr
namespace Jr
open PySem PySem.Spec PyProof.Rows L2
def some94 : Str := Str.ofString " !\"#$&'()*+,-./0123456789:;<=>?@ABCDEFGHIJKLMNOPQRSTUVWXYZ[\\]^_`" ++ Str.ofString "abcdefghijklmnopqrstuvwxyz{|}~"
theorem some94_len : some94.cps.toList.length = 94 := by decide +kernel
theorem some94_nd : some94.cps.toList.Nodup := by decide +kernel
theorem some94_ok : ∀ c ∈ some94.cps.toList, 32 ≤ c ∧ c ≤ 126 ∧ c ≠ 37 := by decide +kernel
def spSigns (K : PySem.W.Frag) : Sp := fun vs H Q _ => ∃ (a : Addr) (ds : List Int), vs = [.ref a] ∧ SqL K H a (ds.map V.int) ∧ ds.length ≤ 40 ∧ (∀ d ∈ ds, 0 ≤ d ∧ d < 94) ∧
  ∀ H' z, Same H H' → SignsOk z → z.length = ds.length → Q (.str z) H'
section
variable {P : Program} {w : World} {K : PySem.W.Frag} {mg : Str → Option Value} {base : Heap}
theorem cal__law_signs (T : Tx K mg) : Cal P w K mg base CX0 1 "_law_signs" (spSigns K) := by
  obtain ⟨fd, F⟩ := T.d__law_signs
  refine ⟨_, fd, P__law_signs, F.ok sc__law_signs (fun vs H Q E h => ?_) (fun cdv A outer s H vs Q E hr h => ?_), T.g__law_signs, F.kp, F.bindsN (ps := P__law_signs) fun _ _ _ _ _ _ us hl => match us, hl with | [_], _ => rfl⟩
  · obtain ⟨a, ds, rfl, _⟩ := h
    rfl
  · obtain ⟨a, ds, rfl, hS, hlen, hds, k⟩ := h
    refine ⟨_, (PSs.nox (pss_cons (ps_set (i := 1) sc__law_signs.nd rfl (Or.inl rfl) pe_str)
      (pss_cons (ps_set (i := 1) sc__law_signs.nd rfl (Or.inl rfl) (pe_op op_add_str (pv 1) pe_str))
      (pss_cons (ps_set (i := 2) sc__law_signs.nd rfl (Or.inr rfl) pe_str)
      (pss_cons (ps_for PassesOwn.never rfl (pi_list (pv 0)) (pg_name (i := 3) sc__law_signs.nd rfl (Or.inl rfl)) (pss_cons (ps_set (i := 4) sc__law_signs.nd rfl (Or.inl rfl) (pe_op op_add_str (pe_slice sl_str (pv 1) (po_some (pv 3)) po_none) (pe_slice sl_str (pv 1) po_none (po_some (pv 3)))))
      (pss_one (ps_set (i := 2) sc__law_signs.nd rfl (Or.inr rfl) (pe_op op_add_str (pv 2) (pe_ix ix_list (pe_lc (own := [("_law_sign", 5)]) (g := gName 5) (by rfl) sc__law_signs.nd (pi_str (pv 4)) (blkOk_by (own := [("_law_sign", 5)]) (N := N__law_signs) (sc := defScope s__law_signs) (by decide +kernel)) (fun _ _ _ _ _ => (pg_name (i := 5) sc__law_signs.nd rfl (Or.inl rfl))) (fun _ _ _ _ _ => (pts_one (pt_cmpR op_notIn_sign (pv 5) (pv 2) rfl))) (fun _ _ _ _ _ => (pv 5))) pe_int (fun _ _ => rfl)))))))
      (pss_one (ps_ret (pv 2)))))))), ?_⟩
    refine ⟨_, rfl, _, _, rfl, rfl, (by decide +kernel), ?_⟩
    refine ⟨_, rfl, a, rfl, ⟨_, hS⟩, for_list (K := K) (a := a) (xs := ds.map V.int) (fun i σ H' => ∃ (z : Str) (u v x : Option V), σ = [some (.ref a), some (.str some94), some (.str z), u, v, x] ∧ Same H H' ∧ SignsOk z ∧ z.length = i)
      ⟨Str.ofString "", none, none, none, rfl, Same.refl H, ⟨by decide +kernel, by decide +kernel⟩, by decide +kernel⟩ (fun i σ H' _ ⟨_, _, _, _, _, s, _⟩ => s.seq hS) ?_ ?_⟩
    · rintro i y σ H' hi ⟨z, u, v, x, rfl, sm, ok, ez⟩
      have hi2 : i < ds.length := by
        have q := (List.getElem?_eq_some_iff.mp hi).1
        rw [List.length_map] at q
        exact q
      obtain ⟨d, hd, rfl⟩ : ∃ d, d ∈ ds ∧ y = V.int d := by
        rw [List.getElem?_map, List.getElem?_eq_getElem hi2] at hi
        exact ⟨_, List.getElem_mem hi2, (Option.some.inj hi).symm⟩
      obtain ⟨d0, d1⟩ := hds d hd
      obtain ⟨n, rfl⟩ := Int.eq_ofNat_of_zero_le d0
      have hz94 : some94.length ≤ sizeLine := by decide +kernel
      have l94 : some94.length = 94 := by decide +kernel
      have lt : (cutS some94 (some (n : Int)) none).length + (cutS some94 none (some (n : Int))).length = 94 := by
        have e1 := cut_from some94 n
        have e2 := cut_to some94 n
        have l1 := congrArg List.length e1
        have l2 := congrArg List.length e2
        rw [len_cps, List.length_drop, some94_len] at l1
        rw [len_cps, List.length_take, some94_len] at l2
        omega
      refine ⟨_, rfl, _, rfl, _, rfl, _, rfl, hz94, _, rfl, _, rfl, _, rfl, _, rfl, hz94, _, _, rfl, rfl, (by rw [lt]; decide), ?_⟩
      obtain ⟨t, et⟩ : ∃ t : Str, t = cutS some94 (some (n : Int)) none ++ cutS some94 none (some (n : Int)) := ⟨_, rfl⟩
      have tp : t.cps.toList.Perm some94.cps.toList := by
        rw [et, app_cps, cut_from, cut_to]
        exact List.perm_append_comm.trans (List.Perm.of_eq (List.take_append_drop _ _))
      have tl : t.cps.toList.length = 94 := by rw [tp.length_eq, some94_len]
      refine ⟨_, rfl, _, rfl, t, by rw [et], fun D hD => lc_strM (p := fun c => !decide (c ∈ z.cps.toList)) (f := fun c => V.str (sgn c)) hD (by rw [tl]; decide) (fun c _ H2 _ N M hM hN => ?_) (fun H2 sm2 hL => ?_)⟩
      · refine ⟨rfl, _, rfl, _, rfl, _, _, rfl, rfl, _, rfl, ?_⟩
        by_cases hc : c ∈ z.cps.toList
        · rw [decide_eq_true hc]
          exact iteF (hN (by simp [hc]))
        · rw [decide_eq_false hc]
          exact iteT ⟨_, rfl, hM (by simp [hc])⟩
      · have hne : ∃ c r, t.cps.toList.filter (fun c => !decide (c ∈ z.cps.toList)) = c :: r := by
          cases e : t.cps.toList.filter (fun c => !decide (c ∈ z.cps.toList)) with
          | cons c r => exact ⟨c, r, rfl⟩
          | nil =>
            exfalso
            have all : ∀ c ∈ t.cps.toList, c ∈ z.cps.toList := fun c hc => by
              have q := List.filter_eq_nil_iff.mp e c hc
              simpa using q
            have q := pigeon t.cps.toList z.cps.toList (tp.symm.nodup some94_nd) all
            rw [tl, len_cps, ez] at q
            omega
        obtain ⟨c, r, er⟩ := hne
        have hc : c ∈ t.cps.toList ∧ ¬ c ∈ z.cps.toList := by
          have q : c ∈ t.cps.toList.filter (fun c => !decide (c ∈ z.cps.toList)) := by rw [er]; exact List.mem_cons_self
          have q2 := List.mem_filter.mp q
          exact ⟨q2.1, by simpa using q2.2⟩
        rw [er] at hL
        refine ⟨D, _, _, _, rfl, rfl, SqL.of hL, (show atI _ ((0 : Nat) : Int) = _ from ats rfl), _, _, rfl, rfl, ?_, ?_⟩
        · show z.length + 1 ≤ sizeLine
          exact sz (by omega)
        · refine ⟨_, _, _, _, rfl, sm.trans sm2, ⟨?_, ?_⟩, ?_⟩
          · rw [app_cps]
            show (z.cps.toList ++ [c]).Nodup
            rw [List.nodup_append]
            refine ⟨ok.nd, by simp, fun x hx y hy => ?_⟩
            rw [List.mem_singleton] at hy
            rw [hy]
            exact fun e => hc.2 (e ▸ hx)
          · intro x hx
            rw [app_cps] at hx
            rcases List.mem_append.mp hx with hx | hx
            · exact ok.ok x hx
            · have e : x = c := by simpa [sgn] using hx
              rw [e]
              exact some94_ok c (tp.mem_iff.mp hc.1)
          · rw [app_len, ez]; rfl
    · rintro σ H' ⟨z, u, v, x, rfl, sm, ok, ez⟩
      rw [List.length_map] at ez
      exact ⟨_, rfl, k _ z sm ok ez⟩
end
end Jr
namespace Jr
open PySem PySem.Spec PyProof.Rows L2
def spRows (K : PySem.W.Frag) : Sp := fun vs H Q _ => ∃ (z : Str) (a : Addr) (ds : List Int), vs = [.str z, .ref a] ∧ SqL K H a (ds.map V.int) ∧ ds.length ≤ 1000 ∧ SignsOk z ∧ 1 ≤ z.length ∧ z.length ≤ 12 ∧
  ∀ H' p rs, Same H H' → H p = none → RowsAt H' p rs → TabOk z rs → Q (.ref p) H'
section
variable {P : Program} {w : World} {K : PySem.W.Frag} {mg : Str → Option Value} {base : Heap}
theorem cal__law_rows (T : Tx K mg) : Cal P w K mg base CX0 1 "_law_rows" (spRows K) := by
  obtain ⟨fd, F⟩ := T.d__law_rows
  refine ⟨_, fd, P__law_rows, F.ok sc__law_rows (fun vs H Q E h => ?_) (fun cdv A outer s H vs Q E hr h => ?_), T.g__law_rows, F.kp, F.bindsN (ps := P__law_rows) fun _ _ _ _ _ _ us hl => match us, hl with | [_, _], _ => rfl⟩
  · obtain ⟨z, a, ds, rfl, _⟩ := h
    rfl
  · obtain ⟨z, a, ds, rfl, hS, hlen, so, z1, z12, k⟩ := h
    refine ⟨_, (PSs.nox (pss_cons (ps_set (i := 2) sc__law_rows.nd rfl (Or.inl rfl) (pe_callTy (T := "list") (call_list_str rfl) (by rfl) T.n_list (by decide +kernel) (pa_cons (pv 0) pa_nil)))
      (pss_cons (ps_set (i := 3) sc__law_rows.nd rfl (Or.inl rfl) (pe_lst pa_nil))
      (pss_cons (ps_for PassesOwn.never rfl (pi_range1 (by rfl) T.n_range (pa_cons (pe_op op_fdiv (pe_callB (id := "len") call_len_seq (by rfl) T.n_len (by decide +kernel) (pa_cons (pv 1) pa_nil)) pe_int) pa_nil)) (pg_name (i := 4) sc__law_rows.nd rfl (Or.inl rfl)) (pss_cons (ps_set (i := 5) sc__law_rows.nd rfl (Or.inl rfl) (pe_ix ix_list (pv 2) (pe_op op_mod (pe_ix ix_list (pv 1) (pe_op op_mul pe_int (pv 4)) (fun _ _ => rfl)) (pe_callB (id := "len") call_len_seq (by rfl) T.n_len (by decide +kernel) (pa_cons (pv 2) pa_nil))) (fun _ _ => rfl)))
      (pss_cons (ps_set (i := 6) sc__law_rows.nd rfl (Or.inl rfl) (pe_ix ix_list (pv 2) (pe_op op_mod (pe_ix ix_list (pv 1) (pe_op op_add (pe_op op_mul pe_int (pv 4)) pe_int) (fun _ _ => rfl)) (pe_callB (id := "len") call_len_seq (by rfl) T.n_len (by decide +kernel) (pa_cons (pv 2) pa_nil))) (fun _ _ => rfl)))
      (pss_one (ps_if (PW.pt (pw_and (pt_cmpR op_le (pe_callB (id := "len") call_len_str (by rfl) T.n_len (by decide +kernel) (pa_cons (pe_op op_add_str (pv 5) (pv 6)) pa_nil)) pe_int (nomark _)) (pw_and (pt_cmpR op_notIn_seq (pe_op op_add_str (pv 5) (pv 6)) (pv 2) rfl) (pw_and1 (pt_cmpR op_lt (pe_callB (id := "len") call_len_seq (by rfl) T.n_len (by decide +kernel) (pa_cons (pv 3) pa_nil)) pe_int (nomark _)))))) (pss_cons (ps_expr (pe_bm PySem.F.plainAttrs_list PySem.F.slot_list_append PySem.F.type_list_append mt_append (pv 3) (pa_cons (pe_tup (pa_cons (pv 5) (pa_cons (pv 6) pa_nil))) pa_nil)))
      (pss_one (ps_expr (pe_bm PySem.F.plainAttrs_list PySem.F.slot_list_append PySem.F.type_list_append mt_append (pv 2) (pa_cons (pe_op op_add_str (pv 5) (pv 6)) pa_nil))))) pss_nil)))))
      (pss_one (ps_ret (pv 3))))))), ?_⟩
    refine ⟨_, rfl, _, rfl, sz (by omega), fun q hq => ?_⟩
    refine ⟨Nat.zero_le _, fun p hp => ?_⟩
    have hpH : H p = none := by
      by_cases e : p = q
      · rw [e]; exact hq
      · rw [upd_ne e] at hp; exact hp
    have hqp : q ≠ p := fun e => by
      rw [← e, upd_same] at hp
      cases hp
    have s0 : Same H (upd (upd H q (.lst ((sgs z).map V.str))) p (.lst [])) := Same.mut (Same.new hq) hpH
    refine ⟨_, rfl, _, _, rfl, .inl (s0.seq hS), _, _, rfl, rfl, ⟨by decide, by decide⟩, _, rfl, ?_, ?_, ?_⟩
    · show -(2 ^ 62) ≤ (((ds.map V.int).length : Nat) : Int) / 2
      omega
    · show (((ds.map V.int).length : Nat) : Int) / 2 < 2 ^ 62
      rw [List.length_map]
      omega
    have en : ((((ds.map V.int).length : Nat) : Int) / 2).toNat = ds.length / 2 := by rw [List.length_map]; omega
    show ∃ W, _
    refine for_range (lo := 0) (n := ((((ds.map V.int).length : Nat) : Int) / 2).toNat) (fun i σ H' => ∃ (rs : Rws) (u v x : Option V), σ = [some (.str z), some (.ref a), some (.ref q), some (.ref p), u, v, x] ∧
      Same H H' ∧ H' q = some (.lst ((pcs z rs).map V.str)) ∧ RowsAt H' p rs ∧ TabOk z rs) ⟨[], none, none, none, rfl, s0, ?_, ⟨[], upd_same, .nil⟩, TabOk.nil so z1 z12⟩ ?_ ?_
    · rw [upd_ne hqp, upd_same]
      unfold pcs
      rw [List.map_nil, List.append_nil]
    · rintro i σ H' hi ⟨rs, u, v, x, rfl, sm, hq', ⟨as, hp', hrs⟩, tk⟩
      rw [en] at hi
      have hS' := sm.seq hS
      have pl : (pcs z rs).length = z.length + rs.length := pcs_len z rs
      have plm : ((pcs z rs).map V.str).length = z.length + rs.length := by rw [List.length_map, pl]
      have many := tk.many
      have dig : ∀ j : Nat, j < ds.length → ∃ d, atI (ds.map V.int) (j : Int) = some (V.int d) := fun j hj => ⟨ds[j], atm (List.getElem?_eq_getElem hj)⟩
      have pce : ∀ d : Int, ∃ x, x ∈ pcs z rs ∧ atI ((pcs z rs).map V.str) (d % (((pcs z rs).map V.str).length : Nat)) = some (V.str x) := fun d => by
        have h0 := Int.emod_nonneg d (show ((((pcs z rs).map V.str).length : Nat) : Int) ≠ 0 by omega)
        have h1 := Int.emod_lt_of_pos d (show (0 : Int) < (((pcs z rs).map V.str).length : Nat) by omega)
        obtain ⟨m, hm⟩ := Int.eq_ofNat_of_zero_le h0
        rw [hm]
        have hm2 : m < (pcs z rs).length := by omega
        exact ⟨(pcs z rs)[m], List.getElem_mem hm2, atm (List.getElem?_eq_getElem hm2)⟩
      have e1 : (2 : Int) * (0 + (i : Int)) = ((2 * i : Nat) : Int) := by omega
      have e2 : (2 : Int) * (0 + (i : Int)) + 1 = ((2 * i + 1 : Nat) : Int) := by omega
      obtain ⟨d1, hd1⟩ := dig (2 * i) (by omega)
      obtain ⟨d2, hd2⟩ := dig (2 * i + 1) (by omega)
      obtain ⟨x1, m1, a1⟩ := pce d1
      obtain ⟨x2, m2, a2⟩ := pce d2
      rw [← e1] at hd1
      rw [← e2] at hd2
      have pos : (0 : Int) < (((pcs z rs).map V.str).length : Nat) := by omega
      refine ⟨_, rfl, _, rfl, _, rfl, _, _, rfl, rfl, .inl ⟨by decide, by decide⟩, _, _, _, _, rfl, rfl, hS', hd1, _, rfl, _, _, rfl, .inl (SqL.of hq'), _, _, rfl, rfl, pos, _, _, _, _, rfl, rfl, SqL.of hq', a1, ?_⟩
      refine ⟨_, rfl, _, rfl, _, rfl, _, _, rfl, rfl, .inl ⟨by decide, by decide⟩, _, _, rfl, rfl, _, _, _, _, rfl, rfl, hS', hd2, _, rfl, _, _, rfl, .inl (SqL.of hq'), _, _, rfl, rfl, pos, _, _, _, _, rfl, rfl, SqL.of hq', a2, ?_⟩
      have l1 := tk.plen m1
      have l2 := tk.plen m2
      have la := app_len x1 x2
      have stay : ∀ {u' v' x' : Option V}, ∃ (rs : Rws) (u v x : Option V), [some (V.str z), some (.ref a), some (.ref q), some (.ref p), u', v', x'] = [some (.str z), some (.ref a), some (.ref q), some (.ref p), u, v, x] ∧
          Same H H' ∧ H' q = some (.lst ((pcs z rs).map V.str)) ∧ RowsAt H' p rs ∧ TabOk z rs := ⟨rs, _, _, _, rfl, sm, hq', ⟨as, hp', hrs⟩, tk⟩
      refine ⟨_, rfl, _, rfl, _, _, rfl, rfl, sz (by omega), _, rfl, sz (by omega), _, _, rfl, rfl, _, rfl, ite2 (fun c1 => ?_) (fun c1 => iteF stay)⟩
      refine ⟨_, rfl, _, rfl, _, _, rfl, rfl, sz (by omega), _, rfl, _, _, rfl, .inl (SqL.of hq'), rfl, flat_str _, _, rfl, ?_⟩
      show if (!inV (V.str (x1 ++ x2)) ((pcs z rs).map V.str)) = true then _ else _
      rw [inV_str]
      refine ite2 (fun c2 => ?_) (fun c2 => iteF stay)
      have c2' : ¬ (x1 ++ x2) ∈ pcs z rs := by simpa using c2
      refine ⟨_, rfl, _, _, rfl, .inl (SqL.of hp'), _, _, rfl, rfl, _, rfl, ite2 (fun c3 => ?_) (fun c3 => stay)⟩
      have c3' : rs.length < 24 := by
        have q1 := of_decide_eq_true c3
        rw [List.length_map, Paired.len hrs] at q1
        omega
      have c1' : (x1 ++ x2).length ≤ 16 := by
        have q1 := of_decide_eq_true c1
        omega
      refine ⟨_, rfl, .inl ⟨rfl, _, SqL.of hp'⟩, _, rfl, _, rfl, (by show 2 ≤ sizeLine; decide), fun t ht => ?_⟩
      have tp : t ≠ p := fun e => by rw [e, hp'] at ht; cases ht
      have tq : t ≠ q := fun e => by rw [e, hq'] at ht; cases ht
      have tH : H t = none := sm.free ht
      refine ⟨_, _, _, rfl, rfl, (by rw [upd_ne (Ne.symm tp)]; exact hp'), ?_, ?_⟩
      · rw [List.length_map, Paired.len hrs]
        exact szl (by omega)
      refine ⟨_, rfl, .inl ⟨rfl, _, SqL.of (show upd _ _ _ q = _ by rw [upd_ne hqp, upd_ne (Ne.symm tq)]; exact hq')⟩, _, rfl, _, rfl, _, _, rfl, rfl, sz (by omega), _, _, _, rfl, rfl, (by rw [upd_ne hqp, upd_ne (Ne.symm tq)]; exact hq'), szl (by omega), ?_⟩
      have ro : RowOk z rs (x1, x2) := ⟨m1, m2, c1', c2'⟩
      refine ⟨rs ++ [(x1, x2)], _, _, _, rfl, Same.mut (Same.mut (Same.put sm ht) hpH) hq, ?_, ⟨as ++ [t], ?_, ?_⟩, tk.snoc ro c3'⟩
      · rw [upd_same, pcs_snoc, List.map_append]
        rfl
      · rw [upd_ne (Ne.symm hqp), upd_same, List.map_append]
        rfl
      · refine Paired.snoc ?_ ?_
        · refine L2.Paired.mapP hrs fun b r hb => ?_
          show upd _ _ _ b = _
          have b1 : b ≠ q := fun e => by
            have hb2 : H' b = _ := hb
            rw [e, hq'] at hb2; cases hb2
          have b2 : b ≠ p := fun e => by
            have hb2 : H' b = _ := hb
            rw [e, hp'] at hb2; cases hb2
          rw [upd_ne b1, upd_ne b2, upd_ne (ne_of_none hb ht)]
          exact hb
        · show upd _ _ _ t = _
          rw [upd_ne tq, upd_ne tp, upd_same]
    · rintro σ H' ⟨rs, u, v, x, rfl, sm, hq', hp', tk⟩
      exact ⟨_, rfl, k _ p rs sm hpH hp' tk⟩
end
end Jr
namespace Jr
open PySem PySem.Spec PyProof.Rows L2
theorem turn_ok {z : Str} (h : SignsOk z) (n : Nat) : SignsOk (sufS z n ++ preS z n) ∧ (sufS z n ++ preS z n).length = z.length := by
  have e : (sufS z n ++ preS z n).cps.toList.Perm z.cps.toList := by
    rw [app_cps, sufS_cps, preS_cps]
    have := List.perm_append_comm (l₁ := z.cps.toList.drop n) (l₂ := z.cps.toList.take n)
    rwa [List.take_append_drop] at this
  exact ⟨⟨e.nodup_iff.mpr h.nd, fun c hc => h.ok c (e.mem_iff.mp hc)⟩, by rw [← len_cps, ← len_cps]; exact e.length_eq⟩
theorem suf_ok {z : Str} (h : SignsOk z) (n : Nat) : SignsOk (sufS z n) := ⟨by rw [sufS_cps]; exact h.nd.sublist (List.drop_sublist _ _), fun c hc => h.ok c (by rw [sufS_cps] at hc; exact List.mem_of_mem_drop hc)⟩
theorem pre_ok {z : Str} (h : SignsOk z) (n : Nat) : SignsOk (preS z n) := ⟨by rw [preS_cps]; exact h.nd.sublist (List.take_sublist _ _), fun c hc => h.ok c (by rw [preS_cps] at hc; exact List.mem_of_mem_take hc)⟩
theorem add_ok {z : Str} {c : Nat} (h : SignsOk z) (hc : 32 ≤ c ∧ c ≤ 126 ∧ c ≠ 37) (n : ¬ c ∈ z.cps.toList) : SignsOk (z ++ sgn c) := by
  have e : (z ++ sgn c).cps.toList = z.cps.toList ++ [c] := by rw [app_cps]; rfl
  refine ⟨?_, fun d hd => ?_⟩
  · rw [e, List.nodup_append]
    exact ⟨h.nd, by simp, fun x hx y hy q => n (by rw [List.mem_singleton.mp hy] at q; rw [← q]; exact hx)⟩
  · rw [e] at hd
    rcases List.mem_append.mp hd with q | q
    · exact h.ok d q
    · rw [List.mem_singleton.mp q]; exact hc
end Jr
namespace Jr
open PySem PySem.Spec PyProof.Rows L2
def someG : Str := Str.ofString "\n\tabcdefghijklmnopqrstuvwxyzABCDEFGHIJKLMNOPQRSTUVWXYZ !\"#$&'()*+,-./0123456789"
theorem someG_nd : someG.cps.toList.Nodup := by decide +kernel
theorem someG_len : 60 ≤ someG.cps.toList.length ∧ someG.cps.toList.length ≤ 100 := by decide +kernel
theorem someG_ok : ∀ c ∈ someG.cps.toList, c ≤ 126 := by decide +kernel
section
variable {P : Program} {w : World} {K : PySem.W.Frag} {mg : Str → Option Value} {base : Heap}
def spStrange69 : Sp := fun vs H Q _ => ∃ (d : Int) (z : Str), vs = [.int d, .str z] ∧ z.length ≤ 20 ∧ ∀ H' c, Same H H' → c ≤ 126 → c ∈ someG.cps.toList → ¬ c ∈ z.cps.toList → Q (.str (sgn c)) H'
theorem cal__law_strange69 (T : Tx K mg) : Cal P w K mg base CX0 1 "_law_strange" spStrange69 := by
  obtain ⟨fd, F⟩ := T.d__law_strange
  refine ⟨_, fd, P__law_strange, F.ok sc__law_strange (fun vs H Q E h => ?_) (fun cdv A outer s H vs Q E hr h => ?_), T.g__law_strange, F.kp, F.bindsN (ps := P__law_strange) fun _ _ _ _ _ _ us hl => match us, hl with | [_, _], _ => rfl⟩
  · obtain ⟨d, z, rfl, _⟩ := h
    rfl
  · obtain ⟨d, z, rfl, zl, k⟩ := h
    refine ⟨_, (PSs.nox (pss_cons (ps_set (i := 2) sc__law_strange.nd rfl (Or.inl rfl) pe_str)
      (pss_cons (ps_setLc (i := 2) (own := [("_law_sign", 3)]) (g := gName 3) (by rfl) sc__law_strange.nd rfl rfl (sw_true rfl rfl rfl (by decide +kernel)) (pi_str (pv 2)) (blkOk_by (own := [("_law_sign", 3)]) (N := N__law_strange) (sc := defScope s__law_strange) (by decide +kernel)) (fun _ _ _ _ _ => (pg_name (i := 3) sc__law_strange.nd rfl (Or.inl rfl))) (fun _ _ _ _ _ => (pts_one (pt_cmpR op_notIn_sign (pv 3) (pv 1) rfl))) (fun _ _ _ _ _ => (pv 3)))
      (pss_one (ps_ret (pe_ix ix_list (pv 2) (pe_op op_mod (pv 0) (pe_callB (id := "len") call_len_seq (by rfl) T.n_len (by decide +kernel) (pa_cons (pv 2) pa_nil))) (fun _ _ => rfl))))))), ?_⟩
    obtain ⟨l1, l2⟩ := someG_len
    refine ⟨_, rfl, someG, rfl, fun D hD => lc_strM (p := fun c => !decide (c ∈ z.cps.toList)) (f := fun c => V.str (sgn c)) hD (by omega) (fun c _ H2 _ N M hM hN => ?_) (fun H2 sm2 hL => ?_)⟩
    · refine ⟨rfl, _, rfl, _, rfl, _, _, rfl, rfl, _, rfl, ?_⟩
      by_cases hc : c ∈ z.cps.toList
      · rw [decide_eq_true hc]
        exact iteF (hN (by simp [hc]))
      · rw [decide_eq_false hc]
        exact iteT ⟨_, rfl, hM (by simp [hc])⟩
    have ne : 0 < (someG.cps.toList.filter (fun c => !decide (c ∈ z.cps.toList))).length := by
      refine Nat.pos_of_ne_zero fun e => ?_
      have e2 := List.eq_nil_of_length_eq_zero e
      have all : ∀ c ∈ someG.cps.toList, c ∈ z.cps.toList := fun c hc => by
        have q := List.filter_eq_nil_iff.mp e2 c hc
        simpa using q
      have q := pigeon someG.cps.toList z.cps.toList someG_nd all
      rw [len_cps z] at q
      omega
    obtain ⟨c, hc, hat⟩ := mod_at (fun c => V.str (sgn c)) _ ne d
    obtain ⟨h1, h2⟩ := List.mem_filter.mp hc
    have h2 : ¬ c ∈ z.cps.toList := by simpa using h2
    have hl : (someG.cps.toList.filter (fun c => !decide (c ∈ z.cps.toList))).length ≤ 100 := Nat.le_trans (List.length_filter_le _ _) l2
    refine ⟨_, rfl, _, rfl, _, rfl, D, _, rfl, .inl (SqL.of hL), _, _, rfl, rfl, (by show (0 : Int) < _; rw [List.length_map]; omega), D, _, _, _, rfl, rfl, SqL.of hL, hat, k _ c sm2 (someG_ok c h1) h1 h2⟩
end
end Jr
namespace Jr
open PySem PySem.Spec PyProof.Rows L2
/-! ### a text without its last sign -/
theorem cutS_d1 (z : Str) : cutS z none (some (-1)) = preS z (z.length - 1) := str_ext (by
  show ((z.cps.toList.drop (HT.sIx z.length 0 none)).take (HT.sIx z.length z.length (some (-1)) - HT.sIx z.length 0 none)).toArray.toList = _
  rw [HT.sIx_none, List.toList_toArray, List.drop_zero, Nat.sub_zero, preS_cps]
  have e : HT.sIx z.length z.length (some (-1)) = z.length - 1 := by
    show (if (-1 : Int) < 0 then ((-1 : Int) + (z.length : Int)).toNat else min (-1 : Int).toNat z.length) = _
    rw [if_pos (by decide)]
    omega
  rw [e])
end Jr
namespace Jr
open PySem PySem.Spec PyProof.Rows L2
theorem someG_sg51 : ∀ c ∈ someG.cps.toList, c = 10 ∨ c = 9 ∨ (32 ≤ c ∧ c ≤ 126 ∧ c ≠ 37) := by decide +kernel
theorem pre_add51 {z : Str} {c : Nat} (h : SignsOk z) (hc : 32 ≤ c ∧ c ≤ 126 ∧ c ≠ 37) (n : ¬ c ∈ z.cps.toList) : SignsOk (sgn c ++ z) := by
  have e : (sgn c ++ z).cps.toList = c :: z.cps.toList := by rw [app_cps]; rfl
  refine ⟨?_, fun d hd => ?_⟩
  · rw [e]
    exact List.nodup_cons.mpr ⟨n, h.nd⟩
  · rw [e] at hd
    rcases List.mem_cons.mp hd with q | q
    · rw [q]; exact hc
    · exact h.ok d q
theorem one_ok51 {c : Nat} (hc : 32 ≤ c ∧ c ≤ 126 ∧ c ≠ 37) : SignsOk (sgn c) := ⟨by show [c].Nodup; simp, fun d hd => by
  have e : d = c := List.mem_singleton.mp (show d ∈ [c] from hd)
  rw [e]; exact hc⟩
/-- signs that are others than those of z -/
structure Oth51 (z y : Str) : Prop where
  ok : SignsOk y
  n1 : 1 ≤ y.length
  n12 : y.length ≤ 12
  ne : ¬ SameZ z y
theorem other51 {z : Str} {c : Nat} (h : SignsOk z) (z1 : 1 ≤ z.length) (z6 : z.length ≤ 6) (hc : 32 ≤ c ∧ c ≤ 126 ∧ c ≠ 37) (n : ¬ c ∈ z.cps.toList) (j : Nat) (hj : j < 4) :
    ∃ y, [z ++ sgn c, preS z (z.length - 1) ++ sgn c, sufS z 1, sgn c ++ sufS z 1][j]? = some y ∧ (y.length = 0 ∨ Oth51 z y) := by
  have lc : (sgn c).length = 1 := sgn_len c
  have lp : (preS z (z.length - 1)).length ≤ z.length := by rw [← len_cps, preS_cps, List.length_take, len_cps]; omega
  have ls := sufS_len z 1
  have inA : ∀ {y : Str}, c ∈ y.cps.toList → ¬ SameZ z y := fun hy s => n ((s c).mpr hy)
  have cs : c ∈ (sgn c).cps.toList := by show c ∈ [c]; simp
  have np : ¬ c ∈ (preS z (z.length - 1)).cps.toList := fun h => n (by rw [preS_cps] at h; exact List.mem_of_mem_take h)
  have ns : ¬ c ∈ (sufS z 1).cps.toList := fun h => n (by rw [sufS_cps] at h; exact List.mem_of_mem_drop h)
  rcases (show j = 0 ∨ j = 1 ∨ j = 2 ∨ j = 3 by omega) with rfl | rfl | rfl | rfl
  · exact ⟨_, rfl, .inr ⟨add_ok h hc n, by rw [app_len]; omega, by rw [app_len]; omega, inA (by rw [app_cps]; exact List.mem_append_right _ cs)⟩⟩
  · exact ⟨_, rfl, .inr ⟨add_ok (pre_ok h _) hc np, by rw [app_len]; omega, by rw [app_len]; omega, inA (by rw [app_cps]; exact List.mem_append_right _ cs)⟩⟩
  · refine ⟨_, rfl, ?_⟩
    by_cases e : (sufS z 1).length = 0
    · exact .inl e
    · refine .inr ⟨suf_ok h _, by omega, by omega, fun s => ?_⟩
      cases ez : z.cps.toList with
      | nil => rw [← len_cps, ez] at z1; simp at z1
      | cons d t =>
        have hd : d ∈ (sufS z 1).cps.toList := (s d).mp (by rw [ez]; exact List.mem_cons_self)
        rw [sufS_cps, ez] at hd
        have := h.nd
        rw [ez] at this
        exact (List.nodup_cons.mp this).1 hd
  · exact ⟨_, rfl, .inr ⟨pre_add51 (suf_ok h _) hc ns, by rw [app_len]; omega, by rw [app_len]; omega, inA (by rw [app_cps]; exact List.mem_append_left _ cs)⟩⟩
theorem turn_same51 (z : Str) (n : Nat) : SameZ z (sufS z n ++ preS z n) := fun c => by
  rw [app_cps, sufS_cps, preS_cps]
  have h := (List.perm_append_comm (l₁ := z.cps.toList.drop n) (l₂ := z.cps.toList.take n)).mem_iff (a := c)
  rw [List.take_append_drop] at h
  exact h.symm
def szm51 : List Int := [6, 6, 4, 60] ++ List.replicate 6 94 ++ List.replicate 24 36
theorem szm51_ok : ∀ z ∈ szm51, 0 < z ∧ z.natAbs.log2 < 9000 := by decide
section
variable {P : Program} {w : World} {K : PySem.W.Frag} {mg : Str → Option Value} {base : Heap}
def spOthS51 (K : PySem.W.Frag) : Sp := fun vs H Q _ => ∃ (z : Str) (p : Addr) (d0 d1 : Nat), vs = [.str z, .ref p] ∧ SqL K H p [.int (d0 : Nat), .int (d1 : Nat)] ∧ d1 < 4 ∧ SignsOk z ∧ 1 ≤ z.length ∧ z.length ≤ 6 ∧ ∀ H' y, Same H H' → Oth51 z y → Q (.str y) H'
theorem cal__law_other_signs (T : Tx K mg) : Cal P w K mg base CX0 2 "_law_other_signs" (spOthS51 K) := by
  have C__law_strange := cal__law_strange69 (P := P) (w := w) (base := base) T
  obtain ⟨fd, F⟩ := T.d__law_other_signs
  refine ⟨_, fd, P__law_other_signs, F.ok sc__law_other_signs (fun vs H Q E h => ?_) (fun cdv A outer s H vs Q E hr h => ?_), T.g__law_other_signs, F.kp, F.bindsN (ps := P__law_other_signs) fun _ _ _ _ _ _ us hl => match us, hl with | [_, _], _ => rfl⟩
  · obtain ⟨z, p, d0, d1, rfl, _⟩ := h
    rfl
  · obtain ⟨z, p, d0, d1, rfl, hp, hd1, sg, z1, z6, k⟩ := h
    refine ⟨_, (PSs.nox (pss_cons (ps_set (i := 2) sc__law_other_signs.nd rfl (Or.inl rfl) (pe_cal C__law_strange (by first | exact hr | exact hr.mono (by decide)) (by rfl) (pa_cons (pe_op op_add pe_int (pe_ix ix_list (pv 1) pe_int (fun _ _ => rfl))) (pa_cons (pe_op op_add_str (pv 0) pe_str) pa_nil))))
      (pss_cons (ps_set (i := 3) sc__law_other_signs.nd rfl (Or.inl rfl) (pe_lstG (pa_cons (pe_op op_add_str (pv 0) (pv 2)) (pa_cons (pe_op op_add_str (pe_slice sl_str (pv 0) po_none (po_some (pe_un un_neg pe_int))) (pv 2)) (pa_cons (pe_slice sl_str (pv 0) (po_some pe_int) po_none) (pa_cons (pe_op op_add_str (pv 2) (pe_slice sl_str (pv 0) (po_some pe_int) po_none)) pa_nil))))))
      (pss_cons (ps_set (i := 4) sc__law_other_signs.nd rfl (Or.inl rfl) (pe_ix ix_list (pv 3) (pe_ix ix_list (pv 1) pe_int (fun _ _ => rfl)) (fun _ _ => rfl)))
      (pss_cons (ps_if (pt_cmpR op_eq (pv 4) pe_str (nomark _)) (pss_one (ps_ret (pv 2))) pss_nil)
      (pss_one (ps_ret (pv 4)))))))), ?_⟩
    refine ⟨_, rfl, p, _, _, _, rfl, rfl, hp, rfl, _, _, rfl, rfl, _, rfl, _, _, rfl, rfl, ?_, ?_⟩
    · show z.length + 2 ≤ _
      exact sz (by omega)
    have e2 : (z ++ Str.ofString "\n\t").length = z.length + 2 := app_len _ _
    refine ⟨_, _, rfl, by rw [e2]; omega, fun H1 c s1 c126 cS cn => ?_⟩
    have cz : ¬ c ∈ z.cps.toList := fun h => cn (by rw [app_cps]; exact List.mem_append_left _ h)
    have hc : 32 ≤ c ∧ c ≤ 126 ∧ c ≠ 37 := by
      rcases someG_sg51 c cS with h | h | h
      · exact absurd (by rw [app_cps, h]; exact List.mem_append_right _ (by decide)) cn
      · exact absurd (by rw [app_cps, h]; exact List.mem_append_right _ (by decide)) cn
      · exact h
    have lc : (sgn c).length = 1 := sgn_len c
    have lp : (preS z (z.length - 1)).length ≤ z.length := by rw [← len_cps, preS_cps, List.length_take, len_cps]; omega
    have ls := sufS_len z 1
    refine ⟨_, rfl, _, rfl, _, _, rfl, rfl, sz (by omega), ?_⟩
    refine ⟨_, rfl, _, rfl, _, rfl, z, rfl, sz (by omega), _, rfl, _, _, rfl, rfl, ?_, ?_⟩
    · rw [show (-1 : Int) = -1 from rfl, cutS_d1]
      exact sz (by omega)
    refine ⟨_, rfl, _, rfl, z, rfl, sz (by omega), _, rfl, _, rfl, _, rfl, z, rfl, sz (by omega), _, _, rfl, rfl, ?_, (by show 4 ≤ sizeLine; decide), fun L H2 nL s2 hL => ?_⟩
    · rw [show (some (1 : Int)) = some ((1 : Nat) : Int) from rfl, cutS_suf]
      exact sz (by omega)
    rw [show (some (1 : Int)) = some ((1 : Nat) : Int) from rfl, cutS_suf] at hL
    have hL : H2 L = some (.lst ([z ++ sgn c, cutS z none (some (-1)) ++ sgn c, sufS z 1, sgn c ++ sufS z 1].map V.str)) := hL
    rw [cutS_d1] at hL
    obtain ⟨y, hy, oy⟩ := other51 sg z1 z6 hc cz d1 hd1
    have hp2 := (s1.trans s2).seq hp
    refine ⟨_, rfl, _, rfl, p, _, _, _, rfl, rfl, hp2, rfl, L, _, _, _, rfl, rfl, SqL.of hL, atm (f := V.str) hy, ?_⟩
    refine ⟨_, rfl, rfl, _, rfl, ite2 (fun e => ?_) (fun e => ?_)⟩
    · refine ⟨_, rfl, k H2 _ (s1.trans s2) ⟨one_ok51 hc, by omega, by omega, fun s => cz ((s c).mpr (by show c ∈ [c]; simp))⟩⟩
    · refine ⟨_, rfl, k H2 y (s1.trans s2) (oy.resolve_left fun h => e (decide_eq_true ?_))⟩
      have : y = Str.ofString "" := str_ext (by
        have h2 : y.cps.toList = [] := List.eq_nil_of_length_eq_zero (by rw [len_cps]; exact h)
        rw [h2]; rfl)
      rw [this]
def spMade51 (K : PySem.W.Frag) : Sp := fun vs H Q _ => ∃ (a : Addr) (ns : List Int) (i : Nat), vs = [.ref a, .int (i : Nat)] ∧ SqL K H a (ns.map V.int) ∧ i ≤ 63 ∧
  ∀ H' L t0 t1 t2 p0 p1 p2 z0 z1 z2 rs0 rs1, Same H H' → H' L = some (.lst [.ref t0, .ref t1, .ref t2]) → H' t0 = some (.tup [.str z0, .ref p0]) → H' t1 = some (.tup [.str z1, .ref p1]) → H' t2 = some (.tup [.str z2, .ref p2]) →
    RowsAt H' p0 rs0 → RowsAt H' p1 rs1 → RowsAt H' p2 [] → TabOk z0 rs0 → TabOk z1 rs1 → TabOk z2 [] → SameZ z0 z1 → ¬ SameZ z0 z2 → Q (.ref L) H'
theorem cal__law_made (T : Tx K mg) : Cal P w K mg base CX0 3 "_law_made" (spMade51 K) := by
  have C__law_cell_at := cal__law_cell_at (P := P) (w := w) (base := base) T
  have C__law_numbers := cal__law_numbers (P := P) (w := w) (base := base) T
  have C__law_signs := cal__law_signs (P := P) (w := w) (base := base) T
  have C__law_rows := cal__law_rows (P := P) (w := w) (base := base) T
  have C__law_other_signs := cal__law_other_signs (P := P) (w := w) (base := base) T
  obtain ⟨fd, F⟩ := T.d__law_made
  refine ⟨_, fd, P__law_made, F.ok sc__law_made (fun vs H Q E h => ?_) (fun cdv A outer s H vs Q E hr h => ?_), T.g__law_made, F.kp, F.bindsN (ps := P__law_made) fun _ _ _ _ _ _ us hl => match us, hl with | [_, _], _ => rfl⟩
  · obtain ⟨a, ns, i, rfl, _⟩ := h
    rfl
  · obtain ⟨a, ns, i, rfl, hS, hi, k⟩ := h
    refine ⟨_, (PSs.nox (pss_cons (ps_set (i := 2) sc__law_made.nd rfl (Or.inl rfl) (pe_cal C__law_numbers (by first | exact hr | exact hr.mono (by decide)) (by rfl) (pa_cons (pe_cal C__law_cell_at (by first | exact hr | exact hr.mono (by decide)) (by rfl) (pa_cons (pv 0) (pa_cons (pv 1) pa_nil))) (pa_cons (pe_op op_add pe_int (pv 1)) (pa_cons (pe_intsAs (ns := [6, 6, 4, 60, 94, 94, 94, 94, 94, 94, 36, 36, 36, 36, 36, 36, 36, 36, 36, 36, 36, 36, 36, 36, 36, 36, 36, 36, 36, 36, 36, 36, 36, 36]) (pe_catI (pe_catI (pe_litI (ns := [6, 6, 4, 60]) (pe_lst (pa_cons pe_int (pa_cons pe_int (pa_cons pe_int (pa_cons pe_int pa_nil))))) (fun _ _ _ => rfl) (by decide)) (pe_repI (k := 6) (pe_litI (ns := [94]) (pe_lst (pa_cons pe_int pa_nil)) (fun _ _ _ => rfl) (by decide)) pe_int (by decide) (by decide)) (by decide)) (pe_repI (k := 24) (pe_litI (ns := [36]) (pe_lst (pa_cons pe_int pa_nil)) (fun _ _ _ => rfl) (by decide)) pe_int (by decide) (by decide)) (by decide)) (by decide)) pa_nil)))))
      (pss_cons (ps_set (i := 3) sc__law_made.nd rfl (Or.inl rfl) (pe_cal C__law_signs (by first | exact hr | exact hr.mono (by decide)) (by rfl) (pa_cons (pe_slice sl_listG (pv 2) (po_some pe_int) (po_some (pe_op op_add pe_int (pe_ix ix_list (pv 2) pe_int (fun _ _ => rfl))))) pa_nil)))
      (pss_cons (ps_set (i := 4) sc__law_made.nd rfl (Or.inl rfl) (pe_op op_add_str (pe_slice sl_str (pv 3) (po_some (pe_ix ix_list (pv 2) pe_int (fun _ _ => rfl))) po_none) (pe_slice sl_str (pv 3) po_none (po_some (pe_ix ix_list (pv 2) pe_int (fun _ _ => rfl))))))
      (pss_cons (ps_set (i := 5) sc__law_made.nd rfl (Or.inl rfl) (pe_cal C__law_other_signs (by first | exact hr | exact hr.mono (by decide)) (by rfl) (pa_cons (pv 3) (pa_cons (pe_lstG (pa_cons (pe_ix ix_list (pv 2) pe_int (fun _ _ => rfl)) (pa_cons (pe_ix ix_list (pv 2) pe_int (fun _ _ => rfl)) pa_nil))) pa_nil))))
      (pss_one (ps_ret (pe_lstG (pa_cons (pe_tupG (pa_cons (pv 3) (pa_cons (pe_cal C__law_rows (by first | exact hr | exact hr.mono (by decide)) (by rfl) (pa_cons (pv 3) (pa_cons (pe_slice sl_listG (pv 2) (po_some pe_int) (po_some pe_int)) pa_nil))) pa_nil))) (pa_cons (pe_tupG (pa_cons (pv 4) (pa_cons (pe_cal C__law_rows (by first | exact hr | exact hr.mono (by decide)) (by rfl) (pa_cons (pv 4) (pa_cons (pe_slice sl_listG (pv 2) (po_some pe_int) (po_some pe_int)) pa_nil))) pa_nil))) (pa_cons (pe_tupG (pa_cons (pv 5) (pa_cons (pe_lstG pa_nil) pa_nil))) pa_nil))))))))))), ?_⟩
    refine ⟨_, rfl, _, rfl, a, ns, i, rfl, hS, fun c0 => ?_⟩
    refine ⟨_, rfl, _, _, rfl, rfl, fun p1 H1 np1 sm1 hp1 => ?_⟩
    have hp1' : H1 p1 = some (.lst (szm51.map V.int)) := hp1
    refine ⟨c0, _, p1, szm51, rfl, ?_, ?_, SqL.of hp1', by decide, szm51_ok, fun H5 pd ds sm5 npd hD hds => ?_⟩
    · show (0 : Int) ≤ 5100 + ((i : Nat) : Int)
      omega
    · show 5100 + ((i : Nat) : Int) ≤ 100000
      omega
    have sm15 := sm1.trans sm5
    obtain ⟨d0, e0, b0, A0⟩ := dig hds (j := 0) (z := 6) rfl
    obtain ⟨d1, e1, b1, A1⟩ := dig hds (j := 1) (z := 6) rfl
    obtain ⟨d2, e2, b2, A2⟩ := dig hds (j := 2) (z := 4) rfl
    obtain ⟨d3, e3, b3, A3⟩ := dig hds (j := 3) (z := 60) rfl
    have dl : ds.length = 34 := (Paired.len hds).symm
    refine ⟨_, rfl, _, rfl, _, rfl, pd, _, _, _, rfl, rfl, SqL.of hD, A0, _, _, rfl, rfl, _, rfl, pd, _, rfl, SqL.of hD, fun q2 H6 nq2 sm6 hq2 => ?_⟩
    rw [show ((5 : Int) + ((d0 : Nat) : Int)) = ((5 + d0 : Nat) : Int) by omega, show (some (4 : Int)) = some ((4 : Nat) : Int) from rfl, cutV_mid, show 5 + d0 - 4 = 1 + d0 by omega, ← List.map_drop, ← List.map_take] at hq2
    have b0 : d0 < 6 := by omega
    have b2 : d2 < 4 := by omega
    have cl : ((ds.drop 4).take (1 + d0)).length = 1 + d0 := by
      rw [List.length_take, List.length_drop, dl]
      omega
    refine ⟨q2, (ds.drop 4).take (1 + d0), rfl, SqL.of hq2, by omega, fun d hd => ?_, fun H7 z s7 sg zl => ?_⟩
    · obtain ⟨m, hm⟩ := List.getElem?_of_mem hd
      have ml : m < 1 + d0 := by
        have := (List.getElem?_eq_some_iff.mp hm).1
        omega
      rw [List.getElem?_take_of_lt ml, List.getElem?_drop] at hm
      obtain ⟨x, hx, hxd⟩ := Paired.get2 hds hm
      have ex : x = 94 := by
        rcases (show m = 0 ∨ m = 1 ∨ m = 2 ∨ m = 3 ∨ m = 4 ∨ m = 5 by omega) with rfl | rfl | rfl | rfl | rfl | rfl <;> exact (Option.some.inj hx).symm
      rw [ex] at hxd
      exact hxd
    rw [cl] at zl
    have s57 := sm6.trans s7
    have hD7 := s57 _ _ hD
    have lp : (preS z d1).length ≤ z.length := by rw [← len_cps, preS_cps, List.length_take, len_cps]; omega
    refine ⟨_, rfl, _, rfl, pd, _, _, _, rfl, rfl, SqL.of hD7, A1, _, rfl, z, rfl, sz (by omega), _, rfl, _, rfl, pd, _, _, _, rfl, rfl, SqL.of hD7, A1, _, rfl, z, rfl, sz (by omega), _, _, rfl, rfl, ?_, ?_⟩
    · rw [cutS_suf, cutS_pre, sufS_len]
      exact sz (by omega)
    rw [cutS_suf, cutS_pre]
    obtain ⟨tg, tl⟩ := turn_ok sg d1
    have ts := turn_same51 z d1
    revert tg tl ts
    generalize sufS z d1 ++ preS z d1 = zt
    intro tg tl ts
    refine ⟨_, rfl, _, rfl, pd, _, _, _, rfl, rfl, SqL.of hD7, A3, _, rfl, pd, _, _, _, rfl, rfl, SqL.of hD7, A2, (by show 2 ≤ sizeLine; decide), fun q3 H8 nq3 s8 hq3 => ?_⟩
    refine ⟨z, q3, d3, d2, rfl, SqL.of hq3, b2, sg, by omega, by omega, fun H9 y s9 oy => ?_⟩
    have hD9 := (s8.trans s9) _ _ hD7
    refine ⟨_, rfl, _, rfl, _, rfl, _, rfl, _, rfl, pd, _, rfl, SqL.of hD9, fun q4 H10 nq4 s10 hq4 => ?_⟩
    rw [show (some (10 : Int)) = some ((10 : Nat) : Int) from rfl, show (some (22 : Int)) = some ((22 : Nat) : Int) from rfl, cutV_mid, ← List.map_drop, ← List.map_take] at hq4
    refine ⟨z, q4, (ds.drop 10).take (22 - 10), rfl, SqL.of hq4, by rw [List.length_take, List.length_drop]; omega, sg, by omega, by omega, fun H11 p0 rs0 s11 np0 hR0 tk0 => ?_⟩
    refine ⟨(by show 2 ≤ sizeLine; decide), fun t0 H12 nt0 s12 ht0 => ?_⟩
    have hD12 := ((s10.trans s11).trans s12) _ _ hD9
    refine ⟨_, rfl, _, rfl, _, rfl, _, rfl, _, rfl, pd, _, rfl, SqL.of hD12, fun q5 H13 nq5 s13 hq5 => ?_⟩
    rw [show (some (22 : Int)) = some ((22 : Nat) : Int) from rfl, show (some (34 : Int)) = some ((34 : Nat) : Int) from rfl, cutV_mid, ← List.map_drop, ← List.map_take] at hq5
    refine ⟨zt, q5, (ds.drop 22).take (34 - 22), rfl, SqL.of hq5, by rw [List.length_take, List.length_drop]; omega, tg, by omega, by omega, fun H14 p1' rs1 s14 np1' hR1 tk1 => ?_⟩
    refine ⟨(by show 2 ≤ sizeLine; decide), fun t1 H15 nt1 s15 ht1 => ?_⟩
    refine ⟨_, rfl, (by show 0 ≤ sizeLine; decide), fun p2 H16 np2 s16 hp2 => ?_⟩
    refine ⟨(by show 2 ≤ sizeLine; decide), fun t2 H17 nt2 s17 ht2 => ?_⟩
    refine ⟨(by show 3 ≤ sizeLine; decide), fun L H18 nL s18 hL => ?_⟩
    have a78 := s17.trans s18
    have a68 := s16.trans a78
    have a58 := s15.trans a68
    have a38 := (s13.trans s14).trans a58
    exact k H18 L t0 t1 t2 p0 p1' p2 z zt y rs0 rs1 (((((sm15.trans s57).trans (s8.trans s9)).trans (s10.trans s11)).trans s12).trans a38) hL (a38 _ _ ht0) (a68 _ _ ht1) (s18 _ _ ht2) ((hR0.same s12).same a38) (hR1.same a58) ⟨[], a78 _ _ hp2, .nil⟩ tk0 tk1 (.nil oy.ok oy.n1 oy.n12) ts oy.ne
end
end Jr
namespace Jr
open PySem PySem.Spec PyProof.Rows L2
section
variable {P : Program} {w : World} {K : PySem.W.Frag} {mg : Str → Option Value} {base : Heap}
/-- a text of at most so many pieces -/
def spWords (K : PySem.W.Frag) : Sp := fun vs H Q _ => ∃ (c salt : Int) (lp : Addr) (ps : List Str) (most : Nat), vs = [.int c, .int salt, .ref lp, .int (most : Nat)] ∧ 0 ≤ salt ∧ salt ≤ 100000 ∧ SqL K H lp (ps.map V.str) ∧ 0 < ps.length ∧ (∀ p ∈ ps, p.length ≤ 16) ∧ most ≤ 100 ∧
  ∀ H' qs, Same H H' → (∀ q ∈ qs, q ∈ ps) → qs.length ≤ most → Q (.str (Txt.join (Str.ofString "") qs)) H'
theorem cal__law_words (T : Tx K mg) : Cal P w K mg base CX0 2 "_law_words" (spWords K) := by
  have C__law_numbers := cal__law_numbers (P := P) (w := w) (base := base) T
  obtain ⟨fd, F⟩ := T.d__law_words
  refine ⟨_, fd, P__law_words, F.ok sc__law_words (fun vs H Q E h => ?_) (fun cdv A outer s H vs Q E hr h => ?_), T.g__law_words, F.kp, F.bindsN (ps := P__law_words) fun _ _ _ _ _ _ us hl => match us, hl with | [_, _, _, _], _ => rfl⟩
  · obtain ⟨c, salt, lp, ps, most, rfl, _⟩ := h
    rfl
  · obtain ⟨c, salt, lp, ps, most, rfl, s0, s1', hP, np, pl, hm, k⟩ := h
    refine ⟨_, (PSs.nox (pss_cons (ps_set (i := 4) sc__law_words.nd rfl (Or.inl rfl) (pe_cal C__law_numbers (by first | exact hr | exact hr.mono (by decide)) (by rfl) (pa_cons (pv 0) (pa_cons (pv 1) (pa_cons (pe_op op_catG (pe_lstG (pa_cons (pe_op op_add (pv 3) pe_int) pa_nil)) (pe_op op_repG (pe_intsAs (ns := [36]) (pe_litI (ns := [36]) (pe_lst (pa_cons pe_int pa_nil)) (fun _ _ _ => rfl) (by decide)) (by decide)) (pv 3))) pa_nil)))))
      (pss_one (ps_ret (pe_join pe_str (pe_lc (own := [("_law_digit", 5)]) (g := gName 5) (by rfl) sc__law_words.nd (pi_list (pe_slice sl_listG (pv 4) (po_some pe_int) (po_some (pe_op op_add pe_int (pe_ix ix_list (pv 4) pe_int (fun _ _ => rfl)))))) (blkOk_by (own := [("_law_digit", 5)]) (N := N__law_words) (sc := defScope s__law_words) (by decide +kernel)) (fun _ _ _ _ _ => (pg_name (i := 5) sc__law_words.nd rfl (Or.inl rfl))) (fun _ _ _ _ _ => pts_nil) (fun _ _ _ _ _ => (pe_ix (ix_listK (K := K)) (pv 2) (pe_op op_mod (pv 5) (pe_callB (id := "len") (call_len_seqK (K := K)) (by rfl) T.n_len (by decide +kernel) (pa_cons (pv 2) pa_nil))) (fun _ _ => rfl))))))))), ?_⟩
    refine ⟨_, rfl, _, rfl, _, rfl, _, _, rfl, rfl, (by show 1 ≤ sizeLine; decide), fun p1 H1 n1 s1 h1 => ?_⟩
    refine fun p2 H2 n2 s2 h2 => ?_
    refine ⟨_, rfl, p2, _, _, rfl, rfl, h2, by omega, by omega, ?_, fun p3 H3 n3 s3 h3 => ?_⟩
    · show 1 * ((most : Nat) : Int).toNat ≤ sizeLine
      exact sz (by omega)
    refine ⟨p1, p3, _, _, rfl, rfl, SqL.of ((s2.trans s3) _ _ h1), SqL.of h3, ?_, fun p4 H4 n4 s4 h4 => ?_⟩
    · show 1 + (List.replicate ((most : Nat) : Int).toNat [V.int 36]).flatten.length ≤ sizeLine
      rw [rep_one, List.length_replicate]
      exact sz (by omega)
    refine ⟨c, salt, p4, [(most : Int) + 1] ++ List.replicate most 36, rfl, s0, s1', SqL.of ?_, ?_, ?_, fun H5 p ds sm hp hL hD => ?_⟩
    · rw [h4]
      show some (HO.lst ([V.int ((most : Int) + 1)] ++ (List.replicate ((most : Nat) : Int).toNat [V.int 36]).flatten)) = _
      rw [rep_one, List.map_append, map_rep, Int.toNat_natCast]; rfl
    · rw [List.length_append, List.length_replicate]
      show 1 + most ≤ 1000
      omega
    · have lg : ∀ x : Int, 0 < x → x ≤ 1000 → 0 < x ∧ x.natAbs.log2 < 9000 := fun x h0 h1 => ⟨h0, by
        have : x.natAbs.log2 < 10 := (Nat.log2_lt (by omega)).mpr (by omega)
        omega⟩
      intro x hx
      rcases List.mem_append.mp hx with hx | hx
      · rw [List.mem_singleton.mp hx]; exact lg _ (by omega) (by omega)
      · rw [(List.mem_replicate.mp hx).2]; exact lg _ (by omega) (by omega)
    have sH := (((s1.trans s2).trans s3).trans s4).trans sm
    obtain ⟨d0, e0, b0⟩ := Paired.get hD (i := 0) (x := (most : Int) + 1) rfl
    have hLq : SqL K H5 p (ds.map V.int) := SqL.of hL
    obtain ⟨n, rfl⟩ := Int.eq_ofNat_of_zero_le b0.1
    have A0 : atI (ds.map V.int) 0 = some (V.int (n : Int)) := atm (f := V.int) e0
    have hn : n ≤ most := by have := b0.2; omega
    refine ⟨⟨_, rfl⟩, ?_⟩
    refine ⟨_, rfl, _, rfl, _, rfl, _, _, _, _, rfl, rfl, hLq, A0, _, _, rfl, rfl, _, rfl, p, _, rfl, hLq, fun q H6 nq s6 hq => ?_⟩
    have ec : cutV (ds.map V.int) (some 1) (some (1 + (n : Int))) = ((ds.drop 1).take n).map V.int := by
      have z : (1 : Int) + (n : Int) = ((1 + n : Nat) : Int) := by omega
      have z2 : 1 + n - 1 = n := by omega
      rw [z, show (some (1 : Int)) = some ((1 : Nat) : Int) from rfl, cutV_mid, z2, List.map_take, List.map_drop]
    rw [ec] at hq
    have posP : (0 : Int) < ((ps.map V.str).length : Nat) := by rw [List.length_map]; omega
    obtain ⟨g, hg⟩ : ∃ g : Int → Str, ∀ d, g d ∈ ps ∧ atI (ps.map V.str) (d % ((ps.map V.str).length : Nat)) = some (V.str (g d)) :=
      ⟨fun d => (mod_at V.str ps np d).choose, fun d => (mod_at V.str ps np d).choose_spec⟩
    have tl : ((ds.drop 1).take n).length ≤ n := by rw [List.length_take]; omega
    refine ⟨q, rfl, ⟨_, SqL.of hq⟩, fun D hD2 => lc_listM (K := K) (item := V.int) (p := fun _ => true) (f := fun d => V.str (g d)) (l := (ds.drop 1).take n) (SqL.of hq) hD2 (by omega) (fun d0 hd0 H2 s2 N M hM _ => ?_) (fun H7 s7 hL2 => ?_)⟩
    · have hP7 := ((sH.trans s6).trans s2).seq hP
      exact ⟨rfl, _, rfl, _, rfl, _, rfl, _, _, rfl, .inl hP7, _, _, rfl, rfl, posP, _, _, _, _, rfl, rfl, hP7, (hg d0).2, hM rfl⟩
    · have ef : ((ds.drop 1).take n).filter (fun _ => true) = (ds.drop 1).take n := List.filter_eq_self.mpr fun _ _ => rfl
      rw [ef] at hL2
      have em : ((ds.drop 1).take n).map (fun d => V.str (g d)) = (((ds.drop 1).take n).map g).map V.str := by rw [List.map_map]; rfl
      rw [em] at hL2
      have inq : ∀ q ∈ ((ds.drop 1).take n).map g, q ∈ ps := fun q hq => by
        obtain ⟨d, _, rfl⟩ := List.mem_map.mp hq
        exact (hg d).1
      have sl := sum_le (((ds.drop 1).take n).map g) 16 fun q hq => pl q (inq q hq)
      rw [List.length_map] at sl
      refine ⟨_, D, ((ds.drop 1).take n).map g, rfl, rfl, .inl (SqL.of hL2), ?_, k _ _ ((sH.trans s6).trans s7) inq (by rw [List.length_map]; omega)⟩
      have e0 : (Str.ofString "").length = 0 := by decide +kernel
      rw [e0]
      omega
end
end Jr
namespace Jr
open PySem PySem.Spec PyProof.Rows L2
section
variable {P : Program} {w : World} {K : PySem.W.Frag} {mg : Str → Option Value} {base : Heap}
/-- the pieces, by their numbers -/
def spPiecesT (K : PySem.W.Frag) : Sp := fun vs H Q _ => ∃ (tt p : Addr) (z : Str) (rs : Rws), vs = [.ref tt] ∧ H tt = some (.tup [.str z, .ref p]) ∧ RowsAt H p rs ∧ TabOk z rs ∧
  ∀ H' b, Same H H' → H b = none → H' b = some (.lst ((pcs z rs).map V.str)) → Q (.ref b) H'
theorem cal__law_pieces (T : Tx K mg) : Cal P w K mg base CX0 1 "_law_pieces" (spPiecesT K) := by
  obtain ⟨fd, F⟩ := T.d__law_pieces
  refine ⟨_, fd, P__law_pieces, F.ok sc__law_pieces (fun vs H Q E h => ?_) (fun cdv A outer s H vs Q E hr h => ?_), T.g__law_pieces, F.kp, F.bindsN (ps := P__law_pieces) fun _ _ _ _ _ _ us hl => match us, hl with | [_], _ => rfl⟩
  · obtain ⟨tt, p, z, rs, rfl, _⟩ := h
    rfl
  · obtain ⟨tt, p, z, rs, rfl, htt, ⟨as, hp, hrs⟩, tk, k⟩ := h
    refine ⟨_, (PSs.nox (pss_one (ps_ret (pe_op op_cat (pe_callTy (T := "list") (call_list_str rfl) (by rfl) T.n_list (by decide +kernel) (pa_cons (pe_ix ix_tup (pv 0) pe_int (fun _ _ => rfl)) pa_nil)) (pe_lc (own := [("_law_left", 1), ("_law_right", 2)]) (g := gTup K 2 (gCons (gName 1) (gCons (gName 2) gNil))) (by rfl) sc__law_pieces.nd (pi_list (pe_ix ix_tup (pv 0) pe_int (fun _ _ => rfl))) (blkOk_by (own := [("_law_left", 1), ("_law_right", 2)]) (N := N__law_pieces) (sc := defScope s__law_pieces) (by decide +kernel)) (fun _ _ _ _ _ => (pg_tup rfl (pgs_cons (pg_name (i := 1) sc__law_pieces.nd rfl (Or.inl rfl)) (pgs_cons (pg_name (i := 2) sc__law_pieces.nd rfl (Or.inl rfl)) pgs_nil)))) (fun _ _ _ _ _ => pts_nil) (fun _ _ _ _ _ => (pe_op op_add_str (pv 1) (pv 2)))))))), ?_⟩
    have n12 := tk.n12
    have many := tk.many
    refine ⟨_, rfl, tt, _, _, _, rfl, rfl, SqT.of htt, rfl, z, rfl, sz (by omega), fun l hl => ?_⟩
    have s1 := Same.new (o := .lst ((sgs z).map V.str)) hl
    have hts := TupAt.same s1 hrs
    have hS : SqL K (upd H l (.lst ((sgs z).map V.str))) p ((as.zip rs).map fun x => V.ref x.1) := by
      rw [zip_fst V.ref hrs]
      exact SqL.of (s1 _ _ hp)
    refine ⟨_, rfl, tt, _, _, _, rfl, rfl, SqT.of (s1 _ _ htt), rfl, p, rfl, ⟨_, hS⟩, fun D hD => lc_listM (K := K) (item := fun x : Addr × (Str × Str) => V.ref x.1) (p := fun _ => true) (f := fun x => V.str (jn x.2)) (l := as.zip rs) hS hD ?_ (fun x hx H2 s2 N M hM _ => ?_) (fun H2 s2 hL => ?_)⟩
    · rw [List.length_zip]
      omega
    · obtain ⟨hx1, hx2⟩ := zip_mem hts x hx
      obtain ⟨i, hi, ei⟩ := List.mem_iff_getElem.mp hx2
      have ro := tk.rows i x.2 (by rw [List.getElem?_eq_getElem hi, ei])
      have ll := ro.len
      have le : (jn x.2).length = x.2.1.length + x.2.2.length := app_len _ _
      exact ⟨x.1, _, rfl, SqT.of (s2 _ _ hx1), rfl, _, _, rfl, _, _, rfl, rfl, rfl, _, rfl, _, rfl, _, _, rfl, rfl, sz (by omega), hM rfl⟩
    · have ef : (as.zip rs).filter (fun _ => true) = as.zip rs := List.filter_eq_self.mpr fun _ _ => rfl
      rw [ef, zip_snd (fun r => V.str (jn r)) hrs] at hL
      have hl2 := s2 _ _ (show (upd H l (.lst ((sgs z).map V.str))) l = _ from upd_same)
      have sm := s1.trans s2
      have e : (sgs z).map V.str ++ rs.map (fun r => V.str (jn r)) = (pcs z rs).map V.str := by
        unfold pcs
        rw [List.map_append, List.map_map]; rfl
      refine ⟨l, D, _, _, rfl, rfl, hl2, hL, ?_, fun q hq => ?_⟩
      · rw [List.length_map, List.length_map, sgs_len]; exact sz (by omega)
      · rw [e]
        exact k _ q (Same.put sm hq) (sm.free hq) upd_same
end
end Jr
namespace Jr
open PySem PySem.Spec PyProof.Rows L2
section
variable {α : Type}
theorem p7a51 (a b c d e f g : α) : [a, b, c, d, e, f, g].Perm [a, b, g, c, d, e, f] := by
  classical
  refine List.perm_iff_count.mpr fun x => ?_
  simp only [List.count_cons, List.count_nil]
  omega
theorem p7b51 (a b c d e f g : α) : [a, b, g, c, d, e, f].Perm [c, d, f, a, b, g, e] := by
  classical
  refine List.perm_iff_count.mpr fun x => ?_
  simp only [List.count_cons, List.count_nil]
  omega
theorem p7c51 (a b c d e f g : α) : [c, d, f, a, b, g, e].Perm [a, b, c, d, f, g, e] := by
  classical
  refine List.perm_iff_count.mpr fun x => ?_
  simp only [List.count_cons, List.count_nil]
  omega
theorem p4_51 (a b c d : α) (M : List α) : (a :: b :: c :: d :: M).Perm (c :: d :: a :: b :: M) := by
  classical
  refine List.perm_iff_count.mpr fun x => ?_
  simp only [List.count_cons]
  omega
theorem p6_51 (a b c d e f : α) (M : List α) : (a :: b :: c :: d :: e :: f :: M).Perm (e :: f :: a :: b :: c :: d :: M) := by
  classical
  refine List.perm_iff_count.mpr fun x => ?_
  simp only [List.count_cons]
  omega
theorem set_perm51 : ∀ {es : List α} {i : Nat} {e : α} (e' : α), es[i]? = some e → (es.set i e').Perm (e' :: es.eraseIdx i)
  | a :: es, 0, e, e', _ => .refl _
  | a :: es, i + 1, e, e', h => by
    have ih := set_perm51 e' (show es[i]? = some e from h)
    show (a :: es.set i e').Perm (e' :: a :: es.eraseIdx i)
    exact (ih.cons a).trans (.swap _ _ _)
theorem get_perm51 {es : List α} {i : Nat} {e : α} (h : es[i]? = some e) : es.Perm (e :: es.eraseIdx i) := by
  have := set_perm51 e h
  have e2 : es.set i e = es := by
    obtain ⟨h1, h2⟩ := List.getElem?_eq_some_iff.mp h
    rw [← h2, List.set_getElem_self]
  rwa [e2] at this
end
/-- a kept text, with its state -/
structure K3 where
  x : Addr
  dx : Addr
  f : Addr
  cu : Addr
  t : Str
  wb : Addr
  ws : List V
def k3L (K : PySem.W.Frag) (e : K3) : List (Addr × HO) := ktL K e.x e.dx e.f e.cu e.t e.wb e.ws
theorem k3_out {K : PySem.W.Frag} {es : List K3} {i : Nat} {e : K3} (h : es[i]? = some e) (M : List (Addr × HO)) : (es.flatMap (k3L K) ++ M).Perm (k3L K e ++ ((es.eraseIdx i).flatMap (k3L K) ++ M)) := by
  have := ((get_perm51 h).flatMap_right (k3L K)).append_right M
  rw [List.flatMap_cons, List.append_assoc] at this
  exact this
theorem k3_in {K : PySem.W.Frag} {es : List K3} {i : Nat} {e : K3} (e' : K3) (h : es[i]? = some e) (M : List (Addr × HO)) : (k3L K e' ++ ((es.eraseIdx i).flatMap (k3L K) ++ M)).Perm ((es.set i e').flatMap (k3L K) ++ M) := by
  have := ((set_perm51 e' h).flatMap_right (k3L K)).append_right M
  rw [List.flatMap_cons, List.append_assoc] at this
  exact this.symm
theorem asW51 {S H : Hp} (s : Same S H) {ws : List V} {es : List En} (h : Paired (WbAt S) ws es) : Aside H (.lst ws) := .inr ⟨ws, rfl, fun a vs' e => by
  subst e
  cases h with
  | cons h _ =>
    obtain ⟨y, e, hy⟩ := h
    cases e
    exact ⟨_, s _ _ hy, fun y ys e => by cases e⟩⟩
theorem asA51 {S H : Hp} (s : Same S H) {as : List Addr} {es : List En} (h : Paired (EnAt S) as es) : Aside H (.lst (as.map V.ref)) := .inr ⟨_, rfl, fun a vs' e => by
  cases h with
  | nil => cases e
  | cons h _ =>
    cases e
    obtain ⟨b, hb, _⟩ := h
    exact ⟨_, s _ _ hb, fun y ys e => by cases e⟩⟩
theorem asI51 {K : PySem.W.Frag} {H : Hp} {dx f cu wb : Addr} {t : Str} : Aside H (.ins (KC K) dx (kf f cu t wb)) := .inl ⟨_, _, _, rfl, by show 4 ≠ 7; decide⟩
/-- what stands in the region beside: kept texts, their ways back, stacks of changes -/
def Ki51 (K : PySem.W.Frag) (S : Hp) (o : HO) : Prop := (∃ dx f cu t wb, o = HO.ins (KC K) dx (kf f cu t wb)) ∨ (∃ ws es, o = HO.lst ws ∧ Paired (WbAt S) ws es) ∨ ∃ as es, o = HO.lst (List.map V.ref as) ∧ Paired (EnAt S) as es
def KiL51 (K : PySem.W.Frag) (S : Hp) (L : List (Addr × HO)) : Prop := ∀ q ∈ L, Ki51 K S q.2
section
variable {K : PySem.W.Frag} {S H : Hp} {L M : List (Addr × HO)}
theorem KiL51.nil : KiL51 K S [] := fun q h => by cases h
theorem KiL51.kt {x dx f cu wb : Addr} {t : Str} {ws : List V} {es : List En} (h : Paired (WbAt S) ws es) (m : KiL51 K S L) : KiL51 K S (ktL K x dx f cu t wb ws ++ L) := fun q hq => by
  rcases List.mem_cons.mp hq with e | hq
  · rw [e]; exact .inl ⟨_, _, _, _, _, rfl⟩
  rcases List.mem_cons.mp hq with e | hq
  · rw [e]; exact .inr (.inl ⟨_, _, rfl, h⟩)
  · exact m q hq
theorem KiL51.st {a : Addr} {as : List Addr} {es : List En} (h : Paired (EnAt S) as es) (m : KiL51 K S L) : KiL51 K S ((a, HO.lst (as.map V.ref)) :: L) := fun q hq => by
  rcases List.mem_cons.mp hq with e | hq
  · rw [e]; exact .inr (.inr ⟨_, _, rfl, h⟩)
  · exact m q hq
theorem KiL51.perm (m : KiL51 K S L) (p : M.Perm L) : KiL51 K S M := fun q hq => m q (p.mem_iff.mp hq)
theorem KiL51.aside (m : KiL51 K S L) (s : Same S H) : ∀ q ∈ L, Aside H q.2 := fun q hq => by
  rcases m q hq with ⟨_, _, _, _, _, e⟩ | ⟨_, _, e, h⟩ | ⟨_, _, e, h⟩
  · rw [e]; exact asI51
  · rw [e]; exact asW51 s h
  · rw [e]; exact asA51 s h
end
theorem set_same51 {α β : Type} {f : α → β} : ∀ {es : List α} {i : Nat} {e e' : α}, es[i]? = some e → f e' = f e → (es.map f).set i (f e') = es.map f
  | a :: es, 0, e, e', h, q => by
    cases h
    show f e' :: es.map f = _
    rw [q]; rfl
  | a :: es, i + 1, e, e', h, q => by
    show f a :: (es.map f).set i (f e') = _
    rw [set_same51 (es := es) h q]; rfl
theorem app_ac51 {α : Type} (a b c : List α) : (a ++ (b ++ c)).Perm (b ++ (a ++ c)) := by
  rw [← List.append_assoc, ← List.append_assoc]
  exact List.perm_append_comm.append_right c
theorem Paired.snoc51 {α β : Type} {F : α → β → Prop} {l : List α} {m : List β} {x : α} {y : β} (h : Paired F l m) (hx : F x y) : Paired F (l ++ [x]) (m ++ [y]) := Paired.app h (.cons hx .nil)
abbrev teT51 (K : PySem.W.Frag) : TE := fun σ H Q => tCons (tVar 19) (tCons (tVar 6) tNil) σ H fun vs H1 => ∀ (x dx : Addr), H1 x = none → H1 dx = none → dx ≠ x → spTInit2 K (V.ref x :: vs) (upd (upd H1 dx (HO.own x)) x (HO.ins (TC K) dx [])) (fun v H2 => v = V.non ∧ Q (V.ref x) H2) E0
section
variable {P : Program} {w : World} {K : PySem.W.Frag} {mg : Str → Option Value} {base : Heap}
def spBlock51 (K : PySem.W.Frag) : Sp := fun vs H Q _ => ∃ (a : Addr) (ns : List Int) (i : Nat), vs = [.ref a, .int (i : Nat)] ∧ SqL K H a (ns.map V.int) ∧ i ≤ 63 ∧ ∀ H', Same H H' → Q (.bl true) H'
theorem cal__law_block (T : Tx K mg) : Cal P w K mg base CX0 14 "_law_block" (spBlock51 K) := by
  have C__law_cell_at := cal__law_cell_at (P := P) (w := w) (base := base) T
  have C__law_made := cal__law_made (P := P) (w := w) (base := base) T
  have C__law_pieces := cal__law_pieces (P := P) (w := w) (base := base) T
  have C__law_words := cal__law_words (P := P) (w := w) (base := base) T
  have C__law_begun := cal__law_begun (P := P) (w := w) (base := base) T
  have C__law_held := cal__law_held (P := P) (w := w) (base := base) T
  have C__law_places := cal__law_places (P := P) (w := w) (base := base) T
  have C__law_same := cal__law_same (P := P) (w := w) (base := base) T
  have C__law_drawn := cal__law_drawn (P := P) (w := w) (base := base) T
  have C__law_changed := cal__law_changed (P := P) (w := w) (base := base) T
  have C__law_refused := cal__law_refused (P := P) (w := w) (base := base) T
  have C__law_behind := cal__law_behind (P := P) (w := w) (base := base) T
  have C__law_undone := cal__law_undone (P := P) (w := w) (base := base) T
  have C_Table := mkc_Table2 (P := P) (w := w) (base := base) T
  have C_Kept := mkc_Kept2 (P := P) (w := w) (base := base) T
  have M_Kept_twin := met_ktwin (P := P) (w := w) (base := base) T
  have M_Kept_under := (metx_under51 (P := P) (w := w) (base := base) T).calm
  obtain ⟨fd, F⟩ := T.d__law_block
  refine ⟨_, fd, P__law_block, F.ok sc__law_block (fun vs H Q E h => ?_) (fun cdv A outer s H vs Q E hr h => ?_), T.g__law_block, F.kp, F.bindsN (ps := P__law_block) fun _ _ _ _ _ _ us hl => match us, hl with | [_, _], _ => rfl⟩
  · obtain ⟨a, ns, i, rfl, _⟩ := h
    rfl
  · obtain ⟨a, ns, i, rfl, hS, hi, k⟩ := h
    refine ⟨_, (PSs.nox (pss_cons (ps_set (i := 2) sc__law_block.nd rfl (Or.inl rfl) (pe_cal C__law_made (by first | exact hr | exact hr.mono (by decide)) (by rfl) (pa_cons (pv 0) (pa_cons (pv 1) pa_nil))))
      (pss_cons (ps_asg (pe_lc (own := [("_law_signs_here", 19), ("_law_rows_here", 6)]) (g := gTup K 2 (gCons (gName 19) (gCons (gName 6) gNil))) (by rfl) sc__law_block.nd (pi_list (pv 2)) (blkOk_by (own := [("_law_signs_here", 19), ("_law_rows_here", 6)]) (N := N__law_block) (sc := defScope s__law_block) (by decide +kernel)) (fun _ _ _ _ _ => (pg_tup rfl (pgs_cons (pg_name (i := 19) sc__law_block.nd rfl (Or.inl rfl)) (pgs_cons (pg_name (i := 6) sc__law_block.nd rfl (Or.inl rfl)) pgs_nil)))) (fun _ _ _ _ _ => pts_nil) (fun _ _ _ _ _ => (pe_mk C_Table (by first | exact hr | exact hr.mono (by decide)) rfl (pa_cons (pv 19) (pa_cons (pv 6) pa_nil))))) (pg_lst rfl (pgs_cons (pg_name (i := 3) sc__law_block.nd rfl (Or.inl rfl)) (pgs_cons (pg_name (i := 4) sc__law_block.nd rfl (Or.inl rfl)) (pgs_cons (pg_name (i := 5) sc__law_block.nd rfl (Or.inl rfl)) pgs_nil)))))
      (pss_cons (ps_set (i := 6) sc__law_block.nd rfl (Or.inl rfl) (pe_lstG (pa_cons (pe_ix ix_tup (pe_ix ix_list (pv 2) pe_int (fun _ _ => rfl)) pe_int (fun _ _ => rfl)) (pa_cons (pe_ix ix_tup (pe_ix ix_list (pv 2) pe_int (fun _ _ => rfl)) pe_int (fun _ _ => rfl)) pa_nil))))
      (pss_cons (ps_set (i := 7) sc__law_block.nd rfl (Or.inl rfl) (pe_cal C__law_pieces (by first | exact hr | exact hr.mono (by decide)) (by rfl) (pa_cons (pe_ix ix_list (pv 2) pe_int (fun _ _ => rfl)) pa_nil)))
      (pss_cons (ps_set (i := 8) sc__law_block.nd rfl (Or.inl rfl) (pe_slice sl_str (pe_cal C__law_words (by first | exact hr | exact hr.mono (by decide)) (by rfl) (pa_cons (pe_cal C__law_cell_at (by first | exact hr | exact hr.mono (by decide)) (by rfl) (pa_cons (pv 0) (pa_cons (pe_op op_add (pv 1) pe_int) pa_nil))) (pa_cons (pe_op op_add pe_int (pv 1)) (pa_cons (pv 7) (pa_cons pe_int pa_nil))))) po_none (po_some pe_int)))
      (pss_cons (ps_set (i := 9) sc__law_block.nd rfl (Or.inl rfl) (pe_mk C_Kept (by first | exact hr | exact hr.mono (by decide)) rfl (pa_cons (pv 3) (pa_cons (pv 8) pa_nil))))
      (pss_cons (ps_asg (pe_cal C__law_begun (by first | exact hr | exact hr.mono (by decide)) (by rfl) (pa_cons (pv 0) (pa_cons (pv 1) (pa_cons (pv 7) (pa_cons (pv 9) (pa_cons (pv 8) pa_nil)))))) (pg_tup rfl (pgs_cons (pg_name (i := 10) sc__law_block.nd rfl (Or.inl rfl)) (pgs_cons (pg_name (i := 11) sc__law_block.nd rfl (Or.inl rfl)) pgs_nil))))
      (C8.pss_cut (ps_set (i := 12) sc__law_block.nd rfl (Or.inl rfl) (pe_met M_Kept_under (pv 9) (by first | exact hr | exact hr.mono (by decide)) (pa_cons (pv 4) pa_nil)))
      (pss_cons (ps_if (PW.pt (pw_or (pt_not (pt_val (pe_cal C__law_held (by first | exact hr | exact hr.mono (by decide)) (by rfl) (pa_cons (pv 12) (pa_cons (pe_ix ix_list (pv 6) pe_int (fun _ _ => rfl)) (pa_cons (pv 11) pa_nil)))))) (pw_or1 (pt_not (pt_val (pe_cal C__law_places (by first | exact hr | exact hr.mono (by decide)) (by rfl) (pa_cons (pv 12) (pa_cons (pe_ix ix_list (pv 6) pe_int (fun _ _ => rfl)) (pa_cons (pv 11) pa_nil))))))))) (pss_one (ps_ret pe_bl)) pss_nil)
      (C8.pss_cut (ps_if (PW.pt (pw_or (pt_not (pt_val (pe_cal C__law_same (by first | exact hr | exact hr.mono (by decide)) (by rfl) (pa_cons (pv 12) (pa_cons (pe_ix ix_list (pv 2) pe_int (fun _ _ => rfl)) pa_nil))))) (pw_or1 (pt_not (pt_val (pe_cal C__law_same (by first | exact hr | exact hr.mono (by decide)) (by rfl) (pa_cons (pv 9) (pa_cons (pe_ix ix_list (pv 2) pe_int (fun _ _ => rfl)) pa_nil)))))))) (pss_one (ps_ret pe_bl)) pss_nil)
      (pss_cons (ps_set (i := 13) sc__law_block.nd rfl (Or.inl rfl) (pe_lstG (pa_cons (pe_callTy (T := "list") call_listG (by rfl) T.n_list (by decide +kernel) (pa_cons (pv 10) pa_nil)) (pa_cons (pe_callTy (T := "list") call_listG (by rfl) T.n_list (by decide +kernel) (pa_cons (pv 10) pa_nil)) pa_nil))))
      (pss_cons (ps_set (i := 14) sc__law_block.nd rfl (Or.inl rfl) (pe_cal C__law_drawn (by first | exact hr | exact hr.mono (by decide)) (by rfl) (pa_cons (pe_cal C__law_cell_at (by first | exact hr | exact hr.mono (by decide)) (by rfl) (pa_cons (pv 0) (pa_cons (pe_op op_add (pv 1) pe_int) pa_nil))) (pa_cons (pe_op op_add pe_int (pv 1)) (pa_cons (pv 7) (pa_cons (pv 11) pa_nil))))))
      (C8.pss_cut (ps_set (i := 15) sc__law_block.nd rfl (Or.inl rfl) (pe_cal C__law_drawn (by first | exact hr | exact hr.mono (by decide)) (by rfl) (pa_cons (pe_cal C__law_cell_at (by first | exact hr | exact hr.mono (by decide)) (by rfl) (pa_cons (pv 0) (pa_cons (pe_op op_add (pv 1) pe_int) pa_nil))) (pa_cons (pe_op op_add pe_int (pv 1)) (pa_cons (pv 7) (pa_cons (pv 11) pa_nil))))))
      (C8.pss_cut (ps_if (pt_not (pt_val (pe_cal C__law_changed (by first | exact hr | exact hr.mono (by decide)) (by rfl) (pa_cons (pv 12) (pa_cons (pe_ix ix_list (pv 6) pe_int (fun _ _ => rfl)) (pa_cons (pe_ix ix_list (pv 13) pe_int (fun _ _ => rfl)) (pa_cons (pv 11) (pa_cons (pv 14) pa_nil)))))))) (pss_one (ps_ret pe_bl)) pss_nil)
      (C8.pss_cut (ps_if (pt_not (pt_val (pe_cal C__law_changed (by first | exact hr | exact hr.mono (by decide)) (by rfl) (pa_cons (pv 9) (pa_cons (pe_ix ix_list (pv 6) pe_int (fun _ _ => rfl)) (pa_cons (pe_ix ix_list (pv 13) pe_int (fun _ _ => rfl)) (pa_cons (pv 11) (pa_cons (pv 15) pa_nil)))))))) (pss_one (ps_ret pe_bl)) pss_nil)
      (pss_cons (ps_for PassesOwn.never rfl (pi_range1 (by rfl) T.n_range (pa_cons pe_int pa_nil)) (pg_name (i := 16) sc__law_block.nd rfl (Or.inl rfl)) (pss_one (ps_if (PW.pt (pw_or (pt_not (pt_val (pe_cal C__law_refused (by first | exact hr | exact hr.mono (by decide)) (by rfl) (pa_cons (pv 9) (pa_cons (pv 5) (pa_cons pe_int pa_nil)))))) (pw_or1 (pt_not (pt_val (pe_cal C__law_refused (by first | exact hr | exact hr.mono (by decide)) (by rfl) (pa_cons (pv 12) (pa_cons (pv 5) (pa_cons pe_int pa_nil))))))))) (pss_one (ps_ret pe_bl)) pss_nil)))
      (pss_cons (ps_set (i := 17) sc__law_block.nd rfl (Or.inl rfl) (pe_cal C__law_behind (by first | exact hr | exact hr.mono (by decide)) (by rfl) (pa_cons (pv 11) (pa_cons (pv 14) pa_nil))))
      (pss_cons (ps_for PassesOwn.never rfl (pi_list (pe_lstG (pa_cons (pe_met0 M_Kept_twin (pv 12) (by first | exact hr | exact hr.mono (by decide))) (pa_cons (pe_met M_Kept_under (pv 12) (by first | exact hr | exact hr.mono (by decide)) (pa_cons (pv 4) pa_nil)) (pa_cons (pv 12) pa_nil))))) (pg_name (i := 18) sc__law_block.nd rfl (Or.inl rfl)) (pss_cons (ps_if (PW.pt (pw_or (pt_not (pt_val (pe_cal C__law_places (by first | exact hr | exact hr.mono (by decide)) (by rfl) (pa_cons (pv 18) (pa_cons (pe_ix ix_list (pv 6) pe_int (fun _ _ => rfl)) (pa_cons (pv 17) pa_nil)))))) (pw_or1 (pt_not (pt_val (pe_cal C__law_undone (by first | exact hr | exact hr.mono (by decide)) (by rfl) (pa_cons (pv 18) (pa_cons (pe_ix ix_list (pv 6) pe_int (fun _ _ => rfl)) (pa_cons (pe_ix ix_list (pv 13) pe_int (fun _ _ => rfl)) (pa_cons (pv 17) pa_nil)))))))))) (pss_one (ps_ret pe_bl)) pss_nil)
      (pss_one (ps_if (pt_not (pt_val (pe_cal C__law_refused (by first | exact hr | exact hr.mono (by decide)) (by rfl) (pa_cons (pv 18) (pa_cons (pv 4) (pa_cons pe_int pa_nil)))))) (pss_one (ps_ret pe_bl)) pss_nil))))
      (pss_cons (ps_if (PW.pt (pw_or (pt_not (pt_val (pe_cal C__law_held (by first | exact hr | exact hr.mono (by decide)) (by rfl) (pa_cons (pv 9) (pa_cons (pe_ix ix_list (pv 6) pe_int (fun _ _ => rfl)) (pa_cons (pe_cal C__law_behind (by first | exact hr | exact hr.mono (by decide)) (by rfl) (pa_cons (pv 11) (pa_cons (pv 15) pa_nil))) pa_nil)))))) (pw_or1 (pt_not (pt_val (pe_cal C__law_same (by first | exact hr | exact hr.mono (by decide)) (by rfl) (pa_cons (pv 9) (pa_cons (pe_ix ix_list (pv 2) pe_int (fun _ _ => rfl)) pa_nil)))))))) (pss_one (ps_ret pe_bl)) pss_nil)
      (pss_cons (ps_if (pt_not (pt_val (pe_cal C__law_undone (by first | exact hr | exact hr.mono (by decide)) (by rfl) (pa_cons (pv 9) (pa_cons (pe_ix ix_list (pv 6) pe_int (fun _ _ => rfl)) (pa_cons (pe_ix ix_list (pv 13) pe_int (fun _ _ => rfl)) (pa_cons (pe_cal C__law_behind (by first | exact hr | exact hr.mono (by decide)) (by rfl) (pa_cons (pv 11) (pa_cons (pv 15) pa_nil))) pa_nil))))))) (pss_one (ps_ret pe_bl)) pss_nil)
      (pss_one (ps_ret (pe_and (pe_cal C__law_refused (by first | exact hr | exact hr.mono (by decide)) (by rfl) (pa_cons (pv 9) (pa_cons (pv 4) (pa_cons pe_int pa_nil)))) (pe_one (pe_cal C__law_held (by first | exact hr | exact hr.mono (by decide)) (by rfl) (pa_cons (pv 12) (pa_cons (pe_ix ix_list (pv 6) pe_int (fun _ _ => rfl)) (pa_cons (pv 8) pa_nil))))))))))))))))))))))))))))), ?_⟩
    refine ⟨_, rfl, _, rfl, a, ns, i, rfl, hS, hi, fun H1 L t0 t1 t2 p0 p1 p2 z0 z1 z2 rs0 rs1 s1 hL ht0 ht1 ht2 hR0 hR1 hR2 T0 T1 T2 sz01 nsz => ?_⟩
    have hys : Paired (fun (t : Addr) (y : Addr × Str × Rws) => H1 t = some (.tup [.str y.2.1, .ref y.1]) ∧ RowsAt H1 y.1 y.2.2 ∧ TabOk y.2.1 y.2.2) [t0, t1, t2] [(p0, z0, rs0), (p1, z1, rs1), (p2, z2, [])] := .cons ⟨ht0, hR0, T0⟩ (.cons ⟨ht1, hR1, T1⟩ (.cons ⟨ht2, hR2, T2⟩ .nil))
    have hL' : H1 L = some (.lst ([t0, t1, t2].map V.ref)) := hL
    refine ⟨_, rfl, L, rfl, ⟨_, SqL.of hL'⟩, fun D hD => lc_list (te := teT51 K) (K := K) (a := L) (xs := [t0, t1, t2].map V.ref) (fun i H' => ∃ (St : Hp) (bs : List Addr), Reg St H' [(D, .lst (bs.map V.ref))] ∧ Same H1 St ∧ Paired (fun b (y : Addr × Str × Rws) => TabAt (TC K) St b y.2.1 y.2.2) bs ([(p0, z0, rs0), (p1, z1, rs1), (p2, z2, [])].take i) ∧ bs.length = i)
      ⟨H1, [], (Reg.nil H1).new hD (Same.new hD) upd_same, Same.refl _, .nil, rfl⟩ (fun i H' _ ⟨_, _, r, s, _⟩ => SqL.of (r.same _ _ (s _ _ hL'))) ?_ ?_⟩
    · rintro i y H' hi ⟨St, bs, rg, sSt, hf, hbl⟩
      rw [List.getElem?_map] at hi
      cases el : [t0, t1, t2][i]? with
      | none => rw [el] at hi; cases hi
      | some e =>
        rw [el] at hi
        cases hi
        obtain ⟨⟨p, z, rs⟩, hy, ⟨hte, hRe, tke⟩⟩ := Paired.get hys el
        have hi3 : i < 3 := by
          have := (List.getElem?_eq_some_iff.mp el).1
          exact this
        have hte' : H' e = _ := (sSt.trans rg.same) _ _ hte
        have hRe' := hRe.same (sSt.trans rg.same)
        refine ⟨e, _, rfl, SqT.of hte', rfl, _, _, rfl, _, _, rfl, rfl, rfl, ?_⟩
        refine ⟨_, rfl, _, rfl, ?_⟩
        intro x1 dx1 hx1 hdx1 ndx1
        refine ⟨_, x1, dx1, p, z, rs, rfl, rfl, hx1, hdx1, ndx1, hRe', tke, fun H10 s10 tf => ⟨rfl, ?_⟩⟩
        have r10 := rg.step s10
        obtain ⟨g10, sS10⟩ := rg.grow s10
        have hD' : H' D = some _ := rg.get (i := 0) rfl
        have tfo : TabAt (TC K) (out H10 [(D, .lst (bs.map V.ref))]) x1 z rs := (tf.keep fun b o h0 hb => out_of hb (fun hm => by
          have eb : b = D := by simpa using hm
          rw [eb, hD'] at h0; cases h0)).tab
        refine ⟨_, r10.get (i := 0) rfl, by rw [List.length_map, hbl]; exact szl (by omega), out H10 [(D, .lst (bs.map V.ref))], bs ++ [x1], ?_, sSt.trans sS10, ?_, by rw [List.length_append, hbl]; rfl⟩
        · rw [List.map_append]
          exact g10.set (i := 0) (a := D) rfl
        · have et : ([(p0, z0, rs0), (p1, z1, rs1), (p2, z2, [])] : List (Addr × Str × Rws)).take (i + 1) = ([(p0, z0, rs0), (p1, z1, rs1), (p2, z2, [])] : List (Addr × Str × Rws)).take i ++ [(p, z, rs)] := by rw [List.take_add_one, hy]; rfl
          rw [et]
          exact Paired.app (_root_.L2.Paired.mapP hf fun _ _ h => h.same sS10) (.cons tfo .nil)
    · rintro H2 ⟨St, bs, rg, sSt, hf, hbl⟩
      change Paired _ bs [(p0, z0, rs0), (p1, z1, rs1), (p2, z2, [])] at hf
      cases hf with
      | @cons xa _ bs1 _ fa hf =>
        cases hf with
        | @cons xb _ bs2 _ fb hf =>
          cases hf with
          | @cons xc _ bs3 _ fc hf =>
            cases hf
            have ta := fa.same rg.same
            have tb := fb.same rg.same
            have tc := fc.same rg.same
            have s2 := sSt.trans rg.same
            have hDD : H2 D = some (.lst [V.ref xa, V.ref xb, V.ref xc]) := rg.get (i := 0) rfl
            refine ⟨D, _, rfl, SqL.of hDD, rfl, _, _, rfl, _, _, rfl, _, _, rfl, rfl, ?_⟩
            have hL2 := s2 _ _ hL
            have ht02 := s2 _ _ ht0
            have ht12 := s2 _ _ ht1
            have hR02 := hR0.same s2
            have hR12 := hR1.same s2
            have hS2 := (s1.trans s2).seq hS
            have sA := s1.trans s2
            clear hys hL' fa fb fc rg
            refine ⟨_, rfl, L, _, _, _, rfl, rfl, SqL.of hL2, ats rfl, t0, _, _, _, rfl, rfl, SqT.of ht02, rfl, _, rfl, L, _, _, _, rfl, rfl, SqL.of hL2, ats rfl, t1, _, _, _, rfl, rfl, SqT.of ht12, rfl, (by show 2 ≤ sizeLine; decide), fun lr H3 nlr s3 hlr => ?_⟩
            refine ⟨_, rfl, L, _, _, _, rfl, rfl, SqL.of (s3 _ _ hL2), ats rfl, t0, p0, z0, rs0, rfl, s3 _ _ ht02, hR02.same s3, T0, fun H4 lp s4 nlp hlp => ?_⟩
            have s34 := s3.trans s4
            have np : 0 < (pcs z0 rs0).length := by rw [pcs_len]; have := T0.n1; omega
            have pl16 : ∀ q ∈ pcs z0 rs0, q.length ≤ 16 := fun q hq => (T0.plen hq).2
            refine ⟨_, rfl, _, rfl, _, _, rfl, rfl, a, ns, i + 1, rfl, s34.seq hS2, fun c1 => ?_⟩
            refine ⟨_, rfl, _, _, rfl, rfl, _, rfl, ?_⟩
            refine ⟨c1, _, lp, pcs z0 rs0, 3, rfl, ?_, ?_, SqL.of hlp, np, pl16, by decide, fun H5 qs s5 hqs lqs => ?_⟩
            · show (0 : Int) ≤ 5101 + ((i : Nat) : Int)
              omega
            · show 5101 + ((i : Nat) : Int) ≤ 100000
              omega
            obtain ⟨tx0, tl0⟩ := join_pcs T0 hqs
            generalize Txt.join (Str.ofString "") qs = tw at tx0 tl0
            refine ⟨_, rfl, tw, rfl, sz (by omega), ?_⟩
            rw [show (some (16 : Int)) = some ((16 : Nat) : Int) from rfl, cutS_pre]
            have txf : TextOf z0 (preS tw 16) := text_pre tx0 16
            have tlf : (preS tw 16).length ≤ 16 := by rw [← len_cps, preS_cps, List.length_take]; omega
            revert txf tlf
            generalize preS tw 16 = tf
            intro txf tlf
            have s35 := s34.trans s5
            refine ⟨_, rfl, _, rfl, ?_⟩
            intro x dx hx0 hdx0 ndx0
            refine ⟨H5, H5, [], x, dx, xa, z0, rs0, tf, rfl, rfl, hx0, hdx0, ndx0, ta.same s35, Reg.nil H5, fun q hq => (by cases hq), txf, by omega, fun S1 H6 f1 cu1 wb1 s6 F1 r1 => ⟨rfl, ?_⟩⟩
            rw [List.append_nil] at r1
            have q25 := s35.trans s6
            refine ⟨_, rfl, _, rfl, _, rfl, _, rfl, _, rfl, S1, a, ns, i, lp, x, dx, f1, cu1, wb1, z0, rs0, tf, rfl, hi, q25.seq hS2, (s5.trans s6).seq (SqL.of hlp), F1, by omega, r1, fun S2 H7 r sk cu2 tb1 ws es as sS2 F2 hr hW hE st el r2 => ?_⟩
            refine ⟨r, _, rfl, SqT.of hr, rfl, _, _, rfl, _, _, rfl, rfl, ?_⟩
            have q26 := q25.trans sS2
            obtain ⟨txb, tlb⟩ := st.bound txf (by omega)
            have wl : ws.length ≤ 2 := by rw [Paired.len hW]; exact el
            have al : as.length ≤ 2 := by rw [Paired.len hE]; exact el
            refine ⟨fun σ H' => ∃ (S3 : Hp) (y dy f3 cu3 wb3 : Addr), σ = [some (.ref a), some (.int (i : Nat)), some (.ref L), some (.ref xa), some (.ref xb), some (.ref xc), some (.ref lr), some (.ref lp), some (.str tf), some (.ref x), some (.ref sk), some (.str tb1), some (.ref y), none, none, none, none, none, none, none] ∧ Same S2 S3 ∧ KeptF K S3 f3 z1 rs1 tb1 cu3 ∧ Reg S3 H' (ktL K y dy f3 cu3 tb1 wb3 ws ++ (ktL K x dx f1 cu2 tb1 wb1 ws ++ [(sk, HO.lst (as.map V.ref))])), ?_, ?_⟩
            · refine ⟨_, rfl, x, dx, _, rfl, r2.get (i := 0) rfl, kf_mund _ _ _ _, _, rfl, S2, [(sk, HO.lst (as.map V.ref))], x, dx, f1, cu2, wb1, xb, z0, z1, rs0, rs1, tb1, ws, rfl, F2, tb.same q26, r2, ?_, fun _ S3 H8 y dy f3 cu3 wb3 sS3 F3 r3 => ⟨S3, y, dy, f3, cu3, wb3, rfl, sS3, F3, r3⟩, fun n => absurd sz01 n⟩
              intro q hq
              rcases List.mem_cons.mp hq with h | hq
              · rw [h]; exact asI51
              rcases List.mem_cons.mp hq with h | hq
              · rw [h]; exact asW51 r2.same hW
              · rw [List.mem_singleton.mp hq]; exact asA51 r2.same hE
            rintro σ H8 ⟨S3, y, dy, f3, cu3, wb3, rfl, sS3, F3, r3⟩
            have q27 := q26.trans sS3
            have hlr8 := ((s4.trans s5).trans (s6.trans (sS2.trans sS3))).trans r3.same _ _ hlr
            have hW3 := WbAt.sames sS3 hW
            have hE3 := EnAt.sames sS3 hE
            have R1 := hR12.same q27
            have R0 := hR02.same q27
            have F23 := F2.same sS3
            have tx1b := sz01.text txb
            have hL8 := ((s34.trans s5).trans (s6.trans (sS2.trans sS3))).trans r3.same _ _ hL2
            have ht18 := ((s34.trans s5).trans (s6.trans (sS2.trans sS3))).trans r3.same _ _ ht12
            have ht08 := ((s34.trans s5).trans (s6.trans (sS2.trans sS3))).trans r3.same _ _ ht02
            refine ⟨_, rfl, _, rfl, lr, _, _, _, rfl, rfl, SqL.of hlr8, ats rfl, _, rfl, y, dy, f3, cu3, wb3, p1, z1, rs1, tb1, rfl, r3.get (i := 0) rfl, r3.same _ _ F3.cut, R1.same r3.same, T1, tx1b, by omega, fun H9 s9 => ⟨_, rfl, iteF ?_⟩⟩
            have r9 := r3.step s9
            refine ⟨_, rfl, _, rfl, lr, _, _, _, rfl, rfl, SqL.of (s9 _ _ hlr8), ats rfl, _, rfl, y, dy, f3, cu3, wb3, p1, z1, rs1, tb1, rfl, r9.get (i := 0) rfl, r9.same _ _ F3.cut, R1.same r9.same, T1, tx1b, by omega, fun H10 s10 => ⟨_, rfl, iteF ?_⟩⟩
            have r10 := r9.step s10
            have s910 := s9.trans s10
            refine ⟨fun σ H' => σ = [some (.ref a), some (.int (i : Nat)), some (.ref L), some (.ref xa), some (.ref xb), some (.ref xc), some (.ref lr), some (.ref lp), some (.str tf), some (.ref x), some (.ref sk), some (.str tb1), some (.ref y), none, none, none, none, none, none, none] ∧ Same H8 H', ?_, ?_⟩
            · refine ⟨_, rfl, _, rfl, L, _, _, _, rfl, rfl, SqL.of (s910 _ _ hL8), ats rfl, y, dy, f3, cu3, wb3, t1, p1, z1, rs1, tb1, rfl, r10.get (i := 0) rfl, F3.fol.same r10.same, s910 _ _ ht18, R1.same r10.same, T1, fun H11 s11 => ⟨_, rfl, iteF ?_⟩⟩
              have r11 := r10.step s11
              have s911 := s910.trans s11
              refine ⟨_, rfl, _, rfl, L, _, _, _, rfl, rfl, SqL.of (s911 _ _ hL8), ats rfl, x, dx, f1, cu2, wb1, t0, p0, z0, rs0, tb1, rfl, r11.get (i := 2) rfl, F23.fol.same r11.same, s911 _ _ ht08, R0.same r11.same, T0, fun H12 s12 => ⟨_, rfl, iteF ⟨rfl, s911.trans s12⟩⟩⟩
            rintro σ H12 ⟨rfl, s912⟩
            have r12 := r3.step s912
            have hsk12 : H12 sk = some (.lst (as.map V.ref)) := r12.get (i := 4) rfl
            refine ⟨_, rfl, sk, _, rfl, .inl (SqL.of hsk12), fun sa H13 nsa s13 hsa => ?_⟩
            have r13 := r12.new nsa s13 hsa
            have hsk13 := s13 _ _ hsk12
            refine ⟨_, rfl, sk, _, rfl, .inl (SqL.of hsk13), fun sb H14 nsb s14 hsb => ?_⟩
            have r14 := r13.new nsb s14 hsb
            refine ⟨(by show 2 ≤ sizeLine; decide), fun st2 H15 nst s15 hst2 => ?_⟩
            have nstL := r14.free nst
            have r15 := r14.step s15
            have s915 := ((s912.trans s13).trans s14).trans s15
            have hSq : ∀ {H' : Hp}, Same S3 H' → SqL K H' a (ns.map V.int) := fun s => (q27.trans s).seq hS2
            have hlpS : S3 lp = some (.lst ((pcs z0 rs0).map V.str)) := ((s5.trans s6).trans (sS2.trans sS3)) _ _ hlp
            refine ⟨_, rfl, _, rfl, _, _, rfl, rfl, a, ns, i + 4, rfl, hSq r15.same, fun c4 => ?_⟩
            refine ⟨_, rfl, _, _, rfl, rfl, _, rfl, _, rfl, c4, _, lp, z0, rs0, tb1, rfl, ?_, ?_, SqL.of (r15.same _ _ hlpS), T0, txb, tlb, fun H16 qm cm s16 hqm okm => ?_⟩
            · show (0 : Int) ≤ 5104 + ((i : Nat) : Int)
              omega
            · show 5104 + ((i : Nat) : Int) ≤ 100000
              omega
            have r16 := r15.step s16
            refine ⟨fun σ H17 => ∃ (ql : Addr) (cl : Chg), σ = [some (.ref a), some (.int (i : Nat)), some (.ref L), some (.ref xa), some (.ref xb), some (.ref xc), some (.ref lr), some (.ref lp), some (.str tf), some (.ref x), some (.ref sk), some (.str tb1), some (.ref y), some (.ref st2), some (.ref qm), some (.ref ql), none, none, none, none] ∧ Same H16 H17 ∧ H17 ql = some (chO cl) ∧ EnOk z0 ⟨tb1, cl⟩, ?_, ?_⟩
            · refine ⟨_, rfl, _, rfl, _, _, rfl, rfl, a, ns, i + 5, rfl, hSq r16.same, fun c5 => ?_⟩
              refine ⟨_, rfl, _, _, rfl, rfl, _, rfl, _, rfl, c5, _, lp, z0, rs0, tb1, rfl, ?_, ?_, SqL.of (r16.same _ _ hlpS), T0, txb, tlb, fun H17 ql cl s17 hql okl => ⟨ql, cl, rfl, s17, hql, okl⟩⟩
              · show (0 : Int) ≤ 5105 + ((i : Nat) : Int)
                omega
              · show 5105 + ((i : Nat) : Int) ≤ 100000
                omega
            rintro σ H17 ⟨ql, cl, rfl, s17, hql, okl⟩
            have r17 := r16.step s17
            have nch : ∀ c : Chg, ∀ q ∈ (ktL K y dy f3 cu3 tb1 wb3 ws ++ (ktL K x dx f1 cu2 tb1 wb1 ws ++ [(sk, HO.lst (as.map V.ref))])) ++ [(sa, HO.lst (as.map V.ref))] ++ [(sb, HO.lst (as.map V.ref))], q.2 ≠ chO c := fun c q hq e => by
              simp only [ktL, List.mem_append, List.mem_cons, List.not_mem_nil, or_false, false_or] at hq
              rcases hq with ((((h | h) | (h | h) | h) | h) | h) <;> (rw [h] at e; cases e)
            obtain ⟨rG, sS4⟩ := r14.grow ((s15.trans s16).trans s17)
            have hqmS := out_of (s17 _ _ hqm) (r17.kind (s17 _ _ hqm) (nch cm))
            have hqlS := out_of hql (r17.kind hql (nch cl))
            have hstS := out_of ((s16.trans s17) _ _ hst2) nstL
            obtain ⟨S4, rG, sS4, hqmS, hqlS, hstS⟩ : ∃ S4, Reg S4 H17 (ktL K y dy f3 cu3 tb1 wb3 ws ++ ((sb, HO.lst (as.map V.ref)) :: (ktL K x dx f1 cu2 tb1 wb1 ws ++ [(sk, HO.lst (as.map V.ref)), (sa, HO.lst (as.map V.ref))]))) ∧ Same S3 S4 ∧ S4 qm = some (chO cm) ∧ S4 ql = some (chO cl) ∧ S4 st2 = some (.lst [.ref sa, .ref sb]) := ⟨_, rG.perm (p7a51 _ _ _ _ _ _ _), sS4, hqmS, hqlS, hstS⟩
            have q34 := ((s4.trans s5).trans (s6.trans (sS2.trans sS3))).trans sS4
            have hlrS : S4 lr = _ := q34 _ _ hlr
            have hLS : S4 L = _ := s3.trans q34 _ _ hL2
            have ht1S : S4 t1 = _ := s3.trans q34 _ _ ht12
            have ht0S : S4 t0 = _ := s3.trans q34 _ _ ht02
            have q28 := q27.trans sS4
            have tbS := tb.same q28
            have tcS := tc.same q28
            have R1S := hR12.same q28
            have R0S := hR02.same q28
            have F3S := F3.same sS4
            have F2S := F23.same sS4
            have hWS := WbAt.sames sS4 hW3
            have hES := EnAt.sames sS4 hE3
            have okm1 : EnOk z1 ⟨tb1, cm⟩ := okm.to sz01
            have sOut := sA.trans q28
            have pm1 := okm.ok.len
            have pl1 := okl.ok.len
            have pm1 : cm.put.length ≤ 64 := pm1
            have pl1 : cl.put.length ≤ 64 := pl1
            clear r17 r16 r15 r14 r13 r12 r10 r9
            refine ⟨fun σ H18 => ∃ (S5 : Hp) (cu4 wy a1 : Addr), σ = [some (.ref a), some (.int (i : Nat)), some (.ref L), some (.ref xa), some (.ref xb), some (.ref xc), some (.ref lr), some (.ref lp), some (.str tf), some (.ref x), some (.ref sk), some (.str tb1), some (.ref y), some (.ref st2), some (.ref qm), some (.ref ql), none, none, none, none] ∧ Same S4 S5 ∧ KeptF K S5 f3 z1 rs1 (chgT tb1 cm.pl cm.gn cm.put) cu4 ∧ WbAt S5 (.ref wy) ⟨tb1, cm⟩ ∧ EnAt S5 a1 ⟨tb1, cm⟩ ∧ Reg S5 H18 (ktL K y dy f3 cu4 (chgT tb1 cm.pl cm.gn cm.put) wb3 (ws ++ [.ref wy]) ++ ((sb, HO.lst ((as ++ [a1]).map V.ref)) :: (ktL K x dx f1 cu2 tb1 wb1 ws ++ [(sk, HO.lst (as.map V.ref)), (sa, HO.lst (as.map V.ref))]))), ?_, ?_⟩
            · exact ⟨_, rfl, _, rfl, lr, _, _, _, rfl, rfl, SqL.of (rG.same _ _ hlrS), ats rfl, _, rfl, st2, _, _, _, rfl, rfl, SqL.of (rG.same _ _ hstS), ats rfl, _, rfl, _, rfl, S4, y, dy, f3, cu3, wb3, p1, sb, qm, z1, rs1, tb1, cm, ws, as, _, rfl, F3S, rG, R1S, hqmS, okm1, by omega, by omega, fun S5 H18 cu4 wy a1 sS5 F4 hw ha r18 => ⟨_, rfl, iteF ⟨S5, cu4, wy, a1, rfl, sS5, F4, hw, ha, r18⟩⟩⟩
            rintro σ H18 ⟨S5, cu4, wy, a1, rfl, sS5, F4, hwy, ha1, r18⟩
            have r18' := r18.perm (p7b51 _ _ _ _ _ _ _)
            refine ⟨fun σ H19 => ∃ (S6 : Hp) (cu5 wx a2 : Addr), σ = [some (.ref a), some (.int (i : Nat)), some (.ref L), some (.ref xa), some (.ref xb), some (.ref xc), some (.ref lr), some (.ref lp), some (.str tf), some (.ref x), some (.ref sk), some (.str tb1), some (.ref y), some (.ref st2), some (.ref qm), some (.ref ql), none, none, none, none] ∧ Same S5 S6 ∧ KeptF K S6 f1 z0 rs0 (chgT tb1 cl.pl cl.gn cl.put) cu5 ∧ WbAt S6 (.ref wx) ⟨tb1, cl⟩ ∧ EnAt S6 a2 ⟨tb1, cl⟩ ∧ Reg S6 H19 (ktL K x dx f1 cu5 (chgT tb1 cl.pl cl.gn cl.put) wb1 (ws ++ [.ref wx]) ++ ((sa, HO.lst ((as ++ [a2]).map V.ref)) :: (ktL K y dy f3 cu4 (chgT tb1 cm.pl cm.gn cm.put) wb3 (ws ++ [.ref wy]) ++ [(sb, HO.lst ((as ++ [a1]).map V.ref)), (sk, HO.lst (as.map V.ref))]))), ?_, ?_⟩
            · exact ⟨_, rfl, _, rfl, lr, _, _, _, rfl, rfl, SqL.of (r18'.same _ _ (sS5 _ _ hlrS)), ats rfl, _, rfl, st2, _, _, _, rfl, rfl, SqL.of (r18'.same _ _ (sS5 _ _ hstS)), ats rfl, _, rfl, _, rfl, S5, x, dx, f1, cu2, wb1, p0, sa, ql, z0, rs0, tb1, cl, ws, as, _, rfl, F2S.same sS5, r18', R0S.same sS5, sS5 _ _ hqlS, okl, by omega, by omega, fun S6 H19 cu5 wx a2 sS6 F5 hw ha r19 => ⟨_, rfl, iteF ⟨S6, cu5, wx, a2, rfl, sS6, F5, hw, ha, r19⟩⟩⟩
            rintro σ H19 ⟨S6, cu5, wx, a2, rfl, sS6, F5, hwx, ha2, r19⟩
            have s46 := sS5.trans sS6
            have F46 := F4.same sS6
            have hlr6 := s46 _ _ hlrS
            have hst6 := s46 _ _ hstS
            have hqm6 := s46 _ _ hqmS
            have hql6 := s46 _ _ hqlS
            have hL6 := s46 _ _ hLS
            have ht06 := s46 _ _ ht0S
            have tb6 := tbS.same s46
            have tc6 := tcS.same s46
            have R16 := R1S.same s46
            have R06 := R0S.same s46
            have hWy := Paired.snoc51 (WbAt.sames s46 hWS) (hwy.same sS6)
            have hWx := Paired.snoc51 (WbAt.sames s46 hWS) hwx
            have hEy := Paired.snoc51 (EnAt.sames s46 hES) (ha1.same sS6)
            have hEx := Paired.snoc51 (EnAt.sames s46 hES) ha2
            have hE6 := EnAt.sames s46 hES
            have stY : Sk z1 tf (es ++ [⟨tb1, cm⟩]) (chgT tb1 cm.pl cm.gn cm.put) := .snoc (st.to sz01) okm1
            have stX : Sk z0 tf (es ++ [⟨tb1, cl⟩]) (chgT tb1 cl.pl cl.gn cl.put) := .snoc st okl
            have lY : (es ++ [(⟨tb1, cm⟩ : En)]).length ≤ 3 := by rw [List.length_append, List.length_singleton]; omega
            have lX : (es ++ [(⟨tb1, cl⟩ : En)]).length ≤ 3 := by rw [List.length_append, List.length_singleton]; omega
            have out6 := sOut.trans s46
            have tx1f := sz01.text txf
            clear hwy ha1 hwx ha2 r18 r18' hES hWS
            revert hWy hWx hEy hEx stY stX lY lX r19 F5 F46
            generalize (es ++ [(⟨tb1, cm⟩ : En)]) = eY
            generalize (es ++ [(⟨tb1, cl⟩ : En)]) = eX
            generalize (ws ++ [V.ref wy]) = wsY
            generalize (ws ++ [V.ref wx]) = wsX
            generalize (as ++ [a1]) = asY
            generalize (as ++ [a2]) = asX
            generalize eqY : chgT tb1 cm.pl cm.gn cm.put = tY
            generalize eqX : chgT tb1 cl.pl cl.gn cl.put = tX
            intro F5 r19 F46 hWy hWx hEy hEx stY stX lY lX
            have kx := KiL51.kt (K := K) (x := x) (dx := dx) (f := f1) (cu := cu5) (wb := wb1) (t := tX) hWx (KiL51.st (a := sa) hEx (KiL51.kt (x := y) (dx := dy) (f := f3) (cu := cu4) (wb := wb3) (t := tY) hWy (KiL51.st (a := sb) hEy (KiL51.st (a := sk) hE6 KiL51.nil))))
            have r19y := r19.perm (p7c51 _ _ _ _ _ _ _)
            have ky := kx.perm (p7c51 _ _ _ _ _ _ _).symm
            refine ⟨_, rfl, by decide, by decide, for_range (lo := 0) (n := (2 : Int).toNat) (fun j σ H' => ∃ (u16 : Option V), σ = [some (.ref a), some (.int (i : Nat)), some (.ref L), some (.ref xa), some (.ref xb), some (.ref xc), some (.ref lr), some (.ref lp), some (.str tf), some (.ref x), some (.ref sk), some (.str tb1), some (.ref y), some (.ref st2), some (.ref qm), some (.ref ql), u16, none, none, none] ∧ Same H19 H') ⟨_, rfl, Same.refl _⟩ ?_ ?_⟩
            · rintro j σ H' hj ⟨u16, rfl, sj⟩
              have ra := r19.step sj
              refine ⟨_, rfl, _, rfl, S6, _, x, dx, f1, cu5, wb1, xc, 9, z0, z2, rs0, [], tX, wsX, rfl, F5, ra, .inl ⟨rfl, kx.aside ra.same, tc6, nsz⟩, fun H1' s1' => ⟨_, rfl, iteF ?_⟩⟩
              have rb := r19y.step (sj.trans s1')
              exact ⟨_, rfl, _, rfl, S6, _, y, dy, f3, cu4, wb3, xc, 9, z1, z2, rs1, [], tY, wsY, rfl, F46, rb, .inl ⟨rfl, ky.aside rb.same, tc6, fun s => nsz (sz01.trans s)⟩, fun H2' s2' => ⟨_, rfl, iteF ⟨_, rfl, sj.trans (s1'.trans s2')⟩⟩⟩
            rintro σ H20 ⟨u16, rfl, s20⟩
            have r20 := r19y.step s20
            refine ⟨_, rfl, _, rfl, tb1, qm, cm, rfl, r20.same _ _ hqm6, by omega, by omega, ?_⟩
            rw [eqY]
            refine ⟨_, rfl, y, dy, _, rfl, r20.get (i := 0) rfl, kf_mtw _ _ _ _, S6, _, y, dy, f3, cu4, wb3, z1, rs1, tY, wsY, rfl, F46, r20, ky.aside r20.same, fun S7 H21 v dv fv cuv wbv sS7 Fv r21 => ?_⟩
            have r21b := r21.perm (p4_51 _ _ _ _ _)
            have kv := KiL51.kt (K := K) (x := v) (dx := dv) (f := fv) (cu := cuv) (wb := wbv) (t := tY) (WbAt.sames sS7 hWy) (L := ktL K y dy f3 cu4 tY wb3 wsY ++ (ktL K x dx f1 cu5 tX wb1 wsX ++ [(sa, HO.lst (asX.map V.ref)), (sb, HO.lst (asY.map V.ref)), (sk, HO.lst (as.map V.ref))])) (KiL51.kt (WbAt.sames sS7 hWy) (KiL51.kt (WbAt.sames sS7 hWx) (KiL51.st (EnAt.sames sS7 hEx) (KiL51.st (EnAt.sames sS7 hEy) (KiL51.st (EnAt.sames sS7 hE6) KiL51.nil)))))
            refine ⟨_, rfl, y, dy, _, rfl, r21b.get (i := 0) rfl, kf_mund _ _ _ _, _, rfl, S7, _, y, dy, f3, cu4, wb3, xb, z1, z1, rs1, rs1, tY, wsY, rfl, F46.same sS7, tb6.same sS7, r21b, (kv.perm (p4_51 _ _ _ _ _).symm).aside r21b.same, fun _ S8 H22 u du fu cuu wbu sS8 Fu r22 => ?_, fun n => absurd (fun c => Iff.rfl) n⟩
            refine ⟨_, rfl, (by show 3 ≤ sizeLine; decide), fun kl H23 nkl s23 hkl => ?_⟩
            obtain ⟨S9, r23, sS9, hkl9⟩ : ∃ S9, Reg S9 H23 ([(⟨v, dv, fv, cuv, tY, wbv, wsY⟩ : K3), ⟨u, du, fu, cuu, tY, wbu, wsY⟩, ⟨y, dy, f3, cu4, tY, wb3, wsY⟩].flatMap (k3L K) ++ (ktL K x dx f1 cu5 tX wb1 wsX ++ [(sa, HO.lst (asX.map V.ref)), (sb, HO.lst (asY.map V.ref)), (sk, HO.lst (as.map V.ref))])) ∧ Same S8 S9 ∧ S9 kl = some (.lst ([v, u, y].map V.ref)) := by
              have rp := r22.perm (p6_51 _ _ _ _ _ _ _)
              obtain ⟨g, sG⟩ := rp.grow s23
              exact ⟨_, g, sG, out_of hkl (rp.free nkl)⟩
            have s69 := (sS7.trans sS8).trans sS9
            have hWy9 := WbAt.sames s69 hWy
            have hEy9 := EnAt.sames s69 hEy
            have hWx9 := WbAt.sames s69 hWx
            have hEx9 := EnAt.sames s69 hEx
            have hlr9 := s69 _ _ hlr6
            have hst9 := s69 _ _ hst6
            have R19 := R16.same s69
            have R09 := R06.same s69
            have Fv9 := (Fv.same sS8).same sS9
            have Fu9 := Fu.same sS9
            have Fy9 := F46.same s69
            have F59 := F5.same s69
            have hql9 := s69 _ _ hql6
            have hL9 := s69 _ _ hL6
            have ht09 := s69 _ _ ht06
            have out9 := out6.trans s69
            clear r22 r21b r21 kv kx ky r19 r19y r20 Fu Fv F46 F5
            refine ⟨kl, rfl, ⟨_, SqL.of (r23.same _ _ hkl9)⟩, for_list (K := K) (a := kl) (xs := [v, u, y].map V.ref) (fun j σ H' => ∃ (S' : Hp) (ks : List K3) (u18 : Option V), σ = [some (.ref a), some (.int (i : Nat)), some (.ref L), some (.ref xa), some (.ref xb), some (.ref xc), some (.ref lr), some (.ref lp), some (.str tf), some (.ref x), some (.ref sk), some (.str tb1), some (.ref y), some (.ref st2), some (.ref qm), some (.ref ql), u16, some (.str tY), u18, none] ∧ Same S9 S' ∧ ks.map (fun e => V.ref e.x) = [v, u, y].map V.ref ∧ (∀ e ∈ ks, KeptF K S' e.f z1 rs1 e.t e.cu) ∧ (∀ (k : Nat) e, ks[k]? = some e → (k < j → e.t = tf ∧ e.ws = []) ∧ (j ≤ k → e.t = tY ∧ e.ws = wsY)) ∧ Reg S' H' (ks.flatMap (k3L K) ++ (ktL K x dx f1 cu5 tX wb1 wsX ++ [(sa, HO.lst (asX.map V.ref)), (sb, HO.lst (asY.map V.ref)), (sk, HO.lst (as.map V.ref))])))
              ⟨S9, [⟨v, dv, fv, cuv, tY, wbv, wsY⟩, ⟨u, du, fu, cuu, tY, wbu, wsY⟩, ⟨y, dy, f3, cu4, tY, wb3, wsY⟩], _, rfl, Same.refl _, rfl, fun e he => ?_, fun k e he => ⟨fun h => absurd h (Nat.not_lt_zero _), fun _ => ?_⟩, r23⟩ (fun j σ H' _ ⟨_, _, _, _, sS, _, _, _, r⟩ => SqL.of (r.same _ _ (sS _ _ hkl9))) ?_ ?_⟩
            · simp only [List.mem_cons, List.not_mem_nil, or_false] at he
              rcases he with rfl | rfl | rfl
              · exact Fv9
              · exact Fu9
              · exact Fy9
            · have he := List.mem_of_getElem? he
              simp only [List.mem_cons, List.not_mem_nil, or_false] at he
              rcases he with rfl | rfl | rfl <;> exact ⟨rfl, rfl⟩
            · rintro j yv σ H' hj ⟨S', ks, u18, rfl, sS, hks, hF, hk, rk⟩
              rw [← hks, List.getElem?_map] at hj
              cases ej : ks[j]? with
              | none => rw [ej] at hj; cases hj
              | some e =>
                rw [ej] at hj
                cases hj
                obtain ⟨ex, edx, ef, ecu, et, ewb, ews⟩ := e
                obtain ⟨rfl, rfl⟩ := (hk j _ ej).2 (Nat.le_refl _)
                have Fe := hF _ (List.mem_of_getElem? ej)
                have ro := rk.perm (k3_out ej _)
                have R1' := R19.same sS
                refine ⟨_, rfl, _, rfl, lr, _, _, _, rfl, rfl, SqL.of (ro.same _ _ (sS _ _ hlr9)), ats rfl, _, rfl, ex, edx, ef, ecu, ewb, p1, z1, rs1, et, rfl, ro.get (i := 0) rfl, ro.same _ _ Fe.cut, R1'.same ro.same, T1, Fe.tx, Fe.tl, fun H1' s1' => ⟨_, rfl, iteF ?_⟩⟩
                have ro1 := ro.step s1'
                refine ⟨_, rfl, _, rfl, lr, _, _, _, rfl, rfl, SqL.of (ro1.same _ _ (sS _ _ hlr9)), ats rfl, _, rfl, st2, _, _, _, rfl, rfl, SqL.of (ro1.same _ _ (sS _ _ hst9)), ats rfl, _, rfl, S', ex, edx, ef, ecu, ewb, p1, sb, z1, rs1, et, tf, ews, eY, asY, _, rfl, Fe, ro1, R1', ?_, WbAt.sames sS hWy9, EnAt.sames sS hEy9, stY, tx1f, by omega, by omega, fun S2' H2' cu2' sS2' F2' r2' => ⟨_, rfl, iteF ?_⟩⟩
                · simp
                refine ⟨_, rfl, _, rfl, S2', _, ex, edx, ef, cu2', ewb, xb, 10, z1, z1, rs1, rs1, tf, [], rfl, F2', r2', .inr ⟨rfl, rfl⟩, fun H3' s3' => ⟨_, rfl, iteF ⟨S2', ks.set j ⟨ex, edx, ef, cu2', tf, ewb, []⟩, _, rfl, sS.trans sS2', ?_, ?_, ?_, (r2'.step s3').perm (k3_in (K := K) ⟨ex, edx, ef, cu2', tf, ewb, []⟩ ej _)⟩⟩⟩
                · rw [List.map_set, ← hks]
                  exact set_same51 (f := fun e : K3 => V.ref e.x) ej rfl
                · intro e he
                  rcases List.mem_or_eq_of_mem_set he with he | rfl
                  · exact (hF e he).same sS2'
                  · exact F2'
                · intro k e he
                  by_cases ek : k = j
                  · subst ek
                    rw [List.getElem?_set_self (List.getElem?_eq_some_iff.mp ej).1] at he
                    cases he
                    exact ⟨fun _ => ⟨rfl, rfl⟩, fun h => absurd h (by omega)⟩
                  · rw [List.getElem?_set_ne (fun h => ek h.symm)] at he
                    exact ⟨fun h => (hk k e he).1 (by omega), fun h => (hk k e he).2 (by omega)⟩
            rintro σ H24 ⟨S', ks, u18, rfl, sS, hks, hF, hk, rk⟩
            have rx := rk.perm (app_ac51 _ _ _)
            have hl3 : ks.length = 3 := by have := congrArg List.length hks; simpa using this
            obtain ⟨e2, he2⟩ : ∃ e, ks[2]? = some e := ⟨_, List.getElem?_eq_getElem (by omega)⟩
            obtain ⟨yx, ydx, yf, ycu, yt, ywb, yws⟩ := e2
            obtain ⟨rfl, rfl⟩ := (hk 2 _ he2).1 (by show 2 < 3; decide)
            have ey : yx = y := by
              have h2 : (ks.map fun e => V.ref e.x)[2]? = some (V.ref y) := by rw [hks]; rfl
              rw [List.getElem?_map, he2] at h2
              exact (V.ref.inj (Option.some.inj h2))
            subst ey
            have FY := hF _ (List.mem_of_getElem? he2)
            have F5' := F59.same sS
            have R0' := R09.same sS
            have R1' := R19.same sS
            have hql' := sS _ _ hql9
            have hlr' := sS _ _ hlr9
            have hst' := sS _ _ hst9
            have hL' := sS _ _ hL9
            have ht0' := sS _ _ ht09
            refine ⟨_, rfl, _, rfl, lr, _, _, _, rfl, rfl, SqL.of (rx.same _ _ hlr'), ats rfl, _, rfl, _, rfl, tb1, ql, cl, rfl, rx.same _ _ hql', by omega, by omega, ?_⟩
            rw [eqX]
            refine ⟨x, dx, f1, cu5, wb1, p0, z0, rs0, tX, rfl, rx.get (i := 0) rfl, rx.same _ _ F5'.cut, R0'.same rx.same, T0, F5'.tx, F5'.tl, fun H25 s25 => ⟨_, rfl, iteF ?_⟩⟩
            have r25 := rx.step s25
            refine ⟨_, rfl, _, rfl, L, _, _, _, rfl, rfl, SqL.of (r25.same _ _ hL'), ats rfl, x, dx, f1, cu5, wb1, t0, p0, z0, rs0, tX, rfl, r25.get (i := 0) rfl, F5'.fol.same r25.same, r25.same _ _ ht0', R0'.same r25.same, T0, fun H26 s26 => ⟨_, rfl, iteF ?_⟩⟩
            have r26 := r25.step s26
            refine ⟨_, rfl, _, rfl, lr, _, _, _, rfl, rfl, SqL.of (r26.same _ _ hlr'), ats rfl, _, rfl, st2, _, _, _, rfl, rfl, SqL.of (r26.same _ _ hst'), ats rfl, _, rfl, _, rfl, tb1, ql, cl, rfl, r26.same _ _ hql', by omega, by omega, ?_⟩
            rw [eqX]
            refine ⟨S', x, dx, f1, cu5, wb1, p0, sa, z0, rs0, tX, yt, wsX, eX, asX, _, rfl, F5', r26, R0', ?_, WbAt.sames sS hWx9, EnAt.sames sS hEx9, stX, txf, Nat.le_trans tlf (by decide), by omega, fun S2' H2' cu2' sS2' F2' r2' => ⟨_, rfl, iteF ?_⟩⟩
            · simp
            refine ⟨_, rfl, _, rfl, S2', _, x, dx, f1, cu2', wb1, xb, 10, z0, z1, rs0, rs1, yt, [], rfl, F2', r2', .inr ⟨rfl, rfl⟩, fun H3' s3' => ⟨_, rfl, iteT ?_⟩⟩
            have r3 := r2'.step s3'
            have hy3 : H3' yx = some (.ins (KC K) ydx (kf yf ycu yt ywb)) := r3.at_ _ (List.mem_append_right _ (List.mem_append_left _ (List.mem_flatMap.mpr ⟨_, List.mem_of_getElem? he2, List.mem_cons_self⟩)))
            refine ⟨_, rfl, _, rfl, lr, _, _, _, rfl, rfl, SqL.of (r3.same _ _ (sS2' _ _ hlr')), ats rfl, _, rfl, yx, ydx, yf, ycu, ywb, p1, z1, rs1, yt, rfl, hy3, r3.same _ _ (sS2' _ _ FY.cut), R1'.same (sS2'.trans r3.same), T1, FY.tx, FY.tl, fun H4' s4' => ?_⟩
            exact k _ ((((out9.trans sS).trans sS2').trans r3.same).trans s4')
end
end Jr
namespace Jr
open PySem PySem.Spec PyProof.Rows L2
def rgB51 (c : Nat) : Bool := (List.range 64).all fun h => Builtin.Range.small 0 (h : Int) (c : Int) && decide (Builtin.Range.rangeSize 0 (h : Int) (c : Int) = (((h + (c - 1)) / c : Nat) : Int))
theorem rg7_51 : rgB51 7 = true := by decide +kernel
theorem rgC_by51 {c h : Nat} (hb : rgB51 (c + 1) = true) (hh : h ≤ 63) (hc : c < 1000 := by decide) : RgC 0 (h : Int) ((c + 1 : Nat) : Int) ((h + c) / (c + 1)) := by
  have := List.all_eq_true.mp hb h (List.mem_range.mpr (by omega))
  rw [Bool.and_eq_true, decide_eq_true_eq] at this
  refine ⟨by omega, by omega, this.1, ?_⟩
  have e := this.2
  rw [Nat.add_sub_cancel] at e
  exact e
section
variable {P : Program} {w : World} {K : PySem.W.Frag} {mg : Str → Option Value}
theorem fn_law (T : Tx K mg) : ∃ fd, FunD K "law" "law" (defArgs s_law) (defBody s_law) (defScope s_law) [] [] (He.fAd K ("law", none)) fd ∧ ∀ base : Heap, FnOk P w K mg base CX0 15 (He.fAd K ("law", none)) fd P_law (spLaw K) := by
  obtain ⟨fd, F⟩ := T.d_law
  refine ⟨fd, F, fun base => ?_⟩
  have C__law_block := cal__law_block (P := P) (w := w) (base := base) T
  refine F.ok sc_law (fun vs H Q E h => ?_) (fun cdv A outer s H vs Q E hr h => ?_)
  · obtain ⟨a, ns, rfl, _⟩ := h
    rfl
  · obtain ⟨a, ns, rfl, hS, hlen, k⟩ := h
    refine ⟨_, (PSs.nox (pss_cons (ps_for PassesOwn.never rfl (pi_range3 (by rfl) T.n_range (pa_cons pe_int (pa_cons (pe_callB (id := "max") (call_max2 rfl) (by rfl) T.n_max (by decide +kernel) (pa_cons pe_int (pa_cons (pe_callB (id := "min") (call_min2 rfl) (by rfl) T.n_min (by decide +kernel) (pa_cons pe_int (pa_cons (pe_callB (id := "len") call_len_seq (by rfl) T.n_len (by decide +kernel) (pa_cons (pv 0) pa_nil)) pa_nil))) pa_nil))) (pa_cons pe_int pa_nil)))) (pg_name (i := 1) sc_law.nd rfl (Or.inl rfl)) (pss_one (ps_if (pt_not (pt_val (pe_cal C__law_block (by first | exact hr | exact hr.mono (by decide)) (by rfl) (pa_cons (pv 0) (pa_cons (pv 1) pa_nil))))) (pss_one (ps_ret pe_bl)) pss_nil)))
      (pss_one (ps_ret pe_bl)))), ?_⟩
    obtain ⟨hi, hhi, ehi⟩ : ∃ hi : Nat, 1 ≤ hi ∧ hi ≤ 63 ∧ (if (if (((ns.map V.int).length : Nat) : Int) < 63 then (((ns.map V.int).length : Nat) : Int) else 63) > 1 then (if (((ns.map V.int).length : Nat) : Int) < 63 then (((ns.map V.int).length : Nat) : Int) else 63) else 1) = ((hi : Nat) : Int) := by
      refine ⟨max 1 (min 63 ns.length), by omega, by omega, ?_⟩
      rw [List.length_map]
      split <;> split <;> omega
    obtain ⟨hi63, ehi⟩ := ehi
    refine ⟨_, rfl, a, _, rfl, .inl hS, _, _, rfl, _, _, rfl, ?_⟩
    rw [ehi]
    refine ⟨0, _, 7, (hi + 6) / 7, rfl, rgC_by51 rg7_51 hi63, ?_⟩
    refine for_rangeC (lo := 0) (c := 7) (n := (hi + 6) / 7) (fun j σ H' => ∃ (u1 : Option V), σ = [some (.ref a), u1] ∧ Same H H') ⟨_, rfl, Same.refl _⟩ ?_ (fun σ H' _ => k H')
    rintro j σ H' hj ⟨u1, rfl, sm⟩
    refine ⟨_, rfl, _, rfl, a, ns, 7 * j, ?_, sm.seq hS, by omega, fun H2 s2 => ⟨_, rfl, iteF ⟨_, rfl, sm.trans s2⟩⟩⟩
    show [V.ref a, V.int (0 + ((j : Nat) : Int) * 7)] = _
    rw [show (0 : Int) + ((j : Nat) : Int) * 7 = ((7 * j : Nat) : Int) by omega]
end
end Jr
namespace Jr
open PySem PySem.Spec PyProof.Rows L2
theorem tx_of {K : PySem.W.Frag} {h : Heap} {mg : Str → Option Value} {w : World} (X : K.In h) (G : h.Ns mainGlobals mg) (c : SaysC fa fn (fun K => (exs K).all id) w K) : Tx K mg := {
    n_len := He.free_ok X G (c.t.d.fact 0 (f := .free "len") rfl)
    n_range := He.free_ok X G (c.t.d.fact 1 (f := .free "range") rfl)
    n_max := He.free_ok X G (c.t.d.fact 2 (f := .free "max") rfl)
    n_min := He.free_ok X G (c.t.d.fact 3 (f := .free "min") rfl)
    n_isinstance := He.free_ok X G (c.t.d.fact 4 (f := .free "isinstance") rfl)
    n_str := He.free_ok X G (c.t.d.fact 5 (f := .free "str") rfl)
    n_int := He.free_ok X G (c.t.d.fact 6 (f := .free "int") rfl)
    n_bool := He.free_ok X G (c.t.d.fact 7 (f := .free "bool") rfl)
    n_list := He.free_ok X G (c.t.d.fact 8 (f := .free "list") rfl)
    n_tuple := He.free_ok X G (c.t.d.fact 9 (f := .free "tuple") rfl)
    n_all := He.free_ok X G (c.t.d.fact 10 (f := .free "all") rfl)
    n_ord := He.free_ok X G (c.t.d.fact 11 (f := .free "ord") rfl)
    n_enumerate := He.free_ok X G (c.t.d.fact 12 (f := .free "enumerate") rfl)
    n_zip := He.free_ok X G (c.t.d.fact 13 (f := .free "zip") rfl)
    n_sorted := He.free_ok X G (c.t.d.fact 14 (f := .free "sorted") rfl)
    n_ValueError := He.free_ok X G (c.t.d.fact 15 (f := .free "ValueError") rfl)
    n_reversed := He.free_ok X G (c.t.d.fact 16 (f := .free "reversed") rfl)
    c_MOST_SIGNS := He.int_ok X G (c.t.d.fact 17 (f := .int "MOST_SIGNS" 12) rfl)
    c_MOST_ROWS := He.int_ok X G (c.t.d.fact 18 (f := .int "MOST_ROWS" 24) rfl)
    c_MOST_JOINED := He.int_ok X G (c.t.d.fact 19 (f := .int "MOST_JOINED" 16) rfl)
    c_BLANK_CODE := He.int_ok X G (c.t.d.fact 20 (f := .int "BLANK_CODE" 32) rfl)
    c_PERCENT_CODE := He.int_ok X G (c.t.d.fact 21 (f := .int "PERCENT_CODE" 37) rfl)
    c_TILDE_CODE := He.int_ok X G (c.t.d.fact 22 (f := .int "TILDE_CODE" 126) rfl)
    g_JoinError := He.glo_ok X G (c.t.d.fact 23 (f := .glo "JoinError") rfl)
    rd_JoinError := (exAt (i := 0) c.more rfl)
    ga_JoinError := of_decide_eq_true (exAt (i := 1) c.more rfl)
    fc_JoinError := fcB_ok (exAt (i := 2) c.more rfl)
    g_NoTable := He.glo_ok X G (c.t.d.fact 24 (f := .glo "NoTable") rfl)
    g_NoGrammar := He.glo_ok X G (c.t.d.fact 25 (f := .glo "NoGrammar") rfl)
    g_NoCutting := He.glo_ok X G (c.t.d.fact 26 (f := .glo "NoCutting") rfl)
    g_NoSign := He.glo_ok X G (c.t.d.fact 27 (f := .glo "NoSign") rfl)
    g_NoPiece := He.glo_ok X G (c.t.d.fact 28 (f := .glo "NoPiece") rfl)
    g_NoNumber := He.glo_ok X G (c.t.d.fact 29 (f := .glo "NoNumber") rfl)
    g_NoCount := He.glo_ok X G (c.t.d.fact 30 (f := .glo "NoCount") rfl)
    g_NoText := He.glo_ok X G (c.t.d.fact 31 (f := .glo "NoText") rfl)
    g_NoPlace := He.glo_ok X G (c.t.d.fact 32 (f := .glo "NoPlace") rfl)
    g_NoLead := He.glo_ok X G (c.t.d.fact 33 (f := .glo "NoLead") rfl)
    xc_NoLead := xcB_ok (exAt (i := 3) c.more rfl)
    in_NoLead := of_decide_eq_true (exAt (i := 4) c.more rfl)
    it_NoLead := of_decide_eq_true (exAt (i := 5) c.more rfl)
    exm_NoLead_JoinError := of_decide_eq_true (exAt (i := 6) c.more rfl)
    kit_NoLead_JoinError := of_decide_eq_true (exAt (i := 7) c.more rfl)
    kit_NoLead_NoTable := of_decide_eq_true (exAt (i := 8) c.more rfl)
    kit_NoLead_NoGrammar := of_decide_eq_true (exAt (i := 9) c.more rfl)
    kit_NoLead_NoCutting := of_decide_eq_true (exAt (i := 10) c.more rfl)
    kit_NoLead_NoSign := of_decide_eq_true (exAt (i := 11) c.more rfl)
    kit_NoLead_NoPiece := of_decide_eq_true (exAt (i := 12) c.more rfl)
    kit_NoLead_NoNumber := of_decide_eq_true (exAt (i := 13) c.more rfl)
    kit_NoLead_NoCount := of_decide_eq_true (exAt (i := 14) c.more rfl)
    kit_NoLead_NoText := of_decide_eq_true (exAt (i := 15) c.more rfl)
    kit_NoLead_NoPlace := of_decide_eq_true (exAt (i := 16) c.more rfl)
    kit_NoLead_NoLead := of_decide_eq_true (exAt (i := 17) c.more rfl)
    kit_NoLead_NoDeed := of_decide_eq_true (exAt (i := 18) c.more rfl)
    kit_NoLead_NoRow := of_decide_eq_true (exAt (i := 19) c.more rfl)
    kit_NoLead_NoName := of_decide_eq_true (exAt (i := 20) c.more rfl)
    kit_NoLead_ValueError := of_decide_eq_true (exAt (i := 21) c.more rfl)
    g_NoDeed := He.glo_ok X G (c.t.d.fact 34 (f := .glo "NoDeed") rfl)
    xc_NoDeed := xcB_ok (exAt (i := 22) c.more rfl)
    in_NoDeed := of_decide_eq_true (exAt (i := 23) c.more rfl)
    it_NoDeed := of_decide_eq_true (exAt (i := 24) c.more rfl)
    exm_NoDeed_JoinError := of_decide_eq_true (exAt (i := 25) c.more rfl)
    kit_NoDeed_JoinError := of_decide_eq_true (exAt (i := 26) c.more rfl)
    kit_NoDeed_NoTable := of_decide_eq_true (exAt (i := 27) c.more rfl)
    kit_NoDeed_NoGrammar := of_decide_eq_true (exAt (i := 28) c.more rfl)
    kit_NoDeed_NoCutting := of_decide_eq_true (exAt (i := 29) c.more rfl)
    kit_NoDeed_NoSign := of_decide_eq_true (exAt (i := 30) c.more rfl)
    kit_NoDeed_NoPiece := of_decide_eq_true (exAt (i := 31) c.more rfl)
    kit_NoDeed_NoNumber := of_decide_eq_true (exAt (i := 32) c.more rfl)
    kit_NoDeed_NoCount := of_decide_eq_true (exAt (i := 33) c.more rfl)
    kit_NoDeed_NoText := of_decide_eq_true (exAt (i := 34) c.more rfl)
    kit_NoDeed_NoPlace := of_decide_eq_true (exAt (i := 35) c.more rfl)
    kit_NoDeed_NoLead := of_decide_eq_true (exAt (i := 36) c.more rfl)
    kit_NoDeed_NoDeed := of_decide_eq_true (exAt (i := 37) c.more rfl)
    kit_NoDeed_NoRow := of_decide_eq_true (exAt (i := 38) c.more rfl)
    kit_NoDeed_NoName := of_decide_eq_true (exAt (i := 39) c.more rfl)
    kit_NoDeed_ValueError := of_decide_eq_true (exAt (i := 40) c.more rfl)
    g_NoRow := He.glo_ok X G (c.t.d.fact 35 (f := .glo "NoRow") rfl)
    g_NoName := He.glo_ok X G (c.t.d.fact 36 (f := .glo "NoName") rfl)
    g_Follows := He.glo_ok X G (c.t.d.fact 37 (f := .glo "Follows") rfl)
    cl_Follows := He.cls_ok (c.t.d.fact 38 (f := .cls "Follows") rfl)
    no_Follows_held_table := He.noat_ok (c.t.d.fact 39 (f := .noat "Follows" "held_table") rfl)
    no_Follows_right_edges := He.noat_ok (c.t.d.fact 40 (f := .noat "Follows" "right_edges") rfl)
    no_Follows_left_edges := He.noat_ok (c.t.d.fact 41 (f := .noat "Follows" "left_edges") rfl)
    no_Follows_alone_pieces := He.noat_ok (c.t.d.fact 42 (f := .noat "Follows" "alone_pieces") rfl)
    no_Follows_pieces_after := He.noat_ok (c.t.d.fact 43 (f := .noat "Follows" "pieces_after") rfl)
    no_Follows_pieces_ahead := He.noat_ok (c.t.d.fact 44 (f := .noat "Follows" "pieces_ahead") rfl)
    no_Follows_pairs := He.noat_ok (c.t.d.fact 45 (f := .noat "Follows" "pairs") rfl)
    mk_Follows := He.mkr_ok (c.t.d.fact 46 (f := .mkr "Follows") rfl)
    m_Follows_is_alone := He.meth_ok (c.t.d.fact 47 (f := .meth "Follows" "is_alone") rfl)
    m_Follows_first_rank := He.meth_ok (c.t.d.fact 48 (f := .meth "Follows" "first_rank") rfl)
    m_Follows_pair_all := He.meth_ok (c.t.d.fact 49 (f := .meth "Follows" "pair_all") rfl)
    m_Follows_table := He.meth_ok (c.t.d.fact 50 (f := .meth "Follows" "table") rfl)
    m_Follows_alone := He.meth_ok (c.t.d.fact 51 (f := .meth "Follows" "alone") rfl)
    m_Follows_has_alone := He.meth_ok (c.t.d.fact 52 (f := .meth "Follows" "has_alone") rfl)
    m_Follows_may := He.meth_ok (c.t.d.fact 53 (f := .meth "Follows" "may") rfl)
    g_Kept := He.glo_ok X G (c.t.d.fact 54 (f := .glo "Kept") rfl)
    cl_Kept := He.cls_ok (c.t.d.fact 55 (f := .cls "Kept") rfl)
    no_Kept_held_follows := He.noat_ok (c.t.d.fact 56 (f := .noat "Kept" "held_follows") rfl)
    no_Kept_held_cutting := He.noat_ok (c.t.d.fact 57 (f := .noat "Kept" "held_cutting") rfl)
    no_Kept_held_text := He.noat_ok (c.t.d.fact 58 (f := .noat "Kept" "held_text") rfl)
    no_Kept_ways_back := He.noat_ok (c.t.d.fact 59 (f := .noat "Kept" "ways_back") rfl)
    mk_Kept := He.mkr_ok (c.t.d.fact 60 (f := .mkr "Kept") rfl)
    m_Kept_do_change := He.meth_ok (c.t.d.fact 61 (f := .meth "Kept" "do_change") rfl)
    m_Kept_change := He.meth_ok (c.t.d.fact 62 (f := .meth "Kept" "change") rfl)
    m_Kept_undo := He.meth_ok (c.t.d.fact 63 (f := .meth "Kept" "undo") rfl)
    m_Kept_table := He.meth_ok (c.t.d.fact 64 (f := .meth "Kept" "table") rfl)
    m_Kept_text := He.meth_ok (c.t.d.fact 65 (f := .meth "Kept" "text") rfl)
    m_Kept_cutting := He.meth_ok (c.t.d.fact 66 (f := .meth "Kept" "cutting") rfl)
    m_Kept_piece_at := He.meth_ok (c.t.d.fact 67 (f := .meth "Kept" "piece_at") rfl)
    m_Kept_cut_by := He.meth_ok (c.t.d.fact 68 (f := .meth "Kept" "cut_by") rfl)
    m_Kept_twin := He.meth_ok (c.t.d.fact 69 (f := .meth "Kept" "twin") rfl)
    m_Kept_under := He.meth_ok (c.t.d.fact 70 (f := .meth "Kept" "under") rfl)
    g_Table := He.glo_ok X G (c.t.d.fact 71 (f := .glo "Table") rfl)
    cl_Table := He.cls_ok (c.t.d.fact 72 (f := .cls "Table") rfl)
    no_Table_sign_text := He.noat_ok (c.t.d.fact 73 (f := .noat "Table" "sign_text") rfl)
    no_Table_row_list := He.noat_ok (c.t.d.fact 74 (f := .noat "Table" "row_list") rfl)
    no_Table_piece_list := He.noat_ok (c.t.d.fact 75 (f := .noat "Table" "piece_list") rfl)
    no_Table_number_by_piece := He.noat_ok (c.t.d.fact 76 (f := .noat "Table" "number_by_piece") rfl)
    no_Table_rank_by_row := He.noat_ok (c.t.d.fact 77 (f := .noat "Table" "rank_by_row") rfl)
    no_Table_most_signs := He.noat_ok (c.t.d.fact 78 (f := .noat "Table" "most_signs") rfl)
    mk_Table := He.mkr_ok (c.t.d.fact 79 (f := .mkr "Table") rfl)
    m_Table_take_piece := He.meth_ok (c.t.d.fact 80 (f := .meth "Table" "take_piece") rfl)
    m_Table_may_take_row := He.meth_ok (c.t.d.fact 81 (f := .meth "Table" "may_take_row") rfl)
    m_Table_take_row := He.meth_ok (c.t.d.fact 82 (f := .meth "Table" "take_row") rfl)
    m_Table_signs := He.meth_ok (c.t.d.fact 83 (f := .meth "Table" "signs") rfl)
    m_Table_rows := He.meth_ok (c.t.d.fact 84 (f := .meth "Table" "rows") rfl)
    m_Table_pieces := He.meth_ok (c.t.d.fact 85 (f := .meth "Table" "pieces") rfl)
    m_Table_which := He.meth_ok (c.t.d.fact 86 (f := .meth "Table" "which") rfl)
    m_Table_parts := He.meth_ok (c.t.d.fact 87 (f := .meth "Table" "parts") rfl)
    m_Table_rank := He.meth_ok (c.t.d.fact 88 (f := .meth "Table" "rank") rfl)
    m_Table_longest := He.meth_ok (c.t.d.fact 89 (f := .meth "Table" "longest") rfl)
    d_JoinError___init__ := c.t.d.def_ 0 (d := ⟨("JoinError", some "__init__"), "__init__", "JoinError.__init__", defArgs s_JoinError___init__, defBody s_JoinError___init__, defScope s_JoinError___init__, [], []⟩) rfl
    g_is_whole := He.glo_ok X G (c.t.d.fact 90 (f := .glo "is_whole") rfl)
    d_is_whole := c.t.d.def_ 1 (d := ⟨("is_whole", none), "is_whole", "is_whole", defArgs s_is_whole, defBody s_is_whole, defScope s_is_whole, [], []⟩) rfl
    g_is_up_to := He.glo_ok X G (c.t.d.fact 91 (f := .glo "is_up_to") rfl)
    d_is_up_to := c.t.d.def_ 2 (d := ⟨("is_up_to", none), "is_up_to", "is_up_to", defArgs s_is_up_to, defBody s_is_up_to, defScope s_is_up_to, [], []⟩) rfl
    g_check_text := He.glo_ok X G (c.t.d.fact 92 (f := .glo "check_text") rfl)
    d_check_text := c.t.d.def_ 3 (d := ⟨("check_text", none), "check_text", "check_text", defArgs s_check_text, defBody s_check_text, defScope s_check_text, [], []⟩) rfl
    g_check_piece := He.glo_ok X G (c.t.d.fact 93 (f := .glo "check_piece") rfl)
    d_check_piece := c.t.d.def_ 4 (d := ⟨("check_piece", none), "check_piece", "check_piece", defArgs s_check_piece, defBody s_check_piece, defScope s_check_piece, [], []⟩) rfl
    g_check_place := He.glo_ok X G (c.t.d.fact 94 (f := .glo "check_place") rfl)
    d_check_place := c.t.d.def_ 5 (d := ⟨("check_place", none), "check_place", "check_place", defArgs s_check_place, defBody s_check_place, defScope s_check_place, [], []⟩) rfl
    g_check_same_signs := He.glo_ok X G (c.t.d.fact 95 (f := .glo "check_same_signs") rfl)
    d_check_same_signs := c.t.d.def_ 6 (d := ⟨("check_same_signs", none), "check_same_signs", "check_same_signs", defArgs s_check_same_signs, defBody s_check_same_signs, defScope s_check_same_signs, [], []⟩) rfl
    g_edge := He.glo_ok X G (c.t.d.fact 96 (f := .glo "edge") rfl)
    d_edge := c.t.d.def_ 7 (d := ⟨("edge", none), "edge", "edge", defArgs s_edge, defBody s_edge, defScope s_edge, [], []⟩) rfl
    g_right_edge := He.glo_ok X G (c.t.d.fact 97 (f := .glo "right_edge") rfl)
    d_right_edge := c.t.d.def_ 8 (d := ⟨("right_edge", none), "right_edge", "right_edge", defArgs s_right_edge, defBody s_right_edge, defScope s_right_edge, [], []⟩) rfl
    g_left_edge := He.glo_ok X G (c.t.d.fact 98 (f := .glo "left_edge") rfl)
    d_left_edge := c.t.d.def_ 9 (d := ⟨("left_edge", none), "left_edge", "left_edge", defArgs s_left_edge, defBody s_left_edge, defScope s_left_edge, [], []⟩) rfl
    g_with_ends := He.glo_ok X G (c.t.d.fact 99 (f := .glo "with_ends") rfl)
    d_with_ends := c.t.d.def_ 10 (d := ⟨("with_ends", none), "with_ends", "with_ends", defArgs s_with_ends, defBody s_with_ends, defScope s_with_ends, [], []⟩) rfl
    g_edges_meet := He.glo_ok X G (c.t.d.fact 100 (f := .glo "edges_meet") rfl)
    d_edges_meet := c.t.d.def_ 11 (d := ⟨("edges_meet", none), "edges_meet", "edges_meet", defArgs s_edges_meet, defBody s_edges_meet, defScope s_edges_meet, [], []⟩) rfl
    d_Follows___init__ := c.t.d.def_ 12 (d := ⟨("Follows", some "__init__"), "__init__", "Follows.__init__", defArgs s_Follows___init__, defBody s_Follows___init__, defScope s_Follows___init__, [], []⟩) rfl
    d_Follows_is_alone := c.t.d.def_ 13 (d := ⟨("Follows", some "is_alone"), "is_alone", "Follows.is_alone", defArgs s_Follows_is_alone, defBody s_Follows_is_alone, defScope s_Follows_is_alone, [], []⟩) rfl
    d_Follows_first_rank := c.t.d.def_ 14 (d := ⟨("Follows", some "first_rank"), "first_rank", "Follows.first_rank", defArgs s_Follows_first_rank, defBody s_Follows_first_rank, defScope s_Follows_first_rank, [], []⟩) rfl
    d_Follows_pair_all := c.t.d.def_ 15 (d := ⟨("Follows", some "pair_all"), "pair_all", "Follows.pair_all", defArgs s_Follows_pair_all, defBody s_Follows_pair_all, defScope s_Follows_pair_all, [], []⟩) rfl
    d_Follows_table := c.t.d.def_ 16 (d := ⟨("Follows", some "table"), "table", "Follows.table", defArgs s_Follows_table, defBody s_Follows_table, defScope s_Follows_table, [], []⟩) rfl
    d_Follows_alone := c.t.d.def_ 17 (d := ⟨("Follows", some "alone"), "alone", "Follows.alone", defArgs s_Follows_alone, defBody s_Follows_alone, defScope s_Follows_alone, [], []⟩) rfl
    d_Follows_has_alone := c.t.d.def_ 18 (d := ⟨("Follows", some "has_alone"), "has_alone", "Follows.has_alone", defArgs s_Follows_has_alone, defBody s_Follows_has_alone, defScope s_Follows_has_alone, [], []⟩) rfl
    d_Follows_may := c.t.d.def_ 19 (d := ⟨("Follows", some "may"), "may", "Follows.may", defArgs s_Follows_may, defBody s_Follows_may, defScope s_Follows_may, [], []⟩) rfl
    g_may_begin_there := He.glo_ok X G (c.t.d.fact 101 (f := .glo "may_begin_there") rfl)
    d_may_begin_there := c.t.d.def_ 20 (d := ⟨("may_begin_there", none), "may_begin_there", "may_begin_there", defArgs s_may_begin_there, defBody s_may_begin_there, defScope s_may_begin_there, [], []⟩) rfl
    g_first_of := He.glo_ok X G (c.t.d.fact 102 (f := .glo "first_of") rfl)
    d_first_of := c.t.d.def_ 21 (d := ⟨("first_of", none), "first_of", "first_of", defArgs s_first_of, defBody s_first_of, defScope s_first_of, [], []⟩) rfl
    g_firsts := He.glo_ok X G (c.t.d.fact 103 (f := .glo "firsts") rfl)
    d_firsts := c.t.d.def_ 22 (d := ⟨("firsts", none), "firsts", "firsts", defArgs s_firsts, defBody s_firsts, defScope s_firsts, [], []⟩) rfl
    g_read_on := He.glo_ok X G (c.t.d.fact 104 (f := .glo "read_on") rfl)
    d_read_on := c.t.d.def_ 23 (d := ⟨("read_on", none), "read_on", "read_on", defArgs s_read_on, defBody s_read_on, defScope s_read_on, [], []⟩) rfl
    g_changed_text := He.glo_ok X G (c.t.d.fact 105 (f := .glo "changed_text") rfl)
    d_changed_text := c.t.d.def_ 24 (d := ⟨("changed_text", none), "changed_text", "changed_text", defArgs s_changed_text, defBody s_changed_text, defScope s_changed_text, [], []⟩) rfl
    g_check_change := He.glo_ok X G (c.t.d.fact 106 (f := .glo "check_change") rfl)
    d_check_change := c.t.d.def_ 25 (d := ⟨("check_change", none), "check_change", "check_change", defArgs s_check_change, defBody s_check_change, defScope s_check_change, [], []⟩) rfl
    g_same_ahead := He.glo_ok X G (c.t.d.fact 107 (f := .glo "same_ahead") rfl)
    d_same_ahead := c.t.d.def_ 26 (d := ⟨("same_ahead", none), "same_ahead", "same_ahead", defArgs s_same_ahead, defBody s_same_ahead, defScope s_same_ahead, [], []⟩) rfl
    g_patch_between := He.glo_ok X G (c.t.d.fact 108 (f := .glo "patch_between") rfl)
    d_patch_between := c.t.d.def_ 27 (d := ⟨("patch_between", none), "patch_between", "patch_between", defArgs s_patch_between, defBody s_patch_between, defScope s_patch_between, [], []⟩) rfl
    g_patch_of := He.glo_ok X G (c.t.d.fact 109 (f := .glo "patch_of") rfl)
    d_patch_of := c.t.d.def_ 28 (d := ⟨("patch_of", none), "patch_of", "patch_of", defArgs s_patch_of, defBody s_patch_of, defScope s_patch_of, [], []⟩) rfl
    g_patched := He.glo_ok X G (c.t.d.fact 110 (f := .glo "patched") rfl)
    d_patched := c.t.d.def_ 29 (d := ⟨("patched", none), "patched", "patched", defArgs s_patched, defBody s_patched, defScope s_patched, [], []⟩) rfl
    d_Kept___init__ := c.t.d.def_ 30 (d := ⟨("Kept", some "__init__"), "__init__", "Kept.__init__", defArgs s_Kept___init__, defBody s_Kept___init__, defScope s_Kept___init__, [], []⟩) rfl
    d_Kept_do_change := c.t.d.def_ 31 (d := ⟨("Kept", some "do_change"), "do_change", "Kept.do_change", defArgs s_Kept_do_change, defBody s_Kept_do_change, defScope s_Kept_do_change, [], []⟩) rfl
    d_Kept_change := c.t.d.def_ 32 (d := ⟨("Kept", some "change"), "change", "Kept.change", defArgs s_Kept_change, defBody s_Kept_change, defScope s_Kept_change, [], []⟩) rfl
    d_Kept_undo := c.t.d.def_ 33 (d := ⟨("Kept", some "undo"), "undo", "Kept.undo", defArgs s_Kept_undo, defBody s_Kept_undo, defScope s_Kept_undo, [], []⟩) rfl
    d_Kept_table := c.t.d.def_ 34 (d := ⟨("Kept", some "table"), "table", "Kept.table", defArgs s_Kept_table, defBody s_Kept_table, defScope s_Kept_table, [], []⟩) rfl
    d_Kept_text := c.t.d.def_ 35 (d := ⟨("Kept", some "text"), "text", "Kept.text", defArgs s_Kept_text, defBody s_Kept_text, defScope s_Kept_text, [], []⟩) rfl
    d_Kept_cutting := c.t.d.def_ 36 (d := ⟨("Kept", some "cutting"), "cutting", "Kept.cutting", defArgs s_Kept_cutting, defBody s_Kept_cutting, defScope s_Kept_cutting, [], []⟩) rfl
    d_Kept_piece_at := c.t.d.def_ 37 (d := ⟨("Kept", some "piece_at"), "piece_at", "Kept.piece_at", defArgs s_Kept_piece_at, defBody s_Kept_piece_at, defScope s_Kept_piece_at, [], []⟩) rfl
    d_Kept_cut_by := c.t.d.def_ 38 (d := ⟨("Kept", some "cut_by"), "cut_by", "Kept.cut_by", defArgs s_Kept_cut_by, defBody s_Kept_cut_by, defScope s_Kept_cut_by, [], []⟩) rfl
    d_Kept_twin := c.t.d.def_ 39 (d := ⟨("Kept", some "twin"), "twin", "Kept.twin", defArgs s_Kept_twin, defBody s_Kept_twin, defScope s_Kept_twin, [], []⟩) rfl
    d_Kept_under := c.t.d.def_ 40 (d := ⟨("Kept", some "under"), "under", "Kept.under", defArgs s_Kept_under, defBody s_Kept_under, defScope s_Kept_under, [], []⟩) rfl
    g_may_be_sign := He.glo_ok X G (c.t.d.fact 111 (f := .glo "may_be_sign") rfl)
    d_may_be_sign := c.t.d.def_ 41 (d := ⟨("may_be_sign", none), "may_be_sign", "may_be_sign", defArgs s_may_be_sign, defBody s_may_be_sign, defScope s_may_be_sign, [], []⟩) rfl
    g_check_signs := He.glo_ok X G (c.t.d.fact 112 (f := .glo "check_signs") rfl)
    d_check_signs := c.t.d.def_ 42 (d := ⟨("check_signs", none), "check_signs", "check_signs", defArgs s_check_signs, defBody s_check_signs, defScope s_check_signs, [], []⟩) rfl
    d_Table___init__ := c.t.d.def_ 43 (d := ⟨("Table", some "__init__"), "__init__", "Table.__init__", defArgs s_Table___init__, defBody s_Table___init__, defScope s_Table___init__, [], []⟩) rfl
    d_Table_take_piece := c.t.d.def_ 44 (d := ⟨("Table", some "take_piece"), "take_piece", "Table.take_piece", defArgs s_Table_take_piece, defBody s_Table_take_piece, defScope s_Table_take_piece, [], []⟩) rfl
    d_Table_may_take_row := c.t.d.def_ 45 (d := ⟨("Table", some "may_take_row"), "may_take_row", "Table.may_take_row", defArgs s_Table_may_take_row, defBody s_Table_may_take_row, defScope s_Table_may_take_row, [], []⟩) rfl
    d_Table_take_row := c.t.d.def_ 46 (d := ⟨("Table", some "take_row"), "take_row", "Table.take_row", defArgs s_Table_take_row, defBody s_Table_take_row, defScope s_Table_take_row, [], []⟩) rfl
    d_Table_signs := c.t.d.def_ 47 (d := ⟨("Table", some "signs"), "signs", "Table.signs", defArgs s_Table_signs, defBody s_Table_signs, defScope s_Table_signs, [], []⟩) rfl
    d_Table_rows := c.t.d.def_ 48 (d := ⟨("Table", some "rows"), "rows", "Table.rows", defArgs s_Table_rows, defBody s_Table_rows, defScope s_Table_rows, [], []⟩) rfl
    d_Table_pieces := c.t.d.def_ 49 (d := ⟨("Table", some "pieces"), "pieces", "Table.pieces", defArgs s_Table_pieces, defBody s_Table_pieces, defScope s_Table_pieces, [], []⟩) rfl
    d_Table_which := c.t.d.def_ 50 (d := ⟨("Table", some "which"), "which", "Table.which", defArgs s_Table_which, defBody s_Table_which, defScope s_Table_which, [], []⟩) rfl
    d_Table_parts := c.t.d.def_ 51 (d := ⟨("Table", some "parts"), "parts", "Table.parts", defArgs s_Table_parts, defBody s_Table_parts, defScope s_Table_parts, [], []⟩) rfl
    d_Table_rank := c.t.d.def_ 52 (d := ⟨("Table", some "rank"), "rank", "Table.rank", defArgs s_Table_rank, defBody s_Table_rank, defScope s_Table_rank, [], []⟩) rfl
    d_Table_longest := c.t.d.def_ 53 (d := ⟨("Table", some "longest"), "longest", "Table.longest", defArgs s_Table_longest, defBody s_Table_longest, defScope s_Table_longest, [], []⟩) rfl
    g__law_cell_at := He.glo_ok X G (c.t.d.fact 113 (f := .glo "_law_cell_at") rfl)
    d__law_cell_at := c.t.d.def_ 54 (d := ⟨("_law_cell_at", none), "_law_cell_at", "_law_cell_at", defArgs s__law_cell_at, defBody s__law_cell_at, defScope s__law_cell_at, [], []⟩) rfl
    g__law_numbers := He.glo_ok X G (c.t.d.fact 114 (f := .glo "_law_numbers") rfl)
    d__law_numbers := c.t.d.def_ 55 (d := ⟨("_law_numbers", none), "_law_numbers", "_law_numbers", defArgs s__law_numbers, defBody s__law_numbers, defScope s__law_numbers, [], []⟩) rfl
    g__law_signs := He.glo_ok X G (c.t.d.fact 115 (f := .glo "_law_signs") rfl)
    d__law_signs := c.t.d.def_ 56 (d := ⟨("_law_signs", none), "_law_signs", "_law_signs", defArgs s__law_signs, defBody s__law_signs, defScope s__law_signs, [], []⟩) rfl
    g__law_rows := He.glo_ok X G (c.t.d.fact 116 (f := .glo "_law_rows") rfl)
    d__law_rows := c.t.d.def_ 57 (d := ⟨("_law_rows", none), "_law_rows", "_law_rows", defArgs s__law_rows, defBody s__law_rows, defScope s__law_rows, [], []⟩) rfl
    g__law_cut := He.glo_ok X G (c.t.d.fact 117 (f := .glo "_law_cut") rfl)
    d__law_cut := c.t.d.def_ 58 (d := ⟨("_law_cut", none), "_law_cut", "_law_cut", defArgs s__law_cut, defBody s__law_cut, defScope s__law_cut, [], []⟩) rfl
    g__law_pieces := He.glo_ok X G (c.t.d.fact 118 (f := .glo "_law_pieces") rfl)
    d__law_pieces := c.t.d.def_ 59 (d := ⟨("_law_pieces", none), "_law_pieces", "_law_pieces", defArgs s__law_pieces, defBody s__law_pieces, defScope s__law_pieces, [], []⟩) rfl
    g__law_words := He.glo_ok X G (c.t.d.fact 119 (f := .glo "_law_words") rfl)
    d__law_words := c.t.d.def_ 60 (d := ⟨("_law_words", none), "_law_words", "_law_words", defArgs s__law_words, defBody s__law_words, defScope s__law_words, [], []⟩) rfl
    g__law_whole := He.glo_ok X G (c.t.d.fact 120 (f := .glo "_law_whole") rfl)
    d__law_whole := c.t.d.def_ 61 (d := ⟨("_law_whole", none), "_law_whole", "_law_whole", defArgs s__law_whole, defBody s__law_whole, defScope s__law_whole, [], []⟩) rfl
    g__law_patch := He.glo_ok X G (c.t.d.fact 121 (f := .glo "_law_patch") rfl)
    d__law_patch := c.t.d.def_ 62 (d := ⟨("_law_patch", none), "_law_patch", "_law_patch", defArgs s__law_patch, defBody s__law_patch, defScope s__law_patch, [], []⟩) rfl
    g__law_is_patch := He.glo_ok X G (c.t.d.fact 122 (f := .glo "_law_is_patch") rfl)
    d__law_is_patch := c.t.d.def_ 63 (d := ⟨("_law_is_patch", none), "_law_is_patch", "_law_is_patch", defArgs s__law_is_patch, defBody s__law_is_patch, defScope s__law_is_patch, [], []⟩) rfl
    g__law_change := He.glo_ok X G (c.t.d.fact 123 (f := .glo "_law_change") rfl)
    d__law_change := c.t.d.def_ 64 (d := ⟨("_law_change", none), "_law_change", "_law_change", defArgs s__law_change, defBody s__law_change, defScope s__law_change, [], []⟩) rfl
    g__law_patch_of := He.glo_ok X G (c.t.d.fact 124 (f := .glo "_law_patch_of") rfl)
    d__law_patch_of := c.t.d.def_ 65 (d := ⟨("_law_patch_of", none), "_law_patch_of", "_law_patch_of", defArgs s__law_patch_of, defBody s__law_patch_of, defScope s__law_patch_of, [], []⟩) rfl
    g__law_held := He.glo_ok X G (c.t.d.fact 125 (f := .glo "_law_held") rfl)
    d__law_held := c.t.d.def_ 66 (d := ⟨("_law_held", none), "_law_held", "_law_held", defArgs s__law_held, defBody s__law_held, defScope s__law_held, [], []⟩) rfl
    g__law_short := He.glo_ok X G (c.t.d.fact 126 (f := .glo "_law_short") rfl)
    d__law_short := c.t.d.def_ 67 (d := ⟨("_law_short", none), "_law_short", "_law_short", defArgs s__law_short, defBody s__law_short, defScope s__law_short, [], []⟩) rfl
    g__law_strange := He.glo_ok X G (c.t.d.fact 127 (f := .glo "_law_strange") rfl)
    d__law_strange := c.t.d.def_ 68 (d := ⟨("_law_strange", none), "_law_strange", "_law_strange", defArgs s__law_strange, defBody s__law_strange, defScope s__law_strange, [], []⟩) rfl
    g__law_refusal := He.glo_ok X G (c.t.d.fact 128 (f := .glo "_law_refusal") rfl)
    d__law_refusal := c.t.d.def_ 69 (d := ⟨("_law_refusal", none), "_law_refusal", "_law_refusal", defArgs s__law_refusal, defBody s__law_refusal, defScope s__law_refusal, [], []⟩) rfl
    g__law_refused := He.glo_ok X G (c.t.d.fact 129 (f := .glo "_law_refused") rfl)
    d__law_refused := c.t.d.def_ 70 (d := ⟨("_law_refused", none), "_law_refused", "_law_refused", defArgs s__law_refused, defBody s__law_refused, defScope s__law_refused, [], []⟩) rfl
    g__law_behind := He.glo_ok X G (c.t.d.fact 130 (f := .glo "_law_behind") rfl)
    d__law_behind := c.t.d.def_ 71 (d := ⟨("_law_behind", none), "_law_behind", "_law_behind", defArgs s__law_behind, defBody s__law_behind, defScope s__law_behind, [], []⟩) rfl
    g__law_back := He.glo_ok X G (c.t.d.fact 131 (f := .glo "_law_back") rfl)
    d__law_back := c.t.d.def_ 72 (d := ⟨("_law_back", none), "_law_back", "_law_back", defArgs s__law_back, defBody s__law_back, defScope s__law_back, [], []⟩) rfl
    g__law_other_signs := He.glo_ok X G (c.t.d.fact 132 (f := .glo "_law_other_signs") rfl)
    d__law_other_signs := c.t.d.def_ 73 (d := ⟨("_law_other_signs", none), "_law_other_signs", "_law_other_signs", defArgs s__law_other_signs, defBody s__law_other_signs, defScope s__law_other_signs, [], []⟩) rfl
    g__law_undone := He.glo_ok X G (c.t.d.fact 133 (f := .glo "_law_undone") rfl)
    d__law_undone := c.t.d.def_ 74 (d := ⟨("_law_undone", none), "_law_undone", "_law_undone", defArgs s__law_undone, defBody s__law_undone, defScope s__law_undone, [], []⟩) rfl
    g__law_drawn := He.glo_ok X G (c.t.d.fact 134 (f := .glo "_law_drawn") rfl)
    d__law_drawn := c.t.d.def_ 75 (d := ⟨("_law_drawn", none), "_law_drawn", "_law_drawn", defArgs s__law_drawn, defBody s__law_drawn, defScope s__law_drawn, [], []⟩) rfl
    g__law_same := He.glo_ok X G (c.t.d.fact 135 (f := .glo "_law_same") rfl)
    d__law_same := c.t.d.def_ 76 (d := ⟨("_law_same", none), "_law_same", "_law_same", defArgs s__law_same, defBody s__law_same, defScope s__law_same, [], []⟩) rfl
    g__law_places := He.glo_ok X G (c.t.d.fact 136 (f := .glo "_law_places") rfl)
    d__law_places := c.t.d.def_ 77 (d := ⟨("_law_places", none), "_law_places", "_law_places", defArgs s__law_places, defBody s__law_places, defScope s__law_places, [], []⟩) rfl
    g__law_made := He.glo_ok X G (c.t.d.fact 137 (f := .glo "_law_made") rfl)
    d__law_made := c.t.d.def_ 78 (d := ⟨("_law_made", none), "_law_made", "_law_made", defArgs s__law_made, defBody s__law_made, defScope s__law_made, [], []⟩) rfl
    g__law_begun := He.glo_ok X G (c.t.d.fact 138 (f := .glo "_law_begun") rfl)
    d__law_begun := c.t.d.def_ 79 (d := ⟨("_law_begun", none), "_law_begun", "_law_begun", defArgs s__law_begun, defBody s__law_begun, defScope s__law_begun, [], []⟩) rfl
    g__law_changed := He.glo_ok X G (c.t.d.fact 139 (f := .glo "_law_changed") rfl)
    d__law_changed := c.t.d.def_ 80 (d := ⟨("_law_changed", none), "_law_changed", "_law_changed", defArgs s__law_changed, defBody s__law_changed, defScope s__law_changed, [], []⟩) rfl
    g__law_block := He.glo_ok X G (c.t.d.fact 140 (f := .glo "_law_block") rfl)
    d__law_block := c.t.d.def_ 81 (d := ⟨("_law_block", none), "_law_block", "_law_block", defArgs s__law_block, defBody s__law_block, defScope s__law_block, [], []⟩) rfl
    g_law := He.glo_ok X G (c.t.d.fact 141 (f := .glo "law") rfl)
    d_law := c.t.d.def_ 82 (d := ⟨("law", none), "law", "law", defArgs s_law, defBody s_law, defScope s_law, [], []⟩) rfl }
theorem law_fact {P : Program} {w : World} {K : PySem.W.Frag} {h : Heap} {mg : Str → Option Value} {f : Addr} (X : K.In h) (G : h.Ns mainGlobals mg) (hfa : mg ("law" : Str) = some (.ref f)) (c : SaysC fa fn (fun K => (exs K).all id) w K) :
    ∃ fd : FuncData, (∀ (s : Shared) (v : Value), BindsTo s fd ⟨[v], []⟩ [("_law_script", v)]) ∧ ∀ base : Heap, K.In base → base.Ns mainGlobals mg → FnOk P w K mg base CX0 15 f fd ["_law_script"] (spLaw K) := by
  have T := tx_of X G c
  have e := hfa.symm.trans (He.glo_ok X G (c.t.d.fact 141 (f := .glo "law") rfl))
  cases e
  obtain ⟨fd, F, ok⟩ := fn_law (P := P) (w := w) T
  have b := FunD.bindsA (ps := ["_law_script"]) F fun _ _ _ _ _ _ us hl => match us, hl with | [_], _ => rfl
  exact ⟨fd, fun s v => b s [v] rfl, fun base _ _ => ok base⟩
end Jr
open PySem PySem.W PySem.Calls PyProof.Rows
set_option maxRecDepth 100000 in
set_option maxHeartbeats 0 in
theorem PySem.Challenge.cw_joinranks_k51_kept_under_other_tables_holds : PySem.Challenge.rw_joinranks_k51_kept_under_other_tables.Holds := by
  w_on; o_law
  refine HandSHeadRun.head_any (r := OpenLaw.row PySem.Challenge.rw_joinranks_k51_kept_under_other_tables) (q := view (OpenLaw.row PySem.Challenge.rw_joinranks_k51_kept_under_other_tables).prog [86]) (H := Jr.hk) (ob := Jr.ob) (M := 8000) (loose := Jr.loose) (d := HandSHeadRun.topDef (OpenLaw.row PySem.Challenge.rw_joinranks_k51_kept_under_other_tables).prog 86) (kwd := []) Jr.ob_eq
    (by kernel_rfl) (fun s => by kernel_rfl) Jr.run (by kernel_rfl) (by kernel_rfl) (by kernel_rfl) (by rfl) (by first | assumption | decide +kernel) (by decide +kernel) ⟨rfl, rfl, rfl, rfl, rfl, by decide +kernel⟩ ?hw ?hc
  case hw => w_witness2
  case hc =>
    refine L2.walk_ofE (l := PySem.Challenge.rw_joinranks_k51_kept_under_other_tables) (n := 63) (k := 15) (x := "_law_script") (CX := L2.CX0) rfl (by decide) (by kernel_rfl) ⟨rfl, by decide, by decide⟩ ?F (fun _ _ _ _ z => z)
    intro w mg fa h Y G hmg0
    obtain ⟨K, KX, c⟩ := Y
    have hmg : mg ("law" : PySem.Str) = some (.ref fa) := by
      have e : (HandSHeadRun.topDef (OpenLaw.row PySem.Challenge.rw_joinranks_k51_kept_under_other_tables).prog 86).name = ("law" : PySem.Str) := by kernel_rfl
      rw [← e]
      exact hmg0
    obtain ⟨fd, hb, hF⟩ := Jr.law_fact (P := (PySem.Challenge.rw_joinranks_k51_kept_under_other_tables).prog) (w := w) KX G hmg c
    exact ⟨K, fd, Jr.spLaw K, KX, hb, fun H a ns hl _ hS => ⟨a, ns, rfl, hS, hl, fun _ => rfl⟩, hF⟩
#print axioms PySem.Challenge.cw_joinranks_k51_kept_under_other_tables_holds

