import PyProof.Rows.All
import Wide.All
import OpenK.AllK
import Wide.FinOn
import KE.KStateDown
import Lean
import HandS.ForMost
import HandS.Exc
import HandS.TryOnly
import HandS.ExcOwn
import HandS.WordsExc
import HandS.ExcInit
import HandS.ExcField
import HandS.CallSlots
import KE.KExcIs
import HandS.ExcIs
import HandS.Conv
import HandS.SortKw
import KE.DataMinMax
import HandS.AnyAll
import HandS.IsInst
import HandS.Style
import HandS.Wide
import HandS.FStr
import HandS.Flow
import HandS.Codes
import HandS.Defaults
import HandS.More
import HandS.Head0
import HandS.Head1
import HandS.Head2
import HandS.HeadEnd
import HandS.HeadHook1
import HandS.HeadHook2
import HandS.HeadHook3
import HandS.HeadHook4
import HandS.EndBits
import HandS.EndTab
import HandS.HeadWalk
import HandS.RevRange
import KE.KDictZip
import HandS.TryMany
import HandS.ExcValue
import HandS.NoneIn
import HandS.Deep
import KE.GoesMore
import KE.KDictZip
import KE.GoesZip
import PySem.Challenge.RW_joinranks_k63_renamed
set_option Elab.async false
set_option linter.all false
set_option maxRecDepth 100000
set_option maxHeartbeats 2000000
namespace Jr
open PySem PySem.Spec PyProof.Rows L2
/-! ### list(text) -/
/-- the signs of a text, each a text -/
def sgn (c : Nat) : Str := ⟨#[c]⟩
def sgs (z : Str) : List Str := z.cps.toList.map sgn
theorem sgs_len (z : Str) : (sgs z).length = z.length := by simp [sgs, Str.length]
section
variable {X : Cx}
def rListStr : List V → Hp → VK → Prop := fun xs H Q => ∃ z : Str, xs = [.str z] ∧ z.length ≤ sizeLine ∧ ∀ l, H l = none → Q (.ref l) (upd H l (.lst ((sgs z).map V.str)))
theorem call_list_str (hc : X.calm = true) : CallR X (.type "list") rListStr := by
  intro pins s σ H xs us Q I r h
  obtain ⟨z, rfl, hz, q⟩ := h
  cases r with
  | cons r rr =>
    cases rr
    obtain ⟨t, rfl⟩ := r
    refine PySem.call_list_str (I.ok.hd hc) z t (fun h' tk acc c' hk e hi => ?_) hz
    refine ⟨.ref s.heap.objs.size, upd H s.heap.objs.size (.lst ((sgs z).map V.str)), I.laid hk (Nat.le_refl _) ⟨by rw [List.length_map, sgs_len]; exact hz, acc.toList, c', ?_, by rw [Array.toArray_toList]; exact e⟩, rfl, q _ (I.hok.fresh (Nat.le_refl _))⟩
    refine vals_of_idx _ _ (by rw [List.length_map, sgs_len, Array.length_toList]; exact hi.1) fun j u hj => ?_
    obtain ⟨c, t', hcx, rfl⟩ := hi.2 j u (by rw [← Array.getElem?_toList]; exact hj)
    refine ⟨.str (sgn c), ?_, ⟨_, rfl⟩⟩
    have e1 : z.cps.toList[j]? = some c := by rw [Array.getElem?_toList]; exact hcx
    simp [sgs, e1]
end
/-! ### enumerate(text) -/
def Ites (x : Str) : It :=
  ⟨fun i _ => i < x.cps.size, fun i H v H' => ∃ T c, v = .ref T ∧ H T = none ∧ x.cps[i]? = some c ∧ H' = upd H T (.tup [.int (i : Nat), .str (sgn c)]), fun i _ => x.cps.size ≤ i⟩
theorem turn_enumS {P : Program} {w : World} {K : PySem.W.Frag} {elts : List Expr} {kk : Nat} {tpos : Pos} (x : Str) (t : Tok) (ty : String) (hty : ty = "str_ascii_iterator" ∨ ty = "str_iterator") (e it : Addr) :
    Turn P w K (.Tuple elts kk tpos) (Ites x) [e, it] e (fun i h => i ≤ x.cps.size ∧ (∃ old, IsEnum h e it ((i : Nat) : Int) old) ∧ h.IsStrIter it ty x t i ∧ e ≠ it) where
  mem := by simp
  obj := fun i h st b hb => by
    obtain ⟨_, ⟨old, he⟩, ⟨o, ho, hc, hd⟩, _⟩ := st
    have e' : b = e ∨ b = it := by simpa using hb
    rcases e' with z | z
    · rw [z]; exact ⟨_, he, fun v q => nomatch q⟩
    · rw [z]; exact ⟨o, ho, fun v q => by rw [hd] at q; cases q⟩
  keep := fun i h h' st k => let ⟨hl, ⟨old, he⟩, ⟨o, ho, r⟩, hne⟩ := st; ⟨hl, ⟨old, k e (by simp) _ he⟩, ⟨o, k it (by simp) o ho, r⟩, hne⟩
  item := by
    intro X hP hw hK hc i pins s σ H E I hf st hg
    subst hP hw hK
    obtain ⟨hl0, ⟨old, he⟩, hit, hne⟩ := st
    have D : Draws X.prog X.w X.A.in1 it [it] x.cps.size (fun i v => ∃ c u, x.cps[i]? = some c ∧ v = .str ⟨#[c]⟩ u) (fun i h => h.IsStrIter it ty x t i) := by
      rcases hty with z | z
      · rw [z]; exact Draws.strAscii (A := X.A.in1) (I.ok.hd hc) it x t
      · rw [z]; exact Draws.strWide (A := X.A.in1) (I.ok.hd hc) it x t
    have hel : e < s.heap.objs.size := Heap.lt_size he
    have hil : it < s.heap.objs.size := by obtain ⟨_, q, _⟩ := hit; exact Heap.lt_size q
    refine wpAny_pyNext_enum_itemD D he hit hg hne (by simpa using hne) fun u h' tk hu ho hit' hT hsz hk => ?_
    obtain ⟨c, tu, hcx, rfl⟩ := hu
    refine ⟨_, rfl, wpAny_letOwnedTupleGo_enum (s := { s with heap := h', toks := tk + 1 }) ho fun h'' he' sb => ?_⟩
    have hT2 : h''.get? s.heap.objs.size = some { cls := .type "tuple", data := .seq #[.int i tk, .str ⟨#[c]⟩ tu] } := (sb.2 _ (Nat.ne_of_gt hel)).trans hT
    have new : ObjOk X.prog X.w (upd H s.heap.objs.size (.tup [.int (i : Nat), .str (sgn c)])) h'' s.heap.objs.size (.tup [.int (i : Nat), .str (sgn c)]) :=
      ⟨by show 2 ≤ sizeLine; decide, [.int i tk, .str ⟨#[c]⟩ tu], .cons ⟨_, rfl⟩ (.cons ⟨_, rfl⟩ .nil), ⟨_, hT2, rfl, _, rfl⟩⟩
    have I1 : Inv X pins σ (upd H s.heap.objs.size (.tup [.int (i : Nat), .str (sgn c)])) { s with heap := h'', toks := tk + 1 } :=
      I.turnedNew (ch := [e, it]) (fun b ob hb q => (sb.2 b (fun z => hb (by simp [z]))).trans (hk b ob (fun z => hb (by simp [z])) (fun z => hb (by simp [z])) q)) hf (Nat.le_refl _) new
    refine ⟨.ref s.heap.objs.size, _, I1, rfl, ⟨_, c, rfl, I.hok.fresh (Nat.le_refl _), hcx, rfl⟩, ⟨hg, ⟨.str ⟨#[c]⟩ tu, ?_⟩, ?_, hne⟩, fun b hb => ?_⟩
    · have e1 : ((i + 1 : Nat) : Int) = (i : Int) + 1 := by omega
      rw [e1]; exact he'
    · obtain ⟨o, q, r⟩ := hit'
      exact ⟨o, (sb.2 it (Ne.symm hne)).trans q, r⟩
    · have hb' : b < s.heap.objs.size := by
        have e' : b = e ∨ b = it := by simpa using hb
        rcases e' with z | z
        · rw [z]; exact hel
        · rw [z]; exact hil
      rw [upd_ne (Nat.ne_of_lt hb')]
      exact (hf b hb).1
  done := by
    intro X hP hw hK hc i pins s σ H E I hf st hg
    subst hP hw hK
    obtain ⟨hl0, ⟨old, he⟩, hit, hne⟩ := st
    have ei : i = x.cps.size := Nat.le_antisymm hl0 hg
    subst ei
    have D : Draws X.prog X.w X.A.in1 it [it] x.cps.size (fun i v => ∃ c u, x.cps[i]? = some c ∧ v = .str ⟨#[c]⟩ u) (fun i h => h.IsStrIter it ty x t i) := by
      rcases hty with z | z
      · rw [z]; exact Draws.strAscii (A := X.A.in1) (I.ok.hd hc) it x t
      · rw [z]; exact Draws.strWide (A := X.A.in1) (I.ok.hd hc) it x t
    obtain ⟨f0, f1, f2, f3, f4, f5⟩ := hf it (by simp)
    exact wpAny_pyNext_enum_endD D he hit fun h' eb => ⟨rfl, I.turned (t' := s.toks) (fun b o hb q => eb b o hb q) f0 f1 f3 f4 f5⟩
  self := fun A i s Q E st h => let ⟨_, ⟨_, he⟩, _⟩ := st; wpAny_pyIter_enum he h
def iEnumS (ta : TA) : TI := fun σ H R => ta σ H fun vs H1 => ∃ x : Str, vs = [.str x] ∧ R (Ites x) H1
theorem pi_enumS {X : Cx} {e : Expr} {ta : TA} {p pos tpos : Pos} {elts : List Expr} {kk : Nat} (hg : Gl X "enumerate") (hm : X.mg "enumerate" = none) (ha : PA X [e] ta) (hs : starEach [e] X.env = [(false, eval e X.env)] := by rfl) :
    PI X (.Tuple elts kk tpos) (.Call (.Name "enumerate" p) [e] [] pos) (iEnumS ta) := by
  refine ⟨fun pins s σ H R I h => ?_⟩
  refine Call_ (ld_blt I hg hm boot_enumerate (PyProof.Rows.callWith_type1 (thn (ha.run pos pins s σ H _ I h) fun us s1 ⟨vs, H1, I1, r1, q1⟩ => ?_) hs rfl))
  obtain ⟨x, ex, q⟩ := q1
  subst ex
  cases r1 with
  | cons r rr =>
    cases rr
    obtain ⟨t, rfl⟩ := r
    refine call_enumerate_str fun h' he hit hsz hk => wpAny_pyIter_enum he ?_
    have I2 : Inv X pins σ H1 { s1 with heap := h' } := I1.kept (t' := s1.toks) hk
    have hty : strIterType x = "str_ascii_iterator" ∨ strIterType x = "str_iterator" := by
      unfold strIterType
      split
      · exact .inl rfl
      · exact .inr rfl
    refine ⟨s1.heap.objs.size + 1, [s1.heap.objs.size + 1, s1.heap.objs.size], _, _, H1, rfl, I2, turn_enumS x t (strIterType x) hty (s1.heap.objs.size + 1) s1.heap.objs.size, ⟨Nat.zero_le _, ⟨.none, he⟩, hit, Nat.succ_ne_self _⟩, fun b hb => ?_, q⟩
    have e' : b = s1.heap.objs.size + 1 ∨ b = s1.heap.objs.size := by simpa using hb
    have hle : s1.heap.objs.size ≤ b := by
      rcases e' with z | z
      · rw [z]; exact Nat.le_add_right _ _
      · rw [z]; exact Nat.le_refl _
    exact I1.fpOk hle (I1.hok.fresh hle)
/-! ### loops in short -/
section
variable {g : TG} {tb : TS} {D : Ends} {σ : L2.St} {H : Hp}
theorem for_enumS {x : Str} (Pv : Nat → L2.St → Hp → Prop) (h0 : Pv 0 σ H)
    (hs : ∀ i c T σ H, x.cps.toList[i]? = some c → H T = none → Pv i σ H → g (.ref T) σ (upd H T (.tup [.int (i : Nat), .str (sgn c)])) fun σ2 H2 => tb { D with nx := Pv (i + 1), ct := Pv (i + 1), bk := D.nx } σ2 H2) (hd : ∀ σ H, Pv x.cps.toList.length σ H → D.nx σ H) :
    ∃ W : Nat → Nat → L2.St → Hp → Prop, (∃ m, W 0 m σ H) ∧ ∀ i m σ H, W i m σ H →
      ((Ites x).stop i H ∧ D.nx σ H) ∨ ((Ites x).go i H ∧ ∃ N : L2.St → Hp → Prop, (∀ σ' H', N σ' H' → ∃ m', m' < m ∧ W (i + 1) m' σ' H') ∧ ∀ y H', (Ites x).yld i H y H' → g y σ H' fun σ2 H2 => tb { D with nx := N, ct := N, bk := D.nx } σ2 H2) := by
  have es : x.cps.toList.length = x.cps.size := by simp
  rw [es] at hd
  refine ⟨fun i m σ H => m = x.cps.size - i ∧ i ≤ x.cps.size ∧ Pv i σ H, ⟨x.cps.size, by simp, Nat.zero_le _, h0⟩, ?_⟩
  rintro i m σ H ⟨rfl, hi, p⟩
  by_cases hlt : i < x.cps.size
  · refine .inr ⟨hlt, Pv (i + 1), fun σ' H' p' => ⟨x.cps.size - (i + 1), by omega, rfl, hlt, p'⟩, fun y H' z => ?_⟩
    obtain ⟨T, c, rfl, hT, hc, rfl⟩ := z
    exact hs i c T σ H (by rw [Array.getElem?_toList]; exact hc) hT p
  · have e : i = x.cps.size := by omega
    subst e
    exact .inl ⟨Nat.le_refl _, hd σ H p⟩
theorem for_str {x : Str} (Pv : Nat → L2.St → Hp → Prop) (h0 : Pv 0 σ H)
    (hs : ∀ i c σ H, x.cps.toList[i]? = some c → Pv i σ H → g (.str (sgn c)) σ H fun σ2 H2 => tb { D with nx := Pv (i + 1), ct := Pv (i + 1), bk := D.nx } σ2 H2) (hd : ∀ σ H, Pv x.cps.toList.length σ H → D.nx σ H) :
    ∃ W : Nat → Nat → L2.St → Hp → Prop, (∃ m, W 0 m σ H) ∧ ∀ i m σ H, W i m σ H →
      ((Its x).stop i H ∧ D.nx σ H) ∨ ((Its x).go i H ∧ ∃ N : L2.St → Hp → Prop, (∀ σ' H', N σ' H' → ∃ m', m' < m ∧ W (i + 1) m' σ' H') ∧ ∀ y H', (Its x).yld i H y H' → g y σ H' fun σ2 H2 => tb { D with nx := N, ct := N, bk := D.nx } σ2 H2) := by
  have es : x.cps.toList.length = x.cps.size := by simp
  rw [es] at hd
  refine ⟨fun i m σ H => m = x.cps.size - i ∧ i ≤ x.cps.size ∧ Pv i σ H, ⟨x.cps.size, by simp, Nat.zero_le _, h0⟩, ?_⟩
  rintro i m σ H ⟨rfl, hi, p⟩
  by_cases hlt : i < x.cps.size
  · refine .inr ⟨hlt, Pv (i + 1), fun σ' H' p' => ⟨x.cps.size - (i + 1), by omega, rfl, hlt, p'⟩, fun y H' z => ?_⟩
    obtain ⟨e, c, hc, rfl⟩ := z
    subst e
    exact hs i c σ _ (by rw [Array.getElem?_toList]; exact hc) p
  · have e : i = x.cps.size := by omega
    subst e
    exact .inl ⟨Nat.le_refl _, hd σ H p⟩
theorem for_enum {K : PySem.W.Frag} {a : Addr} {xs : List V} (Pv : Nat → L2.St → Hp → Prop) (h0 : Pv 0 σ H) (hl : ∀ i σ H, i ≤ xs.length → Pv i σ H → SqL K H a xs)
    (hs : ∀ i x T σ H, xs[i]? = some x → H T = none → Pv i σ H → g (.ref T) σ (upd H T (.tup [.int (i : Nat), x])) fun σ2 H2 => tb { D with nx := Pv (i + 1), ct := Pv (i + 1), bk := D.nx } σ2 H2) (hd : ∀ σ H, Pv xs.length σ H → D.nx σ H) :
    ∃ W : Nat → Nat → L2.St → Hp → Prop, (∃ m, W 0 m σ H) ∧ ∀ i m σ H, W i m σ H →
      ((Ite K a).stop i H ∧ D.nx σ H) ∨ ((Ite K a).go i H ∧ ∃ N : L2.St → Hp → Prop, (∀ σ' H', N σ' H' → ∃ m', m' < m ∧ W (i + 1) m' σ' H') ∧ ∀ y H', (Ite K a).yld i H y H' → g y σ H' fun σ2 H2 => tb { D with nx := N, ct := N, bk := D.nx } σ2 H2) := by
  refine ⟨fun i m σ H => m = xs.length - i ∧ i ≤ xs.length ∧ Pv i σ H, ⟨xs.length, by simp, Nat.zero_le _, h0⟩, ?_⟩
  rintro i m σ H ⟨rfl, hi, p⟩
  have q := hl i σ H hi p
  by_cases hlt : i < xs.length
  · refine .inr ⟨⟨xs, xs[i], q, by simp [hlt]⟩, Pv (i + 1), fun σ' H' p' => ⟨xs.length - (i + 1), by omega, rfl, hlt, p'⟩, fun y H' z => ?_⟩
    obtain ⟨T, x, rfl, hT, rfl, hx⟩ := z
    exact hs i x T σ H (hx xs q) hT p
  · have e : i = xs.length := by omega
    subst e
    exact .inl ⟨⟨xs, q, Nat.le_refl _⟩, hd σ H p⟩
end
/-! ### defs and methods that keep a promise, by name -/
structure Cal (P : Program) (w : World) (K : PySem.W.Frag) (mg : Str → Option Value) (base : Heap) (CX : CXT) (k : Nat) (x : Str) (sp : Sp) : Prop where
  ex : ∃ (f : Addr) (fd : FuncData) (ps : List Str), FnOk P w K mg base CX k f fd ps sp ∧ mg x = some (.ref f) ∧ PySem.W.keepIn K (.ref f) = true ∧ Binds K fd ps []
structure Met (P : Program) (w : World) (K : PySem.W.Frag) (mg : Str → Option Value) (base : Heap) (CX : CXT) (k : Nat) (C : Addr) (m : Str) (sp : Sp) : Prop where
  cl : Cls K C
  ex : ∃ (f : Addr) (fd : FuncData) (ps : List Str), FnOk P w K mg base CX k f fd ps sp ∧ Meth K C m f ∧ Binds K fd ps []
structure Mkc (P : Program) (w : World) (K : PySem.W.Frag) (mg : Str → Option Value) (base : Heap) (CX : CXT) (k : Nat) (x : Str) (C : Addr) (sp : Sp) : Prop where
  ex : ∃ (f : Addr) (fd : FuncData) (ps : List Str), FnOk P w K mg base CX k f fd ps sp ∧ Mk K C f ∧ Binds K fd ps []
  g : mg x = some (.ref C)
section
variable {X : Cx} {k : Nat} {x : Str} {sp : Sp} {e : Expr} {es : List Expr} {t : TA} {p pos apos : Pos} {C : Addr} {m : Str} {o : Expr} {ta : TE}
theorem pe_cal (F : Cal X.prog X.w X.K X.mg X.base CX0 k x sp) (hr : Room k X.A) (hg : Gl X x) (ha : PA X (e :: es) t) (hdb : (x == ("__debug__" : Str)) = false := by decide)
    (he : starEach (e :: es) X.env = (false, eval e X.env) :: starEach es X.env := by rfl) (hpl : (backTo pos (starEach es X.env)).any (·.1) = false := by rfl) :
    PE X (.Call (.Name x p) (e :: es) [] pos) (fun σ H Q => t σ H fun vs H1 => sp vs H1 Q E0) := by
  obtain ⟨f, fd, ps, G, gm, kp, b⟩ := F.ex
  have z := pe_call (p := p) (pos := pos) (es := es) G hr hg gm kp b .nil pass0 ha hdb he hpl
  refine ⟨fun pins s σ H Q I h => z.run pins s σ H Q I ?_⟩
  show t σ H fun vs H1 => sp (vs ++ []) H1 Q E0
  simpa only [List.append_nil] using h
theorem pe_cal0 (F : Cal X.prog X.w X.K X.mg X.base CX0 k x sp) (hr : Room k X.A) (hg : Gl X x) (hdb : (x == ("__debug__" : Str)) = false := by decide) :
    PE X (.Call (.Name x p) [] [] pos) (fun _ H Q => sp [] H Q E0) := by
  obtain ⟨f, fd, ps, G, gm, kp, b⟩ := F.ex
  have z := pe_call0 (p := p) (pos := pos) G hr hg gm kp b .nil pass0 hdb
  exact ⟨fun pins s σ H Q I h => z.run pins s σ H Q I h⟩
theorem pe_met {pl : Sem Bool} (F : Met X.prog X.w X.K X.mg X.base CX0 k C m sp) (ho : PE X o ta) (hr : Room k X.A) (ha : PA X (e :: es) t)
    (hc : eval (.Call (.Attribute o m apos) (e :: es) [] pos) X.env = (do
      let ov ← eval o X.env
      standAt apos.atName
      let (f, first) ← holding [ov] (getMethod ov m pl)
      callWith pos f first (backTo pos (starEach (e :: es) X.env)) (backToKw pos (keywordEach [] X.env))) := by rfl)
    (he : starEach (e :: es) X.env = (false, eval e X.env) :: starEach es X.env := by rfl) (hpl : (backTo pos (starEach es X.env)).any (·.1) = false := by rfl) :
    PE X (.Call (.Attribute o m apos) (e :: es) [] pos) (fun σ H Q => ta σ H fun x H1 => ∃ a dx fs, x = .ref a ∧ H1 a = some (.ins C dx fs) ∧ fs.lookup m = none ∧ t σ H1 fun vs H2 => sp (x :: vs) H2 Q E0) := by
  obtain ⟨f, fd, ps, G, mt, b⟩ := F.ex
  have z := pe_meth (apos := apos) (pos := pos) ho F.cl mt G hr b .nil pass0 ha he hpl hc
  refine ⟨fun pins s σ H Q I h => z.run pins s σ H Q I ?_⟩
  show ta σ H fun x H1 => ∃ a dx fs, x = .ref a ∧ H1 a = some (.ins C dx fs) ∧ fs.lookup m = none ∧ t σ H1 fun vs H2 => sp (x :: (vs ++ [])) H2 Q E0
  simpa only [List.append_nil] using h
theorem pe_met0 {pl : Sem Bool} (F : Met X.prog X.w X.K X.mg X.base CX0 k C m sp) (ho : PE X o ta) (hr : Room k X.A)
    (hc : eval (.Call (.Attribute o m apos) [] [] pos) X.env = (do
      let ov ← eval o X.env
      standAt apos.atName
      let (f, first) ← holding [ov] (getMethod ov m pl)
      callWith pos f first (backTo pos (starEach [] X.env)) (backToKw pos (keywordEach [] X.env))) := by rfl) :
    PE X (.Call (.Attribute o m apos) [] [] pos) (fun σ H Q => ta σ H fun x H1 => ∃ a dx fs, x = .ref a ∧ H1 a = some (.ins C dx fs) ∧ fs.lookup m = none ∧ sp [x] H1 Q E0) := by
  obtain ⟨f, fd, ps, G, mt, b⟩ := F.ex
  have z := pe_meth0 (apos := apos) (pos := pos) ho F.cl mt G hr b .nil pass0 hc
  exact ⟨fun pins s σ H Q I h => z.run pins s σ H Q I h⟩
theorem pe_mk (F : Mkc X.prog X.w X.K X.mg X.base CX0 k x C sp) (hr : Room (k + 1) X.A) (hg : Gl X x) (ha : PA X (e :: es) t) (hdb : (x == ("__debug__" : Str)) = false := by decide)
    (he : starEach (e :: es) X.env = (false, eval e X.env) :: starEach es X.env := by rfl) (hpl : (backTo pos (starEach es X.env)).any (·.1) = false := by rfl) :
    PE X (.Call (.Name x p) (e :: es) [] pos) (fun σ H Q => t σ H fun vs H1 => ∀ x dx, H1 x = none → H1 dx = none → dx ≠ x →
      sp (.ref x :: vs) (upd (upd H1 dx (.own x)) x (.ins C dx [])) (fun v H2 => v = .non ∧ Q (.ref x) H2) E0) := by
  obtain ⟨f, fd, ps, G, mk, b⟩ := F.ex
  have z := pe_make (p := p) (pos := pos) (es := es) mk G hr hg F.g b .nil pass0 ha hdb he hpl
  refine ⟨fun pins s σ H Q I h => z.run pins s σ H Q I ?_⟩
  show t σ H fun vs H1 => ∀ x dx, H1 x = none → H1 dx = none → dx ≠ x → sp (.ref x :: (vs ++ [])) (upd (upd H1 dx (.own x)) x (.ins C dx [])) (fun v H2 => v = .non ∧ Q (.ref x) H2) E0
  simpa only [List.append_nil] using h
end
/-! ### heaps -/
theorem Same.new {H : Hp} {p : Addr} {o : HO} (h : H p = none) : Same H (upd H p o) := fun b x e => by
  rw [upd_ne (ne_of_none e h)]
  exact e
/-- an object that H does not know may change -/
theorem Same.mut {H H' : Hp} {p : Addr} {o : HO} (s : Same H H') (h : H p = none) : Same H (upd H' p o) := fun b x e => by
  rw [upd_ne (ne_of_none e h)]
  exact s b x e
theorem Same.put {H H' : Hp} {p : Addr} {o : HO} (s : Same H H') (h : H' p = none) : Same H (upd H' p o) := s.trans (Same.new h)
theorem sz {n : Nat} (h : n ≤ 100000) : n ≤ sizeLine := Nat.le_trans h (by decide)
theorem szl {n : Nat} (h : n < 100000) : n < sizeLine := Nat.lt_of_lt_of_le h (by decide)
theorem ats {α : Type} {xs : List α} {i : Nat} {x : α} (h : xs[i]? = some x) : atI xs (i : Int) = some x := by
  have hl : i < xs.length := (List.getElem?_eq_some_iff.mp h).1
  unfold atI ixN
  rw [if_pos (by omega), if_pos (by omega)]
  simpa using h
/-- digits below their sizes -/
abbrev Digs : List Int → List Int → Prop := Paired fun z d => 0 ≤ d ∧ d < z
end Jr
namespace Jr
open PySem PySem.Spec PyProof.Rows L2
/-! ### xs + ys, lists that may be locked -/
def rCatL (K : PySem.W.Frag) : R2 := fun x y H Q => ∃ l b xs zs, x = .ref l ∧ y = .ref b ∧ SqL K H l xs ∧ SqL K H b zs ∧ xs.length + zs.length ≤ sizeLine ∧ ∀ p, H p = none → Q (.ref p) (upd H p (.lst (xs ++ zs)))
theorem op_catL {X : Cx} : OpR X (binaryOp .Add) (rCatL X.K) := by
  intro pins s σ H x y v u Q I rx ry h
  obtain ⟨l, b, xs, zs, rfl, rfl, hH, hB, hz, q⟩ := h
  cases rx
  cases ry
  obtain ⟨its, r, ⟨o1, n1, g1, c1, d1, t1⟩, z1⟩ := I.list hH
  obtain ⟨its2, r2, ⟨o2, n2, g2, c2, d2, t2⟩, z2⟩ := I.list hB
  obtain ⟨k1, e1, dt1, sl1⟩ := o1
  obtain ⟨k2, e2, dt2, sl2⟩ := o2
  simp only at c1 d1 t1 c2 d2 t2
  subst c1 d1 t1 c2 d2 t2
  have l1 := r.length
  have l2 := r2.length
  have ea : its.toArray ++ its2.toArray = (its ++ its2).toArray := by simp
  have fin := I.lnew (t' := s.toks) (r.append r2) (by rw [List.length_append]; omega)
  rw [← ea] at fin
  exact concat_meets ⟨_, g1, rfl⟩ ⟨_, g2, rfl⟩ noFill_list_add seq_list_add F.slot_list_add F.entry_list_add (F.args_list_add_2 _ _)
    (list_addW l b its.toArray its2.toArray n1 n2 none none sl1 sl2 (by rw [List.size_toArray, List.size_toArray]; omega)) ⟨g1, g2, ⟨.ref _, _, fin, rfl, q _ I.fresh⟩⟩
end Jr
namespace Jr
open PySem PySem.Spec PyProof.Rows L2
/-! ### rules whose reading names the written part, for comprehensions -/
section
variable {X : Cx} {K : PySem.W.Frag}
theorem call_len_seqK (h : X.K = K := by rfl) : CallR X (.builtin "len") (fun xs H Q => ∃ p ys, xs = [.ref p] ∧ (SqL K H p ys ∨ SqT K H p ys) ∧ Q (.int ys.length) H) := by subst h; exact call_len_seq
theorem ix_listK (h : X.K = K := by rfl) : IxR X (rIxL K) := by subst h; exact ix_list
theorem ix_tupK (h : X.K = K := by rfl) : IxR X (rIxT K) := by subst h; exact ix_tup
theorem sl_listK (h : X.K = K := by rfl) : SlR X (rSlL K) := by subst h; exact sl_list
theorem op_in_seqK (h : X.K = K := by rfl) : OpR X (compareOp .In) (rIn K false) := by subst h; exact op_in_seq
theorem op_notIn_seqK (h : X.K = K := by rfl) : OpR X (compareOp .NotIn) (rIn K true) := by subst h; exact op_notIn_seq
theorem op_eqDK (hu : X.A.units + 64 < cLine) (h : X.K = K := by rfl) : OpR X (compareOp .Eq) (rEqD K) := by subst h; exact op_eqD hu
theorem op_neDK (hu : X.A.units + 64 < cLine) (h : X.K = K := by rfl) : OpR X (compareOp .NotEq) (rNeD K) := by subst h; exact op_neD hu
theorem call_isiK' (h : X.K = K := by rfl) : CallR X (.builtin "isinstance") (rIsi K) := by subst h; exact call_isi
theorem call_list_ofK (h : X.K = K := by rfl) : CallR X (.type "list") (fun xs H Q => ∃ p ys, xs = [.ref p] ∧ (SqL K H p ys ∨ SqT K H p ys) ∧ ∀ l, H l = none → Q (.ref l) (upd H l (.lst ys))) := by subst h; exact call_list_of
end
end Jr
namespace Jr
open PySem PySem.Spec PyProof.Rows L2
/-! ### comprehensions whose element and test change nothing: a filter and a map -/
section
variable {α : Type} {item : α → V} {p : α → Bool} {f : α → V} {g : TG} {tt : TT} {te : TE} {vs : List Nat} {σ : L2.St} {H1 : Hp} {D : Addr} {Qd : Hp → Prop}
/-- one turn of such a comprehension -/
def LcTurn (item : α → V) (p : α → Bool) (f : α → V) (g : TG) (tt : TT) (te : TE) (vs : List Nat) (σ : L2.St) (H1 : Hp) (x : α) : Prop :=
  ∀ (H' : Hp), Same H1 H' → ∀ (N : Hp → Prop) (M : V → Hp → Prop), (p x = true → M (f x) H') → (p x = false → N H') →
    g (item x) (wipe σ vs) H' fun σ2 H2 => wipe σ2 vs = wipe σ vs ∧ tt σ2 H2 fun b H3 => if b = true then te σ2 H3 M else N H3
theorem lc_step {l : List α} {i : Nat} {x : α} {H : Hp} (hD : H1 D = none) (hx : l[i]? = some x) (hlen : l.length ≤ 100000) (turn : LcTurn item p f g tt te vs σ H1 x)
    (sm : Same H1 H) (hL : H D = some (.lst (((l.take i).filter p).map f))) :
    g (item x) (wipe σ vs) H fun σ2 H2 => wipe σ2 vs = wipe σ vs ∧ tt σ2 H2 fun b H3 =>
      if b = true then te σ2 H3 fun y H4 => ∃ acc, H4 D = some (.lst acc) ∧ acc.length < sizeLine ∧ (fun H' => Same H1 H' ∧ H' D = some (.lst (((l.take (i + 1)).filter p).map f))) (upd H4 D (.lst (acc ++ [y])))
      else (fun H' => Same H1 H' ∧ H' D = some (.lst (((l.take (i + 1)).filter p).map f))) H3 := by
  have e : l.take (i + 1) = l.take i ++ [x] := by rw [List.take_add_one, hx]; rfl
  refine turn H sm _ _ (fun hp => ?_) (fun hp => ?_)
  · refine ⟨_, hL, ?_, Same.mut sm hD, ?_⟩
    · have h1 : ((l.take i).filter p).length ≤ (l.take i).length := List.length_filter_le ..
      have h2 : (l.take i).length ≤ i := by rw [List.length_take]; omega
      have h3 : i < l.length := (List.getElem?_eq_some_iff.mp hx).1
      rw [List.length_map]
      exact szl (by omega)
    · rw [upd_same, e, List.filter_append, List.map_append]
      simp [hp]
  · refine ⟨sm, ?_⟩
    rw [hL, e, List.filter_append, List.map_append]
    simp [hp]
theorem lc_listM {K : PySem.W.Frag} {a : Addr} {l : List α} (hS : SqL K H1 a (l.map item)) (hD : H1 D = none) (hlen : l.length ≤ 100000) (turn : ∀ x ∈ l, LcTurn item p f g tt te vs σ H1 x)
    (hd : ∀ H, Same H1 H → H D = some (.lst ((l.filter p).map f)) → Qd H) :
    ∃ W : Nat → Nat → Hp → Prop, (∃ m, W 0 m (upd H1 D (.lst []))) ∧ ∀ i m H, W i m H →
      ((Itl K a).stop i H ∧ Qd H) ∨ ((Itl K a).go i H ∧ ∃ Nx : Hp → Prop, (∀ H', Nx H' → ∃ m', m' < m ∧ W (i + 1) m' H') ∧ ∀ x H', (Itl K a).yld i H x H' → g x (wipe σ vs) H' fun σ2 H2 => wipe σ2 vs = wipe σ vs ∧ tt σ2 H2 fun b H3 =>
        if b = true then te σ2 H3 fun y H4 => ∃ acc, H4 D = some (.lst acc) ∧ acc.length < sizeLine ∧ Nx (upd H4 D (.lst (acc ++ [y]))) else Nx H3) := by
  refine lc_list (K := K) (a := a) (xs := l.map item) (fun i H => Same H1 H ∧ H D = some (.lst (((l.take i).filter p).map f))) ⟨Same.new hD, upd_same⟩ (fun i H _ ⟨s, _⟩ => s.seq hS) ?_ ?_
  · rintro i x H hx ⟨sm, hL⟩
    rw [List.getElem?_map] at hx
    cases e : l[i]? with
    | none => rw [e] at hx; cases hx
    | some y =>
      rw [e] at hx
      cases hx
      exact lc_step hD e hlen (turn y (List.mem_of_getElem? e)) sm hL
  · rintro H ⟨sm, hL⟩
    rw [List.length_map, List.take_length] at hL
    exact hd H sm hL
theorem lc_strM {x : Str} {p : Nat → Bool} {f : Nat → V} (hD : H1 D = none) (hlen : x.cps.toList.length ≤ 100000) (turn : ∀ c ∈ x.cps.toList, LcTurn (fun c => V.str (sgn c)) p f g tt te vs σ H1 c)
    (hd : ∀ H, Same H1 H → H D = some (.lst ((x.cps.toList.filter p).map f)) → Qd H) :
    ∃ W : Nat → Nat → Hp → Prop, (∃ m, W 0 m (upd H1 D (.lst []))) ∧ ∀ i m H, W i m H →
      ((Its x).stop i H ∧ Qd H) ∨ ((Its x).go i H ∧ ∃ Nx : Hp → Prop, (∀ H', Nx H' → ∃ m', m' < m ∧ W (i + 1) m' H') ∧ ∀ y H', (Its x).yld i H y H' → g y (wipe σ vs) H' fun σ2 H2 => wipe σ2 vs = wipe σ vs ∧ tt σ2 H2 fun b H3 =>
        if b = true then te σ2 H3 fun y H4 => ∃ acc, H4 D = some (.lst acc) ∧ acc.length < sizeLine ∧ Nx (upd H4 D (.lst (acc ++ [y]))) else Nx H3) := by
  have es : x.cps.toList.length = x.cps.size := by simp
  refine ⟨fun i m H => m = x.cps.size - i ∧ i ≤ x.cps.size ∧ Same H1 H ∧ H D = some (.lst (((x.cps.toList.take i).filter p).map f)), ⟨x.cps.size, by simp, Nat.zero_le _, Same.new hD, upd_same⟩, ?_⟩
  rintro i m H ⟨rfl, hi, sm, hL⟩
  by_cases hlt : i < x.cps.size
  · refine .inr ⟨hlt, (fun H' => Same H1 H' ∧ H' D = some (.lst (((x.cps.toList.take (i + 1)).filter p).map f))), fun H' p' => ⟨x.cps.size - (i + 1), by omega, rfl, hlt, p'⟩, fun y H' z => ?_⟩
    obtain ⟨e, c, hc, rfl⟩ := z
    subst e
    have hc' : x.cps.toList[i]? = some c := by rw [Array.getElem?_toList]; exact hc
    exact lc_step (item := fun c => V.str (sgn c)) hD hc' hlen (turn c (List.mem_of_getElem? hc')) sm hL
  · have e : i = x.cps.size := by omega
    subst e
    rw [← es, List.take_length] at hL
    exact .inl ⟨Nat.le_refl _, hd H sm hL⟩
theorem lc_rangeM {lo : Int} {n : Nat} {p : Nat → Bool} {f : Nat → V} (hD : H1 D = none) (hlen : n ≤ 100000) (turn : ∀ i, i < n → LcTurn (fun i : Nat => V.int (lo + i)) p f g tt te vs σ H1 i)
    (hd : ∀ H, Same H1 H → H D = some (.lst (((List.range n).filter p).map f)) → Qd H) :
    ∃ W : Nat → Nat → Hp → Prop, (∃ m, W 0 m (upd H1 D (.lst []))) ∧ ∀ i m H, W i m H →
      ((Itr lo n).stop i H ∧ Qd H) ∨ ((Itr lo n).go i H ∧ ∃ Nx : Hp → Prop, (∀ H', Nx H' → ∃ m', m' < m ∧ W (i + 1) m' H') ∧ ∀ y H', (Itr lo n).yld i H y H' → g y (wipe σ vs) H' fun σ2 H2 => wipe σ2 vs = wipe σ vs ∧ tt σ2 H2 fun b H3 =>
        if b = true then te σ2 H3 fun y H4 => ∃ acc, H4 D = some (.lst acc) ∧ acc.length < sizeLine ∧ Nx (upd H4 D (.lst (acc ++ [y]))) else Nx H3) := by
  refine lc_range (lo := lo) (n := n) (fun i H => Same H1 H ∧ H D = some (.lst ((((List.range n).take i).filter p).map f))) ⟨Same.new hD, upd_same⟩ ?_ ?_
  · rintro i H hi ⟨sm, hL⟩
    exact lc_step (l := List.range n) (item := fun i : Nat => V.int (lo + i)) hD (by rw [List.getElem?_range hi]) (by rw [List.length_range]; exact hlen) (turn i hi) sm hL
  · rintro H ⟨sm, hL⟩
    have e : (List.range n).take n = List.range n := by
      have := List.take_length (l := List.range n)
      rw [List.length_range] at this
      exact this
    rw [e] at hL
    exact hd H sm hL
end
/-! ### lists -/
theorem pigeon {α : Type} [DecidableEq α] : ∀ (l m : List α), l.Nodup → (∀ x ∈ l, x ∈ m) → l.length ≤ m.length
  | [], _, _, _ => Nat.zero_le _
  | x :: l, m, nd, h => by
    have hx : x ∈ m := h x List.mem_cons_self
    have nd' := List.nodup_cons.mp nd
    have ih := pigeon l (m.erase x) nd'.2 fun y hy => by
      have hne : y ≠ x := fun e => nd'.1 (e ▸ hy)
      exact (List.mem_erase_of_ne hne).mpr (h y (List.mem_cons_of_mem _ hy))
    have hl := List.length_erase_of_mem hx
    have hp : 0 < m.length := List.length_pos_of_mem hx
    rw [List.length_cons]
    omega
theorem Paired.get {α β : Type} {F : α → β → Prop} : ∀ {l : List α} {m : List β} {i : Nat} {x : α}, Paired F l m → l[i]? = some x → ∃ y, m[i]? = some y ∧ F x y
  | _, _, _, _, .nil, h => by simp at h
  | _, _, 0, _, .cons r _, h => ⟨_, rfl, by have e := Option.some.inj h; subst e; exact r⟩
  | _, _, i + 1, _, .cons _ q, h => Paired.get (i := i) q h
theorem Paired.get2 {α β : Type} {F : α → β → Prop} : ∀ {l : List α} {m : List β} {i : Nat} {y : β}, Paired F l m → m[i]? = some y → ∃ x, l[i]? = some x ∧ F x y
  | _, _, _, _, .nil, h => by simp at h
  | _, _, 0, _, .cons r _, h => ⟨_, rfl, by have e := Option.some.inj h; subst e; exact r⟩
  | _, _, i + 1, _, .cons _ q, h => Paired.get2 (i := i) q h
theorem Paired.mem2 {α β : Type} {F : α → β → Prop} {l : List α} {m : List β} {y : β} (h : Paired F l m) (hy : y ∈ m) : ∃ x ∈ l, F x y := by
  obtain ⟨i, hi, e⟩ := List.mem_iff_getElem.mp hy
  obtain ⟨x, hx, r⟩ := Paired.get2 h (i := i) (by rw [List.getElem?_eq_getElem hi, e])
  exact ⟨x, List.mem_of_getElem? hx, r⟩
theorem Paired.app {α β : Type} {F : α → β → Prop} : ∀ {l : List α} {m : List β} {l' : List α} {m' : List β}, Paired F l m → Paired F l' m' → Paired F (l ++ l') (m ++ m')
  | _, _, _, _, .nil, h => h
  | _, _, _, _, .cons r q, h => .cons r (Paired.app q h)
theorem Paired.tk {α β : Type} {F : α → β → Prop} : ∀ {l : List α} {m : List β} (n : Nat), Paired F l m → Paired F (l.take n) (m.take n)
  | _, _, _, .nil => by simp only [List.take_nil]; exact .nil
  | _, _, 0, .cons _ _ => .nil
  | _, _, n + 1, .cons r q => .cons r (Paired.tk n q)
theorem Paired.dr {α β : Type} {F : α → β → Prop} : ∀ {l : List α} {m : List β} (n : Nat), Paired F l m → Paired F (l.drop n) (m.drop n)
  | _, _, _, .nil => by simp only [List.drop_nil]; exact .nil
  | _, _, 0, .cons r q => .cons r q
  | _, _, n + 1, .cons _ q => Paired.dr n q
theorem Paired.len {α β : Type} {F : α → β → Prop} {l : List α} {m : List β} (h : Paired F l m) : l.length = m.length := Paired.length h
/-! ### texts -/
theorem app_cps (a b : Str) : (a ++ b).cps.toList = a.cps.toList ++ b.cps.toList := by
  show (a.cps ++ b.cps).toList = _
  simp
theorem app_len (a b : Str) : (a ++ b).length = a.length + b.length := by
  show (a.cps ++ b.cps).size = a.cps.size + b.cps.size
  simp
theorem str_ext {a b : Str} (h : a.cps.toList = b.cps.toList) : a = b := by
  cases a; cases b
  simp only at h
  congr
  exact Array.toList_inj.mp h
theorem len_cps (a : Str) : a.cps.toList.length = a.length := by simp [Str.length]
theorem app_assoc (a b c : Str) : a ++ b ++ c = a ++ (b ++ c) := str_ext (by simp only [app_cps, List.append_assoc])
theorem sgn_inj {c d : Nat} (h : sgn c = sgn d) : c = d := by
  have e : (sgn c).cps.toList = (sgn d).cps.toList := by rw [h]
  simpa [sgn] using e
theorem sgn_len (c : Nat) : (sgn c).length = 1 := rfl
theorem cut_from (z : Str) (d : Nat) : (cutS z (some (d : Int)) none).cps.toList = z.cps.toList.drop d := by
  show ((z.cps.toList.drop (HT.sIx z.length 0 (some (d : Int)))).take (HT.sIx z.length z.length none - HT.sIx z.length 0 (some (d : Int)))).toArray.toList = _
  rw [HT.sIx_nat, HT.sIx_none, List.toList_toArray]
  have e : z.cps.toList.length = z.length := len_cps z
  by_cases h : d ≤ z.length
  · rw [Nat.min_eq_left h, List.take_of_length_le (by rw [List.length_drop, e]; exact Nat.le_refl _)]
  · rw [Nat.min_eq_right (by omega), List.drop_of_length_le (by omega), List.drop_of_length_le (by omega)]
    simp
theorem cut_to (z : Str) (d : Nat) : (cutS z none (some (d : Int))).cps.toList = z.cps.toList.take d := by
  show ((z.cps.toList.drop (HT.sIx z.length 0 none)).take (HT.sIx z.length z.length (some (d : Int)) - HT.sIx z.length 0 none)).toArray.toList = _
  rw [HT.sIx_nat, HT.sIx_none, List.toList_toArray, List.drop_zero, Nat.sub_zero]
  have e : z.cps.toList.length = z.length := len_cps z
  by_cases h : d ≤ z.length
  · rw [Nat.min_eq_left h]
  · rw [Nat.min_eq_right (by omega), List.take_of_length_le (by omega), List.take_of_length_le (by omega)]
theorem cutV_from (xs : List V) (d : Nat) : cutV xs (some (d : Int)) none = xs.drop d := by
  show (xs.drop (HT.sIx xs.length 0 (some (d : Int)))).take (HT.sIx xs.length xs.length none - HT.sIx xs.length 0 (some (d : Int))) = _
  rw [HT.sIx_nat, HT.sIx_none]
  by_cases h : d ≤ xs.length
  · rw [Nat.min_eq_left h, List.take_of_length_le (by rw [List.length_drop]; exact Nat.le_refl _)]
  · rw [Nat.min_eq_right (by omega), List.drop_of_length_le (Nat.le_refl _), List.drop_of_length_le (by omega)]
    simp
theorem cutV_to (xs : List V) (d : Nat) : cutV xs none (some (d : Int)) = xs.take d := by
  show (xs.drop (HT.sIx xs.length 0 none)).take (HT.sIx xs.length xs.length (some (d : Int)) - HT.sIx xs.length 0 none) = _
  rw [HT.sIx_nat, HT.sIx_none, List.drop_zero, Nat.sub_zero]
  by_cases h : d ≤ xs.length
  · rw [Nat.min_eq_left h]
  · rw [Nat.min_eq_right (by omega), List.take_of_length_le (Nat.le_refl _), List.take_of_length_le (by omega)]
theorem cutV_mid (xs : List V) (a b : Nat) : cutV xs (some (a : Int)) (some (b : Int)) = (xs.drop a).take (b - a) := by
  show (xs.drop (HT.sIx xs.length 0 (some (a : Int)))).take (HT.sIx xs.length xs.length (some (b : Int)) - HT.sIx xs.length 0 (some (a : Int))) = _
  rw [HT.sIx_nat, HT.sIx_nat]
  by_cases h : a ≤ xs.length
  · rw [Nat.min_eq_left h]
    by_cases h2 : b ≤ xs.length
    · rw [Nat.min_eq_left h2]
    · rw [Nat.min_eq_right (by omega), List.take_of_length_le (by rw [List.length_drop]; exact Nat.le_refl _), List.take_of_length_le (by rw [List.length_drop]; omega)]
  · rw [Nat.min_eq_right (show xs.length ≤ a by omega), List.drop_of_length_le (Nat.le_refl _), List.drop_of_length_le (by omega)]
    simp
/-- an item of a list of a kind, by its place -/
theorem atm {α : Type} {f : α → V} {xs : List α} {i : Nat} {x : α} (h : xs[i]? = some x) : atI (xs.map f) (i : Int) = some (f x) := ats (by rw [List.getElem?_map, h]; rfl)
end Jr
namespace Jr
open PySem PySem.Spec PyProof.Rows L2
/-! ### tables as data -/
/-- what the signs of a table are: unlike, from the blank to ~ but the percent sign -/
structure SignsOk (z : Str) : Prop where
  nd : z.cps.toList.Nodup
  ok : ∀ c ∈ z.cps.toList, 32 ≤ c ∧ c ≤ 126 ∧ c ≠ 37
abbrev Rws := List (Str × Str)
def jn (r : Str × Str) : Str := r.1 ++ r.2
/-- the pieces, by their numbers -/
def pcs (z : Str) (rs : Rws) : List Str := sgs z ++ rs.map jn
/-- each row's parts are pieces ahead of it, its joined text is none of these and has at most 16 signs -/
structure RowOk (z : Str) (rs : Rws) (r : Str × Str) : Prop where
  lm : r.1 ∈ pcs z rs
  rm : r.2 ∈ pcs z rs
  len : (jn r).length ≤ 16
  new : ¬ jn r ∈ pcs z rs
structure TabOk (z : Str) (rs : Rws) : Prop where
  sg : SignsOk z
  n1 : 1 ≤ z.length
  n12 : z.length ≤ 12
  many : rs.length ≤ 24
  rows : ∀ i r, rs[i]? = some r → RowOk z (rs.take i) r
theorem TabOk.nil {z : Str} (s : SignsOk z) (h1 : 1 ≤ z.length) (h2 : z.length ≤ 12) : TabOk z [] := ⟨s, h1, h2, Nat.zero_le _, fun i r h => by simp at h⟩
theorem TabOk.take {z : Str} {rs : Rws} (T : TabOk z rs) (n : Nat) : TabOk z (rs.take n) := by
  refine ⟨T.sg, T.n1, T.n12, Nat.le_trans (by rw [List.length_take]; omega) T.many, fun i r h => ?_⟩
  rw [List.getElem?_take] at h
  split at h
  · rename_i hi
    have := T.rows i r h
    rw [List.take_take, Nat.min_eq_left (by omega)]
    exact this
  · cases h
theorem TabOk.snoc {z : Str} {rs : Rws} {r : Str × Str} (T : TabOk z rs) (h : RowOk z rs r) (hl : rs.length < 24) : TabOk z (rs ++ [r]) := by
  refine ⟨T.sg, T.n1, T.n12, by rw [List.length_append]; simp; omega, fun i q hq => ?_⟩
  by_cases hi : i < rs.length
  · rw [List.getElem?_append_left hi] at hq
    rw [List.take_append_of_le_length (by omega)]
    exact T.rows i q hq
  · rw [List.getElem?_append_right (by omega)] at hq
    have e : i = rs.length := by
      by_cases e : i - rs.length = 0
      · omega
      · rw [List.getElem?_eq_none (by simp; omega)] at hq
        cases hq
    subst e
    rw [Nat.sub_self] at hq
    have e2 : r = q := Option.some.inj hq
    subst e2
    rw [List.take_left']
    · exact h
    · rfl
theorem pcs_len (z : Str) (rs : Rws) : (pcs z rs).length = z.length + rs.length := by
  unfold pcs
  rw [List.length_append, sgs_len, List.length_map]
theorem pcs_snoc (z : Str) (rs : Rws) (r : Str × Str) : pcs z (rs ++ [r]) = pcs z rs ++ [jn r] := by
  unfold pcs
  rw [List.map_append, ← List.append_assoc]
  rfl
theorem sgs_nodup {z : Str} (h : z.cps.toList.Nodup) : (sgs z).Nodup := by
  unfold sgs
  exact List.Pairwise.map _ (fun a b hab e => hab (sgn_inj e)) h
theorem TabOk.nodup {z : Str} {rs : Rws} (T : TabOk z rs) : (pcs z rs).Nodup := by
  have key : ∀ n, n ≤ rs.length → (pcs z (rs.take n)).Nodup := fun n => by
    induction n with
    | zero =>
      intro _
      show (sgs z ++ []).Nodup
      rw [List.append_nil]
      exact sgs_nodup T.sg.nd
    | succ n ih =>
      intro hn
      have hx : rs[n]? = some rs[n] := List.getElem?_eq_getElem (by omega)
      rw [List.take_add_one, hx]
      show (pcs z (rs.take n ++ [rs[n]])).Nodup
      rw [pcs_snoc, List.nodup_append]
      refine ⟨ih (by omega), by simp, fun x hx2 y hy => ?_⟩
      rw [List.mem_singleton] at hy
      rw [hy]
      exact fun e => (T.rows n _ hx).new (e ▸ hx2)
  have := key rs.length (Nat.le_refl _)
  rw [List.take_length] at this
  exact this
theorem TabOk.plen {z : Str} {rs : Rws} (T : TabOk z rs) {p : Str} (h : p ∈ pcs z rs) : 1 ≤ p.length ∧ p.length ≤ 16 := by
  have key : ∀ n, n ≤ rs.length → ∀ p ∈ pcs z (rs.take n), 1 ≤ p.length ∧ p.length ≤ 16 := fun n => by
    induction n with
    | zero =>
      intro _ p hp
      have hp2 : p ∈ sgs z ++ [] := hp
      rw [List.append_nil] at hp2
      obtain ⟨c, _, rfl⟩ := List.mem_map.mp hp2
      exact ⟨Nat.le_refl _, by rw [sgn_len]; omega⟩
    | succ n ih =>
      intro hn p hp
      have hx : rs[n]? = some rs[n] := List.getElem?_eq_getElem (by omega)
      rw [List.take_add_one, hx] at hp
      have hp2 : p ∈ pcs z (rs.take n ++ [rs[n]]) := hp
      rw [pcs_snoc] at hp2
      rcases List.mem_append.mp hp2 with hp3 | hp3
      · exact ih (by omega) p hp3
      · rw [List.mem_singleton] at hp3
        rw [hp3]
        have o := T.rows n _ hx
        have := (ih (by omega) _ o.lm).1
        refine ⟨?_, o.len⟩
        show 1 ≤ (rs[n].1 ++ rs[n].2).length
        rw [app_len]
        omega
  have := key rs.length (Nat.le_refl _) p
  rw [List.take_length] at this
  exact this h
/-! ### a list of rows in the heap -/
def TupAt (H : Hp) (a : Addr) (r : Str × Str) : Prop := H a = some (.tup [.str r.1, .str r.2])
def RowsAt (H : Hp) (l : Addr) (rs : Rws) : Prop := ∃ as : List Addr, H l = some (.lst (as.map V.ref)) ∧ Paired (TupAt H) as rs
theorem TupAt.same {H H' : Hp} (s : Same H H') {as : List Addr} {rs : Rws} (h : Paired (TupAt H) as rs) : Paired (TupAt H') as rs := L2.Paired.mapP h fun _ _ q => s _ _ q
theorem RowsAt.same {H H' : Hp} {l : Addr} {rs : Rws} (h : RowsAt H l rs) (s : Same H H') : RowsAt H' l rs := by
  obtain ⟨as, e, p⟩ := h
  exact ⟨as, s _ _ e, TupAt.same s p⟩
theorem inV_str (x : Str) (ps : List Str) : inV (.str x) (ps.map V.str) = decide (x ∈ ps) := by
  unfold inV
  rw [List.any_map]
  have e : ((fun y => eqV y (V.str x)) ∘ V.str) = fun y : Str => y == x := by
    funext y
    show eqV (V.str y) (V.str x) = (y == x)
    rfl
  rw [e]
  by_cases h : x ∈ ps
  · rw [decide_eq_true h]
    exact List.any_eq_true.mpr ⟨x, h, by simp⟩
  · rw [decide_eq_false h]
    rw [List.any_eq_false]
    intro y hy
    simp only [beq_iff_eq]
    exact fun e => h (e ▸ hy)
theorem flat_str (ps : List Str) : (ps.map V.str).all flatV = true := by
  rw [List.all_map]
  exact List.all_eq_true.mpr fun _ _ => rfl
end Jr
namespace Jr
open PySem PySem.Spec PyProof.Rows L2
/-! ### what a table holds -/
def numD : Nat → List Str → List (Key × V)
  | _, [] => []
  | i, p :: ps => (Sum.inr p, V.int (i : Nat)) :: numD (i + 1) ps
def rankD : Nat → Rws → List (List Key × V)
  | _, [] => []
  | i, r :: rs => ([Sum.inr r.1, Sum.inr r.2], V.int (i : Nat)) :: rankD (i + 1) rs
theorem numD_len : ∀ (i : Nat) (ps : List Str), (numD i ps).length = ps.length
  | _, [] => rfl
  | i, p :: ps => by show (numD (i + 1) ps).length + 1 = _; rw [numD_len (i + 1) ps]; rfl
theorem rankD_len : ∀ (i : Nat) (rs : Rws), (rankD i rs).length = rs.length
  | _, [] => rfl
  | i, r :: rs => by show (rankD (i + 1) rs).length + 1 = _; rw [rankD_len (i + 1) rs]; rfl
theorem numD_snoc : ∀ (i : Nat) (ps : List Str) (p : Str), numD i (ps ++ [p]) = numD i ps ++ [(Sum.inr p, V.int ((i + ps.length : Nat)))]
  | i, [], p => rfl
  | i, q :: ps, p => by
    show _ :: numD (i + 1) (ps ++ [p]) = _ :: (numD (i + 1) ps ++ _)
    rw [numD_snoc (i + 1) ps p, List.length_cons, show i + 1 + ps.length = i + (ps.length + 1) by omega]
theorem rankD_snoc : ∀ (i : Nat) (rs : Rws) (r : Str × Str), rankD i (rs ++ [r]) = rankD i rs ++ [([Sum.inr r.1, Sum.inr r.2], V.int ((i + rs.length : Nat)))]
  | i, [], r => rfl
  | i, q :: rs, r => by
    show _ :: rankD (i + 1) (rs ++ [r]) = _ :: (rankD (i + 1) rs ++ _)
    rw [rankD_snoc (i + 1) rs r, List.length_cons, show i + 1 + rs.length = i + (rs.length + 1) by omega]
theorem numD_none : ∀ (i : Nat) (ps : List Str) (p : Str), ¬ p ∈ ps → valV (numD i ps) (Sum.inr p) = none
  | _, [], _, _ => rfl
  | i, q :: ps, p, h => by
    have hq : ¬ (Sum.inr q : Key) = Sum.inr p := fun e => h (by rw [Sum.inr.inj e]; exact List.mem_cons_self)
    exact (valV_neg (p := (Sum.inr q, V.int (i : Nat))) hq).trans (numD_none (i + 1) ps p fun z => h (List.mem_cons_of_mem _ z))
theorem numD_at : ∀ (i : Nat) (ps : List Str) (p : Str) (j : Nat), ps.Nodup → ps[j]? = some p → valV (numD i ps) (Sum.inr p) = some (V.int ((i + j : Nat)))
  | _, [], _, _, _, h => by simp at h
  | i, q :: ps, p, 0, _, h => by
    have e : q = p := Option.some.inj h
    rw [e]
    exact valV_pos (p := ((Sum.inr p : Key), V.int (i : Nat))) rfl
  | i, q :: ps, p, j + 1, nd, h => by
    have nd' := List.nodup_cons.mp nd
    have hm : p ∈ ps := List.mem_of_getElem? (show ps[j]? = some p from h)
    have hq : ¬ (Sum.inr q : Key) = Sum.inr p := fun e => nd'.1 (by rw [Sum.inr.inj e]; exact hm)
    refine (valV_neg (p := (Sum.inr q, V.int (i : Nat))) hq).trans ?_
    rw [numD_at (i + 1) ps p j nd'.2 h, show i + 1 + j = i + (j + 1) by omega]
theorem rankD_none : ∀ (i : Nat) (rs : Rws) (l r : Str), ¬ (l, r) ∈ rs → valV (rankD i rs) [Sum.inr l, Sum.inr r] = none
  | _, [], _, _, _ => rfl
  | i, q :: rs, l, r, h => by
    have hq : ¬ ([Sum.inr q.1, Sum.inr q.2] : List Key) = [Sum.inr l, Sum.inr r] := fun e => h (by
      have e1 := (List.cons.inj e).1
      have e2 := (List.cons.inj (List.cons.inj e).2).1
      have e3 : q = (l, r) := Prod.ext (Sum.inr.inj e1) (Sum.inr.inj e2)
      rw [e3]; exact List.mem_cons_self)
    exact (valV_neg (p := (([Sum.inr q.1, Sum.inr q.2] : List Key), V.int (i : Nat))) hq).trans (rankD_none (i + 1) rs l r fun z => h (List.mem_cons_of_mem _ z))
theorem rankD_at : ∀ (i : Nat) (rs : Rws) (r : Str × Str) (j : Nat), rs.Nodup → rs[j]? = some r → valV (rankD i rs) [Sum.inr r.1, Sum.inr r.2] = some (V.int ((i + j : Nat)))
  | _, [], _, _, _, h => by simp at h
  | i, q :: rs, r, 0, _, h => by
    have e : q = r := Option.some.inj h
    rw [e]
    exact valV_pos (p := (([Sum.inr r.1, Sum.inr r.2] : List Key), V.int (i : Nat))) rfl
  | i, q :: rs, r, j + 1, nd, h => by
    have nd' := List.nodup_cons.mp nd
    have hm : r ∈ rs := List.mem_of_getElem? (show rs[j]? = some r from h)
    have hq : ¬ ([Sum.inr q.1, Sum.inr q.2] : List Key) = [Sum.inr r.1, Sum.inr r.2] := fun e => nd'.1 (by
      have e1 := (List.cons.inj e).1
      have e2 := (List.cons.inj (List.cons.inj e).2).1
      have e3 : q = r := Prod.ext (Sum.inr.inj e1) (Sum.inr.inj e2)
      rw [e3]; exact hm)
    refine (valV_neg (p := (([Sum.inr q.1, Sum.inr q.2] : List Key), V.int (i : Nat))) hq).trans ?_
    rw [rankD_at (i + 1) rs r j nd'.2 h, show i + 1 + j = i + (j + 1) by omega]
theorem TabOk.rnodup {z : Str} {rs : Rws} (T : TabOk z rs) : rs.Nodup := by
  have h := (List.nodup_append.mp T.nodup).2.1
  have key : ∀ l : Rws, (l.map jn).Nodup → l.Nodup := fun l => by
    induction l with
    | nil => intro _; exact List.nodup_nil
    | cons x l ih =>
      intro hn
      have h2 := List.nodup_cons.mp hn
      exact List.nodup_cons.mpr ⟨fun hx => h2.1 (List.mem_map.mpr ⟨x, hx, rfl⟩), ih h2.2⟩
  exact key rs h
def tf5 (z : Str) (lr lp dn dr : Addr) : List (Str × V) := [("sign_text", .str z), ("row_list", .ref lr), ("piece_list", .ref lp), ("number_by_piece", .ref dn), ("rank_by_row", .ref dr)]
def tf6 (z : Str) (lr lp dn dr : Addr) (m : Int) : List (Str × V) := [("sign_text", .str z), ("row_list", .ref lr), ("piece_list", .ref lp), ("number_by_piece", .ref dn), ("rank_by_row", .ref dr), ("most_signs", .int m)]
/-- a made table -/
structure TabAt (C : Addr) (H : Hp) (x : Addr) (z : Str) (rs : Rws) : Prop where
  ex : ∃ (dx lr lp dn dr : Addr) (m : Nat), H x = some (.ins C dx (tf6 z lr lp dn dr (m : Int))) ∧ RowsAt H lr rs ∧ H lp = some (.lst ((pcs z rs).map V.str)) ∧ H dn = some (.dK (numD 0 (pcs z rs))) ∧ H dr = some (.dT (rankD 0 rs)) ∧
    (∃ p ∈ pcs z rs, p.length = m) ∧ ∀ p ∈ pcs z rs, p.length ≤ m
  ok : TabOk z rs
theorem TabAt.same {C : Addr} {H H' : Hp} {x : Addr} {z : Str} {rs : Rws} (T : TabAt C H x z rs) (s : Same H H') : TabAt C H' x z rs := by
  obtain ⟨dx, lr, lp, dn, dr, m, h1, h2, h3, h4, h5, h6⟩ := T.ex
  exact ⟨⟨dx, lr, lp, dn, dr, m, s _ _ h1, h2.same s, s _ _ h3, s _ _ h4, s _ _ h5, h6⟩, T.ok⟩
section
variable (z : Str) (lr lp dn dr : Addr) (m : Int)
theorem l5_num : (tf5 z lr lp dn dr).lookup ("number_by_piece" : Str) = some (V.ref dn) := by kernel_rfl
theorem l5_pl : (tf5 z lr lp dn dr).lookup ("piece_list" : Str) = some (V.ref lp) := by kernel_rfl
theorem l5_rl : (tf5 z lr lp dn dr).lookup ("row_list" : Str) = some (V.ref lr) := by kernel_rfl
theorem l5_rk : (tf5 z lr lp dn dr).lookup ("rank_by_row" : Str) = some (V.ref dr) := by kernel_rfl
theorem l5_which : (tf5 z lr lp dn dr).lookup ("which" : Str) = none := by kernel_rfl
theorem l5_tp : (tf5 z lr lp dn dr).lookup ("take_piece" : Str) = none := by kernel_rfl
theorem l5_tr : (tf5 z lr lp dn dr).lookup ("take_row" : Str) = none := by kernel_rfl
theorem l5_mt : (tf5 z lr lp dn dr).lookup ("may_take_row" : Str) = none := by kernel_rfl
theorem l5_most : putF "most_signs" (.int m) (tf5 z lr lp dn dr) = tf6 z lr lp dn dr m := by kernel_rfl
theorem l5_put : putF "rank_by_row" (.ref dr) (putF "number_by_piece" (.ref dn) (putF "piece_list" (.ref lp) (putF "row_list" (.ref lr) (putF "sign_text" (.str z) [])))) = tf5 z lr lp dn dr := by kernel_rfl
theorem l6_st : (tf6 z lr lp dn dr m).lookup ("sign_text" : Str) = some (V.str z) := by kernel_rfl
theorem l6_num : (tf6 z lr lp dn dr m).lookup ("number_by_piece" : Str) = some (V.ref dn) := by kernel_rfl
theorem l6_pl : (tf6 z lr lp dn dr m).lookup ("piece_list" : Str) = some (V.ref lp) := by kernel_rfl
theorem l6_rl : (tf6 z lr lp dn dr m).lookup ("row_list" : Str) = some (V.ref lr) := by kernel_rfl
theorem l6_rk : (tf6 z lr lp dn dr m).lookup ("rank_by_row" : Str) = some (V.ref dr) := by kernel_rfl
theorem l6_ms : (tf6 z lr lp dn dr m).lookup ("most_signs" : Str) = some (V.int m) := by kernel_rfl
theorem l6_mw : (tf6 z lr lp dn dr m).lookup ("which" : Str) = none := by kernel_rfl
theorem l6_ms_ : (tf6 z lr lp dn dr m).lookup ("signs" : Str) = none := by kernel_rfl
theorem l6_mr : (tf6 z lr lp dn dr m).lookup ("rows" : Str) = none := by kernel_rfl
theorem l6_mp : (tf6 z lr lp dn dr m).lookup ("pieces" : Str) = none := by kernel_rfl
theorem l6_mp1 : (tf6 z lr lp dn dr m).lookup ("piece" : Str) = none := by kernel_rfl
theorem l6_mpa : (tf6 z lr lp dn dr m).lookup ("parts" : Str) = none := by kernel_rfl
theorem l6_mrk : (tf6 z lr lp dn dr m).lookup ("rank" : Str) = none := by kernel_rfl
theorem l6_ml : (tf6 z lr lp dn dr m).lookup ("longest" : Str) = none := by kernel_rfl
end
/-- no text -/
def NoStr (K : PySem.W.Frag) (H : Hp) (v : V) : Prop := ∃ t, TyX K H v t ∧ PySem.W.kitOne K t (.type "str") = some false
theorem isStr {K : PySem.W.Frag} : PySem.W.kitOne K (.type "str") (.type "str") = some true := kit_ty (by decide +kernel)
theorem isLst {K : PySem.W.Frag} : PySem.W.kitOne K (.type "list") (.type "list") = some true := kit_ty (by decide +kernel)
theorem isTup {K : PySem.W.Frag} : PySem.W.kitOne K (.type "tuple") (.type "tuple") = some true := kit_ty (by decide +kernel)
end Jr
namespace Jr
open PySem PySem.Spec PyProof.Rows L2
/-! ### == of lists of texts, of ints, of rows -/
def dS (xs : List Str) : PyData := .list (xs.map PyData.str)
def dI (xs : List Int) : PyData := .list (xs.map PyData.int)
def dR (rs : Rws) : PyData := .list (rs.map fun r => PyData.tuple [.str r.1, .str r.2])
/-- a text of plain signs -/
def Asc (x : Str) : Prop := ∀ c ∈ x.cps.toList, c ≤ 126
theorem asc_ok {x : Str} (h : Asc x) : PyData.strOk x = true := by
  unfold PyData.strOk
  rw [← Array.all_toList, List.all_eq_true]
  intro c hc
  have := h c hc
  simp
  omega
theorem asc_app {a b : Str} (ha : Asc a) (hb : Asc b) : Asc (a ++ b) := fun c hc => by
  rw [app_cps] at hc
  rcases List.mem_append.mp hc with h | h
  · exact ha c h
  · exact hb c h
theorem asc_sgn {c : Nat} (h : c ≤ 126) : Asc (sgn c) := fun d hd => by
  have e : d = c := by simpa [sgn] using hd
  omega
theorem TabOk.asc {z : Str} {rs : Rws} (T : TabOk z rs) {p : Str} (h : p ∈ pcs z rs) : Asc p := by
  have key : ∀ n, n ≤ rs.length → ∀ p ∈ pcs z (rs.take n), Asc p := fun n => by
    induction n with
    | zero =>
      intro _ p hp
      have hp2 : p ∈ sgs z ++ [] := hp
      rw [List.append_nil] at hp2
      obtain ⟨c, hc, rfl⟩ := List.mem_map.mp hp2
      exact asc_sgn (T.sg.ok c hc).2.1
    | succ n ih =>
      intro hn p hp
      have hx : rs[n]? = some rs[n] := List.getElem?_eq_getElem (by omega)
      rw [List.take_add_one, hx] at hp
      have hp2 : p ∈ pcs z (rs.take n ++ [rs[n]]) := hp
      rw [pcs_snoc] at hp2
      rcases List.mem_append.mp hp2 with hp3 | hp3
      · exact ih (by omega) p hp3
      · rw [List.mem_singleton] at hp3
        rw [hp3]
        have o := T.rows n _ hx
        exact asc_app (ih (by omega) _ o.lm) (ih (by omega) _ o.rm)
  have := key rs.length (Nat.le_refl _) p
  rw [List.take_length] at this
  exact this h
theorem lay_strs : ∀ xs : List Str, (∀ x ∈ xs, Asc x) → PyData.canLayAll0 (xs.map PyData.str) = true
  | [], _ => by simp [PyData.canLayAll0]
  | x :: xs, h => by
    have h1 := asc_ok (h x List.mem_cons_self)
    have h2 := lay_strs xs fun y hy => h y (List.mem_cons_of_mem _ hy)
    simp [PyData.canLayAll0, PyData.canLay0, h1, h2]
theorem dep_strs : ∀ xs : List Str, PyData.depthAll (xs.map PyData.str) = 0
  | [] => by simp [PyData.depthAll]
  | x :: xs => by simp [PyData.depthAll, PyData.depth, dep_strs xs]
theorem shS {xs : List Str} (h : ∀ x ∈ xs, Asc x) : SeqAt.shaped (dS xs) = true := by
  unfold SeqAt.shaped dS
  have h1 : PyData.canLay0 (.list (xs.map PyData.str)) = true := by simp [PyData.canLay0, lay_strs xs h]
  have h2 : PyData.depth (.list (xs.map PyData.str)) = 1 := by simp [PyData.depth, dep_strs]
  rw [h1, h2]; rfl
theorem eqvA_strs : ∀ xs ys : List Str, PyData.eqvAll (xs.map PyData.str) (ys.map PyData.str) = decide (xs = ys)
  | [], [] => by simp [PyData.eqvAll]
  | [], y :: ys => by simp [PyData.eqvAll]
  | x :: xs, [] => by simp [PyData.eqvAll]
  | x :: xs, y :: ys => by
    have ih := eqvA_strs xs ys
    simp only [List.map_cons, PyData.eqvAll, PyData.eqv, ih]
    by_cases h : x = y
    · subst h; simp
    · simp [h]
theorem eqS (xs ys : List Str) : PyData.eqv (dS xs) (dS ys) = decide (xs = ys) := by
  unfold dS
  rw [PyData.eqv]
  exact eqvA_strs xs ys
theorem dpA_strs {K : PySem.W.Frag} {H : Hp} : ∀ xs : List Str, DpAll K H (xs.map V.str) (xs.map PyData.str)
  | [] => .nil
  | x :: xs => .cons (.str x) (dpA_strs xs)
theorem dpS {K : PySem.W.Frag} {H : Hp} {a : Addr} {xs : List Str} (h : SqL K H a (xs.map V.str)) : Dp K H (.ref a) (dS xs) := .lst h (dpA_strs xs)
theorem lay_ints : ∀ xs : List Int, PyData.canLayAll0 (xs.map PyData.int) = true
  | [] => by simp [PyData.canLayAll0]
  | x :: xs => by simp [PyData.canLayAll0, PyData.canLay0, lay_ints xs]
theorem dep_ints : ∀ xs : List Int, PyData.depthAll (xs.map PyData.int) = 0
  | [] => by simp [PyData.depthAll]
  | x :: xs => by simp [PyData.depthAll, PyData.depth, dep_ints xs]
theorem shI (xs : List Int) : SeqAt.shaped (dI xs) = true := by
  unfold SeqAt.shaped dI
  have h1 : PyData.canLay0 (.list (xs.map PyData.int)) = true := by simp [PyData.canLay0, lay_ints xs]
  have h2 : PyData.depth (.list (xs.map PyData.int)) = 1 := by simp [PyData.depth, dep_ints]
  rw [h1, h2]; rfl
theorem eqvA_ints : ∀ xs ys : List Int, PyData.eqvAll (xs.map PyData.int) (ys.map PyData.int) = decide (xs = ys)
  | [], [] => by simp [PyData.eqvAll]
  | [], y :: ys => by simp [PyData.eqvAll]
  | x :: xs, [] => by simp [PyData.eqvAll]
  | x :: xs, y :: ys => by
    have ih := eqvA_ints xs ys
    simp only [List.map_cons, PyData.eqvAll, PyData.eqv, ih]
    by_cases h : x = y
    · subst h; simp
    · simp [h]
theorem eqI (xs ys : List Int) : PyData.eqv (dI xs) (dI ys) = decide (xs = ys) := by
  unfold dI
  rw [PyData.eqv]
  exact eqvA_ints xs ys
theorem dpA_ints {K : PySem.W.Frag} {H : Hp} : ∀ xs : List Int, DpAll K H (xs.map V.int) (xs.map PyData.int)
  | [] => .nil
  | x :: xs => .cons (.int x) (dpA_ints xs)
theorem dpI {K : PySem.W.Frag} {H : Hp} {a : Addr} {xs : List Int} (h : SqL K H a (xs.map V.int)) : Dp K H (.ref a) (dI xs) := .lst h (dpA_ints xs)
theorem lay_rows : ∀ rs : Rws, (∀ r ∈ rs, Asc r.1 ∧ Asc r.2) → PyData.canLayAll0 (rs.map fun r => PyData.tuple [.str r.1, .str r.2]) = true
  | [], _ => by simp [PyData.canLayAll0]
  | r :: rs, h => by
    obtain ⟨h1, h2⟩ := h r List.mem_cons_self
    have h3 := lay_rows rs fun y hy => h y (List.mem_cons_of_mem _ hy)
    simp [PyData.canLayAll0, PyData.canLay0, asc_ok h1, asc_ok h2, h3]
theorem dep_rows : ∀ rs : Rws, PyData.depthAll (rs.map fun r => PyData.tuple [.str r.1, .str r.2]) ≤ 1
  | [] => by simp [PyData.depthAll]
  | r :: rs => by
    have := dep_rows rs
    simp only [List.map_cons, PyData.depthAll, PyData.depth]
    omega
theorem shR {rs : Rws} (h : ∀ r ∈ rs, Asc r.1 ∧ Asc r.2) : SeqAt.shaped (dR rs) = true := by
  unfold SeqAt.shaped dR
  have h1 : PyData.canLay0 (.list (rs.map fun r => PyData.tuple [.str r.1, .str r.2])) = true := by simp [PyData.canLay0, lay_rows rs h]
  have h2 : PyData.depth (.list (rs.map fun r => PyData.tuple [.str r.1, .str r.2])) ≤ 2 := by
    have := dep_rows rs
    simp only [PyData.depth]
    omega
  rw [h1, decide_eq_true (Nat.le_trans h2 (by decide))]; rfl
theorem eqvA_rows : ∀ xs ys : Rws, PyData.eqvAll (xs.map fun r => PyData.tuple [.str r.1, .str r.2]) (ys.map fun r => PyData.tuple [.str r.1, .str r.2]) = decide (xs = ys)
  | [], [] => by simp [PyData.eqvAll]
  | [], y :: ys => by simp [PyData.eqvAll]
  | x :: xs, [] => by simp [PyData.eqvAll]
  | x :: xs, y :: ys => by
    have ih := eqvA_rows xs ys
    simp only [List.map_cons, PyData.eqvAll, PyData.eqv, ih]
    obtain ⟨a, b⟩ := x
    obtain ⟨c, d⟩ := y
    by_cases h : a = c
    · subst h
      by_cases h2 : b = d
      · subst h2; simp
      · simp [h2]
    · simp [h]
theorem eqR (xs ys : Rws) : PyData.eqv (dR xs) (dR ys) = decide (xs = ys) := by
  unfold dR
  rw [PyData.eqv]
  exact eqvA_rows xs ys
theorem dpA_rows {K : PySem.W.Frag} {H : Hp} : ∀ {as : List Addr} {rs : Rws}, Paired (TupAt H) as rs → DpAll K H (as.map V.ref) (rs.map fun r => PyData.tuple [.str r.1, .str r.2])
  | _, _, .nil => .nil
  | _, _, .cons h q => .cons (.tup (SqT.of h) (.cons (.str _) (.cons (.str _) .nil))) (dpA_rows q)
theorem dpR {K : PySem.W.Frag} {H : Hp} {a : Addr} {rs : Rws} (h : RowsAt H a rs) : Dp K H (.ref a) (dR rs) := by
  obtain ⟨as, e, p⟩ := h
  exact .lst (SqL.of e) (dpA_rows p)
/-! ### the pass of a rank -/
def pass1 (l r : Str) : List Str → List Str
  | a :: b :: t => if a = l ∧ b = r then (l ++ r) :: pass1 l r t else a :: pass1 l r (b :: t)
  | t => t
/-- the places of the borders that fall; n signs stand ahead -/
def plc (l r : Str) : Nat → List Str → List Nat
  | n, a :: b :: t => if a = l ∧ b = r then (n + a.length) :: plc l r (n + a.length + b.length) t else plc l r (n + a.length) (b :: t)
  | _, _ => []
def passAll (rs : Rws) (xs : List Str) : List Str := rs.foldl (fun ys r => pass1 r.1 r.2 ys) xs
def sweep (rs : Rws) (t : Str) : List Str := passAll rs (sgs t)
theorem pass1_one (l r a : Str) : pass1 l r [a] = [a] := by unfold pass1; rfl
theorem pass1_nil (l r : Str) : pass1 l r [] = [] := by unfold pass1; rfl
theorem pass1_yes (l r : Str) (t : List Str) : pass1 l r (l :: r :: t) = (l ++ r) :: pass1 l r t := by
  rw [pass1]; exact if_pos ⟨rfl, rfl⟩
theorem pass1_no {l r a b : Str} (t : List Str) (h : ¬ (a = l ∧ b = r)) : pass1 l r (a :: b :: t) = a :: pass1 l r (b :: t) := by
  rw [pass1]; exact if_neg h
theorem pass1_mem (l r : Str) : ∀ (xs : List Str) (p : Str), p ∈ pass1 l r xs → p ∈ xs ∨ p = l ++ r
  | [], p, h => by rw [pass1_nil] at h; cases h
  | [a], p, h => by rw [pass1_one] at h; exact .inl h
  | a :: b :: t, p, h => by
    by_cases c : a = l ∧ b = r
    · obtain ⟨rfl, rfl⟩ := c
      rw [pass1_yes] at h
      rcases List.mem_cons.mp h with e | e
      · exact .inr e
      · rcases pass1_mem a b t p e with q | q
        · exact .inl (List.mem_cons_of_mem _ (List.mem_cons_of_mem _ q))
        · exact .inr q
    · rw [pass1_no t c] at h
      rcases List.mem_cons.mp h with e | e
      · exact .inl (e ▸ List.mem_cons_self)
      · rcases pass1_mem l r (b :: t) p e with q | q
        · exact .inl (List.mem_cons_of_mem _ q)
        · exact .inr q
termination_by xs => xs.length
theorem pass1_len (l r : Str) : ∀ xs : List Str, (pass1 l r xs).length ≤ xs.length
  | [] => by rw [pass1_nil]; exact Nat.le_refl _
  | [a] => by rw [pass1_one]; exact Nat.le_refl _
  | a :: b :: t => by
    by_cases c : a = l ∧ b = r
    · obtain ⟨rfl, rfl⟩ := c
      rw [pass1_yes]
      have := pass1_len a b t
      simp only [List.length_cons]
      omega
    · rw [pass1_no t c]
      have := pass1_len l r (b :: t)
      simp only [List.length_cons] at this ⊢
      omega
termination_by xs => xs.length
theorem plc_len (l r : Str) : ∀ (n : Nat) (xs : List Str), (plc l r n xs).length ≤ xs.length
  | n, [] => by unfold plc; exact Nat.zero_le _
  | n, [a] => by unfold plc; exact Nat.zero_le _
  | n, a :: b :: t => by
    rw [plc]
    by_cases c : a = l ∧ b = r
    · rw [if_pos c]
      have := plc_len l r (n + a.length + b.length) t
      simp only [List.length_cons]
      omega
    · rw [if_neg c]
      have := plc_len l r (n + a.length) (b :: t)
      simp only [List.length_cons] at this ⊢
      omega
termination_by _ xs => xs.length
end Jr
namespace Jr
open PySem PySem.Spec PyProof.Rows L2
/-! ### texts joined; passes keep the text -/
def flat (xs : List Str) : List Nat := xs.flatMap fun x => x.cps.toList
theorem joinL_nil : ∀ xs : List (List Nat), TL.joinL [] xs = xs.flatten
  | [] => rfl
  | [a] => by show a = _; simp
  | a :: b :: r => by
    show a ++ ([] ++ TL.joinL [] (b :: r)) = _
    rw [joinL_nil (b :: r)]
    simp
theorem join_cps (xs : List Str) : (Txt.join (Str.ofString "") xs).cps.toList = flat xs := by
  have e := TL.tl_join (Str.ofString "") xs
  rw [TL.join_eq]
  have e2 : TL.tl (Str.ofString "") = [] := by decide +kernel
  rw [e2, joinL_nil] at e
  refine Eq.trans e ?_
  unfold flat
  rw [List.flatMap_def]
theorem flat_sgs (t : Str) : flat (sgs t) = t.cps.toList := by
  unfold flat sgs
  rw [List.flatMap_map]
  have : ∀ l : List Nat, l.flatMap (fun c => (sgn c).cps.toList) = l := fun l => by
    induction l with
    | nil => rfl
    | cons c l ih => rw [List.flatMap_cons, ih]; rfl
  exact this _
theorem flat_cons (x : Str) (xs : List Str) : flat (x :: xs) = x.cps.toList ++ flat xs := List.flatMap_cons
theorem flat_app (xs ys : List Str) : flat (xs ++ ys) = flat xs ++ flat ys := List.flatMap_append
theorem pass1_flat (l r : Str) : ∀ xs : List Str, flat (pass1 l r xs) = flat xs
  | [] => by rw [pass1_nil]
  | [a] => by rw [pass1_one]
  | a :: b :: t => by
    by_cases c : a = l ∧ b = r
    · obtain ⟨rfl, rfl⟩ := c
      rw [pass1_yes, flat_cons, flat_cons, flat_cons, pass1_flat a b t, app_cps, List.append_assoc]
    · rw [pass1_no t c, flat_cons, flat_cons, pass1_flat l r (b :: t)]
termination_by xs => xs.length
theorem passAll_flat : ∀ (rs : Rws) (xs : List Str), flat (passAll rs xs) = flat xs
  | [], _ => rfl
  | r :: rs, xs => by
    show flat (passAll rs (pass1 r.1 r.2 xs)) = _
    rw [passAll_flat rs, pass1_flat]
theorem sweep_flat (rs : Rws) (t : Str) : flat (sweep rs t) = t.cps.toList := by
  unfold sweep
  rw [passAll_flat, flat_sgs]
theorem passAll_take {rs : Rws} {i : Nat} {r : Str × Str} (xs : List Str) (h : rs[i]? = some r) : passAll (rs.take (i + 1)) xs = pass1 r.1 r.2 (passAll (rs.take i) xs) := by
  unfold passAll
  rw [List.take_add_one, h]
  simp [List.foldl_append]
theorem passAll_len : ∀ (rs : Rws) (xs : List Str), (passAll rs xs).length ≤ xs.length
  | [], _ => Nat.le_refl _
  | r :: rs, xs => Nat.le_trans (passAll_len rs (pass1 r.1 r.2 xs)) (pass1_len ..)
theorem passAll_mem : ∀ (rs : Rws) (xs : List Str) (p : Str), p ∈ passAll rs xs → p ∈ xs ∨ ∃ r ∈ rs, p = jn r
  | [], _, _, h => .inl h
  | r :: rs, xs, p, h => by
    rcases passAll_mem rs (pass1 r.1 r.2 xs) p h with q | ⟨s, hs, e⟩
    · rcases pass1_mem r.1 r.2 xs p q with z | z
      · exact .inl z
      · exact .inr ⟨r, List.mem_cons_self, z⟩
    · exact .inr ⟨s, List.mem_cons_of_mem _ hs, e⟩
/-! ### the law's own pass: from the left, the last piece looked at -/
def stp (l r : Str) (f : List Str) (p : Str) : List Str := if p = r ∧ f.getLast? = some l then f.dropLast ++ [l ++ r] else f ++ [p]
theorem stp_cons {l r a : Str} {f : List Str} (p : Str) (h : f ≠ []) : stp l r (a :: f) p = a :: stp l r f p := by
  unfold stp
  have e : (a :: f).getLast? = f.getLast? := by
    cases f with
    | nil => exact absurd rfl h
    | cons b t => exact List.getLast?_cons_cons
  have e2 : (a :: f).dropLast = a :: f.dropLast := List.dropLast_cons_of_ne_nil h
  rw [e, e2]
  by_cases c : p = r ∧ f.getLast? = some l
  · rw [if_pos c, if_pos c]; rfl
  · rw [if_neg c, if_neg c]; rfl
theorem pass1_ne (l r : Str) : ∀ xs : List Str, xs ≠ [] → pass1 l r xs ≠ []
  | [], h => absurd rfl h
  | [a], _ => by rw [pass1_one]; simp
  | a :: b :: t, _ => by
    by_cases c : a = l ∧ b = r
    · obtain ⟨rfl, rfl⟩ := c
      rw [pass1_yes]; simp
    · rw [pass1_no t c]; simp
theorem app_ne {l r : Str} (h : 1 ≤ r.length) : ¬ l ++ r = l := fun e => by
  have := congrArg Str.length e
  rw [app_len] at this
  omega
theorem pass1_snoc {l r : Str} (hr : 1 ≤ r.length) : ∀ (xs : List Str) (p : Str), pass1 l r (xs ++ [p]) = stp l r (pass1 l r xs) p
  | [], p => by
    rw [pass1_nil, List.nil_append, pass1_one]
    unfold stp
    rw [if_neg (by simp)]
    rfl
  | [a], p => by
    rw [pass1_one]
    show pass1 l r [a, p] = _
    unfold stp
    by_cases c : a = l ∧ p = r
    · obtain ⟨rfl, rfl⟩ := c
      rw [pass1_yes, pass1_nil, if_pos ⟨rfl, rfl⟩]; rfl
    · rw [pass1_no [] c, pass1_one, if_neg (fun z => c ⟨Option.some.inj z.2, z.1⟩)]; rfl
  | a :: b :: t, p => by
    by_cases c : a = l ∧ b = r
    · obtain ⟨rfl, rfl⟩ := c
      show pass1 a b (a :: b :: (t ++ [p])) = _
      rw [pass1_yes, pass1_yes, pass1_snoc hr t p]
      by_cases e : t = []
      · subst e
        rw [pass1_nil]
        unfold stp
        rw [if_neg (by simp), if_neg (fun z => app_ne hr (Option.some.inj z.2))]; rfl
      · rw [stp_cons p (pass1_ne a b t e)]
    · show pass1 l r (a :: b :: (t ++ [p])) = _
      rw [pass1_no _ c, pass1_no _ c]
      have ih := pass1_snoc (l := l) hr (b :: t) p
      have ih2 : pass1 l r (b :: (t ++ [p])) = stp l r (pass1 l r (b :: t)) p := ih
      rw [ih2, stp_cons p (pass1_ne l r (b :: t) (by simp))]
termination_by xs => xs.length
theorem pass1_take {l r : Str} (hr : 1 ≤ r.length) {xs : List Str} {i : Nat} {p : Str} (h : xs[i]? = some p) : pass1 l r (xs.take (i + 1)) = stp l r (pass1 l r (xs.take i)) p := by
  rw [List.take_add_one, h]
  exact pass1_snoc hr _ _
end Jr
namespace Jr
open PySem PySem.Spec PyProof.Rows L2
/-- a text of the table's signs -/
def TextOf (z t : Str) : Prop := ∀ c ∈ t.cps.toList, c ∈ z.cps.toList
theorem sweep_in {z : Str} {rs : Rws} {t : Str} (tx : TextOf z t) {n : Nat} {p : Str} (h : p ∈ passAll (rs.take n) (sgs t)) : p ∈ pcs z rs := by
  rcases passAll_mem _ _ p h with q | ⟨r, hr, rfl⟩
  · obtain ⟨c, hc, rfl⟩ := List.mem_map.mp q
    exact List.mem_append_left _ (List.mem_map.mpr ⟨c, tx c hc, rfl⟩)
  · exact List.mem_append_right _ (List.mem_map.mpr ⟨r, List.mem_of_mem_take hr, rfl⟩)
theorem sweep_pc {z : Str} {rs : Rws} {t : Str} (tx : TextOf z t) {p : Str} (h : p ∈ sweep rs t) : p ∈ pcs z rs := by
  have h2 : p ∈ passAll (rs.take rs.length) (sgs t) := by rw [List.take_length]; exact h
  exact sweep_in tx h2
theorem at_last {α : Type} {xs : List α} {x : α} (h : xs.getLast? = some x) : atI xs (-1) = some x := by
  have hl : 0 < xs.length := by
    cases xs with
    | nil => cases h
    | cons a t => simp
  unfold atI ixN
  rw [if_neg (by omega), if_pos (by omega)]
  have e : ((-1 : Int) + (xs.length : Int)).toNat = xs.length - 1 := by omega
  rw [e]
  rw [List.getLast?_eq_getElem?] at h
  exact h
theorem ix_last {n : Nat} (h : 0 < n) : ixN n (-1) = some (n - 1) := by
  unfold ixN
  rw [if_neg (by omega), if_pos (by omega)]
  have e : ((-1 : Int) + (n : Int)).toNat = n - 1 := by omega
  rw [e]
theorem set_last {α : Type} (y : α) : ∀ xs : List α, xs ≠ [] → xs.set (xs.length - 1) y = xs.dropLast ++ [y]
  | [], h => absurd rfl h
  | [a], _ => rfl
  | a :: b :: t, _ => by
    have ih := set_last y (b :: t) (by simp)
    show a :: (b :: t).set ((b :: t).length - 1) y = a :: ((b :: t).dropLast ++ [y])
    rw [ih]
theorem rep_one {α : Type} (n : Nat) (x : α) : (List.replicate n [x]).flatten = List.replicate n x := by simp
theorem map_rep {α β : Type} (f : α → β) (n : Nat) (x : α) : (List.replicate n x).map f = List.replicate n (f x) := by simp
theorem text_app {z a b : Str} (ha : TextOf z a) (hb : TextOf z b) : TextOf z (a ++ b) := fun c hc => by
  rw [app_cps] at hc
  rcases List.mem_append.mp hc with h | h
  · exact ha c h
  · exact hb c h
theorem text_nil (z : Str) : TextOf z (Str.ofString "") := fun c hc => by
  have e : (Str.ofString "").cps.toList = [] := by decide +kernel
  rw [e] at hc; cases hc
theorem text_to {z t : Str} (h : TextOf z t) (n : Nat) : TextOf z (cutS t none (some (n : Int))) := fun c hc => by
  rw [cut_to] at hc; exact h c (List.mem_of_mem_take hc)
theorem text_from {z t : Str} (h : TextOf z t) (n : Nat) : TextOf z (cutS t (some (n : Int)) none) := fun c hc => by
  rw [cut_from] at hc; exact h c (List.mem_of_mem_drop hc)
theorem RowsAt.copy {H : Hp} {p q : Addr} {rs : Rws} {as : List Addr} (h : Paired (TupAt H) as rs) (hq : H q = none) : RowsAt (upd H q (.lst (as.map V.ref))) q rs := ⟨as, upd_same, TupAt.same (Same.new hq) h⟩
/-- texts that a sweeping tells are the text -/
theorem join_sweep (rs : Rws) (t : Str) : Txt.join (Str.ofString "") (sweep rs t) = t := str_ext (by rw [join_cps, sweep_flat])
theorem flat_len : ∀ xs : List Str, (xs.map (·.length)).sum = (flat xs).length
  | [] => rfl
  | x :: xs => by rw [List.map_cons, List.sum_cons, flat_cons, List.length_append, flat_len xs, len_cps]
theorem zip_fst {α β γ : Type} {F : α → β → Prop} (f : α → γ) : ∀ {l : List α} {m : List β}, Paired F l m → (l.zip m).map (fun x => f x.1) = l.map f
  | _, _, .nil => rfl
  | _, _, .cons _ q => by rw [List.zip_cons_cons, List.map_cons, List.map_cons, zip_fst f q]
theorem zip_snd {α β γ : Type} {F : α → β → Prop} (f : β → γ) : ∀ {l : List α} {m : List β}, Paired F l m → (l.zip m).map (fun x => f x.2) = m.map f
  | _, _, .nil => rfl
  | _, _, .cons _ q => by rw [List.zip_cons_cons, List.map_cons, List.map_cons, zip_snd f q]
theorem zip_mem {α β : Type} {F : α → β → Prop} : ∀ {l : List α} {m : List β}, Paired F l m → ∀ x ∈ l.zip m, F x.1 x.2 ∧ x.2 ∈ m
  | _, _, .nil, x, h => by cases h
  | _, _, .cons r q, x, h => by
    rw [List.zip_cons_cons] at h
    rcases List.mem_cons.mp h with e | e
    · rw [e]; exact ⟨r, List.mem_cons_self⟩
    · obtain ⟨a, b⟩ := zip_mem q x e
      exact ⟨a, List.mem_cons_of_mem _ b⟩
theorem TabOk.rlen {z : Str} {rs : Rws} (T : TabOk z rs) : ∀ r ∈ rs, r.1.length + r.2.length ≤ 1000 := fun r hr => by
  obtain ⟨i, hi, e⟩ := List.mem_iff_getElem.mp hr
  have o := T.rows i r (by rw [List.getElem?_eq_getElem hi, e])
  have := o.len
  have q : (jn r).length = r.1.length + r.2.length := app_len _ _
  omega
def spLaw (K : PySem.W.Frag) : Sp := fun vs H Q _ => ∃ (a : Addr) (ns : List Int), vs = [.ref a] ∧ SqL K H a (ns.map V.int) ∧ ns.length ≤ 63 ∧ ∀ H', Q (.bl true) H'
theorem mod_at {α : Type} (f : α → V) (xs : List α) (h : 0 < xs.length) (d : Int) : ∃ x ∈ xs, atI (xs.map f) (d % ((xs.map f).length : Nat)) = some (f x) := by
  have h0 := Int.emod_nonneg d (show (((xs.map f).length : Nat) : Int) ≠ 0 by rw [List.length_map]; omega)
  have h1 := Int.emod_lt_of_pos d (show (0 : Int) < ((xs.map f).length : Nat) by rw [List.length_map]; omega)
  obtain ⟨m, hm⟩ := Int.eq_ofNat_of_zero_le h0
  rw [hm]
  rw [hm, List.length_map] at h1
  have hm2 : m < xs.length := by omega
  exact ⟨xs[m], List.getElem_mem hm2, atm (List.getElem?_eq_getElem hm2)⟩
end Jr
namespace Jr
open PySem PySem.Spec PyProof.Rows L2
/-! ### new objects, told by Same: nothing of the heap but what is known stays in a question -/
section
variable {X : Cx}
theorem pe_mono {e : Expr} {t t' : TE} (h : PE X e t) (m : ∀ σ H Q, t' σ H Q → t σ H Q) : PE X e t' := ⟨fun pins s σ H Q I q => h.run pins s σ H Q I (m σ H Q q)⟩
theorem ps_mono {e : Stmt} {t t' : TS} (h : PS X e t) (m : ∀ D σ H, t' D σ H → t D σ H) : PS X e t' := ⟨fun pins s σ H D I q => h.run pins s σ H D I (m D σ H q)⟩
theorem op_mono {f : Value → Value → Sem Value} {r r' : R2} (h : OpR X f r) (m : ∀ x y H Q, r' x y H Q → r x y H Q) : OpR X f r' := fun pins s σ H x y v u Q I rx ry q => h pins s σ H x y v u Q I rx ry (m x y H Q q)
theorem call_mono {f : Value} {r r' : List V → Hp → VK → Prop} (h : CallR X f r) (m : ∀ x H Q, r' x H Q → r x H Q) : CallR X f r' := fun pins s σ H x v Q I rx q => h pins s σ H x v Q I rx (m x H Q q)
theorem sl_mono {r r' : V → Option Int → Option Int → Hp → VK → Prop} (h : SlR X r) (m : ∀ x lo hi H Q, r' x lo hi H Q → r x lo hi H Q) : SlR X r' :=
  fun pins s σ H x v vl vu lo hi sl Q I rx hs pl pu q => h pins s σ H x v vl vu lo hi sl Q I rx hs pl pu (m x lo hi H Q q)
/-- a new object -/
def New (H : Hp) (o : HO) (Q : VK) : Prop := ∀ p H', H p = none → Same H H' → H' p = some o → Q (.ref p) H'
theorem New.of {H : Hp} {o : HO} {Q : VK} (h : New H o Q) : ∀ p, H p = none → Q (.ref p) (upd H p o) := fun p hp => h p _ hp (Same.new hp) upd_same
/-- arguments, what follows weakened -/
def clA (t : TA) : TA := fun σ H Q => ∃ Q', (∀ vs H, Q' vs H → Q vs H) ∧ t σ H Q'
def clE (t : TE) : TE := fun σ H Q => ∃ Q', (∀ v H, Q' v H → Q v H) ∧ t σ H Q'
theorem pa_cl {es : List Expr} {t : TA} (h : PA X es t) : PA X es (clA t) := ⟨fun pos pins s σ H Q I ⟨Q', m, q⟩ => thn (h.run pos pins s σ H Q' I q) fun _ _ ⟨vs, H', I', r, z⟩ => ⟨vs, H', I', r, m _ _ z⟩⟩
theorem pe_cl {e : Expr} {t : TE} (h : PE X e t) : PE X e (clE t) := ⟨fun pins s σ H Q I ⟨Q', m, q⟩ => thn (h.run pins s σ H Q' I q) fun _ _ ⟨v, H', I', r, z⟩ => ⟨v, H', I', r, m _ _ z⟩⟩
/-- a test, its answer told ahead -/
def clT (t : TT) : TT := fun σ H Q => ∃ Q' : Bool → Hp → Prop, t σ H Q' ∧ ∀ b H, Q' b H → Q b H
theorem pt_cl {e : Expr} {t : TT} (h : PT X e t) : PT X e (clT t) := ⟨fun pins s σ H Q I ⟨Q', q, m⟩ => thn (h.run pins s σ H Q' I q) fun _ _ ⟨H', I', z⟩ => ⟨H', I', m _ _ z⟩⟩
def tLstG (t : TA) : TE := fun σ H Q => t σ H fun xs H1 => xs.length ≤ sizeLine ∧ New H1 (.lst xs) Q
def tTupG (t : TA) : TE := fun σ H Q => t σ H fun xs H1 => xs.length ≤ sizeLine ∧ New H1 (.tup xs) Q
theorem pe_lstG {es : List Expr} {t : TA} {pos : Pos} (h : PA X es t) : PE X (.List es pos) (tLstG t) := pe_mono (pe_lst (pa_cl h)) fun _ _ _ q => ⟨_, fun _ _ ⟨z, n⟩ => ⟨z, n.of⟩, q⟩
theorem pe_tupG {es : List Expr} {t : TA} {pos : Pos} {x1} (h : PA X es t) : PE X (.Tuple es x1 pos) (tTupG t) := pe_mono (pe_tup (pa_cl h)) fun _ _ _ q => ⟨_, fun _ _ ⟨z, n⟩ => ⟨z, n.of⟩, q⟩
def rCatG (K : PySem.W.Frag) : R2 := fun x y H Q => ∃ l b xs zs, x = .ref l ∧ y = .ref b ∧ SqL K H l xs ∧ SqL K H b zs ∧ xs.length + zs.length ≤ sizeLine ∧ New H (.lst (xs ++ zs)) Q
theorem op_catG : OpR X (binaryOp .Add) (rCatG X.K) := op_mono op_catL fun _ _ _ _ ⟨l, b, xs, zs, e1, e2, h1, h2, z, n⟩ => ⟨l, b, xs, zs, e1, e2, h1, h2, z, n.of⟩
theorem sl_listG : SlR X (fun x lo hi H Q => ∃ a xs, x = .ref a ∧ SqL X.K H a xs ∧ New H (.lst (cutV xs lo hi)) Q) := sl_mono sl_list fun _ _ _ _ _ ⟨a, xs, e, h, n⟩ => ⟨a, xs, e, h, n.of⟩
theorem call_listG : CallR X (.type "list") (fun xs H Q => ∃ p ys, xs = [.ref p] ∧ (SqL X.K H p ys ∨ SqT X.K H p ys) ∧ New H (.lst ys) Q) := call_mono call_list_of fun _ _ _ ⟨p, ys, e, h, n⟩ => ⟨p, ys, e, h, n.of⟩
theorem call_listSG (hc : X.calm = true) : CallR X (.type "list") (fun xs H Q => ∃ z : Str, xs = [.str z] ∧ z.length ≤ sizeLine ∧ New H (.lst ((sgs z).map V.str)) Q) := call_mono (call_list_str hc) fun _ _ _ ⟨z, e, h, n⟩ => ⟨z, e, h, n.of⟩
theorem op_catGK {K : PySem.W.Frag} (h : X.K = K := by rfl) : OpR X (binaryOp .Add) (rCatG K) := by subst h; exact op_catG
theorem sl_listGK {K : PySem.W.Frag} (h : X.K = K := by rfl) : SlR X (fun x lo hi H Q => ∃ a xs, x = .ref a ∧ SqL K H a xs ∧ New H (.lst (cutV xs lo hi)) Q) := by subst h; exact sl_listG
theorem call_listGK {K : PySem.W.Frag} (h : X.K = K := by rfl) : CallR X (.type "list") (fun xs H Q => ∃ p ys, xs = [.ref p] ∧ (SqL K H p ys ∨ SqT K H p ys) ∧ New H (.lst ys) Q) := by subst h; exact call_listG
theorem op_repG : OpR X (binaryOp .Mult) (fun x y H Q => ∃ l k xs, x = .ref l ∧ y = .int k ∧ H l = some (.lst xs) ∧ -(2 ^ 63) ≤ k ∧ k < 2 ^ 63 ∧ xs.length * k.toNat ≤ sizeLine ∧ New H (.lst (List.replicate k.toNat xs).flatten) Q) :=
  op_mono op_rep fun _ _ _ _ ⟨l, k, xs, e1, e2, h, a, b, c, n⟩ => ⟨l, k, xs, e1, e2, h, a, b, c, n.of⟩
/-! ### a written list of ints -/
def tInts (ns : List Int) : TE := fun _ H Q => New H (.lst (ns.map V.int)) Q
theorem pe_litI {e : Expr} {t : TA} {ns : List Int} (h : PE X e (tLst t)) (ht : ∀ σ H Q, t σ H Q = Q (ns.map V.int) H) (hl : ns.length ≤ 1000) : PE X e (tInts ns) := pe_mono h fun σ H Q n => by
  show t σ H _
  rw [ht]
  exact ⟨by rw [List.length_map]; exact sz (by omega), n.of⟩
theorem pe_catI {a b : Expr} {ms ns : List Int} {pos : Pos} (ha : PE X a (tInts ms)) (hb : PE X b (tInts ns)) (hl : ms.length + ns.length ≤ 1000) : PE X (.BinOp a .Add b pos) (tInts (ms ++ ns)) :=
  pe_mono (pe_op op_catG ha hb) fun _ _ _ n p H1 np s1 h1 q H2 nq s2 h2 =>
    ⟨p, q, _, _, rfl, rfl, SqL.of (s2 _ _ h1), SqL.of h2, by rw [List.length_map, List.length_map]; exact sz (by omega), fun r H3 nr s3 h3 =>
      n r H3 (s1.free (s2.free nr)) ((s1.trans s2).trans s3) (by rw [h3, List.map_append])⟩
theorem pe_repI {a b : Expr} {ms : List Int} {k : Nat} {pos : Pos} (ha : PE X a (tInts ms)) (hb : PE X b (tC (.int (k : Int)))) (hl : ms.length * k ≤ 1000) (hk : k ≤ 1000) : PE X (.BinOp a .Mult b pos) (tInts (List.replicate k ms).flatten) :=
  pe_mono (pe_op op_rep ha hb) fun _ _ _ n p H1 np s1 h1 => by
    refine ⟨p, _, _, rfl, rfl, h1, ?_, ?_, ?_, fun q nq => n q _ (s1.free nq) (s1.trans (Same.new nq)) ?_⟩
    · omega
    · omega
    · rw [List.length_map, Int.toNat_natCast]; exact sz (by omega)
    · rw [upd_same, Int.toNat_natCast]
      congr 2
      rw [List.map_flatten, List.map_replicate]
theorem pe_intsAs {e : Expr} {ms ns : List Int} (h : PE X e (tInts ms)) (q : ms = ns) : PE X e (tInts ns) := q ▸ h
end
end Jr
namespace Jr
open PySem PySem.Spec PyProof.Rows L2
/-! ### calls of defs, methods, classes that may raise -/
section
variable {X : Cx} {k : Nat} {x : Str} {sp : Sp} {e : Expr} {es : List Expr} {t : TA} {p pos apos : Pos} {C : Addr} {m : Str} {o : Expr} {ta : TE} {W : WX}
theorem pe_calX (F : Cal X.prog X.w X.K X.mg X.base (L2.CX X.prog X.w) k x sp) (hr : Room k X.A) (hg : Gl X x) (tk : Takes X W) (ha : PA X (e :: es) t) (hdb : (x == ("__debug__" : Str)) = false := by decide)
    (he : starEach (e :: es) X.env = (false, eval e X.env) :: starEach es X.env := by rfl) (hpl : (backTo pos (starEach es X.env)).any (·.1) = false := by rfl) :
    PE X (.Call (.Name x p) (e :: es) [] pos) (fun σ H Q => t σ H fun vs H1 => sp vs H1 Q (WE W σ)) := by
  obtain ⟨f, fd, ps, G, gm, kp, b⟩ := F.ex
  exact pe_callS G hr hg gm kp b (fun σ => passAt tk σ) ha hdb he hpl
theorem pe_calL (F : Cal X.prog X.w X.K X.mg X.base (L2.CX X.prog X.w) k x sp) (hr : Room k X.A) (hg : Gl X x) (ha : PA X (e :: es) t) (hdb : (x == ("__debug__" : Str)) = false := by decide)
    (he : starEach (e :: es) X.env = (false, eval e X.env) :: starEach es X.env := by rfl) (hpl : (backTo pos (starEach es X.env)).any (·.1) = false := by rfl) :
    PE X (.Call (.Name x p) (e :: es) [] pos) (fun σ H Q => t σ H fun vs H1 => sp vs H1 Q E0) := by
  obtain ⟨f, fd, ps, G, gm, kp, b⟩ := F.ex
  have z := pe_call (p := p) (pos := pos) (es := es) G hr hg gm kp b .nil passL ha hdb he hpl
  refine ⟨fun pins s σ H Q I h => z.run pins s σ H Q I ?_⟩
  show t σ H fun vs H1 => sp (vs ++ []) H1 Q E0
  simpa only [List.append_nil] using h
theorem pe_metL {pl : Sem Bool} (F : Met X.prog X.w X.K X.mg X.base (L2.CX X.prog X.w) k C m sp) (ho : PE X o ta) (hr : Room k X.A) (ha : PA X (e :: es) t)
    (hc : eval (.Call (.Attribute o m apos) (e :: es) [] pos) X.env = (do
      let ov ← eval o X.env
      standAt apos.atName
      let (f, first) ← holding [ov] (getMethod ov m pl)
      callWith pos f first (backTo pos (starEach (e :: es) X.env)) (backToKw pos (keywordEach [] X.env))) := by rfl)
    (he : starEach (e :: es) X.env = (false, eval e X.env) :: starEach es X.env := by rfl) (hpl : (backTo pos (starEach es X.env)).any (·.1) = false := by rfl) :
    PE X (.Call (.Attribute o m apos) (e :: es) [] pos) (fun σ H Q => ta σ H fun x H1 => ∃ a dx fs, x = .ref a ∧ H1 a = some (.ins C dx fs) ∧ fs.lookup m = none ∧ t σ H1 fun vs H2 => sp (x :: vs) H2 Q E0) := by
  obtain ⟨f, fd, ps, G, mt, b⟩ := F.ex
  have z := pe_meth (apos := apos) (pos := pos) ho F.cl mt G hr b .nil passL ha he hpl hc
  refine ⟨fun pins s σ H Q I h => z.run pins s σ H Q I ?_⟩
  show ta σ H fun x H1 => ∃ a dx fs, x = .ref a ∧ H1 a = some (.ins C dx fs) ∧ fs.lookup m = none ∧ t σ H1 fun vs H2 => sp (x :: (vs ++ [])) H2 Q E0
  simpa only [List.append_nil] using h
theorem pe_metX {pl : Sem Bool} (F : Met X.prog X.w X.K X.mg X.base (L2.CX X.prog X.w) k C m sp) (ho : PE X o ta) (hr : Room k X.A) (tk : Takes X W) (ha : PA X (e :: es) t)
    (hc : eval (.Call (.Attribute o m apos) (e :: es) [] pos) X.env = (do
      let ov ← eval o X.env
      standAt apos.atName
      let (f, first) ← holding [ov] (getMethod ov m pl)
      callWith pos f first (backTo pos (starEach (e :: es) X.env)) (backToKw pos (keywordEach [] X.env))) := by rfl)
    (he : starEach (e :: es) X.env = (false, eval e X.env) :: starEach es X.env := by rfl) (hpl : (backTo pos (starEach es X.env)).any (·.1) = false := by rfl) :
    PE X (.Call (.Attribute o m apos) (e :: es) [] pos) (fun σ H Q => ta σ H fun x H1 => ∃ a dx fs, x = .ref a ∧ H1 a = some (.ins C dx fs) ∧ fs.lookup m = none ∧ t σ H1 fun vs H2 => sp (x :: vs) H2 Q (WE W σ)) := by
  obtain ⟨f, fd, ps, G, mt, b⟩ := F.ex
  constructor
  intro pins s σ H Q I h
  refine PySem.W.methodCall_KW (pl := pl) (thn (ho.run pins s σ H _ I h) ?_) hc
  rintro u s1 ⟨v, H1, I1, rv, a, dx, fs, ev, ea, hl, q⟩
  subst ev
  obtain rfl : u = Value.ref a := rv
  refine getmeth_ok I1 ea F.cl mt hl (PySem.W.callWith_K (first := [.ref a]) (h₀ := X.base) I1.ok.mod.kin mt.kp (thn (ha.run pos pins s1 σ H1 _ I1 q) ?_) he hpl)
  rintro us s2 ⟨vs, H2, I2, r, q2⟩
  exact ⟨I2.kIn, run_fnS (us := .ref a :: us) (vs := .ref a :: vs) (E := WE W) G hr b (passAt tk σ) I2 (.cons rfl r) q2⟩
/-- C(..) of an own class whose __init__ may raise -/
theorem pe_mkX (F : Mkc X.prog X.w X.K X.mg X.base (L2.CX X.prog X.w) k x C sp) (hr : Room (k + 1) X.A) (hg : Gl X x) (tk : Takes X W) (ha : PA X (e :: es) t) (hdb : (x == ("__debug__" : Str)) = false := by decide)
    (he : starEach (e :: es) X.env = (false, eval e X.env) :: starEach es X.env := by rfl) (hpl : (backTo pos (starEach es X.env)).any (·.1) = false := by rfl) :
    PE X (.Call (.Name x p) (e :: es) [] pos) (fun σ H Q => t σ H fun vs H1 => ∀ x dx, H1 x = none → H1 dx = none → dx ≠ x →
      sp (.ref x :: vs) (upd (upd H1 dx (.own x)) x (.ins C dx [])) (fun v H2 => v = .non ∧ Q (.ref x) H2) (WE W σ)) := by
  obtain ⟨f, fd, ps, G, mk, b⟩ := F.ex
  constructor
  intro pins s σ H Q I h
  refine wpAny_Call_Name_kw (ld_glob I hg F.g (PySem.W.callWith_K (h₀ := X.base) I.ok.mod.kin mk.kp (thn (ha.run pos pins s σ H _ I h) ?_) he hpl) hdb)
  rintro us s1 ⟨vs, H1, I1, r, q⟩
  refine ⟨I1.kIn, ?_⟩
  have hq := q (s1.heap.objs.size + 1) s1.heap.objs.size (I1.hok.fresh (Nat.le_succ _)) (I1.hok.fresh (Nat.le_refl _)) (Nat.ne_of_lt (Nat.lt_succ_self _))
  have I2 := Inv.made (C := C) I1
  have r2 : Vals (V.ref (s1.heap.objs.size + 1) :: vs) (Value.ref (s1.heap.objs.size + 1) :: us) := .cons rfl r
  have hl : (Value.ref (s1.heap.objs.size + 1) :: us).length = ps.length := by
    rw [← r2.length]
    exact G.len _ _ _ _ hq
  have bb := b { s1 with heap := _ } (Value.ref (s1.heap.objs.size + 1) :: us) I2.kIn (by rw [List.append_nil]; exact hl)
  rw [List.append_nil] at bb
  have G2 := G.run _ X.stack _ _ ⟨Value.ref (s1.heap.objs.size + 1) :: us, []⟩ (Value.ref (s1.heap.objs.size + 1) :: us) _ _ (WE W σ) (hr.make C us []) (I2.env0.make C us []) bb r2 hq
  refine wpAny_call (make_map (f := f) I1.kIn mk.makes mk.init (beq_iff_eq.mp mk.fn) (codeAny_mono G2 ?_))
  intro r' s' hq'
  cases r' with
  | error er => exact passAt tk σ pins _ _ er s' I2 hq'
  | ok fl =>
    cases fl with
    | ret u =>
      obtain ⟨v, H', I3, rv, ev, q3⟩ := I2.after hq'
      subst ev
      exact ⟨rv, ⟨V.ref (s1.heap.objs.size + 1), H', I3, rfl, q3⟩⟩
    | next => exact hq'.elim
    | brk => exact hq'.elim
    | cont => exact hq'.elim
theorem pe_mkL (F : Mkc X.prog X.w X.K X.mg X.base (L2.CX X.prog X.w) k x C sp) (hr : Room (k + 1) X.A) (hg : Gl X x) (ha : PA X (e :: es) t) (hdb : (x == ("__debug__" : Str)) = false := by decide)
    (he : starEach (e :: es) X.env = (false, eval e X.env) :: starEach es X.env := by rfl) (hpl : (backTo pos (starEach es X.env)).any (·.1) = false := by rfl) :
    PE X (.Call (.Name x p) (e :: es) [] pos) (fun σ H Q => t σ H fun vs H1 => ∀ x dx, H1 x = none → H1 dx = none → dx ≠ x →
      sp (.ref x :: vs) (upd (upd H1 dx (.own x)) x (.ins C dx [])) (fun v H2 => v = .non ∧ Q (.ref x) H2) E0) := by
  obtain ⟨f, fd, ps, G, mk, b⟩ := F.ex
  have z := pe_make (p := p) (pos := pos) (es := es) mk G hr hg F.g b .nil passL ha hdb he hpl
  refine ⟨fun pins s σ H Q I h => z.run pins s σ H Q I ?_⟩
  show t σ H fun vs H1 => ∀ x dx, H1 x = none → H1 dx = none → dx ≠ x → sp (.ref x :: (vs ++ [])) (upd (upd H1 dx (.own x)) x (.ins C dx [])) (fun v H2 => v = .non ∧ Q (.ref x) H2) E0
  simpa only [List.append_nil] using h
end
/-! ### a def read off its class: C.m(self, ..) -/
theorem vV (K : PySem.W.Frag) : PySem.W.findCls K (.type "ValueError") (.type "type") "__init__" = some (.val (.builtin "ValueError.__init__")) := by kernel_rfl
structure Cdf (P : Program) (w : World) (K : PySem.W.Frag) (mg : Str → Option Value) (base : Heap) (k : Nat) (x : Str) (C : Addr) (m : Str) (sp : Sp) : Prop where
  ex : ∃ (f : Addr) (fd : FuncData) (ps : List Str), FnOk P w K mg base CX0 k f fd ps sp ∧ PySem.W.readsIn K C (.type "type") = true ∧ PySem.W.specialIn K (.ref C) "__getattribute__" = some (some (.builtin "type.__getattribute__")) ∧
    PySem.W.findCls K (.ref C) (.type "type") m = some (.val (.ref f)) ∧ PySem.W.keepIn K (.ref f) = true ∧ Binds K fd ps []
  g : mg x = some (.ref C)
theorem pe_cdef {X : Cx} {k : Nat} {x m : Str} {C : Addr} {sp : Sp} {e : Expr} {es : List Expr} {t : TA} {p1 p2 pos : Pos} {pl : Sem Bool} (F : Cdf X.prog X.w X.K X.mg X.base k x C m sp) (hr : Room k X.A) (hg : Gl X x) (ha : PA X (e :: es) t)
    (hc : eval (.Call (.Attribute (.Name x p1) m p2) (e :: es) [] pos) X.env = (do
      let ov ← eval (.Name x p1) X.env
      standAt p2.atName
      let (f, first) ← holding [ov] (getMethod ov m pl)
      callWith pos f first (backTo pos (starEach (e :: es) X.env)) (backToKw pos (keywordEach [] X.env))) := by rfl)
    (hdb : (x == ("__debug__" : Str)) = false := by decide) (he : starEach (e :: es) X.env = (false, eval e X.env) :: starEach es X.env := by rfl) (hpl : (backTo pos (starEach es X.env)).any (·.1) = false := by rfl) :
    PE X (.Call (.Attribute (.Name x p1) m p2) (e :: es) [] pos) (fun σ H Q => t σ H fun vs H1 => sp vs H1 Q E0) := by
  obtain ⟨f, fd, ps, G, rd, ga, fc, kp, b⟩ := F.ex
  constructor
  intro pins s σ H Q I h
  refine PySem.W.methodCall_KW (pl := pl) (ld_glob I hg F.g (PySem.W.method_cls I.kIn ga (PySem.W.cls_value I.kIn rd fc rfl ?_)) hdb) hc
  refine PySem.W.callWith_K (first := []) (h₀ := X.base) I.ok.mod.kin kp (thn (ha.run pos pins _ σ H _ (I.tok _) h) ?_) he hpl
  rintro us s1 ⟨vs, H1, I1, r, q⟩
  exact ⟨I1.kIn, run_fn (us := us) G hr b .nil pass0 I1 r (by rw [List.append_nil]; exact q)⟩
/-! ### {x} of None, an int, a text -/
def Fmt (v : V) : Prop := v = .non ∨ (∃ i : Int, v = .int i ∧ i.natAbs.log2 < 1920) ∨ ∃ y : Str, v = .str y ∧ y.length ≤ 1000
def tFmtN (te : TE) : TE := fun σ H Q => te σ H fun x H1 => Fmt x ∧ ∀ y : Str, y.length ≤ 2000 → Q (.str y) H1
theorem pe_fmtN {X : Cx} {e : Expr} {te : TE} {pos : Pos} (he : PE X e te) : PE X (.FormattedValue e (-1) none pos) (tFmtN te) := by
  constructor
  intro pins s σ H Q I h
  refine wpAny_FormattedValue_plain (thn (he.run pins s σ H _ I h) ?_)
  rintro v s1 ⟨x, H1, I1, r1, fm, q⟩
  rcases fm with rfl | ⟨i, rfl, hz⟩ | ⟨y, rfl, hz⟩
  · cases r1
    exact wpAny_formatField_none ⟨.str "None", H1, I1.tok _, ⟨_, rfl⟩, q _ (by decide +kernel)⟩
  · obtain ⟨t, rfl⟩ := r1
    have l := int_text_length_le (k := 1920) (by decide) hz
    refine wpAny_formatField_int hz ⟨.str (Str.ofString (toString i)), H1, I1.tok _, ⟨_, rfl⟩, q _ ?_⟩
    rw [PySem.ofString_length]
    omega
  · obtain ⟨t, rfl⟩ := r1
    exact wpAny_formatField_str ⟨.str y, H1, I1, ⟨t, rfl⟩, q y (by omega)⟩ ⟨.str y, H1, I1.tok _, ⟨_, rfl⟩, q y (by omega)⟩ (sz (by omega))
/-! ### what the text says of an own exception class, as a Bool -/
def clsB (K : PySem.W.Frag) (C : Addr) : Bool := match K.lookup C with
  | some ⟨.type "type", _, .cls cd, sl⟩ => (match cd.mro, sl.toList with
    | .ref D :: bm, [_, _, _, _, some (.builtin n), _] => (D == C && n == "ValueError.__new__") && (!cd.hasDel && (cd.hasDict && PySem.HandSPX.refsVE bm))
    | _, _ => false)
  | _ => false
theorem clsB_ok {K : PySem.W.Frag} {C : Addr} (h : clsB K C = true) : ∃ nm q N bs bm sn sub ab col dd k0 k1 k2 k3 k5, K.lookup C = some (excClassObj nm q C N bs bm true sn sub ab col dd k0 k1 k2 k3 k5 "ValueError.__new__") ∧ PySem.HandSPX.refsVE bm = true := by
  unfold clsB at h
  split at h
  · rename_i dd cd sl ho
    split at h
    · rename_i D bm k0 k1 k2 k3 n k5 e1 e2
      rw [Bool.and_eq_true, Bool.and_eq_true, Bool.and_eq_true, Bool.and_eq_true, beq_iff_eq, beq_iff_eq, Bool.not_eq_true'] at h
      obtain ⟨⟨h1, h2⟩, h3, h4, h5⟩ := h
      subst h1 h2
      obtain ⟨nm, bs, mro, ns, qn, hd, sn, sub, ab, col, de⟩ := cd
      simp only at e1 h3 h4
      subst e1 h3 h4
      have e3 : sl = #[k0, k1, k2, k3, some (.builtin "ValueError.__new__"), k5] := by
        obtain ⟨l⟩ := sl
        simp only at e2
        rw [e2]
      subst e3
      exact ⟨nm, qn, ns, bs, bm, sn, sub, ab, col, dd, k0, k1, k2, k3, k5, ho, h5⟩
    · cases h
  · cases h
def fcB (K : PySem.W.Frag) (C f : Addr) : Bool := match PySem.W.findCls K (.ref C) (.type "type") "__init__" with
  | some (.val (.ref g)) => decide (g = f)
  | _ => false
theorem fcB_ok {K : PySem.W.Frag} {C f : Addr} (h : fcB K C f = true) : PySem.W.findCls K (.ref C) (.type "type") "__init__" = some (.val (.ref f)) := by
  unfold fcB at h
  split at h
  · rename_i g e
    rw [e, of_decide_eq_true h]
  · cases h
/-- all that is asked of a class -/
structure XcC (K : PySem.W.Frag) (C : Addr) : Prop where
  oex : OexC K C
  xf : XfC K C
  ic : (PySem.W.clsIn K C).isSome = true
  ca : PySem.W.findIn K (.ref C) "__class__" = some (some (.builtin "object.__class__"))
  cg : PySem.W.specialIn K (.builtin "object.__class__") "__get__" = some (some (.builtin "getset_descriptor.__get__"))
  ct : PySem.W.takesIn K (.builtin "object.__class__") = some true
  cm : PySem.W.mroIn K C (.type "object") = some true
def xcB (K : PySem.W.Frag) (C : Addr) : Bool := clsB K C && (decide (PySem.W.findIn K (.ref C) "__setattr__" = some (some (.builtin "object.__setattr__"))) && (decide (PySem.W.typeIn K (.ref C) = some (.type "type")) && (PySem.W.keepIn K (.ref C) && (xfB K C && ((PySem.W.clsIn K C).isSome &&
  (decide (PySem.W.findIn K (.ref C) "__class__" = some (some (.builtin "object.__class__"))) && (decide (PySem.W.specialIn K (.builtin "object.__class__") "__get__" = some (some (.builtin "getset_descriptor.__get__"))) &&
    (decide (PySem.W.takesIn K (.builtin "object.__class__") = some true) && decide (PySem.W.mroIn K C (.type "object") = some true)))))))))
theorem xcB_ok {K : PySem.W.Frag} {C : Addr} (h : xcB K C = true) : XcC K C := by
  unfold xcB at h
  simp only [Bool.and_eq_true, decide_eq_true_eq] at h
  obtain ⟨h1, h2, h3, h4, h5, h6, h7, h8, h9, h10⟩ := h
  have xf := xfB_ok h5
  exact ⟨⟨clsB_ok h1, h2, xf.exC, h3, h4⟩, xf, h6, h7, h8, h9, h10⟩
/-! ### promises of __init__, and what is raised -/
/-- __init__(self, v): one field -/
def spX1 (C : Addr) (f : Str) : Sp := fun vs H Q _ => ∃ (a : Addr) (v : V), vs = [.ref a, v] ∧ Fmt v ∧ H a = some (exo a C none) ∧ ∀ d, H d = none → d ≠ a → Q .non (upd (upd H d (exd d [(f, v)])) a (exo a C (some d)))
/-- __init__(self, v, u): two fields -/
def spX2 (C : Addr) (f g : Str) : Sp := fun vs H Q _ => ∃ (a : Addr) (v u : V), vs = [.ref a, v, u] ∧ Fmt v ∧ Fmt u ∧ H a = some (exo a C none) ∧ ∀ d, H d = none → d ≠ a → Q .non (upd (upd (upd H d (exd d [(f, v)])) a (exo a C (some d))) d (exd d [(g, u), (f, v)]))
structure Exk (P : Program) (w : World) (K : PySem.W.Frag) (mg : Str → Option Value) (base : Heap) (k : Nat) (x : Str) (C : Addr) (sp : Sp) : Prop where
  ex : ∃ (f : Addr) (fd : FuncData) (ps : List Str), FnOk P w K mg base CX0 k f fd ps sp ∧ PySem.W.findIn K (.ref C) "__init__" = some (some (.ref f)) ∧ PySem.W.typeIn K (.ref f) = some (.type "function") ∧ Binds K fd ps []
  xc : XcC K C
  g : mg x = some (.ref C)
section
variable {X : Cx} {k : Nat} {x f g : Str} {C : Addr} {e e2 : Expr} {ta : TA} {p pos : Pos}
def tMk1 (C : Addr) (f : Str) (ta : TA) : L2.St → Hp → XK → Prop := fun σ H Q => ta σ H fun vs H1 => ∃ v, vs = [v] ∧ Fmt v ∧ ∀ d, H1 d = none → Q (.ref C) (some d) (upd H1 d (.xd [(f, v)]))
def tMk2 (C : Addr) (f g : Str) (ta : TA) : L2.St → Hp → XK → Prop := fun σ H Q => ta σ H fun vs H1 => ∃ v u, vs = [v, u] ∧ Fmt v ∧ Fmt u ∧ ∀ d, H1 d = none → Q (.ref C) (some d) (upd H1 d (.xd [(g, u), (f, v)]))
theorem pmk_mono {e : Expr} {t t' : L2.St → Hp → XK → Prop} (h : PMk X e t) (m : ∀ σ H Q, t' σ H Q → t σ H Q) : PMk X e t' := fun pins s σ H Q I q => h pins s σ H Q I (m σ H Q q)
theorem pass0F {X : Cx} : Passes CX0 X (fun _ _ _ => False) := pass0
theorem upd_del {H1 H2 : Hp} {a d : Addr} {o : HO} (ha : H1 a = none) (h : ∀ b, b ≠ a → b ≠ d → H2 b = H1 b) : upd (del H2 a) d o = upd H1 d o := by
  funext b
  by_cases hd : b = d
  · rw [hd, upd_same, upd_same]
  · rw [upd_ne hd, upd_ne hd]
    by_cases hb : b = a
    · rw [hb, del_same, ha]
    · rw [del_ne hb, h b hb hd]
theorem Exk.mk1 (F : Exk X.prog X.w X.K X.mg X.base k x C (spX1 C f)) (hr : Room (k + 1) X.A) (ha : PA X [e] ta) (hg : Gl X x := by rfl) (hdb : (x == ("__debug__" : Str)) = false := by decide)
    (he : starEach [e] X.env = (false, eval e X.env) :: starEach [] X.env := by rfl) (hpl : (backTo pos (starEach [] X.env)).any (·.1) = false := by rfl) : PMk X (.Call (.Name x p) [e] [] pos) (tMk1 C f ta) := by
  obtain ⟨fI, fd, ps, G, iC, tI, b⟩ := F.ex
  refine pmk_mono (pmk_oex F.xc.oex iC tI G hr b .nil pass0F hg F.g (pa_cl ha) hdb he hpl) fun σ H Q q => ⟨_, ?_, q⟩
  rintro vs H1 ⟨v, rfl, fm, q⟩
  refine ⟨by show 1 ≤ 1000; decide, fun a na => ⟨a, v, rfl, fm, upd_same, fun d nd ne => ⟨rfl, d, [(f, v)], upd_same, ?_, ?_, ?_⟩⟩⟩
  · rw [upd_ne ne, upd_same]
  · rw [upd_ne ne] at nd
    exact nd
  · rw [upd_ne ne] at nd
    rw [upd_del na fun b hb hd => by rw [upd_ne hb, upd_ne hd, upd_ne hb]]
    exact q d nd
theorem Exk.mk2 (F : Exk X.prog X.w X.K X.mg X.base k x C (spX2 C f g)) (hr : Room (k + 1) X.A) (ha : PA X [e, e2] ta) (hg : Gl X x := by rfl) (hdb : (x == ("__debug__" : Str)) = false := by decide)
    (he : starEach [e, e2] X.env = (false, eval e X.env) :: starEach [e2] X.env := by rfl) (hpl : (backTo pos (starEach [e2] X.env)).any (·.1) = false := by rfl) : PMk X (.Call (.Name x p) [e, e2] [] pos) (tMk2 C f g ta) := by
  obtain ⟨fI, fd, ps, G, iC, tI, b⟩ := F.ex
  refine pmk_mono (pmk_oex F.xc.oex iC tI G hr b .nil pass0F hg F.g (pa_cl ha) hdb he hpl) fun σ H Q q => ⟨_, ?_, q⟩
  rintro vs H1 ⟨v, u, rfl, fv, fu, q⟩
  refine ⟨by show 2 ≤ 1000; decide, fun a na => ⟨a, v, u, rfl, fv, fu, upd_same, fun d nd ne => ⟨rfl, d, [(g, u), (f, v)], ?_, upd_same, ?_, ?_⟩⟩⟩
  · rw [upd_ne (Ne.symm ne), upd_same]
  · rw [upd_ne ne] at nd
    exact nd
  · rw [upd_ne ne] at nd
    rw [upd_del na fun b hb hd => by rw [upd_ne hd, upd_ne hb, upd_ne hd, upd_ne hb]]
    exact q d nd
end
/-! ### isinstance of a caught error with fields -/
def rIsD (K : PySem.W.Frag) (a : Addr) (cls : Value) (d : Option Addr) (D : Addr) : List V → Hp → VK → Prop := fun xs H Q => ∃ (c : V) (cv : Value) (b : Bool) (dd : Addr) (fs : List (Str × V)), xs = [.ref a, c] ∧ cls = .ref D ∧ d = some dd ∧ H dd = some (.xd fs) ∧
  (∀ u, RelV c u → u = cv) ∧ PySem.W.kitOne K (.ref D) cv = some b ∧ Q (.bl b) H
theorem call_isD {X : Cx} {a D : Addr} {oe : Obj} {cls : Value} {d : Option Addr} {pn : List (Addr × Obj)} (C : XcC X.K D) (hz : Zc cls d oe) (hf : ∃ vs, oe.data = .fields vs) : CallR (X.suite a ((a, oe) :: pn)) (.builtin "isinstance") (rIsD X.K a cls d D) := by
  intro pins s σ H xs us Q I r h
  obtain ⟨c, cv, b, dd, fs, rfl, ec, ed, hdd, hcv, e, q⟩ := h
  cases r with
  | cons rx rr =>
    cases rr with
    | cons rt rr =>
      cases rr
      cases rx
      have e1 := hcv _ rt
      subst e1
      obtain ⟨hget, _⟩ := I.pin (a, oe) (List.mem_append.mpr (.inl List.mem_cons_self))
      obtain ⟨vs, hv⟩ := hf
      have hx : ObjOk X.prog X.w H s.heap dd (.xd fs) := I.hok dd _ hdd
      obtain ⟨mA, hns, _⟩ := hx
      obtain ⟨od, ho, _⟩ := lookIn_ns hns
      have J : PySem.W.InstAt s.heap a oe D (some od) := ⟨hget, by rw [hz.1, ec], by unfold PySem.W.notCls; rw [hv] <;> rfl, by rw [hz.2, ed]; exact ho⟩
      exact PySem.W.kia_one (PySem.W.kitx_exc C.ic C.xf.ga C.xf.gg C.xf.exC C.ca C.cg C.ct C.cm) I.kIn J e (fun z => nomatch z) fun tk => ⟨.bl b, H, I.kept (t' := tk) fun _ _ z => z, rfl, q⟩
end Jr

namespace Jr
open PySem PySem.Spec PyProof.Rows L2
/-! ### the head's facts, the interpreter's own statics among them -/
def asC (g : Addr → Option Obj) (n : Nat) : List Addr := He.asD g n ++ [cStatics]
def obsC (n : Nat) (fa : List He.Fa) (fn : List He.DefD) (ex : PySem.W.Frag → Bool) (g : Addr → Option Obj) : He.AlX := (He.obsT fa fn [] (He.frT g (asC g n)), ex (He.frT g (asC g n)))
structure SaysC (fa : List He.Fa) (fn : List He.DefD) (ex : PySem.W.Frag → Bool) (w : World) (K : PySem.W.Frag) : Prop where
  t : He.SaysT fa fn [] w K
  more : ex K = true
theorem saysC_of {n : Nat} {fa : List He.Fa} {fn : List He.DefD} {ex : PySem.W.Frag → Bool} {w : World} {h : Heap} (e : obsC n fa fn ex h.get? = He.valX fn [] w) : SaysC fa fn ex w (He.frT h.get? (asC h.get? n)) :=
  ⟨congrArg (fun z : He.AlX => z.1) e, congrArg (fun z : He.AlX => z.2) e⟩
def hookC (n : Nat) (fa : List He.Fa) (fn : List He.DefD) (ex : PySem.W.Frag → Bool) : PySem.W.Hook where
  α := He.AlX
  obs := fun s => obsC n fa fn ex s.heap.get?
  val := fun w => He.valX fn [] w
  says := fun w h => ∃ K : PySem.W.Frag, K.In h ∧ SaysC fa fn ex w K
  of := fun _ _ e => ⟨_, He.frT_in, saysC_of e⟩
  keeps := fun _ _ _ ⟨K, hK, c⟩ k => ⟨K, PySem.W.Frag.In.keeps hK k, c⟩
theorem obsC_eq {n : Nat} {fa : List He.Fa} {fn : List He.DefD} {ex : PySem.W.Frag → Bool} {g : Addr → Option Obj} {s : Shared} (h : ∀ a, g a = s.heap.get? a) : obsC n fa fn ex g = (hookC n fa fn ex).obs s := by
  have e : g = s.heap.get? := funext h
  rw [e]; rfl
end Jr
namespace Jr
open PySem PySem.Spec PyProof.Rows L2
/-! ### the text -/
def top (i : Nat) : Stmt := PySem.Challenge.pw_joinranks_k63_renamed.main.body.getD i (.Pass ⟨0, 0, 0, 0⟩)
abbrev s__wall : Stmt := (top 0)
abbrev N__wall : List Str := ["k"]
abbrev P__wall : List Str := ["k"]
theorem sc__wall : FnScope N__wall P__wall (defScope s__wall) := ⟨rfl, rfl, rfl, by decide +kernel, rfl, by decide +kernel, by decide +kernel⟩
abbrev s_JoinError___init__ : Stmt := (inClass (top 2) 0)
abbrev N_JoinError___init__ : List Str := ["self", "words"]
abbrev P_JoinError___init__ : List Str := ["self", "words"]
theorem sc_JoinError___init__ : FnScope N_JoinError___init__ P_JoinError___init__ (defScope s_JoinError___init__) := ⟨rfl, rfl, rfl, by decide +kernel, rfl, by decide +kernel, by decide +kernel⟩
abbrev s_NoTable___init__ : Stmt := (inClass (top 3) 0)
abbrev N_NoTable___init__ : List Str := ["self", "part", "number"]
abbrev P_NoTable___init__ : List Str := ["self", "part", "number"]
theorem sc_NoTable___init__ : FnScope N_NoTable___init__ P_NoTable___init__ (defScope s_NoTable___init__) := ⟨rfl, rfl, rfl, by decide +kernel, rfl, by decide +kernel, by decide +kernel⟩
abbrev s_NoGrammar___init__ : Stmt := (inClass (top 4) 0)
abbrev N_NoGrammar___init__ : List Str := ["self", "part", "number"]
abbrev P_NoGrammar___init__ : List Str := ["self", "part", "number"]
theorem sc_NoGrammar___init__ : FnScope N_NoGrammar___init__ P_NoGrammar___init__ (defScope s_NoGrammar___init__) := ⟨rfl, rfl, rfl, by decide +kernel, rfl, by decide +kernel, by decide +kernel⟩
abbrev s_NoCutting___init__ : Stmt := (inClass (top 5) 0)
abbrev N_NoCutting___init__ : List Str := ["self", "kind", "place"]
abbrev P_NoCutting___init__ : List Str := ["self", "kind", "place"]
theorem sc_NoCutting___init__ : FnScope N_NoCutting___init__ P_NoCutting___init__ (defScope s_NoCutting___init__) := ⟨rfl, rfl, rfl, by decide +kernel, rfl, by decide +kernel, by decide +kernel⟩
abbrev s_NoSign___init__ : Stmt := (inClass (top 6) 0)
abbrev N_NoSign___init__ : List Str := ["self", "place"]
abbrev P_NoSign___init__ : List Str := ["self", "place"]
theorem sc_NoSign___init__ : FnScope N_NoSign___init__ P_NoSign___init__ (defScope s_NoSign___init__) := ⟨rfl, rfl, rfl, by decide +kernel, rfl, by decide +kernel, by decide +kernel⟩
abbrev s_NoPiece___init__ : Stmt := (inClass (top 7) 0)
abbrev N_NoPiece___init__ : List Str := ["self", "place"]
abbrev P_NoPiece___init__ : List Str := ["self", "place"]
theorem sc_NoPiece___init__ : FnScope N_NoPiece___init__ P_NoPiece___init__ (defScope s_NoPiece___init__) := ⟨rfl, rfl, rfl, by decide +kernel, rfl, by decide +kernel, by decide +kernel⟩
abbrev s_NoNumber___init__ : Stmt := (inClass (top 8) 0)
abbrev N_NoNumber___init__ : List Str := ["self", "place"]
abbrev P_NoNumber___init__ : List Str := ["self", "place"]
theorem sc_NoNumber___init__ : FnScope N_NoNumber___init__ P_NoNumber___init__ (defScope s_NoNumber___init__) := ⟨rfl, rfl, rfl, by decide +kernel, rfl, by decide +kernel, by decide +kernel⟩
abbrev s_NoCount___init__ : Stmt := (inClass (top 9) 0)
abbrev N_NoCount___init__ : List Str := ["self", "number"]
abbrev P_NoCount___init__ : List Str := ["self", "number"]
theorem sc_NoCount___init__ : FnScope N_NoCount___init__ P_NoCount___init__ (defScope s_NoCount___init__) := ⟨rfl, rfl, rfl, by decide +kernel, rfl, by decide +kernel, by decide +kernel⟩
abbrev s_NoText___init__ : Stmt := (inClass (top 10) 0)
abbrev N_NoText___init__ : List Str := ["self", "row"]
abbrev P_NoText___init__ : List Str := ["self", "row"]
theorem sc_NoText___init__ : FnScope N_NoText___init__ P_NoText___init__ (defScope s_NoText___init__) := ⟨rfl, rfl, rfl, by decide +kernel, rfl, by decide +kernel, by decide +kernel⟩
abbrev s_is_whole : Stmt := (top 17)
abbrev N_is_whole : List Str := ["thing"]
abbrev P_is_whole : List Str := ["thing"]
theorem sc_is_whole : FnScope N_is_whole P_is_whole (defScope s_is_whole) := ⟨rfl, rfl, rfl, by decide +kernel, rfl, by decide +kernel, by decide +kernel⟩
abbrev s_is_up_to : Stmt := (top 18)
abbrev N_is_up_to : List Str := ["thing", "most"]
abbrev P_is_up_to : List Str := ["thing", "most"]
theorem sc_is_up_to : FnScope N_is_up_to P_is_up_to (defScope s_is_up_to) := ⟨rfl, rfl, rfl, by decide +kernel, rfl, by decide +kernel, by decide +kernel⟩
abbrev s_check_text : Stmt := (top 20)
abbrev N_check_text : List Str := ["table", "text", "signs", "place", "sign"]
abbrev P_check_text : List Str := ["table", "text"]
theorem sc_check_text : FnScope N_check_text P_check_text (defScope s_check_text) := ⟨rfl, rfl, rfl, by decide +kernel, rfl, by decide +kernel, by decide +kernel⟩
abbrev s_signs_of : Stmt := (top 22)
abbrev N_signs_of : List Str := ["table", "text"]
abbrev P_signs_of : List Str := ["table", "text"]
theorem sc_signs_of : FnScope N_signs_of P_signs_of (defScope s_signs_of) := ⟨rfl, rfl, rfl, by decide +kernel, rfl, by decide +kernel, by decide +kernel⟩
abbrev s_pass_along : Stmt := (top 23)
abbrev N_pass_along : List Str := ["row", "left", "right", "behind", "places", "place", "at", "piece"]
abbrev P_pass_along : List Str := ["row", "left", "right"]
theorem sc_pass_along : FnScope N_pass_along P_pass_along (defScope s_pass_along) := ⟨rfl, rfl, rfl, by decide +kernel, rfl, by decide +kernel, by decide +kernel⟩
abbrev s_pass_all : Stmt := (top 24)
abbrev N_pass_all : List Str := ["row", "rows", "behind", "left", "right"]
abbrev P_pass_all : List Str := ["row", "rows"]
theorem sc_pass_all : FnScope N_pass_all P_pass_all (defScope s_pass_all) := ⟨rfl, rfl, rfl, by decide +kernel, rfl, by decide +kernel, by decide +kernel⟩
abbrev s_swept : Stmt := (top 25)
abbrev N_swept : List Str := ["table", "text"]
abbrev P_swept : List Str := ["table", "text"]
theorem sc_swept : FnScope N_swept P_swept (defScope s_swept) := ⟨rfl, rfl, rfl, by decide +kernel, rfl, by decide +kernel, by decide +kernel⟩
abbrev s_may_be_sign : Stmt := (top 33)
abbrev N_may_be_sign : List Str := ["sign", "code"]
abbrev P_may_be_sign : List Str := ["sign"]
theorem sc_may_be_sign : FnScope N_may_be_sign P_may_be_sign (defScope s_may_be_sign) := ⟨rfl, rfl, rfl, by decide +kernel, rfl, by decide +kernel, by decide +kernel⟩
abbrev s_check_signs : Stmt := (top 34)
abbrev N_check_signs : List Str := ["signs", "place", "sign"]
abbrev P_check_signs : List Str := ["signs"]
theorem sc_check_signs : FnScope N_check_signs P_check_signs (defScope s_check_signs) := ⟨rfl, rfl, rfl, by decide +kernel, rfl, by decide +kernel, by decide +kernel⟩
abbrev s_Table___init__ : Stmt := (inClass (top 35) 0)
abbrev N_Table___init__ : List Str := ["self", "signs", "rows", "sign", "number", "row", "piece"]
abbrev P_Table___init__ : List Str := ["self", "signs", "rows"]
theorem sc_Table___init__ : FnScope N_Table___init__ P_Table___init__ (defScope s_Table___init__) := ⟨rfl, rfl, rfl, by decide +kernel, rfl, by decide +kernel, by decide +kernel⟩
abbrev s_Table_take_piece : Stmt := (inClass (top 35) 1)
abbrev N_Table_take_piece : List Str := ["self", "piece"]
abbrev P_Table_take_piece : List Str := ["self", "piece"]
theorem sc_Table_take_piece : FnScope N_Table_take_piece P_Table_take_piece (defScope s_Table_take_piece) := ⟨rfl, rfl, rfl, by decide +kernel, rfl, by decide +kernel, by decide +kernel⟩
abbrev s_Table_may_take_row : Stmt := (inClass (top 35) 2)
abbrev N_Table_may_take_row : List Str := ["self", "row", "left", "right", "joined"]
abbrev P_Table_may_take_row : List Str := ["self", "row"]
theorem sc_Table_may_take_row : FnScope N_Table_may_take_row P_Table_may_take_row (defScope s_Table_may_take_row) := ⟨rfl, rfl, rfl, by decide +kernel, rfl, by decide +kernel, by decide +kernel⟩
abbrev s_Table_take_row : Stmt := (inClass (top 35) 3)
abbrev N_Table_take_row : List Str := ["self", "row", "left", "right"]
abbrev P_Table_take_row : List Str := ["self", "row"]
theorem sc_Table_take_row : FnScope N_Table_take_row P_Table_take_row (defScope s_Table_take_row) := ⟨rfl, rfl, rfl, by decide +kernel, rfl, by decide +kernel, by decide +kernel⟩
abbrev s_Table_signs : Stmt := (inClass (top 35) 4)
abbrev N_Table_signs : List Str := ["self"]
abbrev P_Table_signs : List Str := ["self"]
theorem sc_Table_signs : FnScope N_Table_signs P_Table_signs (defScope s_Table_signs) := ⟨rfl, rfl, rfl, by decide +kernel, rfl, by decide +kernel, by decide +kernel⟩
abbrev s_Table_rows : Stmt := (inClass (top 35) 5)
abbrev N_Table_rows : List Str := ["self"]
abbrev P_Table_rows : List Str := ["self"]
theorem sc_Table_rows : FnScope N_Table_rows P_Table_rows (defScope s_Table_rows) := ⟨rfl, rfl, rfl, by decide +kernel, rfl, by decide +kernel, by decide +kernel⟩
abbrev s_Table_pieces : Stmt := (inClass (top 35) 6)
abbrev N_Table_pieces : List Str := ["self"]
abbrev P_Table_pieces : List Str := ["self"]
theorem sc_Table_pieces : FnScope N_Table_pieces P_Table_pieces (defScope s_Table_pieces) := ⟨rfl, rfl, rfl, by decide +kernel, rfl, by decide +kernel, by decide +kernel⟩
abbrev s_Table_which : Stmt := (inClass (top 35) 7)
abbrev N_Table_which : List Str := ["self", "thing"]
abbrev P_Table_which : List Str := ["self", "thing"]
theorem sc_Table_which : FnScope N_Table_which P_Table_which (defScope s_Table_which) := ⟨rfl, rfl, rfl, by decide +kernel, rfl, by decide +kernel, by decide +kernel⟩
abbrev s_Table_piece : Stmt := (inClass (top 35) 8)
abbrev N_Table_piece : List Str := ["self", "number"]
abbrev P_Table_piece : List Str := ["self", "number"]
theorem sc_Table_piece : FnScope N_Table_piece P_Table_piece (defScope s_Table_piece) := ⟨rfl, rfl, rfl, by decide +kernel, rfl, by decide +kernel, by decide +kernel⟩
abbrev s_Table_parts : Stmt := (inClass (top 35) 9)
abbrev N_Table_parts : List Str := ["self", "piece", "number"]
abbrev P_Table_parts : List Str := ["self", "piece"]
theorem sc_Table_parts : FnScope N_Table_parts P_Table_parts (defScope s_Table_parts) := ⟨rfl, rfl, rfl, by decide +kernel, rfl, by decide +kernel, by decide +kernel⟩
abbrev s_Table_rank : Stmt := (inClass (top 35) 10)
abbrev N_Table_rank : List Str := ["self", "left", "right"]
abbrev P_Table_rank : List Str := ["self", "left", "right"]
theorem sc_Table_rank : FnScope N_Table_rank P_Table_rank (defScope s_Table_rank) := ⟨rfl, rfl, rfl, by decide +kernel, rfl, by decide +kernel, by decide +kernel⟩
abbrev s_Table_longest : Stmt := (inClass (top 35) 11)
abbrev N_Table_longest : List Str := ["self"]
abbrev P_Table_longest : List Str := ["self"]
theorem sc_Table_longest : FnScope N_Table_longest P_Table_longest (defScope s_Table_longest) := ⟨rfl, rfl, rfl, by decide +kernel, rfl, by decide +kernel, by decide +kernel⟩
abbrev s_renamed : Stmt := (top 37)
abbrev N_renamed : List Str := ["table", "signs", "new_by_old", "rows", "left", "right", "sign"]
abbrev P_renamed : List Str := ["table", "signs"]
theorem sc_renamed : FnScope N_renamed P_renamed (defScope s_renamed) := ⟨rfl, rfl, rfl, by decide +kernel, rfl, by decide +kernel, by decide +kernel⟩
abbrev s__law_cell_at : Stmt := (top 39)
abbrev N__law_cell_at : List Str := ["_law_script", "_law_k"]
abbrev P__law_cell_at : List Str := ["_law_script", "_law_k"]
theorem sc__law_cell_at : FnScope N__law_cell_at P__law_cell_at (defScope s__law_cell_at) := ⟨rfl, rfl, rfl, by decide +kernel, rfl, by decide +kernel, by decide +kernel⟩
abbrev s__law_numbers : Stmt := (top 40)
abbrev N__law_numbers : List Str := ["_law_cell", "_law_salt", "_law_sizes", "_law_number", "_law_left", "_law_found", "_law_k", "_law_one"]
abbrev P__law_numbers : List Str := ["_law_cell", "_law_salt", "_law_sizes"]
theorem sc__law_numbers : FnScope N__law_numbers P__law_numbers (defScope s__law_numbers) := ⟨rfl, rfl, rfl, by decide +kernel, rfl, by decide +kernel, by decide +kernel⟩
abbrev s__law_signs : Stmt := (top 41)
abbrev N__law_signs : List Str := ["_law_digits", "_law_some", "_law_signs_here", "_law_digit", "_law_turned_here", "_law_sign"]
abbrev P__law_signs : List Str := ["_law_digits"]
theorem sc__law_signs : FnScope N__law_signs P__law_signs (defScope s__law_signs) := ⟨rfl, rfl, rfl, by decide +kernel, rfl, by decide +kernel, by decide +kernel⟩
abbrev s__law_rows : Stmt := (top 42)
abbrev N__law_rows : List Str := ["_law_signs_here", "_law_digits", "_law_pieces_here", "_law_rows_here", "_law_k", "_law_one", "_law_other"]
abbrev P__law_rows : List Str := ["_law_signs_here", "_law_digits"]
theorem sc__law_rows : FnScope N__law_rows P__law_rows (defScope s__law_rows) := ⟨rfl, rfl, rfl, by decide +kernel, rfl, by decide +kernel, by decide +kernel⟩
abbrev s__law_table : Stmt := (top 43)
abbrev N__law_table : List Str := ["_law_cell", "_law_salt", "_law_most", "_law_head", "_law_many", "_law_signs_here", "_law_rows_here"]
abbrev P__law_table : List Str := ["_law_cell", "_law_salt", "_law_most"]
theorem sc__law_table : FnScope N__law_table P__law_table (defScope s__law_table) := ⟨rfl, rfl, rfl, by decide +kernel, rfl, by decide +kernel, by decide +kernel⟩
abbrev s__law_cut : Stmt := (top 44)
abbrev N__law_cut : List Str := ["_law_rows_here", "_law_text", "_law_row", "_law_left", "_law_right", "_law_found", "_law_piece"]
abbrev P__law_cut : List Str := ["_law_rows_here", "_law_text"]
theorem sc__law_cut : FnScope N__law_cut P__law_cut (defScope s__law_cut) := ⟨rfl, rfl, rfl, by decide +kernel, rfl, by decide +kernel, by decide +kernel⟩
abbrev s__law_pieces : Stmt := (top 45)
abbrev N__law_pieces : List Str := ["_law_table_here", "_law_left", "_law_right"]
abbrev P__law_pieces : List Str := ["_law_table_here"]
theorem sc__law_pieces : FnScope N__law_pieces P__law_pieces (defScope s__law_pieces) := ⟨rfl, rfl, rfl, by decide +kernel, rfl, by decide +kernel, by decide +kernel⟩
abbrev s__law_words : Stmt := (top 46)
abbrev N__law_words : List Str := ["_law_cell", "_law_salt", "_law_pieces_here", "_law_most", "_law_digits", "_law_digit"]
abbrev P__law_words : List Str := ["_law_cell", "_law_salt", "_law_pieces_here", "_law_most"]
theorem sc__law_words : FnScope N__law_words P__law_words (defScope s__law_words) := ⟨rfl, rfl, rfl, by decide +kernel, rfl, by decide +kernel, by decide +kernel⟩
abbrev s__law_is_table : Stmt := (top 47)
abbrev N__law_is_table : List Str := ["_law_made", "_law_table_here"]
abbrev P__law_is_table : List Str := ["_law_made", "_law_table_here"]
theorem sc__law_is_table : FnScope N__law_is_table P__law_is_table (defScope s__law_is_table) := ⟨rfl, rfl, rfl, by decide +kernel, rfl, by decide +kernel, by decide +kernel⟩
abbrev s__law_refusal : Stmt := (top 48)
abbrev N__law_refusal : List Str := ["_law_error", "_law_kinds", "_law_k"]
abbrev P__law_refusal : List Str := ["_law_error"]
theorem sc__law_refusal : FnScope N__law_refusal P__law_refusal (defScope s__law_refusal) := ⟨rfl, rfl, rfl, by decide +kernel, rfl, by decide +kernel, by decide +kernel⟩
abbrev s__law_seen : Stmt := (top 49)
abbrev N__law_seen : List Str := ["_law_error", "_law_found"]
abbrev P__law_seen : List Str := ["_law_error"]
theorem sc__law_seen : FnScope N__law_seen P__law_seen (defScope s__law_seen) := ⟨rfl, rfl, rfl, by decide +kernel, rfl, by decide +kernel, by decide +kernel⟩
abbrev s__law_due : Stmt := (top 50)
abbrev N__law_due : List Str := ["_law_signs_here", "_law_many", "_law_some", "_law_place", "_law_sign"]
abbrev P__law_due : List Str := ["_law_signs_here", "_law_many"]
theorem sc__law_due : FnScope N__law_due P__law_due (defScope s__law_due) := ⟨rfl, rfl, rfl, by decide +kernel, rfl, by decide +kernel, by decide +kernel⟩
abbrev s__law_bent : Stmt := (top 51)
abbrev N__law_bent : List Str := ["_law_signs_here", "_law_digits", "_law_way", "_law_at", "_law_one", "_law_kind", "_law_sign"]
abbrev P__law_bent : List Str := ["_law_signs_here", "_law_digits"]
theorem sc__law_bent : FnScope N__law_bent P__law_bent (defScope s__law_bent) := ⟨rfl, rfl, rfl, by decide +kernel, rfl, by decide +kernel, by decide +kernel⟩
abbrev s__law_refused : Stmt := (top 52)
abbrev N__law_refused : List Str := ["_law_made", "_law_signs_here", "_law_due_here", "_law_kept", "e"]
abbrev P__law_refused : List Str := ["_law_made", "_law_signs_here", "_law_due_here"]
theorem sc__law_refused : FnScope N__law_refused P__law_refused (defScope s__law_refused) := ⟨rfl, rfl, rfl, by decide +kernel, rfl, by decide +kernel, by decide +kernel⟩
abbrev s__law_turned : Stmt := (top 53)
abbrev N__law_turned : List Str := ["_law_text", "_law_signs_here", "_law_others", "_law_sign"]
abbrev P__law_turned : List Str := ["_law_text", "_law_signs_here", "_law_others"]
theorem sc__law_turned : FnScope N__law_turned P__law_turned (defScope s__law_turned) := ⟨rfl, rfl, rfl, by decide +kernel, rfl, by decide +kernel, by decide +kernel⟩
abbrev s__law_good : Stmt := (top 54)
abbrev N__law_good : List Str := ["_law_made", "_law_table_here", "_law_signs_here", "_law_text", "_law_rows_here", "_law_left", "_law_right", "_law_found", "_law_rank", "_law_row", "_law_due_here", "_law_piece"]
abbrev P__law_good : List Str := ["_law_made", "_law_table_here", "_law_signs_here", "_law_text"]
theorem sc__law_good : FnScope N__law_good P__law_good (defScope s__law_good) := ⟨rfl, rfl, rfl, by decide +kernel, rfl, by decide +kernel, by decide +kernel⟩
abbrev s__law_block : Stmt := (top 55)
abbrev N__law_block : List Str := ["_law_script", "_law_at", "_law_table_here", "_law_many", "_law_digits", "_law_signs_here", "_law_turn", "_law_text", "_law_bent_here", "_law_made", "_law_due_here"]
abbrev P__law_block : List Str := ["_law_script", "_law_at"]
theorem sc__law_block : FnScope N__law_block P__law_block (defScope s__law_block) := ⟨rfl, rfl, rfl, by decide +kernel, rfl, by decide +kernel, by decide +kernel⟩
abbrev s_law : Stmt := (top 56)
abbrev N_law : List Str := ["_law_script", "_law_at"]
abbrev P_law : List Str := ["_law_script"]
theorem sc_law : FnScope N_law P_law (defScope s_law) := ⟨rfl, rfl, rfl, by decide +kernel, rfl, by decide +kernel, by decide +kernel⟩
/-- what the top has written -/
structure Tx (K : PySem.W.Frag) (mg : Str → Option Value) : Prop where
  n_len : mg "len" = none
  n_range : mg "range" = none
  n_max : mg "max" = none
  n_min : mg "min" = none
  n_isinstance : mg "isinstance" = none
  n_str : mg "str" = none
  n_bool : mg "bool" = none
  n_list : mg "list" = none
  n_tuple : mg "tuple" = none
  n_dict : mg "dict" = none
  n_ord : mg "ord" = none
  n_enumerate : mg "enumerate" = none
  n_zip : mg "zip" = none
  n_ValueError : mg "ValueError" = none
  c_MOST_SIGNS : ∃ t, mg "MOST_SIGNS" = some (.int 12 t)
  c_MOST_ROWS : ∃ t, mg "MOST_ROWS" = some (.int 24 t)
  c_MOST_JOINED : ∃ t, mg "MOST_JOINED" = some (.int 16 t)
  c_BLANK_CODE : ∃ t, mg "BLANK_CODE" = some (.int 32 t)
  c_PERCENT_CODE : ∃ t, mg "PERCENT_CODE" = some (.int 37 t)
  c_TILDE_CODE : ∃ t, mg "TILDE_CODE" = some (.int 126 t)
  g_JoinError : mg "JoinError" = some (.ref (He.ga K "JoinError"))
  rd_JoinError : PySem.W.readsIn K (He.ga K "JoinError") (.type "type") = true
  ga_JoinError : PySem.W.specialIn K (.ref (He.ga K "JoinError")) "__getattribute__" = some (some (.builtin "type.__getattribute__"))
  fc_JoinError : PySem.W.findCls K (.ref (He.ga K "JoinError")) (.type "type") "__init__" = some (.val (.ref (He.fAd K ("JoinError", some "__init__"))))
  g_NoTable : mg "NoTable" = some (.ref (He.ga K "NoTable"))
  xc_NoTable : XcC K (He.ga K "NoTable")
  in_NoTable : PySem.W.findIn K (.ref (He.ga K "NoTable")) "__init__" = some (some (.ref (He.fAd K ("NoTable", some "__init__"))))
  it_NoTable : PySem.W.typeIn K (.ref (He.fAd K ("NoTable", some "__init__"))) = some (.type "function")
  no_NoTable_part : PySem.W.findIn K (.ref (He.ga K "NoTable")) "part" = some none
  no_NoTable_number : PySem.W.findIn K (.ref (He.ga K "NoTable")) "number" = some none
  exm_NoTable_JoinError : PySem.W.exmOne K (.ref (He.ga K "NoTable")) (.ref (He.ga K "JoinError")) = some true
  kit_NoTable_JoinError : PySem.W.kitOne K (.ref (He.ga K "NoTable")) (.ref (He.ga K "JoinError")) = some true
  kit_NoTable_NoTable : PySem.W.kitOne K (.ref (He.ga K "NoTable")) (.ref (He.ga K "NoTable")) = some true
  kit_NoTable_NoGrammar : PySem.W.kitOne K (.ref (He.ga K "NoTable")) (.ref (He.ga K "NoGrammar")) = some false
  kit_NoTable_NoCutting : PySem.W.kitOne K (.ref (He.ga K "NoTable")) (.ref (He.ga K "NoCutting")) = some false
  kit_NoTable_NoSign : PySem.W.kitOne K (.ref (He.ga K "NoTable")) (.ref (He.ga K "NoSign")) = some false
  kit_NoTable_NoPiece : PySem.W.kitOne K (.ref (He.ga K "NoTable")) (.ref (He.ga K "NoPiece")) = some false
  kit_NoTable_NoNumber : PySem.W.kitOne K (.ref (He.ga K "NoTable")) (.ref (He.ga K "NoNumber")) = some false
  kit_NoTable_NoCount : PySem.W.kitOne K (.ref (He.ga K "NoTable")) (.ref (He.ga K "NoCount")) = some false
  kit_NoTable_NoText : PySem.W.kitOne K (.ref (He.ga K "NoTable")) (.ref (He.ga K "NoText")) = some false
  kit_NoTable_NoPlace : PySem.W.kitOne K (.ref (He.ga K "NoTable")) (.ref (He.ga K "NoPlace")) = some false
  kit_NoTable_NoLead : PySem.W.kitOne K (.ref (He.ga K "NoTable")) (.ref (He.ga K "NoLead")) = some false
  kit_NoTable_NoDeed : PySem.W.kitOne K (.ref (He.ga K "NoTable")) (.ref (He.ga K "NoDeed")) = some false
  kit_NoTable_NoRow : PySem.W.kitOne K (.ref (He.ga K "NoTable")) (.ref (He.ga K "NoRow")) = some false
  kit_NoTable_NoName : PySem.W.kitOne K (.ref (He.ga K "NoTable")) (.ref (He.ga K "NoName")) = some false
  kit_NoTable_ValueError : PySem.W.kitOne K (.ref (He.ga K "NoTable")) (.type "ValueError") = some true
  g_NoGrammar : mg "NoGrammar" = some (.ref (He.ga K "NoGrammar"))
  g_NoCutting : mg "NoCutting" = some (.ref (He.ga K "NoCutting"))
  g_NoSign : mg "NoSign" = some (.ref (He.ga K "NoSign"))
  g_NoPiece : mg "NoPiece" = some (.ref (He.ga K "NoPiece"))
  g_NoNumber : mg "NoNumber" = some (.ref (He.ga K "NoNumber"))
  g_NoCount : mg "NoCount" = some (.ref (He.ga K "NoCount"))
  g_NoText : mg "NoText" = some (.ref (He.ga K "NoText"))
  g_NoPlace : mg "NoPlace" = some (.ref (He.ga K "NoPlace"))
  g_NoLead : mg "NoLead" = some (.ref (He.ga K "NoLead"))
  g_NoDeed : mg "NoDeed" = some (.ref (He.ga K "NoDeed"))
  g_NoRow : mg "NoRow" = some (.ref (He.ga K "NoRow"))
  g_NoName : mg "NoName" = some (.ref (He.ga K "NoName"))
  g_Table : mg "Table" = some (.ref (He.ga K "Table"))
  cl_Table : Cls K (He.ga K "Table")
  no_Table_sign_text : NoAttr K (He.ga K "Table") "sign_text"
  no_Table_row_list : NoAttr K (He.ga K "Table") "row_list"
  no_Table_piece_list : NoAttr K (He.ga K "Table") "piece_list"
  no_Table_number_by_piece : NoAttr K (He.ga K "Table") "number_by_piece"
  no_Table_rank_by_row : NoAttr K (He.ga K "Table") "rank_by_row"
  no_Table_most_signs : NoAttr K (He.ga K "Table") "most_signs"
  mk_Table : Mk K (He.ga K "Table") (He.fAd K ("Table", some "__init__"))
  m_Table_take_piece : Meth K (He.ga K "Table") "take_piece" (He.fAd K ("Table", some "take_piece"))
  m_Table_may_take_row : Meth K (He.ga K "Table") "may_take_row" (He.fAd K ("Table", some "may_take_row"))
  m_Table_take_row : Meth K (He.ga K "Table") "take_row" (He.fAd K ("Table", some "take_row"))
  m_Table_signs : Meth K (He.ga K "Table") "signs" (He.fAd K ("Table", some "signs"))
  m_Table_rows : Meth K (He.ga K "Table") "rows" (He.fAd K ("Table", some "rows"))
  m_Table_which : Meth K (He.ga K "Table") "which" (He.fAd K ("Table", some "which"))
  m_Table_parts : Meth K (He.ga K "Table") "parts" (He.fAd K ("Table", some "parts"))
  m_Table_rank : Meth K (He.ga K "Table") "rank" (He.fAd K ("Table", some "rank"))
  d_JoinError___init__ : ∃ fd, FunD K "__init__" "JoinError.__init__" (defArgs s_JoinError___init__) (defBody s_JoinError___init__) (defScope s_JoinError___init__) [] [] (He.fAd K ("JoinError", some "__init__")) fd
  d_NoTable___init__ : ∃ fd, FunD K "__init__" "NoTable.__init__" (defArgs s_NoTable___init__) (defBody s_NoTable___init__) (defScope s_NoTable___init__) [] [] (He.fAd K ("NoTable", some "__init__")) fd
  g_check_text : mg "check_text" = some (.ref (He.fAd K ("check_text", none)))
  d_check_text : ∃ fd, FunD K "check_text" "check_text" (defArgs s_check_text) (defBody s_check_text) (defScope s_check_text) [] [] (He.fAd K ("check_text", none)) fd
  g_signs_of : mg "signs_of" = some (.ref (He.fAd K ("signs_of", none)))
  d_signs_of : ∃ fd, FunD K "signs_of" "signs_of" (defArgs s_signs_of) (defBody s_signs_of) (defScope s_signs_of) [] [] (He.fAd K ("signs_of", none)) fd
  g_pass_along : mg "pass_along" = some (.ref (He.fAd K ("pass_along", none)))
  d_pass_along : ∃ fd, FunD K "pass_along" "pass_along" (defArgs s_pass_along) (defBody s_pass_along) (defScope s_pass_along) [] [] (He.fAd K ("pass_along", none)) fd
  g_pass_all : mg "pass_all" = some (.ref (He.fAd K ("pass_all", none)))
  d_pass_all : ∃ fd, FunD K "pass_all" "pass_all" (defArgs s_pass_all) (defBody s_pass_all) (defScope s_pass_all) [] [] (He.fAd K ("pass_all", none)) fd
  g_swept : mg "swept" = some (.ref (He.fAd K ("swept", none)))
  d_swept : ∃ fd, FunD K "swept" "swept" (defArgs s_swept) (defBody s_swept) (defScope s_swept) [] [] (He.fAd K ("swept", none)) fd
  g_may_be_sign : mg "may_be_sign" = some (.ref (He.fAd K ("may_be_sign", none)))
  d_may_be_sign : ∃ fd, FunD K "may_be_sign" "may_be_sign" (defArgs s_may_be_sign) (defBody s_may_be_sign) (defScope s_may_be_sign) [] [] (He.fAd K ("may_be_sign", none)) fd
  g_check_signs : mg "check_signs" = some (.ref (He.fAd K ("check_signs", none)))
  d_check_signs : ∃ fd, FunD K "check_signs" "check_signs" (defArgs s_check_signs) (defBody s_check_signs) (defScope s_check_signs) [] [] (He.fAd K ("check_signs", none)) fd
  d_Table___init__ : ∃ fd, FunD K "__init__" "Table.__init__" (defArgs s_Table___init__) (defBody s_Table___init__) (defScope s_Table___init__) [] [] (He.fAd K ("Table", some "__init__")) fd
  d_Table_take_piece : ∃ fd, FunD K "take_piece" "Table.take_piece" (defArgs s_Table_take_piece) (defBody s_Table_take_piece) (defScope s_Table_take_piece) [] [] (He.fAd K ("Table", some "take_piece")) fd
  d_Table_may_take_row : ∃ fd, FunD K "may_take_row" "Table.may_take_row" (defArgs s_Table_may_take_row) (defBody s_Table_may_take_row) (defScope s_Table_may_take_row) [] [] (He.fAd K ("Table", some "may_take_row")) fd
  d_Table_take_row : ∃ fd, FunD K "take_row" "Table.take_row" (defArgs s_Table_take_row) (defBody s_Table_take_row) (defScope s_Table_take_row) [] [] (He.fAd K ("Table", some "take_row")) fd
  d_Table_signs : ∃ fd, FunD K "signs" "Table.signs" (defArgs s_Table_signs) (defBody s_Table_signs) (defScope s_Table_signs) [] [] (He.fAd K ("Table", some "signs")) fd
  d_Table_rows : ∃ fd, FunD K "rows" "Table.rows" (defArgs s_Table_rows) (defBody s_Table_rows) (defScope s_Table_rows) [] [] (He.fAd K ("Table", some "rows")) fd
  d_Table_which : ∃ fd, FunD K "which" "Table.which" (defArgs s_Table_which) (defBody s_Table_which) (defScope s_Table_which) [] [] (He.fAd K ("Table", some "which")) fd
  d_Table_parts : ∃ fd, FunD K "parts" "Table.parts" (defArgs s_Table_parts) (defBody s_Table_parts) (defScope s_Table_parts) [] [] (He.fAd K ("Table", some "parts")) fd
  d_Table_rank : ∃ fd, FunD K "rank" "Table.rank" (defArgs s_Table_rank) (defBody s_Table_rank) (defScope s_Table_rank) [] [] (He.fAd K ("Table", some "rank")) fd
  g_renamed : mg "renamed" = some (.ref (He.fAd K ("renamed", none)))
  d_renamed : ∃ fd, FunD K "renamed" "renamed" (defArgs s_renamed) (defBody s_renamed) (defScope s_renamed) [] [] (He.fAd K ("renamed", none)) fd
  g__law_cell_at : mg "_law_cell_at" = some (.ref (He.fAd K ("_law_cell_at", none)))
  d__law_cell_at : ∃ fd, FunD K "_law_cell_at" "_law_cell_at" (defArgs s__law_cell_at) (defBody s__law_cell_at) (defScope s__law_cell_at) [] [] (He.fAd K ("_law_cell_at", none)) fd
  g__law_numbers : mg "_law_numbers" = some (.ref (He.fAd K ("_law_numbers", none)))
  d__law_numbers : ∃ fd, FunD K "_law_numbers" "_law_numbers" (defArgs s__law_numbers) (defBody s__law_numbers) (defScope s__law_numbers) [] [] (He.fAd K ("_law_numbers", none)) fd
  g__law_signs : mg "_law_signs" = some (.ref (He.fAd K ("_law_signs", none)))
  d__law_signs : ∃ fd, FunD K "_law_signs" "_law_signs" (defArgs s__law_signs) (defBody s__law_signs) (defScope s__law_signs) [] [] (He.fAd K ("_law_signs", none)) fd
  g__law_rows : mg "_law_rows" = some (.ref (He.fAd K ("_law_rows", none)))
  d__law_rows : ∃ fd, FunD K "_law_rows" "_law_rows" (defArgs s__law_rows) (defBody s__law_rows) (defScope s__law_rows) [] [] (He.fAd K ("_law_rows", none)) fd
  g__law_table : mg "_law_table" = some (.ref (He.fAd K ("_law_table", none)))
  d__law_table : ∃ fd, FunD K "_law_table" "_law_table" (defArgs s__law_table) (defBody s__law_table) (defScope s__law_table) [] [] (He.fAd K ("_law_table", none)) fd
  g__law_cut : mg "_law_cut" = some (.ref (He.fAd K ("_law_cut", none)))
  d__law_cut : ∃ fd, FunD K "_law_cut" "_law_cut" (defArgs s__law_cut) (defBody s__law_cut) (defScope s__law_cut) [] [] (He.fAd K ("_law_cut", none)) fd
  g__law_pieces : mg "_law_pieces" = some (.ref (He.fAd K ("_law_pieces", none)))
  d__law_pieces : ∃ fd, FunD K "_law_pieces" "_law_pieces" (defArgs s__law_pieces) (defBody s__law_pieces) (defScope s__law_pieces) [] [] (He.fAd K ("_law_pieces", none)) fd
  g__law_words : mg "_law_words" = some (.ref (He.fAd K ("_law_words", none)))
  d__law_words : ∃ fd, FunD K "_law_words" "_law_words" (defArgs s__law_words) (defBody s__law_words) (defScope s__law_words) [] [] (He.fAd K ("_law_words", none)) fd
  g__law_is_table : mg "_law_is_table" = some (.ref (He.fAd K ("_law_is_table", none)))
  d__law_is_table : ∃ fd, FunD K "_law_is_table" "_law_is_table" (defArgs s__law_is_table) (defBody s__law_is_table) (defScope s__law_is_table) [] [] (He.fAd K ("_law_is_table", none)) fd
  g__law_refusal : mg "_law_refusal" = some (.ref (He.fAd K ("_law_refusal", none)))
  d__law_refusal : ∃ fd, FunD K "_law_refusal" "_law_refusal" (defArgs s__law_refusal) (defBody s__law_refusal) (defScope s__law_refusal) [] [] (He.fAd K ("_law_refusal", none)) fd
  g__law_seen : mg "_law_seen" = some (.ref (He.fAd K ("_law_seen", none)))
  d__law_seen : ∃ fd, FunD K "_law_seen" "_law_seen" (defArgs s__law_seen) (defBody s__law_seen) (defScope s__law_seen) [] [] (He.fAd K ("_law_seen", none)) fd
  g__law_due : mg "_law_due" = some (.ref (He.fAd K ("_law_due", none)))
  d__law_due : ∃ fd, FunD K "_law_due" "_law_due" (defArgs s__law_due) (defBody s__law_due) (defScope s__law_due) [] [] (He.fAd K ("_law_due", none)) fd
  g__law_bent : mg "_law_bent" = some (.ref (He.fAd K ("_law_bent", none)))
  d__law_bent : ∃ fd, FunD K "_law_bent" "_law_bent" (defArgs s__law_bent) (defBody s__law_bent) (defScope s__law_bent) [] [] (He.fAd K ("_law_bent", none)) fd
  g__law_refused : mg "_law_refused" = some (.ref (He.fAd K ("_law_refused", none)))
  d__law_refused : ∃ fd, FunD K "_law_refused" "_law_refused" (defArgs s__law_refused) (defBody s__law_refused) (defScope s__law_refused) [] [] (He.fAd K ("_law_refused", none)) fd
  g__law_turned : mg "_law_turned" = some (.ref (He.fAd K ("_law_turned", none)))
  d__law_turned : ∃ fd, FunD K "_law_turned" "_law_turned" (defArgs s__law_turned) (defBody s__law_turned) (defScope s__law_turned) [] [] (He.fAd K ("_law_turned", none)) fd
  g__law_good : mg "_law_good" = some (.ref (He.fAd K ("_law_good", none)))
  d__law_good : ∃ fd, FunD K "_law_good" "_law_good" (defArgs s__law_good) (defBody s__law_good) (defScope s__law_good) [] [] (He.fAd K ("_law_good", none)) fd
  g__law_block : mg "_law_block" = some (.ref (He.fAd K ("_law_block", none)))
  d__law_block : ∃ fd, FunD K "_law_block" "_law_block" (defArgs s__law_block) (defBody s__law_block) (defScope s__law_block) [] [] (He.fAd K ("_law_block", none)) fd
  g_law : mg "law" = some (.ref (He.fAd K ("law", none)))
  d_law : ∃ fd, FunD K "law" "law" (defArgs s_law) (defBody s_law) (defScope s_law) [] [] (He.fAd K ("law", none)) fd
end Jr
namespace Jr
open PySem PySem.Spec PyProof.Rows L2
def exs (K : PySem.W.Frag) : List Bool := [PySem.W.readsIn K (He.ga K "JoinError") (.type "type"),
  decide (PySem.W.specialIn K (.ref (He.ga K "JoinError")) "__getattribute__" = some (some (.builtin "type.__getattribute__"))),
  fcB K (He.ga K "JoinError") (He.fAd K ("JoinError", some "__init__")),
  xcB K (He.ga K "NoTable"),
  decide (PySem.W.findIn K (.ref (He.ga K "NoTable")) "__init__" = some (some (.ref (He.fAd K ("NoTable", some "__init__"))))),
  decide (PySem.W.typeIn K (.ref (He.fAd K ("NoTable", some "__init__"))) = some (.type "function")),
  decide (PySem.W.findIn K (.ref (He.ga K "NoTable")) "part" = some none),
  decide (PySem.W.findIn K (.ref (He.ga K "NoTable")) "number" = some none),
  decide (PySem.W.exmOne K (.ref (He.ga K "NoTable")) (.ref (He.ga K "JoinError")) = some true),
  decide (PySem.W.kitOne K (.ref (He.ga K "NoTable")) (.ref (He.ga K "JoinError")) = some true),
  decide (PySem.W.kitOne K (.ref (He.ga K "NoTable")) (.ref (He.ga K "NoTable")) = some true),
  decide (PySem.W.kitOne K (.ref (He.ga K "NoTable")) (.ref (He.ga K "NoGrammar")) = some false),
  decide (PySem.W.kitOne K (.ref (He.ga K "NoTable")) (.ref (He.ga K "NoCutting")) = some false),
  decide (PySem.W.kitOne K (.ref (He.ga K "NoTable")) (.ref (He.ga K "NoSign")) = some false),
  decide (PySem.W.kitOne K (.ref (He.ga K "NoTable")) (.ref (He.ga K "NoPiece")) = some false),
  decide (PySem.W.kitOne K (.ref (He.ga K "NoTable")) (.ref (He.ga K "NoNumber")) = some false),
  decide (PySem.W.kitOne K (.ref (He.ga K "NoTable")) (.ref (He.ga K "NoCount")) = some false),
  decide (PySem.W.kitOne K (.ref (He.ga K "NoTable")) (.ref (He.ga K "NoText")) = some false),
  decide (PySem.W.kitOne K (.ref (He.ga K "NoTable")) (.ref (He.ga K "NoPlace")) = some false),
  decide (PySem.W.kitOne K (.ref (He.ga K "NoTable")) (.ref (He.ga K "NoLead")) = some false),
  decide (PySem.W.kitOne K (.ref (He.ga K "NoTable")) (.ref (He.ga K "NoDeed")) = some false),
  decide (PySem.W.kitOne K (.ref (He.ga K "NoTable")) (.ref (He.ga K "NoRow")) = some false),
  decide (PySem.W.kitOne K (.ref (He.ga K "NoTable")) (.ref (He.ga K "NoName")) = some false),
  decide (PySem.W.kitOne K (.ref (He.ga K "NoTable")) (.type "ValueError") = some true)]
theorem exAt {l : List Bool} {i : Nat} {b : Bool} (h : l.all id = true) (e : l[i]? = some b) : b = true := List.all_eq_true.mp h b (List.mem_of_getElem? e)
def fa : List He.Fa := [.free "len",
  .free "range",
  .free "max",
  .free "min",
  .free "isinstance",
  .free "str",
  .free "bool",
  .free "list",
  .free "tuple",
  .free "dict",
  .free "ord",
  .free "enumerate",
  .free "zip",
  .free "ValueError",
  .int "MOST_SIGNS" 12,
  .int "MOST_ROWS" 24,
  .int "MOST_JOINED" 16,
  .int "BLANK_CODE" 32,
  .int "PERCENT_CODE" 37,
  .int "TILDE_CODE" 126,
  .glo "JoinError",
  .glo "NoTable",
  .glo "NoGrammar",
  .glo "NoCutting",
  .glo "NoSign",
  .glo "NoPiece",
  .glo "NoNumber",
  .glo "NoCount",
  .glo "NoText",
  .glo "NoPlace",
  .glo "NoLead",
  .glo "NoDeed",
  .glo "NoRow",
  .glo "NoName",
  .glo "Table",
  .cls "Table",
  .noat "Table" "sign_text",
  .noat "Table" "row_list",
  .noat "Table" "piece_list",
  .noat "Table" "number_by_piece",
  .noat "Table" "rank_by_row",
  .noat "Table" "most_signs",
  .mkr "Table",
  .meth "Table" "take_piece",
  .meth "Table" "may_take_row",
  .meth "Table" "take_row",
  .meth "Table" "signs",
  .meth "Table" "rows",
  .meth "Table" "which",
  .meth "Table" "parts",
  .meth "Table" "rank",
  .glo "check_text",
  .glo "signs_of",
  .glo "pass_along",
  .glo "pass_all",
  .glo "swept",
  .glo "may_be_sign",
  .glo "check_signs",
  .glo "renamed",
  .glo "_law_cell_at",
  .glo "_law_numbers",
  .glo "_law_signs",
  .glo "_law_rows",
  .glo "_law_table",
  .glo "_law_cut",
  .glo "_law_pieces",
  .glo "_law_words",
  .glo "_law_is_table",
  .glo "_law_refusal",
  .glo "_law_seen",
  .glo "_law_due",
  .glo "_law_bent",
  .glo "_law_refused",
  .glo "_law_turned",
  .glo "_law_good",
  .glo "_law_block",
  .glo "law"]
def fn : List He.DefD := [⟨("JoinError", some "__init__"), "__init__", "JoinError.__init__", defArgs s_JoinError___init__, defBody s_JoinError___init__, defScope s_JoinError___init__, [], []⟩,
  ⟨("NoTable", some "__init__"), "__init__", "NoTable.__init__", defArgs s_NoTable___init__, defBody s_NoTable___init__, defScope s_NoTable___init__, [], []⟩,
  ⟨("check_text", none), "check_text", "check_text", defArgs s_check_text, defBody s_check_text, defScope s_check_text, [], []⟩,
  ⟨("signs_of", none), "signs_of", "signs_of", defArgs s_signs_of, defBody s_signs_of, defScope s_signs_of, [], []⟩,
  ⟨("pass_along", none), "pass_along", "pass_along", defArgs s_pass_along, defBody s_pass_along, defScope s_pass_along, [], []⟩,
  ⟨("pass_all", none), "pass_all", "pass_all", defArgs s_pass_all, defBody s_pass_all, defScope s_pass_all, [], []⟩,
  ⟨("swept", none), "swept", "swept", defArgs s_swept, defBody s_swept, defScope s_swept, [], []⟩,
  ⟨("may_be_sign", none), "may_be_sign", "may_be_sign", defArgs s_may_be_sign, defBody s_may_be_sign, defScope s_may_be_sign, [], []⟩,
  ⟨("check_signs", none), "check_signs", "check_signs", defArgs s_check_signs, defBody s_check_signs, defScope s_check_signs, [], []⟩,
  ⟨("Table", some "__init__"), "__init__", "Table.__init__", defArgs s_Table___init__, defBody s_Table___init__, defScope s_Table___init__, [], []⟩,
  ⟨("Table", some "take_piece"), "take_piece", "Table.take_piece", defArgs s_Table_take_piece, defBody s_Table_take_piece, defScope s_Table_take_piece, [], []⟩,
  ⟨("Table", some "may_take_row"), "may_take_row", "Table.may_take_row", defArgs s_Table_may_take_row, defBody s_Table_may_take_row, defScope s_Table_may_take_row, [], []⟩,
  ⟨("Table", some "take_row"), "take_row", "Table.take_row", defArgs s_Table_take_row, defBody s_Table_take_row, defScope s_Table_take_row, [], []⟩,
  ⟨("Table", some "signs"), "signs", "Table.signs", defArgs s_Table_signs, defBody s_Table_signs, defScope s_Table_signs, [], []⟩,
  ⟨("Table", some "rows"), "rows", "Table.rows", defArgs s_Table_rows, defBody s_Table_rows, defScope s_Table_rows, [], []⟩,
  ⟨("Table", some "which"), "which", "Table.which", defArgs s_Table_which, defBody s_Table_which, defScope s_Table_which, [], []⟩,
  ⟨("Table", some "parts"), "parts", "Table.parts", defArgs s_Table_parts, defBody s_Table_parts, defScope s_Table_parts, [], []⟩,
  ⟨("Table", some "rank"), "rank", "Table.rank", defArgs s_Table_rank, defBody s_Table_rank, defScope s_Table_rank, [], []⟩,
  ⟨("renamed", none), "renamed", "renamed", defArgs s_renamed, defBody s_renamed, defScope s_renamed, [], []⟩,
  ⟨("_law_cell_at", none), "_law_cell_at", "_law_cell_at", defArgs s__law_cell_at, defBody s__law_cell_at, defScope s__law_cell_at, [], []⟩,
  ⟨("_law_numbers", none), "_law_numbers", "_law_numbers", defArgs s__law_numbers, defBody s__law_numbers, defScope s__law_numbers, [], []⟩,
  ⟨("_law_signs", none), "_law_signs", "_law_signs", defArgs s__law_signs, defBody s__law_signs, defScope s__law_signs, [], []⟩,
  ⟨("_law_rows", none), "_law_rows", "_law_rows", defArgs s__law_rows, defBody s__law_rows, defScope s__law_rows, [], []⟩,
  ⟨("_law_table", none), "_law_table", "_law_table", defArgs s__law_table, defBody s__law_table, defScope s__law_table, [], []⟩,
  ⟨("_law_cut", none), "_law_cut", "_law_cut", defArgs s__law_cut, defBody s__law_cut, defScope s__law_cut, [], []⟩,
  ⟨("_law_pieces", none), "_law_pieces", "_law_pieces", defArgs s__law_pieces, defBody s__law_pieces, defScope s__law_pieces, [], []⟩,
  ⟨("_law_words", none), "_law_words", "_law_words", defArgs s__law_words, defBody s__law_words, defScope s__law_words, [], []⟩,
  ⟨("_law_is_table", none), "_law_is_table", "_law_is_table", defArgs s__law_is_table, defBody s__law_is_table, defScope s__law_is_table, [], []⟩,
  ⟨("_law_refusal", none), "_law_refusal", "_law_refusal", defArgs s__law_refusal, defBody s__law_refusal, defScope s__law_refusal, [], []⟩,
  ⟨("_law_seen", none), "_law_seen", "_law_seen", defArgs s__law_seen, defBody s__law_seen, defScope s__law_seen, [], []⟩,
  ⟨("_law_due", none), "_law_due", "_law_due", defArgs s__law_due, defBody s__law_due, defScope s__law_due, [], []⟩,
  ⟨("_law_bent", none), "_law_bent", "_law_bent", defArgs s__law_bent, defBody s__law_bent, defScope s__law_bent, [], []⟩,
  ⟨("_law_refused", none), "_law_refused", "_law_refused", defArgs s__law_refused, defBody s__law_refused, defScope s__law_refused, [], []⟩,
  ⟨("_law_turned", none), "_law_turned", "_law_turned", defArgs s__law_turned, defBody s__law_turned, defScope s__law_turned, [], []⟩,
  ⟨("_law_good", none), "_law_good", "_law_good", defArgs s__law_good, defBody s__law_good, defScope s__law_good, [], []⟩,
  ⟨("_law_block", none), "_law_block", "_law_block", defArgs s__law_block, defBody s__law_block, defScope s__law_block, [], []⟩,
  ⟨("law", none), "law", "law", defArgs s_law, defBody s_law, defScope s_law, [], []⟩]

abbrev RR : PySem.W.OpenRow := PySem.W.OpenLaw.row PySem.Challenge.rw_joinranks_k63_renamed
def loose : List PySem.Str := (["_wall", "JoinError", "NoTable", "NoGrammar", "NoCutting", "NoSign", "NoPiece", "NoNumber", "NoCount", "NoText", "NoPlace", "NoLead", "NoDeed", "NoRow", "NoName", "is_whole", "is_up_to", "check_text", "signs_of", "pass_along", "pass_all", "swept", "MOST_SIGNS", "MOST_ROWS", "MOST_JOINED", "BLANK_CODE", "PERCENT_CODE", "TILDE_CODE", "may_be_sign", "check_signs"] : List PySem.Str) ++ (["Table", "renamed", "_law_cell_at", "_law_numbers", "_law_signs", "_law_rows", "_law_table", "_law_cut", "_law_pieces", "_law_words", "_law_is_table", "_law_refusal", "_law_seen", "_law_due", "_law_bent", "_law_refused", "_law_turned", "_law_good", "_law_block"] : List PySem.Str)
abbrev hk : PySem.W.Hook := hookC 4 fa fn (fun K => (exs K).all id)
def ob (s : PySem.W.SharedT) : He.AlX := obsC 4 fa fn (fun K => (exs K).all id) (HandSHeadRun.getT s)
theorem ob_eq (s : PySem.W.SharedT) : ob s = hk.obs s.abs := obsC_eq (HandSHeadRun.getT_eq s)
theorem run (w : World) : HandSHeadRun.RunEq RR (PySem.W.view RR.prog [56]) hk ob 8000 loose w := by
  intro os
  kernel_rfl
end Jr
namespace Jr
open PySem PySem.Spec PyProof.Rows L2
/-! ### lists of flat things: == -/
def fdV : V → PyData
  | .bl b => .bool b
  | .int i => .int i
  | .str s => .str s
  | _ => .none
def Fl : V → Prop
  | .non => True
  | .bl _ => True
  | .int _ => True
  | .str s => Asc s
  | _ => False
section
variable {K : PySem.W.Frag} {H : Hp}
theorem dpFl {v : V} (h : Fl v) : Dp K H v (fdV v) := by
  cases v with
  | non => exact .non
  | bl b => exact .bl b
  | int i => exact .int i
  | str s => exact .str s
  | _ => exact h.elim
theorem dpAFl : ∀ {xs : List V}, (∀ x ∈ xs, Fl x) → DpAll K H xs (xs.map fdV)
  | [], _ => .nil
  | x :: xs, h => .cons (dpFl (h x List.mem_cons_self)) (dpAFl fun y hy => h y (List.mem_cons_of_mem _ hy))
theorem dpL {a : Addr} {xs : List V} (h : SqL K H a xs) (f : ∀ x ∈ xs, Fl x) : Dp K H (.ref a) (.list (xs.map fdV)) := .lst h (dpAFl f)
theorem dpT {a : Addr} {xs : List V} (h : SqT K H a xs) (f : ∀ x ∈ xs, Fl x) : Dp K H (.ref a) (.tuple (xs.map fdV)) := .tup h (dpAFl f)
end
theorem lay_fl {v : V} (h : Fl v) : PyData.canLay0 (fdV v) = true := by
  cases v with
  | str s => exact asc_ok h
  | non => rfl
  | bl b => rfl
  | int i => rfl
  | _ => exact h.elim
theorem layA_fl : ∀ {xs : List V}, (∀ x ∈ xs, Fl x) → PyData.canLayAll0 (xs.map fdV) = true
  | [], _ => by simp [PyData.canLayAll0]
  | x :: xs, h => by
    have h1 := lay_fl (h x List.mem_cons_self)
    have h2 := layA_fl fun y hy => h y (List.mem_cons_of_mem _ hy)
    simp [PyData.canLayAll0, h1, h2]
theorem dep_fl (v : V) : PyData.depth (fdV v) = 0 := by cases v <;> rfl
theorem depA_fl : ∀ xs : List V, PyData.depthAll (xs.map fdV) = 0
  | [] => by simp [PyData.depthAll]
  | x :: xs => by simp [PyData.depthAll, dep_fl, depA_fl xs]
theorem shL {xs : List V} (h : ∀ x ∈ xs, Fl x) : SeqAt.shaped (.list (xs.map fdV)) = true := by
  unfold SeqAt.shaped
  have h1 : PyData.canLay0 (.list (xs.map fdV)) = true := by simp [PyData.canLay0, layA_fl h]
  have h2 : PyData.depth (.list (xs.map fdV)) = 1 := by simp [PyData.depth, depA_fl]
  rw [h1, h2]; rfl
theorem shT {xs : List V} (h : ∀ x ∈ xs, Fl x) : SeqAt.shaped (.tuple (xs.map fdV)) = true := by
  unfold SeqAt.shaped
  have h1 : PyData.canLay0 (.tuple (xs.map fdV)) = true := by simp [PyData.canLay0, layA_fl h]
  have h2 : PyData.depth (.tuple (xs.map fdV)) = 1 := by simp [PyData.depth, depA_fl]
  rw [h1, h2]; rfl
theorem eqL {xs : List V} (h : ∀ x ∈ xs, Fl x) : PyData.eqv (.list (xs.map fdV)) (.list (xs.map fdV)) = true := SeqAt.eqv_refl _ (by simp [PyData.canLay0, layA_fl h])
theorem eqT {xs : List V} (h : ∀ x ∈ xs, Fl x) : PyData.eqv (.tuple (xs.map fdV)) (.tuple (xs.map fdV)) = true := SeqAt.eqv_refl _ (by simp [PyData.canLay0, layA_fl h])
/-! ### comprehensions over enumerate(text) -/
section
variable {g : TG} {tt : TT} {te : TE} {vs : List Nat} {σ : L2.St} {H1 : Hp} {D : Addr} {Qd : Hp → Prop}
def enL (x : Str) (p : Nat → Nat → Bool) (f : Nat → Nat → V) (n : Nat) : List V := ((x.cps.toList.zipIdx.take n).filter fun q => p q.2 q.1).map fun q => f q.2 q.1
theorem lc_enumSM {x : Str} {p : Nat → Nat → Bool} {f : Nat → Nat → V} (hD : H1 D = none) (hlen : x.cps.toList.length ≤ 100000)
    (turn : ∀ i c, x.cps.toList[i]? = some c → ∀ (H' : Hp) (T : Addr), Same H1 H' → H' T = some (.tup [.int (i : Nat), .str (sgn c)]) → ∀ (N : Hp → Prop) (M : V → Hp → Prop), (p i c = true → M (f i c) H') → (p i c = false → N H') →
      g (.ref T) (wipe σ vs) H' fun σ2 H2 => wipe σ2 vs = wipe σ vs ∧ tt σ2 H2 fun b H3 => if b = true then te σ2 H3 M else N H3)
    (hd : ∀ H, Same H1 H → H D = some (.lst (enL x p f x.cps.toList.length)) → Qd H) :
    ∃ W : Nat → Nat → Hp → Prop, (∃ m, W 0 m (upd H1 D (.lst []))) ∧ ∀ i m H, W i m H →
      ((Ites x).stop i H ∧ Qd H) ∨ ((Ites x).go i H ∧ ∃ Nx : Hp → Prop, (∀ H', Nx H' → ∃ m', m' < m ∧ W (i + 1) m' H') ∧ ∀ y H', (Ites x).yld i H y H' → g y (wipe σ vs) H' fun σ2 H2 => wipe σ2 vs = wipe σ vs ∧ tt σ2 H2 fun b H3 =>
        if b = true then te σ2 H3 fun y H4 => ∃ acc, H4 D = some (.lst acc) ∧ acc.length < sizeLine ∧ Nx (upd H4 D (.lst (acc ++ [y]))) else Nx H3) := by
  have es : x.cps.toList.length = x.cps.size := by simp
  refine ⟨fun i m H => m = x.cps.size - i ∧ i ≤ x.cps.size ∧ Same H1 H ∧ H D = some (.lst (enL x p f i)), ⟨x.cps.size, by simp, Nat.zero_le _, Same.new hD, upd_same⟩, ?_⟩
  rintro i m H ⟨rfl, hi, sm, hL⟩
  by_cases hlt : i < x.cps.size
  · refine .inr ⟨hlt, (fun H' => Same H1 H' ∧ H' D = some (.lst (enL x p f (i + 1)))), fun H' p' => ⟨x.cps.size - (i + 1), by omega, rfl, hlt, p'⟩, fun y H' z => ?_⟩
    obtain ⟨T, c, rfl, hT, hc, rfl⟩ := z
    have hc' : x.cps.toList[i]? = some c := by rw [Array.getElem?_toList]; exact hc
    have hz : x.cps.toList.zipIdx[i]? = some (c, i) := by rw [List.getElem?_zipIdx, hc']; simp
    have e : x.cps.toList.zipIdx.take (i + 1) = x.cps.toList.zipIdx.take i ++ [(c, i)] := by rw [List.take_add_one, hz]; rfl
    have tD : T ≠ D := fun z => by rw [z, hL] at hT; cases hT
    have hL2 := Same.new (o := .tup [.int (i : Nat), .str (sgn c)]) hT _ _ hL
    refine turn i c hc' _ T (Same.put sm hT) upd_same _ _ (fun hp => ⟨_, hL2, ?_, Same.mut (Same.put sm hT) hD, ?_⟩) (fun hp => ⟨Same.put sm hT, ?_⟩)
    · unfold enL
      have h1 : ((x.cps.toList.zipIdx.take i).filter fun q => p q.2 q.1).length ≤ (x.cps.toList.zipIdx.take i).length := List.length_filter_le ..
      have h2 : (x.cps.toList.zipIdx.take i).length ≤ i := by rw [List.length_take]; omega
      rw [List.length_map]
      exact szl (by omega)
    · rw [upd_same]
      unfold enL
      rw [e, List.filter_append, List.map_append]
      simp [hp]
    · rw [hL2]
      unfold enL
      rw [e, List.filter_append, List.map_append]
      simp [hp]
  · have e : i = x.cps.size := by omega
    subst e
    exact .inl ⟨Nat.le_refl _, hd H sm (by rw [es]; exact hL)⟩
theorem enL_first (x : Str) (P : Nat → Bool) : (enL x (fun _ c => P c) (fun i _ => V.int (i : Nat)) x.cps.toList.length).take 1 = (x.cps.toList.findIdx? P).toList.map fun i => V.int (i : Nat) := by
  unfold enL
  have e0 : x.cps.toList.zipIdx.take x.cps.toList.length = x.cps.toList.zipIdx := List.take_of_length_le (by rw [List.length_zipIdx]; exact Nat.le_refl _)
  rw [e0]
  have key : ∀ (l : List Nat) (k : Nat), (((l.zipIdx k).filter fun q => P q.1).map fun q => V.int ((q.2 : Nat) : Int)).take 1 = (l.findIdx? P).toList.map fun i => V.int ((i + k : Nat) : Int) := fun l => by
    induction l with
    | nil => intro k; rfl
    | cons c l ih =>
      intro k
      rw [List.zipIdx_cons, List.filter_cons, List.findIdx?_cons]
      by_cases h : P c = true
      · rw [if_pos h, if_pos h]
        simp
      · rw [if_neg h, if_neg h, ih (k + 1)]
        cases l.findIdx? P with
        | none => rfl
        | some j =>
          show [V.int ((j + (k + 1) : Nat) : Int)] = [V.int ((j + 1 + k : Nat) : Int)]
          rw [show j + (k + 1) = j + 1 + k by omega]
  have := key x.cps.toList 0
  simpa using this
end
end Jr
namespace Jr
open PySem PySem.Spec PyProof.Rows L2
/-! ### deep data: what == reads, and its depth -/
section
variable {K : PySem.W.Frag} {H H' : Hp}
theorem sqT_same' {a : Addr} {xs : List V} (s : Same H H') (h : SqT K H a xs) : SqT K H' a xs := by
  rcases h with (h | ⟨o, h⟩) | h
  · exact .inl (.inl (s _ _ h))
  · exact .inl (.inr ⟨o, s _ _ h⟩)
  · exact .inr h
mutual
theorem dp_same (s : Same H H') : ∀ (d : PyData) (v : V), Dp K H v d → Dp K H' v d
  | .none, _, h => by cases h; exact .non
  | .bool b, _, h => by cases h; exact .bl b
  | .int i, _, h => by cases h; exact .int i
  | .str x, _, h => by cases h; exact .str x
  | .list ds, _, h => by cases h with | lst g t => exact .lst (s.seq g) (dpA_same s ds _ t)
  | .tuple ds, _, h => by cases h with | tup g t => exact .tup (sqT_same' s g) (dpA_same s ds _ t)
  | .dict _, _, h => by cases h
theorem dpA_same (s : Same H H') : ∀ (ds : List PyData) (vs : List V), DpAll K H vs ds → DpAll K H' vs ds
  | [], _, h => by cases h; exact .nil
  | d :: ds, _, h => by cases h with | cons g t => exact .cons (dp_same s d _ g) (dpA_same s ds _ t)
end
/-- v is d to ==, at most n deep -/
structure Ly (K : PySem.W.Frag) (H : Hp) (n : Nat) (v : V) (d : PyData) : Prop where
  dp : Dp K H v d
  lay : PyData.canLay0 d = true
  dep : PyData.depth d ≤ n
structure LyA (K : PySem.W.Frag) (H : Hp) (n : Nat) (vs : List V) (ds : List PyData) : Prop where
  dp : DpAll K H vs ds
  lay : PyData.canLayAll0 ds = true
  dep : PyData.depthAll ds ≤ n
theorem Ly.same {n : Nat} {v : V} {d : PyData} (h : Ly K H n v d) (s : Same H H') : Ly K H' n v d := ⟨dp_same s _ _ h.dp, h.lay, h.dep⟩
theorem LyA.same {n : Nat} {v : List V} {d : List PyData} (h : LyA K H n v d) (s : Same H H') : LyA K H' n v d := ⟨dpA_same s _ _ h.dp, h.lay, h.dep⟩
theorem Ly.mono {n m : Nat} {v : V} {d : PyData} (h : Ly K H n v d) (l : n ≤ m) : Ly K H m v d := ⟨h.dp, h.lay, Nat.le_trans h.dep l⟩
theorem LyA.mono {n m : Nat} {v : List V} {d : List PyData} (h : LyA K H n v d) (l : n ≤ m) : LyA K H m v d := ⟨h.dp, h.lay, Nat.le_trans h.dep l⟩
theorem Ly.fl {v : V} (h : Fl v) : Ly K H 0 v (fdV v) := ⟨dpFl h, lay_fl h, by rw [dep_fl]; exact Nat.le_refl _⟩
theorem LyA.nil {n : Nat} : LyA K H n [] [] := ⟨.nil, by simp [PyData.canLayAll0], by simp [PyData.depthAll]⟩
theorem LyA.cons {n : Nat} {v : V} {vs : List V} {d : PyData} {ds : List PyData} (h : Ly K H n v d) (t : LyA K H n vs ds) : LyA K H n (v :: vs) (d :: ds) :=
  ⟨.cons h.dp t.dp, by simp [PyData.canLayAll0, h.lay, t.lay], by simp only [PyData.depthAll]; exact Nat.max_le.mpr ⟨h.dep, t.dep⟩⟩
theorem LyA.fl {n : Nat} : ∀ {xs : List V}, (∀ x ∈ xs, Fl x) → LyA K H n xs (xs.map fdV)
  | [], _ => .nil
  | x :: xs, h => .cons ((Ly.fl (h x List.mem_cons_self)).mono (Nat.zero_le _)) (LyA.fl fun y hy => h y (List.mem_cons_of_mem _ hy))
theorem LyA.app {n : Nat} : ∀ {vs ws : List V} {ds es : List PyData}, LyA K H n vs ds → LyA K H n ws es → LyA K H n (vs ++ ws) (ds ++ es)
  | [], ws, ds, es, h, g => by
    have hd := h.dp
    cases ds with
    | nil => exact g
    | cons => cases hd
  | v :: vs, ws, ds, es, h, g => by
    have hd := h.dp
    cases hd with
    | @cons _ _ d ds' a b =>
      have hl := h.lay
      simp only [PyData.canLayAll0, Bool.and_eq_true] at hl
      have hp := h.dep
      simp only [PyData.depthAll] at hp
      exact .cons ⟨a, hl.1, Nat.le_trans (Nat.le_max_left _ _) hp⟩ (LyA.app ⟨b, hl.2, Nat.le_trans (Nat.le_max_right _ _) hp⟩ g)
theorem Ly.lst {n : Nat} {a : Addr} {us : List V} {ds : List PyData} (h : SqL K H a us) (t : LyA K H n us ds) : Ly K H (n + 1) (.ref a) (.list ds) :=
  ⟨.lst h t.dp, by simp [PyData.canLay0, t.lay], by simp only [PyData.depth]; have := t.dep; omega⟩
theorem Ly.tup {n : Nat} {a : Addr} {us : List V} {ds : List PyData} (h : SqT K H a us) (t : LyA K H n us ds) : Ly K H (n + 1) (.ref a) (.tuple ds) :=
  ⟨.tup h t.dp, by simp [PyData.canLay0, t.lay], by simp only [PyData.depth]; have := t.dep; omega⟩
theorem Ly.sh {n : Nat} {v : V} {d : PyData} (h : Ly K H n v d) (l : n ≤ 64 := by decide) : SeqAt.shaped d = true := by
  unfold SeqAt.shaped
  rw [h.lay, decide_eq_true (Nat.le_trans h.dep l)]
  rfl
theorem Ly.eqv {n : Nat} {v : V} {d : PyData} (h : Ly K H n v d) : PyData.eqv d d = true := SeqAt.eqv_refl _ h.lay
theorem Ly.strs {a : Addr} {xs : List Str} (h : SqL K H a (xs.map V.str)) (f : ∀ x ∈ xs, Asc x) : Ly K H 1 (.ref a) (.list ((xs.map V.str).map fdV)) :=
  .lst h (.fl fun x hx => by
    obtain ⟨y, hy, rfl⟩ := List.mem_map.mp hx
    exact f y hy)
end
end Jr
namespace Jr
open PySem PySem.Spec PyProof.Rows L2
/-! ### what stands in a row on the way was made of its own signs alone -/
theorem pass1_split (l r : Str) : ∀ (xs A B : List Str), pass1 l r xs = A ++ B → ∃ XA XB, xs = XA ++ XB ∧ pass1 l r XA = A ∧ pass1 l r XB = B
  | xs, [], B, h => ⟨[], xs, rfl, pass1_nil l r, h⟩
  | [], a :: A, B, h => by rw [pass1_nil] at h; cases h
  | [x], a :: A, B, h => by
    rw [pass1_one] at h
    have h1 : x = a ∧ [] = A ++ B := by simpa using h
    obtain ⟨rfl, h2⟩ := h1
    obtain ⟨rfl, rfl⟩ := List.append_eq_nil_iff.mp h2.symm
    exact ⟨[x], [], rfl, pass1_one l r x, pass1_nil l r⟩
  | x :: y :: t, a :: A, B, h => by
    by_cases c : x = l ∧ y = r
    · obtain ⟨rfl, rfl⟩ := c
      rw [pass1_yes, List.cons_append] at h
      obtain ⟨e1, e2⟩ := List.cons.inj h
      obtain ⟨XA, XB, e3, e4, e5⟩ := pass1_split x y t A B e2
      exact ⟨x :: y :: XA, XB, by rw [e3]; rfl, by rw [pass1_yes, e4, e1], e5⟩
    · rw [pass1_no t c, List.cons_append] at h
      obtain ⟨e1, e2⟩ := List.cons.inj h
      obtain ⟨XA, XB, e3, e4, e5⟩ := pass1_split l r (y :: t) A B e2
      refine ⟨x :: XA, XB, by rw [e3]; rfl, ?_, e5⟩
      cases XA with
      | nil => rw [pass1_nil] at e4; rw [pass1_one, ← e4, e1]
      | cons y' t' =>
        rw [List.cons_append] at e3
        obtain ⟨e6, _⟩ := List.cons.inj e3
        rw [pass1_no t' (fun z => c ⟨z.1, e6.trans z.2⟩), e4, e1]
termination_by xs => xs.length
theorem passAll_split : ∀ (rs : Rws) (xs A B : List Str), passAll rs xs = A ++ B → ∃ XA XB, xs = XA ++ XB ∧ passAll rs XA = A ∧ passAll rs XB = B
  | [], _, A, B, h => ⟨A, B, h, rfl, rfl⟩
  | r :: rs, xs, A, B, h => by
    obtain ⟨YA, YB, e1, e2, e3⟩ := passAll_split rs (pass1 r.1 r.2 xs) A B h
    obtain ⟨XA, XB, e4, e5, e6⟩ := pass1_split r.1 r.2 xs YA YB e1
    refine ⟨XA, XB, e4, ?_, ?_⟩
    · show passAll rs (pass1 r.1 r.2 XA) = A
      rw [e5, e2]
    · show passAll rs (pass1 r.1 r.2 XB) = B
      rw [e6, e3]
theorem passAll_one : ∀ (rs : Rws) (p : Str), passAll rs [p] = [p]
  | [], _ => rfl
  | r :: rs, p => by
    show passAll rs (pass1 r.1 r.2 [p]) = _
    rw [pass1_one, passAll_one rs p]
theorem passAll_app (a b : Rws) (xs : List Str) : passAll (a ++ b) xs = passAll b (passAll a xs) := List.foldl_append
theorem passAll_cut (rs : Rws) (n : Nat) (xs : List Str) : passAll rs xs = passAll (rs.drop n) (passAll (rs.take n) xs) := by
  rw [← passAll_app, List.take_append_drop]
theorem flat_map_sgn (cs : List Nat) : flat (cs.map sgn) = cs := by
  unfold flat
  rw [List.flatMap_map]
  induction cs with
  | nil => rfl
  | cons c l ih => rw [List.flatMap_cons, ih]; rfl
/-- signs that a row of passes makes into p are p's signs -/
theorem sgs_back {rs : Rws} {cs : List Nat} {p : Str} (h : passAll rs (cs.map sgn) = [p]) : cs.map sgn = sgs p := by
  have e := passAll_flat rs (cs.map sgn)
  rw [h, flat_map_sgn] at e
  have e2 : flat [p] = p.cps.toList := by rw [flat_cons]; simp [flat]
  rw [e2] at e
  unfold sgs
  rw [e]
theorem way_split {rs : Rws} {t : Str} {A B : List Str} (h : passAll rs (sgs t) = A ++ B) : ∃ ca cb : List Nat, t.cps.toList = ca ++ cb ∧ passAll rs (ca.map sgn) = A ∧ passAll rs (cb.map sgn) = B := by
  obtain ⟨XA, XB, e1, e2, e3⟩ := passAll_split rs _ A B h
  unfold sgs at e1
  obtain ⟨ca, cb, e4, e5, e6⟩ := List.map_eq_append_iff.mp e1
  exact ⟨ca, cb, e4, by rw [e5, e2], by rw [e6, e3]⟩
theorem way_alone {rs : Rws} {t p : Str} (h : p ∈ passAll rs (sgs t)) : passAll rs (sgs p) = [p] := by
  obtain ⟨A, B, e⟩ := List.append_of_mem h
  obtain ⟨XA, X, e1, _, e2⟩ := passAll_split rs _ A (p :: B) e
  obtain ⟨XP, XB, e3, e4, _⟩ := passAll_split rs X [p] B e2
  rw [e3] at e1
  unfold sgs at e1
  obtain ⟨c1, c2, _, _, e5⟩ := List.map_eq_append_iff.mp e1
  obtain ⟨c3, c4, _, e6, _⟩ := List.map_eq_append_iff.mp e5
  rw [← e6] at e4
  rw [← sgs_back e4, e4]
theorem on_way_alone {rs : Rws} {t p : Str} {n : Nat} (h : p ∈ passAll (rs.take n) (sgs t)) : sweep rs p = [p] := by
  unfold sweep
  rw [passAll_cut rs n, way_alone h, passAll_one]
/-- a piece that stands alone and is no sign was made by a row, of its two parts -/
theorem made_by {rs : Rws} {t : Str} (ht : 2 ≤ t.length) : ∀ n, n ≤ rs.length → passAll (rs.take n) (sgs t) = [t] → ∃ j r, rs[j]? = some r ∧ j < n ∧ passAll (rs.take j) (sgs t) = [r.1, r.2] ∧ jn r = t := fun n => by
  induction n with
  | zero =>
    intro _ h
    have h2 : sgs t = [t] := h
    have := congrArg List.length h2
    rw [sgs_len] at this
    simp at this
    omega
  | succ n ih =>
    intro hn h
    have hx : rs[n]? = some rs[n] := List.getElem?_eq_getElem (by omega)
    rw [passAll_take _ hx] at h
    generalize hX : passAll (rs.take n) (sgs t) = X at h
    match X, h with
    | [], h => rw [pass1_nil] at h; cases h
    | [x], h =>
      rw [pass1_one] at h
      rw [h] at hX
      obtain ⟨j, r, h1, h2, h3⟩ := ih (by omega) hX
      exact ⟨j, r, h1, by omega, h3⟩
    | x :: y :: u, h =>
      by_cases c : x = rs[n].1 ∧ y = rs[n].2
      · obtain ⟨rfl, rfl⟩ := c
        rw [pass1_yes] at h
        obtain ⟨e1, e2⟩ := List.cons.inj h
        have e3 : u = [] := by
          by_cases c : u = []
          · exact c
          · exact absurd e2 (pass1_ne _ _ u c)
        subst e3
        exact ⟨n, rs[n], hx, by omega, hX, e1⟩
      · rw [pass1_no u c] at h
        obtain ⟨e1, e2⟩ := List.cons.inj h
        exact absurd e2 (pass1_ne _ _ (y :: u) (by simp))
theorem TabOk.jn_inj {z : Str} {rs : Rws} (T : TabOk z rs) {i j : Nat} {a b : Str × Str} (ha : rs[i]? = some a) (hb : rs[j]? = some b) (e : jn a = jn b) : i = j := by
  have key : ∀ {i j : Nat} {a b : Str × Str}, rs[i]? = some a → rs[j]? = some b → jn a = jn b → ¬ i < j := fun {i j a b} ha hb e h => by
    refine (T.rows j b hb).new ?_
    rw [← e]
    refine List.mem_append_right _ (List.mem_map.mpr ⟨a, ?_, rfl⟩)
    have : (rs.take j)[i]? = some a := by rw [List.getElem?_take, if_pos h, ha]
    exact List.mem_of_getElem? this
  have h1 := key ha hb e
  have h2 := key hb ha e.symm
  omega
theorem parts_alone {z : Str} {rs : Rws} (T : TabOk z rs) {i : Nat} {l r : Str} (hi : rs[i]? = some (l, r)) (h : sweep rs (l ++ r) = [l ++ r]) : sweep rs l = [l] ∧ sweep rs r = [r] := by
  have ro := T.rows i _ hi
  have l1 := ((T.take i).plen ro.lm).1
  have l2 := ((T.take i).plen ro.rm).1
  have l1 : 1 ≤ l.length := l1
  have l2 : 1 ≤ r.length := l2
  have la := app_len l r
  have h' : passAll (rs.take rs.length) (sgs (l ++ r)) = [l ++ r] := by rw [List.take_length]; exact h
  obtain ⟨j, q, h1, _, h2, h3⟩ := made_by (by omega) rs.length (Nat.le_refl _) h'
  have e : i = j := T.jn_inj hi h1 (show l ++ r = jn q from h3.symm)
  subst e
  rw [hi] at h1
  cases h1
  refine ⟨on_way_alone (n := i) (t := l ++ r) ?_, on_way_alone (n := i) (t := l ++ r) ?_⟩
  · rw [h2]; exact List.mem_cons_self
  · rw [h2]; exact List.mem_cons_of_mem _ List.mem_cons_self
end Jr
namespace Jr
open PySem PySem.Spec PyProof.Rows L2
/-! ### comprehensions whose test and element may make new things: a filter and a map -/
section
variable {α : Type} {item : α → V} {p : α → Bool} {f : α → V} {g : TG} {tt : TT} {te : TE} {vs : List Nat} {σ : L2.St} {H1 : Hp} {D : Addr} {Qd : Hp → Prop}
/-- one turn of such a comprehension -/
def LcTurnC (item : α → V) (p : α → Bool) (f : α → V) (g : TG) (tt : TT) (te : TE) (vs : List Nat) (σ : L2.St) (H1 : Hp) (x : α) : Prop :=
  ∀ (H' : Hp), Same H1 H' → ∀ (N : Hp → Prop) (M : V → Hp → Prop), (p x = true → ∀ H2, Same H' H2 → M (f x) H2) → (p x = false → ∀ H2, Same H' H2 → N H2) →
    g (item x) (wipe σ vs) H' fun σ2 H2 => wipe σ2 vs = wipe σ vs ∧ tt σ2 H2 fun b H3 => if b = true then te σ2 H3 M else N H3
theorem lc_stepC {l : List α} {i : Nat} {x : α} {H : Hp} (hD : H1 D = none) (hx : l[i]? = some x) (hlen : l.length ≤ 100000) (turn : LcTurnC item p f g tt te vs σ H1 x)
    (sm : Same H1 H) (hL : H D = some (.lst (((l.take i).filter p).map f))) :
    g (item x) (wipe σ vs) H fun σ2 H2 => wipe σ2 vs = wipe σ vs ∧ tt σ2 H2 fun b H3 =>
      if b = true then te σ2 H3 fun y H4 => ∃ acc, H4 D = some (.lst acc) ∧ acc.length < sizeLine ∧ (fun H' => Same H1 H' ∧ H' D = some (.lst (((l.take (i + 1)).filter p).map f))) (upd H4 D (.lst (acc ++ [y])))
      else (fun H' => Same H1 H' ∧ H' D = some (.lst (((l.take (i + 1)).filter p).map f))) H3 := by
  have e : l.take (i + 1) = l.take i ++ [x] := by rw [List.take_add_one, hx]; rfl
  refine turn H sm _ _ (fun hp H2 s2 => ?_) (fun hp H2 s2 => ?_)
  · refine ⟨_, s2 _ _ hL, ?_, Same.mut (sm.trans s2) hD, ?_⟩
    · have h1 : ((l.take i).filter p).length ≤ (l.take i).length := List.length_filter_le ..
      have h2 : (l.take i).length ≤ i := by rw [List.length_take]; omega
      have h3 : i < l.length := (List.getElem?_eq_some_iff.mp hx).1
      rw [List.length_map]
      exact szl (by omega)
    · rw [upd_same, e, List.filter_append, List.map_append]
      simp [hp]
  · refine ⟨sm.trans s2, ?_⟩
    rw [s2 _ _ hL, e, List.filter_append, List.map_append]
    simp [hp]
theorem lc_listC {K : PySem.W.Frag} {a : Addr} {l : List α} (hS : SqL K H1 a (l.map item)) (hD : H1 D = none) (hlen : l.length ≤ 100000) (turn : ∀ x ∈ l, LcTurnC item p f g tt te vs σ H1 x)
    (hd : ∀ H, Same H1 H → H D = some (.lst ((l.filter p).map f)) → Qd H) :
    ∃ W : Nat → Nat → Hp → Prop, (∃ m, W 0 m (upd H1 D (.lst []))) ∧ ∀ i m H, W i m H →
      ((Itl K a).stop i H ∧ Qd H) ∨ ((Itl K a).go i H ∧ ∃ Nx : Hp → Prop, (∀ H', Nx H' → ∃ m', m' < m ∧ W (i + 1) m' H') ∧ ∀ x H', (Itl K a).yld i H x H' → g x (wipe σ vs) H' fun σ2 H2 => wipe σ2 vs = wipe σ vs ∧ tt σ2 H2 fun b H3 =>
        if b = true then te σ2 H3 fun y H4 => ∃ acc, H4 D = some (.lst acc) ∧ acc.length < sizeLine ∧ Nx (upd H4 D (.lst (acc ++ [y]))) else Nx H3) := by
  refine lc_list (K := K) (a := a) (xs := l.map item) (fun i H => Same H1 H ∧ H D = some (.lst (((l.take i).filter p).map f))) ⟨Same.new hD, upd_same⟩ (fun i H _ ⟨s, _⟩ => s.seq hS) ?_ ?_
  · rintro i x H hx ⟨sm, hL⟩
    rw [List.getElem?_map] at hx
    cases e : l[i]? with
    | none => rw [e] at hx; cases hx
    | some y =>
      rw [e] at hx
      cases hx
      exact lc_stepC hD e hlen (turn y (List.mem_of_getElem? e)) sm hL
  · rintro H ⟨sm, hL⟩
    rw [List.length_map, List.take_length] at hL
    exact hd H sm hL
end
end Jr
namespace Jr
open PySem PySem.Spec PyProof.Rows L2
/-! ### comprehensions whose elements are told by a relation that holds without the list that grows -/
/-- the heap without one object -/
def hide (H : Hp) (D : Addr) : Hp := fun b => if b = D then none else H b
theorem hide_same (H : Hp) (D : Addr) : Same (hide H D) H := fun b x h => by
  unfold hide at h
  by_cases c : b = D
  · rw [if_pos c] at h; cases h
  · rw [if_neg c] at h; exact h
theorem hide_of {H : Hp} {D b : Addr} {x : HO} (h : H b = some x) (n : b ≠ D) : hide H D b = some x := by
  unfold hide
  rw [if_neg n]; exact h
theorem hide_step {H H' : Hp} {D : Addr} (s : Same H H') : Same (hide H D) (hide H' D) := fun b x h => by
  unfold hide at h
  by_cases c : b = D
  · rw [if_pos c] at h; cases h
  · rw [if_neg c] at h; exact hide_of (s _ _ h) c
theorem hide_upd (H : Hp) (D : Addr) (o : HO) : hide (upd H D o) D = hide H D := by
  funext b
  unfold hide
  by_cases c : b = D
  · rw [if_pos c, if_pos c]
  · rw [if_neg c, if_neg c, upd_ne c]
theorem hide_new {H H' : Hp} {D : Addr} (n : H D = none) (s : Same H H') : Same H (hide H' D) := fun b x h => hide_of (s _ _ h) fun e => by rw [e, n] at h; cases h
/-- what stands in the heap behind, but was not there ahead, is none of what was there -/
theorem hide_fresh {H H' : Hp} {a : Addr} {x : HO} (n : H a = none) (h : H' a = some x) : ∀ D, H D ≠ none → hide H' D a = some x := fun D hD => hide_of h fun e => hD (e ▸ n)
section
variable {α : Type} {item : α → V} {p : α → Bool} {R : α → V → Hp → Prop} {g : TG} {tt : TT} {te : TE} {vs : List Nat} {σ : L2.St} {H1 : Hp} {D : Addr} {Qd : Hp → Prop}
def LcTurnY (item : α → V) (p : α → Bool) (R : α → V → Hp → Prop) (g : TG) (tt : TT) (te : TE) (vs : List Nat) (σ : L2.St) (H1 : Hp) (x : α) : Prop :=
  ∀ (H' : Hp), Same H1 H' → ∀ (N : Hp → Prop) (M : V → Hp → Prop), (p x = true → ∀ v H2, Same H' H2 → (∀ D, H' D ≠ none → R x v (hide H2 D)) → M v H2) → (p x = false → ∀ H2, Same H' H2 → N H2) →
    g (item x) (wipe σ vs) H' fun σ2 H2 => wipe σ2 vs = wipe σ vs ∧ tt σ2 H2 fun b H3 => if b = true then te σ2 H3 M else N H3
def YSo (p : α → Bool) (R : α → V → Hp → Prop) (H1 : Hp) (D : Addr) (l : List α) (H : Hp) : Prop := Same H1 H ∧ ∃ us, H D = some (.lst us) ∧ Paired (fun v x => R x v (hide H D)) us (l.filter p)
theorem lc_stepY (hR : ∀ x v H H', Same H H' → R x v H → R x v H') {l : List α} {i : Nat} {x : α} {H : Hp} (hD : H1 D = none) (hx : l[i]? = some x) (hlen : l.length ≤ 90000) (turn : LcTurnY item p R g tt te vs σ H1 x)
    (hp : YSo p R H1 D (l.take i) H) :
    g (item x) (wipe σ vs) H fun σ2 H2 => wipe σ2 vs = wipe σ vs ∧ tt σ2 H2 fun b H3 =>
      if b = true then te σ2 H3 fun y H4 => ∃ acc, H4 D = some (.lst acc) ∧ acc.length < sizeLine ∧ YSo p R H1 D (l.take (i + 1)) (upd H4 D (.lst (acc ++ [y])))
      else YSo p R H1 D (l.take (i + 1)) H3 := by
  obtain ⟨sm, us, hL, hP⟩ := hp
  have e : l.take (i + 1) = l.take i ++ [x] := by rw [List.take_add_one, hx]; rfl
  refine turn H sm _ _ (fun px v H2 s2 hv => ?_) (fun px H2 s2 => ?_)
  · refine ⟨us, s2 _ _ hL, ?_, Same.mut (sm.trans s2) hD, us ++ [v], upd_same, ?_⟩
    · have h1 := Paired.len hP
      have h2 : ((l.take i).filter p).length ≤ (l.take i).length := List.length_filter_le ..
      have h3 : (l.take i).length ≤ i := by rw [List.length_take]; omega
      have h4 : i < l.length := (List.getElem?_eq_some_iff.mp hx).1
      exact szl (by omega)
    · rw [e, List.filter_append, hide_upd]
      have ef : [x].filter p = [x] := by simp [px]
      rw [ef]
      refine Paired.app (L2.Paired.mapP hP fun w y hw => hR _ _ _ _ (hide_step s2) hw) (.cons (hv D (fun z => by rw [hL] at z; cases z)) .nil)
  · refine ⟨sm.trans s2, us, s2 _ _ hL, ?_⟩
    have ef : [x].filter p = [] := by simp [px]
    rw [e, List.filter_append, ef, List.append_nil]
    exact L2.Paired.mapP hP fun w y hw => hR _ _ _ _ (hide_step s2) hw
theorem lc_listY {K : PySem.W.Frag} {a : Addr} {l : List α} (hR : ∀ x v H H', Same H H' → R x v H → R x v H') (hS : SqL K H1 a (l.map item)) (hD : H1 D = none) (hlen : l.length ≤ 90000) (turn : ∀ x ∈ l, LcTurnY item p R g tt te vs σ H1 x)
    (hd : ∀ H us, Same H1 H → H D = some (.lst us) → Paired (fun v x => R x v (hide H D)) us (l.filter p) → Qd H) :
    ∃ W : Nat → Nat → Hp → Prop, (∃ m, W 0 m (upd H1 D (.lst []))) ∧ ∀ i m H, W i m H →
      ((Itl K a).stop i H ∧ Qd H) ∨ ((Itl K a).go i H ∧ ∃ Nx : Hp → Prop, (∀ H', Nx H' → ∃ m', m' < m ∧ W (i + 1) m' H') ∧ ∀ x H', (Itl K a).yld i H x H' → g x (wipe σ vs) H' fun σ2 H2 => wipe σ2 vs = wipe σ vs ∧ tt σ2 H2 fun b H3 =>
        if b = true then te σ2 H3 fun y H4 => ∃ acc, H4 D = some (.lst acc) ∧ acc.length < sizeLine ∧ Nx (upd H4 D (.lst (acc ++ [y]))) else Nx H3) := by
  refine lc_list (K := K) (a := a) (xs := l.map item) (fun i H => YSo p R H1 D (l.take i) H) ⟨Same.new hD, [], upd_same, .nil⟩ (fun i H _ ⟨s, _⟩ => s.seq hS) ?_ ?_
  · rintro i x H hx hp
    rw [List.getElem?_map] at hx
    cases e : l[i]? with
    | none => rw [e] at hx; cases hx
    | some y =>
      rw [e] at hx
      cases hx
      exact lc_stepY hR hD e hlen (turn y (List.mem_of_getElem? e)) hp
  · rintro H ⟨sm, us, hL, hP⟩
    rw [List.length_map, List.take_length] at hP
    exact hd H us sm hL hP
end
section
variable {p : Nat → Bool} {R : Nat → V → Hp → Prop} {g : TG} {tt : TT} {te : TE} {vs : List Nat} {σ : L2.St} {H1 : Hp} {D : Addr} {Qd : Hp → Prop}
theorem lc_rangeY {lo : Int} {n : Nat} (hR : ∀ x v H H', Same H H' → R x v H → R x v H') (hD : H1 D = none) (hlen : n ≤ 90000) (turn : ∀ i, i < n → LcTurnY (fun i : Nat => V.int (lo + i)) p R g tt te vs σ H1 i)
    (hd : ∀ H us, Same H1 H → H D = some (.lst us) → Paired (fun v x => R x v (hide H D)) us ((List.range n).filter p) → Qd H) :
    ∃ W : Nat → Nat → Hp → Prop, (∃ m, W 0 m (upd H1 D (.lst []))) ∧ ∀ i m H, W i m H →
      ((Itr lo n).stop i H ∧ Qd H) ∨ ((Itr lo n).go i H ∧ ∃ Nx : Hp → Prop, (∀ H', Nx H' → ∃ m', m' < m ∧ W (i + 1) m' H') ∧ ∀ y H', (Itr lo n).yld i H y H' → g y (wipe σ vs) H' fun σ2 H2 => wipe σ2 vs = wipe σ vs ∧ tt σ2 H2 fun b H3 =>
        if b = true then te σ2 H3 fun y H4 => ∃ acc, H4 D = some (.lst acc) ∧ acc.length < sizeLine ∧ Nx (upd H4 D (.lst (acc ++ [y]))) else Nx H3) := by
  refine lc_range (lo := lo) (n := n) (fun i H => YSo p R H1 D ((List.range n).take i) H) ⟨Same.new hD, [], upd_same, .nil⟩ ?_ ?_
  · rintro i H hi hp
    exact lc_stepY (item := fun i : Nat => V.int (lo + i)) hR (l := List.range n) hD (by rw [List.getElem?_range hi]) (by rw [List.length_range]; exact hlen) (turn i hi) hp
  · rintro H ⟨sm, us, hL, hP⟩
    have e : (List.range n).take n = List.range n := by
      have := List.take_length (l := List.range n)
      rw [List.length_range] at this
      exact this
    rw [e] at hP
    exact hd H us sm hL hP
end
/-- the heap told of a list of new rows -/
theorem paired_hide {α : Type} {R : α → V → Hp → Prop} {H : Hp} {D : Addr} (hR : ∀ x v H H', Same H H' → R x v H → R x v H') {us : List V} {l : List α} (h : Paired (fun v x => R x v (hide H D)) us l) : Paired (fun v x => R x v H) us l := L2.Paired.mapP h fun _ _ q => hR _ _ _ _ (hide_same H D) q
theorem filt_true {α : Type} (l : List α) : l.filter (fun _ => true) = l := List.filter_eq_self.mpr fun _ _ => rfl
end Jr
namespace Jr
open PySem PySem.Spec PyProof.Rows L2
/-! ### what falls at a border, and when -/
theorem getLast_cons {α : Type} {a : α} : ∀ {xs : List α}, xs ≠ [] → (a :: xs).getLast? = xs.getLast?
  | [], h => absurd rfl h
  | _ :: _, _ => List.getLast?_cons_cons
/-- a pass over two rows side by side: the border falls just where the pass of the first leaves l last and the second begins with r -/
theorem pass1_app {l r : Str} (hr : 1 ≤ r.length) : ∀ (A B : List Str), A ≠ [] →
    pass1 l r (A ++ B) = if (pass1 l r A).getLast? = some l ∧ B.head? = some r then (pass1 l r A).dropLast ++ (l ++ r) :: pass1 l r B.tail else pass1 l r A ++ pass1 l r B
  | [], _, h => absurd rfl h
  | [a], [], _ => by
    rw [List.append_nil, pass1_one, if_neg (by simp), pass1_nil, List.append_nil]
  | [a], b :: B, _ => by
    show pass1 l r (a :: b :: B) = _
    rw [pass1_one]
    by_cases c : a = l ∧ b = r
    · obtain ⟨rfl, rfl⟩ := c
      rw [pass1_yes, if_pos ⟨rfl, rfl⟩]; rfl
    · rw [pass1_no B c, if_neg (fun z => c ⟨Option.some.inj z.1, Option.some.inj z.2⟩)]; rfl
  | a :: b :: t, B, _ => by
    by_cases c : a = l ∧ b = r
    · obtain ⟨rfl, rfl⟩ := c
      show pass1 a b (a :: b :: (t ++ B)) = _
      rw [pass1_yes, pass1_yes]
      by_cases e : t = []
      · subst e
        rw [pass1_nil, if_neg (fun z => app_ne hr (Option.some.inj z.1))]; rfl
      · have ne := pass1_ne a b t e
        rw [pass1_app hr t B e, getLast_cons ne, List.dropLast_cons_of_ne_nil ne]
        by_cases c2 : (pass1 a b t).getLast? = some a ∧ B.head? = some b
        · rw [if_pos c2, if_pos c2]; rfl
        · rw [if_neg c2, if_neg c2]; rfl
    · show pass1 l r (a :: b :: (t ++ B)) = _
      rw [pass1_no _ c, pass1_no _ c]
      have ne := pass1_ne l r (b :: t) (by simp)
      have ih := pass1_app (l := l) hr (b :: t) B (by simp)
      rw [List.cons_append] at ih
      rw [ih, getLast_cons ne, List.dropLast_cons_of_ne_nil ne]
      by_cases c2 : (pass1 l r (b :: t)).getLast? = some l ∧ B.head? = some r
      · rw [if_pos c2, if_pos c2]; rfl
      · rw [if_neg c2, if_neg c2]; rfl
termination_by A => A.length
theorem plc_ge (l r : Str) : ∀ (n : Nat) (X : List Str) (m : Nat), m ∈ plc l r n X → n + l.length ≤ m
  | n, [], m, h => by unfold plc at h; cases h
  | n, [a], m, h => by unfold plc at h; cases h
  | n, a :: b :: t, m, h => by
    rw [plc] at h
    by_cases c : a = l ∧ b = r
    · rw [if_pos c] at h
      rcases List.mem_cons.mp h with e | e
      · rw [e, c.1]; exact Nat.le_refl _
      · have := plc_ge l r _ t m e
        omega
    · rw [if_neg c] at h
      have := plc_ge l r _ (b :: t) m h
      omega
termination_by _ X => X.length
theorem flat_clen (x : Str) (xs : List Str) : (flat (x :: xs)).length = x.length + (flat xs).length := by
  rw [flat_cons, List.length_append, len_cps]
theorem plc_app {l r : Str} (hl : 1 ≤ l.length) (hr : 1 ≤ r.length) : ∀ (n : Nat) (A B : List Str), A ≠ [] →
    (n + (flat A).length ∈ plc l r n (A ++ B) ↔ (pass1 l r A).getLast? = some l ∧ B.head? = some r)
  | _, [], _, h => absurd rfl h
  | n, [a], [], _ => by
    rw [List.append_nil]
    unfold plc
    simp
  | n, [a], b :: B, _ => by
    show _ ∈ plc l r n (a :: b :: B) ↔ _
    rw [pass1_one, plc, flat_clen]
    have f0 : (flat ([] : List Str)).length = 0 := rfl
    rw [f0]
    by_cases c : a = l ∧ b = r
    · obtain ⟨rfl, rfl⟩ := c
      rw [if_pos ⟨rfl, rfl⟩]
      exact ⟨fun _ => ⟨rfl, rfl⟩, fun _ => List.mem_cons_self⟩
    · rw [if_neg c]
      refine ⟨fun h => ?_, fun z => absurd ⟨Option.some.inj z.1, Option.some.inj z.2⟩ c⟩
      have := plc_ge l r _ _ _ h
      omega
  | n, a :: b :: t, B, _ => by
    by_cases c : a = l ∧ b = r
    · obtain ⟨rfl, rfl⟩ := c
      show _ ∈ plc a b n (a :: b :: (t ++ B)) ↔ _
      rw [plc, if_pos ⟨rfl, rfl⟩, pass1_yes, flat_clen, flat_clen]
      have e1 : n + (a.length + (b.length + (flat t).length)) = n + a.length + b.length + (flat t).length := by omega
      have ne1 : ¬ n + a.length + b.length + (flat t).length = n + a.length := by omega
      rw [e1]
      by_cases e : t = []
      · subst e
        rw [pass1_nil]
        refine ⟨fun h => ?_, fun z => absurd (Option.some.inj z.1) (app_ne hr)⟩
        rcases List.mem_cons.mp h with h | h
        · exact absurd h ne1
        · have := plc_ge a b _ _ _ h
          have f0 : (flat ([] : List Str)).length = 0 := rfl
          rw [f0] at this
          omega
      · rw [getLast_cons (pass1_ne a b t e), ← plc_app hl hr (n + a.length + b.length) t B e]
        exact ⟨fun h => (List.mem_cons.mp h).resolve_left ne1, fun h => List.mem_cons_of_mem _ h⟩
    · show _ ∈ plc l r n (a :: b :: (t ++ B)) ↔ _
      rw [plc, if_neg c, pass1_no t c, getLast_cons (pass1_ne l r (b :: t) (by simp)), ← plc_app hl hr (n + a.length) (b :: t) B (by simp), flat_clen]
      have e1 : n + (a.length + (flat (b :: t)).length) = n + a.length + (flat (b :: t)).length := by omega
      rw [e1]
      exact Iff.rfl
termination_by _ A => A.length
/-- where a border falls it is gone -/
theorem gone {l r : Str} (hl : 1 ≤ l.length) (hr : 1 ≤ r.length) {A B : List Str} (hA : A ≠ []) (h : (flat A).length ∈ plc l r 0 (A ++ B)) {Y Z : List Str} (e : pass1 l r (A ++ B) = Y ++ Z) : (flat Y).length ≠ (flat A).length := fun el => by
  obtain ⟨XA, XB, e1, e2, e3⟩ := pass1_split l r _ Y Z e
  have eA : (flat XA).length = (flat A).length := by rw [← el, ← e2, pass1_flat]
  have nX : XA ≠ [] := fun z => by
    have h2 := plc_ge l r 0 _ _ h
    rw [z] at eA
    have f0 : (flat ([] : List Str)).length = 0 := rfl
    rw [f0] at eA
    omega
  have h1 : 0 + (flat XA).length ∈ plc l r 0 (XA ++ XB) := by rw [Nat.zero_add, eA, ← e1]; exact h
  have c := (plc_app hl hr 0 XA XB nX).mp h1
  have p := pass1_app hr XA XB nX (l := l)
  rw [if_pos c, ← e1, e, ← e2, ← e3] at p
  have ne := pass1_ne l r XA nX
  have pl : 0 < (pass1 l r XA).length := List.length_pos_iff.mpr ne
  have z1 := congrArg (fun L : List Str => L[(pass1 l r XA).length - 1]?) p
  rw [List.getElem?_append_left (by omega), List.getElem?_append_right (by rw [List.length_dropLast]; omega), List.length_dropLast, Nat.sub_self] at z1
  rw [← List.getLast?_eq_getElem?, c.1] at z1
  have z2 : l = l ++ r := by simpa using z1
  exact app_ne hr z2.symm
/-- what is not fallen stays two rows side by side -/
theorem stays {l r : Str} (hl : 1 ≤ l.length) (hr : 1 ≤ r.length) {A B : List Str} (hA : A ≠ []) (h : ¬ (flat A).length ∈ plc l r 0 (A ++ B)) : pass1 l r (A ++ B) = pass1 l r A ++ pass1 l r B := by
  have e := plc_app hl hr 0 A B hA
  rw [Nat.zero_add] at e
  rw [pass1_app hr A B hA, if_neg (fun z => h (e.mpr z))]
/-- the rank at which the border at m falls -/
def metR : Nat → Rws → List Str → Nat → Option Nat
  | _, [], _, _ => none
  | k, q :: rs, X, m => if m ∈ plc q.1 q.2 0 X then some k else metR (k + 1) rs (pass1 q.1 q.2 X) m
def PosR (rs : Rws) : Prop := ∀ q ∈ rs, 1 ≤ q.1.length ∧ 1 ≤ q.2.length
theorem split_back {q : Str × Str} {rs : Rws} (hl : 1 ≤ q.1.length) (hr : 1 ≤ q.2.length) {A B : List Str} (hA : A ≠ []) (h : passAll (q :: rs) (A ++ B) = passAll (q :: rs) A ++ passAll (q :: rs) B) :
    ¬ (flat A).length ∈ plc q.1 q.2 0 (A ++ B) := fun c => by
  have h2 : passAll rs (pass1 q.1 q.2 (A ++ B)) = passAll rs (pass1 q.1 q.2 A) ++ passAll rs (pass1 q.1 q.2 B) := h
  obtain ⟨Y, Z, e1, e2, _⟩ := passAll_split rs _ _ _ h2
  refine gone hl hr hA c e1 ?_
  rw [← passAll_flat rs Y, e2, passAll_flat, pass1_flat]
theorem metR_none : ∀ (rs : Rws) (k : Nat) (A B : List Str), PosR rs → A ≠ [] → (metR k rs (A ++ B) (flat A).length = none ↔ passAll rs (A ++ B) = passAll rs A ++ passAll rs B)
  | [], _, A, B, _, _ => ⟨fun _ => rfl, fun _ => rfl⟩
  | q :: rs, k, A, B, hp, hA => by
    obtain ⟨hl, hr⟩ := hp q List.mem_cons_self
    unfold metR
    by_cases c : (flat A).length ∈ plc q.1 q.2 0 (A ++ B)
    · rw [if_pos c]
      exact ⟨fun z => (by cases z), fun z => absurd c (split_back hl hr hA z)⟩
    · rw [if_neg c, stays hl hr hA c]
      have ih := metR_none rs (k + 1) (pass1 q.1 q.2 A) (pass1 q.1 q.2 B) (fun x hx => hp x (List.mem_cons_of_mem _ hx)) (pass1_ne _ _ A hA)
      rw [pass1_flat] at ih
      rw [ih]
      show _ ↔ passAll rs (pass1 q.1 q.2 (A ++ B)) = _
      rw [stays hl hr hA c]
      exact Iff.rfl
/-- it falls by the neighbours alone -/
theorem metR_near : ∀ (rs : Rws) (k : Nat) (A1 A2 B1 B2 : List Str), PosR rs → A2 ≠ [] → B1 ≠ [] → passAll rs (A1 ++ A2) = passAll rs A1 ++ passAll rs A2 → passAll rs (B1 ++ B2) = passAll rs B1 ++ passAll rs B2 →
    metR k rs ((A1 ++ A2) ++ (B1 ++ B2)) (flat (A1 ++ A2)).length = metR k rs (A2 ++ B1) (flat A2).length
  | [], _, _, _, _, _, _, _, _, _, _ => rfl
  | q :: rs, k, A1, A2, B1, B2, hp, hA, hB, eA, eB => by
    obtain ⟨hl, hr⟩ := hp q List.mem_cons_self
    have sp : ∀ X Y : List Str, passAll (q :: rs) (X ++ Y) = passAll (q :: rs) X ++ passAll (q :: rs) Y → pass1 q.1 q.2 (X ++ Y) = pass1 q.1 q.2 X ++ pass1 q.1 q.2 Y := fun X Y e => by
      by_cases hX : X = []
      · subst hX
        rw [pass1_nil]; rfl
      · exact stays hl hr hX (split_back hl hr hX e)
    have e1 := sp A1 A2 eA
    have e2 := sp B1 B2 eB
    have n12 : A1 ++ A2 ≠ [] := fun z => hA (List.append_eq_nil_iff.mp z).2
    have cA := plc_app hl hr 0 (A1 ++ A2) (B1 ++ B2) n12
    have cB := plc_app hl hr 0 A2 B1 hA
    rw [Nat.zero_add] at cA cB
    have neA := pass1_ne q.1 q.2 A2 hA
    have gl : (pass1 q.1 q.2 (A1 ++ A2)).getLast? = (pass1 q.1 q.2 A2).getLast? := by
      rw [e1, List.getLast?_append]
      cases e : (pass1 q.1 q.2 A2).getLast? with
      | none => exact absurd (List.getLast?_eq_none_iff.mp e) neA
      | some x => rfl
    have hd : (B1 ++ B2).head? = B1.head? := by
      cases B1 with
      | nil => exact absurd rfl hB
      | cons x t => rfl
    rw [gl, hd, ← cB] at cA
    unfold metR
    by_cases c : (flat A2).length ∈ plc q.1 q.2 0 (A2 ++ B1)
    · rw [if_pos c, if_pos (cA.mpr c)]
    · have c2 := fun z => c (cA.mp z)
      rw [if_neg c, if_neg c2, stays hl hr n12 c2, stays hl hr hA c, e1, e2]
      have ih := metR_near rs (k + 1) (pass1 q.1 q.2 A1) (pass1 q.1 q.2 A2) (pass1 q.1 q.2 B1) (pass1 q.1 q.2 B2) (fun x hx => hp x (List.mem_cons_of_mem _ hx)) neA (pass1_ne _ _ B1 hB) (by rw [← e1]; exact eA) (by rw [← e2]; exact eB)
      rw [pass1_flat, ← e1, pass1_flat] at ih
      rw [← ih, e1]
/-- the joinings: rank and place of each border that falls -/
def jls : Nat → Rws → List Str → List (Nat × Nat)
  | _, [], _ => []
  | k, q :: rs, X => (plc q.1 q.2 0 X).map (fun m => (k, m)) ++ jls (k + 1) rs (pass1 q.1 q.2 X)
theorem metR_find : ∀ (rs : Rws) (k : Nat) (X : List Str) (m : Nat), metR k rs X m = ((jls k rs X).find? fun x => x.2 == m).map (·.1)
  | [], _, _, _ => rfl
  | q :: rs, k, X, m => by
    unfold metR jls
    rw [List.find?_append]
    by_cases c : m ∈ plc q.1 q.2 0 X
    · rw [if_pos c]
      have : ((plc q.1 q.2 0 X).map (fun m => (k, m))).find? (fun x => x.2 == m) = some (k, m) := by
        rw [List.find?_map]
        have : (plc q.1 q.2 0 X).find? ((fun x : Nat × Nat => x.2 == m) ∘ fun m => (k, m)) = some m := by
          generalize plc q.1 q.2 0 X = L at c
          induction L with
          | nil => cases c
          | cons a t ih =>
            by_cases e : a = m
            · subst e; simp
            · rw [List.find?_cons_of_neg (by simpa using e)]
              exact ih ((List.mem_cons.mp c).resolve_left (fun z => e z.symm))
        rw [this]; rfl
      rw [this]; rfl
    · rw [if_neg c]
      have : ((plc q.1 q.2 0 X).map (fun m => (k, m))).find? (fun x => x.2 == m) = none := by
        rw [List.find?_eq_none]
        intro x hx
        obtain ⟨y, hy, rfl⟩ := List.mem_map.mp hx
        simp only [beq_iff_eq]
        exact fun z => c (z ▸ hy)
      rw [this, metR_find rs (k + 1) _ m]; rfl
end Jr
namespace Jr
open PySem PySem.Spec PyProof.Rows L2
theorem jls_take : ∀ (rs : Rws) (k i : Nat) (X : List Str) (q : Str × Str), rs[i]? = some q → jls k (rs.take (i + 1)) X = jls k (rs.take i) X ++ (plc q.1 q.2 0 (passAll (rs.take i) X)).map (fun m => (k + i, m))
  | [], _, _, _, _, h => by simp at h
  | p :: rs, k, 0, X, q, h => by
    have e : p = q := Option.some.inj h
    subst e
    show (plc p.1 p.2 0 X).map (fun m => (k, m)) ++ jls (k + 1) (rs.take 0) _ = _
    rw [List.take_zero]
    show (plc p.1 p.2 0 X).map (fun m => (k, m)) ++ [] = [] ++ _
    rw [List.append_nil, List.nil_append]; rfl
  | p :: rs, k, i + 1, X, q, h => by
    have h2 : rs[i]? = some q := h
    have ih := jls_take rs (k + 1) i (pass1 p.1 p.2 X) q h2
    show (plc p.1 p.2 0 X).map (fun m => (k, m)) ++ jls (k + 1) (rs.take (i + 1)) (pass1 p.1 p.2 X) = ((plc p.1 p.2 0 X).map (fun m => (k, m)) ++ jls (k + 1) (rs.take i) (pass1 p.1 p.2 X)) ++ _
    rw [ih, List.append_assoc]
    have e : k + 1 + i = k + (i + 1) := by omega
    rw [e]; rfl
theorem plc_lt (l r : Str) : ∀ (n : Nat) (X : List Str) (m : Nat), m ∈ plc l r n X → m ≤ n + (flat X).length
  | n, [], m, h => by unfold plc at h; cases h
  | n, [a], m, h => by unfold plc at h; cases h
  | n, a :: b :: t, m, h => by
    rw [plc] at h
    rw [flat_clen, flat_clen]
    by_cases c : a = l ∧ b = r
    · rw [if_pos c] at h
      rcases List.mem_cons.mp h with e | e
      · omega
      · have := plc_lt l r _ t m e
        omega
    · rw [if_neg c] at h
      have := plc_lt l r _ (b :: t) m h
      rw [flat_clen] at this
      omega
termination_by _ X => X.length
/-- all borders that fall are as many as the pieces become less -/
theorem plc_count (l r : Str) : ∀ (n : Nat) (X : List Str), (plc l r n X).length + (pass1 l r X).length = X.length
  | n, [] => by rw [pass1_nil]; unfold plc; rfl
  | n, [a] => by rw [pass1_one]; unfold plc; rfl
  | n, a :: b :: t => by
    rw [plc]
    by_cases c : a = l ∧ b = r
    · rw [if_pos c]
      obtain ⟨rfl, rfl⟩ := c
      rw [pass1_yes]
      have := plc_count a b (n + a.length + b.length) t
      simp only [List.length_cons]
      omega
    · rw [if_neg c, pass1_no t c]
      have := plc_count l r (n + a.length) (b :: t)
      simp only [List.length_cons] at this ⊢
      omega
termination_by _ X => X.length
theorem jls_count : ∀ (rs : Rws) (k : Nat) (X : List Str), (jls k rs X).length + (passAll rs X).length = X.length
  | [], _, X => by show 0 + X.length = X.length; omega
  | q :: rs, k, X => by
    have h1 := plc_count q.1 q.2 0 X
    have h2 := jls_count rs (k + 1) (pass1 q.1 q.2 X)
    show ((plc q.1 q.2 0 X).map (fun m => (k, m)) ++ jls (k + 1) rs (pass1 q.1 q.2 X)).length + (passAll rs (pass1 q.1 q.2 X)).length = X.length
    rw [List.length_append, List.length_map]
    omega
end Jr
namespace Jr
open PySem PySem.Spec PyProof.Rows L2
/-! ### meets, of texts -/
theorem sgs_app (a b : Str) : sgs (a ++ b) = sgs a ++ sgs b := by
  unfold sgs
  rw [app_cps, List.map_append]
theorem flat_sgs_len (a : Str) : (flat (sgs a)).length = a.length := by rw [flat_sgs, len_cps]
theorem TabOk.pos {z : Str} {rs : Rws} (T : TabOk z rs) : PosR rs := fun q hq => by
  obtain ⟨i, hi, e⟩ := List.mem_iff_getElem.mp hq
  have ro := T.rows i q (by rw [List.getElem?_eq_getElem hi, e])
  exact ⟨((T.take i).plen ro.lm).1, ((T.take i).plen ro.rm).1⟩
theorem metR_zero : ∀ (rs : Rws) (k : Nat) (X : List Str), PosR rs → metR k rs X 0 = none
  | [], _, _, _ => rfl
  | q :: rs, k, X, hp => by
    unfold metR
    rw [if_neg, metR_zero rs (k + 1) _ fun x hx => hp x (List.mem_cons_of_mem _ hx)]
    intro h
    have := plc_ge q.1 q.2 0 X 0 h
    have := (hp q List.mem_cons_self).1
    omega
theorem sgs_nil {a : Str} (h : sgs a = []) : a.length = 0 := by rw [← sgs_len, h]; rfl
theorem meet_iff {z : Str} {rs : Rws} (T : TabOk z rs) (a b : Str) : metR 0 rs (sgs (a ++ b)) a.length = none ↔ sweep rs (a ++ b) = sweep rs a ++ sweep rs b := by
  unfold sweep
  rw [sgs_app]
  by_cases h : sgs a = []
  · rw [sgs_nil h, h, metR_zero rs 0 _ T.pos]
    refine ⟨fun _ => ?_, fun _ => rfl⟩
    have : ∀ rs : Rws, passAll rs [] = [] := fun rs => by
      have := passAll_len rs []
      exact List.eq_nil_of_length_eq_zero (by simpa using this)
    rw [this]; rfl
  · rw [← flat_sgs_len a]
    exact metR_none rs 0 (sgs a) (sgs b) T.pos h
theorem meet_near {z : Str} {rs : Rws} (T : TabOk z rs) {o1 o2 a b : Str} (ha : (sweep rs o1).getLast? = some a) (hb : (sweep rs o2).head? = some b) :
    metR 0 rs (sgs (a ++ b)) a.length = metR 0 rs (sgs (o1 ++ o2)) o1.length := by
  obtain ⟨A', eA⟩ : ∃ A', sweep rs o1 = A' ++ [a] := by
    obtain ⟨ys, e⟩ := List.getLast?_eq_some_iff.mp ha
    exact ⟨ys, e⟩
  obtain ⟨B', eB⟩ : ∃ B', sweep rs o2 = [b] ++ B' := by
    cases e : sweep rs o2 with
    | nil => rw [e] at hb; cases hb
    | cons x t =>
      rw [e] at hb
      have : x = b := Option.some.inj hb
      rw [this]
      exact ⟨t, rfl⟩
  obtain ⟨ca, cb, e1, e2, e3⟩ := way_split eA
  obtain ⟨da, db, f1, f2, f3⟩ := way_split eB
  have g1 : sgs o1 = ca.map sgn ++ sgs a := by
    rw [← sgs_back e3]
    unfold sgs
    rw [e1, List.map_append]
  have g2 : sgs o2 = sgs b ++ db.map sgn := by
    rw [← sgs_back f2]
    unfold sgs
    rw [f1, List.map_append]
  rw [sgs_back e3] at e3
  rw [sgs_back f2] at f2
  have na : sgs a ≠ [] := fun z => by
    have := passAll_len rs (sgs a)
    rw [e3, z] at this
    simp at this
  have nb : sgs b ≠ [] := fun z => by
    have := passAll_len rs (sgs b)
    rw [f2, z] at this
    simp at this
  have k1 : passAll rs (ca.map sgn ++ sgs a) = passAll rs (ca.map sgn) ++ passAll rs (sgs a) := by
    rw [← g1, e2, e3]; exact eA
  have k2 : passAll rs (sgs b ++ db.map sgn) = passAll rs (sgs b) ++ passAll rs (db.map sgn) := by
    rw [← g2, f2, f3]; exact eB
  have m := metR_near rs 0 (ca.map sgn) (sgs a) (sgs b) (db.map sgn) T.pos na nb k1 k2
  rw [← g1, ← g2, flat_sgs_len, flat_sgs_len, ← sgs_app, ← sgs_app] at m
  exact m.symm
end Jr
namespace Jr
open PySem PySem.Spec PyProof.Rows L2
/-! ### edges -/
def sdr (side : Nat) (r : Str × Str) : Str := if side = 0 then r.1 else r.2
inductive Edge (rs : Rws) (side : Nat) : Str → List Str → Prop
  | one {p : Str} : (∀ r ∈ rs, ¬ jn r = p) → Edge rs side p [p]
  | more {p : Str} {r : Str × Str} {es : List Str} : r ∈ rs → jn r = p → Edge rs side (sdr side r) es → Edge rs side p (p :: es)
theorem jn_inj {z : Str} {rs : Rws} (T : TabOk z rs) {r s : Str × Str} (hr : r ∈ rs) (hs : s ∈ rs) (e : jn r = jn s) : r = s := by
  have nd := (List.nodup_append.mp T.nodup).2.1
  obtain ⟨i, hi, ei⟩ := List.mem_iff_getElem.mp hr
  obtain ⟨j, hj, ej⟩ := List.mem_iff_getElem.mp hs
  have hij : i = j := by
    have h1 : i < (rs.map jn).length := by rw [List.length_map]; exact hi
    have h2 : j < (rs.map jn).length := by rw [List.length_map]; exact hj
    have ee : (rs.map jn)[i] = (rs.map jn)[j] := by rw [List.getElem_map, List.getElem_map, ei, ej, e]
    rcases Nat.lt_trichotomy i j with h | h | h
    · exact absurd ee (List.pairwise_iff_getElem.mp nd i j h1 h2 h)
    · exact h
    · exact absurd ee.symm (List.pairwise_iff_getElem.mp nd j i h2 h1 h)
  subst hij
  rw [← ei, ← ej]
theorem Edge.unique {z : Str} {rs : Rws} (T : TabOk z rs) {side : Nat} {p : Str} {es fs : List Str} (h : Edge rs side p es) : Edge rs side p fs → es = fs := by
  induction h generalizing fs with
  | one n =>
    intro h2
    cases h2 with
    | one _ => rfl
    | more hr e _ => exact absurd e (n _ hr)
  | more hr e _ ih =>
    intro h2
    cases h2 with
    | one n => exact absurd e (n _ hr)
    | more hr2 e2 q =>
      have := jn_inj T hr hr2 (e.trans e2.symm)
      subst this
      rw [ih q]
theorem Edge.asc {z : Str} {rs : Rws} (T : TabOk z rs) {side : Nat} {p : Str} {es : List Str} (h : Edge rs side p es) (hp : p ∈ pcs z rs) : ∀ x ∈ es, Asc x := by
  induction h with
  | one _ =>
    intro x hx
    rw [List.mem_singleton.mp hx]
    exact T.asc hp
  | @more p r es hr e _ ih =>
    have hs : sdr side r ∈ pcs z rs := by
      obtain ⟨i, hi, ei⟩ := List.mem_iff_getElem.mp hr
      have ro := T.rows i r (by rw [List.getElem?_eq_getElem hi, ei])
      have up : ∀ q, q ∈ pcs z (rs.take i) → q ∈ pcs z rs := fun q hq => by
        unfold pcs at hq ⊢
        rcases List.mem_append.mp hq with h | h
        · exact List.mem_append_left _ h
        · obtain ⟨s, hs, rfl⟩ := List.mem_map.mp h
          exact List.mem_append_right _ (List.mem_map.mpr ⟨s, List.mem_of_mem_take hs, rfl⟩)
      unfold sdr
      split
      · exact up _ ro.lm
      · exact up _ ro.rm
    intro x hx
    rcases List.mem_cons.mp hx with e2 | e2
    · rw [e2]; exact T.asc hp
    · exact ih hs x e2
theorem part_in {z : Str} {rs : Rws} (T : TabOk z rs) {side : Nat} {r : Str × Str} (hr : r ∈ rs) : sdr side r ∈ pcs z rs ∧ (sdr side r).length < (jn r).length := by
  obtain ⟨i, hi, ei⟩ := List.mem_iff_getElem.mp hr
  have ro := T.rows i r (by rw [List.getElem?_eq_getElem hi, ei])
  have up : ∀ q, q ∈ pcs z (rs.take i) → q ∈ pcs z rs := fun q hq => by
    unfold pcs at hq ⊢
    rcases List.mem_append.mp hq with h | h
    · exact List.mem_append_left _ h
    · obtain ⟨s, hs, rfl⟩ := List.mem_map.mp h
      exact List.mem_append_right _ (List.mem_map.mpr ⟨s, List.mem_of_mem_take hs, rfl⟩)
  have l1 := (T.take i).plen ro.lm
  have l2 := (T.take i).plen ro.rm
  have le : (jn r).length = r.1.length + r.2.length := app_len _ _
  unfold sdr
  split
  · exact ⟨up _ ro.lm, by omega⟩
  · exact ⟨up _ ro.rm, by omega⟩
theorem no_row {z : Str} {rs : Rws} (T : TabOk z rs) {p : Str} (h : p ∈ sgs z) : ∀ r ∈ rs, ¬ jn r = p := fun r hr e => by
  have nd := (List.nodup_append.mp T.nodup).2.2
  exact nd p h (jn r) (List.mem_map.mpr ⟨r, hr, rfl⟩) e.symm
theorem row_of {z : Str} {rs : Rws} {p : Str} (h : p ∈ pcs z rs) : p ∈ sgs z ∨ ∃ (j : Nat) (r : Str × Str), rs[j]? = some r ∧ jn r = p := by
  rcases List.mem_append.mp h with h | h
  · exact .inl h
  · obtain ⟨r, hr, e⟩ := List.mem_map.mp h
    obtain ⟨j, hj, ej⟩ := List.mem_iff_getElem.mp hr
    exact .inr ⟨j, r, by rw [List.getElem?_eq_getElem hj, ej], e⟩
/-! ### the law's dict of the rows by what they make -/
def madeD : List Addr → Rws → List (Key × V)
  | a :: as, r :: rs => (Sum.inr (jn r), V.ref a) :: madeD as rs
  | _, _ => []
theorem made_none : ∀ {as : List Addr} {rs : Rws} {p : Str}, (∀ r ∈ rs, ¬ jn r = p) → valV (madeD as rs) (Sum.inr p) = none
  | [], _, _, _ => by unfold madeD; rfl
  | _ :: _, [], _, _ => by unfold madeD; rfl
  | a :: as, r :: rs, p, h => by
    have h1 : ¬ (Sum.inr (jn r) : Key) = Sum.inr p := fun e => h r List.mem_cons_self (Sum.inr.inj e)
    exact (valV_neg (p := (Sum.inr (jn r), V.ref a)) h1).trans (made_none fun s hs => h s (List.mem_cons_of_mem _ hs))
theorem made_at {F : Addr → Str × Str → Prop} : ∀ {as : List Addr} {rs : Rws} {j : Nat} {r : Str × Str}, Paired F as rs → (rs.map jn).Nodup → rs[j]? = some r → ∃ a, valV (madeD as rs) (Sum.inr (jn r)) = some (V.ref a) ∧ F a r
  | _, _, _, _, .nil, _, h => by simp at h
  | a :: as, q :: rs, 0, r, .cons hF _, _, h => by
    have e : q = r := Option.some.inj h
    subst e
    exact ⟨a, valV_pos (p := ((Sum.inr (jn q) : Key), V.ref a)) rfl, hF⟩
  | a :: as, q :: rs, j + 1, r, .cons _ hq, nd, h => by
    have nd' := List.nodup_cons.mp nd
    have hm : r ∈ rs := List.mem_of_getElem? (show rs[j]? = some r from h)
    have h1 : ¬ (Sum.inr (jn q) : Key) = Sum.inr (jn r) := fun e => nd'.1 (by
      have e2 : jn q = jn r := Sum.inr.inj e
      show jn q ∈ rs.map jn
      rw [e2]; exact List.mem_map.mpr ⟨r, hm, rfl⟩)
    obtain ⟨b, hb, hF⟩ := made_at (j := j) hq nd'.2 h
    exact ⟨b, (valV_neg (p := (Sum.inr (jn q), V.ref a)) h1).trans hb, hF⟩
theorem madeD_snoc : ∀ {as : List Addr} {rs : Rws} {a : Addr} {r : Str × Str}, as.length = rs.length → madeD (as ++ [a]) (rs ++ [r]) = madeD as rs ++ [(Sum.inr (jn r), V.ref a)]
  | [], [], _, _, _ => rfl
  | [], _ :: _, _, _, h => by simp at h
  | _ :: _, [], _, _, h => by simp at h
  | b :: as, q :: rs, a, r, h => by
    show _ :: madeD (as ++ [a]) (rs ++ [r]) = _ :: (madeD as rs ++ _)
    rw [madeD_snoc (by simpa using h)]
theorem madeD_len : ∀ {as : List Addr} {rs : Rws}, as.length = rs.length → (madeD as rs).length = rs.length
  | [], [], _ => rfl
  | [], _ :: _, h => by simp at h
  | _ :: _, [], h => by simp at h
  | b :: as, q :: rs, h => by show (madeD as rs).length + 1 = _; rw [madeD_len (by simpa using h)]; rfl
def MadeAt (H : Hp) (d : Addr) (rs : Rws) : Prop := ∃ as : List Addr, H d = some (.dK (madeD as rs)) ∧ Paired (TupAt H) as rs
theorem MadeAt.same {H H' : Hp} {d : Addr} {rs : Rws} (h : MadeAt H d rs) (s : Same H H') : MadeAt H' d rs := by
  obtain ⟨as, e, p⟩ := h
  exact ⟨as, s _ _ e, TupAt.same s p⟩
theorem at_side {l r : Str} {side : Nat} (h : side < 2) : atI [V.str l, V.str r] (side : Int) = some (V.str (sdr side (l, r))) := by
  have hs : side = 0 ∨ side = 1 := by omega
  rcases hs with rfl | rfl
  · exact ats rfl
  · exact ats rfl
end Jr
namespace Jr
open PySem PySem.Spec PyProof.Rows L2
/-! ### edges with their ends, and what meets by them -/
/-- the edge of a piece, each piece with the rank by which it goes into the piece ahead of it; the first one's is told -/
inductive EdgeE (rs : Rws) (side : Nat) : Nat → Str → List (Str × Nat) → Prop
  | one {e : Nat} {p : Str} : (∀ r ∈ rs, ¬ jn r = p) → EdgeE rs side e p [(p, e)]
  | more {e j : Nat} {p : Str} {r : Str × Str} {es : List (Str × Nat)} : rs[j]? = some r → jn r = p → EdgeE rs side j (sdr side r) es → EdgeE rs side e p ((p, e) :: es)
theorem pcs_take {z : Str} {rs : Rws} {i j : Nat} (h : i ≤ j) {p : Str} (hp : p ∈ pcs z (rs.take i)) : p ∈ pcs z (rs.take j) := by
  unfold pcs at hp ⊢
  rcases List.mem_append.mp hp with h1 | h1
  · exact List.mem_append_left _ h1
  · obtain ⟨s, hs, rfl⟩ := List.mem_map.mp h1
    refine List.mem_append_right _ (List.mem_map.mpr ⟨s, ?_, rfl⟩)
    have e : rs.take i = (rs.take j).take i := by rw [List.take_take, Nat.min_eq_left h]
    rw [e] at hs
    exact List.mem_of_mem_take hs
theorem pcs_take_all {z : Str} {rs : Rws} {i : Nat} {p : Str} (hp : p ∈ pcs z (rs.take i)) : p ∈ pcs z rs := by
  have := pcs_take (j := max i rs.length) (Nat.le_max_left ..) hp
  rw [List.take_of_length_le (Nat.le_max_right ..)] at this
  exact this
theorem pcs_row {z : Str} {rs : Rws} {j k : Nat} {r : Str × Str} (h : rs[j]? = some r) (hk : j < k) : jn r ∈ pcs z (rs.take k) :=
  List.mem_append_right _ (List.mem_map.mpr ⟨r, List.mem_of_getElem? (show (rs.take k)[j]? = some r by rw [List.getElem?_take, if_pos hk, h]), rfl⟩)
/-- where a piece that a row makes is a piece already, the row is ahead -/
theorem row_lt {z : Str} {rs : Rws} (T : TabOk z rs) {j k : Nat} {r : Str × Str} (h : rs[j]? = some r) (hp : jn r ∈ pcs z (rs.take k)) : j < k := by
  by_cases c : j < k
  · exact c
  · exact absurd (pcs_take (show k ≤ j by omega) hp) (T.rows j r h).new
theorem sdr_in {z : Str} {rs : Rws} (T : TabOk z rs) {side j : Nat} {r : Str × Str} (h : rs[j]? = some r) : sdr side r ∈ pcs z (rs.take j) := by
  have ro := T.rows j r h
  unfold sdr
  split
  · exact ro.lm
  · exact ro.rm
theorem EdgeE.le {z : Str} {rs : Rws} (T : TabOk z rs) {side e : Nat} {p : Str} {es : List (Str × Nat)} (h : EdgeE rs side e p es) : p ∈ pcs z (rs.take e) → ∀ x ∈ es, x.2 ≤ e := by
  induction h with
  | one _ =>
    intro _ x hx
    rw [List.mem_singleton.mp hx]
    exact Nat.le_refl _
  | @more e j p r es hj ej _ ih =>
    intro hp x hx
    have lt : j < e := row_lt T hj (by rw [ej]; exact hp)
    rcases List.mem_cons.mp hx with e2 | e2
    · rw [e2]; exact Nat.le_refl _
    · exact Nat.le_trans (ih (sdr_in T hj) x e2) (Nat.le_of_lt lt)
/-- ahead of the row that makes it, a piece that stands alone is its two parts, each by itself -/
theorem alone_parts {z : Str} {rs : Rws} (T : TabOk z rs) {j : Nat} {r : Str × Str} (hj : rs[j]? = some r) (ha : sweep rs (jn r) = [jn r]) :
    passAll (rs.take j) (sgs (jn r)) = [r.1, r.2] := by
  have ro := T.rows j _ hj
  have l1 := ((T.take j).plen ro.lm).1
  have l2 := ((T.take j).plen ro.rm).1
  have la : (jn r).length = r.1.length + r.2.length := app_len _ _
  have h' : passAll (rs.take rs.length) (sgs (jn r)) = [jn r] := by rw [List.take_length]; exact ha
  obtain ⟨i, q, h1, _, h2, h3⟩ := made_by (by omega) rs.length (Nat.le_refl _) h'
  have e : j = i := T.jn_inj hj h1 h3.symm
  subst e
  rw [hj] at h1
  cases h1
  exact h2
theorem alone_ahead {z : Str} {rs : Rws} (T : TabOk z rs) {j k : Nat} {r : Str × Str} (hj : rs[j]? = some r) (ha : sweep rs (jn r) = [jn r]) (hk : k ≤ j) :
    passAll (rs.take k) (sgs (jn r)) = passAll (rs.take k) (sgs r.1) ++ passAll (rs.take k) (sgs r.2) := by
  have h := alone_parts T hj ha
  rw [passAll_cut (rs.take j) k, List.take_take, Nat.min_eq_left hk] at h
  obtain ⟨YA, YB, e1, e2, e3⟩ := passAll_split _ _ [r.1] [r.2] h
  obtain ⟨ca, cb, f1, f2, f3⟩ := way_split e1
  have g1 : passAll (rs.take j) (ca.map sgn) = [r.1] := by rw [passAll_cut (rs.take j) k, List.take_take, Nat.min_eq_left hk, f2, e2]
  have g2 : passAll (rs.take j) (cb.map sgn) = [r.2] := by rw [passAll_cut (rs.take j) k, List.take_take, Nat.min_eq_left hk, f3, e3]
  rw [e1, ← sgs_back g1, ← sgs_back g2, f2, f3]
theorem alone_behind {z : Str} {rs : Rws} (T : TabOk z rs) {j k : Nat} {r : Str × Str} (hj : rs[j]? = some r) (ha : sweep rs (jn r) = [jn r]) (hk : j < k) :
    passAll (rs.take k) (sgs (jn r)) = [jn r] := by
  have h := passAll_take (sgs (jn r)) hj
  rw [alone_parts T hj ha, pass1_yes, pass1_nil] at h
  have e : rs.take (j + 1) = (rs.take k).take (j + 1) := by rw [List.take_take, Nat.min_eq_left hk]
  rw [passAll_cut (rs.take k) (j + 1), ← e, h]
  exact passAll_one _ _
def endOf (side : Nat) (xs : List Str) : Option Str := if side = 0 then xs.head? else xs.getLast?
theorem endOf_one (side : Nat) (x : Str) : endOf side [x] = some x := by unfold endOf; split <;> rfl
theorem passAll_ne' : ∀ (rs : Rws) (xs : List Str), xs ≠ [] → passAll rs xs ≠ []
  | [], _, h => h
  | r :: rs, xs, h => passAll_ne' rs _ (pass1_ne r.1 r.2 xs h)
theorem endOf_app (side : Nat) {A B : List Str} (hA : A ≠ []) (hB : B ≠ []) : endOf side (A ++ B) = endOf side (if side = 0 then A else B) := by
  unfold endOf
  by_cases c : side = 0
  · rw [if_pos c, if_pos c, if_pos c]
    cases A with
    | nil => exact absurd rfl hA
    | cons x t => rfl
  · rw [if_neg c, if_neg c, if_neg c, List.getLast?_append]
    cases e : B.getLast? with
    | none => exact absurd (List.getLast?_eq_none_iff.mp e) hB
    | some x => rfl
theorem sgs_ne {p : Str} (h : 1 ≤ p.length) : sgs p ≠ [] := fun e => by
  have := sgs_len p
  rw [e] at this
  simp at this
  omega
theorem sgs_sign {z p : Str} (h : p ∈ sgs z) : sgs p = [p] := by
  obtain ⟨c, _, rfl⟩ := List.mem_map.mp h
  rfl
/-- what stands at the edge on the way -/
theorem edge_at {z : Str} {rs : Rws} (T : TabOk z rs) {side e : Nat} {p : Str} {es : List (Str × Nat)} (h : EdgeE rs side e p es) : sweep rs p = [p] → p ∈ pcs z (rs.take e) → e ≤ rs.length →
    ∀ k, k ≤ e → ∀ x, endOf side (passAll (rs.take k) (sgs p)) = some x ↔ ∃ e', (x, e') ∈ es ∧ k ≤ e' ∧ x ∈ pcs z (rs.take k) := by
  induction h with
  | @one e p hn =>
    intro _ hp he k hk x
    have hs : p ∈ sgs z := by
      rcases List.mem_append.mp hp with h | h
      · exact h
      · obtain ⟨r, hr, e2⟩ := List.mem_map.mp h
        exact absurd e2 (hn r (List.mem_of_mem_take hr))
    rw [sgs_sign hs, passAll_one, endOf_one]
    constructor
    · intro h2
      cases h2
      exact ⟨e, List.mem_singleton.mpr rfl, hk, List.mem_append_left _ hs⟩
    · rintro ⟨e', h2, _, _⟩
      have := List.mem_singleton.mp h2
      rw [(Prod.mk.inj this).1]
  | @more e j p r es hj ej he ih =>
    intro ha hp hle k hk x
    subst ej
    have lt : j < e := row_lt T hj hp
    have ro := T.rows j r hj
    obtain ⟨a1, a2⟩ := parts_alone T (l := r.1) (r := r.2) hj ha
    have hsd : sdr side r ∈ pcs z (rs.take j) := sdr_in T hj
    have asd : sweep rs (sdr side r) = [sdr side r] := by
      unfold sdr
      split
      · exact a1
      · exact a2
    have ih' := ih asd hsd (by omega)
    by_cases c : k ≤ j
    · rw [alone_ahead T hj ha c, endOf_app side (passAll_ne' _ _ (sgs_ne ((T.take j).plen ro.lm).1)) (passAll_ne' _ _ (sgs_ne ((T.take j).plen ro.rm).1))]
      have e2 : (if side = 0 then passAll (rs.take k) (sgs r.1) else passAll (rs.take k) (sgs r.2)) = passAll (rs.take k) (sgs (sdr side r)) := by
        unfold sdr
        by_cases c2 : side = 0
        · rw [if_pos c2, if_pos c2]
        · rw [if_neg c2, if_neg c2]
      rw [e2, ih' k c x]
      constructor
      · rintro ⟨e', h1, h2, h3⟩
        exact ⟨e', List.mem_cons_of_mem _ h1, h2, h3⟩
      · rintro ⟨e', h1, h2, h3⟩
        rcases List.mem_cons.mp h1 with h4 | h4
        · rw [(Prod.mk.inj h4).1] at h3
          exact absurd (pcs_take c h3) ro.new
        · exact ⟨e', h4, h2, h3⟩
    · rw [alone_behind T hj ha (by omega), endOf_one]
      constructor
      · intro h2
        cases h2
        exact ⟨e, List.mem_cons_self, hk, pcs_row hj (by omega)⟩
      · rintro ⟨e', h1, h2, h3⟩
        rcases List.mem_cons.mp h1 with h4 | h4
        · rw [(Prod.mk.inj h4).1]
        · have := he.le T hsd _ h4
          have : e' ≤ j := this
          omega
/-- the border falls by rank k -/
def fallsAt (rs : Rws) (es fs : List (Str × Nat)) (k : Nat) : Bool :=
  match rs[k]? with
  | some q => es.any (fun x => decide (x.1 = q.1) && decide (k < x.2)) && fs.any (fun x => decide (x.1 = q.2) && decide (k ≤ x.2))
  | none => false
theorem any_edge {es : List (Str × Nat)} {l : Str} {k : Nat} : (es.any (fun x => decide (x.1 = l) && decide (k ≤ x.2)) = true) ↔ ∃ e, (l, e) ∈ es ∧ k ≤ e := by
  rw [List.any_eq_true]
  constructor
  · rintro ⟨⟨x, e⟩, h1, h2⟩
    rw [Bool.and_eq_true, decide_eq_true_eq, decide_eq_true_eq] at h2
    obtain ⟨h3, h4⟩ := h2
    have h3 : x = l := h3
    subst h3
    exact ⟨e, h1, h4⟩
  · rintro ⟨e, h1, h2⟩
    exact ⟨(l, e), h1, by rw [Bool.and_eq_true, decide_eq_true_eq, decide_eq_true_eq]; exact ⟨rfl, h2⟩⟩
theorem meet_from {z : Str} {rs : Rws} (T : TabOk z rs) {a b : Str} {es fs : List (Str × Nat)} (ha : sweep rs a = [a]) (hb : sweep rs b = [b]) (pa : a ∈ pcs z rs) (pb : b ∈ pcs z rs)
    (hes : EdgeE rs 1 rs.length a es) (hfs : EdgeE rs 0 rs.length b fs) : ∀ n k, k + n = rs.length →
    metR k (rs.drop k) (passAll (rs.take k) (sgs a) ++ passAll (rs.take k) (sgs b)) a.length = (List.range' k n).find? (fallsAt rs es fs)
  | 0, k, h => by
    rw [List.drop_of_length_le (by omega)]
    rfl
  | n + 1, k, h => by
    have hk : k < rs.length := by omega
    have hx : rs[k]? = some rs[k] := List.getElem?_eq_getElem hk
    have ro := T.rows k _ hx
    have l1 := ((T.take k).plen ro.lm).1
    have l2 := ((T.take k).plen ro.rm).1
    have nA : passAll (rs.take k) (sgs a) ≠ [] := passAll_ne' _ _ (sgs_ne (T.plen pa).1)
    have fA : (flat (passAll (rs.take k) (sgs a))).length = a.length := by rw [passAll_flat, flat_sgs_len]
    rw [List.drop_eq_getElem_cons hk]
    unfold metR
    have pc := plc_app l1 l2 0 (passAll (rs.take k) (sgs a)) (passAll (rs.take k) (sgs b)) nA
    rw [Nat.zero_add, fA, ← passAll_take _ hx] at pc
    have tk : rs.take rs.length = rs := List.take_length
    have E1 := edge_at T hes ha (by rw [tk]; exact pa) (Nat.le_refl _) (k + 1) (by omega) rs[k].1
    have E2 := edge_at T hfs hb (by rw [tk]; exact pb) (Nat.le_refl _) k (by omega) rs[k].2
    have E1' : endOf 1 (passAll (rs.take (k + 1)) (sgs a)) = (passAll (rs.take (k + 1)) (sgs a)).getLast? := rfl
    have E2' : endOf 0 (passAll (rs.take k) (sgs b)) = (passAll (rs.take k) (sgs b)).head? := rfl
    rw [E1'] at E1
    rw [E2'] at E2
    have F : (a.length ∈ plc rs[k].1 rs[k].2 0 (passAll (rs.take k) (sgs a) ++ passAll (rs.take k) (sgs b))) ↔ fallsAt rs es fs k = true := by
      rw [pc, E1, E2]
      unfold fallsAt
      rw [hx]
      simp only []
      rw [Bool.and_eq_true]
      have q1 := any_edge (es := es) (l := rs[k].1) (k := k + 1)
      have q2 := any_edge (es := fs) (l := rs[k].2) (k := k)
      refine and_congr ?_ ?_
      · refine Iff.trans ?_ q1.symm
        exact ⟨fun ⟨e, h1, h2, _⟩ => ⟨e, h1, h2⟩, fun ⟨e, h1, h2⟩ => ⟨e, h1, h2, pcs_take (Nat.le_succ k) ro.lm⟩⟩
      · refine Iff.trans ?_ q2.symm
        exact ⟨fun ⟨e, h1, h2, _⟩ => ⟨e, h1, h2⟩, fun ⟨e, h1, h2⟩ => ⟨e, h1, h2, ro.rm⟩⟩
    rw [List.range'_succ]
    by_cases c : a.length ∈ plc rs[k].1 rs[k].2 0 (passAll (rs.take k) (sgs a) ++ passAll (rs.take k) (sgs b))
    · rw [if_pos c, List.find?_cons_of_pos (F.mp c)]
    · rw [if_neg c, List.find?_cons_of_neg (fun q => c (F.mpr q))]
      have st := stays l1 l2 nA (by rw [fA]; exact c)
      rw [st, ← passAll_take _ hx, ← passAll_take _ hx]
      exact meet_from T ha hb pa pb hes hfs n (k + 1) (by omega)
/-- meets, by the edges -/
theorem meet_edges {z : Str} {rs : Rws} (T : TabOk z rs) {a b : Str} {es fs : List (Str × Nat)} (ha : sweep rs a = [a]) (hb : sweep rs b = [b]) (pa : a ∈ pcs z rs) (pb : b ∈ pcs z rs)
    (hes : EdgeE rs 1 rs.length a es) (hfs : EdgeE rs 0 rs.length b fs) : metR 0 rs (sgs (a ++ b)) a.length = (List.range rs.length).find? (fallsAt rs es fs) := by
  have h := meet_from T ha hb pa pb hes hfs rs.length 0 (by omega)
  rw [List.drop_zero, List.take_zero] at h
  rw [sgs_app, List.range_eq_range']
  exact h
theorem metR_cons (r : Str × Str) (p : Rws) (k : Nat) (X : List Str) (m : Nat) : metR k (r :: p) X m = if m ∈ plc r.1 r.2 0 X then some k else metR (k + 1) p (pass1 r.1 r.2 X) m := rfl
theorem metR_app : ∀ (p q : Rws) (k : Nat) (X : List Str) (m : Nat), metR k (p ++ q) X m = (metR k p X m).or (metR (k + p.length) q (passAll p X) m)
  | [], q, k, X, m => rfl
  | r :: p, q, k, X, m => by
    show metR k (r :: (p ++ q)) X m = _
    rw [metR_cons, metR_cons]
    by_cases c : m ∈ plc r.1 r.2 0 X
    · rw [if_pos c, if_pos c]; rfl
    · rw [if_neg c, if_neg c, metR_app p q (k + 1), List.length_cons, show k + 1 + p.length = k + (p.length + 1) by omega]
      rfl
theorem metR_lt : ∀ (p : Rws) (k : Nat) (X : List Str) (m i : Nat), metR k p X m = some i → k ≤ i ∧ i < k + p.length
  | [], _, _, _, _, h => by cases h
  | r :: p, k, X, m, i, h => by
    unfold metR at h
    rw [List.length_cons]
    by_cases c : m ∈ plc r.1 r.2 0 X
    · rw [if_pos c] at h
      cases h
      omega
    · rw [if_neg c] at h
      have := metR_lt p (k + 1) _ m i h
      omega
/-- a piece that stands alone does so from its row on -/
theorem alone_from {z : Str} {rs : Rws} (T : TabOk z rs) {p : Str} {k : Nat} (h : sweep rs p = [p]) (hp : p ∈ pcs z (rs.take k)) : passAll (rs.take k) (sgs p) = [p] := by
  rcases List.mem_append.mp hp with h1 | h1
  · rw [sgs_sign h1, passAll_one]
  · obtain ⟨r, hr, rfl⟩ := List.mem_map.mp h1
    obtain ⟨i, hi, ei⟩ := List.mem_iff_getElem.mp hr
    have hx : (rs.take k)[i]? = some r := by rw [List.getElem?_eq_getElem hi, ei]
    rw [List.getElem?_take] at hx
    by_cases c : i < k
    · rw [if_pos c] at hx
      exact alone_behind T hx h c
    · rw [if_neg c] at hx
      cases hx
/-- a piece that is made of two that stand alone does so just where its own rank is the first over their border -/
theorem alone_iff {z : Str} {rs : Rws} (T : TabOk z rs) {j : Nat} {r : Str × Str} (hj : rs[j]? = some r) (h1 : sweep rs r.1 = [r.1]) (h2 : sweep rs r.2 = [r.2]) :
    sweep rs (jn r) = [jn r] ↔ metR 0 rs (sgs (r.1 ++ r.2)) r.1.length = some j := by
  have ro := T.rows j _ hj
  have l1 := ((T.take j).plen ro.lm).1
  have l2 := ((T.take j).plen ro.rm).1
  have hjl : j < rs.length := (List.getElem?_eq_some_iff.mp hj).1
  have p1 := alone_from T h1 ro.lm
  have p2 := alone_from T h2 ro.rm
  have mn := metR_none (rs.take j) 0 (sgs r.1) (sgs r.2) (T.take j).pos (sgs_ne l1)
  rw [flat_sgs_len, ← sgs_app, p1, p2] at mn
  have ma := metR_app (rs.take j) (rs.drop j) 0 (sgs (r.1 ++ r.2)) r.1.length
  rw [List.take_append_drop, List.length_take, Nat.min_eq_left (by omega), Nat.zero_add] at ma
  constructor
  · intro h
    have h3 := alone_parts T hj h
    have h4 := mn.mpr h3
    have h5 : passAll (rs.take j) (sgs (r.1 ++ r.2)) = [r.1, r.2] := h3
    rw [ma, h4, h5, List.drop_eq_getElem_cons hjl]
    have e : rs[j] = r := by
      rw [List.getElem?_eq_getElem hjl] at hj
      exact Option.some.inj hj
    rw [e]
    unfold metR
    have c : r.1.length ∈ plc r.1 r.2 0 [r.1, r.2] := by
      unfold plc
      rw [if_pos ⟨rfl, rfl⟩, Nat.zero_add]
      exact List.mem_cons_self
    rw [if_pos c]
    rfl
  · intro h
    have h4 : metR 0 (rs.take j) (sgs (r.1 ++ r.2)) r.1.length = none := by
      cases e : metR 0 (rs.take j) (sgs (r.1 ++ r.2)) r.1.length with
      | none => rfl
      | some i =>
        rw [ma, e] at h
        cases h
        have := metR_lt _ _ _ _ _ e
        rw [List.length_take] at this
        omega
    have h5 := mn.mp h4
    have h6 := passAll_take (sgs (jn r)) hj
    have h7 : passAll (rs.take j) (sgs (jn r)) = [r.1, r.2] := h5
    rw [h7, pass1_yes, pass1_nil] at h6
    unfold sweep
    rw [passAll_cut rs (j + 1), h6]
    exact passAll_one _ _
end Jr
namespace Jr
open PySem PySem.Spec PyProof.Rows L2
/-! ### the last and the first piece of a cutting; beginnings and ends of a text -/
def mkS (cs : List Nat) : Str := ⟨cs.toArray⟩
theorem mkS_cps (cs : List Nat) : (mkS cs).cps.toList = cs := by simp [mkS]
theorem mkS_len (cs : List Nat) : (mkS cs).length = cs.length := by rw [← len_cps, mkS_cps]
theorem mkS_of (t : Str) : mkS t.cps.toList = t := str_ext (mkS_cps _)
theorem mkS_app (a b : List Nat) : mkS (a ++ b) = mkS a ++ mkS b := str_ext (by rw [app_cps, mkS_cps, mkS_cps, mkS_cps])
theorem sweep_mkS (rs : Rws) (cs : List Nat) : sweep rs (mkS cs) = passAll rs (cs.map sgn) := by
  unfold sweep sgs
  rw [mkS_cps]
def preS (t : Str) (n : Nat) : Str := mkS (t.cps.toList.take n)
def sufS (t : Str) (n : Nat) : Str := mkS (t.cps.toList.drop n)
theorem preS_cps (t : Str) (n : Nat) : (preS t n).cps.toList = t.cps.toList.take n := mkS_cps _
theorem sufS_cps (t : Str) (n : Nat) : (sufS t n).cps.toList = t.cps.toList.drop n := mkS_cps _
theorem preS_len (t : Str) {n : Nat} (h : n ≤ t.length) : (preS t n).length = n := by
  rw [← len_cps, preS_cps, List.length_take, len_cps]; omega
theorem sufS_len (t : Str) (n : Nat) : (sufS t n).length = t.length - n := by
  rw [← len_cps, sufS_cps, List.length_drop, len_cps]
theorem preS_all (t : Str) {n : Nat} (h : t.length ≤ n) : preS t n = t := str_ext (by rw [preS_cps, List.take_of_length_le (by rw [len_cps]; exact h)])
theorem sufS_zero (t : Str) : sufS t 0 = t := str_ext (by rw [sufS_cps, List.drop_zero])
theorem pre_suf (t : Str) (n : Nat) : preS t n ++ sufS t n = t := str_ext (by rw [app_cps, preS_cps, sufS_cps, List.take_append_drop])
theorem cutS_pre (t : Str) (n : Nat) : cutS t none (some (n : Int)) = preS t n := str_ext (by rw [cut_to, preS_cps])
theorem cutS_suf (t : Str) (n : Nat) : cutS t (some (n : Int)) none = sufS t n := str_ext (by rw [cut_from, sufS_cps])
theorem text_mk {z t : Str} {cs : List Nat} (h : TextOf z t) (hs : ∀ c ∈ cs, c ∈ t.cps.toList) : TextOf z (mkS cs) := fun c hc => by
  rw [mkS_cps] at hc
  exact h c (hs c hc)
theorem text_pre {z t : Str} (h : TextOf z t) (n : Nat) : TextOf z (preS t n) := text_mk h fun _ hc => List.mem_of_mem_take hc
theorem text_suf {z t : Str} (h : TextOf z t) (n : Nat) : TextOf z (sufS t n) := text_mk h fun _ hc => List.mem_of_mem_drop hc
theorem map_sgn_inj {a b : List Nat} (h : a.map sgn = b.map sgn) : a = b := by
  have e := congrArg flat h
  rwa [flat_map_sgn, flat_map_sgn] at e
theorem sweep_app_ne {rs : Rws} {t : Str} (h : 1 ≤ t.length) : sweep rs t ≠ [] := passAll_ne' rs _ (sgs_ne h)
theorem sweep_zero {rs : Rws} {t : Str} (h : t.length = 0) : sweep rs t = [] := by
  have := passAll_len rs (sgs t)
  rw [sgs_len, h] at this
  exact List.eq_nil_of_length_eq_zero (by unfold sweep; omega)
/-- a text whose cutting is put together of two rows is put together of their texts -/
theorem sweep_split {rs : Rws} {t : Str} {A B : List Str} (h : sweep rs t = A ++ B) : sweep rs (preS t (flat A).length) = A ∧ sweep rs (sufS t (flat A).length) = B := by
  obtain ⟨ca, cb, e1, e2, e3⟩ := way_split h
  have f1 : flat A = ca := by rw [← e2, passAll_flat, flat_map_sgn]
  have p1 : t.cps.toList.take (flat A).length = ca := by rw [e1, f1]; simp
  have p2 : t.cps.toList.drop (flat A).length = cb := by rw [e1, f1]; simp
  constructor
  · unfold preS; rw [p1, sweep_mkS, e2]
  · unfold sufS; rw [p2, sweep_mkS, e3]
theorem flat_one (p : Str) : (flat [p]).length = p.length := by rw [flat_cons, List.length_append, len_cps]; rfl
theorem sweep_len (rs : Rws) (t : Str) : (flat (sweep rs t)).length = t.length := by rw [sweep_flat, len_cps]
theorem flat_len_app (A B : List Str) : (flat (A ++ B)).length = (flat A).length + (flat B).length := by rw [flat_app, List.length_append]
theorem sweep_first {rs : Rws} {t p : Str} {B : List Str} (h : sweep rs t = p :: B) : preS t p.length = p ∧ sweep rs p = [p] ∧ B = sweep rs (sufS t p.length) := by
  have h' : sweep rs t = [p] ++ B := h
  obtain ⟨e1, e2⟩ := sweep_split h'
  rw [flat_one] at e1 e2
  have e3 : flat (sweep rs (preS t p.length)) = flat [p] := by rw [e1]
  rw [sweep_flat] at e3
  have e4 : preS t p.length = p := str_ext (by rw [e3, flat_cons]; simp [flat])
  rw [e4] at e1
  exact ⟨e4, e1, e2.symm⟩
theorem sweep_last {rs : Rws} {t p : Str} {A : List Str} (h : sweep rs t = A ++ [p]) : sufS t (t.length - p.length) = p ∧ sweep rs p = [p] ∧ A = sweep rs (preS t (t.length - p.length)) ∧ p.length ≤ t.length := by
  obtain ⟨e1, e2⟩ := sweep_split h
  have hl := sweep_len rs t
  rw [h, flat_len_app, flat_one] at hl
  have el : (flat A).length = t.length - p.length := by omega
  rw [el] at e1 e2
  have e3 : flat (sweep rs (sufS t (t.length - p.length))) = flat [p] := by rw [e2]
  rw [sweep_flat] at e3
  have e4 : sufS t (t.length - p.length) = p := str_ext (by rw [e3, flat_cons]; simp [flat])
  rw [e4] at e2
  exact ⟨e4, e2, e1.symm, by omega⟩
/-- two texts are cut one behind the other just where their neighbours stand side by side -/
theorem split_near {z : Str} {rs : Rws} (T : TabOk z rs) {a b l r : Str} (ha : (sweep rs a).getLast? = some l) (hb : (sweep rs b).head? = some r) :
    sweep rs (a ++ b) = sweep rs a ++ sweep rs b ↔ sweep rs (l ++ r) = [l, r] := by
  have m := meet_near T ha hb
  have al : sweep rs l = [l] := way_alone (List.mem_of_getLast? ha)
  have ar : sweep rs r = [r] := way_alone (List.mem_of_mem_head? hb)
  rw [← meet_iff T a b, ← m, meet_iff T l r, al, ar]
  exact Iff.rfl
/-- which piece is the last one -/
theorem last_iff {z : Str} {rs : Rws} (T : TabOk z rs) {a p : Str} : (sweep rs (a ++ p)).getLast? = some p ↔ sweep rs p = [p] ∧ (a.length = 0 ∨ ∃ l, (sweep rs a).getLast? = some l ∧ sweep rs (l ++ p) = [l, p]) := by
  constructor
  · intro h
    obtain ⟨A, eA⟩ := List.getLast?_eq_some_iff.mp h
    obtain ⟨e1, e2, e3, e4⟩ := sweep_last eA
    have el : (a ++ p).length - p.length = a.length := by rw [app_len]; omega
    rw [el] at e3
    have ea : preS (a ++ p) a.length = a := str_ext (by rw [preS_cps, app_cps, ← len_cps a]; simp)
    rw [ea] at e3
    refine ⟨e2, ?_⟩
    by_cases c : a.length = 0
    · exact .inl c
    · right
      obtain ⟨l, hl⟩ : ∃ l, (sweep rs a).getLast? = some l := by
        cases h5 : (sweep rs a).getLast? with
        | none => exact absurd (List.getLast?_eq_none_iff.mp h5) (sweep_app_ne (by omega))
        | some x => exact ⟨x, rfl⟩
      refine ⟨l, hl, (split_near T hl (r := p) (by rw [e2]; rfl)).mp ?_⟩
      rw [eA, e3, e2]
  · rintro ⟨e2, h | ⟨l, hl, h⟩⟩
    · have e : a ++ p = p := str_ext (by
        rw [app_cps]
        have : a.cps.toList = [] := List.eq_nil_of_length_eq_zero (by rw [len_cps]; exact h)
        rw [this]; rfl)
      rw [e, e2]; rfl
    · have := (split_near T hl (r := p) (by rw [e2]; rfl)).mpr h
      rw [this, e2]
      exact List.getLast?_concat
theorem first_iff {z : Str} {rs : Rws} (T : TabOk z rs) {p b : Str} : (sweep rs (p ++ b)).head? = some p ↔ sweep rs p = [p] ∧ (b.length = 0 ∨ ∃ r, (sweep rs b).head? = some r ∧ sweep rs (p ++ r) = [p, r]) := by
  constructor
  · intro h
    obtain ⟨B, eB⟩ := List.head?_eq_some_iff.mp h
    obtain ⟨e1, e2, e3⟩ := sweep_first eB
    have eb : sufS (p ++ b) p.length = b := str_ext (by rw [sufS_cps, app_cps, ← len_cps p]; simp)
    rw [eb] at e3
    refine ⟨e2, ?_⟩
    by_cases c : b.length = 0
    · exact .inl c
    · right
      obtain ⟨r, hr⟩ : ∃ r, (sweep rs b).head? = some r := by
        cases h5 : (sweep rs b).head? with
        | none => exact absurd (List.head?_eq_none_iff.mp h5) (sweep_app_ne (by omega))
        | some x => exact ⟨x, rfl⟩
      refine ⟨r, hr, (split_near T (l := p) (by rw [e2]; rfl) hr).mp ?_⟩
      rw [eB, e3, e2]; rfl
  · rintro ⟨e2, h | ⟨r, hr, h⟩⟩
    · have e : p ++ b = p := str_ext (by
        rw [app_cps]
        have : b.cps.toList = [] := List.eq_nil_of_length_eq_zero (by rw [len_cps]; exact h)
        rw [this]; simp)
      rw [e, e2]; rfl
    · have := (split_near T (l := p) (by rw [e2]; rfl) hr).mpr h
      rw [this, e2]; rfl
/-! ### the lasts and the firsts of a text -/
def lastO (rs : Rws) (t : Str) (n : Nat) : Option Str := (sweep rs (preS t n)).getLast?
def firstO (rs : Rws) (t : Str) (n : Nat) : Option Str := (sweep rs (sufS t n)).head?
/-- the first so many lasts -/
def lastsL (rs : Rws) (t : Str) (n : Nat) : List (Option Str) := (List.range n).map (lastO rs t)
theorem lastsL_len (rs : Rws) (t : Str) (n : Nat) : (lastsL rs t n).length = n := by simp [lastsL]
theorem lastsL_get {rs : Rws} {t : Str} {n i : Nat} (h : i < n) : (lastsL rs t n)[i]? = some (lastO rs t i) := by
  unfold lastsL
  rw [List.getElem?_map, List.getElem?_range h]; rfl
theorem lastsL_succ (rs : Rws) (t : Str) (n : Nat) : lastsL rs t (n + 1) = lastsL rs t n ++ [lastO rs t n] := by
  unfold lastsL
  rw [List.range_succ, List.map_append]; rfl
theorem lastO_zero (rs : Rws) (t : Str) : lastO rs t 0 = none := by
  unfold lastO
  rw [sweep_zero (by rw [preS_len t (Nat.zero_le _)])]; rfl
theorem lastsL_one (rs : Rws) (t : Str) : lastsL rs t 1 = [none] := by
  show [lastO rs t 0] = _
  rw [lastO_zero]
theorem lastO_some {rs : Rws} {t : Str} {n : Nat} (h1 : 1 ≤ n) (h2 : n ≤ t.length) : ∃ p, lastO rs t n = some p := by
  unfold lastO
  cases h5 : (sweep rs (preS t n)).getLast? with
  | none => exact absurd (List.getLast?_eq_none_iff.mp h5) (sweep_app_ne (by rw [preS_len t h2]; exact h1))
  | some x => exact ⟨x, rfl⟩
theorem firstO_some {rs : Rws} {t : Str} {n : Nat} (h2 : n < t.length) : ∃ p, firstO rs t n = some p := by
  unfold firstO
  cases h5 : (sweep rs (sufS t n)).head? with
  | none => exact absurd (List.head?_eq_none_iff.mp h5) (sweep_app_ne (by rw [sufS_len]; omega))
  | some x => exact ⟨x, rfl⟩
theorem firstO_end {rs : Rws} {t : Str} {n : Nat} (h : t.length ≤ n) : firstO rs t n = none := by
  unfold firstO
  rw [sweep_zero (by rw [sufS_len]; omega)]; rfl
theorem lastO_in {z : Str} {rs : Rws} {t p : Str} {n : Nat} (tx : TextOf z t) (h : lastO rs t n = some p) : p ∈ pcs z rs ∧ sweep rs p = [p] := by
  have hm := List.mem_of_getLast? h
  exact ⟨sweep_pc (text_pre tx n) hm, way_alone hm⟩
theorem firstO_in {z : Str} {rs : Rws} {t p : Str} {n : Nat} (tx : TextOf z t) (h : firstO rs t n = some p) : p ∈ pcs z rs ∧ sweep rs p = [p] := by
  have hm := List.mem_of_mem_head? h
  exact ⟨sweep_pc (text_suf tx n) hm, way_alone hm⟩
/-- the text between two places -/
def midS (t : Str) (a b : Nat) : Str := mkS ((t.cps.toList.drop a).take (b - a))
theorem midS_len (t : Str) {a b : Nat} (h1 : a ≤ b) (h2 : b ≤ t.length) : (midS t a b).length = b - a := by
  unfold midS
  rw [mkS_len, List.length_take, List.length_drop, len_cps]; omega
theorem pre_mid (t : Str) {a b : Nat} (h : a ≤ b) : preS t b = preS t a ++ midS t a b := str_ext (by
  rw [app_cps, preS_cps, preS_cps]
  unfold midS
  rw [mkS_cps]
  have e : b = a + (b - a) := by omega
  conv => lhs; rw [e]
  rw [List.take_add])
theorem mid_suf (t : Str) {a b : Nat} (h : a ≤ b) : sufS t a = midS t a b ++ sufS t b := str_ext (by
  rw [app_cps, sufS_cps, sufS_cps]
  unfold midS
  rw [mkS_cps]
  have e : b = a + (b - a) := by omega
  conv => rhs; rw [e]
  rw [Nat.add_sub_cancel_left, ← List.drop_drop, List.take_append_drop])
theorem cutS_mid (t : Str) (a b : Nat) : cutS t (some (a : Int)) (some (b : Int)) = midS t a b := str_ext (by
  unfold midS
  rw [mkS_cps]
  show ((t.cps.toList.drop (HT.sIx t.length 0 (some (a : Int)))).take (HT.sIx t.length t.length (some (b : Int)) - HT.sIx t.length 0 (some (a : Int)))).toArray.toList = _
  rw [HT.sIx_nat, HT.sIx_nat, List.toList_toArray]
  have e : t.cps.toList.length = t.length := len_cps t
  by_cases h : a ≤ t.length
  · rw [Nat.min_eq_left h]
    by_cases h2 : b ≤ t.length
    · rw [Nat.min_eq_left h2]
    · rw [Nat.min_eq_right (by omega), List.take_of_length_le (by rw [List.length_drop]; omega), List.take_of_length_le (by rw [List.length_drop]; omega)]
  · rw [Nat.min_eq_right (show t.length ≤ a by omega), List.drop_of_length_le (by omega), List.drop_of_length_le (by omega)]
    simp)
/-- the piece of so many signs that ends at n is the last one there -/
theorem lastO_iff {z : Str} {rs : Rws} (T : TabOk z rs) {t : Str} {n s : Nat} (h1 : 1 ≤ s) (h2 : s ≤ n) (h3 : n ≤ t.length) :
    lastO rs t n = some (midS t (n - s) n) ↔ sweep rs (midS t (n - s) n) = [midS t (n - s) n] ∧ (n - s = 0 ∨ ∃ l, lastO rs t (n - s) = some l ∧ sweep rs (l ++ midS t (n - s) n) = [l, midS t (n - s) n]) := by
  unfold lastO
  rw [pre_mid t (show n - s ≤ n by omega), last_iff T, preS_len t (by omega)]
theorem firstO_iff {z : Str} {rs : Rws} (T : TabOk z rs) {t : Str} {n s : Nat} (h1 : 1 ≤ s) (h3 : n + s ≤ t.length) :
    firstO rs t n = some (midS t n (n + s)) ↔ sweep rs (midS t n (n + s)) = [midS t n (n + s)] ∧ (n + s = t.length ∨ ∃ l, firstO rs t (n + s) = some l ∧ sweep rs (midS t n (n + s) ++ l) = [midS t n (n + s), l]) := by
  unfold firstO
  rw [mid_suf t (show n ≤ n + s by omega), first_iff T, sufS_len]
  constructor
  · rintro ⟨a, b | b⟩
    · exact ⟨a, .inl (by omega)⟩
    · exact ⟨a, .inr b⟩
  · rintro ⟨a, b | b⟩
    · exact ⟨a, .inl (by omega)⟩
    · exact ⟨a, .inr b⟩
theorem lastO_mid {rs : Rws} {t p : Str} {n : Nat} (h : n ≤ t.length) (e : lastO rs t n = some p) : p = midS t (n - p.length) n ∧ p.length ≤ n := by
  obtain ⟨A, eA⟩ := List.getLast?_eq_some_iff.mp e
  obtain ⟨e1, _, _, e4⟩ := sweep_last eA
  rw [preS_len t h] at e1 e4
  refine ⟨?_, e4⟩
  rw [← e1]
  have e5 : (sufS (preS t n) (n - p.length)).length = p.length := by rw [e1]
  refine str_ext ?_
  unfold midS
  rw [mkS_cps, sufS_cps, preS_cps, e5, List.drop_take]
theorem firstO_mid {rs : Rws} {t p : Str} {n : Nat} (h : n ≤ t.length) (e : firstO rs t n = some p) : p = midS t n (n + p.length) ∧ n + p.length ≤ t.length := by
  obtain ⟨B, eB⟩ := List.head?_eq_some_iff.mp e
  obtain ⟨e1, _, _⟩ := sweep_first eB
  have l := sweep_len rs (sufS t n)
  rw [eB, flat_clen, sufS_len] at l
  refine ⟨?_, by omega⟩
  have e5 : (preS (sufS t n) p.length).length = p.length := by rw [e1]
  rw [← e1]
  refine str_ext ?_
  unfold midS
  rw [mkS_cps, preS_cps, sufS_cps, e5, Nat.add_sub_cancel_left]
/-- the sizes that fit: just the last piece's -/
theorem fit_head {P : Nat → Bool} {n m : Nat} (hm : m < n) (h : ∀ i, i < n → (P i = true ↔ i = m)) : (List.range n).filter P = [m] := by
  have e : (List.range n).filter P = (List.range n).filter (fun i => i == m) := List.filter_congr fun i hi => by
    have := h i (List.mem_range.mp hi)
    cases hp : P i with
    | true => simp [this.mp hp]
    | false =>
      have : i ≠ m := fun e => by rw [this.mpr e] at hp; cases hp
      simp [this]
  rw [e]
  have key : ∀ n, m < n → (List.range n).filter (fun i => i == m) = [m] := fun n => by
    induction n with
    | zero => intro h; omega
    | succ n ih =>
      intro h
      rw [List.range_succ, List.filter_append]
      by_cases c : m < n
      · rw [ih c]
        have : ¬ n = m := by omega
        simp [this]
      · have e2 : m = n := by omega
        subst e2
        have e3 : (List.range m).filter (fun i => i == m) = [] := by
          rw [List.filter_eq_nil_iff]
          intro x hx
          have := List.mem_range.mp hx
          simp; omega
        rw [e3]; simp
  exact key n hm
/-! ### read from the left and from the end -/
theorem read_step {rs : Rws} {t p : Str} {n : Nat} (h : n ≤ t.length) (e : firstO rs t n = some p) : sweep rs (sufS t n) = p :: sweep rs (sufS t (n + p.length)) := by
  obtain ⟨B, eB⟩ := List.head?_eq_some_iff.mp e
  obtain ⟨_, _, e3⟩ := sweep_first eB
  rw [eB, e3]
  congr 2
  refine str_ext ?_
  rw [sufS_cps, sufS_cps, sufS_cps, List.drop_drop]
theorem back_step {rs : Rws} {t p : Str} {n : Nat} (h : n ≤ t.length) (e : lastO rs t n = some p) : sweep rs (preS t n) = sweep rs (preS t (n - p.length)) ++ [p] := by
  obtain ⟨A, eA⟩ := List.getLast?_eq_some_iff.mp e
  obtain ⟨_, _, e3, e4⟩ := sweep_last eA
  rw [eA, e3, preS_len t h]
  congr 2
  refine str_ext ?_
  rw [preS_cps, preS_cps, preS_cps, List.take_take]
  congr 1
  omega
end Jr
namespace Jr
open PySem PySem.Spec PyProof.Rows L2
/-! ### a text of drawn signs -/
def SgOf (z : Str) (v : V) : Prop := ∃ c, c ∈ z.cps.toList ∧ v = .str (sgn c)
theorem sgs_of_us {α : Type} {z : Str} : ∀ {us : List V} {l : List α}, Paired (fun v _ => SgOf z v) us l → ∃ cs : List Nat, us = (cs.map sgn).map V.str ∧ cs.length = l.length ∧ ∀ c ∈ cs, c ∈ z.cps.toList
  | _, _, .nil => ⟨[], rfl, rfl, fun _ h => by cases h⟩
  | _, _, .cons ⟨c, hc, e⟩ t => by
    obtain ⟨cs, e1, e2, e3⟩ := sgs_of_us t
    refine ⟨c :: cs, by rw [e, e1]; rfl, by rw [List.length_cons, List.length_cons, e2], fun d hd => ?_⟩
    rcases List.mem_cons.mp hd with h | h
    · rw [h]; exact hc
    · exact e3 d h
theorem join_sgn (cs : List Nat) : Txt.join (Str.ofString "") (cs.map sgn) = mkS cs := str_ext (by rw [join_cps, flat_map_sgn, mkS_cps])
theorem sum_sgn (cs : List Nat) : ((cs.map sgn).map (·.length)).sum = cs.length := by
  induction cs with
  | nil => rfl
  | cons c l ih => simp only [List.map_cons, List.sum_cons, ih, sgn_len, List.length_cons]; omega
theorem text_mkS {z : Str} {cs : List Nat} (h : ∀ c ∈ cs, c ∈ z.cps.toList) : TextOf z (mkS cs) := fun c hc => h c (by rw [mkS_cps] at hc; exact hc)
/-- a sign by a digit -/
theorem sg_at {z : Str} (h : 1 ≤ z.length) (d : Int) : ∃ c, c ∈ z.cps.toList ∧ atI z.cps.toList (d % ((z.length : Nat) : Int)) = some c := by
  have h0 := Int.emod_nonneg d (show ((z.length : Nat) : Int) ≠ 0 by omega)
  have h1 := Int.emod_lt_of_pos d (show (0 : Int) < ((z.length : Nat) : Int) by omega)
  obtain ⟨n, hn⟩ := Int.eq_ofNat_of_zero_le h0
  have hl : n < z.cps.toList.length := by rw [len_cps]; omega
  exact ⟨z.cps.toList[n], List.getElem_mem hl, by rw [hn]; exact ats (List.getElem?_eq_getElem hl)⟩
end Jr
namespace Jr
open PySem PySem.Spec PyProof.Rows L2
/-! ### a region of objects that change, beside what stays -/
structure Reg (S H : Hp) (L : List (Addr × HO)) : Prop where
  same : Same S H
  off : ∀ q ∈ L, S q.1 = none
  nd : (L.map (·.1)).Nodup
  at_ : ∀ q ∈ L, H q.1 = some q.2
def out (H : Hp) (L : List (Addr × HO)) : Hp := fun b => if b ∈ L.map (·.1) then none else H b
section
variable {S H H' : Hp} {L : List (Addr × HO)} {a p : Addr} {o o' : HO} {i : Nat}
theorem out_of (h : H a = some o) (n : ¬ a ∈ L.map (·.1)) : out H L a = some o := by
  unfold out
  rw [if_neg n]
  exact h
theorem Reg.nil (H : Hp) : Reg H H [] := ⟨Same.refl _, fun q h => (by cases h), List.nodup_nil, fun q h => (by cases h)⟩
theorem Reg.get (r : Reg S H L) (h : L[i]? = some (a, o)) : H a = some o := r.at_ (a, o) (List.mem_of_getElem? h)
theorem Reg.step (r : Reg S H L) (s : Same H H') : Reg S H' L := ⟨r.same.trans s, r.off, r.nd, fun q hq => s _ _ (r.at_ q hq)⟩
theorem Reg.free (r : Reg S H L) (h : H p = none) : ¬ p ∈ L.map (·.1) := fun hm => by
  obtain ⟨q, hq, e⟩ := List.mem_map.mp hm
  have := r.at_ q hq
  rw [e, h] at this
  cases this
theorem Reg.kind (r : Reg S H L) (h : H p = some o) (n : ∀ q ∈ L, q.2 ≠ o) : ¬ p ∈ L.map (·.1) := fun hm => by
  obtain ⟨q, hq, e⟩ := List.mem_map.mp hm
  have := r.at_ q hq
  rw [e, h] at this
  exact n q hq (Option.some.inj this).symm
theorem Reg.new (r : Reg S H L) (n : H p = none) (s : Same H H') (h : H' p = some o) : Reg S H' (L ++ [(p, o)]) := by
  have r' := r.step s
  refine ⟨r'.same, fun q hq => ?_, ?_, fun q hq => ?_⟩
  · rcases List.mem_append.mp hq with hq | hq
    · exact r.off q hq
    · rw [List.mem_singleton.mp hq]
      exact r.same.free n
  · rw [List.map_append, List.nodup_append]
    refine ⟨r.nd, by simp, fun x hx y hy => ?_⟩
    have e : y = p := by simpa using hy
    rw [e]
    exact fun e2 => r.free n (e2 ▸ hx)
  · rcases List.mem_append.mp hq with hq | hq
    · exact r'.at_ q hq
    · rw [List.mem_singleton.mp hq]
      exact h
theorem map_set_fst : ∀ (L : List (Addr × HO)) (i : Nat), L[i]? = some (a, o) → (L.set i (a, o')).map (·.1) = L.map (·.1)
  | [], _, h => by simp at h
  | q :: L, 0, h => by
    have e : q = (a, o) := Option.some.inj h
    subst e
    rfl
  | q :: L, i + 1, h => by
    show q.1 :: (L.set i (a, o')).map (·.1) = _
    rw [map_set_fst L i h]
    rfl
theorem Reg.set (r : Reg S H L) (h : L[i]? = some (a, o)) : Reg S (upd H a o') (L.set i (a, o')) := by
  have hm := List.mem_of_getElem? h
  have hi : i < L.length := (List.getElem?_eq_some_iff.mp h).1
  have ea := map_set_fst (o' := o') L i h
  have key : ∀ (j : Nat) (q : Addr × HO), (L.set i (a, o'))[j]? = some q → q = (a, o') ∨ (q ∈ L ∧ q.1 ≠ a) := fun j q hj => by
    by_cases c : j = i
    · subst c
      rw [List.getElem?_set_self hi] at hj
      exact .inl (Option.some.inj hj).symm
    · rw [List.getElem?_set_ne (fun e => c e.symm)] at hj
      refine .inr ⟨List.mem_of_getElem? hj, fun e => c ?_⟩
      have h1 : (L.map (·.1))[j]? = some q.1 := by rw [List.getElem?_map, hj]; rfl
      have h2 : (L.map (·.1))[i]? = some a := by rw [List.getElem?_map, h]; rfl
      obtain ⟨a1, b1⟩ := List.getElem?_eq_some_iff.mp h1
      obtain ⟨a2, b2⟩ := List.getElem?_eq_some_iff.mp h2
      rcases Nat.lt_trichotomy j i with c | c | c
      · exact absurd (b1.trans (e.trans b2.symm)) (List.pairwise_iff_getElem.mp r.nd j i a1 a2 c)
      · exact c
      · exact absurd (b2.trans (e.symm.trans b1.symm)) (List.pairwise_iff_getElem.mp r.nd i j a2 a1 c)
  refine ⟨Same.mut r.same (r.off _ hm), fun q hq => ?_, by rw [ea]; exact r.nd, fun q hq => ?_⟩
  · obtain ⟨j, hj, e⟩ := List.mem_iff_getElem.mp hq
    rcases key j q (by rw [List.getElem?_eq_getElem hj, e]) with e2 | ⟨h2, _⟩
    · rw [e2]; exact r.off (a, o) hm
    · exact r.off q h2
  · obtain ⟨j, hj, e⟩ := List.mem_iff_getElem.mp hq
    rcases key j q (by rw [List.getElem?_eq_getElem hj, e]) with e2 | ⟨h2, n2⟩
    · rw [e2, upd_same]
    · rw [upd_ne n2]; exact r.at_ q h2
theorem Reg.grow (r : Reg S H L) (s : Same H H') : Reg (out H' L) H' L ∧ Same S (out H' L) := by
  have r' := r.step s
  refine ⟨⟨fun b o hb => ?_, fun q hq => ?_, r.nd, r'.at_⟩, fun b o hb => ?_⟩
  · unfold out at hb
    split at hb
    · cases hb
    · exact hb
  · unfold out
    rw [if_pos (List.mem_map.mpr ⟨q, hq, rfl⟩)]
  · refine out_of (r'.same _ _ hb) fun hm => ?_
    obtain ⟨q, hq, e⟩ := List.mem_map.mp hm
    have := r.off q hq
    rw [e, hb] at this
    cases this
theorem Reg.perm {L' : List (Addr × HO)} (r : Reg S H L) (h : L.Perm L') : Reg S H L' := ⟨r.same, fun q hq => r.off q (h.mem_iff.mpr hq), (h.map (·.1)).nodup_iff.mp r.nd, fun q hq => r.at_ q (h.mem_iff.mpr hq)⟩
/-- some of the objects change no more -/
theorem Reg.freeze {L1 L2 : List (Addr × HO)} (r : Reg S H (L1 ++ L2)) : Reg (out H L2) H L2 ∧ Same S (out H L2) ∧ ∀ q ∈ L1, out H L2 q.1 = some q.2 := by
  have nd := r.nd
  rw [List.map_append, List.nodup_append] at nd
  have r2 : Reg S H L2 := ⟨r.same, fun q hq => r.off q (List.mem_append_right _ hq), nd.2.1, fun q hq => r.at_ q (List.mem_append_right _ hq)⟩
  obtain ⟨a, b⟩ := r2.grow (Same.refl H)
  exact ⟨a, b, fun q hq => out_of (r.at_ q (List.mem_append_left _ hq)) fun hm => nd.2.2 _ (List.mem_map.mpr ⟨q, hq, rfl⟩) _ hm rfl⟩
/-- a list of tuples that a call has laid stays outside -/
theorem Reg.outs (r : Reg S H L) (s : Same H H') (n : H p = none) {as : List Addr} {fs : List (Str × Nat)} (hp : H' p = some (.lst (as.map V.ref))) (ha : Paired (fun a x => H' a = some (.tup [.str x.1, .int ((x.2 : Nat) : Int)])) as fs) (nt : ∀ q ∈ L, ∀ xs, q.2 ≠ .tup xs) :
    out H' L p = some (.lst (as.map V.ref)) ∧ Paired (fun a x => out H' L a = some (.tup [.str x.1, .int ((x.2 : Nat) : Int)])) as fs :=
  ⟨out_of hp (r.free n), L2.Paired.mapP ha fun a x h => out_of h ((r.step s).kind h fun q hq => nt q hq _)⟩
end
end Jr
namespace Jr
open PySem PySem.Spec PyProof.Rows L2
theorem pc_text {z : Str} {rs : Rws} (T : TabOk z rs) {p : Str} (h : p ∈ pcs z rs) : TextOf z p := by
  have key : ∀ n, n ≤ rs.length → ∀ p ∈ pcs z (rs.take n), TextOf z p := fun n => by
    induction n with
    | zero =>
      intro _ p hp
      have hp2 : p ∈ sgs z ++ [] := hp
      rw [List.append_nil] at hp2
      obtain ⟨c, hc, rfl⟩ := List.mem_map.mp hp2
      intro d hd
      have e : d = c := by simpa [sgn] using hd
      rw [e]; exact hc
    | succ n ih =>
      intro hn p hp
      have hx : rs[n]? = some rs[n] := List.getElem?_eq_getElem (by omega)
      rw [List.take_add_one, hx] at hp
      have hp2 : p ∈ pcs z (rs.take n ++ [rs[n]]) := hp
      rw [pcs_snoc] at hp2
      rcases List.mem_append.mp hp2 with hp3 | hp3
      · exact ih (by omega) p hp3
      · rw [List.mem_singleton] at hp3
        rw [hp3]
        have o := T.rows n _ hx
        exact text_app (ih (by omega) _ o.lm) (ih (by omega) _ o.rm)
  have := key rs.length (Nat.le_refl _) p
  rw [List.take_length] at this
  exact this h
end Jr
namespace Jr
open PySem PySem.Spec PyProof.Rows L2
/-! ### a table's signs renamed by their places -/
def rhoC (z z' : Str) (c : Nat) : Nat := z'.cps.toList.getD (z.cps.toList.idxOf c) 0
def renS (z z' t : Str) : Str := ⟨(t.cps.toList.map (rhoC z z')).toArray⟩
def renW (z z' : Str) (r : Str × Str) : Str × Str := (renS z z' r.1, renS z z' r.2)
def renR (z z' : Str) (rs : Rws) : Rws := rs.map (renW z z')
theorem renS_cps (z z' t : Str) : (renS z z' t).cps.toList = t.cps.toList.map (rhoC z z') := rfl
theorem renS_len (z z' t : Str) : (renS z z' t).length = t.length := by rw [← len_cps, renS_cps, List.length_map, len_cps]
theorem renS_app (z z' a b : Str) : renS z z' (a ++ b) = renS z z' a ++ renS z z' b := str_ext (by rw [renS_cps, app_cps, app_cps, renS_cps, renS_cps, List.map_append])
theorem renS_sgn (z z' : Str) (c : Nat) : renS z z' (sgn c) = sgn (rhoC z z' c) := str_ext rfl
theorem sgs_ren (z z' t : Str) : sgs (renS z z' t) = (sgs t).map (renS z z') := by
  unfold sgs
  rw [renS_cps, List.map_map, List.map_map]
  rfl
theorem jn_ren (z z' : Str) (r : Str × Str) : jn (renW z z' r) = renS z z' (jn r) := (renS_app z z' r.1 r.2).symm
theorem idx63 {l : List Nat} (nd : l.Nodup) {i c : Nat} (h : l[i]? = some c) : l.idxOf c = i := by
  obtain ⟨il, e⟩ := List.getElem?_eq_some_iff.mp h
  subst e
  have jl : l.idxOf l[i] < l.length := List.idxOf_lt_length_iff.mpr (List.getElem_mem il)
  have e := List.getElem_idxOf jl
  rcases Nat.lt_trichotomy (l.idxOf l[i]) i with q | q | q
  · exact absurd e (List.pairwise_iff_getElem.mp nd _ _ jl il q)
  · exact q
  · exact absurd e.symm (List.pairwise_iff_getElem.mp nd _ _ il jl q)
section
variable {z z' : Str} (nd : z.cps.toList.Nodup) (nd' : z'.cps.toList.Nodup) (el : z'.length = z.length)
include nd in
theorem rho_at {i c d : Nat} (h : z.cps.toList[i]? = some c) (h' : z'.cps.toList[i]? = some d) : rhoC z z' c = d := by
  unfold rhoC
  rw [idx63 nd h, List.getD_eq_getElem?_getD, h']
  rfl
include el in
theorem both_at {i c : Nat} (h : z.cps.toList[i]? = some c) : ∃ d, z'.cps.toList[i]? = some d := by
  have l := (List.getElem?_eq_some_iff.mp h).1
  exact ⟨_, List.getElem?_eq_getElem (by rw [len_cps, el, ← len_cps]; exact l)⟩
include nd el in
theorem rho_mem {c : Nat} (h : c ∈ z.cps.toList) : rhoC z z' c ∈ z'.cps.toList := by
  obtain ⟨i, hi⟩ := List.getElem?_of_mem h
  obtain ⟨d, hd⟩ := both_at el hi
  rw [rho_at nd hi hd]
  exact List.mem_of_getElem? hd
include nd nd' el in
theorem rho_back {c : Nat} (h : c ∈ z.cps.toList) : rhoC z' z (rhoC z z' c) = c := by
  obtain ⟨i, hi⟩ := List.getElem?_of_mem h
  obtain ⟨d, hd⟩ := both_at el hi
  rw [rho_at nd hi hd, rho_at nd' hd hi]
include nd el in
theorem renS_self : renS z z' z = z' := str_ext (by
  rw [renS_cps]
  refine List.ext_getElem? fun i => ?_
  rw [List.getElem?_map]
  cases h : z.cps.toList[i]? with
  | none =>
    have l := List.getElem?_eq_none_iff.mp h
    rw [List.getElem?_eq_none (by rw [len_cps, el, ← len_cps]; exact l)]
    rfl
  | some c =>
    obtain ⟨d, hd⟩ := both_at el h
    rw [hd]
    show some (rhoC z z' c) = _
    rw [rho_at nd h hd])
include nd el in
theorem renS_text {t : Str} (tx : TextOf z t) : TextOf z' (renS z z' t) := fun c hc => by
  rw [renS_cps] at hc
  obtain ⟨d, hd, rfl⟩ := List.mem_map.mp hc
  exact rho_mem nd el (tx d hd)
include nd nd' el in
theorem renS_back {t : Str} (tx : TextOf z t) : renS z' z (renS z z' t) = t := str_ext (by
  rw [renS_cps, renS_cps, List.map_map]
  have : ∀ c ∈ t.cps.toList, (rhoC z' z ∘ rhoC z z') c = id c := fun c hc => rho_back nd nd' el (tx c hc)
  rw [List.map_congr_left this, List.map_id])
include nd nd' el in
theorem renS_inj {a b : Str} (ha : TextOf z a) (hb : TextOf z b) (e : renS z z' a = renS z z' b) : a = b := by
  rw [← renS_back nd nd' el ha, e, renS_back nd nd' el hb]
include nd el in
theorem pcs_ren (rs : Rws) : pcs z' (renR z z' rs) = (pcs z rs).map (renS z z') := by
  unfold pcs renR
  rw [List.map_append, ← sgs_ren, renS_self nd el, List.map_map, List.map_map]
  congr 1
  exact List.map_congr_left fun r _ => jn_ren z z' r
include nd nd' el in
theorem ren_ok (sg' : SignsOk z') {rs : Rws} (T : TabOk z rs) : TabOk z' (renR z z' rs) := by
  refine ⟨sg', by rw [el]; exact T.n1, by rw [el]; exact T.n12, by unfold renR; rw [List.length_map]; exact T.many, fun i r h => ?_⟩
  unfold renR at h ⊢
  rw [List.getElem?_map] at h
  cases hi : rs[i]? with
  | none => rw [hi] at h; cases h
  | some r0 =>
    rw [hi] at h
    cases h
    have ro := T.rows i r0 hi
    have Ti := T.take i
    have ep : pcs z' ((rs.map (renW z z')).take i) = (pcs z (rs.take i)).map (renS z z') := by
      rw [← List.map_take]; exact pcs_ren nd el _
    have tl := pc_text Ti ro.lm
    have tr := pc_text Ti ro.rm
    refine ⟨?_, ?_, ?_, fun hm => ?_⟩
    · rw [ep]; exact List.mem_map_of_mem ro.lm
    · rw [ep]; exact List.mem_map_of_mem ro.rm
    · rw [jn_ren, renS_len]; exact ro.len
    · rw [ep, jn_ren] at hm
      obtain ⟨p, hp, e⟩ := List.mem_map.mp hm
      have : p = jn r0 := renS_inj nd nd' el (pc_text Ti hp) (text_app tl tr) e
      exact ro.new (this ▸ hp)
include nd nd' el in
theorem pass1_ren {l r : Str} (hl : TextOf z l) (hr : TextOf z r) : ∀ xs : List Str, (∀ x ∈ xs, TextOf z x) → pass1 (renS z z' l) (renS z z' r) (xs.map (renS z z')) = (pass1 l r xs).map (renS z z')
  | [], _ => by rw [List.map_nil, pass1_nil, pass1_nil]; rfl
  | [a], _ => by rw [List.map_cons, List.map_nil, pass1_one, pass1_one]; rfl
  | a :: b :: t, h => by
    by_cases c : a = l ∧ b = r
    · obtain ⟨rfl, rfl⟩ := c
      rw [pass1_yes, List.map_cons, List.map_cons, pass1_yes, List.map_cons, renS_app, pass1_ren hl hr t fun x hx => h x (List.mem_cons_of_mem _ (List.mem_cons_of_mem _ hx))]
    · rw [pass1_no t c, List.map_cons, List.map_cons, pass1_no]
      · have := pass1_ren hl hr (b :: t) fun x hx => h x (List.mem_cons_of_mem _ hx)
        rw [List.map_cons] at this
        rw [this, List.map_cons]
      · intro q
        exact c ⟨renS_inj nd nd' el (h a List.mem_cons_self) hl q.1, renS_inj nd nd' el (h b (List.mem_cons_of_mem _ List.mem_cons_self)) hr q.2⟩
termination_by xs => xs.length
include nd nd' el in
theorem sweep_ren {rs : Rws} (T : TabOk z rs) {t : Str} (tx : TextOf z t) : sweep (renR z z' rs) (renS z z' t) = (sweep rs t).map (renS z z') := by
  have key : ∀ n, n ≤ rs.length → passAll ((rs.take n).map (renW z z')) (sgs (renS z z' t)) = (passAll (rs.take n) (sgs t)).map (renS z z') := fun n => by
    induction n with
    | zero => intro _; exact sgs_ren z z' t
    | succ n ih =>
      intro hn
      have hx : rs[n]? = some rs[n] := List.getElem?_eq_getElem (by omega)
      have ih' := ih (by omega)
      have ro := T.rows n _ hx
      have Ti := T.take n
      have em : (rs.map (renW z z'))[n]? = some (renW z z' rs[n]) := by rw [List.getElem?_map, hx]; rfl
      have e1 := passAll_take (rs := rs.map (renW z z')) (sgs (renS z z' t)) em
      rw [← List.map_take, ← List.map_take] at e1
      rw [e1, ih', passAll_take (sgs t) hx]
      exact pass1_ren nd nd' el (pc_text Ti ro.lm) (pc_text Ti ro.rm) _ fun x hx2 => pc_text T (sweep_in tx hx2)
  have := key rs.length (Nat.le_refl _)
  rw [List.take_length] at this
  exact this
include nd nd' el in
theorem renR_back {rs : Rws} (T : TabOk z rs) : renR z' z (renR z z' rs) = rs := by
  unfold renR
  rw [List.map_map]
  have : ∀ r ∈ rs, (renW z' z ∘ renW z z') r = id r := fun r hr => by
    obtain ⟨j, hj⟩ := List.getElem?_of_mem hr
    have ro := T.rows j r hj
    have Tj := T.take j
    show ((renS z' z (renS z z' r.1)), (renS z' z (renS z z' r.2))) = r
    rw [renS_back nd nd' el (pc_text Tj ro.lm), renS_back nd nd' el (pc_text Tj ro.rm)]
  rw [List.map_congr_left this, List.map_id]
end
end Jr
namespace Jr
open PySem PySem.Spec PyProof.Rows L2
/-! ### what is refused, and with what -/
theorem tyx_same {K : PySem.W.Frag} {H H' : Hp} {v : V} {t : Value} (h : TyX K H v t) (s : Same H H') : TyX K H' v t := by
  cases h with
  | base b =>
    cases b with
    | non => exact .base .non
    | bl x => exact .base (.bl x)
    | int i => exact .base (.int i)
    | str x => exact .base (.str x)
    | flt x => exact .base (.flt x)
    | lst e => exact .base (.lst (s _ _ e))
    | frz e => exact .base (.frz (s _ _ e))
    | tup e => exact .base (.tup (s _ _ e))
    | dK e => exact .base (.dK (s _ _ e))
    | dT e => exact .base (.dT (s _ _ e))
    | ins e cl ha hn htk hm => exact .base (.ins (s _ _ e) cl ha hn htk hm)
  | byt b => exact .byt b
  | set e => exact .set (s _ _ e)
  | kList e c => exact .kList e c
  | kTuple e c => exact .kTuple e c
  | kDict e c => exact .kDict e c
  | fTuple e => exact .fTuple (s _ _ e)
  | fDict e => exact .fDict (s _ _ e)
theorem NoStr.same {K : PySem.W.Frag} {H H' : Hp} {v : V} (h : NoStr K H v) (s : Same H H') : NoStr K H' v := by
  obtain ⟨t, a, b⟩ := h
  exact ⟨t, tyx_same a s, b⟩
section
variable {K : PySem.W.Frag} {H : Hp}
theorem noStr_non : NoStr K H .non := ⟨_, .base .non, kit_ty (by decide +kernel)⟩
theorem noStr_bl (b : Bool) : NoStr K H (.bl b) := ⟨_, .base (.bl b), kit_ty (by decide +kernel)⟩
theorem noStr_int (i : Int) : NoStr K H (.int i) := ⟨_, .base (.int i), kit_ty (by decide +kernel)⟩
theorem noStr_lst {a : Addr} {xs : List V} (h : H a = some (.lst xs)) : NoStr K H (.ref a) := ⟨_, .base (.lst h), kit_ty (by decide +kernel)⟩
theorem noStr_tup {a : Addr} {xs : List V} (h : H a = some (.tup xs)) : NoStr K H (.ref a) := ⟨_, .base (.tup h), kit_ty (by decide +kernel)⟩
theorem noStr_dK {a : Addr} {xs : List (Key × V)} (h : H a = some (.dK xs)) : NoStr K H (.ref a) := ⟨_, .base (.dK h), kit_ty (by decide +kernel)⟩
end
/-- the place of the first sign that is not z's -/
def wrong1 (z t : Str) : Option Nat := t.cps.toList.findIdx? fun c => !decide (c ∈ z.cps.toList)
theorem wrong1_none {z t : Str} : wrong1 z t = none ↔ TextOf z t := by
  unfold wrong1
  rw [List.findIdx?_eq_none_iff]
  exact ⟨fun h c hc => by simpa using h c hc, fun h c hc => by simpa using h c hc⟩
theorem wrong1_at {z t : Str} {i c : Nat} (h : ∀ j d, j < i → t.cps.toList[j]? = some d → d ∈ z.cps.toList) (hc : t.cps.toList[i]? = some c) (n : ¬ c ∈ z.cps.toList) : wrong1 z t = some i := by
  unfold wrong1
  obtain ⟨hi, e⟩ := List.getElem?_eq_some_iff.mp hc
  rw [List.findIdx?_eq_some_iff_getElem]
  refine ⟨hi, ?_, fun j hj => ?_⟩
  · rw [e]; simpa using n
  · have := h j _ hj (List.getElem?_eq_getElem (by omega))
    simpa using this
theorem wrong1_lt {z t : Str} {i : Nat} (h : wrong1 z t = some i) : i < t.length := by
  unfold wrong1 at h
  obtain ⟨hi, _⟩ := List.findIdx?_eq_some_iff_getElem.mp h
  rw [← len_cps]; exact hi
/-- v is refused as a text of z's signs, w the place -/
def Bad (K : PySem.W.Frag) (H : Hp) (z : Str) (v w : V) : Prop := (∃ t i, v = .str t ∧ wrong1 z t = some i ∧ w = .int (i : Nat)) ∨ (NoStr K H v ∧ w = .non)
theorem Bad.same {K : PySem.W.Frag} {H H' : Hp} {z : Str} {v w : V} (h : Bad K H z v w) (s : Same H H') : Bad K H' z v w := by
  rcases h with h | ⟨h, e⟩
  · exact .inl h
  · exact .inr ⟨h.same s, e⟩
/-- an error of the class at C with one field is wanted -/
def Rz (C : Addr) (f : Str) (v : V) (H : Hp) (E : XK) : Prop := ∀ H' d, Same H H' → H d = none → H' d = some (.xd [(f, v)]) → E (.ref C) (some d) H'
theorem Rz.same {C : Addr} {f : Str} {v : V} {H H1 : Hp} {E : XK} (h : Rz C f v H E) (s : Same H H1) : Rz C f v H1 E := fun H' d s1 n e => h H' d (s.trans s1) (s.free n) e
theorem Rz.now {C : Addr} {f : Str} {v : V} {H : Hp} {E : XK} (h : Rz C f v H E) : ∀ d, H d = none → E (.ref C) (some d) (upd H d (.xd [(f, v)])) := fun d n => h _ d (Same.new n) n upd_same
theorem fmt_nat (i : Nat) (h : i ≤ 100000) : Fmt (.int (i : Nat)) := .inr (.inl ⟨_, rfl, by
  have e : ((i : Nat) : Int).natAbs = i := by omega
  rw [e]
  rcases Nat.eq_zero_or_pos i with h0 | h0
  · rw [h0]; decide
  · have : i.log2 < 20 := (Nat.log2_lt (by omega)).mpr (by omega)
    omega⟩)
end Jr
namespace Jr
open PySem PySem.Spec PyProof.Rows L2
/-- v is no piece -/
def NoPc (K : PySem.W.Frag) (H : Hp) (z : Str) (rs : Rws) (v : V) : Prop := (∃ t, v = .str t ∧ ¬ t ∈ pcs z rs) ∨ NoStr K H v
theorem NoPc.same {K : PySem.W.Frag} {H H' : Hp} {z : Str} {rs : Rws} {v : V} (h : NoPc K H z rs v) (s : Same H H') : NoPc K H' z rs v := by
  rcases h with h | h
  · exact .inl h
  · exact .inr (h.same s)
/-- the first of us that is no piece stands at i -/
structure FirstPc (K : PySem.W.Frag) (H : Hp) (z : Str) (rs : Rws) (us : List V) (i : Nat) : Prop where
  good : ∀ j v, j < i → us[j]? = some v → ∃ p, p ∈ pcs z rs ∧ v = .str p
  bad : ∃ v, us[i]? = some v ∧ NoPc K H z rs v
theorem FirstPc.same {K : PySem.W.Frag} {H H' : Hp} {z : Str} {rs : Rws} {us : List V} {i : Nat} (h : FirstPc K H z rs us i) (s : Same H H') : FirstPc K H' z rs us i :=
  ⟨h.good, let ⟨v, a, b⟩ := h.bad; ⟨v, a, b.same s⟩⟩
theorem FirstPc.lt {K : PySem.W.Frag} {H : Hp} {z : Str} {rs : Rws} {us : List V} {i : Nat} (h : FirstPc K H z rs us i) : i < us.length := by
  obtain ⟨v, e, _⟩ := h.bad
  exact (List.getElem?_eq_some_iff.mp e).1
theorem noPc_str {K : PySem.W.Frag} {H : Hp} {z : Str} {rs : Rws} {p : Str} (h : NoPc K H z rs (.str p)) : ¬ p ∈ pcs z rs := by
  rcases h with ⟨t, e, n⟩ | ⟨t, a, b⟩
  · cases e; exact n
  · cases a with
    | base a => cases a; rw [isStr] at b; cases b
end Jr
namespace Jr
open PySem PySem.Spec PyProof.Rows L2
/-- v is no list -/
def NoLst (K : PySem.W.Frag) (H : Hp) (v : V) : Prop := ∃ t, TyX K H v t ∧ PySem.W.kitOne K t (.type "list") = some false
theorem NoLst.same {K : PySem.W.Frag} {H H' : Hp} {v : V} (h : NoLst K H v) (s : Same H H') : NoLst K H' v := by
  obtain ⟨t, a, b⟩ := h
  exact ⟨t, tyx_same a s, b⟩
section
variable {K : PySem.W.Frag} {H : Hp}
theorem noLst_non : NoLst K H .non := ⟨_, .base .non, kit_ty (by decide +kernel)⟩
theorem noLst_bl (b : Bool) : NoLst K H (.bl b) := ⟨_, .base (.bl b), kit_ty (by decide +kernel)⟩
theorem noLst_int (i : Int) : NoLst K H (.int i) := ⟨_, .base (.int i), kit_ty (by decide +kernel)⟩
theorem noLst_str (x : Str) : NoLst K H (.str x) := ⟨_, .base (.str x), kit_ty (by decide +kernel)⟩
theorem noLst_tup {a : Addr} {xs : List V} (h : H a = some (.tup xs)) : NoLst K H (.ref a) := ⟨_, .base (.tup h), kit_ty (by decide +kernel)⟩
theorem noLst_dK {a : Addr} {xs : List (Key × V)} (h : H a = some (.dK xs)) : NoLst K H (.ref a) := ⟨_, .base (.dK h), kit_ty (by decide +kernel)⟩
end
end Jr
namespace Jr
open PySem PySem.Spec PyProof.Rows L2
/-! ### what makes no table -/
def SgnOk (c : Nat) : Prop := 32 ≤ c ∧ c ≤ 126 ∧ c ≠ 37
/-- the first wrong sign of z stands at i -/
structure WSign (z : Str) (i : Nat) : Prop where
  bad : ∃ c, z.cps.toList[i]? = some c ∧ (¬ SgnOk c ∨ c ∈ z.cps.toList.take i)
  good : ∀ j d, j < i → z.cps.toList[j]? = some d → SgnOk d ∧ ¬ d ∈ z.cps.toList.take j
def WSigns (K : PySem.W.Frag) (H : Hp) (sv u : V) : Prop := (NoStr K H sv ∧ u = .non) ∨ (∃ z, sv = .str z ∧ z.length ≤ 100000 ∧ ¬ (1 ≤ z.length ∧ z.length ≤ 12) ∧ u = .non) ∨ ∃ z i, sv = .str z ∧ 1 ≤ z.length ∧ z.length ≤ 12 ∧ WSign z i ∧ u = .int (i : Nat)
/-- v is no tuple -/
def NoTup (K : PySem.W.Frag) (H : Hp) (v : V) : Prop := ∃ t, TyX K H v t ∧ PySem.W.kitOne K t (.type "tuple") = some false
theorem NoTup.same {K : PySem.W.Frag} {H H' : Hp} {v : V} (h : NoTup K H v) (s : Same H H') : NoTup K H' v := by
  obtain ⟨t, a, b⟩ := h
  exact ⟨t, tyx_same a s, b⟩
section
variable {K : PySem.W.Frag} {H : Hp}
theorem noTup_non : NoTup K H .non := ⟨_, .base .non, kit_ty (by decide +kernel)⟩
theorem noTup_bl (b : Bool) : NoTup K H (.bl b) := ⟨_, .base (.bl b), kit_ty (by decide +kernel)⟩
theorem noTup_int (i : Int) : NoTup K H (.int i) := ⟨_, .base (.int i), kit_ty (by decide +kernel)⟩
theorem noTup_str (x : Str) : NoTup K H (.str x) := ⟨_, .base (.str x), kit_ty (by decide +kernel)⟩
theorem noTup_lst {a : Addr} {xs : List V} (h : H a = some (.lst xs)) : NoTup K H (.ref a) := ⟨_, .base (.lst h), kit_ty (by decide +kernel)⟩
theorem noTup_dK {a : Addr} {xs : List (Key × V)} (h : H a = some (.dK xs)) : NoTup K H (.ref a) := ⟨_, .base (.dK h), kit_ty (by decide +kernel)⟩
end
/-- two parts that make no row behind rs -/
def BadParts (K : PySem.W.Frag) (H : Hp) (z : Str) (rs : Rws) (u1 u2 : V) : Prop := NoPc K H z rs u1 ∨ ∃ l, u1 = .str l ∧ l ∈ pcs z rs ∧ (NoPc K H z rs u2 ∨ ∃ r, u2 = .str r ∧ r ∈ pcs z rs ∧ (16 < (l ++ r).length ∨ l ++ r ∈ pcs z rs))
/-- v is no row that may stand behind rs -/
def BadRow (K : PySem.W.Frag) (H : Hp) (z : Str) (rs : Rws) (v : V) : Prop := NoTup K H v ∨ ∃ a us, v = .ref a ∧ H a = some (.tup us) ∧ us.length ≤ 1000 ∧ (us.length ≠ 2 ∨ ∃ u1 u2, us = [u1, u2] ∧ BadParts K H z rs u1 u2)
theorem BadParts.same {K : PySem.W.Frag} {H H' : Hp} {z : Str} {rs : Rws} {u1 u2 : V} (h : BadParts K H z rs u1 u2) (s : Same H H') : BadParts K H' z rs u1 u2 := by
  rcases h with h | ⟨l, e, hl, h | h⟩
  · exact .inl (h.same s)
  · exact .inr ⟨l, e, hl, .inl (h.same s)⟩
  · exact .inr ⟨l, e, hl, .inr h⟩
theorem BadRow.same {K : PySem.W.Frag} {H H' : Hp} {z : Str} {rs : Rws} {v : V} (h : BadRow K H z rs v) (s : Same H H') : BadRow K H' z rs v := by
  rcases h with h | ⟨a, us, e, hA, ul, h⟩
  · exact .inl (h.same s)
  · refine .inr ⟨a, us, e, s _ _ hA, ul, ?_⟩
    rcases h with h | ⟨u1, u2, e2, h⟩
    · exact .inl h
    · exact .inr ⟨u1, u2, e2, h.same s⟩
/-- the list us: its first things are the rows rs; the next one, if there is one, may not stand -/
structure RowsTo (K : PySem.W.Frag) (H : Hp) (z : Str) (us : List V) (rs : Rws) : Prop where
  pre : ∃ as, us.take rs.length = as.map V.ref ∧ Paired (TupAt H) as rs
  le : rs.length ≤ us.length
  ok : TabOk z rs
  nx : ∀ v, us[rs.length]? = some v → BadRow K H z rs v
theorem RowsTo.same {K : PySem.W.Frag} {H H' : Hp} {z : Str} {us : List V} {rs : Rws} (h : RowsTo K H z us rs) (s : Same H H') : RowsTo K H' z us rs :=
  ⟨let ⟨as, e, p⟩ := h.pre; ⟨as, e, TupAt.same s p⟩, h.le, h.ok, fun v e => (h.nx v e).same s⟩
def WRows (K : PySem.W.Frag) (H : Hp) (z : Str) (rv u : V) : Prop := (NoLst K H rv ∧ u = .non) ∨ (∃ a us, rv = .ref a ∧ H a = some (.lst us) ∧ us.length ≤ 1000 ∧ 24 < us.length ∧ u = .non) ∨
  ∃ a us rs, rv = .ref a ∧ H a = some (.lst us) ∧ us.length ≤ 24 ∧ RowsTo K H z us rs ∧ rs.length < us.length ∧ u = .int (rs.length : Nat)
/-- what is wrong with signs and rows: the part and the number -/
def WTab (K : PySem.W.Frag) (H : Hp) (sv rv : V) (part : Str) (u : V) : Prop := (part = Str.ofString "signs" ∧ WSigns K H sv u) ∨ (part = Str.ofString "rows" ∧ ∃ z, sv = .str z ∧ SignsOk z ∧ 1 ≤ z.length ∧ z.length ≤ 12 ∧ WRows K H z rv u)
theorem WSigns.same {K : PySem.W.Frag} {H H' : Hp} {sv u : V} (h : WSigns K H sv u) (s : Same H H') : WSigns K H' sv u := by
  rcases h with ⟨h, e⟩ | h | h
  · exact .inl ⟨h.same s, e⟩
  · exact .inr (.inl h)
  · exact .inr (.inr h)
theorem WRows.same {K : PySem.W.Frag} {H H' : Hp} {z : Str} {rv u : V} (h : WRows K H z rv u) (s : Same H H') : WRows K H' z rv u := by
  rcases h with ⟨h, e⟩ | ⟨a, us, e, hA, h⟩ | ⟨a, us, rs, e, hA, ul, rt, h⟩
  · exact .inl ⟨h.same s, e⟩
  · exact .inr (.inl ⟨a, us, e, s _ _ hA, h⟩)
  · exact .inr (.inr ⟨a, us, rs, e, s _ _ hA, ul, rt.same s, h⟩)
theorem WTab.same {K : PySem.W.Frag} {H H' : Hp} {sv rv : V} {p : Str} {u : V} (h : WTab K H sv rv p u) (s : Same H H') : WTab K H' sv rv p u := by
  rcases h with ⟨e, h⟩ | ⟨e, z, e2, a, b, c, h⟩
  · exact .inl ⟨e, h.same s⟩
  · exact .inr ⟨e, z, e2, a, b, c, h.same s⟩
theorem WTab.fmt {K : PySem.W.Frag} {H : Hp} {sv rv : V} {p : Str} {u : V} (h : WTab K H sv rv p u) : (p = Str.ofString "signs" ∨ p = Str.ofString "rows") ∧ (u = .non ∨ ∃ i : Nat, i ≤ 24 ∧ u = .int (i : Nat)) := by
  rcases h with ⟨e, ⟨_, h⟩ | ⟨_, _, _, _, h⟩ | ⟨z, i, _, _, z12, w, h⟩⟩ | ⟨e, z, _, _, _, _, ⟨_, h⟩ | ⟨_, _, _, _, _, _, h⟩ | ⟨a, us, rs, _, _, ul, _, rl, h⟩⟩
  · exact ⟨.inl e, .inl h⟩
  · exact ⟨.inl e, .inl h⟩
  · obtain ⟨c, hc, _⟩ := w.bad
    have := (List.getElem?_eq_some_iff.mp hc).1
    rw [len_cps] at this
    exact ⟨.inl e, .inr ⟨i, by omega, h⟩⟩
  · exact ⟨.inr e, .inl h⟩
  · exact ⟨.inr e, .inl h⟩
  · exact ⟨.inr e, .inr ⟨_, by omega, h⟩⟩
theorem signs_ok_of {z : Str} (h : ∀ j d, z.cps.toList[j]? = some d → SgnOk d ∧ ¬ d ∈ z.cps.toList.take j) : SignsOk z := by
  refine ⟨?_, fun c hc => ?_⟩
  · rw [List.Nodup, List.pairwise_iff_getElem]
    intro i j hi hj hij e
    have ej := List.getElem?_eq_getElem hj
    refine (h j _ ej).2 ?_
    refine List.mem_of_getElem? (i := i) ?_
    rw [List.getElem?_take, if_pos hij, List.getElem?_eq_getElem hi, e]
  · obtain ⟨j, hj, e⟩ := List.mem_iff_getElem.mp hc
    exact (h j c (by rw [List.getElem?_eq_getElem hj, e])).1
/-- every text of one to twelve signs is good, or has a first wrong one -/
theorem wsign_or (z : Str) : SignsOk z ∨ ∃ i, WSign z i := by
  by_cases h : ∃ i, ∃ c, z.cps.toList[i]? = some c ∧ (¬ SgnOk c ∨ c ∈ z.cps.toList.take i)
  · have key : ∀ n, (∃ i, i ≤ n ∧ ∃ c, z.cps.toList[i]? = some c ∧ (¬ SgnOk c ∨ c ∈ z.cps.toList.take i)) → ∃ i, WSign z i := fun n => by
      induction n with
      | zero =>
        rintro ⟨i, hi, c, hc, b⟩
        exact ⟨i, ⟨c, hc, b⟩, fun j d hj => by omega⟩
      | succ n ih =>
        rintro ⟨i, hi, c, hc, b⟩
        by_cases e : ∃ i, i ≤ n ∧ ∃ c, z.cps.toList[i]? = some c ∧ (¬ SgnOk c ∨ c ∈ z.cps.toList.take i)
        · exact ih e
        · refine ⟨i, ⟨c, hc, b⟩, fun j d hj hd => ?_⟩
          have no : ¬ (¬ SgnOk d ∨ d ∈ z.cps.toList.take j) := fun x => e ⟨j, by omega, d, hd, x⟩
          exact ⟨Classical.byContradiction fun x => no (.inl x), fun x => no (.inr x)⟩
    obtain ⟨i, hi⟩ := h
    exact .inr (key i ⟨i, Nat.le_refl _, hi⟩)
  · refine .inl (signs_ok_of fun j d hd => ?_)
    have no : ¬ (¬ SgnOk d ∨ d ∈ z.cps.toList.take j) := fun x => h ⟨j, d, hd, x⟩
    exact ⟨Classical.byContradiction fun x => no (.inl x), fun x => no (.inr x)⟩
end Jr
namespace Jr
open PySem PySem.Spec PyProof.Rows L2
/-- raised with two fields -/
def Rz2 (C : Addr) (f g : Str) (v u : V) (H : Hp) (E : XK) : Prop := ∀ H' d, Same H H' → H d = none → H' d = some (.xd [(g, u), (f, v)]) → E (.ref C) (some d) H'
theorem Rz2.same {C : Addr} {f g : Str} {v u : V} {H H1 : Hp} {E : XK} (h : Rz2 C f g v u H E) (s : Same H H1) : Rz2 C f g v u H1 E := fun H' d s1 n e => h H' d (s.trans s1) (s.free n) e
theorem Rz2.now {C : Addr} {f g : Str} {v u : V} {H : Hp} {E : XK} (h : Rz2 C f g v u H E) : ∀ d, H d = none → E (.ref C) (some d) (upd H d (.xd [(g, u), (f, v)])) := fun d n => h _ d (Same.new n) n upd_same
end Jr
namespace Jr
open PySem PySem.Spec PyProof.Rows L2
section
variable {P : Program} {w : World} {K : PySem.W.Frag} {mg : Str → Option Value} {base : Heap}
def spMayBe : Sp := fun vs H Q _ => ∃ c : Nat, vs = [.str (sgn c)] ∧ Q (.bl (decide (32 ≤ c ∧ c ≤ 126 ∧ c ≠ 37))) H
theorem cal_may_be_sign (T : Tx K mg) : Cal P w K mg base CX0 1 "may_be_sign" spMayBe := by
  obtain ⟨fd, F⟩ := T.d_may_be_sign
  refine ⟨_, fd, P_may_be_sign, F.ok sc_may_be_sign (fun vs H Q E h => ?_) (fun cdv A outer s H vs Q E hr h => ?_), T.g_may_be_sign, F.kp, F.bindsN (ps := P_may_be_sign) fun _ _ _ _ _ _ us hl => match us, hl with | [_], _ => rfl⟩
  · obtain ⟨c, rfl, _⟩ := h
    rfl
  · obtain ⟨c, rfl, k⟩ := h
    refine ⟨_, (PSs.nox (pss_cons (ps_set (i := 1) sc_may_be_sign.nd rfl (Or.inl rfl) (pe_callB (id := "ord") call_ord (by rfl) T.n_ord (by decide +kernel) (pa_cons (pv 0) pa_nil)))
      (pss_one (ps_ret (pe_and (pe_chain op_le op_le (pe_glob (v := .int 32) (by rfl) T.c_BLANK_CODE.choose_spec ⟨_, rfl⟩) (pv 1) (pe_glob (v := .int 126) (by rfl) T.c_TILDE_CODE.choose_spec ⟨_, rfl⟩)) (pe_one (pe_cmpR op_ne (pv 1) (pe_glob (v := .int 37) (by rfl) T.c_PERCENT_CODE.choose_spec ⟨_, rfl⟩) (nomark _)))))))), ?_⟩
    refine ⟨_, rfl, _, rfl, rfl, ?_⟩
    have ec : (((sgn c).cps.getD 0 0 : Nat) : Int) = (c : Int) := rfl
    rw [ec]
    refine ⟨_, rfl, _, _, rfl, rfl, _, rfl, ite2 (fun c1 => ⟨_, _, rfl, rfl, _, rfl, ite2 (fun c2 => ⟨_, rfl, rfl, ?_⟩) (fun c2 => ?_)⟩) (fun c1 => ⟨_, rfl, iteF ?_⟩)⟩
    · have h1 : (32 : Int) ≤ c := of_decide_eq_true c1
      have h2 : (c : Int) ≤ 126 := of_decide_eq_true c2
      have e : (!decide (V.int (c : Int) = V.int 37)) = decide (32 ≤ c ∧ c ≤ 126 ∧ c ≠ 37) := by
        by_cases h3 : c = 37
        · subst h3; decide
        · have h4 : ¬ V.int (c : Int) = V.int 37 := fun z => h3 (by have := V.int.inj z; omega)
          rw [decide_eq_false h4, decide_eq_true ⟨by omega, by omega, h3⟩]; rfl
      show Q (V.bl (!decide (V.int (c : Int) = V.int 37))) H
      rw [e]
      exact k
    · have h2 : ¬ (c : Int) ≤ 126 := of_decide_eq_false (by simpa using c2)
      have e : decide (32 ≤ c ∧ c ≤ 126 ∧ c ≠ 37) = false := decide_eq_false (by omega)
      rw [e] at k
      exact k
    · have h1 : ¬ (32 : Int) ≤ c := of_decide_eq_false (by simpa using c1)
      have e : decide (32 ≤ c ∧ c ≤ 126 ∧ c ≠ 37) = false := decide_eq_false (by omega)
      rw [e] at k
      exact k
end
end Jr
namespace Jr
open PySem PySem.Spec PyProof.Rows L2
section
variable {P : Program} {w : World} {K : PySem.W.Frag} {mg : Str → Option Value} {base : Heap}
/-! ### may_be_sign, check_signs -/
def spCheckSigns : Sp := fun vs H Q _ => ∃ z : Str, vs = [.str z] ∧ SignsOk z ∧ 1 ≤ z.length ∧ z.length ≤ 12 ∧ ∀ H', Same H H' → Q .non H'
theorem cal_check_signs (T : Tx K mg) : Cal P w K mg base CX0 2 "check_signs" spCheckSigns := by
  have C_may_be_sign := cal_may_be_sign (P := P) (w := w) (base := base) T
  obtain ⟨fd, F⟩ := T.d_check_signs
  refine ⟨_, fd, P_check_signs, F.ok sc_check_signs (fun vs H Q E h => ?_) (fun cdv A outer s H vs Q E hr h => ?_), T.g_check_signs, F.kp, F.bindsN (ps := P_check_signs) fun _ _ _ _ _ _ us hl => match us, hl with | [_], _ => rfl⟩
  · obtain ⟨z, rfl, _⟩ := h
    rfl
  · obtain ⟨z, rfl, ok, z1, z12, k⟩ := h
    refine ⟨_, (PSs.nox (pss_cons (ps_if (PW.pt (pw_or (pt_not (pt_val (pe_callB (id := "isinstance") call_isi (by rfl) T.n_isinstance (by decide +kernel) (pa_cons (pv 0) (pa_cons (pe_bltn (v := .ty "str") (by rfl) T.n_str (by decide +kernel) rfl) pa_nil))))) (pw_or1 (pt_not (pt_chain op_le op_le pe_int (pe_callB (id := "len") call_len_str (by rfl) T.n_len (by decide +kernel) (pa_cons (pv 0) pa_nil)) (pe_glob (v := .int 12) (by rfl) T.c_MOST_SIGNS.choose_spec ⟨_, rfl⟩)))))) (pss_one ps_never) pss_nil)
      (pss_one (ps_for PassesOwn.never rfl (pi_enumS (by rfl) T.n_enumerate (pa_cons (pv 0) pa_nil)) (pg_tup rfl (pgs_cons (pg_name (i := 1) sc_check_signs.nd rfl (Or.inl rfl)) (pgs_cons (pg_name (i := 2) sc_check_signs.nd rfl (Or.inl rfl)) pgs_nil))) (pss_one (ps_if (PW.pt (pw_or (pt_not (pt_val (pe_cal C_may_be_sign (by first | exact hr | exact hr.mono (by decide)) (by rfl) (pa_cons (pv 2) pa_nil)))) (pw_or1 (pt_cmpR op_in_sign (pv 2) (pe_slice sl_str (pv 0) po_none (po_some (pv 1))) rfl)))) (pss_one ps_never) pss_nil)))))), ?_⟩
    have hz : z.length ≤ sizeLine := sz (by omega)
    refine ⟨_, rfl, _, _, _, _, _, rfl, .ty "str", .base (.str z), isStr, _, rfl, iteF ?_⟩
    refine ⟨_, rfl, _, rfl, hz, _, _, rfl, rfl, _, rfl, ?_⟩
    rw [decide_eq_true (show (1 : Int) ≤ (z.length : Int) by omega)]
    refine iteT ⟨_, _, rfl, rfl, _, rfl, ?_⟩
    rw [decide_eq_true (show (z.length : Int) ≤ 12 by omega)]
    refine iteF ?_
    refine ⟨_, rfl, z, rfl, for_enumS (x := z) (fun i σ H' => ∃ u v : Option V, σ = [some (.str z), u, v] ∧ Same H H') ⟨none, none, rfl, Same.refl H⟩ ?_ ?_⟩
    · rintro i c t σ H' hi ht ⟨u, v, rfl, sm⟩
      have oc := ok.ok c (List.mem_of_getElem? hi)
      have s2 := Same.put (o := .tup [.int (i : Nat), .str (sgn c)]) sm ht
      refine ⟨t, _, rfl, SqT.of upd_same, rfl, _, _, rfl, _, _, rfl, rfl, ?_⟩
      refine ⟨_, rfl, c, rfl, _, rfl, ?_⟩
      rw [decide_eq_true oc]
      refine iteF ⟨_, rfl, _, rfl, _, rfl, _, rfl, _, rfl, hz, c, _, rfl, rfl, _, rfl, ?_⟩
      have hn : ¬ c ∈ (cutS z none (some (i : Int))).cps.toList := by
        rw [cut_to]
        intro hm
        have e : z.cps.toList = z.cps.toList.take i ++ z.cps.toList.drop i := (List.take_append_drop _ _).symm
        have nd := ok.nd
        rw [e, List.nodup_append] at nd
        have hd : c ∈ z.cps.toList.drop i := by
          refine List.mem_of_getElem? (i := 0) ?_
          rw [List.getElem?_drop]
          exact hi
        exact nd.2.2 c hm c hd rfl
      rw [decide_eq_false hn]
      exact iteF ⟨_, _, rfl, s2⟩
    · rintro σ H' ⟨u, v, rfl, sm⟩
      exact k _ sm
/-! ### methods, while the table is being made -/
abbrev TC (K : PySem.W.Frag) : Addr := He.ga K "Table"
def spTakePiece (K : PySem.W.Frag) : Sp := fun vs H Q _ => ∃ (x dx : Addr) (z : Str) (lr lp dn dr : Addr) (ps : List Str) (p : Str), vs = [.ref x, .str p] ∧ H x = some (.ins (TC K) dx (tf5 z lr lp dn dr)) ∧ H lp = some (.lst (ps.map V.str)) ∧ H dn = some (.dK (numD 0 ps)) ∧
  ¬ p ∈ ps ∧ ps.length ≤ 1000 ∧ Q .non (upd (upd H dn (.dK (numD 0 (ps ++ [p])))) lp (.lst ((ps ++ [p]).map V.str)))
theorem met_take_piece (T : Tx K mg) : Met P w K mg base CX0 1 (TC K) "take_piece" (spTakePiece K) := by
  obtain ⟨fd, F⟩ := T.d_Table_take_piece
  refine ⟨T.cl_Table, _, fd, P_Table_take_piece, F.ok sc_Table_take_piece (fun vs H Q E h => ?_) (fun cdv A outer s H vs Q E hr h => ?_), T.m_Table_take_piece, F.bindsN (ps := P_Table_take_piece) fun _ _ _ _ _ _ us hl => match us, hl with | [_, _], _ => rfl⟩
  · obtain ⟨x, dx, z, lr, lp, dn, dr, ps, p, rfl, _⟩ := h
    rfl
  · obtain ⟨x, dx, z, lr, lp, dn, dr, ps, p, rfl, hx, hp, hn, np, hl, k⟩ := h
    refine ⟨_, (PSs.nox (pss_cons (ps_dput (hu_of hr) (pe_fld (pv 0) rfl) (pv 1) (pe_callB (id := "len") call_len_seq (by rfl) T.n_len (by decide +kernel) (pa_cons (pe_fld (pv 0) rfl) pa_nil)) rfl)
      (pss_one (ps_expr (pe_bm PySem.F.plainAttrs_list PySem.F.slot_list_append PySem.F.type_list_append mt_append (pe_fld (pv 0) rfl) (pa_cons (pv 1) pa_nil)))))), ?_⟩
    have nxn : x ≠ dn := ne_of hx hn (by intro q; cases q)
    have npn : lp ≠ dn := ne_of hp hn (by intro q; cases q)
    refine ⟨_, rfl, x, _, dx, _, _, rfl, hx, T.cl_Table, T.no_Table_piece_list, l5_pl _ _ _ _ _, _, _, rfl, .inl (SqL.of hp), _, rfl, x, _, dx, _, _, rfl, hx, T.cl_Table, T.no_Table_number_by_piece, l5_num _ _ _ _ _, _, rfl, dn, _, rfl, DPut.k (k := Sum.inr p) hn ?_, ?_⟩
    · rw [numD_len]; exact szl (by omega)
    rw [putK_new _ (numD_none 0 ps p np), List.length_map]
    have e : numD 0 ps ++ [(Sum.inr p, V.int ((ps.length : Nat) : Int))] = numD 0 (ps ++ [p]) := by rw [numD_snoc, Nat.zero_add]
    rw [e]
    refine ⟨_, rfl, x, _, dx, _, _, rfl, (by rw [upd_ne nxn]; exact hx), T.cl_Table, T.no_Table_piece_list, l5_pl _ _ _ _ _, .inl ⟨rfl, _, SqL.of (by rw [upd_ne npn]; exact hp)⟩, _, rfl, lp, _, _, rfl, rfl, (by rw [upd_ne npn]; exact hp), ?_, ?_⟩
    · rw [List.length_map]; exact szl (by omega)
    · have e2 : ps.map V.str ++ [V.str p] = (ps ++ [p]).map V.str := by rw [List.map_append]; rfl
      rw [e2]
      exact k
/-- which: of a text its number, of all else None -/
def spWhich (K : PySem.W.Frag) : Sp := fun vs H Q _ => ∃ (x dx : Addr) (fs : List (Str × V)) (dn : Addr) (ps : List Str) (v : V), vs = [.ref x, v] ∧ H x = some (.ins (TC K) dx fs) ∧ fs.lookup ("number_by_piece" : Str) = some (.ref dn) ∧ H dn = some (.dK (numD 0 ps)) ∧
  ((∃ p : Str, v = .str p ∧ Q ((valV (numD 0 ps) (Sum.inr p)).getD .non) H) ∨ (NoStr K H v ∧ Q .non H))
theorem met_which (T : Tx K mg) : Met P w K mg base CX0 1 (TC K) "which" (spWhich K) := by
  obtain ⟨fd, F⟩ := T.d_Table_which
  refine ⟨T.cl_Table, _, fd, P_Table_which, F.ok sc_Table_which (fun vs H Q E h => ?_) (fun cdv A outer s H vs Q E hr h => ?_), T.m_Table_which, F.bindsN (ps := P_Table_which) fun _ _ _ _ _ _ us hl => match us, hl with | [_, _], _ => rfl⟩
  · obtain ⟨x, dx, fs, dn, ps, v, rfl, _⟩ := h
    rfl
  · obtain ⟨x, dx, fs, dn, ps, v, rfl, hx, hf, hn, k⟩ := h
    refine ⟨_, (PSs.nox (pss_cons (ps_if (pt_not (pt_val (pe_callB (id := "isinstance") call_isi (by rfl) T.n_isinstance (by decide +kernel) (pa_cons (pv 1) (pa_cons (pe_bltn (v := .ty "str") (by rfl) T.n_str (by decide +kernel) rfl) pa_nil))))) (pss_one (ps_ret pe_non)) pss_nil)
      (pss_one (ps_ret (pe_dget1 (hu_of hr) (pe_fld (pv 0) rfl) (pv 1) ⟨by rfl, by rfl, by rfl, by rfl⟩))))), ?_⟩
    rcases k with ⟨p, rfl, k⟩ | ⟨⟨t, ht, hk⟩, k⟩
    · refine ⟨_, rfl, _, _, _, _, _, rfl, .ty "str", .base (.str p), isStr, _, rfl, iteF ?_⟩
      exact ⟨_, rfl, x, _, dx, _, _, rfl, hx, T.cl_Table, T.no_Table_number_by_piece, hf, dn, rfl, .inl ⟨_, .inl hn⟩, _, rfl, _, DGet.k (k := Sum.inr p) hn, k⟩
    · exact ⟨_, rfl, _, _, _, _, _, rfl, .ty "str", ht, hk, _, rfl, iteT k⟩
def spMayTake (K : PySem.W.Frag) : Sp := fun vs H Q _ => ∃ (x dx : Addr) (z : Str) (lr lp dn dr : Addr) (ps : List Str) (a : Addr) (l r : Str), vs = [.ref x, .ref a] ∧ H x = some (.ins (TC K) dx (tf5 z lr lp dn dr)) ∧ H dn = some (.dK (numD 0 ps)) ∧ ps.Nodup ∧
  H a = some (.tup [.str l, .str r]) ∧ l ∈ ps ∧ r ∈ ps ∧ (l ++ r).length ≤ 16 ∧ ¬ (l ++ r) ∈ ps ∧ Q (.bl true) H
theorem num_some {ps : List Str} {p : Str} (nd : ps.Nodup) (h : p ∈ ps) : ∃ i : Nat, ps[i]? = some p ∧ valV (numD 0 ps) (Sum.inr p) = some (V.int (i : Nat)) := by
  obtain ⟨i, hi, e⟩ := List.mem_iff_getElem.mp h
  have e2 : ps[i]? = some p := by rw [List.getElem?_eq_getElem hi, e]
  have e3 := numD_at 0 ps p i nd e2
  rw [Nat.zero_add] at e3
  exact ⟨i, e2, e3⟩
theorem met_may_take_row (T : Tx K mg) : Met P w K mg base CX0 2 (TC K) "may_take_row" (spMayTake K) := by
  have M_Table_which := met_which (P := P) (w := w) (base := base) T
  obtain ⟨fd, F⟩ := T.d_Table_may_take_row
  refine ⟨T.cl_Table, _, fd, P_Table_may_take_row, F.ok sc_Table_may_take_row (fun vs H Q E h => ?_) (fun cdv A outer s H vs Q E hr h => ?_), T.m_Table_may_take_row, F.bindsN (ps := P_Table_may_take_row) fun _ _ _ _ _ _ us hl => match us, hl with | [_, _], _ => rfl⟩
  · obtain ⟨x, dx, z, lr, lp, dn, dr, ps, a, l, r, rfl, _⟩ := h
    rfl
  · obtain ⟨x, dx, z, lr, lp, dn, dr, ps, a, l, r, rfl, hx, hn, nd, ha, hl, hr', hlen, hnew, k⟩ := h
    refine ⟨_, (PSs.nox (pss_cons (ps_if (PW.pt (pw_or (pt_not (pt_val (pe_callB (id := "isinstance") call_isi (by rfl) T.n_isinstance (by decide +kernel) (pa_cons (pv 1) (pa_cons (pe_bltn (v := .ty "tuple") (by rfl) T.n_tuple (by decide +kernel) rfl) pa_nil))))) (pw_or1 (pt_cmpR op_ne (pe_callB (id := "len") call_len_seq (by rfl) T.n_len (by decide +kernel) (pa_cons (pv 1) pa_nil)) pe_int (nomark _))))) (pss_one (ps_ret pe_bl)) pss_nil)
      (pss_cons (ps_asg (pv 1) (pg_tup rfl (pgs_cons (pg_name (i := 2) sc_Table_may_take_row.nd rfl (Or.inl rfl)) (pgs_cons (pg_name (i := 3) sc_Table_may_take_row.nd rfl (Or.inl rfl)) pgs_nil))))
      (pss_cons (ps_if (PW.pt (pw_or (pt_cmpR op_isN (pe_met M_Table_which (pv 0) (by first | exact hr | exact hr.mono (by decide)) (pa_cons (pv 2) pa_nil)) pe_non (nomark _)) (pw_or1 (pt_cmpR op_isN (pe_met M_Table_which (pv 0) (by first | exact hr | exact hr.mono (by decide)) (pa_cons (pv 3) pa_nil)) pe_non (nomark _))))) (pss_one (ps_ret pe_bl)) pss_nil)
      (pss_cons (ps_set (i := 4) sc_Table_may_take_row.nd rfl (Or.inl rfl) (pe_op op_add_str (pv 2) (pv 3)))
      (pss_one (ps_ret (pe_and (pe_cmpR op_le (pe_callB (id := "len") call_len_str (by rfl) T.n_len (by decide +kernel) (pa_cons (pv 4) pa_nil)) (pe_glob (v := .int 16) (by rfl) T.c_MOST_JOINED.choose_spec ⟨_, rfl⟩) (nomark _)) (pe_one (pe_cmpR op_isN (pe_met M_Table_which (pv 0) (by first | exact hr | exact hr.mono (by decide)) (pa_cons (pv 4) pa_nil)) pe_non (nomark _))))))))))), ?_⟩
    obtain ⟨i, _, ei⟩ := num_some nd hl
    obtain ⟨j, _, ej⟩ := num_some nd hr'
    have la := app_len l r
    refine ⟨_, rfl, _, _, _, _, _, rfl, .ty "tuple", .base (.tup ha), isTup, _, rfl, iteF ⟨_, rfl, a, _, rfl, .inr (SqT.of ha), rfl, _, rfl, iteF ?_⟩⟩
    refine ⟨_, rfl, a, _, rfl, SqT.of ha, rfl, _, _, rfl, _, _, rfl, rfl, ?_⟩
    refine ⟨_, rfl, x, dx, _, rfl, hx, l5_which _ _ _ _ _, _, rfl, x, dx, _, dn, ps, _, rfl, hx, l5_num _ _ _ _ _, hn, .inl ⟨l, rfl, ?_⟩⟩
    rw [ei]
    refine ⟨rfl, _, rfl, iteF ?_⟩
    refine ⟨_, rfl, x, dx, _, rfl, hx, l5_which _ _ _ _ _, _, rfl, x, dx, _, dn, ps, _, rfl, hx, l5_num _ _ _ _ _, hn, .inl ⟨r, rfl, ?_⟩⟩
    rw [ej]
    refine ⟨rfl, _, rfl, iteF ?_⟩
    refine ⟨_, rfl, _, rfl, _, _, rfl, rfl, sz (by omega), ?_⟩
    refine ⟨_, rfl, _, rfl, sz (by omega), _, _, rfl, rfl, _, rfl, ?_⟩
    rw [decide_eq_true (show ((l ++ r).length : Int) ≤ 16 by omega)]
    refine iteT ⟨_, rfl, x, dx, _, rfl, hx, l5_which _ _ _ _ _, _, rfl, x, dx, _, dn, ps, _, rfl, hx, l5_num _ _ _ _ _, hn, .inl ⟨l ++ r, rfl, ?_⟩⟩
    rw [numD_none 0 ps _ hnew]
    exact ⟨rfl, k⟩
def spTakeRow (K : PySem.W.Frag) : Sp := fun vs H Q _ => ∃ (x dx : Addr) (z : Str) (lr lp dn dr : Addr) (ps : List Str) (as : List Addr) (rs : Rws) (a : Addr) (l r : Str), vs = [.ref x, .ref a] ∧ H x = some (.ins (TC K) dx (tf5 z lr lp dn dr)) ∧
  H lr = some (.lst (as.map V.ref)) ∧ lr ≠ lp ∧ H lp = some (.lst (ps.map V.str)) ∧ H dn = some (.dK (numD 0 ps)) ∧ H dr = some (.dT (rankD 0 rs)) ∧ as.length = rs.length ∧ rs.length ≤ 1000 ∧ ps.length ≤ 1000 ∧
  H a = some (.tup [.str l, .str r]) ∧ ¬ (l ++ r) ∈ ps ∧ (l ++ r).length ≤ 1000 ∧ ¬ (l, r) ∈ rs ∧
  ∀ H' t, (∀ b o, b ≠ lr → b ≠ lp → b ≠ dn → b ≠ dr → H b = some o → H' b = some o) → H t = none → H' t = some (.tup [.str l, .str r]) → H' lr = some (.lst ((as ++ [t]).map V.ref)) → H' lp = some (.lst ((ps ++ [l ++ r]).map V.str)) →
    H' dn = some (.dK (numD 0 (ps ++ [l ++ r]))) → H' dr = some (.dT (rankD 0 (rs ++ [(l, r)]))) → Q .non H'
theorem met_take_row (T : Tx K mg) : Met P w K mg base CX0 2 (TC K) "take_row" (spTakeRow K) := by
  have M_Table_take_piece := met_take_piece (P := P) (w := w) (base := base) T
  obtain ⟨fd, F⟩ := T.d_Table_take_row
  refine ⟨T.cl_Table, _, fd, P_Table_take_row, F.ok sc_Table_take_row (fun vs H Q E h => ?_) (fun cdv A outer s H vs Q E hr h => ?_), T.m_Table_take_row, F.bindsN (ps := P_Table_take_row) fun _ _ _ _ _ _ us hl => match us, hl with | [_, _], _ => rfl⟩
  · obtain ⟨x, dx, z, lr, lp, dn, dr, ps, as, rs, a, l, r, rfl, _⟩ := h
    rfl
  · obtain ⟨x, dx, z, lr, lp, dn, dr, ps, as, rs, a, l, r, rfl, hx, hlr, nrp, hlp, hdn, hdr, hl1, hl2, hl3, ha, hnew, hlen, hnr, k⟩ := h
    refine ⟨_, (PSs.nox (pss_cons (ps_asg (pv 1) (pg_tup rfl (pgs_cons (pg_name (i := 2) sc_Table_take_row.nd rfl (Or.inl rfl)) (pgs_cons (pg_name (i := 3) sc_Table_take_row.nd rfl (Or.inl rfl)) pgs_nil))))
      (pss_cons (ps_dput (hu_of hr) (pe_fld (pv 0) rfl) (pe_tup (pa_cons (pv 2) (pa_cons (pv 3) pa_nil))) (pe_callB (id := "len") call_len_seq (by rfl) T.n_len (by decide +kernel) (pa_cons (pe_fld (pv 0) rfl) pa_nil)) rfl)
      (pss_cons (ps_expr (pe_bm PySem.F.plainAttrs_list PySem.F.slot_list_append PySem.F.type_list_append mt_append (pe_fld (pv 0) rfl) (pa_cons (pe_tup (pa_cons (pv 2) (pa_cons (pv 3) pa_nil))) pa_nil)))
      (pss_one (ps_expr (pe_met M_Table_take_piece (pv 0) (by first | exact hr | exact hr.mono (by decide)) (pa_cons (pe_op op_add_str (pv 2) (pv 3)) pa_nil)))))))), ?_⟩
    have la := app_len l r
    have x1 : x ≠ lr := ne_of hx hlr (by intro q; cases q)
    have x2 : x ≠ lp := ne_of hx hlp (by intro q; cases q)
    have x3 : x ≠ dn := ne_of hx hdn (by intro q; cases q)
    have x4 : x ≠ dr := ne_of hx hdr (by intro q; cases q)
    have r1 : lr ≠ dn := ne_of hlr hdn (by intro q; cases q)
    have r2 : lr ≠ dr := ne_of hlr hdr (by intro q; cases q)
    have p1 : lp ≠ dn := ne_of hlp hdn (by intro q; cases q)
    have p2 : lp ≠ dr := ne_of hlp hdr (by intro q; cases q)
    have d1 : dn ≠ dr := ne_of hdn hdr (by intro q; cases q)
    refine ⟨_, rfl, a, _, rfl, SqT.of ha, rfl, _, _, rfl, _, _, rfl, rfl, ?_⟩
    refine ⟨_, rfl, x, _, dx, _, _, rfl, hx, T.cl_Table, T.no_Table_row_list, l5_rl _ _ _ _ _, _, _, rfl, .inl (SqL.of hlr), _, rfl, x, _, dx, _, _, rfl, hx, T.cl_Table, T.no_Table_rank_by_row, l5_rk _ _ _ _ _, ?_⟩
    refine ⟨_, rfl, _, rfl, (by show 2 ≤ sizeLine; decide), fun t ht => ?_⟩
    have tr : t ≠ dr := fun e => by rw [e, hdr] at ht; cases ht
    have s1 := Same.new (o := .tup [V.str l, V.str r]) ht
    refine ⟨dr, _, rfl, DPut.t (k := [Sum.inr l, Sum.inr r]) (s1 _ _ hdr) upd_same ?_, ?_⟩
    · rw [rankD_len]; exact szl (by omega)
    rw [putK_new _ (rankD_none 0 rs l r hnr), List.length_map, hl1]
    have e : rankD 0 rs ++ [([Sum.inr l, Sum.inr r], V.int ((rs.length : Nat) : Int))] = rankD 0 (rs ++ [(l, r)]) := by rw [rankD_snoc, Nat.zero_add]
    rw [e]
    refine ⟨_, rfl, x, _, dx, _, _, rfl, (by rw [upd_ne x4]; exact s1 _ _ hx), T.cl_Table, T.no_Table_row_list, l5_rl _ _ _ _ _, .inl ⟨rfl, _, SqL.of (by rw [upd_ne r2]; exact s1 _ _ hlr)⟩, _, rfl, _, rfl, (by show 2 ≤ sizeLine; decide), fun u hu => ?_⟩
    have hu1 : (upd H t (.tup [V.str l, V.str r])) u = none := by
      by_cases e1 : u = dr
      · rw [e1, upd_same] at hu; cases hu
      · rw [upd_ne e1] at hu; exact hu
    have huH : H u = none := s1.free hu1
    have ut : u ≠ t := fun e1 => by rw [e1, upd_same] at hu1; cases hu1
    have ur : u ≠ lr := fun e1 => by rw [e1, hlr] at huH; cases huH
    have up : u ≠ lp := fun e1 => by rw [e1, hlp] at huH; cases huH
    have un : u ≠ dn := fun e1 => by rw [e1, hdn] at huH; cases huH
    have ud : u ≠ dr := fun e1 => by rw [e1, hdr] at huH; cases huH
    have ux : u ≠ x := fun e1 => by rw [e1, hx] at huH; cases huH
    refine ⟨lr, _, _, rfl, rfl, (by rw [upd_ne (Ne.symm ur), upd_ne r2]; exact s1 _ _ hlr), ?_, ?_⟩
    · rw [List.length_map, hl1]; exact szl (by omega)
    have hx2 : (upd (upd (upd (upd H t (.tup [V.str l, V.str r])) dr (.dT (rankD 0 (rs ++ [(l, r)])))) u (.tup [V.str l, V.str r])) lr (.lst (as.map V.ref ++ [V.ref u]))) x = some (.ins (TC K) dx (tf5 z lr lp dn dr)) := by
      rw [upd_ne x1, upd_ne (Ne.symm ux), upd_ne x4]; exact s1 _ _ hx
    refine ⟨_, rfl, x, dx, _, rfl, hx2, l5_tp _ _ _ _ _, _, rfl, _, rfl, _, _, rfl, rfl, sz (by omega), x, dx, z, lr, lp, dn, dr, ps, l ++ r, rfl, hx2, ?_, ?_, hnew, hl3, ?_⟩
    · rw [upd_ne (Ne.symm nrp), upd_ne (Ne.symm up), upd_ne p2]; exact s1 _ _ hlp
    · rw [upd_ne (Ne.symm r1), upd_ne (Ne.symm un), upd_ne d1]; exact s1 _ _ hdn
    · refine k _ u (fun b o b1 b2 b3 b4 hb => ?_) huH ?_ ?_ upd_same ?_ ?_
      · have bu : b ≠ u := ne_of_none hb huH
        rw [upd_ne b2, upd_ne b3, upd_ne b1, upd_ne bu, upd_ne b4]; exact s1 _ _ hb
      · rw [upd_ne up, upd_ne un, upd_ne ur, upd_same]
      · rw [upd_ne nrp, upd_ne r1, upd_same, List.map_append]; rfl
      · rw [upd_ne (Ne.symm p1), upd_same]
      · rw [upd_ne (Ne.symm p2), upd_ne (Ne.symm d1), upd_ne (Ne.symm r2), upd_ne (Ne.symm ud), upd_same]
end
end Jr
namespace Jr
open PySem PySem.Spec PyProof.Rows L2
/-- a table that is being made -/
structure Mid (K : PySem.W.Frag) (H0 H : Hp) (x dx : Addr) (z : Str) (lr lp dn dr : Addr) (as : List Addr) (ps : List Str) (rs : Rws) : Prop where
  hx : H x = some (.ins (TC K) dx (tf5 z lr lp dn dr))
  hlr : H lr = some (.lst (as.map V.ref))
  hts : Paired (TupAt H) as rs
  hlp : H lp = some (.lst (ps.map V.str))
  hdn : H dn = some (.dK (numD 0 ps))
  hdr : H dr = some (.dT (rankD 0 rs))
  sm : Same H0 H
  fra : ∀ a ∈ as, H0 a = none
structure Fre (H0 : Hp) (x lr lp dn dr : Addr) : Prop where
  fx : H0 x = none
  flr : H0 lr = none
  flp : H0 lp = none
  fdn : H0 dn = none
  fdr : H0 dr = none
  rp : lr ≠ lp
theorem Mid.new {K : PySem.W.Frag} {H0 H : Hp} {x dx : Addr} {z : Str} {lr lp dn dr t : Addr} {as : List Addr} {ps : List Str} {rs : Rws} {o : HO} (M : Mid K H0 H x dx z lr lp dn dr as ps rs) (ht : H t = none) : Mid K H0 (upd H t o) x dx z lr lp dn dr as ps rs :=
  ⟨Same.new ht _ _ M.hx, Same.new ht _ _ M.hlr, TupAt.same (Same.new ht) M.hts, Same.new ht _ _ M.hlp, Same.new ht _ _ M.hdn, Same.new ht _ _ M.hdr, Same.put M.sm ht, M.fra⟩
theorem Mid.piece {K : PySem.W.Frag} {H0 H : Hp} {x dx : Addr} {z : Str} {lr lp dn dr : Addr} {as : List Addr} {ps : List Str} {rs : Rws} {p : Str} (F : Fre H0 x lr lp dn dr) (M : Mid K H0 H x dx z lr lp dn dr as ps rs) :
    Mid K H0 (upd (upd H dn (.dK (numD 0 (ps ++ [p])))) lp (.lst ((ps ++ [p]).map V.str))) x dx z lr lp dn dr as (ps ++ [p]) rs := by
  have x2 : x ≠ lp := ne_of M.hx M.hlp (by intro q; cases q)
  have x3 : x ≠ dn := ne_of M.hx M.hdn (by intro q; cases q)
  have r1 : lr ≠ dn := ne_of M.hlr M.hdn (by intro q; cases q)
  have p1 : lp ≠ dn := ne_of M.hlp M.hdn (by intro q; cases q)
  have p2 : lp ≠ dr := ne_of M.hlp M.hdr (by intro q; cases q)
  have d1 : dn ≠ dr := ne_of M.hdn M.hdr (by intro q; cases q)
  refine ⟨?_, ?_, ?_, upd_same, ?_, ?_, ?_, M.fra⟩
  · rw [upd_ne x2, upd_ne x3]; exact M.hx
  · rw [upd_ne F.rp, upd_ne r1]; exact M.hlr
  · refine L2.Paired.mapP M.hts fun b r hb => ?_
    show upd _ _ _ b = _
    have hb2 : H b = _ := hb
    have b1 : b ≠ lp := ne_of hb2 M.hlp (by intro q; cases q)
    have b2 : b ≠ dn := ne_of hb2 M.hdn (by intro q; cases q)
    rw [upd_ne b1, upd_ne b2]
    exact hb
  · rw [upd_ne (Ne.symm p1), upd_same]
  · rw [upd_ne (Ne.symm p2), upd_ne (Ne.symm d1)]; exact M.hdr
  · exact Same.mut (Same.mut M.sm F.fdn) F.flp
/-- a made table, all of it new behind H0 -/
def TabFr (C : Addr) (H0 H : Hp) (x : Addr) (z : Str) (rs : Rws) : Prop := ∃ (dx lr lp dn dr : Addr) (m : Nat) (as : List Addr), H x = some (.ins C dx (tf6 z lr lp dn dr (m : Int))) ∧ H lr = some (.lst (as.map V.ref)) ∧ Paired (TupAt H) as rs ∧ H lp = some (.lst ((pcs z rs).map V.str)) ∧ H dn = some (.dK (numD 0 (pcs z rs))) ∧ H dr = some (.dT (rankD 0 rs)) ∧
  (∃ p ∈ pcs z rs, p.length = m) ∧ (∀ p ∈ pcs z rs, p.length ≤ m) ∧ TabOk z rs ∧ H0 x = none ∧ H0 lr = none ∧ H0 lp = none ∧ H0 dn = none ∧ H0 dr = none ∧ ∀ a ∈ as, H0 a = none
theorem TabFr.tab {C : Addr} {H0 H : Hp} {x : Addr} {z : Str} {rs : Rws} (h : TabFr C H0 H x z rs) : TabAt C H x z rs := by
  obtain ⟨dx, lr, lp, dn, dr, m, as, h1, h2, h2', h3, h4, h5, h6, h7, ok, _⟩ := h
  exact ⟨⟨dx, lr, lp, dn, dr, m, h1, ⟨as, h2, h2'⟩, h3, h4, h5, h6, h7⟩, ok⟩
/-- what is done to objects that stood ahead leaves the table -/
theorem TabFr.keep {C : Addr} {H0 H H' : Hp} {x : Addr} {z : Str} {rs : Rws} (h : TabFr C H0 H x z rs) (k : ∀ b o, H0 b = none → H b = some o → H' b = some o) : TabFr C H0 H' x z rs := by
  obtain ⟨dx, lr, lp, dn, dr, m, as, h1, h2, h2', h3, h4, h5, h6, h7, ok, f1, f2, f3, f4, f5, f6⟩ := h
  refine ⟨dx, lr, lp, dn, dr, m, as, k _ _ f1 h1, k _ _ f2 h2, ?_, k _ _ f3 h3, k _ _ f4 h4, k _ _ f5 h5, h6, h7, ok, f1, f2, f3, f4, f5, f6⟩
  have key : ∀ {l : List Addr} {r : Rws}, Paired (TupAt H) l r → (∀ a ∈ l, H0 a = none) → Paired (TupAt H') l r := fun {l r} hp => by
    induction hp with
    | nil => intro _; exact .nil
    | cons q _ ih => intro hf; exact .cons (k _ _ (hf _ List.mem_cons_self) q) (ih fun a ha => hf a (List.mem_cons_of_mem _ ha))
  exact key h2' f6
theorem TabFr.same {C : Addr} {H0 H H' : Hp} {x : Addr} {z : Str} {rs : Rws} (h : TabFr C H0 H x z rs) (s : Same H H') : TabFr C H0 H' x z rs := h.keep fun b o _ e => s b o e
def spTInit2 (K : PySem.W.Frag) : Sp := fun vs H Q _ => ∃ (H0 : Hp) (x dx pr : Addr) (z : Str) (rs : Rws), vs = [.ref x, .str z, .ref pr] ∧ H = upd (upd H0 dx (.own x)) x (.ins (TC K) dx []) ∧ H0 x = none ∧ H0 dx = none ∧ dx ≠ x ∧ RowsAt H0 pr rs ∧ TabOk z rs ∧
  ∀ H', Same H0 H' → TabFr (TC K) H0 H' x z rs → Q .non H'
def spTInit (K : PySem.W.Frag) : Sp := fun vs H Q _ => ∃ (H0 : Hp) (x dx pr : Addr) (z : Str) (rs : Rws), vs = [.ref x, .str z, .ref pr] ∧ H = upd (upd H0 dx (.own x)) x (.ins (TC K) dx []) ∧ H0 x = none ∧ H0 dx = none ∧ dx ≠ x ∧ RowsAt H0 pr rs ∧ TabOk z rs ∧
  ∀ H', Same H0 H' → TabAt (TC K) H' x z rs → Q .non H'
theorem list_max : ∀ (l : List Str), l ≠ [] → ∃ p ∈ l, ∀ q ∈ l, q.length ≤ p.length
  | [], h => absurd rfl h
  | [a], _ => ⟨a, List.mem_cons_self, fun q hq => by rw [List.mem_singleton.mp hq]; exact Nat.le_refl _⟩
  | a :: b :: l, _ => by
    obtain ⟨p, hp, hm⟩ := list_max (b :: l) (by simp)
    by_cases h : p.length ≤ a.length
    · exact ⟨a, List.mem_cons_self, fun q hq => by
        rcases List.mem_cons.mp hq with e | e
        · rw [e]; exact Nat.le_refl _
        · exact Nat.le_trans (hm q e) h⟩
    · exact ⟨p, List.mem_cons_of_mem _ hp, fun q hq => by
        rcases List.mem_cons.mp hq with e | e
        · rw [e]; omega
        · exact hm q e⟩
section
variable {P : Program} {w : World} {K : PySem.W.Frag} {mg : Str → Option Value} {base : Heap}
theorem mkc_Table2 (T : Tx K mg) : Mkc P w K mg base CX0 3 "Table" (TC K) (spTInit2 K) := by
  have C_check_signs := cal_check_signs (P := P) (w := w) (base := base) T
  have M_Table_take_piece := met_take_piece (P := P) (w := w) (base := base) T
  have M_Table_may_take_row := met_may_take_row (P := P) (w := w) (base := base) T
  have M_Table_take_row := met_take_row (P := P) (w := w) (base := base) T
  obtain ⟨fd, F⟩ := T.d_Table___init__
  refine ⟨⟨_, fd, P_Table___init__, F.ok sc_Table___init__ (fun vs H Q E h => ?_) (fun cdv A outer s H vs Q E hr h => ?_), T.mk_Table, F.bindsN (ps := P_Table___init__) fun _ _ _ _ _ _ us hl => match us, hl with | [_, _, _], _ => rfl⟩, T.g_Table⟩
  · obtain ⟨H0, x, dx, pr, z, rs, rfl, _⟩ := h
    rfl
  · obtain ⟨H0, x, dx, pr, z, rs, rfl, rfl, x0, dx0, ndx, ⟨as0, hpr, hts0⟩, tk, k⟩ := h
    refine ⟨_, (PSs.nox (pss_cons (ps_expr (pe_cal C_check_signs (by first | exact hr | exact hr.mono (by decide)) (by rfl) (pa_cons (pv 1) pa_nil)))
      (pss_cons (ps_if (PW.pt (pw_or (pt_not (pt_val (pe_callB (id := "isinstance") call_isi (by rfl) T.n_isinstance (by decide +kernel) (pa_cons (pv 2) (pa_cons (pe_bltn (v := .ty "list") (by rfl) T.n_list (by decide +kernel) rfl) pa_nil))))) (pw_or1 (pt_cmpR op_gt (pe_callB (id := "len") call_len_seq (by rfl) T.n_len (by decide +kernel) (pa_cons (pv 2) pa_nil)) (pe_glob (v := .int 24) (by rfl) T.c_MOST_ROWS.choose_spec ⟨_, rfl⟩) (nomark _))))) (pss_one ps_never) pss_nil)
      (pss_cons (ps_fld (pv 0) (pv 1) rfl)
      (pss_cons (ps_fld (pv 0) (pe_lst pa_nil) rfl)
      (pss_cons (ps_fld (pv 0) (pe_lst pa_nil) rfl)
      (pss_cons (ps_fld (pv 0) pe_dnewK rfl)
      (pss_cons (ps_fld (pv 0) pe_dnewT rfl)
      (pss_cons (ps_for PassesOwn.never rfl (pi_str (pv 1)) (pg_name (i := 3) sc_Table___init__.nd rfl (Or.inl rfl)) (pss_one (ps_expr (pe_met M_Table_take_piece (pv 0) (by first | exact hr | exact hr.mono (by decide)) (pa_cons (pv 3) pa_nil)))))
      (pss_cons (ps_for PassesOwn.never rfl (pi_enum (by rfl) T.n_enumerate (pa_cons (pv 2) pa_nil)) (pg_tup rfl (pgs_cons (pg_name (i := 4) sc_Table___init__.nd rfl (Or.inl rfl)) (pgs_cons (pg_name (i := 5) sc_Table___init__.nd rfl (Or.inl rfl)) pgs_nil))) (pss_cons (ps_if (pt_not (pt_val (pe_met M_Table_may_take_row (pv 0) (by first | exact hr | exact hr.mono (by decide)) (pa_cons (pv 5) pa_nil)))) (pss_one ps_never) pss_nil)
      (pss_one (ps_expr (pe_met M_Table_take_row (pv 0) (by first | exact hr | exact hr.mono (by decide)) (pa_cons (pv 5) pa_nil))))))
      (pss_one (ps_fld (pv 0) (pe_callB (id := "max") (cr_max rfl) (by rfl) T.n_max (by decide +kernel) (pa_cons (pe_lc (own := [("piece", 6)]) (g := gName 6) (by rfl) sc_Table___init__.nd (pi_list (pe_fld (pv 0) rfl)) (blkOk_by (own := [("piece", 6)]) (N := N_Table___init__) (sc := defScope s_Table___init__) (by decide +kernel)) (fun _ _ _ _ _ => (pg_name (i := 6) sc_Table___init__.nd rfl (Or.inl rfl))) (fun _ _ _ _ _ => pts_nil) (fun _ _ _ _ _ => (pe_callB (id := "len") call_len_str (by rfl) T.n_len (by decide +kernel) (pa_cons (pv 6) pa_nil)))) pa_nil)) rfl)))))))))))), ?_⟩
    have n12 := tk.n12
    have n1 := tk.n1
    have many := tk.many
    have s00 : Same H0 (upd (upd H0 dx (.own x)) x (.ins (TC K) dx [])) := Same.mut (Same.new dx0) x0
    refine ⟨_, rfl, z, rfl, tk.sg, tk.n1, tk.n12, fun H1 s1 => ?_⟩
    have hx1 : H1 x = some (.ins (TC K) dx []) := s1 _ _ upd_same
    have s01 := s00.trans s1
    have hpr1 : H1 pr = some (.lst (as0.map V.ref)) := s01 _ _ hpr
    refine ⟨_, rfl, _, _, _, _, _, rfl, .ty "list", .base (.lst hpr1), isLst, _, rfl, iteF ⟨_, rfl, _, _, rfl, .inl (SqL.of hpr1), _, _, rfl, rfl, _, rfl, ?_⟩⟩
    rw [decide_eq_false (show ¬ (24 : Int) < ((as0.map V.ref).length : Nat) by rw [List.length_map, Paired.len hts0]; omega)]
    refine iteF ⟨_, rfl, _, rfl, x, _, dx, _, rfl, hx1, T.cl_Table, T.no_Table_sign_text, (by show 0 < 1000; decide), ?_⟩
    have s02 := Same.mut (o := .ins (TC K) dx (putF "sign_text" (.str z) [])) s01 x0
    refine ⟨Nat.zero_le _, fun lr hlr => ⟨_, rfl, x, _, dx, _, rfl, Same.new hlr _ _ upd_same, T.cl_Table, T.no_Table_row_list, (by show 1 < 1000; decide), ?_⟩⟩
    have s03 := Same.mut (o := .ins (TC K) dx (putF "row_list" (.ref lr) (putF "sign_text" (.str z) []))) (Same.put (o := .lst []) s02 hlr) x0
    refine ⟨Nat.zero_le _, fun lp hlp => ⟨_, rfl, x, _, dx, _, rfl, Same.new hlp _ _ upd_same, T.cl_Table, T.no_Table_piece_list, (by show 2 < 1000; decide), ?_⟩⟩
    have s04 := Same.mut (o := .ins (TC K) dx (putF "piece_list" (.ref lp) (putF "row_list" (.ref lr) (putF "sign_text" (.str z) [])))) (Same.put (o := .lst []) s03 hlp) x0
    intro dn hdn
    refine ⟨_, rfl, x, _, dx, _, rfl, Same.new hdn _ _ upd_same, T.cl_Table, T.no_Table_number_by_piece, (by show 3 < 1000; decide), ?_⟩
    have s05 := Same.mut (o := .ins (TC K) dx (putF "number_by_piece" (.ref dn) (putF "piece_list" (.ref lp) (putF "row_list" (.ref lr) (putF "sign_text" (.str z) []))))) (Same.put (o := .dK []) s04 hdn) x0
    intro dr hdr
    refine ⟨_, rfl, x, _, dx, _, rfl, Same.new hdr _ _ upd_same, T.cl_Table, T.no_Table_rank_by_row, (by show 4 < 1000; decide), ?_⟩
    rw [l5_put]
    have s06 := Same.mut (o := .ins (TC K) dx (tf5 z lr lp dn dr)) (Same.put (o := .dT []) s05 hdr) x0
    have fr : Fre H0 x lr lp dn dr := ⟨x0, s02.free hlr, s03.free hlp, s04.free hdn, s05.free hdr, fun e => by
      rw [← e] at hlp
      have xl : lr ≠ x := fun e2 => by rw [e2, upd_same] at hlr; cases hlr
      rw [upd_ne xl, upd_same] at hlp
      cases hlp⟩
    have xlr : lr ≠ x := fun e2 => by rw [e2, upd_same] at hlr; cases hlr
    have xlp : lp ≠ x := fun e2 => by rw [e2, upd_same] at hlp; cases hlp
    have xdn : dn ≠ x := fun e2 => by rw [e2, upd_same] at hdn; cases hdn
    have xdr : dr ≠ x := fun e2 => by rw [e2, upd_same] at hdr; cases hdr
    have q1 := hlp
    have q2 := hdn
    have q3 := hdr
    have a1 : lr ≠ dn := fun e => by
      rw [← e, upd_ne xlr, upd_ne fr.rp, upd_ne xlr, upd_same] at q2; cases q2
    have a2 : lp ≠ dn := fun e => by
      rw [← e, upd_ne xlp, upd_same] at q2; cases q2
    have a3 : lr ≠ dr := fun e => by
      rw [← e, upd_ne xlr, upd_ne a1, upd_ne xlr, upd_ne fr.rp, upd_ne xlr, upd_same] at q3; cases q3
    have a4 : lp ≠ dr := fun e => by
      rw [← e, upd_ne xlp, upd_ne a2, upd_ne xlp, upd_same] at q3; cases q3
    have a5 : dn ≠ dr := fun e => by
      rw [← e, upd_ne xdn, upd_same] at q3; cases q3
    have mid0 : Mid K H0 (upd (upd (upd (upd (upd (upd (upd (upd (upd H1 x (.ins (TC K) dx (putF "sign_text" (.str z) []))) lr (.lst [])) x (.ins (TC K) dx (putF "row_list" (.ref lr) (putF "sign_text" (.str z) [])))) lp (.lst [])) x (.ins (TC K) dx (putF "piece_list" (.ref lp) (putF "row_list" (.ref lr) (putF "sign_text" (.str z) []))))) dn (.dK [])) x (.ins (TC K) dx (putF "number_by_piece" (.ref dn) (putF "piece_list" (.ref lp) (putF "row_list" (.ref lr) (putF "sign_text" (.str z) [])))))) dr (.dT [])) x (.ins (TC K) dx (tf5 z lr lp dn dr))) x dx z lr lp dn dr [] [] [] := by
      refine ⟨upd_same, ?_, .nil, ?_, ?_, ?_, s06, fun a ha => by cases ha⟩
      · rw [upd_ne xlr, upd_ne a3, upd_ne xlr, upd_ne a1, upd_ne xlr, upd_ne fr.rp, upd_ne xlr, upd_same]; rfl
      · rw [upd_ne xlp, upd_ne a4, upd_ne xlp, upd_ne a2, upd_ne xlp, upd_same]; rfl
      · rw [upd_ne xdn, upd_ne a5, upd_ne xdn, upd_same]; rfl
      · rw [upd_ne xdr, upd_same]; rfl
    revert mid0
    generalize (upd (upd (upd (upd (upd (upd (upd (upd (upd H1 x (.ins (TC K) dx (putF "sign_text" (.str z) []))) lr (.lst [])) x (.ins (TC K) dx (putF "row_list" (.ref lr) (putF "sign_text" (.str z) [])))) lp (.lst [])) x (.ins (TC K) dx (putF "piece_list" (.ref lp) (putF "row_list" (.ref lr) (putF "sign_text" (.str z) []))))) dn (.dK [])) x (.ins (TC K) dx (putF "number_by_piece" (.ref dn) (putF "piece_list" (.ref lp) (putF "row_list" (.ref lr) (putF "sign_text" (.str z) [])))))) dr (.dT [])) x (.ins (TC K) dx (tf5 z lr lp dn dr))) = H6
    intro mid0
    refine ⟨_, rfl, z, rfl, for_str (x := z) (fun i σ H' => ∃ u, σ = [some (.ref x), some (.str z), some (.ref pr), u, none, none, none] ∧ Mid K H0 H' x dx z lr lp dn dr [] ((sgs z).take i) []) ⟨none, rfl, mid0⟩ ?_ ?_⟩
    · rintro i c σ H' hi ⟨u, rfl, M⟩
      have hsg : (sgs z)[i]? = some (sgn c) := by unfold sgs; rw [List.getElem?_map, hi]; rfl
      have hnew : ¬ sgn c ∈ (sgs z).take i := fun hm => by
        have nd := sgs_nodup tk.sg.nd
        rw [← List.take_append_drop i (sgs z), List.nodup_append] at nd
        refine nd.2.2 _ hm (sgn c) (List.mem_of_getElem? (i := 0) ?_) rfl
        rw [List.getElem?_drop]; exact hsg
      refine ⟨_, rfl, x, dx, _, rfl, M.hx, l5_tp _ _ _ _ _, _, rfl, x, dx, z, lr, lp, dn, dr, (sgs z).take i, sgn c, rfl, M.hx, M.hlp, M.hdn, hnew, ?_, ?_⟩
      · rw [List.length_take]; have := sgs_len z; omega
      · refine ⟨_, rfl, ?_⟩
        have e : (sgs z).take (i + 1) = (sgs z).take i ++ [sgn c] := by rw [List.take_add_one, hsg]; rfl
        rw [e]
        exact M.piece fr
    · rintro σ H' ⟨u, rfl, M⟩
      have e0 : (sgs z).take z.cps.toList.length = sgs z := by
        rw [List.take_of_length_le]; unfold sgs; rw [List.length_map]; exact Nat.le_refl _
      rw [e0] at M
      have ep : sgs z = pcs z [] := by unfold pcs; rw [List.map_nil, List.append_nil]
      rw [ep] at M
      refine ⟨_, rfl, pr, _, rfl, SqL.of (M.sm _ _ hpr), for_enum (K := K) (a := pr) (xs := as0.map V.ref) (fun i σ H' => ∃ (u v y : Option V) (as : List Addr), σ = [some (.ref x), some (.str z), some (.ref pr), u, v, y, none] ∧ Mid K H0 H' x dx z lr lp dn dr as (pcs z (rs.take i)) (rs.take i))
        ⟨u, none, none, [], rfl, M⟩ (fun i σ H' _ ⟨_, _, _, _, _, M⟩ => SqL.of (M.sm _ _ hpr)) ?_ ?_⟩
      · rintro i y t σ H' hi ht ⟨u, v, y', as, rfl, M0⟩
        have M := M0.new (o := .tup [.int (i : Nat), y]) ht
        rw [List.getElem?_map] at hi
        cases ea : as0[i]? with
        | none => rw [ea] at hi; cases hi
        | some a =>
          rw [ea] at hi
          cases hi
          obtain ⟨r, hri, hta⟩ := Paired.get hts0 ea
          obtain ⟨l, r⟩ := r
          have ro := tk.rows i _ hri
          have ha : upd H' t (.tup [.int (i : Nat), .ref a]) a = some (.tup [.str l, .str r]) := M.sm _ _ hta
          have tki := tk.take i
          have pln : (pcs z (rs.take i)).length ≤ 1000 := by rw [pcs_len, List.length_take]; omega
          refine ⟨t, _, rfl, SqT.of upd_same, rfl, _, _, rfl, _, _, rfl, rfl, ?_⟩
          refine ⟨_, rfl, x, dx, _, rfl, M.hx, l5_mt _ _ _ _ _, _, rfl, x, dx, z, lr, lp, dn, dr, pcs z (rs.take i), a, l, r, rfl, M.hx, M.hdn, tki.nodup, ha, ro.lm, ro.rm, ro.len, ro.new, _, rfl, iteF ?_⟩
          have hnr : ¬ (l, r) ∈ rs.take i := fun hm => ro.new (by unfold pcs; exact List.mem_append_right _ (List.mem_map.mpr ⟨_, hm, rfl⟩))
          have rlen : (rs.take i).length ≤ 1000 := by rw [List.length_take]; omega
          refine ⟨_, rfl, x, dx, _, rfl, M.hx, l5_tr _ _ _ _ _, _, rfl, x, dx, z, lr, lp, dn, dr, pcs z (rs.take i), as, rs.take i, a, l, r, rfl, M.hx, M.hlr, fr.rp, M.hlp, M.hdn, M.hdr, Paired.len M.hts, rlen, pln, ha, ro.new, Nat.le_trans ro.len (by decide), hnr, ?_⟩
          intro H7 t7 keep ht7 h7t h7r h7p h7n h7d
          have x1 : x ≠ lr := ne_of M.hx M.hlr (by intro q; cases q)
          have x2 : x ≠ lp := ne_of M.hx M.hlp (by intro q; cases q)
          have x3 : x ≠ dn := ne_of M.hx M.hdn (by intro q; cases q)
          have x4 : x ≠ dr := ne_of M.hx M.hdr (by intro q; cases q)
          have et : rs.take (i + 1) = rs.take i ++ [(l, r)] := by rw [List.take_add_one, hri]; rfl
          refine ⟨_, _, _, as ++ [t7], rfl, ?_⟩
          rw [et, pcs_snoc]
          refine ⟨keep _ _ x1 x2 x3 x4 M.hx, h7r, Paired.snoc (L2.Paired.mapP M.hts fun b q hb => ?_) h7t, h7p, h7n, h7d, fun b o hb => ?_, fun b hb => ?_⟩
          · have hb2 : upd H' t (.tup [.int (i : Nat), .ref a]) b = _ := hb
            exact keep _ _ (ne_of hb2 M.hlr (by intro q; cases q)) (ne_of hb2 M.hlp (by intro q; cases q)) (ne_of hb2 M.hdn (by intro q; cases q)) (ne_of hb2 M.hdr (by intro q; cases q)) hb2
          · exact keep _ _ (ne_of_none hb fr.flr) (ne_of_none hb fr.flp) (ne_of_none hb fr.fdn) (ne_of_none hb fr.fdr) (M.sm _ _ hb)
          · rcases List.mem_append.mp hb with hb | hb
            · exact M.fra b hb
            · rw [List.mem_singleton.mp hb]; exact M.sm.free ht7
      · rintro σ H' ⟨u, v, y, as, rfl, M⟩
        have e1 : rs.take (as0.map V.ref).length = rs := by rw [List.length_map, Paired.len hts0, List.take_length]
        rw [e1] at M
        refine ⟨_, rfl, x, _, dx, _, _, rfl, M.hx, T.cl_Table, T.no_Table_piece_list, l5_pl _ _ _ _ _, lp, rfl, ⟨_, SqL.of M.hlp⟩, fun D hD => lc_listM (K := K) (item := V.str) (p := fun _ => true) (f := fun q => V.int (q.length : Nat)) (l := pcs z rs) (SqL.of M.hlp) hD ?_ (fun q hq H2 _ N Mm hM _ => ?_) (fun H2 s2 hL => ?_)⟩
        · rw [pcs_len]; omega
        · exact ⟨rfl, _, rfl, _, rfl, sz (by have := (tk.plen hq).2; omega), hM rfl⟩
        · have ef : (pcs z rs).filter (fun _ => true) = pcs z rs := List.filter_eq_self.mpr fun _ _ => rfl
          rw [ef] at hL
          obtain ⟨p, hp, hmx⟩ := list_max (pcs z rs) (fun e => by have := congrArg List.length e; rw [pcs_len] at this; simp at this; omega)
          refine ⟨D, (pcs z rs).map fun q => ((q.length : Nat) : Int), rfl, SqL.of ?_, ?_, ?_⟩
          · rw [hL, List.map_map]; rfl
          · rw [List.length_map, pcs_len]; omega
          · intro m hm hmm
            obtain ⟨pm, hpm, rfl⟩ := List.mem_map.mp hm
            have M2hx := s2 _ _ M.hx
            refine ⟨_, rfl, x, _, dx, _, rfl, M2hx, T.cl_Table, T.no_Table_most_signs, (by show 5 < 1000; decide), ?_⟩
            rw [l5_most]
            have x1 : x ≠ lr := ne_of M.hx M.hlr (by intro q; cases q)
            have x2 : x ≠ lp := ne_of M.hx M.hlp (by intro q; cases q)
            have x3 : x ≠ dn := ne_of M.hx M.hdn (by intro q; cases q)
            have x4 : x ≠ dr := ne_of M.hx M.hdr (by intro q; cases q)
            refine k _ (Same.mut (M.sm.trans s2) x0) ⟨dx, lr, lp, dn, dr, pm.length, as, upd_same, ?_, ?_, ?_, ?_, ?_, ⟨pm, hpm, rfl⟩, fun q hq => ?_, tk, fr.fx, fr.flr, fr.flp, fr.fdn, fr.fdr, M.fra⟩
            · rw [upd_ne (Ne.symm x1)]; exact s2 _ _ M.hlr
            · refine L2.Paired.mapP M.hts fun b q hb => ?_
              have hb2 : H' b = _ := hb
              show upd H2 x _ b = _
              rw [upd_ne (ne_of hb2 M.hx (by intro q; cases q))]
              exact s2 _ _ hb2
            · rw [upd_ne (Ne.symm x2)]; exact s2 _ _ M.hlp
            · rw [upd_ne (Ne.symm x3)]; exact s2 _ _ M.hdn
            · rw [upd_ne (Ne.symm x4)]; exact s2 _ _ M.hdr
            · have := hmm _ (List.mem_map.mpr ⟨q, hq, rfl⟩)
              omega
theorem mkc_Table (T : Tx K mg) : Mkc P w K mg base CX0 3 "Table" (TC K) (spTInit K) := by
  obtain ⟨⟨f, fd, ps, G, mk, b⟩, g⟩ := mkc_Table2 (P := P) (w := w) (base := base) T
  refine ⟨⟨f, fd, ps, G.imp fun vs H Q E h => ?_, mk, b⟩, g⟩
  obtain ⟨H0, x, dx, pr, z, rs, e1, e2, e3, e4, e5, e6, e7, k⟩ := h
  exact ⟨H0, x, dx, pr, z, rs, e1, e2, e3, e4, e5, e6, e7, fun H' s t => k H' s t.tab⟩
end
end Jr
namespace Jr
open PySem PySem.Spec PyProof.Rows L2
theorem len2 {s y : Str} {n m : Nat} (h : s.length ≤ n) (hy : y.length ≤ m) : (s ++ y).length ≤ n + m := by rw [app_len]; omega
section
variable {P : Program} {w : World} {K : PySem.W.Frag} {mg : Str → Option Value} {base : Heap}
def spJE (K : PySem.W.Frag) : Sp := fun vs H Q _ => ∃ (a C : Addr) (v : V), vs = [.ref a, v] ∧ OexC K C ∧ H a = some (exo a C none) ∧ Q .non H
theorem cdf_JoinError (T : Tx K mg) : Cdf P w K mg base 1 "JoinError" (He.ga K "JoinError") "__init__" (spJE K) := by
  obtain ⟨fd, F⟩ := T.d_JoinError___init__
  refine ⟨⟨_, fd, P_JoinError___init__, F.ok sc_JoinError___init__ (fun vs H Q E h => ?_) (fun cdv A outer s H vs Q E hr h => ?_), T.rd_JoinError, T.ga_JoinError, T.fc_JoinError, F.kp,
    F.bindsN (ps := P_JoinError___init__) fun _ _ _ _ _ _ us hl => match us, hl with | [_, _], _ => rfl⟩, T.g_JoinError⟩
  · obtain ⟨a, C, v, rfl, _⟩ := h
    rfl
  · obtain ⟨a, C, v, rfl, ox, ha, k⟩ := h
    refine ⟨_, (PSs.nox (pss_one (ps_expr (pe_veinit (by rfl) T.n_ValueError (vV _) (pa_cons (pv 0) (pa_cons (pv 1) pa_nil)))))), ?_⟩
    exact ⟨_, rfl, _, rfl, a, C, [v], rfl, (by show 1 ≤ 1000; decide), ox, ha, k⟩
end
end Jr
namespace Jr
open PySem PySem.Spec PyProof.Rows L2
section
variable {P : Program} {w : World} {K : PySem.W.Frag} {mg : Str → Option Value} {base : Heap}
theorem exk_NoTable (T : Tx K mg) : Exk P w K mg base 2 "NoTable" (He.ga K "NoTable") (spX2 (He.ga K "NoTable") "part" "number") := by
  have D_JoinError___init__ := cdf_JoinError (P := P) (w := w) (base := base) T
  obtain ⟨fd, F⟩ := T.d_NoTable___init__
  refine ⟨⟨_, fd, P_NoTable___init__, F.ok sc_NoTable___init__ (fun vs H Q E h => ?_) (fun cdv A outer s H vs Q E hr h => ?_), T.in_NoTable, T.it_NoTable,
    F.bindsN (ps := P_NoTable___init__) fun _ _ _ _ _ _ us hl => match us, hl with | [_, _, _], _ => rfl⟩, T.xc_NoTable, T.g_NoTable⟩
  · obtain ⟨a, v, u, rfl, _⟩ := h
    rfl
  · obtain ⟨a, v, u, rfl, fv, fu, ha, k⟩ := h
    refine ⟨_, (PSs.nox (pss_cons (ps_expr (pe_cdef D_JoinError___init__ (by first | exact hr | exact hr.mono (by decide)) (by rfl) (pa_cons (pv 0) (pa_cons (pe_joined (.cons pe_str (.cons (pe_fmtN (pv 1)) (.cons pe_str (.cons (pe_fmtN (pv 2)) .nil))))) pa_nil))))
      (pss_cons (ps_ost (pv 0) (pv 1))
      (pss_one (ps_ost (pv 0) (pv 2)))))), ?_⟩
    refine ⟨_, rfl, _, rfl, (by decide +kernel), _, rfl, fv, fun y hy => ?_⟩
    have l1 := len2 (s := Str.empty ++ (Str.ofString "no table: ")) (n := 100) (by decide +kernel) hy
    have l2 := len2 l1 (show (Str.ofString ", ").length ≤ 10 by decide +kernel)
    refine ⟨y, rfl, sz (by omega), _, rfl, sz (by omega), _, rfl, fu, fun y2 hy2 => ?_⟩
    have l3 := len2 l2 hy2
    refine ⟨y2, rfl, sz (by omega), a, _, _, rfl, T.xc_NoTable.oex, ha, ?_⟩
    refine ⟨_, rfl, _, rfl, a, _, rfl, T.xc_NoTable.oex, T.no_NoTable_part, .inl ⟨ha, fun d nd ne => ?_⟩⟩
    refine ⟨_, rfl, _, rfl, a, _, rfl, T.xc_NoTable.oex, T.no_NoTable_number, .inr ⟨d, _, upd_same, ?_, (by show 1 ≤ 900; decide), k d nd ne⟩⟩
    rw [upd_ne ne, upd_same]
end
end Jr
namespace Jr
open PySem PySem.Spec PyProof.Rows L2
section
variable {P : Program} {w : World} {K : PySem.W.Frag} {mg : Str → Option Value} {base : Heap}
abbrev CTable (K : PySem.W.Frag) : Addr := He.ga K "NoTable"
theorem fmt_part {p : Str} (h : p = Str.ofString "signs" ∨ p = Str.ofString "rows") : Fmt (.str p) := .inr (.inr ⟨p, rfl, by rcases h with h | h <;> rw [h] <;> decide +kernel⟩)
def spCheckSignsX (K : PySem.W.Frag) : Sp := fun vs H Q E => ∃ sv : V, vs = [sv] ∧ ((∃ z, sv = .str z ∧ SignsOk z ∧ 1 ≤ z.length ∧ z.length ≤ 12 ∧ ∀ H', Same H H' → Q .non H') ∨ ∃ u, WSigns K H sv u ∧ Rz2 (CTable K) "part" "number" (.str (Str.ofString "signs")) u H E)
theorem calx_check_signs (T : Tx K mg) : Cal P w K mg base (L2.CX P w) 4 "check_signs" (spCheckSignsX K) := by
  have C_may_be_sign := cal_may_be_sign (P := P) (w := w) (base := base) T
  have E_NoTable := exk_NoTable (P := P) (w := w) (base := base) T
  obtain ⟨fd, F⟩ := T.d_check_signs
  refine ⟨_, fd, P_check_signs, F.ok sc_check_signs (fun vs H Q E h => ?_) (fun cdv A outer s H vs Q E hr h => ?_), T.g_check_signs, F.kp, F.bindsN (ps := P_check_signs) fun _ _ _ _ _ _ us hl => match us, hl with | [_], _ => rfl⟩
  · obtain ⟨z, rfl, _⟩ := h
    rfl
  · obtain ⟨sv, rfl, h⟩ := h
    refine ⟨_, (pss_cons (ps_if (PW.pt (pw_or (pt_not (pt_val (pe_callB (id := "isinstance") call_isi (by rfl) T.n_isinstance (by decide +kernel) (pa_cons (pv 0) (pa_cons (pe_bltn (v := .ty "str") (by rfl) T.n_str (by decide +kernel) rfl) pa_nil))))) (pw_or1 (pt_not (pt_chain op_le op_le pe_int (pe_callB (id := "len") call_len_str (by rfl) T.n_len (by decide +kernel) (pa_cons (pv 0) pa_nil)) (pe_glob (v := .int 12) (by rfl) T.c_MOST_SIGNS.choose_spec ⟨_, rfl⟩)))))) (pss_one (ps_raise rfl (takes_of rfl rfl rfl rfl) (E_NoTable.mk2 (by first | exact hr | exact hr.mono (by decide)) (pa_cons pe_str (pa_cons pe_non pa_nil))))) pss_nil)
      (pss_one (ps_for (passes_of rfl) rfl (pi_enumS (by rfl) T.n_enumerate (pa_cons (pv 0) pa_nil)) (pg_tup rfl (pgs_cons (pg_name (i := 1) sc_check_signs.nd rfl (Or.inl rfl)) (pgs_cons (pg_name (i := 2) sc_check_signs.nd rfl (Or.inl rfl)) pgs_nil))) (pss_one (ps_if (PW.pt (pw_or (pt_not (pt_val (pe_cal C_may_be_sign (by first | exact hr | exact hr.mono (by decide)) (by rfl) (pa_cons (pv 2) pa_nil)))) (pw_or1 (pt_cmpR op_in_sign (pv 2) (pe_slice sl_str (pv 0) po_none (po_some (pv 1))) rfl)))) (pss_one (ps_raise rfl (takes_of rfl rfl rfl rfl) (E_NoTable.mk2 (by first | exact hr | exact hr.mono (by decide)) (pa_cons pe_str (pa_cons (pv 1) pa_nil))))) pss_nil))))), ?_⟩
    have fs := fmt_part (.inl rfl : Str.ofString "signs" = Str.ofString "signs" ∨ Str.ofString "signs" = Str.ofString "rows")
    have h' : (NoStr K H sv ∧ Rz2 (CTable K) "part" "number" (.str (Str.ofString "signs")) .non H E) ∨ (∃ z, sv = .str z ∧ z.length ≤ 100000 ∧ ¬ (1 ≤ z.length ∧ z.length ≤ 12) ∧ Rz2 (CTable K) "part" "number" (.str (Str.ofString "signs")) .non H E) ∨
        ∃ z, sv = .str z ∧ 1 ≤ z.length ∧ z.length ≤ 12 ∧ ((∀ i, ¬ WSign z i) → ∀ H', Same H H' → Q .non H') ∧ ∀ i, WSign z i → Rz2 (CTable K) "part" "number" (.str (Str.ofString "signs")) (.int (i : Nat)) H E := by
      rcases h with ⟨z, e, ok, z1, z12, k⟩ | ⟨u, ⟨a, rfl⟩ | ⟨z, e, zl, a, rfl⟩ | ⟨z, i, e, z1, z12, w, rfl⟩, k⟩
      · refine .inr (.inr ⟨z, e, z1, z12, fun _ => k, fun i w => ?_⟩)
        obtain ⟨c, hc, b⟩ := w.bad
        exfalso
        rcases b with b | b
        · exact b (ok.ok c (List.mem_of_getElem? hc))
        · have nd := ok.nd
          rw [← List.take_append_drop i z.cps.toList, List.nodup_append] at nd
          refine nd.2.2 c b c (List.mem_of_getElem? (i := 0) ?_) rfl
          rw [List.getElem?_drop]
          exact hc
      · exact .inl ⟨a, k⟩
      · exact .inr (.inl ⟨z, e, zl, a, k⟩)
      · refine .inr (.inr ⟨z, e, z1, z12, fun no => absurd w (no i), fun j w2 => ?_⟩)
        have ij : i = j := by
          rcases Nat.lt_trichotomy i j with l | l | l
          · obtain ⟨c, hc, b⟩ := w.bad
            obtain ⟨g1, g2⟩ := w2.good i c l hc
            rcases b with b | b
            · exact absurd g1 b
            · exact absurd b g2
          · exact l
          · obtain ⟨c, hc, b⟩ := w2.bad
            obtain ⟨g1, g2⟩ := w.good j c l hc
            rcases b with b | b
            · exact absurd g1 b
            · exact absurd b g2
        rw [← ij]
        exact k
    rcases h' with ⟨⟨ty, hty, hk⟩, k⟩ | ⟨z, rfl, zl, nz, k⟩ | ⟨z, rfl, z1, z12, kg, kb⟩
    · exact ⟨_, rfl, _, _, _, _, _, rfl, .ty "str", hty, hk, _, rfl, iteT ⟨_, _, rfl, fs, .inl rfl, k.now⟩⟩
    · refine ⟨_, rfl, _, _, _, _, _, rfl, .ty "str", .base (.str z), isStr, _, rfl, iteF ?_⟩
      refine ⟨_, rfl, _, rfl, sz zl, _, _, rfl, rfl, _, rfl, ?_⟩
      by_cases c : 1 ≤ z.length
      · rw [decide_eq_true (show (1 : Int) ≤ (z.length : Int) by omega)]
        refine iteT ⟨_, _, rfl, rfl, _, rfl, ?_⟩
        rw [decide_eq_false (show ¬ (z.length : Int) ≤ 12 by omega)]
        exact iteT ⟨_, _, rfl, fs, .inl rfl, k.now⟩
      · rw [decide_eq_false (show ¬ (1 : Int) ≤ (z.length : Int) by omega)]
        exact iteF ⟨_, rfl, iteT ⟨_, _, rfl, fs, .inl rfl, k.now⟩⟩
    have hz : z.length ≤ sizeLine := sz (by omega)
    refine ⟨_, rfl, _, _, _, _, _, rfl, .ty "str", .base (.str z), isStr, _, rfl, iteF ?_⟩
    refine ⟨_, rfl, _, rfl, hz, _, _, rfl, rfl, _, rfl, ?_⟩
    rw [decide_eq_true (show (1 : Int) ≤ (z.length : Int) by omega)]
    refine iteT ⟨_, _, rfl, rfl, _, rfl, ?_⟩
    rw [decide_eq_true (show (z.length : Int) ≤ 12 by omega)]
    refine iteF ?_
    refine ⟨_, rfl, z, rfl, for_enumS (x := z) (fun i σ H' => ∃ u v : Option V, σ = [some (.str z), u, v] ∧ Same H H' ∧ ∀ j d, j < i → z.cps.toList[j]? = some d → SgnOk d ∧ ¬ d ∈ z.cps.toList.take j) ⟨none, none, rfl, Same.refl H, fun j d hj => absurd hj (Nat.not_lt_zero _)⟩ ?_ ?_⟩
    · rintro i c t σ H' hi ht ⟨u, v, rfl, sm, ah⟩
      have s2 := Same.put (o := .tup [.int (i : Nat), .str (sgn c)]) sm ht
      have il := (List.getElem?_eq_some_iff.mp hi).1
      rw [len_cps] at il
      refine ⟨t, _, rfl, SqT.of upd_same, rfl, _, _, rfl, _, _, rfl, rfl, ?_⟩
      refine ⟨_, rfl, c, rfl, _, rfl, ?_⟩
      by_cases oc : 32 ≤ c ∧ c ≤ 126 ∧ c ≠ 37
      · rw [decide_eq_true oc]
        refine iteF ⟨_, rfl, _, rfl, _, rfl, _, rfl, _, rfl, hz, c, _, rfl, rfl, _, rfl, ?_⟩
        rw [cut_to]
        by_cases hm : c ∈ z.cps.toList.take i
        · rw [decide_eq_true hm]
          exact iteT ⟨_, rfl, _, _, rfl, fs, fmt_nat i (by omega), ((kb i ⟨⟨c, hi, .inr hm⟩, ah⟩).same s2).now⟩
        · rw [decide_eq_false hm]
          refine iteF ⟨_, _, rfl, s2, fun j d hj hd => ?_⟩
          by_cases e : j = i
          · rw [e] at hd ⊢
            rw [hi] at hd
            rw [← Option.some.inj hd]
            exact ⟨oc, hm⟩
          · exact ah j d (by omega) hd
      · rw [decide_eq_false oc]
        exact iteT ⟨_, rfl, _, _, rfl, fs, fmt_nat i (by omega), ((kb i ⟨⟨c, hi, .inl oc⟩, ah⟩).same s2).now⟩
    · rintro σ H' ⟨u, v, rfl, sm, ah⟩
      refine kg (fun i w => ?_) _ sm
      obtain ⟨c, hc, b⟩ := w.bad
      obtain ⟨g1, g2⟩ := ah i c (List.getElem?_eq_some_iff.mp hc).1 hc
      rcases b with b | b
      · exact b g1
      · exact g2 b
/-- may_take_row of anything -/
def spMayTakeX (K : PySem.W.Frag) : Sp := fun vs H Q _ => ∃ (x dx : Addr) (z : Str) (rs : Rws) (lr lp dn dr : Addr) (v : V), vs = [.ref x, v] ∧ H x = some (.ins (TC K) dx (tf5 z lr lp dn dr)) ∧ H dn = some (.dK (numD 0 (pcs z rs))) ∧ TabOk z rs ∧
  ((BadRow K H z rs v ∧ Q (.bl false) H) ∨ ∃ a l r, v = .ref a ∧ H a = some (.tup [.str l, .str r]) ∧ l ∈ pcs z rs ∧ r ∈ pcs z rs ∧ (l ++ r).length ≤ 16 ∧ ¬ (l ++ r) ∈ pcs z rs ∧ Q (.bl true) H)
theorem metU_may_take_row (T : Tx K mg) : Met P w K mg base CX0 2 (TC K) "may_take_row" (spMayTakeX K) := by
  have M_Table_which := met_which (P := P) (w := w) (base := base) T
  obtain ⟨fd, F⟩ := T.d_Table_may_take_row
  refine ⟨T.cl_Table, _, fd, P_Table_may_take_row, F.ok sc_Table_may_take_row (fun vs H Q E h => ?_) (fun cdv A outer s H vs Q E hr h => ?_), T.m_Table_may_take_row, F.bindsN (ps := P_Table_may_take_row) fun _ _ _ _ _ _ us hl => match us, hl with | [_, _], _ => rfl⟩
  · obtain ⟨x, dx, z, rs, lr, lp, dn, dr, v, rfl, _⟩ := h
    rfl
  · obtain ⟨x, dx, z, rs, lr, lp, dn, dr, v, rfl, hx, hn, tk, h⟩ := h
    refine ⟨_, (PSs.nox (pss_cons (ps_if (PW.pt (pw_or (pt_not (pt_val (pe_callB (id := "isinstance") call_isi (by rfl) T.n_isinstance (by decide +kernel) (pa_cons (pv 1) (pa_cons (pe_bltn (v := .ty "tuple") (by rfl) T.n_tuple (by decide +kernel) rfl) pa_nil))))) (pw_or1 (pt_cmpR op_ne (pe_callB (id := "len") call_len_seq (by rfl) T.n_len (by decide +kernel) (pa_cons (pv 1) pa_nil)) pe_int (nomark _))))) (pss_one (ps_ret pe_bl)) pss_nil)
      (pss_cons (ps_asg (pv 1) (pg_tup rfl (pgs_cons (pg_name (i := 2) sc_Table_may_take_row.nd rfl (Or.inl rfl)) (pgs_cons (pg_name (i := 3) sc_Table_may_take_row.nd rfl (Or.inl rfl)) pgs_nil))))
      (pss_cons (ps_if (PW.pt (pw_or (pt_cmpR op_isN (pe_met M_Table_which (pv 0) (by first | exact hr | exact hr.mono (by decide)) (pa_cons (pv 2) pa_nil)) pe_non (nomark _)) (pw_or1 (pt_cmpR op_isN (pe_met M_Table_which (pv 0) (by first | exact hr | exact hr.mono (by decide)) (pa_cons (pv 3) pa_nil)) pe_non (nomark _))))) (pss_one (ps_ret pe_bl)) pss_nil)
      (pss_cons (ps_set (i := 4) sc_Table_may_take_row.nd rfl (Or.inl rfl) (pe_op op_add_str (pv 2) (pv 3)))
      (pss_one (ps_ret (pe_and (pe_cmpR op_le (pe_callB (id := "len") call_len_str (by rfl) T.n_len (by decide +kernel) (pa_cons (pv 4) pa_nil)) (pe_glob (v := .int 16) (by rfl) T.c_MOST_JOINED.choose_spec ⟨_, rfl⟩) (nomark _)) (pe_one (pe_cmpR op_isN (pe_met M_Table_which (pv 0) (by first | exact hr | exact hr.mono (by decide)) (pa_cons (pv 4) pa_nil)) pe_non (nomark _))))))))))), ?_⟩
    have nd := tk.nodup
    rcases h with ⟨⟨ty, hty, hk⟩ | ⟨a, us, rfl, hA, ul, h⟩, k⟩ | ⟨a, l, r, rfl, ha, hl, hr', hlen, hnew, k⟩
    · exact ⟨_, rfl, _, _, _, _, _, rfl, .ty "tuple", hty, hk, _, rfl, iteT k⟩
    · refine ⟨_, rfl, _, _, _, _, _, rfl, .ty "tuple", .base (.tup hA), isTup, _, rfl, iteF ⟨_, rfl, a, _, rfl, .inr (SqT.of hA), rfl, _, rfl, ?_⟩⟩
      rcases h with h | ⟨u1, u2, rfl, h⟩
      · have e : decide (V.int ((us.length : Nat) : Int) = V.int 2) = false := decide_eq_false fun e => h (by have := V.int.inj e; omega)
        rw [e]
        exact iteT k
      · have e : decide (V.int ((([u1, u2] : List V).length : Nat) : Int) = V.int 2) = true := decide_eq_true rfl
        rw [e]
        refine iteF ⟨_, rfl, a, _, rfl, SqT.of hA, rfl, _, _, rfl, _, _, rfl, rfl, ?_⟩
        rcases h with n1 | ⟨l, rfl, hl, h⟩
        · refine ⟨_, rfl, x, dx, _, rfl, hx, l5_which _ _ _ _ _, _, rfl, x, dx, _, dn, _, _, rfl, hx, l5_num _ _ _ _ _, hn, ?_⟩
          rcases n1 with ⟨t, rfl, nt⟩ | n
          · refine .inl ⟨t, rfl, ?_⟩
            rw [numD_none 0 _ _ nt]
            exact ⟨rfl, _, rfl, iteT k⟩
          · exact .inr ⟨n, rfl, _, rfl, iteT k⟩
        obtain ⟨i, _, ei⟩ := num_some nd hl
        refine ⟨_, rfl, x, dx, _, rfl, hx, l5_which _ _ _ _ _, _, rfl, x, dx, _, dn, _, _, rfl, hx, l5_num _ _ _ _ _, hn, .inl ⟨l, rfl, ?_⟩⟩
        rw [ei]
        refine ⟨rfl, _, rfl, iteF ?_⟩
        rcases h with n2 | ⟨r, rfl, hr', h⟩
        · refine ⟨_, rfl, x, dx, _, rfl, hx, l5_which _ _ _ _ _, _, rfl, x, dx, _, dn, _, _, rfl, hx, l5_num _ _ _ _ _, hn, ?_⟩
          rcases n2 with ⟨t, rfl, nt⟩ | n
          · refine .inl ⟨t, rfl, ?_⟩
            rw [numD_none 0 _ _ nt]
            exact ⟨rfl, _, rfl, iteT k⟩
          · exact .inr ⟨n, rfl, _, rfl, iteT k⟩
        obtain ⟨j, _, ej⟩ := num_some nd hr'
        refine ⟨_, rfl, x, dx, _, rfl, hx, l5_which _ _ _ _ _, _, rfl, x, dx, _, dn, _, _, rfl, hx, l5_num _ _ _ _ _, hn, .inl ⟨r, rfl, ?_⟩⟩
        rw [ej]
        refine ⟨rfl, _, rfl, iteF ?_⟩
        have la := app_len l r
        have pl1 := (tk.plen hl).2
        have pl2 := (tk.plen hr').2
        refine ⟨_, rfl, _, rfl, _, _, rfl, rfl, sz (by omega), ?_⟩
        refine ⟨_, rfl, _, rfl, sz (by omega), _, _, rfl, rfl, _, rfl, ?_⟩
        by_cases c : (l ++ r).length ≤ 16
        · rw [decide_eq_true (show ((l ++ r).length : Int) ≤ 16 by omega)]
          have hm : l ++ r ∈ pcs z rs := by
            rcases h with h | h
            · omega
            · exact h
          obtain ⟨q, _, eq⟩ := num_some nd hm
          refine iteT ⟨_, rfl, x, dx, _, rfl, hx, l5_which _ _ _ _ _, _, rfl, x, dx, _, dn, _, _, rfl, hx, l5_num _ _ _ _ _, hn, .inl ⟨l ++ r, rfl, ?_⟩⟩
          rw [eq]
          exact ⟨rfl, k⟩
        · rw [decide_eq_false (show ¬ ((l ++ r).length : Int) ≤ 16 by omega)]
          exact iteF k
    · obtain ⟨i, _, ei⟩ := num_some nd hl
      obtain ⟨j, _, ej⟩ := num_some nd hr'
      have la := app_len l r
      refine ⟨_, rfl, _, _, _, _, _, rfl, .ty "tuple", .base (.tup ha), isTup, _, rfl, iteF ⟨_, rfl, a, _, rfl, .inr (SqT.of ha), rfl, _, rfl, iteF ?_⟩⟩
      refine ⟨_, rfl, a, _, rfl, SqT.of ha, rfl, _, _, rfl, _, _, rfl, rfl, ?_⟩
      refine ⟨_, rfl, x, dx, _, rfl, hx, l5_which _ _ _ _ _, _, rfl, x, dx, _, dn, _, _, rfl, hx, l5_num _ _ _ _ _, hn, .inl ⟨l, rfl, ?_⟩⟩
      rw [ei]
      refine ⟨rfl, _, rfl, iteF ?_⟩
      refine ⟨_, rfl, x, dx, _, rfl, hx, l5_which _ _ _ _ _, _, rfl, x, dx, _, dn, _, _, rfl, hx, l5_num _ _ _ _ _, hn, .inl ⟨r, rfl, ?_⟩⟩
      rw [ej]
      refine ⟨rfl, _, rfl, iteF ?_⟩
      refine ⟨_, rfl, _, rfl, _, _, rfl, rfl, sz (by omega), ?_⟩
      refine ⟨_, rfl, _, rfl, sz (by omega), _, _, rfl, rfl, _, rfl, ?_⟩
      rw [decide_eq_true (show ((l ++ r).length : Int) ≤ 16 by omega)]
      refine iteT ⟨_, rfl, x, dx, _, rfl, hx, l5_which _ _ _ _ _, _, rfl, x, dx, _, dn, _, _, rfl, hx, l5_num _ _ _ _ _, hn, .inl ⟨l ++ r, rfl, ?_⟩⟩
      rw [numD_none 0 _ _ hnew]
      exact ⟨rfl, k⟩
/-- Table(signs, rows): refused, or made -/
def spTInitX (K : PySem.W.Frag) : Sp := fun vs H Q E => ∃ (H0 : Hp) (x dx : Addr) (sv rv : V), vs = [.ref x, sv, rv] ∧ H = upd (upd H0 dx (.own x)) x (.ins (TC K) dx []) ∧ H0 x = none ∧ H0 dx = none ∧ dx ≠ x ∧
  ((∃ part u, WTab K H0 sv rv part u ∧ Rz2 (CTable K) "part" "number" (.str part) u H0 E) ∨ ∃ (pr : Addr) (z : Str) (rs : Rws), sv = .str z ∧ rv = .ref pr ∧ RowsAt H0 pr rs ∧ TabOk z rs ∧ ∀ H', Same H0 H' → TabFr (TC K) H0 H' x z rs → Q .non H')
theorem mkx_Table (T : Tx K mg) : Mkc P w K mg base (L2.CX P w) 5 "Table" (TC K) (spTInitX K) := by
  have CX_check_signs := calx_check_signs (P := P) (w := w) (base := base) T
  have E_NoTable := exk_NoTable (P := P) (w := w) (base := base) T
  have M_Table_take_piece := met_take_piece (P := P) (w := w) (base := base) T
  have M_Table_may_take_row := metU_may_take_row (P := P) (w := w) (base := base) T
  have M_Table_take_row := met_take_row (P := P) (w := w) (base := base) T
  obtain ⟨fd, F⟩ := T.d_Table___init__
  refine ⟨⟨_, fd, P_Table___init__, F.ok sc_Table___init__ (fun vs H Q E h => ?_) (fun cdv A outer s H vs Q E hr h => ?_), T.mk_Table, F.bindsN (ps := P_Table___init__) fun _ _ _ _ _ _ us hl => match us, hl with | [_, _, _], _ => rfl⟩, T.g_Table⟩
  · obtain ⟨H0, x, dx, sv, rv, rfl, _⟩ := h
    rfl
  · obtain ⟨H0, x, dx, sv, rv, rfl, rfl, x0, dx0, ndx, h⟩ := h
    refine ⟨_, (pss_cons (ps_expr (pe_calX CX_check_signs (by first | exact hr | exact hr.mono (by decide)) (by rfl) (takes_of rfl rfl rfl rfl) (pa_cons (pv 1) pa_nil)))
      (pss_cons (ps_if (PW.pt (pw_or (pt_not (pt_val (pe_callB (id := "isinstance") call_isi (by rfl) T.n_isinstance (by decide +kernel) (pa_cons (pv 2) (pa_cons (pe_bltn (v := .ty "list") (by rfl) T.n_list (by decide +kernel) rfl) pa_nil))))) (pw_or1 (pt_cmpR op_gt (pe_callB (id := "len") call_len_seq (by rfl) T.n_len (by decide +kernel) (pa_cons (pv 2) pa_nil)) (pe_glob (v := .int 24) (by rfl) T.c_MOST_ROWS.choose_spec ⟨_, rfl⟩) (nomark _))))) (pss_one (ps_raise rfl (takes_of rfl rfl rfl rfl) (E_NoTable.mk2 (by first | exact hr | exact hr.mono (by decide)) (pa_cons pe_str (pa_cons pe_non pa_nil))))) pss_nil)
      (pss_cons (ps_fld (pv 0) (pv 1) rfl)
      (pss_cons (ps_fld (pv 0) (pe_lst pa_nil) rfl)
      (pss_cons (ps_fld (pv 0) (pe_lst pa_nil) rfl)
      (pss_cons (ps_fld (pv 0) pe_dnewK rfl)
      (pss_cons (ps_fld (pv 0) pe_dnewT rfl)
      (pss_cons (ps_for (passes_of rfl) rfl (pi_str (pv 1)) (pg_name (i := 3) sc_Table___init__.nd rfl (Or.inl rfl)) (pss_one (ps_expr (pe_met M_Table_take_piece (pv 0) (by first | exact hr | exact hr.mono (by decide)) (pa_cons (pv 3) pa_nil)))))
      (pss_cons (ps_for (passes_of rfl) rfl (pi_enum (by rfl) T.n_enumerate (pa_cons (pv 2) pa_nil)) (pg_tup rfl (pgs_cons (pg_name (i := 4) sc_Table___init__.nd rfl (Or.inl rfl)) (pgs_cons (pg_name (i := 5) sc_Table___init__.nd rfl (Or.inl rfl)) pgs_nil))) (pss_cons (ps_if (pt_not (pt_val (pe_met M_Table_may_take_row (pv 0) (by first | exact hr | exact hr.mono (by decide)) (pa_cons (pv 5) pa_nil)))) (pss_one (ps_raise rfl (takes_of rfl rfl rfl rfl) (E_NoTable.mk2 (by first | exact hr | exact hr.mono (by decide)) (pa_cons pe_str (pa_cons (pv 4) pa_nil))))) pss_nil)
      (pss_one (ps_expr (pe_met M_Table_take_row (pv 0) (by first | exact hr | exact hr.mono (by decide)) (pa_cons (pv 5) pa_nil))))))
      (pss_one (ps_fld (pv 0) (pe_callB (id := "max") (cr_max rfl) (by rfl) T.n_max (by decide +kernel) (pa_cons (pe_lc (own := [("piece", 6)]) (g := gName 6) (by rfl) sc_Table___init__.nd (pi_list (pe_fld (pv 0) rfl)) (blkOk_by (own := [("piece", 6)]) (N := N_Table___init__) (sc := defScope s_Table___init__) (by decide +kernel)) (fun _ _ _ _ _ => (pg_name (i := 6) sc_Table___init__.nd rfl (Or.inl rfl))) (fun _ _ _ _ _ => pts_nil) (fun _ _ _ _ _ => (pe_callB (id := "len") call_len_str (by rfl) T.n_len (by decide +kernel) (pa_cons (pv 6) pa_nil)))) pa_nil)) rfl))))))))))), ?_⟩
    have s00 : Same H0 (upd (upd H0 dx (.own x)) x (.ins (TC K) dx [])) := Same.mut (Same.new dx0) x0
    have fr := fmt_part (.inr rfl : Str.ofString "rows" = Str.ofString "signs" ∨ Str.ofString "rows" = Str.ofString "rows")
    have h' : (∃ u, WSigns K H0 sv u ∧ Rz2 (CTable K) "part" "number" (.str (Str.ofString "signs")) u H0 E) ∨ ∃ z, sv = .str z ∧ SignsOk z ∧ 1 ≤ z.length ∧ z.length ≤ 12 ∧ ((NoLst K H0 rv ∧ Rz2 (CTable K) "part" "number" (.str (Str.ofString "rows")) .non H0 E) ∨ ∃ pr us, rv = .ref pr ∧ H0 pr = some (.lst us) ∧
        ((24 < us.length ∧ us.length ≤ 1000 ∧ Rz2 (CTable K) "part" "number" (.str (Str.ofString "rows")) .non H0 E) ∨ (us.length ≤ 24 ∧ ∃ rs, RowsTo K H0 z us rs ∧ ((rs.length < us.length ∧ Rz2 (CTable K) "part" "number" (.str (Str.ofString "rows")) (.int (rs.length : Nat)) H0 E) ∨
          (rs.length = us.length ∧ ∀ H', Same H0 H' → TabFr (TC K) H0 H' x z rs → Q .non H'))))) := by
      rcases h with ⟨part, u, ⟨rfl, ws⟩ | ⟨rfl, z, e, ok, z1, z12, ⟨nl, rfl⟩ | ⟨a, us, e2, hA, ul, u24, rfl⟩ | ⟨a, us, rs, e2, hA, ul, rt, rl, rfl⟩⟩, k⟩ | ⟨pr, z, rs, e, e2, ⟨as, hp, hrs⟩, tk, k⟩
      · exact .inl ⟨u, ws, k⟩
      · exact .inr ⟨z, e, ok, z1, z12, .inl ⟨nl, k⟩⟩
      · exact .inr ⟨z, e, ok, z1, z12, .inr ⟨a, us, e2, hA, .inl ⟨u24, ul, k⟩⟩⟩
      · exact .inr ⟨z, e, ok, z1, z12, .inr ⟨a, us, e2, hA, .inr ⟨ul, rs, rt, .inl ⟨rl, k⟩⟩⟩⟩
      · have al : (as.map V.ref).length = rs.length := by rw [List.length_map, Paired.len hrs]
        have many := tk.many
        exact .inr ⟨z, e, tk.sg, tk.n1, tk.n12, .inr ⟨pr, as.map V.ref, e2, hp, .inr ⟨by omega, rs, ⟨⟨as, by rw [← al, List.take_length], hrs⟩, by omega, tk, fun v hv => by rw [← al, List.getElem?_eq_none (Nat.le_refl _)] at hv; cases hv⟩, .inr ⟨al.symm, k⟩⟩⟩⟩
    rcases h' with ⟨u, ws, k⟩ | ⟨z, rfl, sgk, n1, n12, h⟩
    · exact ⟨_, rfl, _, rfl, .inr ⟨u, ws.same s00, k.same s00⟩⟩
    refine ⟨_, rfl, _, rfl, .inl ⟨z, rfl, sgk, n1, n12, fun H1 s1 => ?_⟩⟩
    have hx1 : H1 x = some (.ins (TC K) dx []) := s1 _ _ upd_same
    have s01 := s00.trans s1
    rcases h with ⟨⟨ty, hty, hk⟩, k⟩ | ⟨pr, us, rfl, hpr, h⟩
    · exact ⟨_, rfl, _, _, _, _, _, rfl, .ty "list", tyx_same hty s01, hk, _, rfl, iteT ⟨_, _, rfl, fr, .inl rfl, (k.same s01).now⟩⟩
    have hpr1 : H1 pr = some (.lst us) := s01 _ _ hpr
    refine ⟨_, rfl, _, _, _, _, _, rfl, .ty "list", .base (.lst hpr1), isLst, _, rfl, iteF ⟨_, rfl, _, _, rfl, .inl (SqL.of hpr1), _, _, rfl, rfl, _, rfl, ?_⟩⟩
    rcases h with ⟨u24, ul, k⟩ | ⟨ul, rs, rt, hrt⟩
    · rw [decide_eq_true (show (24 : Int) < (us.length : Nat) by omega)]
      exact iteT ⟨_, _, rfl, fr, .inl rfl, (k.same s01).now⟩
    rw [decide_eq_false (show ¬ (24 : Int) < (us.length : Nat) by omega)]
    have tk := rt.ok
    have many := tk.many
    obtain ⟨as0, eas, hts0⟩ := rt.pre
    refine iteF ⟨_, rfl, _, rfl, x, _, dx, _, rfl, hx1, T.cl_Table, T.no_Table_sign_text, (by show 0 < 1000; decide), ?_⟩
    have s02 := Same.mut (o := .ins (TC K) dx (putF "sign_text" (.str z) [])) s01 x0
    refine ⟨Nat.zero_le _, fun lr hlr => ⟨_, rfl, x, _, dx, _, rfl, Same.new hlr _ _ upd_same, T.cl_Table, T.no_Table_row_list, (by show 1 < 1000; decide), ?_⟩⟩
    have s03 := Same.mut (o := .ins (TC K) dx (putF "row_list" (.ref lr) (putF "sign_text" (.str z) []))) (Same.put (o := .lst []) s02 hlr) x0
    refine ⟨Nat.zero_le _, fun lp hlp => ⟨_, rfl, x, _, dx, _, rfl, Same.new hlp _ _ upd_same, T.cl_Table, T.no_Table_piece_list, (by show 2 < 1000; decide), ?_⟩⟩
    have s04 := Same.mut (o := .ins (TC K) dx (putF "piece_list" (.ref lp) (putF "row_list" (.ref lr) (putF "sign_text" (.str z) [])))) (Same.put (o := .lst []) s03 hlp) x0
    intro dn hdn
    refine ⟨_, rfl, x, _, dx, _, rfl, Same.new hdn _ _ upd_same, T.cl_Table, T.no_Table_number_by_piece, (by show 3 < 1000; decide), ?_⟩
    have s05 := Same.mut (o := .ins (TC K) dx (putF "number_by_piece" (.ref dn) (putF "piece_list" (.ref lp) (putF "row_list" (.ref lr) (putF "sign_text" (.str z) []))))) (Same.put (o := .dK []) s04 hdn) x0
    intro dr hdr
    refine ⟨_, rfl, x, _, dx, _, rfl, Same.new hdr _ _ upd_same, T.cl_Table, T.no_Table_rank_by_row, (by show 4 < 1000; decide), ?_⟩
    rw [l5_put]
    have s06 := Same.mut (o := .ins (TC K) dx (tf5 z lr lp dn dr)) (Same.put (o := .dT []) s05 hdr) x0
    have fr0 : Fre H0 x lr lp dn dr := ⟨x0, s02.free hlr, s03.free hlp, s04.free hdn, s05.free hdr, fun e => by
      rw [← e] at hlp
      have xl : lr ≠ x := fun e2 => by rw [e2, upd_same] at hlr; cases hlr
      rw [upd_ne xl, upd_same] at hlp
      cases hlp⟩
    have xlr : lr ≠ x := fun e2 => by rw [e2, upd_same] at hlr; cases hlr
    have xlp : lp ≠ x := fun e2 => by rw [e2, upd_same] at hlp; cases hlp
    have xdn : dn ≠ x := fun e2 => by rw [e2, upd_same] at hdn; cases hdn
    have xdr : dr ≠ x := fun e2 => by rw [e2, upd_same] at hdr; cases hdr
    have q1 := hlp
    have q2 := hdn
    have q3 := hdr
    have a1 : lr ≠ dn := fun e => by
      rw [← e, upd_ne xlr, upd_ne fr0.rp, upd_ne xlr, upd_same] at q2; cases q2
    have a2 : lp ≠ dn := fun e => by
      rw [← e, upd_ne xlp, upd_same] at q2; cases q2
    have a3 : lr ≠ dr := fun e => by
      rw [← e, upd_ne xlr, upd_ne a1, upd_ne xlr, upd_ne fr0.rp, upd_ne xlr, upd_same] at q3; cases q3
    have a4 : lp ≠ dr := fun e => by
      rw [← e, upd_ne xlp, upd_ne a2, upd_ne xlp, upd_same] at q3; cases q3
    have a5 : dn ≠ dr := fun e => by
      rw [← e, upd_ne xdn, upd_same] at q3; cases q3
    have mid0 : Mid K H0 (upd (upd (upd (upd (upd (upd (upd (upd (upd H1 x (.ins (TC K) dx (putF "sign_text" (.str z) []))) lr (.lst [])) x (.ins (TC K) dx (putF "row_list" (.ref lr) (putF "sign_text" (.str z) [])))) lp (.lst [])) x (.ins (TC K) dx (putF "piece_list" (.ref lp) (putF "row_list" (.ref lr) (putF "sign_text" (.str z) []))))) dn (.dK [])) x (.ins (TC K) dx (putF "number_by_piece" (.ref dn) (putF "piece_list" (.ref lp) (putF "row_list" (.ref lr) (putF "sign_text" (.str z) [])))))) dr (.dT [])) x (.ins (TC K) dx (tf5 z lr lp dn dr))) x dx z lr lp dn dr [] [] [] := by
      refine ⟨upd_same, ?_, .nil, ?_, ?_, ?_, s06, fun a ha => by cases ha⟩
      · rw [upd_ne xlr, upd_ne a3, upd_ne xlr, upd_ne a1, upd_ne xlr, upd_ne fr0.rp, upd_ne xlr, upd_same]; rfl
      · rw [upd_ne xlp, upd_ne a4, upd_ne xlp, upd_ne a2, upd_ne xlp, upd_same]; rfl
      · rw [upd_ne xdn, upd_ne a5, upd_ne xdn, upd_same]; rfl
      · rw [upd_ne xdr, upd_same]; rfl
    revert mid0
    generalize (upd (upd (upd (upd (upd (upd (upd (upd (upd H1 x (.ins (TC K) dx (putF "sign_text" (.str z) []))) lr (.lst [])) x (.ins (TC K) dx (putF "row_list" (.ref lr) (putF "sign_text" (.str z) [])))) lp (.lst [])) x (.ins (TC K) dx (putF "piece_list" (.ref lp) (putF "row_list" (.ref lr) (putF "sign_text" (.str z) []))))) dn (.dK [])) x (.ins (TC K) dx (putF "number_by_piece" (.ref dn) (putF "piece_list" (.ref lp) (putF "row_list" (.ref lr) (putF "sign_text" (.str z) [])))))) dr (.dT [])) x (.ins (TC K) dx (tf5 z lr lp dn dr))) = H6
    intro mid0
    refine ⟨_, rfl, z, rfl, for_str (x := z) (fun i σ H' => ∃ u, σ = [some (.ref x), some (.str z), some (.ref pr), u, none, none, none] ∧ Mid K H0 H' x dx z lr lp dn dr [] ((sgs z).take i) []) ⟨none, rfl, mid0⟩ ?_ ?_⟩
    · rintro i c σ H' hi ⟨u, rfl, M⟩
      have hsg : (sgs z)[i]? = some (sgn c) := by unfold sgs; rw [List.getElem?_map, hi]; rfl
      have hnew : ¬ sgn c ∈ (sgs z).take i := fun hm => by
        have nd := sgs_nodup sgk.nd
        rw [← List.take_append_drop i (sgs z), List.nodup_append] at nd
        refine nd.2.2 _ hm (sgn c) (List.mem_of_getElem? (i := 0) ?_) rfl
        rw [List.getElem?_drop]; exact hsg
      refine ⟨_, rfl, x, dx, _, rfl, M.hx, l5_tp _ _ _ _ _, _, rfl, x, dx, z, lr, lp, dn, dr, (sgs z).take i, sgn c, rfl, M.hx, M.hlp, M.hdn, hnew, ?_, ?_⟩
      · rw [List.length_take]; have := sgs_len z; omega
      · refine ⟨_, rfl, ?_⟩
        have e : (sgs z).take (i + 1) = (sgs z).take i ++ [sgn c] := by rw [List.take_add_one, hsg]; rfl
        rw [e]
        exact M.piece fr0
    · rintro σ H' ⟨u, rfl, M⟩
      have e0 : (sgs z).take z.cps.toList.length = sgs z := by
        rw [List.take_of_length_le]; unfold sgs; rw [List.length_map]; exact Nat.le_refl _
      rw [e0] at M
      have ep : sgs z = pcs z [] := by unfold pcs; rw [List.map_nil, List.append_nil]
      rw [ep] at M
      refine ⟨_, rfl, pr, _, rfl, SqL.of (M.sm _ _ hpr), for_enum (K := K) (a := pr) (xs := us) (fun i σ H' => ∃ (u v y : Option V) (as : List Addr), σ = [some (.ref x), some (.str z), some (.ref pr), u, v, y, none] ∧ i ≤ rs.length ∧ Mid K H0 H' x dx z lr lp dn dr as (pcs z (rs.take i)) (rs.take i))
        ⟨u, none, none, [], rfl, Nat.zero_le _, M⟩ (fun i σ H' _ ⟨_, _, _, _, _, _, M⟩ => SqL.of (M.sm _ _ hpr)) ?_ ?_⟩
      · rintro i y t σ H' hi ht ⟨u, v, y', as, rfl, il, M0⟩
        have M := M0.new (o := .tup [.int (i : Nat), y]) ht
        have sm0 : Same H0 (upd H' t (.tup [.int (i : Nat), y])) := M.sm
        by_cases c : i = rs.length
        · subst c
          have bad := (rt.nx y hi).same sm0
          have ul2 := (List.getElem?_eq_some_iff.mp hi).1
          rw [List.take_length] at M
          rcases hrt with ⟨rl, k⟩ | ⟨rl, _⟩
          · refine ⟨t, _, rfl, SqT.of upd_same, rfl, _, _, rfl, _, _, rfl, rfl, ?_⟩
            exact ⟨_, rfl, x, dx, _, rfl, M.hx, l5_mt _ _ _ _ _, _, rfl, x, dx, z, rs, lr, lp, dn, dr, y, rfl, M.hx, M.hdn, tk, .inl ⟨bad, _, rfl, iteT ⟨_, rfl, _, _, rfl, fr, fmt_nat rs.length (by omega), (k.same sm0).now⟩⟩⟩
          · omega
        have il2 : i < rs.length := by omega
        have ea0 : (us.take rs.length)[i]? = some y := by rw [List.getElem?_take, if_pos il2]; exact hi
        rw [eas, List.getElem?_map] at ea0
        cases ea : as0[i]? with
        | none => rw [ea] at ea0; cases ea0
        | some a =>
          rw [ea] at ea0
          cases ea0
          obtain ⟨r, hri, hta⟩ := Paired.get hts0 ea
          obtain ⟨l, r⟩ := r
          have ro := tk.rows i _ hri
          have ha : upd H' t (.tup [.int (i : Nat), .ref a]) a = some (.tup [.str l, .str r]) := M.sm _ _ hta
          have tki := tk.take i
          have pln : (pcs z (rs.take i)).length ≤ 1000 := by rw [pcs_len, List.length_take]; omega
          refine ⟨t, _, rfl, SqT.of upd_same, rfl, _, _, rfl, _, _, rfl, rfl, ?_⟩
          refine ⟨_, rfl, x, dx, _, rfl, M.hx, l5_mt _ _ _ _ _, _, rfl, x, dx, z, rs.take i, lr, lp, dn, dr, _, rfl, M.hx, M.hdn, tki, .inr ⟨a, l, r, rfl, ha, ro.lm, ro.rm, ro.len, ro.new, _, rfl, iteF ?_⟩⟩
          have hnr : ¬ (l, r) ∈ rs.take i := fun hm => ro.new (by unfold pcs; exact List.mem_append_right _ (List.mem_map.mpr ⟨_, hm, rfl⟩))
          have rlen : (rs.take i).length ≤ 1000 := by rw [List.length_take]; omega
          refine ⟨_, rfl, x, dx, _, rfl, M.hx, l5_tr _ _ _ _ _, _, rfl, x, dx, z, lr, lp, dn, dr, pcs z (rs.take i), as, rs.take i, a, l, r, rfl, M.hx, M.hlr, fr0.rp, M.hlp, M.hdn, M.hdr, Paired.len M.hts, rlen, pln, ha, ro.new, Nat.le_trans ro.len (by decide), hnr, ?_⟩
          intro H7 t7 keep ht7 h7t h7r h7p h7n h7d
          have x1 : x ≠ lr := ne_of M.hx M.hlr (by intro q; cases q)
          have x2 : x ≠ lp := ne_of M.hx M.hlp (by intro q; cases q)
          have x3 : x ≠ dn := ne_of M.hx M.hdn (by intro q; cases q)
          have x4 : x ≠ dr := ne_of M.hx M.hdr (by intro q; cases q)
          have et : rs.take (i + 1) = rs.take i ++ [(l, r)] := by rw [List.take_add_one, hri]; rfl
          refine ⟨_, _, _, as ++ [t7], rfl, il2, ?_⟩
          rw [et, pcs_snoc]
          refine ⟨keep _ _ x1 x2 x3 x4 M.hx, h7r, Paired.snoc (L2.Paired.mapP M.hts fun b q hb => ?_) h7t, h7p, h7n, h7d, fun b o hb => ?_, fun b hb => ?_⟩
          · have hb2 : upd H' t (.tup [.int (i : Nat), .ref a]) b = _ := hb
            exact keep _ _ (ne_of hb2 M.hlr (by intro q; cases q)) (ne_of hb2 M.hlp (by intro q; cases q)) (ne_of hb2 M.hdn (by intro q; cases q)) (ne_of hb2 M.hdr (by intro q; cases q)) hb2
          · exact keep _ _ (ne_of_none hb fr0.flr) (ne_of_none hb fr0.flp) (ne_of_none hb fr0.fdn) (ne_of_none hb fr0.fdr) (M.sm _ _ hb)
          · rcases List.mem_append.mp hb with hb | hb
            · exact M.fra b hb
            · rw [List.mem_singleton.mp hb]; exact M.sm.free ht7
      · rintro σ H' ⟨u, v, y, as, rfl, il, M⟩
        have erl : rs.length = us.length := by have := rt.le; omega
        rcases hrt with ⟨rl, _⟩ | ⟨_, k⟩
        · omega
        rw [← erl, List.take_length] at M
        refine ⟨_, rfl, x, _, dx, _, _, rfl, M.hx, T.cl_Table, T.no_Table_piece_list, l5_pl _ _ _ _ _, lp, rfl, ⟨_, SqL.of M.hlp⟩, fun D hD => lc_listM (K := K) (item := V.str) (p := fun _ => true) (f := fun q => V.int (q.length : Nat)) (l := pcs z rs) (SqL.of M.hlp) hD ?_ (fun q hq H2 _ N Mm hM _ => ?_) (fun H2 s2 hL => ?_)⟩
        · rw [pcs_len]; omega
        · exact ⟨rfl, _, rfl, _, rfl, sz (by have := (tk.plen hq).2; omega), hM rfl⟩
        · have ef : (pcs z rs).filter (fun _ => true) = pcs z rs := List.filter_eq_self.mpr fun _ _ => rfl
          rw [ef] at hL
          obtain ⟨p, hp, hmx⟩ := list_max (pcs z rs) (fun e => by have := congrArg List.length e; rw [pcs_len] at this; simp at this; omega)
          refine ⟨D, (pcs z rs).map fun q => ((q.length : Nat) : Int), rfl, SqL.of ?_, ?_, ?_⟩
          · rw [hL, List.map_map]; rfl
          · rw [List.length_map, pcs_len]; omega
          · intro m hm hmm
            obtain ⟨pm, hpm, rfl⟩ := List.mem_map.mp hm
            have M2hx := s2 _ _ M.hx
            refine ⟨_, rfl, x, _, dx, _, rfl, M2hx, T.cl_Table, T.no_Table_most_signs, (by show 5 < 1000; decide), ?_⟩
            rw [l5_most]
            have x1 : x ≠ lr := ne_of M.hx M.hlr (by intro q; cases q)
            have x2 : x ≠ lp := ne_of M.hx M.hlp (by intro q; cases q)
            have x3 : x ≠ dn := ne_of M.hx M.hdn (by intro q; cases q)
            have x4 : x ≠ dr := ne_of M.hx M.hdr (by intro q; cases q)
            refine k _ (Same.mut (M.sm.trans s2) x0) ⟨dx, lr, lp, dn, dr, pm.length, as, upd_same, ?_, ?_, ?_, ?_, ?_, ⟨pm, hpm, rfl⟩, fun q hq => ?_, tk, fr0.fx, fr0.flr, fr0.flp, fr0.fdn, fr0.fdr, M.fra⟩
            · rw [upd_ne (Ne.symm x1)]; exact s2 _ _ M.hlr
            · refine L2.Paired.mapP M.hts fun b q hb => ?_
              have hb2 : H' b = _ := hb
              show upd H2 x _ b = _
              rw [upd_ne (ne_of hb2 M.hx (by intro q; cases q))]
              exact s2 _ _ hb2
            · rw [upd_ne (Ne.symm x2)]; exact s2 _ _ M.hlp
            · rw [upd_ne (Ne.symm x3)]; exact s2 _ _ M.hdn
            · rw [upd_ne (Ne.symm x4)]; exact s2 _ _ M.hdr
            · have := hmm _ (List.mem_map.mpr ⟨q, hq, rfl⟩)
              omega
end
end Jr
namespace Jr
open PySem PySem.Spec PyProof.Rows L2
/-! ### what a made table tells -/
def spTSigns (K : PySem.W.Frag) : Sp := fun vs H Q _ => ∃ (x : Addr) (z : Str) (rs : Rws), vs = [.ref x] ∧ TabAt (TC K) H x z rs ∧ Q (.str z) H
def spTRows (K : PySem.W.Frag) : Sp := fun vs H Q _ => ∃ (x : Addr) (z : Str) (rs : Rws), vs = [.ref x] ∧ TabAt (TC K) H x z rs ∧ ∀ H' p, Same H H' → H p = none → RowsAt H' p rs → Q (.ref p) H'
def spTPieces (K : PySem.W.Frag) : Sp := fun vs H Q _ => ∃ (x : Addr) (z : Str) (rs : Rws), vs = [.ref x] ∧ TabAt (TC K) H x z rs ∧ ∀ H' p, Same H H' → H p = none → H' p = some (.lst ((pcs z rs).map V.str)) → Q (.ref p) H'
section
variable {P : Program} {w : World} {K : PySem.W.Frag} {mg : Str → Option Value} {base : Heap}
theorem met_signs (T : Tx K mg) : Met P w K mg base CX0 1 (TC K) "signs" (spTSigns K) := by
  obtain ⟨fd, F⟩ := T.d_Table_signs
  refine ⟨T.cl_Table, _, fd, P_Table_signs, F.ok sc_Table_signs (fun vs H Q E h => ?_) (fun cdv A outer s H vs Q E hr h => ?_), T.m_Table_signs, F.bindsN (ps := P_Table_signs) fun _ _ _ _ _ _ us hl => match us, hl with | [_], _ => rfl⟩
  · obtain ⟨x, z, rs, rfl, _⟩ := h
    rfl
  · obtain ⟨x, z, rs, rfl, ta, k⟩ := h
    obtain ⟨dx, lr, lp, dn, dr, m, h1, _⟩ := ta.ex
    refine ⟨_, (PSs.nox (pss_one (ps_ret (pe_fld (pv 0) rfl)))), ?_⟩
    exact ⟨_, rfl, x, _, dx, _, _, rfl, h1, T.cl_Table, T.no_Table_sign_text, l6_st _ _ _ _ _ _, k⟩
theorem met_rows (T : Tx K mg) : Met P w K mg base CX0 1 (TC K) "rows" (spTRows K) := by
  obtain ⟨fd, F⟩ := T.d_Table_rows
  refine ⟨T.cl_Table, _, fd, P_Table_rows, F.ok sc_Table_rows (fun vs H Q E h => ?_) (fun cdv A outer s H vs Q E hr h => ?_), T.m_Table_rows, F.bindsN (ps := P_Table_rows) fun _ _ _ _ _ _ us hl => match us, hl with | [_], _ => rfl⟩
  · obtain ⟨x, z, rs, rfl, _⟩ := h
    rfl
  · obtain ⟨x, z, rs, rfl, ta, k⟩ := h
    obtain ⟨dx, lr, lp, dn, dr, m, h1, ⟨as, h2, h2'⟩, _⟩ := ta.ex
    refine ⟨_, (PSs.nox (pss_one (ps_ret (pe_callTy (T := "list") call_list_of (by rfl) T.n_list (by decide +kernel) (pa_cons (pe_fld (pv 0) rfl) pa_nil))))), ?_⟩
    exact ⟨_, rfl, x, _, dx, _, _, rfl, h1, T.cl_Table, T.no_Table_row_list, l6_rl _ _ _ _ _ _, lr, _, rfl, .inl (SqL.of h2), fun l hl => k _ l (Same.new hl) hl ⟨as, upd_same, TupAt.same (Same.new hl) h2'⟩⟩
end
end Jr
namespace Jr
open PySem PySem.Spec PyProof.Rows L2
/-! ### zip within enumerate: the pairs given out stay -/
section
variable {prog : Program} {w : World} {A : Around} {E : Value → Shared → Prop} {s : Shared}
/-- what zip has: nothing given out yet, or a tuple that is still there -/
def ZSt (h : Heap) (z TI TO : Addr) (T : Option Addr) : Prop := match T with
  | none => IsZip h z TI TO .none ∧ ∃ x y, IsPair h TO x y
  | some t => ∃ f, IsZipHeld h z TI TO t f
/-- the next pair, whether or not one is out -/
theorem ez_zip {z TI TO i1 i2 l1 l2 : Addr} {k : Nat} {xs ys : Array Value} {x y : Value} {T : Option Addr} {Q : Value → Shared → Prop} (D : ZipApart z TI TO i1 i2 l1 l2) (hz : ZSt s.heap z TI TO T) (hT : ∀ t, T = some t → ∃ o, s.heap.get? t = some o) (hTI : IsPair s.heap TI (.ref i1) (.ref i2))
    (h1 : s.heap.IsListIter i1 l1 k) (h2 : s.heap.IsListIter i2 l2 k) (hl1 : s.heap.IsList l1 xs) (hl2 : s.heap.IsList l2 ys) (hx : xs[k]? = some x) (hy : ys[k]? = some y)
    (hQ : ∀ g, (∃ T', ZSt g z TI TO (some T') ∧ (T = some T' ∨ T' = s.heap.objs.size)) → g.IsListIter i1 l1 (k + 1) → g.IsListIter i2 l2 (k + 1) → IsPair g s.heap.objs.size x y → g.objs.size = s.heap.objs.size + 1 →
      (∀ c o, c ≠ z → c ≠ TO → c ≠ i1 → c ≠ i2 → s.heap.get? c = some o → g.get? c = some o) → (∃ o, g.get? TO = some o ∧ ∀ v, o.data ≠ .cell v) → Q (.ref s.heap.objs.size) { s with heap := g }) (hTO : ∃ o, s.heap.get? TO = some o ∧ ∀ v, o.data ≠ .cell v) :
    wpAny (model prog w) A (Builtin.«zip.__next__» ⟨[.ref z], []⟩) (fun fin s' => ∃ v, fin = .done (.ret v) ∧ Q v s') E s := by
  cases T with
  | none =>
    obtain ⟨a, b, c, d⟩ := hz
    exact zip_next_item D a hTI d h1 h2 hl1 hl2 hx hy fun g a1 a2 a3 a4 a5 a6 a7 => hQ g ⟨_, ⟨false, a1⟩, .inr rfl⟩ a3 a4 a5 a6 a7 ⟨_, a2, fun v q => nomatch q⟩
  | some t =>
    obtain ⟨f, a⟩ := hz
    obtain ⟨o, ho⟩ := hT t rfl
    obtain ⟨oo, hoo, hod⟩ := hTO
    exact zip_next_item_held D a ho hTI h1 h2 hl1 hl2 hx hy fun g a1 a3 a4 a5 a6 a7 => hQ g ⟨t, ⟨true, a1⟩, .inl rfl⟩ a3 a4 a5 a6 (fun c o n1 _ n3 n4 e => a7 c o n1 n3 n4 e) ⟨oo, a7 _ _ D.TOz D.TOi1 D.TOi2 hoo, hod⟩
theorem ez_end {z TI TO i1 i2 l1 l2 : Addr} {k : Nat} {xs ys : Array Value} {T : Option Addr} {Q : Fin → Shared → Prop} (hh : A.handled = none) (D : ZipApart z TI TO i1 i2 l1 l2) (hz : ZSt s.heap z TI TO T) (hT : ∀ t, T = some t → ∃ o, s.heap.get? t = some o) (hTI : IsPair s.heap TI (.ref i1) (.ref i2))
    (h1 : s.heap.IsListIter i1 l1 k) (h2 : s.heap.IsListIter i2 l2 k) (hl1 : s.heap.IsList l1 xs) (hl2 : s.heap.IsList l2 ys) (he : xs[k]? = none ∨ ys[k]? = none)
    (hE : ∀ g e, (∀ c o, c ≠ z → c ≠ TO → c ≠ i1 → c ≠ i2 → s.heap.get? c = some o → g.get? c = some o) → (∃ o, g.get? e = some o ∧ o.cls = .type "StopIteration") → E (.ref e) { s with heap := g }) :
    wpAny (model prog w) A (Builtin.«zip.__next__» ⟨[.ref z], []⟩) Q E s := by
  cases T with
  | none =>
    obtain ⟨a, b, c, d⟩ := hz
    exact zip_next_end hh D a hTI d h1 h2 hl1 hl2 he hE
  | some t =>
    obtain ⟨f, a⟩ := hz
    obtain ⟨o, ho⟩ := hT t rfl
    exact zip_next_end_held hh D a ho hTI h1 h2 hl1 hl2 he fun g e k2 q => hE g e (fun c o n1 _ n3 n4 e => k2 c o n1 n3 n4 e) q
theorem ez_typ {z TI TO : Addr} {T : Option Addr} (hz : ZSt s.heap z TI TO T) : s.TypeIs (.ref z) "zip" := by
  cases T with
  | none => exact ⟨_, hz.1, rfl⟩
  | some t => obtain ⟨f, a⟩ := hz; exact ⟨_, a, rfl⟩
/-- within a builtin: the next of a zip -/
theorem ez_nextOf {z : Addr} {Q : Value → Shared → Prop} (hT : s.TypeIs (.ref z) "zip") (h : wpAny (model prog w) A.in1 (Builtin.«zip.__next__» ⟨[.ref z], []⟩) (fun fin s' => ∃ v, fin = .done (.ret v) ∧ Q v s') E s) : wpAny (model prog w) A (Builtin.SmallTypes.nextOf (.ref z)) Q E s := by
  unfold Builtin.SmallTypes.nextOf
  refine wpAny_bind (wpAny_callSpecial?_slot (name := Str.ofString "__next__") hT F.slot_zip_next (wpAny_call_entry F.slot_zip_next hT F.entry_zip_next ?_ (F.args_zip_next_1 _)))
  refine thn h fun fin s' q => ?_
  obtain ⟨v, e, q⟩ := q
  exact ⟨v, e, wpAny_pure q⟩
/-- enumerate's next, whatever its inner iterator does beside it -/
theorem ez_enum {e it : Addr} {i : Nat} {old : Value} {Q : Value → Shared → Prop} {R : Value → Heap → Prop} (he : IsEnum s.heap e it i old)
    (hin : ∀ Q' : Value → Shared → Prop, (∀ x g, R x g → Q' x { s with heap := g }) → wpAny (model prog w) A (Builtin.SmallTypes.nextOf (.ref it)) Q' E s) (hR : ∀ x g, R x g → g.get? e = s.heap.get? e)
    (hQ : ∀ x g g' tk, R x g → IsEnumOut g' e it ((i : Int) + 1) x g.objs.size → g'.get? g.objs.size = some { cls := .type "tuple", data := .seq #[.int i tk, x] } → g'.objs.size = g.objs.size + 1 → (∀ b o, b ≠ e → g.get? b = some o → g'.get? b = some o) → Q (.ref g.objs.size) { s with heap := g', toks := tk + 1 }) :
    wpAny (model prog w) A (Builtin.«enumerate.__next__» ⟨[.ref e], []⟩) (fun fin s' => ∃ v, fin = .done (.ret v) ∧ Q v s') E s := by
  rcases s with ⟨hs, gn, dn, tk, ow⟩
  show wpAny _ _ (field (.ref e) 2 >>= _) _ _ _; refine wpAny_bind (wpAny_field he rfl (x := .ref it) rfl (wpAny_bind (hin _ fun x g r => ?_)))
  have e1 : IsEnum g e it i old := (hR x g r).trans he
  show wpAny _ _ (field (.ref e) 3 >>= _) _ _ ⟨g, gn, dn, tk, ow⟩; refine wpAny_bind (wpAny_field e1 rfl (x := rawInt i) rfl ?_)
  show wpAny _ _ (field (.ref e) 4 >>= _) _ _ ⟨g, gn, dn, tk, ow⟩; refine wpAny_bind (wpAny_field e1 rfl (x := .none) rfl ?_)
  show wpAny _ _ (mkInt i >>= _) _ _ ⟨g, gn, dn, tk, ow⟩; refine wpAny_bind (wpAny_mkInt ?_)
  show wpAny _ _ (setField (.ref e) 3 (rawInt ((i : Int) + 1)) >>= _) _ _ ⟨g, gn, dn, tk + 1, ow⟩; refine wpAny_bind (wpAny_setField_rec e1 (by simp) fun g2 e2 b2 => ?_)
  have e2' : IsEnum g2 e it ((i : Int) + 1) old := e2
  show wpAny _ _ (setField (.ref e) 4 .none >>= _) _ _ ⟨g2, gn, dn, tk + 1, ow⟩; refine wpAny_bind (wpAny_setField_rec e2' (by simp) fun g3 e3 b3 => ?_)
  have e3' : IsEnum g3 e it ((i : Int) + 1) old := e3
  show wpAny _ _ (newTuple [.int i tk, x] >>= _) _ _ ⟨g3, gn, dn, tk + 1, ow⟩; refine wpAny_bind (wpAny_newTuple ?_)
  have z3 : g3.objs.size = g.objs.size := b3.1.trans b2.1
  have le : e < g.objs.size := Heap.lt_size e1
  have k3 : ∀ b o, b ≠ e → g.get? b = some o → g3.get? b = some o := fun b o n q => b3.extBut b o n (b2.extBut b o n q)
  obtain ⟨g4, eg4⟩ : ∃ g4, g4 = g3.push { cls := .type "tuple", data := .seq #[.int i tk, x] } := ⟨_, rfl⟩
  have t4 : g4.get? g.objs.size = some { cls := .type "tuple", data := .seq #[.int i tk, x] } := by rw [eg4, ← z3]; exact Heap.get?_push_size _ rfl
  have e4 : IsEnum g4 e it ((i : Int) + 1) old := by rw [eg4]; exact Heap.get?_push_of_some _ e3'
  have z4 : g4.objs.size = g.objs.size + 1 := by rw [eg4, Heap.size_push, z3]
  have k4 : ∀ b o, b ≠ e → g.get? b = some o → g4.get? b = some o := fun b o n q => by rw [eg4]; exact Heap.get?_push_of_some _ (k3 b o n q)
  rw [← eg4]
  show wpAny _ _ (Builtin.SmallTypes.ownedTupleIsFree (.ref e) >>= _) _ _ ⟨g4, gn, dn, tk + 1, ow⟩
  rw [z3]
  clear eg4 e3' e3 b3 e2' e2 b2 k3 z3
  refine wpAny_bind ?_
  unfold Builtin.SmallTypes.ownedTupleIsFree
  refine wpAny_bind (wpAny_field e4 rfl (x := .none) rfl (wpAny_pure ?_))
  simp only [if_true]
  refine wpAny_bind (wpAny_rule (wpAny_bind (wpAny_field e4 rfl (x := old) rfl (wpAny_bind (wpAny_setField_rec e4 (by simp) fun g5 e5 b5 => ?_)))))
  have e5' : IsEnum g5 e it ((i : Int) + 1) x := e5
  show wpAny _ _ (Builtin.SmallTypes.ownedTupleHandOut (.ref e) (.ref g.objs.size) >>= _) _ _ ⟨g5, gn, dn, tk + 1, ow⟩
  refine wpAny_bind ?_
  unfold Builtin.SmallTypes.ownedTupleHandOut
  refine wpAny_bind (wpAny_setField_rec e5' (by simp) fun g6 e6 b6 => ?_)
  have e6' : IsEnumOut g6 e it ((i : Int) + 1) x g.objs.size := e6
  refine wpAny_setField_rec e6' (by simp) fun g7 e7 b7 => wpAny_bind (wpAny_letGo (wpAny_pure ⟨_, rfl, hQ x g g7 tk r e7 ?_ ?_ ?_⟩))
  · exact b7.extBut _ _ (Nat.ne_of_gt le) (b6.extBut _ _ (Nat.ne_of_gt le) (b5.extBut _ _ (Nat.ne_of_gt le) t4))
  · rw [b7.1, b6.1, b5.1]; exact z4
  · exact fun b o n q => b7.extBut b o n (b6.extBut b o n (b5.extBut b o n (k4 b o n q)))
theorem ZSt.mv {g g' : Heap} {z TI TO : Addr} {t : Addr} (h : ZSt g z TI TO (some t)) (k : ∀ o, g.get? z = some o → g'.get? z = some o) : ZSt g' z TI TO (some t) := by
  obtain ⟨f, a⟩ := h
  exact ⟨f, k _ a⟩
theorem ez_item {e z TI TO i1 i2 l1 l2 : Addr} {i : Nat} {old : Value} {xs ys : Array Value} {x y : Value} {T : Option Addr} {Q : Option Value → Shared → Prop} (he : IsEnum s.heap e z i old) (D : ZipApart z TI TO i1 i2 l1 l2) (hz : ZSt s.heap z TI TO T) (hT : ∀ t, T = some t → ∃ o, s.heap.get? t = some o) (hTI : IsPair s.heap TI (.ref i1) (.ref i2))
    (h1 : s.heap.IsListIter i1 l1 i) (h2 : s.heap.IsListIter i2 l2 i) (hl1 : s.heap.IsList l1 xs) (hl2 : s.heap.IsList l2 ys) (hx : xs[i]? = some x) (hy : ys[i]? = some y) (hTO : ∃ o, s.heap.get? TO = some o ∧ ∀ v, o.data ≠ .cell v)
    (ne : e ≠ z ∧ e ≠ TO ∧ e ≠ i1 ∧ e ≠ i2 ∧ e ≠ TI)
    (hQ : ∀ g g' tk T', ZSt g z TI TO (some T') → (T = some T' ∨ T' = s.heap.objs.size) → IsPair g s.heap.objs.size x y → g.IsListIter i1 l1 (i + 1) → g.IsListIter i2 l2 (i + 1) → (∃ o, g.get? TO = some o ∧ ∀ v, o.data ≠ .cell v) → g.objs.size = s.heap.objs.size + 1 → (∀ c o, c ≠ z → c ≠ TO → c ≠ i1 → c ≠ i2 → s.heap.get? c = some o → g.get? c = some o) →
      IsEnumOut g' e z ((i : Int) + 1) (.ref s.heap.objs.size) (s.heap.objs.size + 1) → g'.get? (s.heap.objs.size + 1) = some { cls := .type "tuple", data := .seq #[.int i tk, .ref s.heap.objs.size] } → (∀ b o, b ≠ e → g.get? b = some o → g'.get? b = some o) → Q (some (.ref (s.heap.objs.size + 1))) { s with heap := g', toks := tk + 1 }) :
    wpAny (model prog w) A (pyNext (.ref e)) Q E s := by
  have hTe : s.TypeIs (.ref e) "enumerate" := ⟨_, he, rfl⟩
  have hTz := ez_typ hz
  have le : e < s.heap.objs.size := Heap.lt_size he
  unfold pyNext
  refine wpAny_bind (wpAny_attempt (wpAny_callSpecial?_slot (name := Str.ofString "__next__") hTe F.slot_enumerate_next (wpAny_call_entry F.slot_enumerate_next hTe F.entry_enumerate_next ?_ (F.args_enumerate_next_1 _))))
  refine ez_enum (R := fun v g => v = .ref s.heap.objs.size ∧ (∃ T', ZSt g z TI TO (some T') ∧ (T = some T' ∨ T' = s.heap.objs.size)) ∧ g.IsListIter i1 l1 (i + 1) ∧ g.IsListIter i2 l2 (i + 1) ∧ IsPair g s.heap.objs.size x y ∧ g.objs.size = s.heap.objs.size + 1 ∧ (∀ c o, c ≠ z → c ≠ TO → c ≠ i1 → c ≠ i2 → s.heap.get? c = some o → g.get? c = some o) ∧ ∃ o, g.get? TO = some o ∧ ∀ v, o.data ≠ .cell v) he
    (fun Q' q => ez_nextOf hTz (ez_zip D hz hT hTI h1 h2 hl1 hl2 hx hy (fun g a1 a2 a3 a4 a5 a6 a7 => q _ g ⟨rfl, a1, a2, a3, a4, a5, a6, a7⟩) hTO)) (fun v g r => ?_) (fun v g g' tk r eo tt sz kp => wpAny_pure ?_)
  · obtain ⟨_, _, _, _, _, _, kz, _⟩ := r
    rw [he]
    exact kz e _ ne.1 ne.2.1 ne.2.2.1 ne.2.2.2.1 he
  · obtain ⟨ev, ⟨T', a1, a1'⟩, a2, a3, a4, a5, a6, oo, a7, a8⟩ := r
    subst ev
    rw [a5] at eo tt ⊢
    exact hQ g g' tk T' a1 a1' a4 a2 a3 ⟨oo, a7, a8⟩ a5 a6 eo tt kp
theorem ez_stop {e z TI TO i1 i2 l1 l2 : Addr} {i : Nat} {old : Value} {xs ys : Array Value} {T : Option Addr} {Q : Option Value → Shared → Prop} (hh : A.handled = none) (he : IsEnum s.heap e z i old) (D : ZipApart z TI TO i1 i2 l1 l2) (hz : ZSt s.heap z TI TO T) (hT : ∀ t, T = some t → ∃ o, s.heap.get? t = some o) (hTI : IsPair s.heap TI (.ref i1) (.ref i2))
    (h1 : s.heap.IsListIter i1 l1 i) (h2 : s.heap.IsListIter i2 l2 i) (hl1 : s.heap.IsList l1 xs) (hl2 : s.heap.IsList l2 ys) (hend : xs[i]? = none ∨ ys[i]? = none)
    (hQ : ∀ g, (∀ c o, c ≠ z → c ≠ TO → c ≠ i1 → c ≠ i2 → s.heap.get? c = some o → g.get? c = some o) → Q none { s with heap := g }) : wpAny (model prog w) A (pyNext (.ref e)) Q E s := by
  have hTe : s.TypeIs (.ref e) "enumerate" := ⟨_, he, rfl⟩
  have hTz := ez_typ hz
  unfold pyNext
  refine wpAny_bind (wpAny_attempt (wpAny_callSpecial?_slot (name := Str.ofString "__next__") hTe F.slot_enumerate_next (wpAny_call_entry F.slot_enumerate_next hTe F.entry_enumerate_next ?_ (F.args_enumerate_next_1 _))))
  rcases s with ⟨hs, gn, dn, tk, ow⟩
  show wpAny _ _ (field (.ref e) 2 >>= _) _ _ _; refine wpAny_bind (wpAny_field he rfl (x := .ref z) rfl (wpAny_bind (ez_nextOf hTz (ez_end hh D hz hT hTI h1 h2 hl1 hl2 hend fun g x kp hx => ?_))))
  obtain ⟨o, ho, hc⟩ := hx
  refine wpAny_bind (wpAny_isInstance (T := "StopIteration") (b := true) ⟨o, ho, hc⟩ isSubtype_stop (wpAny_pure (hQ _ kp)))
end
end Jr
namespace Jr
open PySem PySem.Spec PyProof.Rows L2
/-! ### for over an iterator whose given out tuple stays -/
def TOk (H : Hp) (T : Option Addr) : Prop := ∀ t, T = some t → ∃ xs, H t = some (.tup xs)
def TupKeep (H H' : Hp) : Prop := ∀ t xs, H t = some (.tup xs) → H' t = some (.tup xs)
theorem TupKeep.of {H H' : Hp} (s : Same H H') : TupKeep H H' := fun t _ h => s t _ h
structure TurnT (P : Program) (w : World) (K : PySem.W.Frag) (tg : Expr) (J : It) (fp : List Addr) (it : Addr) (tn : Option Addr → Nat → Heap → Prop) : Prop where
  obj : ∀ T i h, tn T i h → ∀ b ∈ fp, ∃ o, h.get? b = some o ∧ ∀ v, o.data ≠ .cell v
  keep : ∀ T i h h', tn T i h → (∀ b ∈ fp, ∀ o, h.get? b = some o → h'.get? b = some o) → tn T i h'
  item : ∀ (X : Cx), X.prog = P → X.w = w → X.K = K → X.calm = true → ∀ (T : Option Addr) (i : Nat) (pins : List (Addr × Obj)) (s : Shared) (σ : L2.St) (H : Hp) (E : Value → Shared → Prop), Inv X pins σ H s → (∀ b ∈ fp, FpOk X pins H b) → tn T i s.heap → TOk H T → J.go i H →
    wpAny (model P w) X.A (pyNext (.ref it)) (fun r s1 => ∃ u, r = some u ∧ wpAny (model P w) X.A (letOwnedTupleGo tg (.ref it) u) (fun _ s2 => ∃ x H' T', Inv X pins σ H' s2 ∧ RelV x u ∧ J.yld i H x H' ∧ tn T' (i + 1) s2.heap ∧ TOk H' T' ∧ ∀ b ∈ fp, H' b = none) E s1) E s
  done : ∀ (X : Cx), X.prog = P → X.w = w → X.K = K → X.calm = true → ∀ (T : Option Addr) (i : Nat) (pins : List (Addr × Obj)) (s : Shared) (σ : L2.St) (H : Hp) (E : Value → Shared → Prop), Inv X pins σ H s → (∀ b ∈ fp, FpOk X pins H b) → tn T i s.heap → TOk H T → J.stop i H →
    wpAny (model P w) X.A (pyNext (.ref it)) (fun r s1 => r = none ∧ Inv X pins σ H s1) E s
structure PIT (X : Cx) (tg iter : Expr) (wi : TI) : Prop where
  run : ∀ (pins : List (Addr × Obj)) (s : Shared) (σ : L2.St) (H : Hp) (R : It → Hp → Prop), Inv X pins σ H s → wi σ H R →
    wpAny (model X.prog X.w) X.A (eval iter X.env) (fun v s1 => wpAny (model X.prog X.w) X.A (pyIter v) (fun itv s2 => ∃ (it : Addr) (fp : List Addr) (tn : Option Addr → Nat → Heap → Prop) (J : It) (H' : Hp), itv = .ref it ∧ Inv X pins σ H' s2 ∧ TurnT X.prog X.w X.K tg J fp it tn ∧ tn none 0 s2.heap ∧ (∀ b ∈ fp, FpOk X pins H' b) ∧ R J H') X.xe s1) X.xe s
def tForT (wi : TI) (g : TG) (tb : TS) : TS := fun D σ H => wi σ H fun J H1 => ∃ W : Nat → Nat → L2.St → Hp → Prop, (∃ m, W 0 m σ H1) ∧ ∀ i m σ H, W i m σ H →
  (J.stop i H ∧ D.nx σ H) ∨ (J.go i H ∧ ∃ N : L2.St → Hp → Prop, (∀ σ' H', N σ' H' → ∃ m', m' < m ∧ W (i + 1) m' σ' H') ∧ ∀ x H', J.yld i H x H' → g x σ H' fun σ2 H2 =>
    tb { D with nx := fun σ' H3 => TupKeep H' H3 ∧ N σ' H3, ct := fun σ' H3 => TupKeep H' H3 ∧ N σ' H3, bk := D.nx } σ2 H2)
theorem ps_forT {X : Cx} {tg iter : Expr} {body : List Stmt} {wi : TI} {g : TG} {tb : TS} {pos : Pos} (hp : PassesOwn (model X.prog X.w) X.A X.env X.xe) (hc : X.calm = true) (hi : PIT X tg iter wi) (hg : PG X tg g) (hb : PSs X body tb) (hs : ∀ x, foldedSetIterable iter X.env x = pure x := by intro _; rfl) :
    PS X (.For tg iter body [] pos) (tForT wi g tb) := by
  refine ⟨fun pins s σ H D I h => wpAny_For (thn (hi.run pins s σ H _ I h) fun v s1 h1 => thn h1 fun itv s2 h2 => ?_) hs⟩
  obtain ⟨it, fp, tn, J, H2, rfl, I2, TT, st2, f2, W, ⟨m0, w0⟩, turn⟩ := h2
  have stat : ∀ {H' : Hp}, (∀ b ∈ fp, H' b = none) → ∀ b ∈ fp, FpOk X pins H' b := fun hn b hb => ⟨hn b hb, (f2 b hb).2⟩
  refine codeAny_forLoop_any (fun n s' => ∃ T i σ' H', Inv X pins σ' H' s' ∧ tn T i s'.heap ∧ TOk H' T ∧ (∀ b ∈ fp, H' b = none) ∧ W i n σ' H') ?_ m0 ⟨none, 0, σ, H2, I2, st2, (fun t e => by cases e), fun b hb => (f2 b hb).1, w0⟩
  rintro n s3 ⟨T, i, σ3, H3, I3, st3, tk3, fr3, w3⟩
  rcases turn i n σ3 H3 w3 with ⟨stop, qn⟩ | ⟨go, N, hN, step⟩
  · refine wpAny_passesOwn hp (thn (TT.done X rfl rfl rfl hc T i pins s3 σ3 H3 X.xe I3 (stat fr3) st3 tk3 stop) fun r s4 hr => ?_)
    obtain ⟨hr, I4⟩ := hr
    subst hr
    exact wpAny_execs_nil ⟨σ3, H3, I4, qn⟩
  · refine wpAny_passesOwn hp (thn (TT.item X rfl rfl rfl hc T i pins s3 σ3 H3 X.xe I3 (stat fr3) st3 tk3 go) fun r s4 hr => ?_)
    obtain ⟨u, hr, h4⟩ := hr
    subst hr
    refine wpAny_passesOwn hp (thn h4 fun _ s5 h5 => ?_)
    obtain ⟨x, H5, T5, I5, r5, y5, st5, tk5, fr5⟩ := h5
    have ob5 := TT.obj _ _ _ st5
    refine wpAny_passesOwn hp (thn (hg.run _ s5 σ3 H5 x u _ (I5.pinned (stat fr5) ob5) r5 (step x H5 y5)) fun _ s6 h6 => ?_)
    obtain ⟨σ6, H6, I6, q6⟩ := h6
    refine wpAny_passesOwn hp (thn (hb.run _ s6 σ6 H6 _ I6 q6) fun f s7 q7 => ?_)
    have back : ∀ {σ7 : L2.St} {H7 : Hp}, Inv X (pins ++ pinsAt fp s5.heap) σ7 H7 s7 → TupKeep H5 H7 ∧ N σ7 H7 → ∃ m, m < n ∧ ∃ T i σ' H', Inv X pins σ' H' s7 ∧ tn T i s7.heap ∧ TOk H' T ∧ (∀ b ∈ fp, H' b = none) ∧ W i m σ' H' := fun {σ7 H7} I7 n7 => by
      obtain ⟨m', hm, w7⟩ := hN σ7 H7 n7.2
      have pin := fun b (hb : b ∈ fp) o (q : s5.heap.get? b = some o) => I7.pin (b, o) (List.mem_append_right _ (List.mem_append_right _ (mem_pinsAt hb q)))
      refine ⟨m', hm, T5, i + 1, σ7, H7, I7.unpinned, TT.keep _ _ _ _ st5 fun b hb o q => (pin b hb o q).1, fun t e => ?_, fun b hb => ?_, w7⟩
      · obtain ⟨xs, hx⟩ := tk5 t e
        exact ⟨xs, n7.1 t xs hx⟩
      · obtain ⟨o, q, _⟩ := ob5 b hb
        exact (pin b hb o q).2.1
    cases f with
    | next => obtain ⟨σ7, H7, I7, n7⟩ := q7; exact back I7 n7
    | cont => obtain ⟨σ7, H7, I7, n7⟩ := q7; exact back I7 n7
    | brk => obtain ⟨σ7, H7, I7, n7⟩ := q7; exact ⟨σ7, H7, I7.unpinned, n7⟩
    | ret v => obtain ⟨x7, σ7, H7, I7, r7, n7⟩ := q7; exact ⟨x7, σ7, H7, I7.unpinned, r7, n7⟩
end Jr
namespace Jr
open PySem PySem.Spec PyProof.Rows L2
/-! ### for pair in zip(xs, ys); for number, pair in enumerate(zip(xs, ys)) -/
theorem meets_enumZ (z TI TO : Addr) : Meets (Builtin.«enumerate.__new__» ⟨[.type "enumerate", .ref z], []⟩) (fun _ R s => IsZip s.heap z TI TO .none ∧ R (.ok (.ret (.ref s.heap.objs.size))) { s with heap := s.heap.push { cls := .type "enumerate", data := .fields #[.none, .bool false, .ref z, rawInt 0, .none, .none] } }) :=
  .of_wp fun prog w A R s h => by
    rcases s with ⟨hs, gn, dn, tk, ow⟩
    obtain ⟨hz, h⟩ := h
    have hsub := sub_enumerate
    have hZ : IsZip (Shared.heap ⟨hs, gn, dn, tk, ow⟩) z TI TO .none := hz
    wp_walk
    refine wpAny_stack_any fun st => wpAny_pure ?_
    split
    · rename_i c _ _ _ _ _
      cases (c == Value.type "enumerate") <;> (wp_walk using wpAny_pyIter_zip hZ; exact ⟨_, rfl, h⟩)
    · wp_walk using wpAny_pyIter_zip hZ; exact ⟨_, rfl, h⟩
theorem call_enumZ {prog : Program} {w : World} {A : Around} {E : Value → Shared → Prop} {s : Shared} {z TI TO : Addr} {Q : Value → Shared → Prop} (hz : IsZip s.heap z TI TO .none)
    (h : ∀ h', IsEnum h' s.heap.objs.size z 0 .none → h'.objs.size = s.heap.objs.size + 1 → (∀ b o, s.heap.get? b = some o → h'.get? b = some o) → Q (.ref s.heap.objs.size) { s with heap := h' }) :
    wpAny (model prog w) A (call (.type "enumerate") [.ref z]) Q E s := by
  refine callType_new F.called_enumerate (by decide) (F.typeCall_enumerate_1 _) (F.newCall_enumerate_1 _) (fun obj => F.args_object_init_2 obj _) F.entry_enumerate_new (meets_enumZ z TI TO) ⟨hz, ?_⟩
  have he : IsEnum (s.heap.push { cls := .type "enumerate", data := .fields #[.none, .bool false, .ref z, rawInt 0, .none, .none] }) s.heap.objs.size z 0 .none := Heap.get?_push_size _ rfl
  exact ⟨⟨_, he, rfl⟩, h _ he (Heap.size_push ..) fun b o q => Heap.get?_push_of_some _ q⟩
/-- the state of a zip of two lists -/
def ZTn (z TI TO i1 i2 a b : Addr) (T : Option Addr) (i : Nat) (h : Heap) : Prop := ZSt h z TI TO T ∧ IsPair h TI (.ref i1) (.ref i2) ∧ (∃ o, h.get? TO = some o ∧ ∀ v, o.data ≠ .cell v) ∧ h.IsListIter i1 a i ∧ h.IsListIter i2 b i
theorem ZTn.obj {z TI TO i1 i2 a b : Addr} {T : Option Addr} {i : Nat} {h : Heap} (st : ZTn z TI TO i1 i2 a b T i h) : ∀ c ∈ [z, TI, TO, i1, i2], ∃ o, h.get? c = some o ∧ ∀ v, o.data ≠ .cell v := fun c hc => by
  obtain ⟨hz, hTI, hTO, ⟨o1, e1, _, d1⟩, ⟨o2, e2, _, d2⟩⟩ := st
  simp only [List.mem_cons, List.not_mem_nil, or_false] at hc
  rcases hc with rfl | rfl | rfl | rfl | rfl
  · cases T with
    | none => exact ⟨_, hz.1, fun v q => nomatch q⟩
    | some t => obtain ⟨f, q⟩ := hz; exact ⟨_, q, fun v q => nomatch q⟩
  · exact ⟨_, hTI, fun v q => nomatch q⟩
  · exact hTO
  · exact ⟨o1, e1, fun v q => by rw [d1] at q; cases q⟩
  · exact ⟨o2, e2, fun v q => by rw [d2] at q; cases q⟩
theorem ZTn.keep {z TI TO i1 i2 a b : Addr} {T : Option Addr} {i : Nat} {h h' : Heap} (st : ZTn z TI TO i1 i2 a b T i h) (k : ∀ c ∈ [z, TI, TO, i1, i2], ∀ o, h.get? c = some o → h'.get? c = some o) : ZTn z TI TO i1 i2 a b T i h' := by
  obtain ⟨hz, hTI, ⟨oo, hTO, hd⟩, h1, h2⟩ := st
  refine ⟨?_, k TI (by simp) _ hTI, ⟨oo, k TO (by simp) _ hTO, hd⟩, h1.at fun o q => k i1 (by simp) o q, h2.at fun o q => k i2 (by simp) o q⟩
  cases T with
  | none =>
    obtain ⟨q, x, y, q2⟩ := hz
    exact ⟨k z (by simp) _ q, x, y, k TO (by simp) _ q2⟩
  | some t => obtain ⟨f, q⟩ := hz; exact ⟨f, k z (by simp) _ q⟩
theorem alive {X : Cx} {pins : List (Addr × Obj)} {σ : L2.St} {H : Hp} {s : Shared} {T : Option Addr} (I : Inv X pins σ H s) (h : TOk H T) : ∀ t, T = some t → ∃ o, s.heap.get? t = some o := fun t e => by
  obtain ⟨xs, q⟩ := h t e
  obtain ⟨its, rv, ⟨o, ho, _⟩, _⟩ := I.tuple (SqT.of q)
  exact ⟨o, ho⟩
theorem lt5 (n : Nat) : n + 5 ≠ n + 4 ∧ n + 5 ≠ n + 3 ∧ n + 5 ≠ n ∧ n + 5 ≠ n + 1 ∧ n + 5 ≠ n + 2 := by omega
/-- enumerate(zip(..)) of two lists -/
def Itez (K : PySem.W.Frag) (a b : Addr) : It :=
  ⟨(Itz K a b).go, fun i H v H' => ∃ T S x y, v = .ref S ∧ H T = none ∧ S ≠ T ∧ H S = none ∧ H' = upd (upd H T (.tup [x, y])) S (.tup [.int (i : Nat), .ref T]) ∧ (∀ xs, SqL K H a xs → xs[i]? = some x) ∧ ∀ ys, SqL K H b ys → ys[i]? = some y, (Itz K a b).stop⟩
theorem turnT_zip {P : Program} {w : World} {K : PySem.W.Frag} {nm : Str} {tpos : Pos} {a b z TI TO i1 i2 : Addr} (D : ZipApart z TI TO i1 i2 a b) :
    TurnT P w K (.Name nm tpos) (Itz K a b) [z, TI, TO, i1, i2] z (ZTn z TI TO i1 i2 a b) where
  obj := fun T i h st => st.obj
  keep := fun T i h h' st k => st.keep k
  item := by
    intro X hP hw hK hc T i pins s σ H E I hf st tk hg
    subst hP hw hK
    obtain ⟨hz, hTI, hTO, h1, h2⟩ := id st
    obtain ⟨xs, ys, x, y, hqx, hqy, hx, hy⟩ := hg
    obtain ⟨its, rv, p, _⟩ := I.list hqx
    obtain ⟨its2, rv2, p2, _⟩ := I.list hqy
    obtain ⟨u, hu, ru⟩ := rv.get hx
    obtain ⟨u2, hu2, ru2⟩ := rv2.get hy
    have hTz := ez_typ hz
    have lt : ∀ c ∈ [z, TI, TO, i1, i2], c < s.heap.objs.size := fun c hcm => by
      obtain ⟨o, ho, _⟩ := st.obj c hcm
      exact Heap.lt_size ho
    unfold pyNext
    refine wpAny_bind (wpAny_attempt (wpAny_callSpecial?_slot (name := Str.ofString "__next__") hTz F.slot_zip_next (wpAny_call_entry F.slot_zip_next hTz F.entry_zip_next ?_ (F.args_zip_next_1 _))))
    refine ez_zip D hz (alive I tk) hTI h1 h2 p.isList p2.isList (x := u) (y := u2) (by simpa using hu) (by simpa using hu2) (fun g a1 a2 a3 a4 a5 a6 a7 => wpAny_pure ⟨_, rfl, ?_⟩) hTO
    obtain ⟨T', z', tt⟩ := a1
    unfold letOwnedTupleGo
    refine wpAny_pure ?_
    have new : ObjOk X.prog X.w (upd H s.heap.objs.size (.tup [x, y])) g s.heap.objs.size (.tup [x, y]) := ⟨by show 2 ≤ sizeLine; decide, [u, u2], .cons ru (.cons ru2 .nil), ⟨_, a4, rfl, _, rfl⟩⟩
    have I1 : Inv X pins σ (upd H s.heap.objs.size (.tup [x, y])) { s with heap := g } := I.turnedNew (t' := s.toks) (ch := [z, TI, TO, i1, i2]) (fun c o hb q => a6 c o (fun e => hb (by simp [e])) (fun e => hb (by simp [e])) (fun e => hb (by simp [e])) (fun e => hb (by simp [e])) q) hf (Nat.le_refl _) new
    refine ⟨.ref s.heap.objs.size, _, some T', I1, rfl, ⟨_, x, y, rfl, I.hok.fresh (Nat.le_refl _), rfl, fun l hl => by rw [I.list_inj hl hqx]; exact hx, fun l hl => by rw [I.list_inj hl hqy]; exact hy⟩, ⟨z', a6 _ _ D.TIz D.TITO D.TIi1 D.TIi2 hTI, a7, a2, a3⟩, fun t e => ?_, fun c hcm => ?_⟩
    · cases e
      rcases tt with e2 | e2
      · obtain ⟨zs, hq⟩ := tk _ e2
        refine ⟨zs, ?_⟩
        rw [upd_ne (fun e3 => by rw [e3, I.hok.fresh (Nat.le_refl _)] at hq; cases hq)]
        exact hq
      · rw [e2, upd_same]; exact ⟨_, rfl⟩
    · rw [upd_ne (Nat.ne_of_lt (lt c hcm))]
      exact (hf c hcm).1
  done := by
    intro X hP hw hK hc T i pins s σ H E I hf st tk hg
    subst hP hw hK
    obtain ⟨hz, hTI, hTO, h1, h2⟩ := st
    obtain ⟨xs, ys, hqx, hqy, hend⟩ := hg
    obtain ⟨its, rv, p, _⟩ := I.list hqx
    obtain ⟨its2, rv2, p2, _⟩ := I.list hqy
    have l1 := rv.length
    have l2 := rv2.length
    have hTz := ez_typ hz
    unfold pyNext
    refine wpAny_bind (wpAny_attempt (wpAny_callSpecial?_slot (name := Str.ofString "__next__") hTz F.slot_zip_next (wpAny_call_entry F.slot_zip_next hTz F.entry_zip_next ?_ (F.args_zip_next_1 _))))
    refine ez_end (I.ok.hd hc) D hz (alive I tk) hTI h1 h2 p.isList p2.isList (hend.elim (fun q => .inl (by simp; omega)) fun q => .inr (by simp; omega)) fun g e kp hx => ?_
    obtain ⟨o, ho, hcl⟩ := hx
    refine wpAny_bind (wpAny_isInstance (T := "StopIteration") (b := true) ⟨o, ho, hcl⟩ isSubtype_stop (wpAny_pure ⟨rfl, ?_⟩))
    exact I.turnedL (t' := s.toks) (ch := [z, TI, TO, i1, i2]) (fun c o hb q => kp c o (fun e => hb (by simp [e])) (fun e => hb (by simp [e])) (fun e => hb (by simp [e])) (fun e => hb (by simp [e])) q) hf
theorem turnT_ez {P : Program} {w : World} {K : PySem.W.Frag} {elts : List Expr} {kk : Nat} {tpos : Pos} {a b e z TI TO i1 i2 : Addr} (D : ZipApart z TI TO i1 i2 a b) (ne : e ≠ z ∧ e ≠ TO ∧ e ≠ i1 ∧ e ≠ i2 ∧ e ≠ TI) :
    TurnT P w K (.Tuple elts kk tpos) (Itez K a b) (e :: [z, TI, TO, i1, i2]) e (fun T i h => ZTn z TI TO i1 i2 a b T i h ∧ ∃ old, IsEnum h e z (i : Nat) old) where
  obj := fun T i h st c hcm => by
    obtain ⟨st, old, he⟩ := st
    rcases List.mem_cons.mp hcm with rfl | hcm
    · exact ⟨_, he, fun v q => nomatch q⟩
    · exact st.obj c hcm
  keep := fun T i h h' st k => by
    obtain ⟨st, old, he⟩ := st
    exact ⟨st.keep fun c hc => k c (List.mem_cons_of_mem _ hc), old, k e List.mem_cons_self _ he⟩
  item := by
    intro X hP hw hK hc T i pins s σ H E I hf st tk hg
    subst hP hw hK
    obtain ⟨st, old, he⟩ := st
    obtain ⟨hz, hTI, hTO, h1, h2⟩ := id st
    obtain ⟨xs, ys, x, y, hqx, hqy, hx, hy⟩ := hg
    obtain ⟨its, rv, p, _⟩ := I.list hqx
    obtain ⟨its2, rv2, p2, _⟩ := I.list hqy
    obtain ⟨u, hu, ru⟩ := rv.get hx
    obtain ⟨u2, hu2, ru2⟩ := rv2.get hy
    have le : e < s.heap.objs.size := Heap.lt_size he
    have lt : ∀ c ∈ e :: [z, TI, TO, i1, i2], c < s.heap.objs.size := fun c hcm => by
      rcases List.mem_cons.mp hcm with rfl | hcm
      · exact le
      · obtain ⟨o, ho, _⟩ := st.obj c hcm
        exact Heap.lt_size ho
    refine ez_item he D hz (alive I tk) hTI h1 h2 p.isList p2.isList (x := u) (y := u2) (by simpa using hu) (by simpa using hu2) hTO ne fun g g' tk' T' a1 a1' a2 a3 a4 a5 a6 a7 b1 b2 b3 => ⟨_, rfl, ?_⟩
    refine wpAny_letOwnedTupleGo_enum (s := { s with heap := g', toks := tk' + 1 }) b1 fun g2 e2 sb => ?_
    have new1 : ObjOk X.prog X.w (upd H s.heap.objs.size (.tup [x, y])) g s.heap.objs.size (.tup [x, y]) := ⟨by show 2 ≤ sizeLine; decide, [u, u2], .cons ru (.cons ru2 .nil), ⟨_, a2, rfl, _, rfl⟩⟩
    have I1 : Inv X pins σ (upd H s.heap.objs.size (.tup [x, y])) { s with heap := g } := I.turnedNew (t' := s.toks) (ch := e :: [z, TI, TO, i1, i2]) (fun c o hb q => a7 c o (fun e => hb (by simp [e])) (fun e => hb (by simp [e])) (fun e => hb (by simp [e])) (fun e => hb (by simp [e])) q) hf (Nat.le_refl _) new1
    have k2 : ∀ b o, b ≠ e → g.get? b = some o → g2.get? b = some o := fun b o n q => (sb.2 b n).trans (b3 b o n q)
    have t2 : g2.get? (s.heap.objs.size + 1) = some { cls := .type "tuple", data := .seq #[.int i tk', .ref s.heap.objs.size] } := (sb.2 _ (Nat.ne_of_gt (Nat.lt_succ_of_lt le))).trans b2
    have n1 : (upd H s.heap.objs.size (.tup [x, y])) (s.heap.objs.size + 1) = none := by
      rw [upd_ne (Nat.succ_ne_self _)]
      exact I.hok.fresh (Nat.le_succ _)
    have new2 : ObjOk X.prog X.w (upd (upd H s.heap.objs.size (.tup [x, y])) (s.heap.objs.size + 1) (.tup [.int (i : Nat), .ref s.heap.objs.size])) g2 (s.heap.objs.size + 1) (.tup [.int (i : Nat), .ref s.heap.objs.size]) := ⟨by show 2 ≤ sizeLine; decide, [.int i tk', .ref s.heap.objs.size], .cons ⟨_, rfl⟩ (.cons rfl .nil), ⟨_, t2, rfl, _, rfl⟩⟩
    have hf1 : ∀ c ∈ [e], FpOk X pins (upd H s.heap.objs.size (.tup [x, y])) c := fun c hcm => by
      have hce : c = e := by simpa using hcm
      subst hce
      refine ⟨?_, (hf c List.mem_cons_self).2⟩
      rw [upd_ne (Nat.ne_of_lt le)]
      exact (hf c List.mem_cons_self).1
    have I2 : Inv X pins σ (upd (upd H s.heap.objs.size (.tup [x, y])) (s.heap.objs.size + 1) (.tup [.int (i : Nat), .ref s.heap.objs.size])) { s with heap := g2, toks := tk' + 1 } := I1.turnedNew (t' := tk' + 1) (ch := [e]) (fun c o hb q => k2 c o (fun e => hb (by simp [e])) q) hf1 (by show g.objs.size ≤ _; rw [a6]; exact Nat.le_refl _) new2
    refine ⟨.ref (s.heap.objs.size + 1), _, some T', I2, rfl, ⟨_, _, x, y, rfl, I.hok.fresh (Nat.le_refl _), Nat.succ_ne_self _, I.hok.fresh (Nat.le_succ _), rfl, fun l hl => by rw [I.list_inj hl hqx]; exact hx, fun l hl => by rw [I.list_inj hl hqy]; exact hy⟩, ⟨?_, .ref s.heap.objs.size, ?_⟩, fun t e3 => ?_, fun c hcm => ?_⟩
    · have z1 : ZTn z TI TO i1 i2 a b (some T') (i + 1) g := ⟨a1, a7 _ _ D.TIz D.TITO D.TIi1 D.TIi2 hTI, a5, a3, a4⟩
      refine z1.keep fun c hcm o q => k2 c o (fun e3 => ?_) q
      subst e3
      simp only [List.mem_cons, List.not_mem_nil, or_false] at hcm
      rcases hcm with h | h | h | h | h
      · exact ne.1 h
      · exact ne.2.2.2.2 h
      · exact ne.2.1 h
      · exact ne.2.2.1 h
      · exact ne.2.2.2.1 h
    · have q : ((i + 1 : Nat) : Int) = (i : Int) + 1 := by omega
      rw [q]
      exact e2
    · cases e3
      rcases a1' with e4 | e4
      · obtain ⟨zs, hq⟩ := tk _ e4
        refine ⟨zs, ?_⟩
        have f1 : H s.heap.objs.size = none := I.hok.fresh (Nat.le_refl _)
        have f2 : H (s.heap.objs.size + 1) = none := I.hok.fresh (Nat.le_succ _)
        rw [upd_ne (fun e5 => by rw [e5, f2] at hq; cases hq), upd_ne (fun e5 => by rw [e5, f1] at hq; cases hq)]
        exact hq
      · rw [e4, upd_ne (Nat.ne_of_lt (Nat.lt_succ_self _)), upd_same]; exact ⟨_, rfl⟩
    · have hl := lt c hcm
      rw [upd_ne (Nat.ne_of_lt (Nat.lt_succ_of_lt hl)), upd_ne (Nat.ne_of_lt hl)]
      exact (hf c hcm).1
  done := by
    intro X hP hw hK hc T i pins s σ H E I hf st tk hg
    subst hP hw hK
    obtain ⟨st, old, he⟩ := st
    obtain ⟨hz, hTI, hTO, h1, h2⟩ := st
    obtain ⟨xs, ys, hqx, hqy, hend⟩ := hg
    obtain ⟨its, rv, p, _⟩ := I.list hqx
    obtain ⟨its2, rv2, p2, _⟩ := I.list hqy
    have l1 := rv.length
    have l2 := rv2.length
    refine ez_stop (I.ok.hd hc) he D hz (alive I tk) hTI h1 h2 p.isList p2.isList (hend.elim (fun q => .inl (by simp; omega)) fun q => .inr (by simp; omega)) fun g kp => ⟨rfl, ?_⟩
    exact I.turnedL (t' := s.toks) (ch := e :: [z, TI, TO, i1, i2]) (fun c o hb q => kp c o (fun e => hb (by simp [e])) (fun e => hb (by simp [e])) (fun e => hb (by simp [e])) (fun e => hb (by simp [e])) q) hf
section
variable {X : Cx} {e e2 : Expr} {ta : TA} {p p2 pos pos2 tpos : Pos}
theorem pi_zipT {nm : Str} (hg : Gl X "zip") (hm : X.mg "zip" = none) (ha : PA X [e, e2] ta) (hs : starEach [e, e2] X.env = (false, eval e X.env) :: starEach [e2] X.env := by rfl) (hpl : (backTo pos (starEach [e2] X.env)).any (·.1) = false := by rfl) :
    PIT X (.Name nm tpos) (.Call (.Name "zip" p) [e, e2] [] pos) (iZip X.K ta) := by
  refine ⟨fun pins s σ H R I h => Call_ (ld_blt I hg hm PyProof.Rows.boot_zip (PyProof.Rows.callWith_type1 (thn (ha.run pos pins s σ H _ I h) fun us s1 h1 => ?_) hs hpl))⟩
  obtain ⟨vs, H1, I1, r1, a, b, xs, ys, ex, hqx, hqy, q⟩ := h1
  subst ex
  cases r1 with
  | cons r rr =>
    cases rr with
    | cons r' rr =>
      cases rr; cases r; cases r'
      obtain ⟨its, rv, p1, _⟩ := I1.list hqx
      obtain ⟨its2, rv2, p2, _⟩ := I1.list hqy
      refine call_zip_2 p1.isList p2.isList fun h' hz hTI hTO h1 h2 hsz hk => wpAny_pyIter_zip hz ⟨_, _, _, _, H1, rfl, I1.kept (t' := s1.toks) hk, turnT_zip (PySem.W.ktu_apart s1.heap.objs.size a b p1.lt p2.lt), ⟨⟨hz, _, _, hTO⟩, hTI, ⟨_, hTO, fun v q => nomatch q⟩, h1, h2⟩, fun c hcm => ?_, q⟩
      have hle : s1.heap.objs.size ≤ c := by
        simp only [List.mem_cons, List.not_mem_nil, or_false] at hcm
        rcases hcm with z | z | z | z | z <;> rw [z] <;> first | exact Nat.le_add_right _ _ | exact Nat.le_refl _
      exact I1.fpOk hle (I1.hok.fresh hle)
theorem pi_enumZip {elts : List Expr} {kk : Nat} (hg : Gl X "zip") (hm : X.mg "zip" = none) (hg2 : Gl X "enumerate") (hm2 : X.mg "enumerate" = none) (ha : PA X [e, e2] ta) (hs : starEach [e, e2] X.env = (false, eval e X.env) :: starEach [e2] X.env := by rfl) (hpl : (backTo pos (starEach [e2] X.env)).any (·.1) = false := by rfl)
    (hs2 : starEach [.Call (.Name "zip" p) [e, e2] [] pos] X.env = (false, eval (.Call (.Name "zip" p) [e, e2] [] pos) X.env) :: starEach [] X.env := by rfl) :
    PIT X (.Tuple elts kk tpos) (.Call (.Name "enumerate" p2) [.Call (.Name "zip" p) [e, e2] [] pos] [] pos2) (fun σ H R => ta σ H fun vs H1 => ∃ a b xs ys, vs = [.ref a, .ref b] ∧ SqL X.K H1 a xs ∧ SqL X.K H1 b ys ∧ R (Itez X.K a b) H1) := by
  refine ⟨fun pins s σ H R I h => Call_ (ld_blt I hg2 hm2 boot_enumerate (PyProof.Rows.callWith_type1 (args_cons (Call_ (ld_blt I hg hm PyProof.Rows.boot_zip (PyProof.Rows.callWith_type1 (thn (ha.run pos pins s σ H _ I h) fun us s1 h1 => ?_) hs hpl))) hs2) hs2 rfl))⟩
  obtain ⟨vs, H1, I1, r1, a, b, xs, ys, ex, hqx, hqy, q⟩ := h1
  subst ex
  cases r1 with
  | cons r rr =>
    cases rr with
    | cons r' rr =>
      cases rr; cases r; cases r'
      obtain ⟨its, rv, p1, _⟩ := I1.list hqx
      obtain ⟨its2, rv2, p2, _⟩ := I1.list hqy
      refine call_zip_2 p1.isList p2.isList fun h' hz hTI hTO h1 h2 hsz hk => args_nil ?_
      refine call_enumZ (s := { s1 with heap := h' }) hz fun g he hsz2 hk2 => wpAny_pyIter_enum he ?_
      refine ⟨_, _, _, _, H1, rfl, I1.kept (t' := s1.toks) fun b o q => hk2 b o (hk b o q), turnT_ez (PySem.W.ktu_apart s1.heap.objs.size a b p1.lt p2.lt) ?_, ⟨⟨⟨hk2 _ _ hz, _, _, hk2 _ _ hTO⟩, hk2 _ _ hTI, ⟨_, hk2 _ _ hTO, fun v q => nomatch q⟩, h1.at fun o q => hk2 _ _ q, h2.at fun o q => hk2 _ _ q⟩, _, he⟩, fun c hcm => ?_, q⟩
      · show h'.objs.size ≠ _ ∧ h'.objs.size ≠ _ ∧ h'.objs.size ≠ _ ∧ h'.objs.size ≠ _ ∧ h'.objs.size ≠ _
        rw [hsz]
        exact lt5 s1.heap.objs.size
      · have hle : s1.heap.objs.size ≤ c := by
          rcases List.mem_cons.mp hcm with z | hcm
          · rw [z]; show _ ≤ h'.objs.size; rw [hsz]; exact Nat.le_add_right _ _
          · simp only [List.mem_cons, List.not_mem_nil, or_false] at hcm
            rcases hcm with z | z | z | z | z <;> rw [z] <;> first | exact Nat.le_add_right _ _ | exact Nat.le_refl _
        exact I1.fpOk hle (I1.hok.fresh hle)
end
end Jr
namespace ZS
open PySem PySem.Spec PyProof.Rows L2
/-! ### dict(zip(text, text)) -/
section
variable {prog : Program} {w : World} {A : Around} {E : Value → Shared → Prop} {s : Shared} {z TI TO T i1 i2 : Addr} {fp1 fp2 : List Addr} {n1 n2 i : Nat} {P1 P2 : Nat → Value → Prop} {St1 St2 : Nat → Heap → Prop} {f : Bool} {ob : Obj}
/-- the next pair, while the pair given out before is still there -/
theorem held_next {Q : Value → Shared → Prop} (S : ZipSep2 z TI TO i1 i2 fp1 fp2) (D1 : Draws prog w A i1 fp1 n1 P1 St1) (D2 : Draws prog w A i2 fp2 n2 P2 St2)
    (gz : IsZipHeld s.heap z TI TO T f) (gT : s.heap.get? T = some ob) (gI : IsTupOf2 s.heap TI (.ref i1) (.ref i2)) (t1 : St1 i s.heap) (t2 : St2 i s.heap) (l1 : i < n1) (l2 : i < n2)
    (go : ∀ x y g tk, P1 i x → P2 i y → IsZipHeld g z TI TO T true → St1 (i + 1) g → St2 (i + 1) g → IsTupOf2 g s.heap.objs.size x y →
      (∀ c o, c ≠ z → c ≠ i1 → c ≠ i2 → s.heap.get? c = some o → g.get? c = some o) → Q (.ref s.heap.objs.size) { s with heap := g, toks := tk }) :
    wpAny (model prog w) A (Builtin.«zip.__next__» ⟨[.ref z], []⟩) (fun fin s' => ∃ r, fin = .done (.ret r) ∧ Q r s') E s := by
  obtain ⟨hp, gl, ds, tk0, os⟩ := s
  show wpAny _ _ (field (.ref z) 2 >>= _) _ (_) _
  refine wpAny_bind (wpAny_field gz rfl (x := .bool false) rfl ?_)
  show wpAny _ _ (field (.ref z) 3 >>= _) _ (_) _
  refine wpAny_bind (wpAny_field gz rfl (x := .ref TI) rfl (wpAny_bind (wpAny_seqItems gI rfl ?_)))
  show wpAny _ _ (Builtin.SmallTypes.ownedTupleIsFree (.ref z) >>= _) _ (_) _
  refine wpAny_bind (wpAny_tupleHeld_zip gz gT fun k1 z1 b1 => ?_)
  replace b1 : Heap.SameBut z hp k1 := b1
  simp only [Bool.false_eq_true, if_false]
  refine wpAny_bind ?_
  rw [← Array.forIn_toList]
  simp only [List.forIn_cons, List.forIn_nil]
  refine wpAny_bind (wpAny_bind (wpAny_holding ?_))
  show wpAny _ _ (Builtin.SmallTypes.nextOf (.ref i1) >>= _) _ (_) ⟨k1, gl, ds, tk0, os⟩
  refine wpAny_bind (D1.item i _ _ _ l1 (D1.over t1 b1 S.zf1) fun x k2 tk1 hx m1 b2 => wpAny_pure (wpAny_pure ?_))
  replace b2 : Heap.SameBut i1 k1 k2 := b2
  refine wpAny_bind (wpAny_bind (wpAny_holding ?_))
  show wpAny _ _ (Builtin.SmallTypes.nextOf (.ref i2) >>= _) _ (_) ⟨k2, gl, ds, tk1, os⟩
  refine wpAny_bind (D2.item i _ _ _ l2 (D2.over (D2.over t2 b1 S.zf2) b2 S.sep1_2) fun y k3 tk2 hy m2 b3 => wpAny_pure (wpAny_pure (wpAny_pure ?_)))
  replace b3 : Heap.SameBut i2 k2 k3 := b3
  show wpAny _ _ (newTuple [x, y] >>= _) _ (_) ⟨k3, gl, ds, tk2, os⟩
  refine wpAny_bind (wpAny_newTuple (wpAny_pure ⟨_, rfl, ?_⟩))
  have size3 : k3.objs.size = hp.objs.size := by rw [b3.1, b2.1, b1.1]
  have z3 : IsZipHeld k3 z TI TO T true := b3.extBut _ _ S.zi2 (b2.extBut _ _ S.zi1 z1)
  have on : ∀ {c o}, k3.get? c = some o → (k3.push { cls := .type "tuple", data := .seq #[x, y] }).get? c = some o := fun e => Heap.get?_push_of_some _ e
  have p3 : IsTupOf2 (k3.push { cls := .type "tuple", data := .seq #[x, y] }) k3.objs.size x y := Heap.get?_push_size _ rfl
  show Q (.ref k3.objs.size) (_)
  rw [size3] at p3 ⊢
  exact go x y _ tk2 hx hy (on z3) (D1.frame _ _ _ (D1.over m1 b3 S.sep2_1) fun b _ o e => on e) (D2.frame _ _ _ m2 fun b _ o e => on e) p3 fun c o n1 n2 n3 e => on (b3.extBut _ _ n3 (b2.extBut _ _ n2 (b1.extBut _ _ n1 e)))
theorem held_stop {Q : Fin → Shared → Prop} (S : ZipSep2 z TI TO i1 i2 fp1 fp2) (D1 : Draws prog w A i1 fp1 n1 P1 St1) (D2 : Draws prog w A i2 fp2 n2 P2 St2)
    (gz : IsZipHeld s.heap z TI TO T f) (gT : s.heap.get? T = some ob) (gI : IsTupOf2 s.heap TI (.ref i1) (.ref i2)) (t1 : St1 i s.heap) (t2 : St2 i s.heap) (l1 : i ≤ n1) (l2 : i ≤ n2) (hend : i = n1 ∨ i = n2)
    (go : ∀ g tk e, (∀ c o, c ≠ z → c ≠ i1 → c ≠ i2 → s.heap.get? c = some o → g.get? c = some o) → (∃ o, g.get? e = some o ∧ o.cls = .type "StopIteration") → E (.ref e) { s with heap := g, toks := tk }) :
    wpAny (model prog w) A (Builtin.«zip.__next__» ⟨[.ref z], []⟩) Q E s := by
  obtain ⟨hp, gl, ds, tk0, os⟩ := s
  show wpAny _ _ (field (.ref z) 2 >>= _) _ (_) _
  refine wpAny_bind (wpAny_field gz rfl (x := .bool false) rfl ?_)
  show wpAny _ _ (field (.ref z) 3 >>= _) _ (_) _
  refine wpAny_bind (wpAny_field gz rfl (x := .ref TI) rfl (wpAny_bind (wpAny_seqItems gI rfl ?_)))
  show wpAny _ _ (Builtin.SmallTypes.ownedTupleIsFree (.ref z) >>= _) _ (_) _
  refine wpAny_bind (wpAny_tupleHeld_zip gz gT fun k1 z1 b1 => ?_)
  replace b1 : Heap.SameBut z hp k1 := b1
  simp only [Bool.false_eq_true, if_false]
  refine wpAny_bind ?_
  rw [← Array.forIn_toList]
  simp only [List.forIn_cons, List.forIn_nil]
  refine wpAny_bind (wpAny_bind (wpAny_holding ?_))
  show wpAny _ _ (Builtin.SmallTypes.nextOf (.ref i1) >>= _) _ (_) ⟨k1, gl, ds, tk0, os⟩
  by_cases c1 : i < n1
  · refine wpAny_bind (D1.item i _ _ _ c1 (D1.over t1 b1 S.zf1) fun x k2 tk1 hx m1 b2 => wpAny_pure (wpAny_pure ?_))
    replace b2 : Heap.SameBut i1 k1 k2 := b2
    refine wpAny_bind (wpAny_bind (wpAny_holding ?_))
    show wpAny _ _ (Builtin.SmallTypes.nextOf (.ref i2) >>= _) _ (_) ⟨k2, gl, ds, tk1, os⟩
    have e2 : i = n2 := by omega
    refine wpAny_bind (D2.done ⟨k2, gl, ds, tk1, os⟩ _ _ (by rw [← e2]; exact D2.over (D2.over t2 b1 S.zf2) b2 S.sep1_2) fun k3 e b3 he => ?_)
    replace b3 : Heap.ExtBut i2 k2 k3 := b3
    exact go k3 tk1 e (fun c o m1 m2 m3 q => b3 _ _ m3 (b2.extBut _ _ m2 (b1.extBut _ _ m1 q))) he
  · have e1 : i = n1 := by omega
    refine wpAny_bind (D1.done ⟨k1, gl, ds, tk0, os⟩ _ _ (by rw [← e1]; exact D1.over t1 b1 S.zf1) fun k2 e b2 he => ?_)
    replace b2 : Heap.ExtBut i1 k1 k2 := b2
    exact go k2 tk0 e (fun c o m1 m2 _ q => b2 _ _ m2 (b1.extBut _ _ m1 q)) he
theorem held_item {Q : Option Value → Shared → Prop} (S : ZipSep2 z TI TO i1 i2 fp1 fp2) (D1 : Draws prog w A.in1 i1 fp1 n1 P1 St1) (D2 : Draws prog w A.in1 i2 fp2 n2 P2 St2)
    (gz : IsZipHeld s.heap z TI TO T f) (gT : s.heap.get? T = some ob) (gI : IsTupOf2 s.heap TI (.ref i1) (.ref i2)) (t1 : St1 i s.heap) (t2 : St2 i s.heap) (l1 : i < n1) (l2 : i < n2)
    (go : ∀ x y g tk, P1 i x → P2 i y → IsZipHeld g z TI TO T true → St1 (i + 1) g → St2 (i + 1) g → IsTupOf2 g s.heap.objs.size x y →
      (∀ c o, c ≠ z → c ≠ i1 → c ≠ i2 → s.heap.get? c = some o → g.get? c = some o) → Q (some (.ref s.heap.objs.size)) { s with heap := g, toks := tk }) :
    wpAny (model prog w) A (pyNext (.ref z)) Q E s := by
  have ty : s.TypeIs (.ref z) "zip" := ⟨_, gz, rfl⟩
  unfold pyNext
  exact wpAny_bind (wpAny_attempt (wpAny_callSpecial?_slot (name := Str.ofString "__next__") ty F.slot_zip_next (wpAny_call_entry F.slot_zip_next ty F.entry_zip_next
    (held_next S D1 D2 gz gT gI t1 t2 l1 l2 fun x y g tk p q a b c d e => wpAny_pure (go x y g tk p q a b c d e)) (F.args_zip_next_1 _))))
theorem held_end {Q : Option Value → Shared → Prop} (S : ZipSep2 z TI TO i1 i2 fp1 fp2) (D1 : Draws prog w A.in1 i1 fp1 n1 P1 St1) (D2 : Draws prog w A.in1 i2 fp2 n2 P2 St2)
    (gz : IsZipHeld s.heap z TI TO T f) (gT : s.heap.get? T = some ob) (gI : IsTupOf2 s.heap TI (.ref i1) (.ref i2)) (t1 : St1 i s.heap) (t2 : St2 i s.heap) (l1 : i ≤ n1) (l2 : i ≤ n2) (hend : i = n1 ∨ i = n2)
    (go : ∀ g tk, (∀ c o, c ≠ z → c ≠ i1 → c ≠ i2 → s.heap.get? c = some o → g.get? c = some o) → Q none { s with heap := g, toks := tk }) : wpAny (model prog w) A (pyNext (.ref z)) Q E s := by
  have ty : s.TypeIs (.ref z) "zip" := ⟨_, gz, rfl⟩
  unfold pyNext
  refine wpAny_bind (wpAny_attempt (wpAny_callSpecial?_slot (name := Str.ofString "__next__") ty F.slot_zip_next (wpAny_call_entry F.slot_zip_next ty F.entry_zip_next
    (held_stop S D1 D2 gz gT gI t1 t2 l1 l2 hend fun g tk e kp he => ?_) (F.args_zip_next_1 _))))
  obtain ⟨o, ho, hc⟩ := he
  exact wpAny_bind (wpAny_isInstance (T := "StopIteration") (b := true) ⟨o, ho, hc⟩ isSubtype_stop (wpAny_pure (go _ _ kp)))
end
section
variable {prog : Program} {w : World}
/-- a sign of a text, as its iterator gives it -/
def SgnAt (x : Str) (i : Nat) (v : Value) : Prop := ∃ c u, x.cps[i]? = some c ∧ v = .str ⟨#[c]⟩ u
theorem argZ (z TI TO i1 i2 : Addr) (S : ZipSep2 z TI TO i1 i2 [i1] [i2]) (x y : Str) (t u : Tok) :
    PairArg prog w "zip" z [z, TI, TO, i1, i2] [z, TO, i1, i2] (min x.cps.size y.cps.size) (fun i k v => SgnAt x i k ∧ SgnAt y i v)
      (fun h => IsZip h z TI TO .none ∧ IsTupOf2 h TI (.ref i1) (.ref i2) ∧ (∃ a b, IsTupOf2 h TO a b) ∧ h.IsStrIter i1 (strIterType x) x t 0 ∧ h.IsStrIter i2 (strIterType y) y u 0) where
  type := fun s ok => ⟨_, ok.1, rfl⟩
  notDict := by decide
  keep := fun h h' ok hk => by
    obtain ⟨gz, gI, ⟨a, b, gO⟩, ⟨o1, g1, r1⟩, o2, g2, r2⟩ := ok
    exact ⟨hk _ _ gz, hk _ _ gI, ⟨a, b, hk _ _ gO⟩, ⟨o1, hk _ _ g1, r1⟩, o2, hk _ _ g2, r2⟩
  there := fun h ok b hb => by
    obtain ⟨gz, gI, ⟨a, c, gO⟩, ⟨o1, g1, _⟩, o2, g2, _⟩ := ok
    simp only [List.mem_cons, List.not_mem_nil, or_false] at hb
    rcases hb with rfl | rfl | rfl | rfl | rfl
    · exact ⟨_, gz⟩
    · exact ⟨_, gI⟩
    · exact ⟨_, gO⟩
    · exact ⟨_, g1⟩
    · exact ⟨_, g2⟩
  sub := fun b hb => by
    simp only [List.mem_cons, List.not_mem_nil, or_false] at hb ⊢
    rcases hb with rfl | rfl | rfl | rfl <;> simp
  noKeys := fun A s Q E hA ok h => getAttrOr_miss_zip ok.1 rfl rfl rfl zip_no_keys (by decide +kernel) hA h
  iter := fun A s d Q E hA ok hd hdf h => by
    obtain ⟨gz, gI, ⟨a, b, gO⟩, g1, g2⟩ := ok
    simp only [List.mem_cons, List.not_mem_nil, or_false, not_or] at hdf
    obtain ⟨dz, dI, dO, d1, d2⟩ := hdf
    refine wpAny_pyIter_zip gz (h z [z, TO, i1, i2] (fun i h => IsTupOf2 h TI (.ref i1) (.ref i2) ∧ h.IsStrIter i1 (strIterType x) x t i ∧ h.IsStrIter i2 (strIterType y) y u i ∧
      ((IsZip h z TI TO .none ∧ ∃ a b, IsTupOf2 h TO a b) ∨ ∃ T f ob, IsZipHeld h z TI TO T f ∧ h.get? T = some ob ∧ T ≠ z ∧ T ≠ i1 ∧ T ≠ i2 ∧ T ≠ d)) s.heap s.toks ?_ ⟨gI, g1, g2, .inl ⟨gz, a, b, gO⟩⟩ (fun _ _ e => e) fun b hb => .inl hb)
    have D1 : ∀ A : Around, A.handled = none → Draws prog w A i1 [i1] x.cps.size (fun i v => SgnAt x i v) (fun i h => h.IsStrIter i1 (strIterType x) x t i) := fun A hA => Draws.text hA i1 x t
    have D2 : ∀ A : Around, A.handled = none → Draws prog w A i2 [i2] y.cps.size (fun i v => SgnAt y i v) (fun i h => h.IsStrIter i2 (strIterType y) y u i) := fun A hA => Draws.text hA i2 y u
    have hA1 : (A.in1).handled = none := hA
    exact {
      off := fun hm => by
        simp only [List.mem_cons, List.not_mem_nil, or_false] at hm
        rcases hm with e | e | e | e
        · exact dz e
        · exact dO e
        · exact d1 e
        · exact d2 e
      frame := fun i h1 h2 st hk => by
        obtain ⟨gI, ⟨o1, g1, r1⟩, ⟨o2, g2, r2⟩, gz⟩ := st
        refine ⟨hk _ _ (Ne.symm dI) gI, ⟨o1, hk _ _ (Ne.symm d1) g1, r1⟩, ⟨o2, hk _ _ (Ne.symm d2) g2, r2⟩, ?_⟩
        rcases gz with ⟨gz, a, b, gO⟩ | ⟨T, f, ob, gz, gT, q1, q2, q3, q4⟩
        · exact .inl ⟨hk _ _ (Ne.symm dz) gz, a, b, hk _ _ (Ne.symm dO) gO⟩
        · exact .inr ⟨T, f, ob, hk _ _ (Ne.symm dz) gz, hk _ _ q4 gT, q1, q2, q3, q4⟩
      item := fun i s1 Q1 E1 hi st hds hQ => by
        obtain ⟨gI, g1, g2, gz⟩ := st
        have lx : i < x.cps.size := Nat.lt_of_lt_of_le hi (Nat.min_le_left ..)
        have ly : i < y.cps.size := Nat.lt_of_lt_of_le hi (Nat.min_le_right ..)
        have lt : ∀ {c o}, s1.heap.get? c = some o → s1.heap.objs.size ≠ c := fun e => Nat.ne_of_gt (Heap.lt_size e)
        have n1 : s1.heap.objs.size ≠ i1 := let ⟨_, e, _⟩ := g1; lt e
        have n2 : s1.heap.objs.size ≠ i2 := let ⟨_, e, _⟩ := g2; lt e
        rcases gz with ⟨gz, a, b, gO⟩ | ⟨T, f, ob, gz, gT, q1, q2, q3, q4⟩
        · refine wpAny_pyNext_zipD2_item S (D1 _ hA1) (D2 _ hA1) gz gI gO g1 g2 lx ly fun k v g tk hk hv a1 a2 a3 a4 a5 a6 kp => ?_
          exact hQ s1.heap.objs.size k v g tk ⟨hk, hv⟩ (.inl ⟨_, a5, rfl, _, rfl⟩) ⟨kp _ _ S.TIz S.TITO S.TIi1 S.TIi2 gI, a3, a4, .inr ⟨s1.heap.objs.size, false, _, a1, a5, lt gz, n1, n2, Nat.ne_of_gt hds⟩⟩
            fun c o hc e => kp c o (fun q => hc (by simp [q])) (fun q => hc (by simp [q])) (fun q => hc (by simp [q])) (fun q => hc (by simp [q])) e
        · refine held_item S (D1 _ hA1) (D2 _ hA1) gz gT gI g1 g2 lx ly fun k v g tk hk hv a1 a3 a4 a5 kp => ?_
          exact hQ s1.heap.objs.size k v g tk ⟨hk, hv⟩ (.inl ⟨_, a5, rfl, _, rfl⟩) ⟨kp _ _ S.TIz S.TIi1 S.TIi2 gI, a3, a4, .inr ⟨T, true, ob, a1, kp _ _ q1 q2 q3 gT, q1, q2, q3, q4⟩⟩
            fun c o hc e => kp c o (fun q => hc (by simp [q])) (fun q => hc (by simp [q])) (fun q => hc (by simp [q])) e
      done := fun s1 Q1 E1 st hQ => by
        obtain ⟨gI, g1, g2, gz⟩ := st
        have lx : min x.cps.size y.cps.size ≤ x.cps.size := Nat.min_le_left ..
        have ly : min x.cps.size y.cps.size ≤ y.cps.size := Nat.min_le_right ..
        have le : min x.cps.size y.cps.size = x.cps.size ∨ min x.cps.size y.cps.size = y.cps.size := by omega
        rcases gz with ⟨gz, a, b, gO⟩ | ⟨T, f, ob, gz, gT, q1, q2, q3, q4⟩
        · exact wpAny_pyNext_zipD2_end S (D1 _ hA1) (D2 _ hA1) gz gI gO g1 g2 lx ly le fun g tk kp => hQ g tk fun c o hc e => kp c o (fun q => hc (by simp [q])) (fun q => hc (by simp [q])) (fun q => hc (by simp [q])) (fun q => hc (by simp [q])) e
        · exact held_end S (D1 _ hA1) (D2 _ hA1) gz gT gI g1 g2 lx ly le fun g tk kp => hQ g tk fun c o hc e => kp c o (fun q => hc (by simp [q])) (fun q => hc (by simp [q])) (fun q => hc (by simp [q])) e }
end
/-- dict() of pairs told up to their tokens -/
theorem call_dictK {prog : Program} {w : World} {A : Around} {E : Value → Shared → Prop} {s : Shared} {T : String} {a : Addr} {fp wr : List Addr} {n : Nat} {Rel : Nat → Value → Value → Prop} {OK : Heap → Prop} {Q : Value → Shared → Prop} (P : PairArg prog w T a fp wr n Rel OK) (hh : A.handled = none) (ok : OK s.heap)
    (kvs : List (Key × V)) (hl : kvs.length = n) (hr : ∀ i k v, Rel i k v → ∃ p, kvs[i]? = some p ∧ keyIs p.1 k = true ∧ RelV p.2 v) (nd : (kvs.map (·.1)).Nodup) (hsz : n ≤ sizeLine)
    (h : ∀ g tk vs, KV kvs vs → g.DictOf (mixKind prog w) s.heap.objs.size vs → (∀ b o, b ∉ wr → s.heap.get? b = some o → g.get? b = some o) → Q (.ref s.heap.objs.size) { s with heap := g, toks := tk }) :
    wpAny (model prog w) A (call (.type "dict") [.ref a]) Q E s := by
  refine call_dict_arg P ok fun s1 e1 hdf ok1 => ?_
  subst e1
  refine updateFrom_arg (A := A.in1) (Tab := fun i g => ∃ vs, KV (kvs.take i) vs ∧ g.DictOf (mixKind prog w) s.heap.objs.size vs) P .none hh ok1 hdf ⟨[], .nil, Heap.DictOf.new s.heap⟩ (fun _ _ tb => let ⟨_, _, q⟩ := tb; q.lt_size)
    (fun i g g' wr' hd _ tb hk => let ⟨vs, r, q⟩ := tb; ⟨vs, r, q.at' fun o e => hk _ o hd e⟩) ?_ ?_
  · intro i key v s' Q' E' hi hrel tb _ hQ
    obtain ⟨vs, r, q⟩ := tb
    obtain ⟨p, hp, hk, hv⟩ := hr i key v hrel
    have vl : vs.length = i := by
      have := Paired.length r
      rw [List.length_take] at this
      have := (List.getElem?_eq_some_iff.mp hp).1
      omega
    refine wpAny_dictSet_pairs (hsz := by omega) (k := p.1) hk q fun g hm hs => hQ g _ ⟨vs ++ [(p.1, v)], ?_, ?_⟩ hs
    · rw [List.take_add_one, hp]
      exact Jr.Paired.app r (.cons ⟨rfl, hv⟩ .nil)
    · have nn : ¬ p.1 ∈ vs.map (·.1) := fun hm2 => by
        have ek := KV.keys r
        have ek : (kvs.take i).map (·.1) = vs.map (·.1) := ek
        rw [← ek, List.map_take] at hm2
        have hd : (kvs.map (·.1)).take (i + 1) = (kvs.map (·.1)).take i ++ [p.1] := by rw [List.take_add_one, List.getElem?_map, hp]; rfl
        have nd2 := nd.sublist (List.take_sublist (i + 1) (kvs.map (·.1)))
        rw [hd] at nd2
        exact (List.nodup_append.mp nd2).2.2 _ hm2 _ (List.mem_singleton.mpr rfl) rfl
      have es : stored vs p.1 v = vs ++ [(p.1, v)] := by
        unfold stored
        rw [if_neg]
        intro c
        obtain ⟨q, hq, e⟩ := List.any_eq_true.mp c
        exact nn (List.mem_map.mpr ⟨q, hq, by simpa using e⟩)
      rw [← es]
      exact hm
  · intro g tk tb hk
    obtain ⟨vs, r, q⟩ := tb
    rw [List.take_of_length_le (Nat.le_of_eq hl)] at r
    exact ⟨rfl, h g tk vs r q fun b o hw e => hk b o (Nat.ne_of_lt (Heap.lt_size e)) hw (Heap.get?_push_of_some _ e)⟩
def zk (x y : Str) : List (Key × V) := (x.cps.toList.zip y.cps.toList).map fun p => (Sum.inr (Jr.sgn p.1), V.str (Jr.sgn p.2))
theorem zk_len {x y : Str} (e : x.length = y.length) : (zk x y).length = x.length := by
  unfold zk
  rw [List.length_map, List.length_zip, Jr.len_cps, Jr.len_cps, e, Nat.min_self]
theorem zk_at {x y : Str} (e : x.length = y.length) {i : Nat} {c : Nat} (h : x.cps.toList[i]? = some c) : ∃ d, y.cps.toList[i]? = some d ∧ (zk x y)[i]? = some (Sum.inr (Jr.sgn c), V.str (Jr.sgn d)) := by
  have l := (List.getElem?_eq_some_iff.mp h).1
  have l2 : i < y.cps.toList.length := by rw [Jr.len_cps, ← e, ← Jr.len_cps]; exact l
  refine ⟨y.cps.toList[i], List.getElem?_eq_getElem l2, ?_⟩
  unfold zk
  rw [List.getElem?_map, show (x.cps.toList.zip y.cps.toList)[i]? = some (c, y.cps.toList[i]) from List.getElem?_zip_eq_some.mpr ⟨h, List.getElem?_eq_getElem l2⟩]
  rfl
theorem zk_keys {x y : Str} (e : x.length = y.length) : (zk x y).map (·.1) = x.cps.toList.map fun c => (Sum.inr (Jr.sgn c) : Key) := by
  unfold zk
  rw [List.map_map]
  have l : x.cps.toList.length ≤ y.cps.toList.length := by rw [Jr.len_cps, Jr.len_cps, e]; exact Nat.le_refl _
  conv => rhs; rw [← List.map_fst_zip l]
  rw [List.map_map]
  rfl
theorem sgn_inj {a b : Nat} (h : (Sum.inr (Jr.sgn a) : Key) = Sum.inr (Jr.sgn b)) : a = b := by
  have e := congrArg (fun x : Str => x.cps.toList) (Sum.inr.inj h)
  simpa [Jr.sgn] using e
theorem zk_nd {x y : Str} (e : x.length = y.length) (nd : x.cps.toList.Nodup) : ((zk x y).map (·.1)).Nodup := by
  rw [zk_keys e]
  exact List.pairwise_map.mpr (List.Pairwise.imp (fun ne q => ne (sgn_inj q)) nd)
/-- dict(zip(e, e2)) of two texts alike long, the first with no sign twice -/
theorem pe_dictZip {X : Cx} {e e2 : Expr} {ta : TA} {p pz pos posz : Pos} (hgd : Gl X "dict") (hmd : X.mg "dict" = none) (hg : Gl X "zip") (hm : X.mg "zip" = none) (hc : X.calm = true) (ha : PA X [e, e2] ta)
    (hs : starEach [e, e2] X.env = (false, eval e X.env) :: starEach [e2] X.env := by rfl) (hpl : (backTo posz (starEach [e2] X.env)).any (·.1) = false := by rfl)
    (he : starEach [.Call (.Name "zip" pz) [e, e2] [] posz] X.env = (false, eval (.Call (.Name "zip" pz) [e, e2] [] posz) X.env) :: starEach [] X.env := by rfl) :
    PE X (.Call (.Name "dict" p) [.Call (.Name "zip" pz) [e, e2] [] posz] [] pos) (fun σ H Q => ta σ H fun vs H1 => ∃ x y : Str, vs = [.str x, .str y] ∧ x.length = y.length ∧ x.cps.toList.Nodup ∧ x.length ≤ sizeLine ∧ Jr.New H1 (.dK (zk x y)) Q) := by
  refine ⟨fun pins s σ H Q I h => Call_ (ld_blt I hgd hmd PyProof.Rows.boot_dict (PyProof.Rows.callWith_type1 ?_ he (by rfl)))⟩
  rw [he]
  show wpAny _ _ (spliced ((false, eval (.Call (.Name "zip" pz) [e, e2] [] posz) X.env) :: backTo pos (starEach [] X.env))) _ _ s
  refine Calls.spliced_cons (Call_ (ld_blt I hg hm PyProof.Rows.boot_zip (PyProof.Rows.callWith_type1 (thn (ha.run posz pins s σ H _ I h) fun us sN ⟨vs, HN, IN, rN, qN⟩ => ?_) hs hpl)))
  obtain ⟨x, y, ev, el, nd, sz, q⟩ := qN
  subst ev
  cases rN with
  | cons r1 r2 =>
    cases r2 with
    | cons r2 r3 =>
      cases r3
      obtain ⟨t1, rfl⟩ := r1
      obtain ⟨t2, rfl⟩ := r2
      refine zip_begins2 (begins_text x t1) (begins_text y t2) trivial trivial fun g hz hTI hTO h1 h2 hsz kp => ?_
      refine Calls.spliced_nil ?_
      have I1 : Inv X pins σ HN { sN with heap := g } := IN.kept (t' := sN.toks) kp
      have fr : ∀ c, c ∈ [sN.heap.objs.size + 4, sN.heap.objs.size + 3, sN.heap.objs.size, sN.heap.objs.size + 1] → sN.heap.objs.size ≤ c := fun c hcm => by
        simp only [List.mem_cons, List.not_mem_nil, or_false] at hcm
        omega
      have S : ZipSep2 (sN.heap.objs.size + 4) (sN.heap.objs.size + 2) (sN.heap.objs.size + 3) sN.heap.objs.size (sN.heap.objs.size + 1) [sN.heap.objs.size] [sN.heap.objs.size + 1] := by
        refine ⟨?_, ?_, ?_, ?_, ?_, ?_, ?_, ?_, ?_, ?_, ?_, ?_, ?_⟩ <;> simp
      have lx : x.cps.size = x.length := by rw [← Jr.len_cps]; simp
      have ly : y.cps.size = y.length := by rw [← Jr.len_cps]; simp
      have mn : min x.cps.size y.cps.size = x.length := by rw [lx, ly, el, Nat.min_self]
      refine call_dictK (argZ _ _ _ _ _ S x y t1 t2) (I1.ok.hd hc) ⟨hz, hTI, ⟨_, _, hTO⟩, ⟨_, h1, rfl, rfl⟩, _, h2, rfl, rfl⟩ (zk x y) (by rw [zk_len el, mn]) (fun i k v hr => ?_) (zk_nd el nd) (by rw [mn]; exact sz) fun g2 tk kvs r hd kp2 => ?_
      · obtain ⟨⟨c, u, hx, rfl⟩, c2, u2, hy, rfl⟩ := hr
        obtain ⟨d, hd, e⟩ := zk_at el (i := i) (c := c) (by rw [Array.getElem?_toList]; exact hx)
        rw [Array.getElem?_toList, hy] at hd
        cases hd
        exact ⟨_, e, by simp [keyIs, Jr.sgn, Value.isStrOf], u2, rfl⟩
      · have new : ObjOk X.prog X.w (upd HN g.objs.size (.dK (zk x y))) g2 g.objs.size (.dK (zk x y)) := ⟨by rw [zk_len el]; exact sz, beq_eq_false_iff_ne.mpr (Nat.ne_of_gt I1.big), kvs, r, hd⟩
        have I2 : Inv X pins σ (upd HN g.objs.size (.dK (zk x y))) { sN with heap := g2, toks := tk } := I1.turnedNew (t' := tk) (ch := [sN.heap.objs.size + 4, sN.heap.objs.size + 3, sN.heap.objs.size, sN.heap.objs.size + 1]) (fun c o hb e => kp2 c o hb e) (fun c hcm => IN.fpOk (fr c hcm) (IN.hok.fresh (fr c hcm))) (Nat.le_refl _) new
        have hn : HN g.objs.size = none := I1.hok.fresh (Nat.le_refl _)
        exact ⟨.ref g.objs.size, _, I2, rfl, q _ _ hn (Jr.Same.new hn) upd_same⟩
end ZS
namespace Jr
open PySem PySem.Spec PyProof.Rows L2
/-! ### texts of texts -/
theorem join_text {z : Str} {ps : List Str} (h : ∀ p ∈ ps, TextOf z p) : TextOf z (Txt.join (Str.ofString "") ps) := fun c hc => by
  rw [join_cps] at hc
  obtain ⟨y, hy, hxy⟩ := List.mem_flatMap.mp hc
  exact h y hy c hxy
theorem sum_le : ∀ (ps : List Str) (n : Nat), (∀ p ∈ ps, p.length ≤ n) → (ps.map (·.length)).sum ≤ ps.length * n
  | [], n, _ => by simp
  | p :: ps, n, h => by
    have h1 := h p List.mem_cons_self
    have h2 := sum_le ps n fun q hq => h q (List.mem_cons_of_mem _ hq)
    rw [List.map_cons, List.sum_cons, List.length_cons, Nat.succ_mul]
    omega
theorem join_len {ps : List Str} : (Txt.join (Str.ofString "") ps).length = (ps.map (·.length)).sum := by
  rw [← len_cps, join_cps, flat_len]
end Jr
namespace Jr
open PySem PySem.Spec PyProof.Rows L2
theorem join_pcs {z : Str} {rs : Rws} (T : TabOk z rs) {qs : List Str} (h : ∀ q ∈ qs, q ∈ pcs z rs) : TextOf z (Txt.join (Str.ofString "") qs) ∧ (Txt.join (Str.ofString "") qs).length ≤ qs.length * 16 :=
  ⟨join_text fun q hq => pc_text T (h q hq), by rw [join_len]; exact sum_le qs 16 fun q hq => (T.plen (h q hq)).2⟩
theorem passAll_ne : ∀ (rs : Rws) (xs : List Str), xs ≠ [] → passAll rs xs ≠ []
  | [], _, h => h
  | r :: rs, xs, h => passAll_ne rs _ (pass1_ne r.1 r.2 xs h)
theorem sweep_ne {rs : Rws} {t : Str} (h : t ≠ Str.ofString "") : sweep rs t ≠ [] := passAll_ne rs _ fun e => h (str_ext (by
  have e2 : (Str.ofString "").cps.toList = [] := by decide +kernel
  rw [e2]
  unfold sgs at e
  exact List.map_eq_nil_iff.mp e))
theorem ne_str {a b : Str} (h : (!decide (V.str a = V.str b)) = true) : a ≠ b := fun e => by
  rw [e, decide_eq_true rfl] at h
  cases h
end Jr
namespace Jr
open PySem PySem.Spec PyProof.Rows L2
/-! ### a call as the element of a comprehension: its reading by a name, so that it is found -/
def tCal (t : TA) (sp : Sp) : TE := fun σ H Q => t σ H fun vs H1 => sp vs H1 Q E0
theorem pe_calT {X : Cx} {k : Nat} {x : Str} {sp : Sp} {e : Expr} {es : List Expr} {t : TA} {p pos : Pos} (F : Cal X.prog X.w X.K X.mg X.base CX0 k x sp) (hr : Room k X.A) (hg : Gl X x) (ha : PA X (e :: es) t) (hdb : (x == ("__debug__" : Str)) = false := by decide)
    (he : starEach (e :: es) X.env = (false, eval e X.env) :: starEach es X.env := by rfl) (hpl : (backTo pos (starEach es X.env)).any (·.1) = false := by rfl) :
    PE X (.Call (.Name x p) (e :: es) [] pos) (tCal t sp) := pe_cal F hr hg ha hdb he hpl
/-! ### comprehensions without a test whose elements are objects of some kind, each by a rule of its own -/
section
variable {α β : Type} {item : α → V} {R : α → β → Prop} {o : β → HO} {g : TG} {tt : TT} {te : TE} {vs : List Nat} {σ : L2.St} {H1 : Hp} {D : Addr} {Qd : Hp → Prop}
def ObjE (R : α → β → Prop) (o : β → HO) (H : Hp) (a : Addr) (x : α) : Prop := ∃ y, R x y ∧ H a = some (o y)
theorem ObjE.same {H H' : Hp} (s : Same H H') {as : List Addr} {l : List α} (h : Paired (ObjE R o H) as l) : Paired (ObjE R o H') as l := L2.Paired.mapP h fun _ _ ⟨y, h1, h2⟩ => ⟨y, h1, s _ _ h2⟩
def LcTurnE (item : α → V) (R : α → β → Prop) (o : β → HO) (g : TG) (tt : TT) (te : TE) (vs : List Nat) (σ : L2.St) (H1 : Hp) (x : α) : Prop :=
  ∀ (H' : Hp), Same H1 H' → ∀ (N : Hp → Prop) (M : V → Hp → Prop), (∀ y q H2, R x y → Same H' H2 → H2 q = some (o y) → M (.ref q) H2) →
    g (item x) (wipe σ vs) H' fun σ2 H2 => wipe σ2 vs = wipe σ vs ∧ tt σ2 H2 fun b H3 => if b = true then te σ2 H3 M else N H3
theorem lc_stepE {l : List α} {i : Nat} {x : α} {H : Hp} (hk : ∀ y xs, o y ≠ .lst xs) (hD : H1 D = none) (hx : l[i]? = some x) (hlen : l.length ≤ 90000) (turn : LcTurnE item R o g tt te vs σ H1 x)
    (sm : Same H1 H) (hL : ∃ as, H D = some (.lst (as.map V.ref)) ∧ Paired (ObjE R o H) as (l.take i)) :
    g (item x) (wipe σ vs) H fun σ2 H2 => wipe σ2 vs = wipe σ vs ∧ tt σ2 H2 fun b H3 =>
      if b = true then te σ2 H3 fun y H4 => ∃ acc, H4 D = some (.lst acc) ∧ acc.length < sizeLine ∧ (fun H' => Same H1 H' ∧ ∃ as, H' D = some (.lst (as.map V.ref)) ∧ Paired (ObjE R o H') as (l.take (i + 1))) (upd H4 D (.lst (acc ++ [y])))
      else (fun H' => Same H1 H' ∧ ∃ as, H' D = some (.lst (as.map V.ref)) ∧ Paired (ObjE R o H') as (l.take (i + 1))) H3 := by
  have e : l.take (i + 1) = l.take i ++ [x] := by rw [List.take_add_one, hx]; rfl
  obtain ⟨as, hA, hP⟩ := hL
  refine turn H sm _ _ (fun y q H2 hR s2 hq => ?_)
  have hA2 := s2 _ _ hA
  refine ⟨_, hA2, ?_, Same.mut (sm.trans s2) hD, as ++ [q], ?_, ?_⟩
  · have h2 : (l.take i).length ≤ i := by rw [List.length_take]; omega
    have h3 : i < l.length := (List.getElem?_eq_some_iff.mp hx).1
    have h4 := Paired.len hP
    rw [List.length_map]
    exact szl (by omega)
  · rw [upd_same, List.map_append]; rfl
  · rw [e]
    have hP2 : Paired (ObjE R o H2) (as ++ [q]) (l.take i ++ [x]) := Paired.app (ObjE.same s2 hP) (.cons ⟨y, hR, hq⟩ .nil)
    refine L2.Paired.mapP hP2 fun b x' ⟨y', h1, h2⟩ => ⟨y', h1, ?_⟩
    have hne : b ≠ D := fun eb => by
      rw [eb, hA2] at h2
      exact hk y' _ (Option.some.inj h2).symm
    rw [upd_ne hne]; exact h2
theorem lc_listE {K : PySem.W.Frag} {a : Addr} {l : List α} (hk : ∀ y xs, o y ≠ .lst xs) (hS : SqL K H1 a (l.map item)) (hD : H1 D = none) (hlen : l.length ≤ 90000) (turn : ∀ x ∈ l, LcTurnE item R o g tt te vs σ H1 x)
    (hd : ∀ H as, Same H1 H → H D = some (.lst (as.map V.ref)) → Paired (ObjE R o H) as l → Qd H) :
    ∃ W : Nat → Nat → Hp → Prop, (∃ m, W 0 m (upd H1 D (.lst []))) ∧ ∀ i m H, W i m H →
      ((Itl K a).stop i H ∧ Qd H) ∨ ((Itl K a).go i H ∧ ∃ Nx : Hp → Prop, (∀ H', Nx H' → ∃ m', m' < m ∧ W (i + 1) m' H') ∧ ∀ x H', (Itl K a).yld i H x H' → g x (wipe σ vs) H' fun σ2 H2 => wipe σ2 vs = wipe σ vs ∧ tt σ2 H2 fun b H3 =>
        if b = true then te σ2 H3 fun y H4 => ∃ acc, H4 D = some (.lst acc) ∧ acc.length < sizeLine ∧ Nx (upd H4 D (.lst (acc ++ [y]))) else Nx H3) := by
  refine lc_list (K := K) (a := a) (xs := l.map item) (fun i H => Same H1 H ∧ ∃ as, H D = some (.lst (as.map V.ref)) ∧ Paired (ObjE R o H) as (l.take i)) ⟨Same.new hD, [], upd_same, .nil⟩ (fun i H _ ⟨s, _⟩ => s.seq hS) ?_ ?_
  · rintro i x H hx ⟨sm, hL⟩
    rw [List.getElem?_map] at hx
    cases e : l[i]? with
    | none => rw [e] at hx; cases hx
    | some y =>
      rw [e] at hx
      cases hx
      exact lc_stepE hk hD e hlen (turn y (List.mem_of_getElem? e)) sm hL
  · rintro H ⟨sm, as, hA, hP⟩
    rw [List.length_map, List.take_length] at hP
    exact hd H as sm hA hP
theorem lc_rangeE {lo : Int} {n : Nat} {R : Nat → β → Prop} (hk : ∀ y xs, o y ≠ .lst xs) (hD : H1 D = none) (hlen : n ≤ 90000) (turn : ∀ i, i < n → LcTurnE (fun i : Nat => V.int (lo + i)) R o g tt te vs σ H1 i)
    (hd : ∀ H as, Same H1 H → H D = some (.lst (as.map V.ref)) → Paired (ObjE R o H) as (List.range n) → Qd H) :
    ∃ W : Nat → Nat → Hp → Prop, (∃ m, W 0 m (upd H1 D (.lst []))) ∧ ∀ i m H, W i m H →
      ((Itr lo n).stop i H ∧ Qd H) ∨ ((Itr lo n).go i H ∧ ∃ Nx : Hp → Prop, (∀ H', Nx H' → ∃ m', m' < m ∧ W (i + 1) m' H') ∧ ∀ y H', (Itr lo n).yld i H y H' → g y (wipe σ vs) H' fun σ2 H2 => wipe σ2 vs = wipe σ vs ∧ tt σ2 H2 fun b H3 =>
        if b = true then te σ2 H3 fun y H4 => ∃ acc, H4 D = some (.lst acc) ∧ acc.length < sizeLine ∧ Nx (upd H4 D (.lst (acc ++ [y]))) else Nx H3) := by
  refine lc_range (lo := lo) (n := n) (fun i H => Same H1 H ∧ ∃ as, H D = some (.lst (as.map V.ref)) ∧ Paired (ObjE R o H) as ((List.range n).take i)) ⟨Same.new hD, [], upd_same, .nil⟩ ?_ ?_
  · rintro i H hi ⟨sm, hL⟩
    exact lc_stepE (l := List.range n) (item := fun i : Nat => V.int (lo + i)) hk hD (by rw [List.getElem?_range hi]) (by rw [List.length_range]; exact hlen) (turn i hi) sm hL
  · rintro H ⟨sm, as, hA, hP⟩
    have e : (List.range n).take n = List.range n := by
      have := List.take_length (l := List.range n)
      rw [List.length_range] at this
      exact this
    rw [e] at hP
    exact hd H as sm hA hP
end
end Jr
namespace Jr
open PySem PySem.Spec PyProof.Rows L2
theorem zk_val0 {c : Nat} : ∀ (l l' : List Nat), l.length = l'.length → c ∈ l → valV ((l.zip l').map fun p => ((Sum.inr (sgn p.1) : Key), V.str (sgn p.2))) (Sum.inr (sgn c)) = some (V.str (sgn (l'.getD (l.idxOf c) 0)))
  | [], _, _, h => by cases h
  | _ :: _, [], e, _ => by simp at e
  | a :: l, b :: l', e, h => by
    show valV (((Sum.inr (sgn a) : Key), V.str (sgn b)) :: (l.zip l').map fun p => ((Sum.inr (sgn p.1) : Key), V.str (sgn p.2))) _ = _
    by_cases q : a = c
    · subst q
      rw [valV_pos rfl, List.idxOf_cons_self]
      rfl
    · rw [valV_neg (fun e => q (ZS.sgn_inj e)), show (a :: l).idxOf c = l.idxOf c + 1 by rw [List.idxOf_cons, show (a == c) = false from beq_eq_false_iff_ne.mpr q]; rfl]
      have hm : c ∈ l := by
        rcases List.mem_cons.mp h with h | h
        · exact absurd h.symm q
        · exact h
      rw [zk_val0 l l' (by simpa using e) hm]
      rfl
theorem zk_val {z z' : Str} (el : z'.length = z.length) {c : Nat} (h : c ∈ z.cps.toList) : valV (ZS.zk z z') (Sum.inr (sgn c)) = some (V.str (sgn (rhoC z z' c))) := zk_val0 _ _ (by rw [len_cps, len_cps, el]) h
section
variable {P : Program} {w : World} {K : PySem.W.Frag} {mg : Str → Option Value} {base : Heap}
/-- signs that a table of many signs cannot be renamed to -/
def WRen (K : PySem.W.Frag) (H : Hp) (n : Nat) (sv u : V) : Prop := WSigns K H sv u ∨ ∃ z, sv = .str z ∧ SignsOk z ∧ 1 ≤ z.length ∧ z.length ≤ 12 ∧ z.length ≠ n ∧ u = .non
def spRen63 (K : PySem.W.Frag) : Sp := fun vs H Q E => ∃ (x : Addr) (z : Str) (rs : Rws) (sv : V), vs = [.ref x, sv] ∧ TabAt (TC K) H x z rs ∧
  ((∃ z', sv = .str z' ∧ SignsOk z' ∧ z'.length = z.length ∧ ∀ H' y, Same H H' → TabAt (TC K) H' y z' (renR z z' rs) → Q (.ref y) H') ∨ ∃ u, WRen K H z.length sv u ∧ Rz2 (CTable K) "part" "number" (.str (Str.ofString "signs")) u H E)
theorem calx_renamed (T : Tx K mg) : Cal P w K mg base (L2.CX P w) 6 "renamed" (spRen63 K) := by
  have CX_check_signs := calx_check_signs (P := P) (w := w) (base := base) T
  have E_NoTable := exk_NoTable (P := P) (w := w) (base := base) T
  have M_Table_signs := met_signs (P := P) (w := w) (base := base) T
  have M_Table_rows := met_rows (P := P) (w := w) (base := base) T
  have C_Table := mkc_Table (P := P) (w := w) (base := base) T
  obtain ⟨fd, F⟩ := T.d_renamed
  refine ⟨_, fd, P_renamed, F.ok sc_renamed (fun vs H Q E h => ?_) (fun cdv A outer s H vs Q E hr h => ?_), T.g_renamed, F.kp, F.bindsN (ps := P_renamed) fun _ _ _ _ _ _ us hl => match us, hl with | [_, _], _ => rfl⟩
  · obtain ⟨x, z, rs, sv, rfl, _⟩ := h
    rfl
  · obtain ⟨x, z, rs, sv, rfl, ta, h⟩ := h
    refine ⟨_, (pss_cons (ps_expr (pe_calX CX_check_signs (by first | exact hr | exact hr.mono (by decide)) (by rfl) (takes_of rfl rfl rfl rfl) (pa_cons (pv 1) pa_nil)))
      (pss_cons (ps_if (pt_cmpR op_ne (pe_callB (id := "len") call_len_str (by rfl) T.n_len (by decide +kernel) (pa_cons (pv 1) pa_nil)) (pe_callB (id := "len") call_len_str (by rfl) T.n_len (by decide +kernel) (pa_cons (pe_met0 M_Table_signs (pv 0) (by first | exact hr | exact hr.mono (by decide))) pa_nil)) (nomark _)) (pss_one (ps_raise rfl (takes_of rfl rfl rfl rfl) (E_NoTable.mk2 (by first | exact hr | exact hr.mono (by decide)) (pa_cons pe_str (pa_cons pe_non pa_nil))))) pss_nil)
      (pss_cons (ps_set (i := 2) sc_renamed.nd rfl (Or.inr rfl) (ZS.pe_dictZip (by rfl) T.n_dict (by rfl) T.n_zip rfl (pa_cons (pe_met0 M_Table_signs (pv 0) (by first | exact hr | exact hr.mono (by decide))) (pa_cons (pv 1) pa_nil))))
      (pss_cons (ps_set (i := 3) sc_renamed.nd rfl (Or.inl rfl) (pe_lstG pa_nil))
      (pss_cons (ps_for (passes_of rfl) rfl (pi_list (pe_met0 M_Table_rows (pv 0) (by first | exact hr | exact hr.mono (by decide)))) (pg_tup rfl (pgs_cons (pg_name (i := 4) sc_renamed.nd rfl (Or.inl rfl)) (pgs_cons (pg_name (i := 5) sc_renamed.nd rfl (Or.inl rfl)) pgs_nil))) (pss_one (ps_expr (pe_bm PySem.F.plainAttrs_list PySem.F.slot_list_append PySem.F.type_list_append mt_append (pv 3) (pa_cons (pe_tupG (pa_cons (pe_join pe_str (pe_lc (own := [("sign", 6)]) (g := gName 6) (by rfl) sc_renamed.nd (pi_str (pv 4)) (blkOk_by (own := [("sign", 6)]) (N := N_renamed) (sc := defScope s_renamed) (by decide +kernel)) (fun _ _ _ _ _ => (pg_name (i := 6) sc_renamed.nd rfl (Or.inl rfl))) (fun _ _ _ _ _ => pts_nil) (fun _ _ _ _ _ => (pe_dget (hu_of hr) (pv 2) (pv 6) (fun _ _ => rfl))))) (pa_cons (pe_join pe_str (pe_lc (own := [("sign", 6)]) (g := gName 6) (by rfl) sc_renamed.nd (pi_str (pv 5)) (blkOk_by (own := [("sign", 6)]) (N := N_renamed) (sc := defScope s_renamed) (by decide +kernel)) (fun _ _ _ _ _ => (pg_name (i := 6) sc_renamed.nd rfl (Or.inl rfl))) (fun _ _ _ _ _ => pts_nil) (fun _ _ _ _ _ => (pe_dget (hu_of hr) (pv 2) (pv 6) (fun _ _ => rfl))))) pa_nil))) pa_nil)))))
      (pss_one (ps_ret (pe_mk C_Table (by first | exact hr | exact hr.mono (by decide)) rfl (pa_cons (pv 1) (pa_cons (pv 3) pa_nil)))))))))), ?_⟩
    have tk := ta.ok
    have n1 := tk.n1
    have n12 := tk.n12
    have many := tk.many
    obtain ⟨dx, lr, lp, dn, dr, m, hx, _⟩ := id ta.ex
    have fs := fmt_part (.inl rfl : Str.ofString "signs" = Str.ofString "signs" ∨ Str.ofString "signs" = Str.ofString "rows")
    have h' : (∃ u, WSigns K H sv u ∧ Rz2 (CTable K) "part" "number" (.str (Str.ofString "signs")) u H E) ∨ ∃ z', sv = .str z' ∧ SignsOk z' ∧ 1 ≤ z'.length ∧ z'.length ≤ 12 ∧ ((z'.length ≠ z.length ∧ Rz2 (CTable K) "part" "number" (.str (Str.ofString "signs")) .non H E) ∨ (z'.length = z.length ∧ ∀ H' y, Same H H' → TabAt (TC K) H' y z' (renR z z' rs) → Q (.ref y) H')) := by
      rcases h with ⟨z', e, ok, el, k⟩ | ⟨u, h | ⟨z', e, ok, a1, a2, ne, rfl⟩, k⟩
      · exact .inr ⟨z', e, ok, by omega, by omega, .inr ⟨el, k⟩⟩
      · exact .inl ⟨u, h, k⟩
      · exact .inr ⟨z', e, ok, a1, a2, .inl ⟨ne, k⟩⟩
    rcases h' with ⟨u, ws, k⟩ | ⟨z', rfl, ok, a1, a2, h⟩
    · exact ⟨_, rfl, _, rfl, .inr ⟨u, ws, k⟩⟩
    refine ⟨_, rfl, _, rfl, .inl ⟨z', rfl, ok, a1, a2, fun H1 s1 => ?_⟩⟩
    refine ⟨_, rfl, _, rfl, sz (by omega), _, rfl, x, dx, _, rfl, s1 _ _ hx, l6_ms_ _ _ _ _ _ _, x, z, rs, rfl, ta.same s1, _, rfl, sz (by omega), ?_⟩
    rcases h with ⟨ne, k⟩ | ⟨el, k⟩
    · refine ⟨rfl, true, by simp; omega, iteT ⟨_, _, rfl, fs, .inl rfl, (k.same s1).now⟩⟩
    refine ⟨rfl, false, by simp; omega, iteF ?_⟩
    refine ⟨_, rfl, x, dx, _, rfl, s1 _ _ hx, l6_ms_ _ _ _ _ _ _, x, z, rs, rfl, ta.same s1, _, rfl, z, z', rfl, el.symm, tk.sg.nd, sz (by omega), fun d H2 nd s2 hd => ?_⟩
    refine ⟨(by show 0 ≤ sizeLine; decide), fun q H3 nq s3 hq => ?_⟩
    have s13 := (s1.trans s2).trans s3
    refine ⟨_, rfl, x, dx, _, rfl, s13 _ _ hx, l6_mr _ _ _ _ _ _, x, z, rs, rfl, ta.same s13, fun H4 p s4 np ⟨as, hp, hrs⟩ => ?_⟩
    have hd4 := (s3.trans s4) _ _ hd
    have r4 : Reg H2 H4 [(q, .lst (([] : List Addr).map V.ref))] := ((Reg.nil H2).new nq s3 hq).step s4
    have s14 := s13.trans s4
    obtain ⟨S4, r5, sS4, hpS, hrS, hdS⟩ : ∃ S4, Reg S4 H4 [(q, .lst (([] : List Addr).map V.ref))] ∧ Same H2 S4 ∧ S4 p = some (.lst (as.map V.ref)) ∧ Paired (TupAt S4) as rs ∧ S4 d = some (.dK (ZS.zk z z')) := by
      obtain ⟨g, sG⟩ := r4.grow (Same.refl H4)
      have npq : ¬ p ∈ [(q, HO.lst (([] : List Addr).map V.ref))].map (·.1) := ((Reg.nil H2).new nq s3 hq).free np
      refine ⟨_, g, sG, out_of hp npq, L2.Paired.mapP hrs fun a r ha => out_of ha ((r4.kind ha fun y hy e => by rw [List.mem_singleton.mp hy] at e; cases e)), sG _ _ hd⟩
    refine ⟨p, rfl, ⟨_, SqL.of hp⟩, for_list (K := K) (a := p) (xs := as.map V.ref) (fun i σ H' => ∃ (S : Hp) (bs : List Addr) (u4 u5 : Option V), σ = [some (.ref x), some (.str z'), some (.ref d), some (.ref q), u4, u5, none] ∧ Same S4 S ∧ Reg S H' [(q, .lst (bs.map V.ref))] ∧ Paired (TupAt S) bs (renR z z' (rs.take i))) ⟨S4, [], _, _, rfl, Same.refl _, r5, .nil⟩ (fun i σ H' _ ⟨_, _, _, _, _, s, r, _⟩ => SqL.of (r.same _ _ (s _ _ hpS))) ?_ ?_⟩
    · rintro i v σ H5 hi ⟨S, bs, u4, u5, rfl, sS, rg, hbs⟩
      rw [List.getElem?_map] at hi
      cases ei : as[i]? with
      | none => rw [ei] at hi; cases hi
      | some e =>
        rw [ei] at hi
        cases hi
        obtain ⟨r, hr1, he⟩ := Paired.get hrS ei
        have he : S4 e = some (.tup [.str r.1, .str r.2]) := he
        have ro := tk.rows i r hr1
        have Ti := tk.take i
        refine ⟨e, _, rfl, SqT.of (rg.same _ _ (sS _ _ he)), rfl, _, _, rfl, _, _, rfl, rfl, ?_⟩
        have il := (List.getElem?_eq_some_iff.mp hr1).1
        have tl := pc_text Ti ro.lm
        have tr := pc_text Ti ro.rm
        have ll := (Ti.plen ro.lm).2
        have lr := (Ti.plen ro.rm).2
        have bl : bs.length ≤ 24 := by
          have := Paired.len hbs
          unfold renR at this
          rw [List.length_map, List.length_take] at this
          omega
        have el0 : (Str.ofString "").length = 0 := by decide +kernel
        have hd5 := rg.same _ _ (sS _ _ hdS)
        refine ⟨_, rfl, .inl ⟨rfl, _, SqL.of (rg.get (i := 0) rfl)⟩, ⟨_, rfl⟩, _, rfl, r.1, rfl, fun D hD => lc_strM (x := r.1) (p := fun _ => true) (f := fun c => V.str (sgn (rhoC z z' c))) hD ?_ (fun c hc H6 s6 N M hM _ => ?_) (fun H6 s6 hL => ?_)⟩
        · rw [len_cps]; omega
        · exact ⟨rfl, _, rfl, _, rfl, d, _, rfl, .inl ⟨_, Sum.inr (sgn c), .inl (s6 _ _ hd5), rfl, (zk_val el (tl c hc)).symm⟩, hM rfl⟩
        rw [filt_true] at hL
        have hL : H6 D = some (.lst (((r.1.cps.toList.map (rhoC z z')).map sgn).map V.str)) := by rw [hL, List.map_map, List.map_map]; rfl
        refine ⟨_, D, (r.1.cps.toList.map (rhoC z z')).map sgn, rfl, rfl, .inl (SqL.of hL), by rw [sum_sgn, el0, List.length_map, len_cps]; omega, ?_⟩
        rw [join_sgn]
        refine ⟨⟨_, rfl⟩, _, rfl, r.2, rfl, fun D2 hD2 => lc_strM (x := r.2) (p := fun _ => true) (f := fun c => V.str (sgn (rhoC z z' c))) hD2 ?_ (fun c hc H7 s7 N M hM _ => ?_) (fun H7 s7 hL2 => ?_)⟩
        · rw [len_cps]; omega
        · exact ⟨rfl, _, rfl, _, rfl, d, _, rfl, .inl ⟨_, Sum.inr (sgn c), .inl (s7 _ _ (s6 _ _ hd5)), rfl, (zk_val el (tr c hc)).symm⟩, hM rfl⟩
        rw [filt_true] at hL2
        have hL2 : H7 D2 = some (.lst (((r.2.cps.toList.map (rhoC z z')).map sgn).map V.str)) := by rw [hL2, List.map_map, List.map_map]; rfl
        refine ⟨_, D2, (r.2.cps.toList.map (rhoC z z')).map sgn, rfl, rfl, .inl (SqL.of hL2), by rw [sum_sgn, el0, List.length_map, len_cps]; omega, ?_⟩
        rw [join_sgn]
        refine ⟨(by show 2 ≤ sizeLine; decide), fun tq H8 nt s8 ht => ?_⟩
        have rg7 := (rg.step s6).step s7
        obtain ⟨S9, r9, sS9, htS⟩ : ∃ S9, Reg S9 H8 [(q, .lst (bs.map V.ref))] ∧ Same S S9 ∧ TupAt S9 tq (renW z z' r) := by
          obtain ⟨g, sG⟩ := rg7.grow s8
          exact ⟨_, g, sG, out_of ht (rg7.free nt)⟩
        have hq9 := r9.get (i := 0) rfl
        have r10 := r9.set (i := 0) (a := q) (o' := .lst ((bs ++ [tq]).map V.ref)) rfl
        rw [show (bs ++ [tq]).map V.ref = bs.map V.ref ++ [V.ref tq] by simp] at r10
        refine ⟨q, _, _, rfl, rfl, hq9, szl (by rw [List.length_map]; omega), S9, bs ++ [tq], _, _, rfl, sS.trans sS9, ?_, ?_⟩
        · rw [show (bs ++ [tq]).map V.ref = bs.map V.ref ++ [V.ref tq] by simp]
          exact r10
        · rw [List.take_add_one, hr1]
          unfold renR
          rw [List.map_append]
          exact Paired.app (L2.Paired.mapP hbs fun _ _ h => sS9 _ _ h) (.cons htS .nil)
    · rintro σ H5 ⟨S, bs, u4, u5, rfl, sS, rg, hbs⟩
      rw [List.length_map, Paired.len hrS, List.take_length] at hbs
      refine ⟨_, rfl, _, rfl, ?_⟩
      intro y dy hy hdy ndy
      have tok := ren_ok tk.sg.nd ok.nd el ok tk
      refine ⟨H5, y, dy, q, z', renR z z' rs, rfl, rfl, hy, hdy, ndy, ⟨bs, rg.get (i := 0) rfl, L2.Paired.mapP hbs fun _ _ h => rg.same _ _ h⟩, tok, fun H6 s6 tb => ⟨rfl, k H6 y ((((s1.trans s2).trans sS4).trans sS).trans (rg.same.trans s6)) tb⟩⟩
end
end Jr
namespace Jr
open PySem PySem.Spec PyProof.Rows L2
/-! ### where a sign stands -/
theorem hit_stays (x y : Str) (hi i : Nat) : ∀ (l : List Nat) (free : Nat), (forIn l ((#[i] : Array Nat), free) (StrLaws.occBody x y hi 1)).run.fst = #[i]
  | [], _ => rfl
  | a :: l, free => by
    rw [List.forIn_cons]
    unfold StrLaws.occBody
    rw [if_neg (fun q => by have := q.1.1.1; simp at this)]
    exact hit_stays x y hi i l free
theorem hit_first (x y : Str) (hi i : Nat) (hit : i + y.length ≤ hi ∧ Builtin.Str.subAt x y i = true) : ∀ (n lo : Nat), lo ≤ i → i < lo + n → (∀ j, lo ≤ j → j < i → ¬ (j + y.length ≤ hi ∧ Builtin.Str.subAt x y j = true)) →
    (forIn (List.range' lo n) ((#[] : Array Nat), 0) (StrLaws.occBody x y hi 1)).run.fst = #[i]
  | 0, lo, h1, h2, _ => by omega
  | n + 1, lo, h1, h2, no => by
    rw [List.range'_succ, List.forIn_cons]
    unfold StrLaws.occBody
    by_cases e : lo = i
    · subst e
      rw [if_pos ⟨⟨⟨by simp, Nat.zero_le _⟩, hit.1⟩, hit.2⟩]
      exact hit_stays x y hi lo _ _
    · rw [if_neg (fun q => no lo (Nat.le_refl _) (by omega) ⟨q.1.2, q.2⟩)]
      exact hit_first x y hi i hit n (lo + 1) (by omega) (by omega) fun j a b => no j (by omega) b
theorem find_sgn {z : Str} (nd : z.cps.toList.Nodup) {i c : Nat} (h : z.cps.toList[i]? = some c) : Txt.find z (sgn c) = (i : Int) := by
  have l := (List.getElem?_eq_some_iff.mp h).1
  rw [len_cps] at l
  have e : Builtin.Str.occurrences z (sgn c) 0 z.length 1 = [i] := by
    rw [StrLaws.occ_eq]
    have := hit_first z (sgn c) z.length i ((StrLaws.subAt_one z c i).mpr h) (z.length + 1 - 0) 0 (Nat.zero_le _) (by omega) fun j _ hj q => by
      have hj2 := (StrLaws.subAt_one z c j).mp q
      have := idx63 nd hj2
      rw [idx63 nd h] at this
      omega
    rw [this]
  unfold Txt.find
  rw [e]
end Jr
namespace Jr
open PySem PySem.Spec PyProof.Rows L2
/-! ### what the laws' heads share -/
theorem cells_eq (ns ms : List Int) : cutV (ns.map V.int ++ ms.map V.int) none (some 63) = ((ns ++ ms).take 63).map V.int := by
  rw [show (some (63 : Int)) = some ((63 : Nat) : Int) from rfl, cutV_to, List.map_take, List.map_append]
theorem rest_eq (cs : List Int) : cutV (cs.map V.int) (some 1) none = (cs.drop 1).map V.int := by
  rw [show (some (1 : Int)) = some ((1 : Nat) : Int) from rfl, cutV_from, List.map_drop]
theorem sizes_ok {ns : List Int} (h : ns.all (fun z => decide (0 < z) && decide (z ≤ 1000000)) = true) : ∀ z ∈ ns, 0 < z ∧ z.natAbs.log2 < 9000 := fun z hz => by
  have := List.all_eq_true.mp h z hz
  simp only [Bool.and_eq_true, decide_eq_true_eq] at this
  refine ⟨this.1, ?_⟩
  have : z.natAbs.log2 < 20 := (Nat.log2_lt (by omega)).mpr (by omega)
  omega
/-- a digit, by its place -/
theorem dig {ns ds : List Int} (h : Paired (fun z d => 0 ≤ d ∧ d < z) ns ds) {j : Nat} {z : Int} (hz : ns[j]? = some z) : ∃ n : Nat, ds[j]? = some (n : Int) ∧ (n : Int) < z ∧ atI (ds.map V.int) (j : Int) = some (V.int (n : Int)) := by
  obtain ⟨d, e, b⟩ := Paired.get h hz
  obtain ⟨n, rfl⟩ := Int.eq_ofNat_of_zero_le b.1
  exact ⟨n, e, b.2, atm (f := V.int) e⟩
theorem cut_mid (xs : List Int) (a b : Nat) : cutV (xs.map V.int) (some (a : Int)) (some (b : Int)) = ((xs.drop a).take (b - a)).map V.int := by
  rw [cutV_mid, List.map_take, List.map_drop]
end Jr
namespace Jr
open PySem PySem.Spec PyProof.Rows L2
section
variable {P : Program} {w : World} {K : PySem.W.Frag} {mg : Str → Option Value} {base : Heap}
def spTurned63 (K : PySem.W.Frag) : Sp := fun vs H Q _ => ∃ (t z z' : Str), vs = [.str t, .str z, .str z'] ∧ TextOf z t ∧ t.length ≤ 10000 ∧ z.cps.toList.Nodup ∧ z.length ≤ 12 ∧ z'.length = z.length ∧ ∀ H', Same H H' → Q (.str (renS z z' t)) H'
theorem cal__law_turned63 (T : Tx K mg) : Cal P w K mg base CX0 1 "_law_turned" (spTurned63 K) := by
  obtain ⟨fd, F⟩ := T.d__law_turned
  refine ⟨_, fd, P__law_turned, F.ok sc__law_turned (fun vs H Q E h => ?_) (fun cdv A outer s H vs Q E hr h => ?_), T.g__law_turned, F.kp, F.bindsN (ps := P__law_turned) fun _ _ _ _ _ _ us hl => match us, hl with | [_, _, _], _ => rfl⟩
  · obtain ⟨t, z, z', rfl, _⟩ := h
    rfl
  · obtain ⟨t, z, z', rfl, tx, tl, nd, zl, el, k⟩ := h
    refine ⟨_, (PSs.nox (pss_one (ps_ret (pe_join pe_str (pe_lc (own := [("_law_sign", 3)]) (g := gName 3) (by rfl) sc__law_turned.nd (pi_str (pv 0)) (blkOk_by (own := [("_law_sign", 3)]) (N := N__law_turned) (sc := defScope s__law_turned) (by decide +kernel)) (fun _ _ _ _ _ => (pg_name (i := 3) sc__law_turned.nd rfl (Or.inl rfl))) (fun _ _ _ _ _ => pts_nil) (fun _ _ _ _ _ => (pe_ix ix_str (pv 2) (pe_m1 PySem.F.slot_str_find PySem.F.type_str_find mt_find (pv 1) (pv 3)) (fun _ _ => rfl)))))))), ?_⟩
    have el0 : (Str.ofString "").length = 0 := by decide +kernel
    refine ⟨⟨_, rfl⟩, _, rfl, t, rfl, fun D hD => lc_strM (x := t) (p := fun _ => true) (f := fun c => V.str (sgn (rhoC z z' c))) hD ?_ (fun c hc H2 s2 N M hM _ => ?_) (fun H2 s2 hL => ?_)⟩
    · rw [len_cps]; omega
    · obtain ⟨i, hi⟩ := List.getElem?_of_mem (tx c hc)
      obtain ⟨d, hd⟩ := both_at el hi
      have il := (List.getElem?_eq_some_iff.mp hi).1
      rw [len_cps] at il
      refine ⟨rfl, _, rfl, _, rfl, ⟨_, rfl⟩, _, rfl, z, sgn c, rfl, rfl, ?_⟩
      rw [find_sgn nd hi]
      refine ⟨z', _, d, rfl, rfl, sz (by omega), ats hd, ?_⟩
      show M (V.str (sgn d)) H2
      rw [← rho_at nd hi hd]
      exact hM rfl
    · rw [filt_true] at hL
      have hL : H2 D = some (.lst (((t.cps.toList.map (rhoC z z')).map sgn).map V.str)) := by rw [hL, List.map_map, List.map_map]; rfl
      refine ⟨_, D, (t.cps.toList.map (rhoC z z')).map sgn, rfl, rfl, .inl (SqL.of hL), by rw [sum_sgn, el0, List.length_map, len_cps]; omega, ?_⟩
      rw [join_sgn]
      exact k H2 s2
end
end Jr
namespace Jr
open PySem PySem.Spec PyProof.Rows L2
theorem TabOk.rasc {z : Str} {rs : Rws} (T : TabOk z rs) : ∀ r ∈ rs, Asc r.1 ∧ Asc r.2 := fun r hr => by
  obtain ⟨j, hj⟩ := List.getElem?_of_mem hr
  have ro := T.rows j r hj
  have T' := T.take j
  exact ⟨T'.asc ro.lm, T'.asc ro.rm⟩
section
variable {P : Program} {w : World} {K : PySem.W.Frag} {mg : Str → Option Value} {base : Heap}
def spIsTable (K : PySem.W.Frag) : Sp := fun vs H Q _ => ∃ (x tt p : Addr) (z : Str) (rs : Rws), vs = [.ref x, .ref tt] ∧ TabAt (TC K) H x z rs ∧ H tt = some (.tup [.str z, .ref p]) ∧ RowsAt H p rs ∧ ∀ H', Same H H' → Q (.bl true) H'
theorem cal__law_is_table (T : Tx K mg) : Cal P w K mg base CX0 2 "_law_is_table" (spIsTable K) := by
  have M_Table_signs := met_signs (P := P) (w := w) (base := base) T
  have M_Table_rows := met_rows (P := P) (w := w) (base := base) T
  obtain ⟨fd, F⟩ := T.d__law_is_table
  refine ⟨_, fd, P__law_is_table, F.ok sc__law_is_table (fun vs H Q E h => ?_) (fun cdv A outer s H vs Q E hr h => ?_), T.g__law_is_table, F.kp, F.bindsN (ps := P__law_is_table) fun _ _ _ _ _ _ us hl => match us, hl with | [_, _], _ => rfl⟩
  · obtain ⟨x, tt, p, z, rs, rfl, _⟩ := h
    rfl
  · obtain ⟨x, tt, p, z, rs, rfl, ta, htt, hR, k⟩ := h
    refine ⟨_, (PSs.nox (pss_one (ps_ret (pe_and (pe_cmpR op_eq (pe_met0 M_Table_signs (pv 0) (by first | exact hr | exact hr.mono (by decide))) (pe_ix ix_tup (pv 1) pe_int (fun _ _ => rfl)) (nomark _)) (pe_one (pe_cmpR (op_eqD hr.units) (pe_met0 M_Table_rows (pv 0) (by first | exact hr | exact hr.mono (by decide))) (pe_ix ix_tup (pv 1) pe_int (fun _ _ => rfl)) (nomark _))))))), ?_⟩
    obtain ⟨dx, lr, lp, dn, dr, m, h1, _⟩ := id ta.ex
    refine ⟨_, rfl, x, dx, _, rfl, h1, l6_ms_ _ _ _ _ _ _, x, z, rs, rfl, ta, ?_⟩
    refine ⟨_, rfl, tt, _, _, _, rfl, rfl, SqT.of htt, rfl, rfl, _, rfl, ?_⟩
    rw [decide_eq_true (rfl : V.str z = V.str z)]
    refine iteT ⟨_, rfl, x, dx, _, rfl, h1, l6_mr _ _ _ _ _ _, x, z, rs, rfl, ta, fun H1 q s1 nq hq => ?_⟩
    refine ⟨_, rfl, tt, _, _, _, rfl, rfl, SqT.of (s1 _ _ htt), rfl, _, _, dpR hq, dpR (hR.same s1), shR ta.ok.rasc, shR ta.ok.rasc, ?_⟩
    rw [eqR, decide_eq_true rfl]
    exact k _ s1
end
end Jr
namespace Jr
open PySem PySem.Spec PyProof.Rows L2
section
variable {P : Program} {w : World} {K : PySem.W.Frag} {mg : Str → Option Value} {base : Heap}
def spCut (K : PySem.W.Frag) : Sp := fun vs H Q _ => ∃ (p : Addr) (z : Str) (rs : Rws) (t : Str), vs = [.ref p, .str t] ∧ RowsAt H p rs ∧ TabOk z rs ∧ TextOf z t ∧ t.length ≤ 10000 ∧
  ∀ H' b, Same H H' → H b = none → H' b = some (.lst ((sweep rs t).map V.str)) → Q (.ref b) H'
theorem cal__law_cut (T : Tx K mg) : Cal P w K mg base CX0 1 "_law_cut" (spCut K) := by
  obtain ⟨fd, F⟩ := T.d__law_cut
  refine ⟨_, fd, P__law_cut, F.ok sc__law_cut (fun vs H Q E h => ?_) (fun cdv A outer s H vs Q E hr h => ?_), T.g__law_cut, F.kp, F.bindsN (ps := P__law_cut) fun _ _ _ _ _ _ us hl => match us, hl with | [_, _], _ => rfl⟩
  · obtain ⟨p, z, rs, t, rfl, _⟩ := h
    rfl
  · obtain ⟨p, z, rs, t, rfl, ⟨as, hp, hrs⟩, tk, tx, tl, k⟩ := h
    refine ⟨_, (PSs.nox (pss_cons (ps_set (i := 2) sc__law_cut.nd rfl (Or.inl rfl) (pe_callTy (T := "list") (call_list_str rfl) (by rfl) T.n_list (by decide +kernel) (pa_cons (pv 1) pa_nil)))
      (pss_cons (ps_for PassesOwn.never rfl (pi_list (pv 0)) (pg_tup rfl (pgs_cons (pg_name (i := 3) sc__law_cut.nd rfl (Or.inl rfl)) (pgs_cons (pg_name (i := 4) sc__law_cut.nd rfl (Or.inl rfl)) pgs_nil))) (pss_cons (ps_set (i := 5) sc__law_cut.nd rfl (Or.inl rfl) (pe_lst pa_nil))
      (pss_cons (ps_for PassesOwn.never rfl (pi_list (pv 2)) (pg_name (i := 6) sc__law_cut.nd rfl (Or.inl rfl)) (pss_one (ps_if (PW.pt (pw_and (pt_cmpR op_eq (pv 6) (pv 4) (nomark _)) (pw_and (pt_cmpR (op_neD hr.units) (pv 5) (pe_lst pa_nil) (nomark _)) (pw_and1 (pt_cmpR op_eq (pe_ix ix_list (pv 5) (pe_un un_neg pe_int) (fun _ _ => rfl)) (pv 3) (nomark _)))))) (pss_one (ps_asg (pe_op op_add_str (pv 3) (pv 4)) (pg_sub (pv 5) (pe_un un_neg pe_int) set_list))) (pss_one (ps_expr (pe_bm PySem.F.plainAttrs_list PySem.F.slot_list_append PySem.F.type_list_append mt_append (pv 5) (pa_cons (pv 6) pa_nil)))))))
      (pss_one (ps_set (i := 2) sc__law_cut.nd rfl (Or.inl rfl) (pv 5))))))
      (pss_one (ps_ret (pv 2)))))), ?_⟩
    refine ⟨_, rfl, t, rfl, sz (by omega), fun b0 hb0 => ?_⟩
    refine ⟨_, rfl, p, rfl, ⟨_, SqL.of (Same.new hb0 _ _ hp)⟩, for_list (K := K) (a := p) (xs := as.map V.ref) (fun i σ H' => ∃ (b : Addr) (u v x y : Option V), σ = [some (.ref p), some (.str t), some (.ref b), u, v, x, y] ∧ Same H H' ∧ H b = none ∧ H' b = some (.lst ((passAll (rs.take i) (sgs t)).map V.str)))
      ⟨b0, none, none, none, none, rfl, Same.new hb0, hb0, upd_same⟩ (fun i σ H' _ ⟨_, _, _, _, _, _, s, _⟩ => SqL.of (s _ _ hp)) ?_ ?_⟩
    · rintro i y σ H' hi ⟨b, u, v, x, y', rfl, sm, hb, hB⟩
      rw [List.getElem?_map] at hi
      cases ea : as[i]? with
      | none => rw [ea] at hi; cases hi
      | some q =>
        rw [ea] at hi
        cases hi
        obtain ⟨⟨l, r⟩, hri, hq⟩ := Paired.get hrs ea
        have ro := tk.rows i _ hri
        have tki := tk.take i
        have hl1 : 1 ≤ l.length ∧ l.length ≤ 16 := tki.plen ro.lm
        have hr1 : 1 ≤ r.length ∧ r.length ≤ 16 := tki.plen ro.rm
        have la := app_len l r
        refine ⟨q, _, rfl, SqT.of (sm _ _ hq), rfl, _, _, rfl, _, _, rfl, rfl, ?_⟩
        refine ⟨Nat.zero_le _, fun f hf => ?_⟩
        have hfH : H f = none := sm.free hf
        have hB1 := Same.new (o := .lst []) hf _ _ hB
        obtain ⟨ys, ey⟩ : ∃ ys, ys = passAll (rs.take i) (sgs t) := ⟨_, rfl⟩
        rw [← ey] at hB1
        have yl : ys.length ≤ 10000 := by
          rw [ey]
          have := passAll_len (rs.take i) (sgs t)
          rw [sgs_len] at this
          omega
        have yin : ∀ p ∈ ys, p ∈ pcs z rs := fun p hp => by rw [ey] at hp; exact sweep_in tx hp
        have jin : l ++ r ∈ pcs z rs := List.mem_append_right _ (List.mem_map.mpr ⟨(l, r), List.mem_of_getElem? hri, rfl⟩)
        have bf : b ≠ f := fun e => by rw [e, hf] at hB; cases hB
        refine ⟨_, rfl, b, rfl, ⟨_, SqL.of hB1⟩, for_list (K := K) (a := b) (xs := ys.map V.str) (fun j σ H2 => ∃ (y2 : Option V), σ = [some (.ref p), some (.str t), some (.ref b), some (.str l), some (.str r), some (.ref f), y2] ∧ Same H H2 ∧ H2 b = some (.lst (ys.map V.str)) ∧ H2 f = some (.lst ((pass1 l r (ys.take j)).map V.str)))
          ⟨_, rfl, Same.put sm hf, hB1, ?_⟩ (fun j σ H2 _ ⟨_, _, _, q, _⟩ => SqL.of q) ?_ ?_⟩
        · rw [List.take_zero, pass1_nil, upd_same]; rfl
        · rintro j y2 σ H2 hj ⟨y3, rfl, sm2, hB2, hF⟩
          rw [List.getElem?_map] at hj
          cases ep : ys[j]? with
          | none => rw [ep] at hj; cases hj
          | some pc =>
            rw [ep] at hj
            cases hj
            have st := pass1_take (l := l) (r := r) hr1.1 ep
            obtain ⟨fs, efs⟩ : ∃ fs, fs = pass1 l r (ys.take j) := ⟨_, rfl⟩
            rw [← efs] at hF st
            have fin : ∀ p ∈ fs, p ∈ pcs z rs := fun p hp => by
              rw [efs] at hp
              rcases pass1_mem l r _ p hp with q | q
              · exact yin p (List.mem_of_mem_take q)
              · rw [q]; exact jin
            have fl : fs.length ≤ 10000 := by
              rw [efs]
              have := pass1_len l r (ys.take j)
              rw [List.length_take] at this
              omega
            have app : stp l r fs pc = fs ++ [pc] → ∃ (y2 : Option V), [some (V.ref p), some (.str t), some (.ref b), some (.str l), some (.str r), some (.ref f), some (.str pc)] = [some (.ref p), some (.str t), some (.ref b), some (.str l), some (.str r), some (.ref f), y2] ∧ Same H (upd H2 f (.lst (fs.map V.str ++ [V.str pc]))) ∧ (upd H2 f (.lst (fs.map V.str ++ [V.str pc]))) b = some (.lst (ys.map V.str)) ∧ (upd H2 f (.lst (fs.map V.str ++ [V.str pc]))) f = some (.lst ((pass1 l r (ys.take (j + 1))).map V.str)) := fun e => by
              refine ⟨_, rfl, Same.mut sm2 hfH, by rw [upd_ne bf]; exact hB2, ?_⟩
              rw [upd_same, st, e, List.map_append]; rfl
            by_cases c1 : pc = r
            · subst c1
              refine ⟨_, rfl, _, rfl, rfl, _, rfl, ?_⟩
              rw [decide_eq_true (rfl : V.str pc = V.str pc)]
              refine iteT ⟨_, rfl, Nat.zero_le _, fun e he => ?_⟩
              have hF1 := Same.new (o := .lst []) he _ _ hF
              refine ⟨_, _, dpS (SqL.of hF1), dpS (xs := []) (SqL.of upd_same), shS (fun p hp => tk.asc (fin p hp)), shS (fun p hp => by cases hp), _, rfl, ?_⟩
              rw [eqS]
              have sm3 := Same.put (o := .lst []) sm2 he
              by_cases c2 : fs = []
              · rw [decide_eq_true c2]
                refine iteF (iteF ?_)
                refine ⟨_, rfl, .inl ⟨rfl, _, SqL.of hF1⟩, _, rfl, f, _, _, rfl, rfl, hF1, (by rw [List.length_map]; exact szl (by omega)), ?_⟩
                refine ⟨_, rfl, Same.mut sm3 hfH, ?_, ?_⟩
                · rw [upd_ne bf]; exact Same.new he _ _ hB2
                · have e2 : stp l pc fs pc = fs ++ [pc] := by unfold stp; rw [c2]; exact if_neg (by simp)
                  rw [upd_same, st, e2, List.map_append]; rfl
              · rw [decide_eq_false c2]
                obtain ⟨la1, hla⟩ : ∃ x, fs.getLast? = some x := by
                  cases e5 : fs.getLast? with
                  | none => exact absurd (List.getLast?_eq_none_iff.mp e5) c2
                  | some x => exact ⟨x, rfl⟩
                have hla2 : (fs.map V.str).getLast? = some (V.str la1) := by rw [List.getLast?_map, hla]; rfl
                refine iteT ⟨_, rfl, _, rfl, _, _, _, _, rfl, rfl, SqL.of hF1, at_last hla2, _, rfl, rfl, _, rfl, ?_⟩
                by_cases c3 : la1 = l
                · subst c3
                  rw [decide_eq_true (rfl : V.str la1 = V.str la1)]
                  refine iteT ⟨_, rfl, _, rfl, _, _, rfl, rfl, sz (by omega), _, rfl, _, rfl, f, _, _, _, rfl, rfl, hF1, ix_last (by rw [List.length_map]; exact List.length_pos_iff.mpr c2), ?_⟩
                  refine ⟨_, rfl, Same.mut sm3 hfH, ?_, ?_⟩
                  · rw [upd_ne bf]; exact Same.new he _ _ hB2
                  · have e2 : stp la1 pc fs pc = fs.dropLast ++ [la1 ++ pc] := by unfold stp; exact if_pos ⟨rfl, hla⟩
                    rw [upd_same, st, e2, set_last _ _ (fun z => c2 (List.map_eq_nil_iff.mp z)), List.map_append, List.map_dropLast]; rfl
                · have c3' : ¬ V.str la1 = V.str l := fun e => c3 (V.str.inj e)
                  rw [decide_eq_false c3']
                  refine iteF ?_
                  refine ⟨_, rfl, .inl ⟨rfl, _, SqL.of hF1⟩, _, rfl, f, _, _, rfl, rfl, hF1, (by rw [List.length_map]; exact szl (by omega)), ?_⟩
                  refine ⟨_, rfl, Same.mut sm3 hfH, ?_, ?_⟩
                  · rw [upd_ne bf]; exact Same.new he _ _ hB2
                  · have e2 : stp l pc fs pc = fs ++ [pc] := by
                      unfold stp
                      exact if_neg fun z => c3 (Option.some.inj (hla.symm.trans z.2))
                    rw [upd_same, st, e2, List.map_append]; rfl
            · have c1' : ¬ V.str pc = V.str r := fun e => c1 (V.str.inj e)
              refine ⟨_, rfl, _, rfl, rfl, _, rfl, ?_⟩
              rw [decide_eq_false c1']
              refine iteF (iteF ?_)
              refine ⟨_, rfl, .inl ⟨rfl, _, SqL.of hF⟩, _, rfl, f, _, _, rfl, rfl, hF, (by rw [List.length_map]; exact szl (by omega)), ?_⟩
              exact app (by unfold stp; exact if_neg fun z => c1 z.1)
        · rintro σ H2 ⟨y3, rfl, sm2, hB2, hF⟩
          rw [List.length_map, List.take_length] at hF
          refine ⟨_, rfl, f, _, _, _, _, rfl, sm2, hfH, ?_⟩
          rw [passAll_take _ hri, ← ey]
          exact hF
    · rintro σ H' ⟨b, u, v, x, y, rfl, sm, hb, hB⟩
      have e : rs.take (as.map V.ref).length = rs := by rw [List.length_map, Paired.len hrs, List.take_length]
      rw [e] at hB
      exact ⟨_, rfl, k _ b sm hb hB⟩
end
end Jr
namespace Jr
open PySem PySem.Spec PyProof.Rows L2
section
variable {P : Program} {w : World} {K : PySem.W.Frag} {mg : Str → Option Value} {base : Heap}
def spCheckText (K : PySem.W.Frag) : Sp := fun vs H Q _ => ∃ (x : Addr) (z : Str) (rs : Rws) (t : Str), vs = [.ref x, .str t] ∧ TabAt (TC K) H x z rs ∧ TextOf z t ∧ ∀ H', Same H H' → Q .non H'
theorem cal_check_text (T : Tx K mg) : Cal P w K mg base CX0 2 "check_text" (spCheckText K) := by
  have M_Table_signs := met_signs (P := P) (w := w) (base := base) T
  obtain ⟨fd, F⟩ := T.d_check_text
  refine ⟨_, fd, P_check_text, F.ok sc_check_text (fun vs H Q E h => ?_) (fun cdv A outer s H vs Q E hr h => ?_), T.g_check_text, F.kp, F.bindsN (ps := P_check_text) fun _ _ _ _ _ _ us hl => match us, hl with | [_, _], _ => rfl⟩
  · obtain ⟨x, z, rs, t, rfl, _⟩ := h
    rfl
  · obtain ⟨x, z, rs, t, rfl, ta, tx, k⟩ := h
    refine ⟨_, (PSs.nox (pss_cons (ps_if (pt_not (pt_val (pe_callB (id := "isinstance") call_isi (by rfl) T.n_isinstance (by decide +kernel) (pa_cons (pv 1) (pa_cons (pe_bltn (v := .ty "str") (by rfl) T.n_str (by decide +kernel) rfl) pa_nil))))) (pss_one ps_never) pss_nil)
      (pss_cons (ps_set (i := 2) sc_check_text.nd rfl (Or.inl rfl) (pe_met0 M_Table_signs (pv 0) (by first | exact hr | exact hr.mono (by decide))))
      (pss_one (ps_for PassesOwn.never rfl (pi_enumS (by rfl) T.n_enumerate (pa_cons (pv 1) pa_nil)) (pg_tup rfl (pgs_cons (pg_name (i := 3) sc_check_text.nd rfl (Or.inl rfl)) (pgs_cons (pg_name (i := 4) sc_check_text.nd rfl (Or.inl rfl)) pgs_nil))) (pss_one (ps_if (pt_cmpR op_notIn_sign (pv 4) (pv 2) rfl) (pss_one ps_never) pss_nil))))))), ?_⟩
    obtain ⟨dx, lr, lp, dn, dr, m, h1, _⟩ := ta.ex
    refine ⟨_, rfl, _, _, _, _, _, rfl, .ty "str", .base (.str t), isStr, _, rfl, iteF ?_⟩
    refine ⟨_, rfl, x, dx, _, rfl, h1, l6_ms_ _ _ _ _ _ _, x, z, rs, rfl, ta, ?_⟩
    refine ⟨_, rfl, t, rfl, for_enumS (x := t) (fun i σ H' => ∃ u v : Option V, σ = [some (.ref x), some (.str t), some (.str z), u, v] ∧ Same H H') ⟨none, none, rfl, Same.refl H⟩ ?_ ?_⟩
    · rintro i c q σ H' hi hq ⟨u, v, rfl, sm⟩
      have hc := tx c (List.mem_of_getElem? hi)
      have s2 := Same.put (o := .tup [.int (i : Nat), .str (sgn c)]) sm hq
      refine ⟨q, _, rfl, SqT.of upd_same, rfl, _, _, rfl, _, _, rfl, rfl, ?_⟩
      refine ⟨_, rfl, _, rfl, c, _, rfl, rfl, _, rfl, ?_⟩
      rw [decide_eq_true hc]
      exact iteF ⟨_, _, rfl, s2⟩
    · rintro σ H' ⟨u, v, rfl, sm⟩
      exact k _ sm
end
end Jr
namespace Jr
open PySem PySem.Spec PyProof.Rows L2
section
variable {P : Program} {w : World} {K : PySem.W.Frag} {mg : Str → Option Value} {base : Heap}
/-- pass_along: the joined row and the places of the borders that fell, in a new tuple -/
def spPassAlong (K : PySem.W.Frag) : Sp := fun vs H Q _ => ∃ (a : Addr) (l r : Str) (xs : List Str), vs = [.ref a, .str l, .str r] ∧ SqL K H a (xs.map V.str) ∧ xs.length ≤ 10000 ∧ (∀ p ∈ xs, p.length ≤ 1000) ∧ l.length ≤ 1000 ∧ r.length ≤ 1000 ∧
  ∀ H' t b q, Same H H' → H t = none → H b = none → H' t = some (.tup [.ref b, .ref q]) → H' b = some (.lst ((pass1 l r xs).map V.str)) → H' q = some (.lst (((plc l r 0 xs).map fun n => ((n : Nat) : Int)).map V.int)) → Q (.ref t) H'
theorem cal_pass_along (T : Tx K mg) : Cal P w K mg base CX0 1 "pass_along" (spPassAlong K) := by
  obtain ⟨fd, F⟩ := T.d_pass_along
  refine ⟨_, fd, P_pass_along, F.ok sc_pass_along (fun vs H Q E h => ?_) (fun cdv A outer s H vs Q E hr h => ?_), T.g_pass_along, F.kp, F.bindsN (ps := P_pass_along) fun _ _ _ _ _ _ us hl => match us, hl with | [_, _, _], _ => rfl⟩
  · obtain ⟨a, l, r, xs, rfl, _⟩ := h
    rfl
  · obtain ⟨a, l, r, xs, rfl, hS, hlen, hxs, hl, hr', k⟩ := h
    refine ⟨_, (PSs.nox (pss_cons (ps_set (i := 3) sc_pass_along.nd rfl (Or.inl rfl) (pe_lst pa_nil))
      (pss_cons (ps_set (i := 4) sc_pass_along.nd rfl (Or.inl rfl) (pe_lst pa_nil))
      (pss_cons (ps_set (i := 5) sc_pass_along.nd rfl (Or.inl rfl) pe_int)
      (pss_cons (ps_set (i := 6) sc_pass_along.nd rfl (Or.inl rfl) pe_int)
      (pss_cons (ps_while PassesOwn.never (pt_cmpR op_lt (pv 6) (pe_callB (id := "len") call_len_seq (by rfl) T.n_len (by decide +kernel) (pa_cons (pv 0) pa_nil)) (nomark _)) (pss_cons (ps_set (i := 7) sc_pass_along.nd rfl (Or.inl rfl) (pe_ix ix_list (pv 0) (pv 6) (fun _ _ => rfl)))
      (pss_cons (ps_aug (i := 5) sc_pass_along.nd rfl (Or.inl rfl) (pe_callB (id := "len") call_len_str (by rfl) T.n_len (by decide +kernel) (pa_cons (pv 7) pa_nil)) ip_add)
      (pss_cons (ps_if (PW.pt (pw_and (pt_cmpR op_eq (pv 7) (pv 1) (nomark _)) (pw_and (pt_cmpR op_lt (pe_op op_add (pv 6) pe_int) (pe_callB (id := "len") call_len_seq (by rfl) T.n_len (by decide +kernel) (pa_cons (pv 0) pa_nil)) (nomark _)) (pw_and1 (pt_cmpR op_eq (pe_ix ix_list (pv 0) (pe_op op_add (pv 6) pe_int) (fun _ _ => rfl)) (pv 2) (nomark _)))))) (pss_cons (ps_expr (pe_bm PySem.F.plainAttrs_list PySem.F.slot_list_append PySem.F.type_list_append mt_append (pv 4) (pa_cons (pv 5) pa_nil)))
      (pss_cons (ps_aug (i := 5) sc_pass_along.nd rfl (Or.inl rfl) (pe_callB (id := "len") call_len_str (by rfl) T.n_len (by decide +kernel) (pa_cons (pv 2) pa_nil)) ip_add)
      (pss_cons (ps_set (i := 7) sc_pass_along.nd rfl (Or.inl rfl) (pe_op op_add_str (pv 1) (pv 2)))
      (pss_one (ps_aug (i := 6) sc_pass_along.nd rfl (Or.inl rfl) pe_int ip_add))))) pss_nil)
      (pss_cons (ps_expr (pe_bm PySem.F.plainAttrs_list PySem.F.slot_list_append PySem.F.type_list_append mt_append (pv 3) (pa_cons (pv 7) pa_nil)))
      (pss_one (ps_aug (i := 6) sc_pass_along.nd rfl (Or.inl rfl) pe_int ip_add)))))))
      (pss_one (ps_ret (pe_tup (pa_cons (pv 3) (pa_cons (pv 4) pa_nil))))))))))), ?_⟩
    refine ⟨Nat.zero_le _, fun b hb => ⟨Nat.zero_le _, fun q hq => ?_⟩⟩
    have qb : q ≠ b := fun e => by rw [e, upd_same] at hq; cases hq
    have hqH : H q = none := (Same.new hb).free hq
    have s0 : Same H (upd (upd H b (.lst [])) q (.lst [])) := (Same.new hb).trans (Same.new hq)
    refine while_by (fun σ H' => ∃ (i n : Nat) (bs : List Str) (ps : List Nat) (u : Option V), σ = [some (.ref a), some (.str l), some (.str r), some (.ref b), some (.ref q), some (.int (n : Nat)), some (.int (i : Nat)), u] ∧
      Same H H' ∧ H' b = some (.lst (bs.map V.str)) ∧ H' q = some (.lst ((ps.map fun n => ((n : Nat) : Int)).map V.int)) ∧ i ≤ xs.length ∧ bs ++ pass1 l r (xs.drop i) = pass1 l r xs ∧ ps ++ plc l r n (xs.drop i) = plc l r 0 xs)
      (fun σ _ => match σ with | [_, _, _, _, _, _, some (.int i), _] => (xs.length : Nat) - i.toNat | _ => 0)
      ⟨0, 0, [], [], none, rfl, s0, ?_, ?_, Nat.zero_le _, rfl, rfl⟩ ?_ ?_
    · rw [upd_ne (Ne.symm qb), upd_same]; rfl
    · rw [upd_same]; rfl
    · rintro σ H' ⟨i, n, bs, ps, u, rfl, sm, hB, hQ, hi, e1, e2⟩
      have hS' := sm.seq hS
      refine ⟨_, rfl, _, rfl, _, _, rfl, .inl hS', _, _, rfl, rfl, _, rfl, ite2 (fun c => ?_) (fun c => ?_)⟩
      · have c' : i < xs.length := by
          have := of_decide_eq_true c
          rw [List.length_map] at this
          omega
        obtain ⟨p, hp⟩ : ∃ p, xs[i]? = some p := ⟨_, List.getElem?_eq_getElem c'⟩
        have hpm := List.mem_of_getElem? hp
        have hpl := hxs p hpm
        have ed : xs.drop i = p :: xs.drop (i + 1) := by
          rw [List.drop_eq_getElem_cons c']
          rw [List.getElem?_eq_getElem c'] at hp
          rw [Option.some.inj hp]
        have bl : bs.length ≤ 10000 := by
          have z1 := congrArg List.length e1
          have z2 := pass1_len l r xs
          rw [List.length_append] at z1
          omega
        have pl : ps.length ≤ 10000 := by
          have z1 := congrArg List.length e2
          have z2 := plc_len l r 0 xs
          rw [List.length_append] at z1
          omega
        have bq : b ≠ q := Ne.symm qb
        refine ⟨_, rfl, _, rfl, _, _, _, _, rfl, rfl, hS', atm hp, ?_⟩
        refine ⟨_, rfl, _, rfl, _, rfl, sz (by omega), _, _, rfl, rfl, ?_⟩
        -- no join: the piece is appended
        have stay : ∀ (no : pass1 l r (p :: xs.drop (i + 1)) = p :: pass1 l r (xs.drop (i + 1))) (no2 : plc l r n (p :: xs.drop (i + 1)) = plc l r (n + p.length) (xs.drop (i + 1))),
            ∃ (i' n' : Nat) (bs' : List Str) (ps' : List Nat) (u' : Option V), [some (V.ref a), some (.str l), some (.str r), some (.ref b), some (.ref q), some (.int ((n : Int) + (p.length : Int))), some (.int ((i : Int) + 1)), some (.str p)] = [some (.ref a), some (.str l), some (.str r), some (.ref b), some (.ref q), some (.int (n' : Nat)), some (.int (i' : Nat)), u'] ∧
              Same H (upd H' b (.lst (bs.map V.str ++ [V.str p]))) ∧ (upd H' b (.lst (bs.map V.str ++ [V.str p]))) b = some (.lst (bs'.map V.str)) ∧ (upd H' b (.lst (bs.map V.str ++ [V.str p]))) q = some (.lst ((ps'.map fun n => ((n : Nat) : Int)).map V.int)) ∧ i' ≤ xs.length ∧ bs' ++ pass1 l r (xs.drop i') = pass1 l r xs ∧ ps' ++ plc l r n' (xs.drop i') = plc l r 0 xs := fun no no2 => by
          refine ⟨i + 1, n + p.length, bs ++ [p], ps, _, rfl, Same.mut sm hb, ?_, ?_, c', ?_, ?_⟩
          · rw [upd_same, List.map_append]; rfl
          · rw [upd_ne qb]; exact hQ
          · rw [← e1, ed, no, List.append_assoc]; rfl
          · rw [← e2, ed, no2]
        by_cases cl : p = l
        · subst cl
          refine ⟨_, rfl, _, rfl, rfl, _, rfl, ?_⟩
          rw [decide_eq_true (rfl : V.str p = V.str p)]
          refine iteT ⟨_, rfl, _, _, rfl, rfl, _, rfl, _, _, rfl, .inl hS', _, _, rfl, rfl, _, rfl, ite2 (fun c2 => ?_) (fun c2 => iteF ?_)⟩
          · have c2' : i + 1 < xs.length := by
              have := of_decide_eq_true c2
              rw [List.length_map] at this
              omega
            obtain ⟨p2, hp2⟩ : ∃ p2, xs[i + 1]? = some p2 := ⟨_, List.getElem?_eq_getElem c2'⟩
            have ed2 : xs.drop (i + 1) = p2 :: xs.drop (i + 2) := by
              rw [List.drop_eq_getElem_cons c2']
              rw [List.getElem?_eq_getElem c2'] at hp2
              rw [Option.some.inj hp2]
            have ei : (i : Int) + 1 = ((i + 1 : Nat) : Int) := by omega
            refine ⟨_, rfl, _, rfl, _, _, rfl, rfl, _, _, _, _, rfl, rfl, hS', (by rw [ei]; exact atm hp2), _, rfl, rfl, _, rfl, ?_⟩
            by_cases cr : p2 = r
            · subst cr
              rw [decide_eq_true (rfl : V.str p2 = V.str p2)]
              refine iteT ?_
              refine ⟨_, rfl, .inl ⟨rfl, _, SqL.of hQ⟩, _, rfl, q, _, _, rfl, rfl, hQ, ?_, ?_⟩
              · rw [List.length_map, List.length_map]; exact szl (by omega)
              refine ⟨_, rfl, _, rfl, _, rfl, sz (by omega), _, _, rfl, rfl, ?_⟩
              refine ⟨_, rfl, _, rfl, _, _, rfl, rfl, sz (by omega), ?_⟩
              refine ⟨_, rfl, _, _, rfl, rfl, ?_⟩
              have hB2 : (upd H' q (.lst ((ps.map fun n => ((n : Nat) : Int)).map V.int ++ [V.int ((n : Int) + (p.length : Int))]))) b = some (.lst (bs.map V.str)) := by rw [upd_ne bq]; exact hB
              refine ⟨_, rfl, .inl ⟨rfl, _, SqL.of hB2⟩, _, rfl, b, _, _, rfl, rfl, hB2, (by rw [List.length_map]; exact szl (by omega)), ?_⟩
              refine ⟨_, rfl, _, _, rfl, rfl, ?_⟩
              refine ⟨⟨i + 2, n + p.length + p2.length, bs ++ [p ++ p2], ps ++ [n + p.length], some (.str (p ++ p2)), ?_, Same.mut (Same.mut sm hqH) hb, ?_, ?_, c2', ?_, ?_⟩, ?_⟩
              · rfl
              · rw [upd_same, List.map_append]; rfl
              · rw [upd_ne qb, upd_same, List.map_append, List.map_append]; rfl
              · rw [← e1, ed, ed2, pass1_yes, List.append_assoc]; rfl
              · rw [← e2, ed, ed2, List.append_assoc]
                have z : plc p p2 n (p :: p2 :: xs.drop (i + 2)) = (n + p.length) :: plc p p2 (n + p.length + p2.length) (xs.drop (i + 2)) := by rw [plc]; exact if_pos ⟨rfl, rfl⟩
                rw [z]; rfl
              · show xs.length - ((i : Int) + 1 + 1).toNat < xs.length - ((i : Int)).toNat
                omega
            · have cr' : ¬ V.str p2 = V.str r := fun e => cr (V.str.inj e)
              rw [decide_eq_false cr']
              refine iteF ?_
              have no : ¬ (p = p ∧ p2 = r) := fun e => cr e.2
              refine ⟨_, rfl, .inl ⟨rfl, _, SqL.of hB⟩, _, rfl, b, _, _, rfl, rfl, hB, (by rw [List.length_map]; exact szl (by omega)), ?_⟩
              refine ⟨_, rfl, _, _, rfl, rfl, stay (by rw [ed2]; exact pass1_no _ no) (by rw [ed2, plc]; exact if_neg no), ?_⟩
              show xs.length - ((i : Int) + 1).toNat < xs.length - ((i : Int)).toNat
              omega
          · have c2' : xs.drop (i + 1) = [] := by
              have : ¬ ((i : Int) + 1 < ((xs.map V.str).length : Nat)) := of_decide_eq_false (by simpa using c2)
              rw [List.length_map] at this
              exact List.drop_of_length_le (by omega)
            refine ⟨_, rfl, .inl ⟨rfl, _, SqL.of hB⟩, _, rfl, b, _, _, rfl, rfl, hB, (by rw [List.length_map]; exact szl (by omega)), ?_⟩
            refine ⟨_, rfl, _, _, rfl, rfl, stay (by rw [c2', pass1_one, pass1_nil]) (by rw [c2']; unfold plc; rfl), ?_⟩
            show xs.length - ((i : Int) + 1).toNat < xs.length - ((i : Int)).toNat
            omega
        · have cl' : ¬ V.str p = V.str l := fun e => cl (V.str.inj e)
          refine ⟨_, rfl, _, rfl, rfl, _, rfl, ?_⟩
          rw [decide_eq_false cl']
          refine iteF (iteF ?_)
          refine ⟨_, rfl, .inl ⟨rfl, _, SqL.of hB⟩, _, rfl, b, _, _, rfl, rfl, hB, (by rw [List.length_map]; exact szl (by omega)), ?_⟩
          refine ⟨_, rfl, _, _, rfl, rfl, stay ?_ ?_, ?_⟩
          · cases e : xs.drop (i + 1) with
            | nil => rw [pass1_one, pass1_nil]
            | cons y ys => exact pass1_no _ fun z => cl z.1
          · cases e : xs.drop (i + 1) with
            | nil => unfold plc; rfl
            | cons y ys => rw [plc]; exact if_neg fun z => cl z.1
          · show xs.length - ((i : Int) + 1).toNat < xs.length - ((i : Int)).toNat
            omega
      · have c' : xs.drop i = [] := by
          have : ¬ ((i : Int) < ((xs.map V.str).length : Nat)) := of_decide_eq_false (by simpa using c)
          rw [List.length_map] at this
          exact List.drop_of_length_le (by omega)
        rw [c', pass1_nil, List.append_nil] at e1
        have z : plc l r n [] = [] := by unfold plc; rfl
        rw [c', z, List.append_nil] at e2
        refine ⟨_, rfl, _, rfl, (by show 2 ≤ sizeLine; decide), fun t ht => ?_⟩
        refine k _ t b q (Same.put sm ht) (sm.free ht) hb upd_same ?_ ?_
        · rw [← e1]; exact Same.new ht _ _ hB
        · rw [← e2]; exact Same.new ht _ _ hQ
    · intro σ H' Q1 Q2 himp hh
      obtain ⟨v1, g1, v2, g2, h2⟩ := hh
      obtain ⟨p0, ys, ev, hsq, i0, j0, ei, ej, kk, ek, h3⟩ := h2
      exact ⟨v1, g1, v2, g2, p0, ys, ev, hsq, i0, j0, ei, ej, kk, ek, himp _ _ h3⟩
end
end Jr
namespace Jr
open PySem PySem.Spec PyProof.Rows L2
section
variable {P : Program} {w : World} {K : PySem.W.Frag} {mg : Str → Option Value} {base : Heap}
def spSignsOf (K : PySem.W.Frag) : Sp := fun vs H Q _ => ∃ (x : Addr) (z : Str) (rs : Rws) (t : Str), vs = [.ref x, .str t] ∧ TabAt (TC K) H x z rs ∧ TextOf z t ∧ t.length ≤ 10000 ∧ ∀ H' p, Same H H' → H p = none → H' p = some (.lst ((sgs t).map V.str)) → Q (.ref p) H'
theorem cal_signs_of (T : Tx K mg) : Cal P w K mg base CX0 3 "signs_of" (spSignsOf K) := by
  have C_check_text := cal_check_text (P := P) (w := w) (base := base) T
  obtain ⟨fd, F⟩ := T.d_signs_of
  refine ⟨_, fd, P_signs_of, F.ok sc_signs_of (fun vs H Q E h => ?_) (fun cdv A outer s H vs Q E hr h => ?_), T.g_signs_of, F.kp, F.bindsN (ps := P_signs_of) fun _ _ _ _ _ _ us hl => match us, hl with | [_, _], _ => rfl⟩
  · obtain ⟨x, z, rs, t, rfl, _⟩ := h
    rfl
  · obtain ⟨x, z, rs, t, rfl, ta, tx, tl, k⟩ := h
    refine ⟨_, (PSs.nox (pss_cons (ps_expr (pe_cal C_check_text (by first | exact hr | exact hr.mono (by decide)) (by rfl) (pa_cons (pv 0) (pa_cons (pv 1) pa_nil))))
      (pss_one (ps_ret (pe_callTy (T := "list") (call_list_str rfl) (by rfl) T.n_list (by decide +kernel) (pa_cons (pv 1) pa_nil)))))), ?_⟩
    refine ⟨_, rfl, _, rfl, x, z, rs, t, rfl, ta, tx, fun H1 s1 => ?_⟩
    exact ⟨_, rfl, t, rfl, sz (by omega), fun l hl => k _ l (Same.put s1 hl) (s1.free hl) upd_same⟩
end
end Jr
namespace Jr
open PySem PySem.Spec PyProof.Rows L2
section
variable {P : Program} {w : World} {K : PySem.W.Frag} {mg : Str → Option Value} {base : Heap}
def spPassAll (K : PySem.W.Frag) : Sp := fun vs H Q _ => ∃ (a p : Addr) (xs : List Str) (rs : Rws), vs = [.ref a, .ref p] ∧ SqL K H a (xs.map V.str) ∧ RowsAt H p rs ∧ xs.length ≤ 10000 ∧ (∀ x ∈ xs, x.length ≤ 1000) ∧ (∀ r ∈ rs, r.1.length + r.2.length ≤ 1000) ∧
  ∀ H' b, Same H H' → H b = none → H' b = some (.lst ((passAll rs xs).map V.str)) → Q (.ref b) H'
theorem cal_pass_all (T : Tx K mg) : Cal P w K mg base CX0 2 "pass_all" (spPassAll K) := by
  have C_pass_along := cal_pass_along (P := P) (w := w) (base := base) T
  obtain ⟨fd, F⟩ := T.d_pass_all
  refine ⟨_, fd, P_pass_all, F.ok sc_pass_all (fun vs H Q E h => ?_) (fun cdv A outer s H vs Q E hr h => ?_), T.g_pass_all, F.kp, F.bindsN (ps := P_pass_all) fun _ _ _ _ _ _ us hl => match us, hl with | [_, _], _ => rfl⟩
  · obtain ⟨a, p, xs, rs, rfl, _⟩ := h
    rfl
  · obtain ⟨a, p, xs, rs, rfl, hS, ⟨as, hp, hrs⟩, hlen, hxs, hrl, k⟩ := h
    refine ⟨_, (PSs.nox (pss_cons (ps_set (i := 2) sc_pass_all.nd rfl (Or.inl rfl) (pe_callTy (T := "list") call_list_of (by rfl) T.n_list (by decide +kernel) (pa_cons (pv 0) pa_nil)))
      (pss_cons (ps_for PassesOwn.never rfl (pi_list (pv 1)) (pg_tup rfl (pgs_cons (pg_name (i := 3) sc_pass_all.nd rfl (Or.inl rfl)) (pgs_cons (pg_name (i := 4) sc_pass_all.nd rfl (Or.inl rfl)) pgs_nil))) (pss_one (ps_set (i := 2) sc_pass_all.nd rfl (Or.inl rfl) (pe_ix ix_tup (pe_cal C_pass_along (by first | exact hr | exact hr.mono (by decide)) (by rfl) (pa_cons (pv 2) (pa_cons (pv 3) (pa_cons (pv 4) pa_nil)))) pe_int (fun _ _ => rfl)))))
      (pss_one (ps_ret (pv 2)))))), ?_⟩
    refine ⟨_, rfl, a, _, rfl, .inl hS, fun b0 hb0 => ?_⟩
    refine ⟨_, rfl, p, rfl, ⟨_, SqL.of (Same.new hb0 _ _ hp)⟩, for_list (K := K) (a := p) (xs := as.map V.ref) (fun i σ H' => ∃ (b : Addr) (u v : Option V), σ = [some (.ref a), some (.ref p), some (.ref b), u, v] ∧ Same H H' ∧ H b = none ∧ H' b = some (.lst ((passAll (rs.take i) xs).map V.str)))
      ⟨b0, none, none, rfl, Same.new hb0, hb0, upd_same⟩ (fun i σ H' _ ⟨_, _, _, _, s, _⟩ => SqL.of (s _ _ hp)) ?_ ?_⟩
    · rintro i y σ H' hi ⟨b, u, v, rfl, sm, hb, hB⟩
      rw [List.getElem?_map] at hi
      cases ea : as[i]? with
      | none => rw [ea] at hi; cases hi
      | some q =>
        rw [ea] at hi
        cases hi
        obtain ⟨⟨l, r⟩, hri, hq⟩ := Paired.get hrs ea
        have hlr : l.length + r.length ≤ 1000 := hrl _ (List.mem_of_getElem? hri)
        refine ⟨q, _, rfl, SqT.of (sm _ _ hq), rfl, _, _, rfl, _, _, rfl, rfl, ?_⟩
        refine ⟨_, rfl, _, rfl, _, rfl, b, l, r, passAll (rs.take i) xs, rfl, SqL.of hB, Nat.le_trans (passAll_len _ _) hlen, ?_, by omega, by omega, ?_⟩
        · intro x hx
          rcases passAll_mem _ _ x hx with z | ⟨s, hs, rfl⟩
          · exact hxs x z
          · show (s.1 ++ s.2).length ≤ 1000
            rw [app_len]
            exact hrl s (List.mem_of_mem_take hs)
        · intro H2 t b2 q2 s2 ht hb2 h2t h2b h2q
          refine ⟨t, _, _, _, rfl, rfl, SqT.of h2t, (show atI _ ((0 : Nat) : Int) = _ from ats rfl), ?_⟩
          refine ⟨b2, _, _, rfl, sm.trans s2, sm.free hb2, ?_⟩
          rw [passAll_take xs hri]
          exact h2b
    · rintro σ H' ⟨b, u, v, rfl, sm, hb, hB⟩
      have e : rs.take (as.map V.ref).length = rs := by rw [List.length_map, Paired.len hrs, List.take_length]
      rw [e] at hB
      exact ⟨_, rfl, k _ b sm hb hB⟩
end
end Jr
namespace Jr
open PySem PySem.Spec PyProof.Rows L2
section
variable {P : Program} {w : World} {K : PySem.W.Frag} {mg : Str → Option Value} {base : Heap}
def spSwept (K : PySem.W.Frag) : Sp := fun vs H Q _ => ∃ (x : Addr) (z : Str) (rs : Rws) (t : Str), vs = [.ref x, .str t] ∧ TabAt (TC K) H x z rs ∧ TextOf z t ∧ t.length ≤ 10000 ∧ ∀ H' p, Same H H' → H p = none → H' p = some (.lst ((sweep rs t).map V.str)) → Q (.ref p) H'
theorem cal_swept (T : Tx K mg) : Cal P w K mg base CX0 4 "swept" (spSwept K) := by
  have C_signs_of := cal_signs_of (P := P) (w := w) (base := base) T
  have C_pass_all := cal_pass_all (P := P) (w := w) (base := base) T
  have M_Table_rows := met_rows (P := P) (w := w) (base := base) T
  obtain ⟨fd, F⟩ := T.d_swept
  refine ⟨_, fd, P_swept, F.ok sc_swept (fun vs H Q E h => ?_) (fun cdv A outer s H vs Q E hr h => ?_), T.g_swept, F.kp, F.bindsN (ps := P_swept) fun _ _ _ _ _ _ us hl => match us, hl with | [_, _], _ => rfl⟩
  · obtain ⟨x, z, rs, t, rfl, _⟩ := h
    rfl
  · obtain ⟨x, z, rs, t, rfl, ta, tx, tl, k⟩ := h
    refine ⟨_, (PSs.nox (pss_one (ps_ret (pe_cal C_pass_all (by first | exact hr | exact hr.mono (by decide)) (by rfl) (pa_cons (pe_cal C_signs_of (by first | exact hr | exact hr.mono (by decide)) (by rfl) (pa_cons (pv 0) (pa_cons (pv 1) pa_nil))) (pa_cons (pe_met0 M_Table_rows (pv 0) (by first | exact hr | exact hr.mono (by decide))) pa_nil)))))), ?_⟩
    refine ⟨_, rfl, _, rfl, x, z, rs, t, rfl, ta, tx, tl, fun H1 a s1 ha hA => ?_⟩
    have ta1 := ta.same s1
    obtain ⟨dx, lr, lp, dn, dr, m, h1, _⟩ := ta1.ex
    refine ⟨_, rfl, x, dx, _, rfl, h1, l6_mr _ _ _ _ _ _, x, z, rs, rfl, ta1, fun H2 p s2 hp hR => ?_⟩
    refine ⟨a, p, sgs t, rs, rfl, SqL.of (s2 _ _ hA), hR, (by rw [sgs_len]; exact tl), ?_, ta.ok.rlen, fun H3 b s3 hb hB => k _ b ((s1.trans s2).trans s3) ((s1.trans s2).free hb) hB⟩
    intro y hy
    obtain ⟨c, _, rfl⟩ := List.mem_map.mp hy
    rw [sgn_len]; omega
end
end Jr
namespace Jr
open PySem PySem.Spec PyProof.Rows L2
/-- the rank of two texts as a value -/
def rankV (rs : Rws) (l r : Str) : V := (valV (rankD 0 rs) [Sum.inr l, Sum.inr r]).getD .non
theorem rankD_int : ∀ (i : Nat) (rs : Rws) (l r : Str), valV (rankD i rs) [Sum.inr l, Sum.inr r] = none ∨ ∃ n : Int, valV (rankD i rs) [Sum.inr l, Sum.inr r] = some (.int n)
  | _, [], _, _ => .inl rfl
  | i, q :: rs, l, r => by
    by_cases h : ([Sum.inr q.1, Sum.inr q.2] : List Key) = [Sum.inr l, Sum.inr r]
    · exact .inr ⟨_, valV_pos (p := (([Sum.inr q.1, Sum.inr q.2] : List Key), V.int (i : Nat))) h⟩
    · rcases rankD_int (i + 1) rs l r with e | ⟨n, e⟩
      · exact .inl ((valV_neg (p := (([Sum.inr q.1, Sum.inr q.2] : List Key), V.int (i : Nat))) h).trans e)
      · exact .inr ⟨n, (valV_neg (p := (([Sum.inr q.1, Sum.inr q.2] : List Key), V.int (i : Nat))) h).trans e⟩
theorem rankV_or (rs : Rws) (l r : Str) : rankV rs l r = .non ∨ ∃ n : Int, rankV rs l r = .int n := by
  unfold rankV
  rcases rankD_int 0 rs l r with e | ⟨n, e⟩
  · rw [e]; exact .inl rfl
  · rw [e]; exact .inr ⟨n, rfl⟩
theorem rankV_at {z : Str} {rs : Rws} (T : TabOk z rs) {j : Nat} {r : Str × Str} (h : rs[j]? = some r) : rankV rs r.1 r.2 = .int (j : Nat) := by
  unfold rankV
  rw [rankD_at 0 rs r j T.rnodup h, Nat.zero_add]
  rfl
theorem rankV_none {rs : Rws} {l r : Str} (h : ¬ (l, r) ∈ rs) : rankV rs l r = .non := by
  unfold rankV
  rw [rankD_none 0 rs l r h]
  rfl
end Jr
namespace Jr
open PySem PySem.Spec PyProof.Rows L2
section
variable {P : Program} {w : World} {K : PySem.W.Frag} {mg : Str → Option Value} {base : Heap}
def spRank (K : PySem.W.Frag) : Sp := fun vs H Q _ => ∃ (x : Addr) (z : Str) (rs : Rws) (l r : Str), vs = [.ref x, .str l, .str r] ∧ TabAt (TC K) H x z rs ∧ ∀ H', Same H H' → Q (rankV rs l r) H'
theorem met_rank (T : Tx K mg) : Met P w K mg base CX0 1 (TC K) "rank" (spRank K) := by
  obtain ⟨fd, F⟩ := T.d_Table_rank
  refine ⟨T.cl_Table, _, fd, P_Table_rank, F.ok sc_Table_rank (fun vs H Q E h => ?_) (fun cdv A outer s H vs Q E hr h => ?_), T.m_Table_rank, F.bindsN (ps := P_Table_rank) fun _ _ _ _ _ _ us hl => match us, hl with | [_, _, _], _ => rfl⟩
  · obtain ⟨x, z, rs, l, r, rfl, _⟩ := h
    rfl
  · obtain ⟨x, z, rs, l, r, rfl, ta, k⟩ := h
    refine ⟨_, (PSs.nox (pss_cons (ps_if (PW.pt (pw_or (pt_not (pt_val (pe_callB (id := "isinstance") call_isi (by rfl) T.n_isinstance (by decide +kernel) (pa_cons (pv 1) (pa_cons (pe_bltn (v := .ty "str") (by rfl) T.n_str (by decide +kernel) rfl) pa_nil))))) (pw_or1 (pt_not (pt_val (pe_callB (id := "isinstance") call_isi (by rfl) T.n_isinstance (by decide +kernel) (pa_cons (pv 2) (pa_cons (pe_bltn (v := .ty "str") (by rfl) T.n_str (by decide +kernel) rfl) pa_nil)))))))) (pss_one (ps_ret pe_non)) pss_nil)
      (pss_one (ps_ret (pe_dget1 (hu_of hr) (pe_fld (pv 0) rfl) (pe_tup (pa_cons (pv 1) (pa_cons (pv 2) pa_nil))) ⟨by rfl, by rfl, by rfl, by rfl⟩))))), ?_⟩
    obtain ⟨dx, lr, lp, dn, dr, m, h1, _, _, _, h5, _⟩ := ta.ex
    refine ⟨_, rfl, _, _, _, _, _, rfl, .ty "str", .base (.str l), isStr, _, rfl, iteF ⟨_, rfl, _, _, _, _, _, rfl, .ty "str", .base (.str r), isStr, _, rfl, iteF ?_⟩⟩
    refine ⟨_, rfl, x, _, dx, _, _, rfl, h1, T.cl_Table, T.no_Table_rank_by_row, l6_rk _ _ _ _ _ _, dr, rfl, .inr ⟨_, .inl h5⟩, _, rfl, _, rfl, (by show 2 ≤ sizeLine; decide), fun t ht => ?_⟩
    exact ⟨_, DGet.t (k := [Sum.inr l, Sum.inr r]) (Same.new ht _ _ h5) upd_same, k _ (Same.new ht)⟩
end
end Jr
namespace Jr
open PySem PySem.Spec PyProof.Rows L2
section
variable {P : Program} {w : World} {K : PySem.W.Frag} {mg : Str → Option Value} {base : Heap}
/-- what parts tells of a piece -/
def PartV (H : Hp) (z : Str) (rs : Rws) (p : Str) (v : V) : Prop := (p ∈ sgs z ∧ v = .non) ∨ ∃ (r : Str × Str) (a : Addr), r ∈ rs ∧ jn r = p ∧ TupAt H a r ∧ v = .ref a
/-- parts: of a sign None, of a made piece its row's tuple -/
def spParts (K : PySem.W.Frag) : Sp := fun vs H Q _ => ∃ (x : Addr) (z : Str) (rs : Rws) (p : Str), vs = [.ref x, .str p] ∧ TabAt (TC K) H x z rs ∧ p ∈ pcs z rs ∧ ∀ v : V, PartV H z rs p v → Q v H
theorem met_parts (T : Tx K mg) : Met P w K mg base CX0 2 (TC K) "parts" (spParts K) := by
  have M_Table_which := met_which (P := P) (w := w) (base := base) T
  obtain ⟨fd, F⟩ := T.d_Table_parts
  refine ⟨T.cl_Table, _, fd, P_Table_parts, F.ok sc_Table_parts (fun vs H Q E h => ?_) (fun cdv A outer s H vs Q E hr h => ?_), T.m_Table_parts, F.bindsN (ps := P_Table_parts) fun _ _ _ _ _ _ us hl => match us, hl with | [_, _], _ => rfl⟩
  · obtain ⟨x, z, rs, p, rfl, _⟩ := h
    rfl
  · obtain ⟨x, z, rs, p, rfl, ta, hp, k⟩ := h
    refine ⟨_, (PSs.nox (pss_cons (ps_set (i := 2) sc_Table_parts.nd rfl (Or.inl rfl) (pe_met M_Table_which (pv 0) (by first | exact hr | exact hr.mono (by decide)) (pa_cons (pv 1) pa_nil)))
      (pss_cons (ps_if (pt_cmpR op_isN (pv 2) pe_non (nomark _)) (pss_one ps_never) pss_nil)
      (pss_cons (ps_if (pt_cmpR op_lt (pv 2) (pe_callB (id := "len") call_len_str (by rfl) T.n_len (by decide +kernel) (pa_cons (pe_fld (pv 0) rfl) pa_nil)) (nomark _)) (pss_one (ps_ret pe_non)) pss_nil)
      (pss_one (ps_ret (pe_ix ix_list (pe_fld (pv 0) rfl) (pe_op op_sub (pv 2) (pe_callB (id := "len") call_len_str (by rfl) T.n_len (by decide +kernel) (pa_cons (pe_fld (pv 0) rfl) pa_nil))) (fun _ _ => rfl)))))))), ?_⟩
    obtain ⟨dx, lr, lp, dn, dr, m, h1, ⟨as, h2, h2'⟩, _, h4, _⟩ := ta.ex
    obtain ⟨i, hi, ei⟩ := num_some ta.ok.nodup hp
    have n12 := ta.ok.n12
    refine ⟨_, rfl, x, dx, _, rfl, h1, l6_mw _ _ _ _ _ _, _, rfl, x, dx, _, dn, _, _, rfl, h1, l6_num _ _ _ _ _ _, h4, .inl ⟨p, rfl, ?_⟩⟩
    rw [ei]
    refine ⟨_, rfl, rfl, _, rfl, iteF ?_⟩
    refine ⟨_, rfl, _, rfl, x, _, dx, _, _, rfl, h1, T.cl_Table, T.no_Table_sign_text, l6_st _ _ _ _ _ _, _, rfl, sz (by omega), _, _, rfl, rfl, _, rfl, ite2 (fun c => ?_) (fun c => ?_)⟩
    · have c' : i < z.length := by
        have := of_decide_eq_true c
        omega
      unfold pcs at hi
      rw [List.getElem?_append_left (by rw [sgs_len]; exact c')] at hi
      exact k _ (.inl ⟨List.mem_of_getElem? hi, rfl⟩)
    · have c' : ¬ i < z.length := by
        have : ¬ ((i : Int) < (z.length : Int)) := of_decide_eq_false (by simpa using c)
        omega
      unfold pcs at hi
      rw [List.getElem?_append_right (by rw [sgs_len]; omega), sgs_len, List.getElem?_map] at hi
      cases er : rs[i - z.length]? with
      | none => rw [er] at hi; cases hi
      | some r =>
        rw [er] at hi
        have e : jn r = p := Option.some.inj hi
        obtain ⟨a, ha, ht⟩ := Paired.get2 h2' er
        have ej : ((i : Int) - (z.length : Int)) = ((i - z.length : Nat) : Int) := by omega
        refine ⟨_, rfl, x, _, dx, _, _, rfl, h1, T.cl_Table, T.no_Table_row_list, l6_rl _ _ _ _ _ _, _, rfl, _, rfl, x, _, dx, _, _, rfl, h1, T.cl_Table, T.no_Table_sign_text, l6_st _ _ _ _ _ _, _, rfl, sz (by omega), _, _, rfl, rfl, lr, _, _, _, rfl, rfl, SqL.of h2, (by rw [ej]; exact atm ha), k _ (.inr ⟨r, a, List.mem_of_getElem? er, e, ht, rfl⟩)⟩
end
end Jr
namespace Jr
open PySem PySem.Spec PyProof.Rows L2
/-! ### a promise that may raise, told where nothing is raised -/
theorem okCalm {P : Program} {w : World} {K : PySem.W.Frag} {mg : Str → Option Value} {base : Heap} {k : Nat} {f : Addr} {fd : FuncData} {ps : List Str} {sp : Sp} (F : FnOk P w K mg base (L2.CX P w) k f fd ps sp) :
    FnOk P w K mg base CX0 k f fd ps (fun vs H Q _ => sp vs H Q fun _ _ _ => False) := by
  refine ⟨fun vs H Q _ h => F.len vs H Q _ h, fun A outer s H args us vs Q E hr e0 hb rv h => ?_⟩
  refine codeAny_mono (F.run A outer s H args us vs Q _ hr e0 hb rv h) fun r s' hq => ?_
  cases r with
  | error e =>
    obtain ⟨_, _, _, _, _, _, _, _, _, _, _, _, z⟩ := hq
    exact z.elim
  | ok fl =>
    cases fl with
    | ret u => exact hq
    | next => exact hq
    | brk => exact hq
    | cont => exact hq
theorem Cal.calm {P : Program} {w : World} {K : PySem.W.Frag} {mg : Str → Option Value} {base : Heap} {k : Nat} {x : Str} {sp : Sp} (F : Cal P w K mg base (L2.CX P w) k x sp) : Cal P w K mg base CX0 k x (fun vs H Q _ => sp vs H Q fun _ _ _ => False) := by
  obtain ⟨f, fd, ps, G, r⟩ := F.ex
  exact ⟨f, fd, ps, okCalm G, r⟩
theorem Met.calm {P : Program} {w : World} {K : PySem.W.Frag} {mg : Str → Option Value} {base : Heap} {k : Nat} {C : Addr} {m : Str} {sp : Sp} (F : Met P w K mg base (L2.CX P w) k C m sp) : Met P w K mg base CX0 k C m (fun vs H Q _ => sp vs H Q fun _ _ _ => False) := by
  obtain ⟨cl, f, fd, ps, G, r⟩ := F
  exact ⟨cl, f, fd, ps, okCalm G, r⟩
theorem Mkc.calm {P : Program} {w : World} {K : PySem.W.Frag} {mg : Str → Option Value} {base : Heap} {k : Nat} {x : Str} {C : Addr} {sp : Sp} (F : Mkc P w K mg base (L2.CX P w) k x C sp) : Mkc P w K mg base CX0 k x C (fun vs H Q _ => sp vs H Q fun _ _ _ => False) := by
  obtain ⟨⟨f, fd, ps, G, r⟩, g⟩ := F
  exact ⟨⟨f, fd, ps, okCalm G, r⟩, g⟩
end Jr
namespace Jr
open PySem PySem.Spec PyProof.Rows L2
/-! ### a method's call as the element of a comprehension: its reading by a name, so that it is found -/
def tMet (C : Addr) (m : Str) (ta : TE) (t : TA) (sp : Sp) : TE := fun σ H Q => ta σ H fun x H1 => ∃ a dx fs, x = .ref a ∧ H1 a = some (.ins C dx fs) ∧ fs.lookup m = none ∧ t σ H1 fun vs H2 => sp (x :: vs) H2 Q E0
theorem pe_metT {X : Cx} {k : Nat} {sp : Sp} {e : Expr} {es : List Expr} {t : TA} {pos apos : Pos} {C : Addr} {m : Str} {o : Expr} {ta : TE} {pl : Sem Bool} (F : Met X.prog X.w X.K X.mg X.base CX0 k C m sp) (ho : PE X o ta) (hr : Room k X.A) (ha : PA X (e :: es) t)
    (hc : eval (.Call (.Attribute o m apos) (e :: es) [] pos) X.env = (do
      let ov ← eval o X.env
      standAt apos.atName
      let (f, first) ← holding [ov] (getMethod ov m pl)
      callWith pos f first (backTo pos (starEach (e :: es) X.env)) (backToKw pos (keywordEach [] X.env))) := by rfl)
    (he : starEach (e :: es) X.env = (false, eval e X.env) :: starEach es X.env := by rfl) (hpl : (backTo pos (starEach es X.env)).any (·.1) = false := by rfl) :
    PE X (.Call (.Attribute o m apos) (e :: es) [] pos) (tMet C m ta t sp) := pe_met F ho hr ha hc he hpl
/-- a list's method as the element of a comprehension -/
theorem pe_bmT {X : Cx} {K0 : PySem.W.Frag} {o e : Expr} {es : List Expr} {to : TE} {t : TA} {name : Str} {apos cpos : Pos} {T id : String} {r : V → List V → Hp → VK → Prop} (hK : X.K = K0) (pa : PlainAttrs T) (slot : Slot T name id) (hty : typeOf (.builtin id) = pure (.type "method_descriptor")) (hm : MtR X id r) (ho : PE X o to) (ha : PA X (e :: es) t)
    (hbase : attributeBase o name X.env (eval o X.env) = eval o X.env := by rfl)
    (hfew : ((backTo cpos (starEach (e :: es) X.env)).all (fun x => !x.1) && (backToKw cpos (keywordEach [] X.env)).all (fun x => x.1.isSome)
      && decide ((e :: es).length + ([] : List Keyword).length + (if ([] : List Keyword).isEmpty then 0 else 1) < 30)) = true := by rfl)
    (hline : (apos.endLine == cpos.line) = true := by rfl) (hs : starEach (e :: es) X.env = (false, eval e X.env) :: starEach es X.env := by rfl) (hplain : (backTo cpos (starEach es X.env)).any (·.1) = false := by rfl) :
    PE X (.Call (.Attribute o name apos) (e :: es) [] cpos) (tBM K0 T r to t) := hK ▸ pe_bm pa slot hty hm ho ha hbase hfew hline hs hplain
/-- join as the element of a comprehension -/
theorem pe_joinT {X : Cx} {K0 : PySem.W.Frag} {o e : Expr} {to te : TE} {apos pos : Pos} (hK : X.K = K0) (ho : PE X o to) (he : PE X e te) (hs : starEach [e] X.env = [(false, eval e X.env)] := by rfl) (hbase : attributeBase o "join" X.env (eval o X.env) = eval o X.env := by rfl) (hline : (apos.endLine == pos.line) = true := by rfl) :
    PE X (.Call (.Attribute o "join" apos) [e] [] pos) (tM1 (fun x xs H Q => ∃ a p, ∃ ys : List Str, x = .str a ∧ xs = [.ref p] ∧ (SqL K0 H p (ys.map V.str) ∨ SqT K0 H p (ys.map V.str)) ∧
      (ys.map (·.length)).sum + ys.length * a.length ≤ 16777216 ∧ Q (.str (Txt.join a ys)) H) to te) := hK ▸ pe_join ho he hs hbase hline
theorem mt_indexT {X : Cx} {K0 : PySem.W.Frag} (hK : X.K = K0) : MtR X "list.index" (rIndex K0) := hK ▸ mt_index
end Jr
namespace Jr
open PySem PySem.Spec PyProof.Rows L2
theorem text_asc63 {z t : Str} (sg : SignsOk z) (h : TextOf z t) : Asc t := fun c hc => by
  have := (sg.ok c (h c hc)).2.1
  omega
section
variable {P : Program} {w : World} {K : PySem.W.Frag} {mg : Str → Option Value} {base : Heap}
def spGood63 (K : PySem.W.Frag) : Sp := fun vs H Q _ => ∃ (x tt p : Addr) (z z' : Str) (rs : Rws) (t : Str), vs = [.ref x, .ref tt, .str z', .str t] ∧ TabAt (TC K) H x z rs ∧ H tt = some (.tup [.str z, .ref p]) ∧ RowsAt H p rs ∧ SignsOk z' ∧ z'.length = z.length ∧ TextOf z t ∧ t.length ≤ 1000 ∧ ∀ H', Same H H' → Q (.bl true) H'
theorem cal__law_good63 (T : Tx K mg) : Cal P w K mg base CX0 7 "_law_good" (spGood63 K) := by
  have C__law_turned := cal__law_turned63 (P := P) (w := w) (base := base) T
  have C__law_is_table := cal__law_is_table (P := P) (w := w) (base := base) T
  have C__law_cut := cal__law_cut (P := P) (w := w) (base := base) T
  have C_renamed := (calx_renamed (P := P) (w := w) (base := base) T).calm
  have C_swept := cal_swept (P := P) (w := w) (base := base) T
  have M_Table_rank := met_rank (P := P) (w := w) (base := base) T
  have M_Table_parts := met_parts (P := P) (w := w) (base := base) T
  obtain ⟨fd, F⟩ := T.d__law_good
  refine ⟨_, fd, P__law_good, F.ok sc__law_good (fun vs H Q E h => ?_) (fun cdv A outer s H vs Q E hr h => ?_), T.g__law_good, F.kp, F.bindsN (ps := P__law_good) fun _ _ _ _ _ _ us hl => match us, hl with | [_, _, _, _], _ => rfl⟩
  · obtain ⟨x, tt, p, z, z', rs, t, rfl, _⟩ := h
    rfl
  · obtain ⟨x, tt, p, z, z', rs, t, rfl, ta, htt, hR, ok, el, tx, tl, k⟩ := h
    refine ⟨_, (PSs.nox (pss_cons (ps_set (i := 4) sc__law_good.nd rfl (Or.inl rfl) (pe_lstG pa_nil))
      (pss_cons (ps_for PassesOwn.never rfl (pi_list (pe_ix ix_tup (pv 1) pe_int (fun _ _ => rfl))) (pg_tup rfl (pgs_cons (pg_name (i := 5) sc__law_good.nd rfl (Or.inl rfl)) (pgs_cons (pg_name (i := 6) sc__law_good.nd rfl (Or.inl rfl)) pgs_nil))) (pss_one (ps_expr (pe_bm PySem.F.plainAttrs_list PySem.F.slot_list_append PySem.F.type_list_append mt_append (pv 4) (pa_cons (pe_tupG (pa_cons (pe_cal C__law_turned (by first | exact hr | exact hr.mono (by decide)) (by rfl) (pa_cons (pv 5) (pa_cons (pe_ix ix_tup (pv 1) pe_int (fun _ _ => rfl)) (pa_cons (pv 2) pa_nil)))) (pa_cons (pe_cal C__law_turned (by first | exact hr | exact hr.mono (by decide)) (by rfl) (pa_cons (pv 6) (pa_cons (pe_ix ix_tup (pv 1) pe_int (fun _ _ => rfl)) (pa_cons (pv 2) pa_nil)))) pa_nil))) pa_nil)))))
      (pss_cons (ps_set (i := 7) sc__law_good.nd rfl (Or.inl rfl) (pe_cal C_renamed (by first | exact hr | exact hr.mono (by decide)) (by rfl) (pa_cons (pv 0) (pa_cons (pv 2) pa_nil))))
      (pss_cons (ps_if (PW.pt (pw_or (pt_not (pt_val (pe_cal C__law_is_table (by first | exact hr | exact hr.mono (by decide)) (by rfl) (pa_cons (pv 7) (pa_cons (pe_tupG (pa_cons (pv 2) (pa_cons (pv 4) pa_nil))) pa_nil))))) (pw_or1 (pt_not (pt_val (pe_cal C__law_is_table (by first | exact hr | exact hr.mono (by decide)) (by rfl) (pa_cons (pe_cal C_renamed (by first | exact hr | exact hr.mono (by decide)) (by rfl) (pa_cons (pv 7) (pa_cons (pe_ix ix_tup (pv 1) pe_int (fun _ _ => rfl)) pa_nil))) (pa_cons (pv 1) pa_nil)))))))) (pss_one (ps_ret pe_bl)) pss_nil)
      (pss_cons (ps_for PassesOwn.never rfl (pi_enum (by rfl) T.n_enumerate (pa_cons (pv 4) pa_nil)) (pg_tup rfl (pgs_cons (pg_name (i := 8) sc__law_good.nd rfl (Or.inl rfl)) (pgs_cons (pg_name (i := 9) sc__law_good.nd rfl (Or.inl rfl)) pgs_nil))) (pss_one (ps_if (PW.pt (pw_or (pt_cmpR (op_neD hr.units) (pe_met M_Table_rank (pv 7) (by first | exact hr | exact hr.mono (by decide)) (pa_cons (pe_ix ix_tup (pv 9) pe_int (fun _ _ => rfl)) (pa_cons (pe_ix ix_tup (pv 9) pe_int (fun _ _ => rfl)) pa_nil))) (pv 8) (nomark _)) (pw_or1 (pt_cmpR (op_neD hr.units) (pe_met M_Table_parts (pv 7) (by first | exact hr | exact hr.mono (by decide)) (pa_cons (pe_op op_add_str (pe_ix ix_tup (pv 9) pe_int (fun _ _ => rfl)) (pe_ix ix_tup (pv 9) pe_int (fun _ _ => rfl))) pa_nil)) (pv 9) (nomark _))))) (pss_one (ps_ret pe_bl)) pss_nil)))
      (pss_cons (ps_setLc (i := 10) (own := [("_law_piece", 11)]) (g := gName 11) (by rfl) sc__law_good.nd rfl rfl (sw_true rfl rfl rfl (by decide +kernel)) (pi_list (pe_cal C__law_cut (by first | exact hr | exact hr.mono (by decide)) (by rfl) (pa_cons (pe_ix ix_tup (pv 1) pe_int (fun _ _ => rfl)) (pa_cons (pv 3) pa_nil)))) (blkOk_by (own := [("_law_piece", 11)]) (N := N__law_good) (sc := defScope s__law_good) (by decide +kernel)) (fun _ _ _ _ _ => (pg_name (i := 11) sc__law_good.nd rfl (Or.inl rfl))) (fun _ _ _ _ _ => pts_nil) (fun _ _ _ _ _ => (pe_calT C__law_turned (by first | exact hr | exact hr.mono (by decide)) (by rfl) (pa_cons (pv 11) (pa_cons (pe_ix (ix_tupK (K := K)) (pv 1) pe_int (fun _ _ => rfl)) (pa_cons (pv 2) pa_nil))))))
      (pss_one (ps_ret (pe_cmpR (op_eqD hr.units) (pe_cal C_swept (by first | exact hr | exact hr.mono (by decide)) (by rfl) (pa_cons (pv 7) (pa_cons (pe_cal C__law_turned (by first | exact hr | exact hr.mono (by decide)) (by rfl) (pa_cons (pv 3) (pa_cons (pe_ix ix_tup (pv 1) pe_int (fun _ _ => rfl)) (pa_cons (pv 2) pa_nil)))) pa_nil))) (pv 10) (nomark _))))))))))), ?_⟩
    have tk := ta.ok
    have n1 := tk.n1
    have n12 := tk.n12
    have many := tk.many
    have nd := tk.sg.nd
    have tk' := ren_ok nd ok.nd el ok tk
    obtain ⟨as, hpa, hrs⟩ := id hR
    refine ⟨(by show 0 ≤ sizeLine; decide), fun q H1 nq s1 hq => ?_⟩
    have r1 : Reg H H1 [(q, .lst (([] : List Addr).map V.ref))] := (Reg.nil H).new nq s1 hq
    refine ⟨_, rfl, tt, _, _, _, rfl, rfl, SqT.of (s1 _ _ htt), rfl, p, rfl, ⟨_, SqL.of (s1 _ _ hpa)⟩, for_list (K := K) (a := p) (xs := as.map V.ref) (fun i σ H' => ∃ (S : Hp) (bs : List Addr) (u5 u6 : Option V), σ = [some (.ref x), some (.ref tt), some (.str z'), some (.str t), some (.ref q), u5, u6, none, none, none, none, none] ∧ Same H S ∧ Reg S H' [(q, .lst (bs.map V.ref))] ∧ Paired (TupAt S) bs (renR z z' (rs.take i))) ⟨H, [], _, _, rfl, Same.refl _, r1, .nil⟩ (fun i σ H' _ ⟨_, _, _, _, _, s, r, _⟩ => SqL.of (r.same _ _ (s _ _ hpa))) ?_ ?_⟩
    · rintro i v σ H5 hi ⟨S, bs, u5, u6, rfl, sS, rg, hbs⟩
      rw [List.getElem?_map] at hi
      cases ei : as[i]? with
      | none => rw [ei] at hi; cases hi
      | some e =>
        rw [ei] at hi
        cases hi
        obtain ⟨r, hr1, he⟩ := Paired.get hrs ei
        have he : H e = some (.tup [.str r.1, .str r.2]) := he
        have ro := tk.rows i r hr1
        have Ti := tk.take i
        have il := (List.getElem?_eq_some_iff.mp hr1).1
        have hx1 := pc_text Ti ro.lm
        have hx2 := pc_text Ti ro.rm
        have ll := (Ti.plen ro.lm).2
        have lr := (Ti.plen ro.rm).2
        have bl : bs.length ≤ 24 := by
          have := Paired.len hbs
          unfold renR at this
          rw [List.length_map, List.length_take] at this
          omega
        have httS := rg.same _ _ (sS _ _ htt)
        refine ⟨e, _, rfl, SqT.of (rg.same _ _ (sS _ _ he)), rfl, _, _, rfl, _, _, rfl, rfl, ?_⟩
        refine ⟨_, rfl, .inl ⟨rfl, _, SqL.of (rg.get (i := 0) rfl)⟩, ?_⟩
        refine ⟨_, rfl, _, rfl, tt, _, _, _, rfl, rfl, SqT.of httS, rfl, _, rfl, r.1, z, z', rfl, hx1, by omega, nd, n12, el, fun H6 s6 => ?_⟩
        refine ⟨_, rfl, _, rfl, tt, _, _, _, rfl, rfl, SqT.of (s6 _ _ httS), rfl, _, rfl, r.2, z, z', rfl, hx2, by omega, nd, n12, el, fun H7 s7 => ?_⟩
        refine ⟨(by show 2 ≤ sizeLine; decide), fun tq H8 nt s8 ht => ?_⟩
        have rg7 := (rg.step s6).step s7
        obtain ⟨S9, r9, sS9, htS⟩ : ∃ S9, Reg S9 H8 [(q, .lst (bs.map V.ref))] ∧ Same S S9 ∧ TupAt S9 tq (renW z z' r) := by
          obtain ⟨g, sG⟩ := rg7.grow s8
          exact ⟨_, g, sG, out_of ht (rg7.free nt)⟩
        have hq9 := r9.get (i := 0) rfl
        have r10 := r9.set (i := 0) (a := q) (o' := .lst ((bs ++ [tq]).map V.ref)) rfl
        rw [show (bs ++ [tq]).map V.ref = bs.map V.ref ++ [V.ref tq] by simp] at r10
        refine ⟨q, _, _, rfl, rfl, hq9, szl (by rw [List.length_map]; omega), S9, bs ++ [tq], _, _, rfl, sS.trans sS9, ?_, ?_⟩
        · rw [show (bs ++ [tq]).map V.ref = bs.map V.ref ++ [V.ref tq] by simp]
          exact r10
        · rw [List.take_add_one, hr1]
          unfold renR
          rw [List.map_append]
          exact Paired.app (L2.Paired.mapP hbs fun _ _ h => sS9 _ _ h) (.cons htS .nil)
    · rintro σ H5 ⟨S, bs, u5, u6, rfl, sS, rg, hbs⟩
      rw [List.length_map, Paired.len hrs, List.take_length] at hbs
      have s05 := sS.trans rg.same
      have hq5 := rg.get (i := 0) rfl
      have hbs5 : Paired (TupAt H5) bs (renR z z' rs) := L2.Paired.mapP hbs fun _ _ h => rg.same _ _ h
      have hR5 : RowsAt H5 q (renR z z' rs) := ⟨bs, hq5, hbs5⟩
      clear rg hbs
      refine ⟨_, rfl, _, rfl, x, z, rs, .str z', rfl, ta.same s05, .inl ⟨z', rfl, ok, el, fun H6 y s6 ty => ?_⟩⟩
      refine ⟨_, rfl, _, rfl, _, rfl, (by show 2 ≤ sizeLine; decide), fun t2 H7 nt2 s7 ht2 => ?_⟩
      refine ⟨y, t2, q, z', _, rfl, ty.same s7, ht2, (hR5.same s6).same s7, fun H8 s8 => ⟨_, rfl, iteF ?_⟩⟩
      have s58 := (s6.trans s7).trans s8
      have s08 := s05.trans s58
      have ty8 := (ty.same s7).same s8
      refine ⟨_, rfl, _, rfl, tt, _, _, _, rfl, rfl, SqT.of (s08 _ _ htt), rfl, y, z', _, .str z, rfl, ty8, .inl ⟨z, rfl, tk.sg, el.symm, fun H9 y2 s9 ty2 => ?_⟩⟩
      rw [renR_back nd ok.nd el tk] at ty2
      have s09 := s08.trans s9
      refine ⟨_, rfl, y2, tt, p, z, rs, rfl, ty2, s09 _ _ htt, hR.same s09, fun H10 s10 => ⟨_, rfl, iteF ?_⟩⟩
      have s5A := (s58.trans s9).trans s10
      have s0A := s05.trans s5A
      have tyA := (ty8.same s9).same s10
      have hqA := s5A _ _ hq5
      have hbsA : Paired (TupAt H10) bs (renR z z' rs) := L2.Paired.mapP hbs5 fun _ _ h => s5A _ _ h
      clear ty8 ty2 hq5 hbs5 hR5 ty ht2 s09 s08 s58 s9 s10 s6 s7 s8 s5A s05
      refine ⟨_, rfl, q, _, rfl, SqL.of hqA, for_enum (K := K) (a := q) (xs := bs.map V.ref) (fun i σ H' => ∃ (u8 u9 : Option V), σ = [some (.ref x), some (.ref tt), some (.str z'), some (.str t), some (.ref q), u5, u6, some (.ref y), u8, u9, none, none] ∧ Same H10 H') ⟨_, _, rfl, Same.refl _⟩ (fun i σ H' _ ⟨_, _, _, s⟩ => SqL.of (s _ _ hqA)) ?_ ?_⟩
      · rintro i v T1 σ H11 hi nT ⟨u8, u9, rfl, s11⟩
        rw [List.getElem?_map] at hi
        cases ei : bs[i]? with
        | none => rw [ei] at hi; cases hi
        | some e =>
          rw [ei] at hi
          cases hi
          obtain ⟨r, hr1, he⟩ := Paired.get hbsA ei
          have he : H10 e = some (.tup [.str r.1, .str r.2]) := he
          have sT := Same.new (o := .tup [.int (i : Nat), V.ref e]) nT
          have hT1 : (upd H11 T1 (.tup [.int (i : Nat), V.ref e])) T1 = _ := upd_same
          revert sT hT1
          generalize (upd H11 T1 (.tup [.int (i : Nat), V.ref e])) = H12
          intro sT hT1
          have s12 := s11.trans sT
          have ty12 := tyA.same s12
          have he12 := s12 _ _ he
          obtain ⟨dy, lr, lp, dn, dr, m, hy, _⟩ := id ty12.ex
          have ro := tk'.rows i r hr1
          have ll : r.1.length + r.2.length ≤ 16 := by
            have e1 : (jn r).length = r.1.length + r.2.length := app_len _ _
            have := ro.len
            omega
          refine ⟨T1, _, rfl, SqT.of hT1, rfl, _, _, rfl, _, _, rfl, rfl, ?_⟩
          have A0 : atI [V.str r.1, V.str r.2] ((0 : Nat) : Int) = _ := ats rfl
          have A1 : atI [V.str r.1, V.str r.2] ((1 : Nat) : Int) = _ := ats rfl
          refine ⟨_, rfl, y, dy, _, rfl, hy, l6_mrk _ _ _ _ _ _, _, rfl, e, _, _, _, rfl, rfl, SqT.of he12, A0, _, rfl, e, _, _, _, rfl, rfl, SqT.of he12, A1, y, z', _, r.1, r.2, rfl, ty12, fun H13 s13 => ?_⟩
          rw [rankV_at tk' hr1]
          have l1 := Ly.fl (K := K) (H := H13) (v := .int (i : Nat)) trivial
          refine ⟨_, rfl, _, _, l1.dp, l1.dp, l1.sh, l1.sh, ?_⟩
          rw [l1.eqv]
          refine ⟨_, rfl, iteF ?_⟩
          have he13 := s13 _ _ he12
          have ty13 := ty12.same s13
          have hm : r ∈ renR z z' rs := List.mem_of_getElem? hr1
          have jin : jn r ∈ pcs z' (renR z z' rs) := List.mem_append_right _ (List.mem_map.mpr ⟨r, hm, rfl⟩)
          have ra := tk'.rasc r hm
          refine ⟨_, rfl, y, dy, _, rfl, s13 _ _ hy, l6_mpa _ _ _ _ _ _, _, rfl, e, _, _, _, rfl, rfl, SqT.of he13, A0, _, rfl, e, _, _, _, rfl, rfl, SqT.of he13, A1, _, _, rfl, rfl, sz (by omega), y, z', _, jn r, rfl, ty13, jin, fun v hv => ?_⟩
          rcases hv with ⟨hs, _⟩ | ⟨r', a, hr', ej, ha, rfl⟩
          · exact absurd (List.mem_append_left _ hs) ro.new
          obtain ⟨j, hj⟩ := List.getElem?_of_mem hr'
          have ij := tk'.jn_inj hj hr1 ej
          subst ij
          rw [hr1] at hj
          cases hj
          have la : Ly K H13 1 (.ref a) _ := Ly.tup (SqT.of ha) (.cons (Ly.fl (v := .str r.1) ra.1) (.cons (Ly.fl (v := .str r.2) ra.2) .nil))
          have lb : Ly K H13 1 (.ref e) _ := Ly.tup (SqT.of he13) (.cons (Ly.fl (v := .str r.1) ra.1) (.cons (Ly.fl (v := .str r.2) ra.2) .nil))
          refine ⟨_, rfl, _, _, la.dp, lb.dp, la.sh, lb.sh, ?_⟩
          rw [la.eqv]
          exact ⟨_, rfl, iteF ⟨_, _, rfl, s12.trans s13⟩⟩
      · rintro σ H11 ⟨u8, u9, rfl, s11⟩
        have s0B := s0A.trans s11
        have httB := s0B _ _ htt
        have swl0 : (sweep rs t).length ≤ t.length := by
          have := passAll_len rs (sgs t)
          rw [sgs_len] at this
          exact this
        refine ⟨_, rfl, tt, _, _, _, rfl, rfl, SqT.of httB, rfl, _, rfl, p, z, rs, t, rfl, hR.same s0B, tk, tx, by omega, fun H12 b s12 nb hb => ?_⟩
        refine ⟨b, rfl, ⟨_, SqL.of hb⟩, fun D hD => lc_listC (K := K) (item := V.str) (p := fun _ => true) (f := fun q => V.str (renS z z' q)) (l := sweep rs t) (SqL.of hb) hD (by omega) (fun q hq H13 s13 N M hM _ => ?_) (fun H13 s13 hL => ?_)⟩
        · have qp := sweep_pc tx hq
          exact ⟨rfl, _, rfl, _, rfl, tt, _, _, _, rfl, rfl, SqT.of ((s12.trans s13) _ _ httB), rfl, _, rfl, q, z, z', rfl, pc_text tk qp, by have := (tk.plen qp).2; omega, nd, n12, el, fun H14 s14 => hM rfl _ s14⟩
        rw [filt_true] at hL
        have hL : H13 D = some (.lst (((sweep rs t).map (renS z z')).map V.str)) := by rw [hL, List.map_map]; rfl
        have s13' := s12.trans s13
        have ty13 := (tyA.same s11).same s13'
        refine ⟨_, rfl, _, rfl, _, rfl, tt, _, _, _, rfl, rfl, SqT.of (s13' _ _ httB), rfl, _, rfl, t, z, z', rfl, tx, by omega, nd, n12, el, fun H14 s14 => ?_⟩
        refine ⟨y, z', _, renS z z' t, rfl, ty13.same s14, renS_text nd el tx, by rw [renS_len]; omega, fun H15 p5 s15 np5 hp5 => ?_⟩
        rw [sweep_ren nd ok.nd el tk tx] at hp5
        have asc : ∀ y ∈ (sweep rs t).map (renS z z'), Asc y := fun y hy => by
          obtain ⟨q, hq, rfl⟩ := List.mem_map.mp hy
          exact text_asc63 ok (renS_text nd el (pc_text tk (sweep_pc tx hq)))
        refine ⟨_, rfl, dS _, dS _, dpS (SqL.of hp5), dpS (SqL.of ((s14.trans s15) _ _ hL)), shS asc, shS asc, ?_⟩
        rw [eqS, decide_eq_true rfl]
        exact k _ (s0B.trans (s13'.trans (s14.trans s15)))
end
end Jr
namespace Jr
open PySem PySem.Spec PyProof.Rows L2
/-- an error of the k-th of the thirteen kinds -/
structure KindC (K : PySem.W.Frag) (D : Addr) (k : Nat) : Prop where
  xc : XcC K D
  je : PySem.W.kitOne K (.ref D) (.ref (He.ga K "JoinError")) = some true
  ve : PySem.W.kitOne K (.ref D) (.type "ValueError") = some true
  k0 : PySem.W.kitOne K (.ref D) (.ref (He.ga K "NoTable")) = some (decide (0 = k))
  k1 : PySem.W.kitOne K (.ref D) (.ref (He.ga K "NoGrammar")) = some (decide (1 = k))
  k2 : PySem.W.kitOne K (.ref D) (.ref (He.ga K "NoCutting")) = some (decide (2 = k))
  k3 : PySem.W.kitOne K (.ref D) (.ref (He.ga K "NoSign")) = some (decide (3 = k))
  k4 : PySem.W.kitOne K (.ref D) (.ref (He.ga K "NoPiece")) = some (decide (4 = k))
  k5 : PySem.W.kitOne K (.ref D) (.ref (He.ga K "NoNumber")) = some (decide (5 = k))
  k6 : PySem.W.kitOne K (.ref D) (.ref (He.ga K "NoCount")) = some (decide (6 = k))
  k7 : PySem.W.kitOne K (.ref D) (.ref (He.ga K "NoText")) = some (decide (7 = k))
  k8 : PySem.W.kitOne K (.ref D) (.ref (He.ga K "NoPlace")) = some (decide (8 = k))
  k9 : PySem.W.kitOne K (.ref D) (.ref (He.ga K "NoLead")) = some (decide (9 = k))
  k10 : PySem.W.kitOne K (.ref D) (.ref (He.ga K "NoDeed")) = some (decide (10 = k))
  k11 : PySem.W.kitOne K (.ref D) (.ref (He.ga K "NoRow")) = some (decide (11 = k))
  k12 : PySem.W.kitOne K (.ref D) (.ref (He.ga K "NoName")) = some (decide (12 = k))
end Jr
namespace Jr
open PySem PySem.Spec PyProof.Rows L2
/-! ### a caught error kept behind its suite -/
/-- an exception object of the class cls with the dict d, kept at a -/
def ExV (cls : Value) (d : Option Addr) (a : Addr) : HO := .ext fun h => ∃ (oe : Obj) (vs : Array Value), h.get? a = some oe ∧ Zc cls d oe ∧ oe.data = .fields vs
theorem exV_ok {P : Program} {w : World} {H : Hp} {h : Heap} {a : Addr} {cls : Value} {d : Option Addr} {oe : Obj} {vs : Array Value} (e : h.get? a = some oe) (z : Zc cls d oe) (hd : oe.data = .fields vs) : ObjOk P w H h a (ExV cls d a) :=
  ⟨⟨oe, vs, e, z, hd⟩, ⟨oe, e⟩, fun _ _ ⟨o, v, q, r⟩ k => ⟨o, v, k o q, r⟩⟩
section
variable {X : Cx} {pins : List (Addr × Obj)} {σ : L2.St} {H : Hp} {s : Shared}
theorem Inv.keepX {a : Addr} {oe : Obj} {vs : Array Value} {cls : Value} {d : Option Addr} (ok : X.Ok) (I : Inv (X.suite a ((a, oe) :: (X.pn ++ pins))) [] σ H s) (n0 : X.s_0.heap.get? a = none) (np : ∀ p ∈ X.pn ++ pins, p.1 ≠ a) (hz : Zc cls d oe) (hd : oe.data = .fields vs) :
    Inv X pins σ (upd H a (ExV cls d a)) s := by
  obtain ⟨ha, na, nL, nF, nc⟩ := I.pin (a, oe) (List.mem_append_left _ List.mem_cons_self)
  simp only at ha na nL nF nc
  have ne0 : ∀ b o, X.s_0.heap.get? b = some o → b ≠ a := fun b o e z => by
    rw [z, n0] at e
    cases e
  have neT : ∀ b o, H b = some o → b ≠ a := fun b o e z => by
    rw [z, na] at e
    cases e
  have base : Un X.fs X.ex X.H_0 (upd H a (ExV cls d a)) X.s_0.heap s.heap := by
    refine ⟨I.base.keep, I.base.slot, fun b o e n hq => ?_, I.base.there, fun b xs e => ?_, fun b o u e => ?_, fun b ps e => ?_⟩
    · rw [upd_ne (ne0 b o e)]
      exact I.base.free b o e n hq
    · have q := I.base.tups b xs e
      rw [upd_ne (neT b _ q)]
      exact q
    · have q := I.base.frzs b o u e
      rw [upd_ne (neT b _ q)]
      exact q
    · obtain ⟨m, q⟩ := I.base.tbls b ps e
      exact ⟨m, by rw [upd_ne (neT b _ q)]; exact q⟩
  refine ⟨ok, I.os, I.bare, base, I.loc, I.cell, ?_, fun x c e => ?_, fun p hp => ?_, fun b u e => ?_, I.len⟩
  · rw [upd_ne (Ne.symm nL)]
    exact I.free
  · have hc : c ≠ a := fun z => by
      obtain ⟨v, o, ho, hv⟩ := I.cell x c e
      rw [z, ha] at ho
      cases ho
      exact nc v hv
    rw [upd_ne hc]
    exact I.freeC x c e
  · obtain ⟨e, n, ne, nf, dd⟩ := I.pin p (List.mem_append_left _ (List.mem_cons_of_mem _ hp))
    exact ⟨e, by rw [upd_ne (np p hp)]; exact n, ne, nf, dd⟩
  · by_cases hb : b = a
    · subst hb
      rw [upd_same] at e
      cases e
      exact exV_ok ha hz hd
    · rw [upd_ne hb] at e
      exact (I.hok b u e).stay (fun c v _ q => q) (fun c q => by rw [upd_ne (neT c _ q)]; exact q) fun c xs q => by rw [upd_ne (neT c _ q)]; exact q
end
/-- what the clause 'except x as n' wishes of an exception of the body, where the error stays behind the suite -/
def wKeep (K : PySem.W.Frag) (c : Value) (i : Nat) (ts : Addr → Value → Option Addr → TS) (Wout : WX) (D : Ends) : WX := fun cls d σ H =>
  ∃ b, PySem.W.exmOne K cls c = some b ∧ (b = true → ∀ a, H a = none → ts a cls d { nx := fun σ' H' => D.nx (σ'.set i none) (upd H' a (ExV cls d a)), rt := fun v H' => D.rt v (upd H' a (ExV cls d a)), bk := fun σ' H' => D.bk (σ'.set i none) (upd H' a (ExV cls d a)), ct := fun σ' H' => D.ct (σ'.set i none) (upd H' a (ExV cls d a)) } (σ.set i (some (.ref a))) H) ∧
    (b = false → Wout cls d σ H)
section
variable {X : Cx} {x n : Str} {c : Value} {i : Nat} {body suite : List Stmt} {b₀ : Stmt} {np pos pos' : Pos} {tb : WX → TS} {ts : Addr → Value → Option Addr → TS} {Wout : WX}
theorem ps_try_keep (hs : X.stack = X.env :: X.outer) (hf : X.env.frame = some X.env.locals) (hN : X.N.Nodup) (hi : X.N[i]? = some n) (hln : X.env.kindOf n = some .local) (hex : X.ex = []) (hc : Names X x c) (tk : Takes X Wout)
    (hb : ∀ (W : WX) (pn : List (Addr × Obj)) (xe : Value → Shared → Prop), Takes (X.tr pn xe) W → PassesOwn (model X.prog X.w) X.A X.env xe → PSs (X.tr pn xe) body (tb W))
    (hsu : ∀ (a : Addr) (oe : Obj) (cls : Value) (d : Option Addr) (pn : List (Addr × Obj)), Zc cls d oe → (∃ vs, oe.data = .fields vs) → PSs (X.suite a ((a, oe) :: pn)) (b₀ :: suite) (ts a cls d)) :
    PS X (.Try body [.ExceptHandler (some (.Name x np)) (some n) (b₀ :: suite) pos'] [] [] pos) (fun D σ H => tb (wKeep X.K c i ts Wout D) D σ H) := by
  refine ⟨fun pins s σ H D I h => ?_⟩
  have ok := I.ok
  have hfr : X.A.frames = some (X.env :: X.outer) := by rw [ok.frames, hs]
  have hloc : Loc X.env.scope n := .inl hln
  refine wpAny_Try_except ?_
  refine wpAny_mono ((hb (wKeep X.K c i ts Wout D) (X.pn ++ pins) (fun e s₁ => wpAny (model X.prog X.w) X.A (noteFrame e X.env) (fun _ s₂ => wpAny (model X.prog X.w) X.A (setFlight e none) (fun _ s₃ =>
    wpAny (model X.prog X.w) X.A (handleBy e X.env [.ExceptHandler (some (.Name x np)) (some n) (b₀ :: suite) pos']) (SP X pins D) X.xe s₃) X.xe s₂) X.xe s₁) (fun u s' xx => ?_) PassesOwn.looking).run [] s σ H D (I.toTry _) h) (fun f s1 hsp => ?_) (fun e s1 he => he)
  · -- the catch
    obtain ⟨a, B, sI, pins', σ', H', cls, d, rfl, J', nb, up, sky, na, os, ag, b, hb1, hyes, hno⟩ := xx
    have J : Inv X pins σ' H' sI := J'.ofTry ok
    have sky' : Sky B (X.env :: X.outer) a (Zc cls d) X.env.locals s'.heap := by rw [← hs]; exact sky
    show wpAny (model X.prog X.w) X.A (noteFrame (.ref a) X.env) _ _ _
    refine Sky.land Zc.steady hfr hf sky' fun h3 fl3 up3 => ?_
    have J3 : Inv X pins σ' H' { s' with heap := h3 } := J.landed nb fl3.1 (up.trans up3) os ag
    obtain ⟨oe3, vs3, he3, hz3, hd3⟩ := fl3.there
    have notFr : ∀ {h : Heap} {o : Obj} {vs : Array Value}, h.FunFrames B (X.env :: X.outer) → h.get? a = some o → o.data = .fields vs → a ∉ frs (X.env :: X.outer) := fun {h o vs} ff e dd hm => by
      obtain ⟨_, o', e', hnf⟩ := ff.mem hm
      rw [e] at e'; cases e'
      exact hnf _ dd
    have nfr := notFr fl3.2.2.1 he3 hd3
    have nL : a ≠ X.env.locals := fun z => nfr (List.mem_filterMap.mpr ⟨X.env, List.mem_cons_self, by rw [hf, z]⟩)
    have nF : a ∉ X.fs := fun hm => by
      obtain ⟨e, he, q⟩ := List.mem_filterMap.mp hm
      exact nfr (List.mem_filterMap.mpr ⟨e, List.mem_cons_of_mem _ he, q⟩)
    have nst : a ∉ frs X.stack := by rw [hs]; exact nfr
    have nI : sI.heap.get? a = none := by
      cases e : sI.heap.get? a with
      | none => rfl
      | some o =>
        have q := nb a o e nst
        rw [fl3.2.1] at q
        cases q
    have n0 : X.s_0.heap.get? a = none := by
      cases e : X.s_0.heap.get? a with
      | none => rfl
      | some o =>
        obtain ⟨o', q⟩ := J.base.there a o e (by rw [hex]; exact fun z => nomatch z)
        rw [nI] at q
        cases q
    have npp : ∀ p ∈ X.pn ++ pins, p.1 ≠ a := fun p hp z => by
      have q := (J.pin p hp).1
      rw [z, nI] at q
      cases q
    have S3 := J3.suite he3 hd3 na nL nF
    refine wpAny_handleBy_cons (codeAny_handlers_test ?_) (by intro q; cases q)
    have LT : PySem.W.Looks (model X.prog X.w) h3 (typeOf (.ref a)) cls := fun A Q E s k q => wpAny_typeOf_ref (k _ _ he3) (by rw [hz3.1]; exact q)
    have LM := PySem.W.exm_one (M := model X.prog X.w) (J3.kIn) LT hb1
    have test : ∀ {Q : Value → Shared → Prop} {E : Value → Shared → Prop}, Q c { s' with heap := h3 } → wpAny (model X.prog X.w) (X.A.mark (some (.ref a))) (eval (.Name x np) X.env) Q E { s' with heap := h3 } := fun {Q E} q => by
      obtain ⟨hg, hdbg, hm | ⟨hm, hv, hnn⟩⟩ := hc
      · exact ld_glob (X := X.suite a ((a, oe3) :: (X.pn ++ pins))) S3 hg hm q hdbg
      · exact ld_blt (X := X.suite a ((a, oe3) :: (X.pn ++ pins))) S3 hg hm hv q hnn hdbg
    refine test (LM.here ?_)
    cases b with
    | true =>
      refine codeAny_handlers_suite_as ?_
      refine HandSPX.lands_againZ fl3 fun h4 fl4 up4 => ?_
      have J4 : Inv X pins σ' H' { s' with heap := h4 } := J.landed nb fl4.1 ((up.trans up3).trans up4) os ag
      obtain ⟨oe4, vs4, he4, hz4, hd4⟩ := fl4.there
      have S4 := J4.suite he4 hd4 na nL nF
      refine store_ok (X := X.suite a ((a, oe4) :: (X.pn ++ pins))) (v := .ref a) S4 hN hi hloc rfl (fun s5 S5 => ?_) (.inr hln)
      refine wpAny_mono ((hsu a oe4 cls d (X.pn ++ pins) hz4 ⟨_, hd4⟩).run [] s5 _ H' _ S5 (hyes rfl a na)) (fun f s6 hsp => ?_) (fun _ _ z => False.elim z)
      have end_ : ∀ {σ6 : L2.St} {H6 : Hp} {Q : Shared → Prop}, Inv (X.suite a ((a, oe4) :: (X.pn ++ pins))) [] σ6 H6 s6 → (∀ s7, Inv X pins (σ6.set i none) (upd H6 a (ExV cls d a)) s7 → Q s7) →
          wpAny (model X.prog X.w) X.A (do bindName X.env n .none; unbindBehindTheSuite X.env n pos') (fun _ s7 => Q s7) X.xe s6 := fun {σ6 H6 Q} S6 hq =>
        gone_ok (X := X.suite a ((a, oe4) :: (X.pn ++ pins))) S6 hN hi hln fun s7 S7 => hq s7 (Inv.keepX ok S7 n0 npp hz4 hd4)
      cases f with
      | next =>
        obtain ⟨σ6, H6, S6, q6⟩ := hsp
        exact end_ S6 fun s7 J7 => ⟨_, _, J7, q6⟩
      | brk =>
        obtain ⟨σ6, H6, S6, q6⟩ := hsp
        exact end_ S6 fun s7 J7 => ⟨_, _, J7, q6⟩
      | cont =>
        obtain ⟨σ6, H6, S6, q6⟩ := hsp
        exact end_ S6 fun s7 J7 => ⟨_, _, J7, q6⟩
      | ret u =>
        obtain ⟨v6, σ6, H6, S6, r6, q6⟩ := hsp
        exact end_ S6 fun s7 J7 => ⟨_, _, _, J7, r6, q6⟩
    | false =>
      show wpAny _ X.A (handleBy (.ref a) X.env []) _ _ _
      refine wpAny_handleBy_nil ?_
      obtain ⟨k1, k2, k3, oe, vs, T, oT, ts', he, hz, hd, h1, hr⟩ := id fl3
      unfold PySem.passOn
      refine wpAny_bind (wpAny_field he hd h1 ?_)
      rw [if_neg (show ¬ ((Value.ref T == Value.none) = true) from by simp)]
      have fin : wpAny (model X.prog X.w) X.A (setFlight (.ref a) X.env.frame) (fun _ s4 => wpAny (model X.prog X.w) X.A (throw (.ref a) : Sem Flow) (SP X pins D) X.xe s4) X.xe { s' with heap := h3 } := by
        rw [hf]
        refine HandSPX.setFlight_upZ fl3 fun h4 hh4 up4 => wpAny_throw (tk _ _ ?_)
        exact ⟨a, B, sI, pins, σ', H', cls, d, rfl, J, nb, (up.trans up3).trans up4, .inr (.inr (by rw [hs]; exact hh4)), na, os, ag, hno rfl⟩
      first
        | exact wpAny_bind (wpAny_pure (wpAny_bind fin))
        | exact wpAny_bind fin
  · cases f with
    | next =>
      obtain ⟨σ', H', J', q⟩ := hsp
      exact wpAny_execs_nil ⟨σ', H', J'.ofTry ok, q⟩
    | brk =>
      obtain ⟨σ', H', J', q⟩ := hsp
      exact ⟨σ', H', J'.ofTry ok, q⟩
    | cont =>
      obtain ⟨σ', H', J', q⟩ := hsp
      exact ⟨σ', H', J'.ofTry ok, q⟩
    | ret u =>
      obtain ⟨v, σ', H', J', r, q⟩ := hsp
      exact ⟨v, σ', H', J'.ofTry ok, r, q⟩
end
/-! ### isinstance and fields of a kept error -/
/-- a kept error of the class at D, its fields fs -/
structure ExcAt (H : Hp) (a D : Addr) (d : Option Addr) (fs : List (Str × V)) : Prop where
  at_ : H a = some (ExV (.ref D) d a)
  dic : (d = none ∧ fs = []) ∨ ∃ dd, d = some dd ∧ H dd = some (.xd fs)
theorem ExcAt.same {H H' : Hp} {a D : Addr} {d : Option Addr} {fs : List (Str × V)} (h : ExcAt H a D d fs) (s : Same H H') : ExcAt H' a D d fs :=
  ⟨s _ _ h.at_, h.dic.imp id fun ⟨dd, e, q⟩ => ⟨dd, e, s _ _ q⟩⟩
theorem ExcAt.inst {X : Cx} {pins : List (Addr × Obj)} {σ : L2.St} {H : Hp} {s : Shared} {a D : Addr} {d : Option Addr} {fs : List (Str × V)} (I : Inv X pins σ H s) (h : ExcAt H a D d fs) : ∃ oe od, PySem.W.InstAt s.heap a oe D od := by
  have ho : ObjOk X.prog X.w H s.heap a (ExV (.ref D) d a) := I.hok a _ h.at_
  obtain ⟨⟨oe, vs, hget, hz, hv⟩, _⟩ := ho
  rcases h.dic with ⟨rfl, _⟩ | ⟨dd, rfl, hdd⟩
  · refine ⟨oe, none, ?_⟩
    obtain ⟨oc, od, oda, osl⟩ := oe
    obtain ⟨h1, h2⟩ := hz
    dsimp only at h1 h2 hv
    subst h1 h2 hv
    exact ⟨hget, rfl, rfl, trivial⟩
  · have hx : ObjOk X.prog X.w H s.heap dd (.xd fs) := I.hok dd _ hdd
    obtain ⟨mA, hns, _⟩ := hx
    obtain ⟨od, ho, _⟩ := lookIn_ns hns
    exact ⟨oe, some od, ⟨hget, hz.1, by unfold PySem.W.notCls; rw [hv] <;> rfl, by rw [hz.2]; exact ho⟩⟩
def rIsV (K : PySem.W.Frag) : List V → Hp → VK → Prop := fun xs H Q => ∃ (a D : Addr) (d : Option Addr) (fs : List (Str × V)) (c : V) (cv : Value) (b : Bool), xs = [.ref a, c] ∧ ExcAt H a D d fs ∧ XcC K D ∧
  (∀ u, RelV c u → u = cv) ∧ PySem.W.kitOne K (.ref D) cv = some b ∧ Q (.bl b) H
theorem call_isV {X : Cx} : CallR X (.builtin "isinstance") (rIsV X.K) := by
  intro pins s σ H xs us Q I r h
  obtain ⟨a, D, d, fs, c, cv, b, rfl, hx, C, hcv, e, q⟩ := h
  cases r with
  | cons rx rr =>
    cases rr with
    | cons rt rr =>
      cases rr
      cases rx
      have e1 := hcv _ rt
      subst e1
      obtain ⟨oe, od, J⟩ := hx.inst I
      exact PySem.W.kia_one (PySem.W.kitx_exc C.ic C.xf.ga C.xf.gg C.xf.exC C.ca C.cg C.ct C.cm) I.kIn J e (fun z => nomatch z) fun tk => ⟨.bl b, H, I.kept (t' := tk) fun _ _ z => z, rfl, q⟩
def tXv (K : PySem.W.Frag) (f : Str) (te : TE) : TE := fun σ H Q => te σ H fun x H1 => ∃ (a D dd : Addr) (fs : List (Str × V)) (v : V), x = .ref a ∧ ExcAt H1 a D (some dd) fs ∧ XfC K D ∧ PySem.W.findIn K (.ref D) f = some none ∧ fs.lookup f = some v ∧ Q v H1
theorem pe_xv {X : Cx} {e : Expr} {te : TE} {pos : Pos} {n : Str} (he : PE X e te) (hb : attributeBase e n X.env (eval e X.env) = eval e X.env := by rfl) :
    PE X (.Attribute e n pos) (tXv X.K n te) := by
  refine ⟨fun pins s σ H Q I h => ?_⟩
  refine attr_of hb (thn (he.run pins s σ H _ I h) fun u s1 hh => ?_)
  obtain ⟨x, H1, I1, rx, a, D, dd, fs, v, ex, hx, T, hno, l, q⟩ := hh
  subst ex
  obtain rfl : u = Value.ref a := rx
  have ho : ObjOk X.prog X.w H1 s1.heap a (ExV (.ref D) (some dd) a) := I1.hok a _ hx.at_
  obtain ⟨⟨oe, vs, hget, hz, hv⟩, _⟩ := ho
  obtain ⟨dd', ed, hdd⟩ : ∃ dd', some dd = some dd' ∧ H1 dd' = some (.xd fs) := by
    rcases hx.dic with ⟨z, _⟩ | z
    · cases z
    · exact z
  cases ed
  have hx2 : ObjOk X.prog X.w H1 s1.heap dd (.xd fs) := I1.hok dd _ hdd
  obtain ⟨mA, hns, hr⟩ := hx2
  obtain ⟨od, ho, hl⟩ := lookIn_ns hns
  obtain ⟨u, hu, ru⟩ := RelO.some_of (v := v) (o := mA n) (by rw [← l]; exact hr n)
  have J : PySem.W.InstAt s1.heap a oe D (some od) := ⟨hget, hz.1, by unfold PySem.W.notCls; rw [hv] <;> rfl, by rw [hz.2]; exact ho⟩
  exact HandSPX.exc_get I1.kIn J T.ga T.gg T.exC (PySem.W.findObj_own T.hdC hno rfl (by rw [hl, hu])) (handed_of ru) ⟨v, H1, I1.tok _, ru, q⟩
/-! ### methods without arguments that may raise -/
section
variable {X : Cx} {k : Nat} {sp : Sp} {pos apos : Pos} {C : Addr} {m : Str} {o : Expr} {ta : TE} {W : WX}
theorem pe_metX0 {pl : Sem Bool} (F : Met X.prog X.w X.K X.mg X.base (L2.CX X.prog X.w) k C m sp) (ho : PE X o ta) (hr : Room k X.A) (tk : Takes X W)
    (hc : eval (.Call (.Attribute o m apos) [] [] pos) X.env = (do
      let ov ← eval o X.env
      standAt apos.atName
      let (f, first) ← holding [ov] (getMethod ov m pl)
      callWith pos f first (backTo pos (starEach [] X.env)) (backToKw pos (keywordEach [] X.env))) := by rfl) :
    PE X (.Call (.Attribute o m apos) [] [] pos) (fun σ H Q => ta σ H fun x H1 => ∃ a dx fs, x = .ref a ∧ H1 a = some (.ins C dx fs) ∧ fs.lookup m = none ∧ sp [x] H1 Q (WE W σ)) := by
  obtain ⟨f, fd, ps, G, mt, b⟩ := F.ex
  constructor
  intro pins s σ H Q I h
  refine PySem.W.methodCall_KW (pl := pl) (thn (ho.run pins s σ H _ I h) ?_) hc
  rintro u s1 ⟨v, H1, I1, rv, a, dx, fs, ev, ea, hl, q⟩
  subst ev
  obtain rfl : u = Value.ref a := rv
  refine getmeth_ok I1 ea F.cl mt hl ?_
  exact PySem.W.callWith_K0 (first := [.ref a]) I1.kIn mt.kp (run_fnS (us := [.ref a]) (vs := [.ref a]) G hr b (passAt tk σ) I1 (.cons rfl .nil) q)
theorem pe_metL0 {pl : Sem Bool} (F : Met X.prog X.w X.K X.mg X.base (L2.CX X.prog X.w) k C m sp) (ho : PE X o ta) (hr : Room k X.A)
    (hc : eval (.Call (.Attribute o m apos) [] [] pos) X.env = (do
      let ov ← eval o X.env
      standAt apos.atName
      let (f, first) ← holding [ov] (getMethod ov m pl)
      callWith pos f first (backTo pos (starEach [] X.env)) (backToKw pos (keywordEach [] X.env))) := by rfl) :
    PE X (.Call (.Attribute o m apos) [] [] pos) (fun σ H Q => ta σ H fun x H1 => ∃ a dx fs, x = .ref a ∧ H1 a = some (.ins C dx fs) ∧ fs.lookup m = none ∧ sp [x] H1 Q E0) := by
  obtain ⟨f, fd, ps, G, mt, b⟩ := F.ex
  have z := pe_meth0 (apos := apos) (pos := pos) ho F.cl mt G hr b .nil passL hc
  exact ⟨fun pins s σ H Q I h => z.run pins s σ H Q I h⟩
end
end Jr
namespace Jr
open PySem PySem.Spec PyProof.Rows L2
section
variable {P : Program} {w : World} {K : PySem.W.Frag} {mg : Str → Option Value} {base : Heap}
def spRefusal (K : PySem.W.Frag) : Sp := fun vs H Q _ => ∃ (a D : Addr) (d : Option Addr) (fs : List (Str × V)) (k : Nat), vs = [.ref a] ∧ ExcAt H a D d fs ∧ KindC K D k ∧ k < 13 ∧ ∀ H' q, Same H H' → H q = none → H' q = some (.lst [.int (k : Nat)]) → Q (.ref q) H'
theorem cal__law_refusal (T : Tx K mg) : Cal P w K mg base CX0 1 "_law_refusal" (spRefusal K) := by
  obtain ⟨fd, F⟩ := T.d__law_refusal
  refine ⟨_, fd, P__law_refusal, F.ok sc__law_refusal (fun vs H Q E h => ?_) (fun cdv A outer s H vs Q E hr h => ?_), T.g__law_refusal, F.kp, F.bindsN (ps := P__law_refusal) fun _ _ _ _ _ _ us hl => match us, hl with | [_], _ => rfl⟩
  · obtain ⟨a, D, d, fs, k, rfl, _⟩ := h
    rfl
  · obtain ⟨a, D, d, fs, kk, rfl, hx, kc, kl, k⟩ := h
    refine ⟨_, (PSs.nox (pss_cons (ps_if (PW.pt (pw_or (pt_not (pt_val (pe_callB (id := "isinstance") call_isV (by rfl) T.n_isinstance (by decide +kernel) (pa_cons (pv 0) (pa_cons (pe_glob (v := .ref (He.ga K "JoinError")) (by rfl) T.g_JoinError rfl) pa_nil))))) (pw_or1 (pt_not (pt_val (pe_callB (id := "isinstance") call_isV (by rfl) T.n_isinstance (by decide +kernel) (pa_cons (pv 0) (pa_cons (pe_bltn (v := .ty "ValueError") (by rfl) T.n_ValueError (by decide +kernel) rfl) pa_nil)))))))) (pss_one (ps_ret (pe_lstG pa_nil))) pss_nil)
      (pss_cons (ps_set (i := 1) sc__law_refusal.nd rfl (Or.inr rfl) (pe_lstG (pa_cons (pe_callB (id := "isinstance") call_isV (by rfl) T.n_isinstance (by decide +kernel) (pa_cons (pv 0) (pa_cons (pe_glob (v := .ref (He.ga K "NoTable")) (by rfl) T.g_NoTable rfl) pa_nil))) (pa_cons (pe_callB (id := "isinstance") call_isV (by rfl) T.n_isinstance (by decide +kernel) (pa_cons (pv 0) (pa_cons (pe_glob (v := .ref (He.ga K "NoGrammar")) (by rfl) T.g_NoGrammar rfl) pa_nil))) (pa_cons (pe_callB (id := "isinstance") call_isV (by rfl) T.n_isinstance (by decide +kernel) (pa_cons (pv 0) (pa_cons (pe_glob (v := .ref (He.ga K "NoCutting")) (by rfl) T.g_NoCutting rfl) pa_nil))) pa_nil)))))
      (pss_cons (ps_set (i := 1) sc__law_refusal.nd rfl (Or.inr rfl) (pe_op op_catG (pv 1) (pe_lstG (pa_cons (pe_callB (id := "isinstance") call_isV (by rfl) T.n_isinstance (by decide +kernel) (pa_cons (pv 0) (pa_cons (pe_glob (v := .ref (He.ga K "NoSign")) (by rfl) T.g_NoSign rfl) pa_nil))) (pa_cons (pe_callB (id := "isinstance") call_isV (by rfl) T.n_isinstance (by decide +kernel) (pa_cons (pv 0) (pa_cons (pe_glob (v := .ref (He.ga K "NoPiece")) (by rfl) T.g_NoPiece rfl) pa_nil))) (pa_cons (pe_callB (id := "isinstance") call_isV (by rfl) T.n_isinstance (by decide +kernel) (pa_cons (pv 0) (pa_cons (pe_glob (v := .ref (He.ga K "NoNumber")) (by rfl) T.g_NoNumber rfl) pa_nil))) pa_nil))))))
      (pss_cons (ps_set (i := 1) sc__law_refusal.nd rfl (Or.inr rfl) (pe_op op_catG (pv 1) (pe_lstG (pa_cons (pe_callB (id := "isinstance") call_isV (by rfl) T.n_isinstance (by decide +kernel) (pa_cons (pv 0) (pa_cons (pe_glob (v := .ref (He.ga K "NoCount")) (by rfl) T.g_NoCount rfl) pa_nil))) (pa_cons (pe_callB (id := "isinstance") call_isV (by rfl) T.n_isinstance (by decide +kernel) (pa_cons (pv 0) (pa_cons (pe_glob (v := .ref (He.ga K "NoText")) (by rfl) T.g_NoText rfl) pa_nil))) (pa_cons (pe_callB (id := "isinstance") call_isV (by rfl) T.n_isinstance (by decide +kernel) (pa_cons (pv 0) (pa_cons (pe_glob (v := .ref (He.ga K "NoPlace")) (by rfl) T.g_NoPlace rfl) pa_nil))) pa_nil))))))
      (pss_cons (ps_set (i := 1) sc__law_refusal.nd rfl (Or.inr rfl) (pe_op op_catG (pv 1) (pe_lstG (pa_cons (pe_callB (id := "isinstance") call_isV (by rfl) T.n_isinstance (by decide +kernel) (pa_cons (pv 0) (pa_cons (pe_glob (v := .ref (He.ga K "NoLead")) (by rfl) T.g_NoLead rfl) pa_nil))) (pa_cons (pe_callB (id := "isinstance") call_isV (by rfl) T.n_isinstance (by decide +kernel) (pa_cons (pv 0) (pa_cons (pe_glob (v := .ref (He.ga K "NoDeed")) (by rfl) T.g_NoDeed rfl) pa_nil))) (pa_cons (pe_callB (id := "isinstance") call_isV (by rfl) T.n_isinstance (by decide +kernel) (pa_cons (pv 0) (pa_cons (pe_glob (v := .ref (He.ga K "NoRow")) (by rfl) T.g_NoRow rfl) pa_nil))) pa_nil))))))
      (pss_cons (ps_set (i := 1) sc__law_refusal.nd rfl (Or.inr rfl) (pe_op op_catG (pv 1) (pe_lstG (pa_cons (pe_callB (id := "isinstance") call_isV (by rfl) T.n_isinstance (by decide +kernel) (pa_cons (pv 0) (pa_cons (pe_glob (v := .ref (He.ga K "NoName")) (by rfl) T.g_NoName rfl) pa_nil))) pa_nil))))
      (pss_one (ps_ret (pe_lc (own := [("_law_k", 2)]) (g := gName 2) (by rfl) sc__law_refusal.nd (pi_range1 (by rfl) T.n_range (pa_cons pe_int pa_nil)) (blkOk_by (own := [("_law_k", 2)]) (N := N__law_refusal) (sc := defScope s__law_refusal) (by decide +kernel)) (fun _ _ _ _ _ => (pg_name (i := 2) sc__law_refusal.nd rfl (Or.inl rfl))) (fun _ _ _ _ _ => (pts_one (pt_val (pe_ix (ix_listK (K := K)) (pv 1) (pv 2) (fun _ _ => rfl))))) (fun _ _ _ _ _ => (pv 2)))))))))))), ?_⟩
    refine ⟨_, rfl, a, D, d, fs, _, _, _, rfl, hx, kc.xc, fun _ r => r, kc.je, _, rfl, iteF ?_⟩
    refine ⟨_, rfl, a, D, d, fs, _, _, _, rfl, hx, kc.xc, fun _ r => r, kc.ve, _, rfl, iteF ?_⟩
    have kind : ∀ {H' : Hp}, Same H H' → ExcAt H' a D d fs := fun s => hx.same s
    refine ⟨_, rfl, a, D, d, fs, _, _, _, rfl, kind (Same.refl _), kc.xc, fun _ r => r, kc.k0, _, rfl, a, D, d, fs, _, _, _, rfl, kind (Same.refl _), kc.xc, fun _ r => r, kc.k1, _, rfl, a, D, d, fs, _, _, _, rfl, kind (Same.refl _), kc.xc, fun _ r => r, kc.k2, (by show 3 ≤ sizeLine; decide), fun q0 H0 n0 s0 h0 => ?_⟩
    refine ⟨_, rfl, _, rfl, a, D, d, fs, _, _, _, rfl, kind s0, kc.xc, fun _ r => r, kc.k3, _, rfl, a, D, d, fs, _, _, _, rfl, kind s0, kc.xc, fun _ r => r, kc.k4, _, rfl, a, D, d, fs, _, _, _, rfl, kind s0, kc.xc, fun _ r => r, kc.k5, (by show 3 ≤ sizeLine; decide), fun p1 G1 m1 r1 g1 => ?_⟩
    refine ⟨q0, p1, _, _, rfl, rfl, SqL.of (r1 _ _ h0), SqL.of g1, (by show 3 + 3 ≤ sizeLine; decide), fun q1 H1 n1 t1 h1 => ?_⟩
    have s1 := (s0.trans r1).trans t1
    refine ⟨_, rfl, _, rfl, a, D, d, fs, _, _, _, rfl, kind s1, kc.xc, fun _ r => r, kc.k6, _, rfl, a, D, d, fs, _, _, _, rfl, kind s1, kc.xc, fun _ r => r, kc.k7, _, rfl, a, D, d, fs, _, _, _, rfl, kind s1, kc.xc, fun _ r => r, kc.k8, (by show 3 ≤ sizeLine; decide), fun p2 G2 m2 r2 g2 => ?_⟩
    refine ⟨q1, p2, _, _, rfl, rfl, SqL.of (r2 _ _ h1), SqL.of g2, (by show 6 + 3 ≤ sizeLine; decide), fun q2 H2 n2 t2 h2 => ?_⟩
    have s2 := (s1.trans r2).trans t2
    refine ⟨_, rfl, _, rfl, a, D, d, fs, _, _, _, rfl, kind s2, kc.xc, fun _ r => r, kc.k9, _, rfl, a, D, d, fs, _, _, _, rfl, kind s2, kc.xc, fun _ r => r, kc.k10, _, rfl, a, D, d, fs, _, _, _, rfl, kind s2, kc.xc, fun _ r => r, kc.k11, (by show 3 ≤ sizeLine; decide), fun p3 G3 m3 r3 g3 => ?_⟩
    refine ⟨q2, p3, _, _, rfl, rfl, SqL.of (r3 _ _ h2), SqL.of g3, (by show 9 + 3 ≤ sizeLine; decide), fun q3 H3 n3 t3 h3 => ?_⟩
    have s3 := (s2.trans r3).trans t3
    refine ⟨_, rfl, _, rfl, a, D, d, fs, _, _, _, rfl, kind s3, kc.xc, fun _ r => r, kc.k12, (by show 1 ≤ sizeLine; decide), fun p4 G4 m4 r4 g4 => ?_⟩
    refine ⟨q3, p4, _, _, rfl, rfl, SqL.of (r4 _ _ h3), SqL.of g4, (by show 12 + 1 ≤ sizeLine; decide), fun q4 H4 n4 t4 h4 => ?_⟩
    have s4 := (s3.trans r4).trans t4
    have h4 : H4 q4 = some (.lst ((List.range 13).map fun i => V.bl (decide (i = kk)))) := h4
    refine ⟨_, rfl, by decide, by decide, fun Dd hDd => lc_rangeM (n := 13) (lo := 0) (p := fun i => decide (i = kk)) (f := fun i : Nat => V.int (0 + (i : Int))) hDd (by decide) (fun i hi H' s' N M hM hN => ?_) (fun H5 s5 hL => ?_)⟩
    · have at_ : atI ((List.range 13).map fun i => V.bl (decide (i = kk))) (0 + (i : Int)) = some (V.bl (decide (i = kk))) := by
        rw [Int.zero_add]
        exact atm (f := fun i => V.bl (decide (i = kk))) (List.getElem?_range hi)
      refine ⟨rfl, _, rfl, _, rfl, q4, _, _, _, rfl, rfl, SqL.of (s' _ _ h4), at_, _, rfl, ?_⟩
      cases c : decide (i = kk) with
      | true => exact iteT ⟨_, rfl, hM c⟩
      | false => exact iteF (hN c)
    · have ef : (List.range 13).filter (fun i => decide (i = kk)) = [kk] := by
        have key : ∀ k : Nat, k < 13 → (List.range 13).filter (fun i => decide (i = k)) = [k] := by decide
        exact key kk kl
      rw [ef] at hL
      have hL' : H5 Dd = some (.lst [.int (kk : Nat)]) := by
        rw [hL]
        show some (HO.lst [V.int (0 + (kk : Int))]) = _
        rw [Int.zero_add]
      exact k _ Dd (s4.trans s5) (s4.free hDd) hL'
end
end Jr
namespace Jr
open PySem PySem.Spec PyProof.Rows L2
theorem eqFirst {k j : Int} {us : List V} : PyData.eqv (.list ((V.int k :: us).map fdV)) (.list (([j] : List Int).map PyData.int)) = decide (us = [] ∧ k = j) := by
  cases us with
  | nil =>
    by_cases h : k = j
    · subst h; simp [PyData.eqv, PyData.eqvAll, fdV]
    · simp [PyData.eqv, PyData.eqvAll, fdV, h]
  | cons u us => simp [PyData.eqv, PyData.eqvAll, fdV]
/-- what is seen of an error besides its kind -/
def SeenF (K : PySem.W.Frag) (D : Addr) (k : Nat) (fs : List (Str × V)) (us : List V) : Prop :=
  (8 ≤ k ∧ us = []) ∨ ((k = 3 ∨ k = 4 ∨ k = 5) ∧ XfC K D ∧ ∃ u, us = [u] ∧ PySem.W.findIn K (.ref D) "place" = some none ∧ fs.lookup ("place" : Str) = some u) ∨
  ((k = 0 ∨ k = 1) ∧ XfC K D ∧ ∃ p n, us = [p, n] ∧ PySem.W.findIn K (.ref D) "part" = some none ∧ fs.lookup ("part" : Str) = some p ∧ PySem.W.findIn K (.ref D) "number" = some none ∧ fs.lookup ("number" : Str) = some n) ∨
  (k = 2 ∧ XfC K D ∧ ∃ p n, us = [p, n] ∧ PySem.W.findIn K (.ref D) "kind" = some none ∧ fs.lookup ("kind" : Str) = some p ∧ PySem.W.findIn K (.ref D) "place" = some none ∧ fs.lookup ("place" : Str) = some n) ∨
  (k = 6 ∧ XfC K D ∧ ∃ u, us = [u] ∧ PySem.W.findIn K (.ref D) "number" = some none ∧ fs.lookup ("number" : Str) = some u) ∨
  (k = 7 ∧ XfC K D ∧ ∃ u, us = [u] ∧ PySem.W.findIn K (.ref D) "row" = some none ∧ fs.lookup ("row" : Str) = some u)
def NoBl : V → Prop
  | .non => True
  | .int _ => True
  | .str _ => True
  | _ => False
theorem NoBl.ty {K : PySem.W.Frag} {H : Hp} {v : V} (h : NoBl v) : ∃ t, TyX K H v t ∧ PySem.W.kitOne K t (.type "bool") = some false := by
  cases v with
  | non => exact ⟨_, .base .non, kit_ty (by decide +kernel)⟩
  | int i => exact ⟨_, .base (.int i), kit_ty (by decide +kernel)⟩
  | str z => exact ⟨_, .base (.str z), kit_ty (by decide +kernel)⟩
  | _ => cases h
section
variable {P : Program} {w : World} {K : PySem.W.Frag} {mg : Str → Option Value} {base : Heap}
def spSeen (K : PySem.W.Frag) : Sp := fun vs H Q _ => ∃ (a D : Addr) (d : Option Addr) (fs : List (Str × V)) (k : Nat) (us : List V), vs = [.ref a] ∧ ExcAt H a D d fs ∧ KindC K D k ∧ k < 13 ∧ SeenF K D k fs us ∧ (∀ u ∈ us, Fl u ∧ NoBl u) ∧
  ∀ H' q, Same H H' → H' q = some (.lst (.int (k : Nat) :: us)) → Q (.ref q) H'
/-- a test of what stays, whatever is made meanwhile -/
def BS (t : TT) (σ : L2.St) (H : Hp) (b : Bool) : Prop := ∀ H1, Same H H1 → ∀ R : Bool → Hp → Prop, (∀ H', Same H1 H' → R b H') → t σ H1 R
theorem BS.or {t u : TT} {σ : L2.St} {H : Hp} {b c : Bool} (h : BS t σ H b) (k : BS u σ H c) : BS (tOr t u) σ H (b || c) := fun H1 s1 R r => by
  refine h H1 s1 _ fun H2 s2 => ?_
  cases b with
  | true => exact iteT (r H2 s2)
  | false => exact iteF (k H2 (s1.trans s2) _ fun H3 s3 => r H3 (s2.trans s3))
theorem BS.eq1 {f : Addr} {kk : Nat} {vs : List V} {σ : L2.St} {H : Hp} (j : Int) (hs : σ[1]? = some (some (.ref f))) (hf : H f = some (.lst (.int (kk : Nat) :: vs))) (hv : ∀ u ∈ vs, Fl u) : BS (tTest (tOp (rEqD K) (tVar 1) (tInts [j]))) σ H (decide (vs = [] ∧ ((kk : Nat) : Int) = j)) := fun H1 s1 R r => by
  have flk : ∀ x ∈ V.int (kk : Nat) :: vs, Fl x := fun x hx => by
    rcases List.mem_cons.mp hx with rfl | hx
    · exact trivial
    · exact hv x hx
  refine ⟨_, hs, fun q H2 n2 s2 h2 => ⟨_, _, dpL (SqL.of (s2 _ _ (s1 _ _ hf))) flk, dpI (xs := [j]) (SqL.of h2), shL flk, shI _, _, rfl, ?_⟩⟩
  have e : PyData.eqv (.list ((V.int (kk : Nat) :: vs).map fdV)) (dI [j]) = decide (vs = [] ∧ ((kk : Nat) : Int) = j) := eqFirst
  show R (PyData.eqv (.list ((V.int (kk : Nat) :: vs).map fdV)) (dI [j])) H2
  rw [e]
  exact r H2 s2
theorem cal__law_seen (T : Tx K mg) : Cal P w K mg base CX0 2 "_law_seen" (spSeen K) := by
  have C__law_refusal := cal__law_refusal (P := P) (w := w) (base := base) T
  obtain ⟨fd, F⟩ := T.d__law_seen
  refine ⟨_, fd, P__law_seen, F.ok sc__law_seen (fun vs H Q E h => ?_) (fun cdv A outer s H vs Q E hr h => ?_), T.g__law_seen, F.kp, F.bindsN (ps := P__law_seen) fun _ _ _ _ _ _ us hl => match us, hl with | [_], _ => rfl⟩
  · obtain ⟨a, D, d, fs, k, us, rfl, _⟩ := h
    rfl
  · obtain ⟨a, D, d, fs, kk, us, rfl, hx, kc, kl, sf, fl, k⟩ := h
    refine ⟨_, (PSs.nox (pss_cons (ps_set (i := 1) sc__law_seen.nd rfl (Or.inl rfl) (pe_cal C__law_refusal (by first | exact hr | exact hr.mono (by decide)) (by rfl) (pa_cons (pv 0) pa_nil)))
      (C8.pss_cut (ps_if (PW.pt (pw_or (pt_cmpR (op_eqD hr.units) (pv 1) (pe_intsAs (ns := [0]) (pe_litI (ns := [0]) (pe_lst (pa_cons pe_int pa_nil)) (fun _ _ _ => rfl) (by decide)) (by decide)) (nomark _)) (pw_or1 (pt_cmpR (op_eqD hr.units) (pv 1) (pe_intsAs (ns := [1]) (pe_litI (ns := [1]) (pe_lst (pa_cons pe_int pa_nil)) (fun _ _ _ => rfl) (by decide)) (by decide)) (nomark _))))) (pss_one (ps_set (i := 1) sc__law_seen.nd rfl (Or.inl rfl) (pe_op op_catG (pv 1) (pe_lstG (pa_cons (pe_xv (pv 0)) (pa_cons (pe_xv (pv 0)) pa_nil)))))) pss_nil)
      (C8.pss_cut (ps_if (pt_cmpR (op_eqD hr.units) (pv 1) (pe_intsAs (ns := [2]) (pe_litI (ns := [2]) (pe_lst (pa_cons pe_int pa_nil)) (fun _ _ _ => rfl) (by decide)) (by decide)) (nomark _)) (pss_one (ps_set (i := 1) sc__law_seen.nd rfl (Or.inl rfl) (pe_op op_catG (pv 1) (pe_lstG (pa_cons (pe_xv (pv 0)) (pa_cons (pe_xv (pv 0)) pa_nil)))))) pss_nil)
      (C8.pss_cut (ps_if (PW.pt (pw_or (pt_cmpR (op_eqD hr.units) (pv 1) (pe_intsAs (ns := [3]) (pe_litI (ns := [3]) (pe_lst (pa_cons pe_int pa_nil)) (fun _ _ _ => rfl) (by decide)) (by decide)) (nomark _)) (pw_or (pt_cmpR (op_eqD hr.units) (pv 1) (pe_intsAs (ns := [4]) (pe_litI (ns := [4]) (pe_lst (pa_cons pe_int pa_nil)) (fun _ _ _ => rfl) (by decide)) (by decide)) (nomark _)) (pw_or1 (pt_cmpR (op_eqD hr.units) (pv 1) (pe_intsAs (ns := [5]) (pe_litI (ns := [5]) (pe_lst (pa_cons pe_int pa_nil)) (fun _ _ _ => rfl) (by decide)) (by decide)) (nomark _)))))) (pss_one (ps_set (i := 1) sc__law_seen.nd rfl (Or.inl rfl) (pe_op op_catG (pv 1) (pe_lstG (pa_cons (pe_xv (pv 0)) pa_nil))))) pss_nil)
      (C8.pss_cut (ps_if (pt_cmpR (op_eqD hr.units) (pv 1) (pe_intsAs (ns := [6]) (pe_litI (ns := [6]) (pe_lst (pa_cons pe_int pa_nil)) (fun _ _ _ => rfl) (by decide)) (by decide)) (nomark _)) (pss_one (ps_set (i := 1) sc__law_seen.nd rfl (Or.inl rfl) (pe_op op_catG (pv 1) (pe_lstG (pa_cons (pe_xv (pv 0)) pa_nil))))) pss_nil)
      (C8.pss_cut (ps_if (pt_cmpR (op_eqD hr.units) (pv 1) (pe_intsAs (ns := [7]) (pe_litI (ns := [7]) (pe_lst (pa_cons pe_int pa_nil)) (fun _ _ _ => rfl) (by decide)) (by decide)) (nomark _)) (pss_one (ps_set (i := 1) sc__law_seen.nd rfl (Or.inl rfl) (pe_op op_catG (pv 1) (pe_lstG (pa_cons (pe_xv (pv 0)) pa_nil))))) pss_nil)
      (pss_cons (ps_if (PW.pt (pw_and (pt_cmpR (op_neD hr.units) (pv 1) (pe_lstG pa_nil) (nomark _)) (pw_and1 (pt_val (pe_callB (id := "isinstance") call_isi (by rfl) T.n_isinstance (by decide +kernel) (pa_cons (pe_ix ix_list (pv 1) (pe_un un_neg pe_int) (fun _ _ => rfl)) (pa_cons (pe_bltn (v := .ty "bool") (by rfl) T.n_bool (by decide +kernel) rfl) pa_nil))))))) (pss_one (ps_ret (pe_lstG pa_nil))) pss_nil)
      (pss_one (ps_ret (pv 1))))))))))), ?_⟩
    have ul : us.length ≤ 2 := by
      rcases sf with ⟨_, rfl⟩ | ⟨_, _, u, rfl, _⟩ | ⟨_, _, p, n, rfl, _⟩ | ⟨_, _, p, n, rfl, _⟩ | ⟨_, _, u, rfl, _⟩ | ⟨_, _, u, rfl, _⟩ <;> simp
    have fl1 : ∀ u ∈ us, Fl u := fun u hu => (fl u hu).1
    have fl0 : ∀ u ∈ ([] : List V), Fl u := fun u hu => by cases hu
    have hasd : ∀ {n : Str} {v : V}, fs.lookup n = some v → ∃ dd, d = some dd := fun {n v} h => by
      rcases hx.dic with ⟨_, rfl⟩ | ⟨dd, e, _⟩
      · cases h
      · exact ⟨dd, e⟩
    have fw : ∀ {m : Nat}, ∀ u ∈ (if kk ≤ m then us else []), Fl u := fun {m} u hu => by
      by_cases h : kk ≤ m
      · rw [if_pos h] at hu; exact fl1 u hu
      · rw [if_neg h] at hu; cases hu
    refine ⟨_, rfl, a, D, d, fs, kk, rfl, hx, kc, kl, fun H1 f s1 nf hf => ?_⟩
    refine ⟨fun σ H' => ∃ f : Addr, σ = [some (.ref a), some (.ref f)] ∧ Same H H' ∧ H' f = some (.lst (.int (kk : Nat) :: (if kk ≤ 1 then us else []))), ?_, ?_⟩
    · refine (BS.or (BS.eq1 0 rfl hf fl0) (BS.eq1 1 rfl hf fl0)) H1 (Same.refl _) _ fun H2 s2 => ?_
      refine ite2 (fun c0 => ?_) (fun c0 => ?_)
      · have k0 : kk ≤ 1 := by
          simp at c0; omega
        have sg : XfC K D ∧ ∃ p n, us = [p, n] ∧ PySem.W.findIn K (.ref D) "part" = some none ∧ fs.lookup ("part" : Str) = some p ∧ PySem.W.findIn K (.ref D) "number" = some none ∧ fs.lookup ("number" : Str) = some n := by
          rcases sf with h | h | h | h | h | h
          · omega
          · omega
          · exact h.2
          · omega
          · omega
          · omega
        obtain ⟨xf, p, n, rfl, e1, l1, e2, l2⟩ := sg
        obtain ⟨dd, rfl⟩ := hasd l1
        refine ⟨_, rfl, _, rfl, a, D, dd, fs, p, rfl, hx.same (s1.trans s2), xf, e1, l1, _, rfl, a, D, dd, fs, n, rfl, hx.same (s1.trans s2), xf, e2, l2, (by show 2 ≤ sizeLine; decide), fun q4 H4 n4 s4 h4 => ⟨f, q4, _, _, rfl, rfl, SqL.of ((s2.trans s4) _ _ hf), SqL.of h4, (by show 1 + 2 ≤ sizeLine; decide), fun q5 H5 n5 s5 h5 => ⟨q5, rfl, ((s1.trans s2).trans s4).trans s5, ?_⟩⟩⟩
        rw [if_pos k0]
        exact h5
      · have k0 : ¬ kk ≤ 1 := by
          simp at c0; omega
        refine ⟨f, rfl, s1.trans s2, ?_⟩
        rw [if_neg k0]
        exact s2 _ _ hf
    rintro σ H2 ⟨f2, rfl, s2, hf2⟩
    refine ⟨fun σ H' => ∃ f : Addr, σ = [some (.ref a), some (.ref f)] ∧ Same H H' ∧ H' f = some (.lst (.int (kk : Nat) :: (if kk ≤ 2 then us else []))), ?_, ?_⟩
    · refine (BS.eq1 2 rfl hf2 fw) H2 (Same.refl _) _ fun H3 s3 => ?_
      refine ite2 (fun c0 => ?_) (fun c0 => ⟨f2, rfl, s2.trans s3, ?_⟩)
      · have k0 : kk = 2 := by
          simp at c0; omega
        have sg : XfC K D ∧ ∃ p n, us = [p, n] ∧ PySem.W.findIn K (.ref D) "kind" = some none ∧ fs.lookup ("kind" : Str) = some p ∧ PySem.W.findIn K (.ref D) "place" = some none ∧ fs.lookup ("place" : Str) = some n := by
          rcases sf with h | h | h | h | h | h
          · omega
          · omega
          · omega
          · exact h.2
          · omega
          · omega
        obtain ⟨xf, p, n, rfl, e1, l1, e2, l2⟩ := sg
        obtain ⟨dd, rfl⟩ := hasd l1
        refine ⟨_, rfl, _, rfl, a, D, dd, fs, p, rfl, hx.same (s2.trans s3), xf, e1, l1, _, rfl, a, D, dd, fs, n, rfl, hx.same (s2.trans s3), xf, e2, l2, (by show 2 ≤ sizeLine; decide), fun q9 G5 n9 r5 h9 => ⟨f2, q9, _, _, rfl, rfl, SqL.of ((s3.trans r5) _ _ hf2), SqL.of h9, ?_, fun q8 G6 n8 r6 h6 => ⟨q8, rfl, ((s2.trans s3).trans r5).trans r6, ?_⟩⟩⟩
        · rw [if_neg (by omega)]
          show 1 + 2 ≤ sizeLine
          decide
        · rw [if_neg (by omega)] at h6
          rw [if_pos (by omega)]
          exact h6
      · rw [s3 _ _ hf2]
        have k0 : ¬ (kk = 2) := fun h => c0 (by
          first
            | (rcases h with h | h | h <;> · subst h; simp)
            | (subst h; simp))
        refine congrArg (fun l => some (HO.lst (V.int (kk : Nat) :: l))) ?_
        by_cases hk : kk ≤ 1
        · rw [if_pos hk, if_pos (by omega)]
        · by_cases hk2 : kk ≤ 2
          · omega
          · rw [if_neg hk, if_neg hk2]
    rintro σ H3 ⟨f3, rfl, s3, hf3⟩
    refine ⟨fun σ H' => ∃ f : Addr, σ = [some (.ref a), some (.ref f)] ∧ Same H H' ∧ H' f = some (.lst (.int (kk : Nat) :: (if kk ≤ 5 then us else []))), ?_, ?_⟩
    · refine (BS.or (BS.eq1 3 rfl hf3 fw) (BS.or (BS.eq1 4 rfl hf3 fw) (BS.eq1 5 rfl hf3 fw))) H3 (Same.refl _) _ fun H4 s4 => ?_
      refine ite2 (fun c0 => ?_) (fun c0 => ⟨f3, rfl, s3.trans s4, ?_⟩)
      · have k0 : kk = 3 ∨ kk = 4 ∨ kk = 5 := by
          simp at c0; omega
        have sg : XfC K D ∧ ∃ u, us = [u] ∧ PySem.W.findIn K (.ref D) "place" = some none ∧ fs.lookup ("place" : Str) = some u := by
          rcases sf with h | h | h | h | h | h
          · omega
          · exact h.2
          · omega
          · omega
          · omega
          · omega
        obtain ⟨xf, u, rfl, e1, l1⟩ := sg
        obtain ⟨dd, rfl⟩ := hasd l1
        refine ⟨_, rfl, _, rfl, a, D, dd, fs, u, rfl, hx.same (s3.trans s4), xf, e1, l1, (by show 1 ≤ sizeLine; decide), fun q9 G5 n9 r5 h9 => ⟨f3, q9, _, _, rfl, rfl, SqL.of ((s4.trans r5) _ _ hf3), SqL.of h9, ?_, fun q8 G6 n8 r6 h6 => ⟨q8, rfl, ((s3.trans s4).trans r5).trans r6, ?_⟩⟩⟩
        · rw [if_neg (by omega)]
          show 1 + 1 ≤ sizeLine
          decide
        · rw [if_neg (by omega)] at h6
          rw [if_pos (by omega)]
          exact h6
      · rw [s4 _ _ hf3]
        have k0 : ¬ (kk = 3 ∨ kk = 4 ∨ kk = 5) := fun h => c0 (by
          first
            | (rcases h with h | h | h <;> · subst h; simp)
            | (subst h; simp))
        refine congrArg (fun l => some (HO.lst (V.int (kk : Nat) :: l))) ?_
        by_cases hk : kk ≤ 2
        · rw [if_pos hk, if_pos (by omega)]
        · by_cases hk2 : kk ≤ 5
          · omega
          · rw [if_neg hk, if_neg hk2]
    rintro σ H4 ⟨f4, rfl, s4, hf4⟩
    refine ⟨fun σ H' => ∃ f : Addr, σ = [some (.ref a), some (.ref f)] ∧ Same H H' ∧ H' f = some (.lst (.int (kk : Nat) :: (if kk ≤ 6 then us else []))), ?_, ?_⟩
    · refine (BS.eq1 6 rfl hf4 fw) H4 (Same.refl _) _ fun H5 s5 => ?_
      refine ite2 (fun c0 => ?_) (fun c0 => ⟨f4, rfl, s4.trans s5, ?_⟩)
      · have k0 : kk = 6 := by
          simp at c0; omega
        have sg : XfC K D ∧ ∃ u, us = [u] ∧ PySem.W.findIn K (.ref D) "number" = some none ∧ fs.lookup ("number" : Str) = some u := by
          rcases sf with h | h | h | h | h | h
          · omega
          · omega
          · omega
          · omega
          · exact h.2
          · omega
        obtain ⟨xf, u, rfl, e1, l1⟩ := sg
        obtain ⟨dd, rfl⟩ := hasd l1
        refine ⟨_, rfl, _, rfl, a, D, dd, fs, u, rfl, hx.same (s4.trans s5), xf, e1, l1, (by show 1 ≤ sizeLine; decide), fun q9 G5 n9 r5 h9 => ⟨f4, q9, _, _, rfl, rfl, SqL.of ((s5.trans r5) _ _ hf4), SqL.of h9, ?_, fun q8 G6 n8 r6 h6 => ⟨q8, rfl, ((s4.trans s5).trans r5).trans r6, ?_⟩⟩⟩
        · rw [if_neg (by omega)]
          show 1 + 1 ≤ sizeLine
          decide
        · rw [if_neg (by omega)] at h6
          rw [if_pos (by omega)]
          exact h6
      · rw [s5 _ _ hf4]
        have k0 : ¬ (kk = 6) := fun h => c0 (by
          first
            | (rcases h with h | h | h <;> · subst h; simp)
            | (subst h; simp))
        refine congrArg (fun l => some (HO.lst (V.int (kk : Nat) :: l))) ?_
        by_cases hk : kk ≤ 5
        · rw [if_pos hk, if_pos (by omega)]
        · by_cases hk2 : kk ≤ 6
          · omega
          · rw [if_neg hk, if_neg hk2]
    rintro σ H5 ⟨f5, rfl, s5, hf5⟩
    refine ⟨fun σ H' => ∃ f : Addr, σ = [some (.ref a), some (.ref f)] ∧ Same H H' ∧ H' f = some (.lst (.int (kk : Nat) :: (if kk ≤ 7 then us else []))), ?_, ?_⟩
    · refine (BS.eq1 7 rfl hf5 fw) H5 (Same.refl _) _ fun H6 s6 => ?_
      refine ite2 (fun c0 => ?_) (fun c0 => ⟨f5, rfl, s5.trans s6, ?_⟩)
      · have k0 : kk = 7 := by
          simp at c0; omega
        have sg : XfC K D ∧ ∃ u, us = [u] ∧ PySem.W.findIn K (.ref D) "row" = some none ∧ fs.lookup ("row" : Str) = some u := by
          rcases sf with h | h | h | h | h | h
          · omega
          · omega
          · omega
          · omega
          · omega
          · exact h.2
        obtain ⟨xf, u, rfl, e1, l1⟩ := sg
        obtain ⟨dd, rfl⟩ := hasd l1
        refine ⟨_, rfl, _, rfl, a, D, dd, fs, u, rfl, hx.same (s5.trans s6), xf, e1, l1, (by show 1 ≤ sizeLine; decide), fun q9 G5 n9 r5 h9 => ⟨f5, q9, _, _, rfl, rfl, SqL.of ((s6.trans r5) _ _ hf5), SqL.of h9, ?_, fun q8 G6 n8 r6 h6 => ⟨q8, rfl, ((s5.trans s6).trans r5).trans r6, ?_⟩⟩⟩
        · rw [if_neg (by omega)]
          show 1 + 1 ≤ sizeLine
          decide
        · rw [if_neg (by omega)] at h6
          rw [if_pos (by omega)]
          exact h6
      · rw [s6 _ _ hf5]
        have k0 : ¬ (kk = 7) := fun h => c0 (by
          first
            | (rcases h with h | h | h <;> · subst h; simp)
            | (subst h; simp))
        refine congrArg (fun l => some (HO.lst (V.int (kk : Nat) :: l))) ?_
        by_cases hk : kk ≤ 6
        · rw [if_pos hk, if_pos (by omega)]
        · by_cases hk2 : kk ≤ 7
          · omega
          · rw [if_neg hk, if_neg hk2]
    rintro σ H6 ⟨f6, rfl, s6, hf6⟩
    have eu : (if kk ≤ 7 then us else []) = us := by
      by_cases hk : kk ≤ 7
      · rw [if_pos hk]
      · rw [if_neg hk]
        rcases sf with h | h | h | h | h | h
        · exact h.2.symm
        all_goals omega
    rw [eu] at hf6
    have flk : ∀ x ∈ V.int (kk : Nat) :: us, Fl x := fun x hx => by
      rcases List.mem_cons.mp hx with rfl | hx
      · exact trivial
      · exact fl1 x hx
    refine ⟨_, rfl, (by decide), fun q7 H7 n7 s7 h7 => ⟨_, _, dpL (SqL.of (s7 _ _ hf6)) flk, dpL (xs := []) (SqL.of h7) (fun _ h => by cases h), shL flk, shL (fun _ h => by cases h), _, rfl, ?_⟩⟩
    refine iteT ?_
    have ilast : ∃ v, atI (V.int (kk : Nat) :: us) (-1) = some v ∧ NoBl v := by
      rcases us with _ | ⟨u, _ | ⟨u2, _ | ⟨u3, r⟩⟩⟩
      · exact ⟨_, rfl, trivial⟩
      · exact ⟨_, rfl, (fl u (by simp)).2⟩
      · exact ⟨_, rfl, (fl u2 (by simp)).2⟩
      · simp at ul
    obtain ⟨v, ev, nv⟩ := ilast
    obtain ⟨t, ty, kt⟩ := nv.ty (K := K) (H := H7)
    exact ⟨_, rfl, _, rfl, f6, _, _, v, rfl, rfl, SqL.of (s7 _ _ hf6), ev, v, _, t, _, false, rfl, .ty _, ty, kt, _, rfl, iteF ⟨_, rfl, k H7 f6 (s6.trans s7) (s7 _ _ hf6)⟩⟩
end
end Jr
namespace Jr
open PySem PySem.Spec PyProof.Rows L2
section
variable {P : Program} {w : World} {K : PySem.W.Frag} {mg : Str → Option Value} {base : Heap}
theorem kind_table63 (T : Tx K mg) : KindC K (He.ga K "NoTable") 0 := ⟨T.xc_NoTable, T.kit_NoTable_JoinError, T.kit_NoTable_ValueError, T.kit_NoTable_NoTable, T.kit_NoTable_NoGrammar, T.kit_NoTable_NoCutting, T.kit_NoTable_NoSign, T.kit_NoTable_NoPiece, T.kit_NoTable_NoNumber, T.kit_NoTable_NoCount, T.kit_NoTable_NoText, T.kit_NoTable_NoPlace, T.kit_NoTable_NoLead, T.kit_NoTable_NoDeed, T.kit_NoTable_NoRow, T.kit_NoTable_NoName⟩
theorem WRen.fl {K : PySem.W.Frag} {H : Hp} {n : Nat} {sv u : V} (h : WRen K H n sv u) : Fl u ∧ NoBl u := by
  rcases h with (⟨_, rfl⟩ | ⟨_, _, _, _, rfl⟩ | ⟨_, _, _, _, _, _, rfl⟩) | ⟨_, _, _, _, _, _, rfl⟩ <;> exact ⟨trivial, trivial⟩
theorem WRen.same {K : PySem.W.Frag} {H H' : Hp} {n : Nat} {sv u : V} (h : WRen K H n sv u) (s : Same H H') : WRen K H' n sv u := by
  rcases h with h | h
  · exact .inl (h.same s)
  · exact .inr h
def spRefused63 (K : PySem.W.Frag) : Sp := fun vs H Q _ => ∃ (x : Addr) (z : Str) (rs : Rws) (sv u : V) (du : Addr), vs = [.ref x, sv, .ref du] ∧ TabAt (TC K) H x z rs ∧ WRen K H z.length sv u ∧ H du = some (.lst [.int 0, .str (Str.ofString "signs"), u]) ∧ ∀ H', Same H H' → Q (.bl true) H'
theorem cal__law_refused63 (T : Tx K mg) : Cal P w K mg base CX0 7 "_law_refused" (spRefused63 K) := by
  have CX_renamed := calx_renamed (P := P) (w := w) (base := base) T
  have C__law_seen := cal__law_seen (P := P) (w := w) (base := base) T
  obtain ⟨fd, F⟩ := T.d__law_refused
  refine ⟨_, fd, P__law_refused, F.ok sc__law_refused (fun vs H Q E h => ?_) (fun cdv A outer s H vs Q E hr h => ?_), T.g__law_refused, F.kp, F.bindsN (ps := P__law_refused) fun _ _ _ _ _ _ us hl => match us, hl with | [_, _, _], _ => rfl⟩
  · obtain ⟨x, z, rs, sv, u, du, rfl, _⟩ := h
    rfl
  · obtain ⟨x, z, rs, sv, u, du, rfl, ta, wr, hdu, k⟩ := h
    refine ⟨_, (PSs.nox (pss_cons (ps_set (i := 3) sc__law_refused.nd rfl (Or.inl rfl) pe_non)
      (pss_cons (ps_try_keep (i := 4) rfl rfl sc__law_refused.nd rfl rfl rfl ⟨rfl, by decide, .inl T.g_JoinError⟩ takes0 (fun W pn xe tk _ => (pss_one (ps_expr (pe_calX CX_renamed (by first | exact hr | exact hr.mono (by decide)) (by rfl) tk (pa_cons (pv 0) (pa_cons (pv 1) pa_nil)))))) (fun a oe cls d pn hz hf => (pss_one (ps_set (i := 3) sc__law_refused.nd rfl (Or.inl rfl) (pv 4)))))
      (pss_one (ps_ret (pe_and (pe_cmpR op_notN (pv 3) pe_non (nomark _)) (pe_one (pe_cmpR (op_eqD hr.units) (pe_cal C__law_seen (by first | exact hr | exact hr.mono (by decide)) (by rfl) (pa_cons (pv 3) pa_nil)) (pv 2) (nomark _))))))))), ?_⟩
    have fs : Fl (V.str (Str.ofString "signs")) := fun c hc => of_decide_eq_true (List.all_eq_true.mp (show (Str.ofString "signs").cps.toList.all (fun c => decide (c ≤ 126)) = true by decide +kernel) c hc)
    have fl : ∀ v ∈ [V.str (Str.ofString "signs"), u], Fl v ∧ NoBl v := fun v hv => by
      simp only [List.mem_cons, List.not_mem_nil, or_false] at hv
      rcases hv with rfl | rfl
      · exact ⟨fs, trivial⟩
      · exact wr.fl
    have flk : ∀ v ∈ V.int (0 : Nat) :: [V.str (Str.ofString "signs"), u], Fl v := fun v hv => by
      rcases List.mem_cons.mp hv with rfl | hv
      · exact trivial
      · exact (fl v hv).1
    refine ⟨_, rfl, _, rfl, x, z, rs, sv, rfl, ta, .inr ⟨u, wr, fun H1 d s1 nd hd => ?_⟩⟩
    refine ⟨true, T.exm_NoTable_JoinError, fun _ a na => ?_, fun q => nomatch q⟩
    have nda : d ≠ a := fun e => by rw [e, na] at hd; cases hd
    have hx : ExcAt (upd H1 a (ExV (.ref (CTable K)) (some d) a)) a (CTable K) (some d) [("number", u), ("part", .str (Str.ofString "signs"))] := ⟨upd_same, .inr ⟨d, rfl, by rw [upd_ne nda]; exact hd⟩⟩
    have s2 := Same.new (o := ExV (.ref (CTable K)) (some d) a) na
    refine ⟨_, rfl, _, rfl, rfl, _, rfl, iteT ?_⟩
    have kd := kind_table63 T
    refine ⟨_, rfl, a, _, _, _, 0, [.str (Str.ofString "signs"), u], rfl, hx, kd, by decide, .inr (.inr (.inl ⟨.inl rfl, kd.xc.xf, _, _, rfl, T.no_NoTable_part, rfl, T.no_NoTable_number, rfl⟩)), fl, fun H2 q s3 hq => ?_⟩
    have s13 := (s1.trans s2).trans s3
    refine ⟨_, rfl, _, _, dpL (SqL.of hq) flk, dpL (SqL.of (s13 _ _ hdu)) flk, shL flk, shL flk, ?_⟩
    have e : PyData.eqv (.list ((V.int (0 : Nat) :: [V.str (Str.ofString "signs"), u]).map fdV)) (.list ((V.int (0 : Nat) :: [V.str (Str.ofString "signs"), u]).map fdV)) = true := eqL flk
    show Q (V.bl (PyData.eqv (.list ((V.int (0 : Nat) :: [V.str (Str.ofString "signs"), u]).map fdV)) (.list ((V.int (0 : Nat) :: [V.str (Str.ofString "signs"), u]).map fdV)))) H2
    rw [e]
    exact k _ s13
end
end Jr
namespace Jr
open PySem PySem.Spec PyProof.Rows L2
def some94 : Str := Str.ofString " !\"#$&'()*+,-./0123456789:;<=>?@ABCDEFGHIJKLMNOPQRSTUVWXYZ[\\]^_`" ++ Str.ofString "abcdefghijklmnopqrstuvwxyz{|}~"
theorem some94_len : some94.cps.toList.length = 94 := by decide +kernel
theorem some94_nd : some94.cps.toList.Nodup := by decide +kernel
theorem some94_ok : ∀ c ∈ some94.cps.toList, 32 ≤ c ∧ c ≤ 126 ∧ c ≠ 37 := by decide +kernel
def spSigns (K : PySem.W.Frag) : Sp := fun vs H Q _ => ∃ (a : Addr) (ds : List Int), vs = [.ref a] ∧ SqL K H a (ds.map V.int) ∧ ds.length ≤ 40 ∧ (∀ d ∈ ds, 0 ≤ d ∧ d < 94) ∧
  ∀ H' z, Same H H' → SignsOk z → z.length = ds.length → Q (.str z) H'
section
variable {P : Program} {w : World} {K : PySem.W.Frag} {mg : Str → Option Value} {base : Heap}
theorem cal__law_signs (T : Tx K mg) : Cal P w K mg base CX0 1 "_law_signs" (spSigns K) := by
  obtain ⟨fd, F⟩ := T.d__law_signs
  refine ⟨_, fd, P__law_signs, F.ok sc__law_signs (fun vs H Q E h => ?_) (fun cdv A outer s H vs Q E hr h => ?_), T.g__law_signs, F.kp, F.bindsN (ps := P__law_signs) fun _ _ _ _ _ _ us hl => match us, hl with | [_], _ => rfl⟩
  · obtain ⟨a, ds, rfl, _⟩ := h
    rfl
  · obtain ⟨a, ds, rfl, hS, hlen, hds, k⟩ := h
    refine ⟨_, (PSs.nox (pss_cons (ps_set (i := 1) sc__law_signs.nd rfl (Or.inl rfl) pe_str)
      (pss_cons (ps_set (i := 1) sc__law_signs.nd rfl (Or.inl rfl) (pe_op op_add_str (pv 1) pe_str))
      (pss_cons (ps_set (i := 2) sc__law_signs.nd rfl (Or.inr rfl) pe_str)
      (pss_cons (ps_for PassesOwn.never rfl (pi_list (pv 0)) (pg_name (i := 3) sc__law_signs.nd rfl (Or.inl rfl)) (pss_cons (ps_set (i := 4) sc__law_signs.nd rfl (Or.inl rfl) (pe_op op_add_str (pe_slice sl_str (pv 1) (po_some (pv 3)) po_none) (pe_slice sl_str (pv 1) po_none (po_some (pv 3)))))
      (pss_one (ps_set (i := 2) sc__law_signs.nd rfl (Or.inr rfl) (pe_op op_add_str (pv 2) (pe_ix ix_list (pe_lc (own := [("_law_sign", 5)]) (g := gName 5) (by rfl) sc__law_signs.nd (pi_str (pv 4)) (blkOk_by (own := [("_law_sign", 5)]) (N := N__law_signs) (sc := defScope s__law_signs) (by decide +kernel)) (fun _ _ _ _ _ => (pg_name (i := 5) sc__law_signs.nd rfl (Or.inl rfl))) (fun _ _ _ _ _ => (pts_one (pt_cmpR op_notIn_sign (pv 5) (pv 2) rfl))) (fun _ _ _ _ _ => (pv 5))) pe_int (fun _ _ => rfl)))))))
      (pss_one (ps_ret (pv 2)))))))), ?_⟩
    refine ⟨_, rfl, _, _, rfl, rfl, (by decide +kernel), ?_⟩
    refine ⟨_, rfl, a, rfl, ⟨_, hS⟩, for_list (K := K) (a := a) (xs := ds.map V.int) (fun i σ H' => ∃ (z : Str) (u v x : Option V), σ = [some (.ref a), some (.str some94), some (.str z), u, v, x] ∧ Same H H' ∧ SignsOk z ∧ z.length = i)
      ⟨Str.ofString "", none, none, none, rfl, Same.refl H, ⟨by decide +kernel, by decide +kernel⟩, by decide +kernel⟩ (fun i σ H' _ ⟨_, _, _, _, _, s, _⟩ => s.seq hS) ?_ ?_⟩
    · rintro i y σ H' hi ⟨z, u, v, x, rfl, sm, ok, ez⟩
      have hi2 : i < ds.length := by
        have q := (List.getElem?_eq_some_iff.mp hi).1
        rw [List.length_map] at q
        exact q
      obtain ⟨d, hd, rfl⟩ : ∃ d, d ∈ ds ∧ y = V.int d := by
        rw [List.getElem?_map, List.getElem?_eq_getElem hi2] at hi
        exact ⟨_, List.getElem_mem hi2, (Option.some.inj hi).symm⟩
      obtain ⟨d0, d1⟩ := hds d hd
      obtain ⟨n, rfl⟩ := Int.eq_ofNat_of_zero_le d0
      have hz94 : some94.length ≤ sizeLine := by decide +kernel
      have l94 : some94.length = 94 := by decide +kernel
      have lt : (cutS some94 (some (n : Int)) none).length + (cutS some94 none (some (n : Int))).length = 94 := by
        have e1 := cut_from some94 n
        have e2 := cut_to some94 n
        have l1 := congrArg List.length e1
        have l2 := congrArg List.length e2
        rw [len_cps, List.length_drop, some94_len] at l1
        rw [len_cps, List.length_take, some94_len] at l2
        omega
      refine ⟨_, rfl, _, rfl, _, rfl, _, rfl, hz94, _, rfl, _, rfl, _, rfl, _, rfl, hz94, _, _, rfl, rfl, (by rw [lt]; decide), ?_⟩
      obtain ⟨t, et⟩ : ∃ t : Str, t = cutS some94 (some (n : Int)) none ++ cutS some94 none (some (n : Int)) := ⟨_, rfl⟩
      have tp : t.cps.toList.Perm some94.cps.toList := by
        rw [et, app_cps, cut_from, cut_to]
        exact List.perm_append_comm.trans (List.Perm.of_eq (List.take_append_drop _ _))
      have tl : t.cps.toList.length = 94 := by rw [tp.length_eq, some94_len]
      refine ⟨_, rfl, _, rfl, t, by rw [et], fun D hD => lc_strM (p := fun c => !decide (c ∈ z.cps.toList)) (f := fun c => V.str (sgn c)) hD (by rw [tl]; decide) (fun c _ H2 _ N M hM hN => ?_) (fun H2 sm2 hL => ?_)⟩
      · refine ⟨rfl, _, rfl, _, rfl, _, _, rfl, rfl, _, rfl, ?_⟩
        by_cases hc : c ∈ z.cps.toList
        · rw [decide_eq_true hc]
          exact iteF (hN (by simp [hc]))
        · rw [decide_eq_false hc]
          exact iteT ⟨_, rfl, hM (by simp [hc])⟩
      · have hne : ∃ c r, t.cps.toList.filter (fun c => !decide (c ∈ z.cps.toList)) = c :: r := by
          cases e : t.cps.toList.filter (fun c => !decide (c ∈ z.cps.toList)) with
          | cons c r => exact ⟨c, r, rfl⟩
          | nil =>
            exfalso
            have all : ∀ c ∈ t.cps.toList, c ∈ z.cps.toList := fun c hc => by
              have q := List.filter_eq_nil_iff.mp e c hc
              simpa using q
            have q := pigeon t.cps.toList z.cps.toList (tp.symm.nodup some94_nd) all
            rw [tl, len_cps, ez] at q
            omega
        obtain ⟨c, r, er⟩ := hne
        have hc : c ∈ t.cps.toList ∧ ¬ c ∈ z.cps.toList := by
          have q : c ∈ t.cps.toList.filter (fun c => !decide (c ∈ z.cps.toList)) := by rw [er]; exact List.mem_cons_self
          have q2 := List.mem_filter.mp q
          exact ⟨q2.1, by simpa using q2.2⟩
        rw [er] at hL
        refine ⟨D, _, _, _, rfl, rfl, SqL.of hL, (show atI _ ((0 : Nat) : Int) = _ from ats rfl), _, _, rfl, rfl, ?_, ?_⟩
        · show z.length + 1 ≤ sizeLine
          exact sz (by omega)
        · refine ⟨_, _, _, _, rfl, sm.trans sm2, ⟨?_, ?_⟩, ?_⟩
          · rw [app_cps]
            show (z.cps.toList ++ [c]).Nodup
            rw [List.nodup_append]
            refine ⟨ok.nd, by simp, fun x hx y hy => ?_⟩
            rw [List.mem_singleton] at hy
            rw [hy]
            exact fun e => hc.2 (e ▸ hx)
          · intro x hx
            rw [app_cps] at hx
            rcases List.mem_append.mp hx with hx | hx
            · exact ok.ok x hx
            · have e : x = c := by simpa [sgn] using hx
              rw [e]
              exact some94_ok c (tp.mem_iff.mp hc.1)
          · rw [app_len, ez]; rfl
    · rintro σ H' ⟨z, u, v, x, rfl, sm, ok, ez⟩
      rw [List.length_map] at ez
      exact ⟨_, rfl, k _ z sm ok ez⟩
end
end Jr
namespace Jr
open PySem PySem.Spec PyProof.Rows L2
/-! ### text * number -/
theorem fold_mem (a : Array Nat) : ∀ (k : Nat) (acc : Array Nat) (c : Nat), c ∈ ((List.replicate k a).foldl (· ++ ·) acc).toList → c ∈ acc.toList ∨ c ∈ a.toList
  | 0, _, _, h => .inl h
  | k + 1, acc, c, h => by
    rw [List.replicate_succ, List.foldl_cons] at h
    rcases fold_mem a k (acc ++ a) c h with e | e
    · rw [Array.toList_append] at e
      exact List.mem_append.mp e
    · exact .inr e
theorem mul_mem (x : Str) (n : Int) (c : Nat) (h : c ∈ (Txt.mul x n).cps.toList) : c ∈ x.cps.toList := by
  unfold Txt.mul at h
  split at h
  · cases h
  · split at h
    · exact h
    · rcases fold_mem _ _ _ c h with e | e
      · cases e
      · exact e
theorem op_mul_str {X : Cx} : OpR X (binaryOp .Mult) (fun x y H Q => ∃ (a : Str) (n : Int), x = .str a ∧ y = .int n ∧ 1 ≤ n ∧ n ≤ 100 ∧ a.length ≤ 1000 ∧ ∀ t : Str, (∀ c ∈ t.cps.toList, c ∈ a.cps.toList) → t.length ≤ a.length * n.toNat → Q (.str t) H) := by
  intro pins s σ H x y v u Q I rx ry h
  obtain ⟨a, n, rfl, rfl, h1, h2, h3, q⟩ := h
  obtain ⟨t, rfl⟩ := rx
  obtain ⟨t', rfl⟩ := ry
  refine SB.mul ⟨?_, fun _ _ => ?_, fun _ _ => ?_⟩ (fun t' k => ⟨.str (Txt.mul a n), H, I.tok _, ⟨_, rfl⟩, q _ (mul_mem a n) ?_⟩)
  · have e1 : ¬ n < -(2 ^ 63 : Int) := by omega
    have e2 : ¬ n ≥ (2 ^ 63 : Int) := by omega
    rw [decide_eq_false e1, decide_eq_false e2]; rfl
  · have := Int.le_ediv_of_mul_le (show (0 : Int) < n by omega) (show (1000 : Int) * n ≤ 2 ^ 63 - 1 by omega)
    omega
  · have : a.length * n.toNat ≤ 1000 * 100 := Nat.mul_le_mul h3 (by omega)
    have z : a.length * n.toNat ≤ sizeLine := sz this
    show decide (a.length * n.toNat > sizeLine) = false
    exact decide_eq_false (by omega)
  · have e := len_mul a n
    rw [if_neg (by simp; omega)] at e
    obtain ⟨m, rfl⟩ := Int.eq_ofNat_of_zero_le (show (0 : Int) ≤ n by omega)
    rw [Int.toNat_natCast]
    have e2 : ((Txt.mul a (m : Int)).length : Int) = ((a.length * m : Nat) : Int) := by rw [e, Int.natCast_mul]
    omega
/-- the same, with the length told -/
theorem op_mul_strE {X : Cx} : OpR X (binaryOp .Mult) (fun x y H Q => ∃ (a : Str) (n : Int), x = .str a ∧ y = .int n ∧ 1 ≤ n ∧ n ≤ 100 ∧ a.length ≤ 1000 ∧ ∀ t : Str, (∀ c ∈ t.cps.toList, c ∈ a.cps.toList) → t.length = a.length * n.toNat → Q (.str t) H) := by
  intro pins s σ H x y v u Q I rx ry h
  obtain ⟨a, n, rfl, rfl, h1, h2, h3, q⟩ := h
  obtain ⟨t, rfl⟩ := rx
  obtain ⟨t', rfl⟩ := ry
  refine SB.mul ⟨?_, fun _ _ => ?_, fun _ _ => ?_⟩ (fun t' k => ⟨.str (Txt.mul a n), H, I.tok _, ⟨_, rfl⟩, q _ (mul_mem a n) ?_⟩)
  · have e1 : ¬ n < -(2 ^ 63 : Int) := by omega
    have e2 : ¬ n ≥ (2 ^ 63 : Int) := by omega
    rw [decide_eq_false e1, decide_eq_false e2]; rfl
  · have := Int.le_ediv_of_mul_le (show (0 : Int) < n by omega) (show (1000 : Int) * n ≤ 2 ^ 63 - 1 by omega)
    omega
  · have : a.length * n.toNat ≤ 1000 * 100 := Nat.mul_le_mul h3 (by omega)
    have z : a.length * n.toNat ≤ sizeLine := sz this
    show decide (a.length * n.toNat > sizeLine) = false
    exact decide_eq_false (by omega)
  · have e := len_mul a n
    rw [if_neg (by simp; omega)] at e
    obtain ⟨m, rfl⟩ := Int.eq_ofNat_of_zero_le (show (0 : Int) ≤ n by omega)
    rw [Int.toNat_natCast]
    have e2 : ((Txt.mul a (m : Int)).length : Int) = ((a.length * m : Nat) : Int) := by rw [e, Int.natCast_mul]
    omega
end Jr
namespace Jr
open PySem PySem.Spec PyProof.Rows L2
/-! ### a tuple in a list of tuples -/
theorem u65 {A : Around} {k : Nat} (hr : Room k A) : A.units + 65 < cLine := by have := hr.un; omega
def dP (r : Str × Str) : PyData := .tuple [.str r.1, .str r.2]
theorem dpP {K : PySem.W.Frag} {H : Hp} {a : Addr} {r : Str × Str} (h : TupAt H a r) : Dp K H (.ref a) (dP r) := .tup (SqT.of h) (.cons (.str _) (.cons (.str _) .nil))
theorem shP {r : Str × Str} (h : Asc r.1 ∧ Asc r.2) : SeqAt.shaped (dP r) = true := by
  unfold SeqAt.shaped dP
  have h1 := asc_ok h.1
  have h2 := asc_ok h.2
  have e1 : PyData.canLay0 (.tuple [.str r.1, .str r.2]) = true := by simp [PyData.canLay0, PyData.canLayAll0, h1, h2]
  have e2 : PyData.depth (.tuple [.str r.1, .str r.2]) = 1 := by simp [PyData.depth, PyData.depthAll]
  rw [e1, e2]; rfl
theorem anyP (rs : Rws) (r : Str × Str) : (rs.map fun r => PyData.tuple [.str r.1, .str r.2]).any (fun z => PyData.eqv z (dP r)) = decide (r ∈ rs) := by
  rw [List.any_map]
  have e : ∀ q : Str × Str, PyData.eqv (.tuple [.str q.1, .str q.2]) (dP r) = decide (q = r) := fun q => by
    obtain ⟨a, b⟩ := q
    obtain ⟨c, d⟩ := r
    simp only [dP, PyData.eqv, PyData.eqvAll]
    by_cases h : a = c
    · subst h
      by_cases h2 : b = d
      · subst h2; simp
      · simp [h2]
    · simp [h]
  by_cases h : r ∈ rs
  · rw [decide_eq_true h, List.any_eq_true]
    exact ⟨r, h, by show PyData.eqv _ _ = true; rw [e r]; simp⟩
  · rw [decide_eq_false h, List.any_eq_false]
    intro q hq hh
    have : PyData.eqv (.tuple [.str q.1, .str q.2]) (dP r) = true := hh
    rw [e q, decide_eq_true_eq] at this
    exact h (this ▸ hq)
end Jr
namespace Jr
open PySem PySem.Spec PyProof.Rows L2
section
variable {P : Program} {w : World} {K : PySem.W.Frag} {mg : Str → Option Value} {base : Heap}
/-- a text not too long, or no text -/
def Bent63 (K : PySem.W.Frag) (H : Hp) (v : V) : Prop := NoStr K H v ∨ ∃ t, v = .str t ∧ t.length ≤ 100000
def spBent63 (K : PySem.W.Frag) : Sp := fun vs H Q _ => ∃ (z : Str) (p : Addr) (d0 d1 d2 d3 : Nat), vs = [.str z, .ref p] ∧ 1 ≤ z.length ∧ z.length ≤ 12 ∧ H p = some (.lst [.int (d0 : Nat), .int (d1 : Nat), .int (d2 : Nat), .int (d3 : Nat)]) ∧ d2 < 94 ∧ d3 < 5 ∧
  ∀ H' v, Same H H' → Bent63 K H' v → Q v H'
theorem cutl_to (z : Str) (n : Nat) : (cutS z none (some (n : Int))).length ≤ z.length := by
  rw [← len_cps, ← len_cps, cut_to, List.length_take]; omega
theorem cutl_from (z : Str) (n : Nat) : (cutS z (some (n : Int)) none).length ≤ z.length := by
  rw [← len_cps, ← len_cps, cut_from, List.length_drop]; omega
theorem cal__law_bent63 (T : Tx K mg) : Cal P w K mg base CX0 4 "_law_bent" (spBent63 K) := by
  have C__law_signs := cal__law_signs (P := P) (w := w) (base := base) T
  obtain ⟨fd, F⟩ := T.d__law_bent
  refine ⟨_, fd, P__law_bent, F.ok sc__law_bent (fun vs H Q E h => ?_) (fun cdv A outer s H vs Q E hr h => ?_), T.g__law_bent, F.kp, F.bindsN (ps := P__law_bent) fun _ _ _ _ _ _ us hl => match us, hl with | [_, _], _ => rfl⟩
  · obtain ⟨z, p, d0, d1, d2, d3, rfl, _⟩ := h
    rfl
  · obtain ⟨z, p, d0, d1, d2, d3, rfl, n1, n12, hp, b2, b3, k⟩ := h
    refine ⟨_, (PSs.nox (pss_cons (ps_asg (pv 1) (pg_lst rfl (pgs_cons (pg_name (i := 2) sc__law_bent.nd rfl (Or.inl rfl)) (pgs_cons (pg_name (i := 3) sc__law_bent.nd rfl (Or.inl rfl)) (pgs_cons (pg_name (i := 4) sc__law_bent.nd rfl (Or.inl rfl)) (pgs_cons (pg_name (i := 5) sc__law_bent.nd rfl (Or.inl rfl)) pgs_nil))))))
      (pss_cons (ps_set (i := 3) sc__law_bent.nd rfl (Or.inl rfl) (pe_op op_mod (pv 3) (pe_op op_add (pe_callB (id := "len") call_len_str (by rfl) T.n_len (by decide +kernel) (pa_cons (pv 0) pa_nil)) pe_int)))
      (pss_cons (ps_set (i := 6) sc__law_bent.nd rfl (Or.inl rfl) (pe_ix ix_str (pe_op op_add_str (pe_op op_add_str (pe_cal C__law_signs (by first | exact hr | exact hr.mono (by decide)) (by rfl) (pa_cons (pe_lstG (pa_cons (pv 4) pa_nil)) pa_nil)) pe_str) (pe_ix ix_str (pv 0) (pe_op op_mod (pv 4) (pe_callB (id := "len") call_len_str (by rfl) T.n_len (by decide +kernel) (pa_cons (pv 0) pa_nil))) (fun _ _ => rfl))) (pe_ix ix_list (pe_intsAs (ns := [0, 0, 1, 2, 3]) (pe_litI (ns := [0, 0, 1, 2, 3]) (pe_lst (pa_cons pe_int (pa_cons pe_int (pa_cons pe_int (pa_cons pe_int (pa_cons pe_int pa_nil)))))) (fun _ _ _ => rfl) (by decide)) (by decide)) (pv 5) (fun _ _ => rfl)) (fun _ _ => rfl)))
      (pss_cons (ps_if (pt_cmpR op_eq (pv 2) pe_int (nomark _)) (pss_one (ps_ret (pe_op op_add_str (pe_op op_add_str (pe_slice sl_str (pv 0) po_none (po_some (pv 3))) (pv 6)) (pe_slice sl_str (pv 0) (po_some (pv 3)) po_none)))) pss_nil)
      (pss_cons (ps_if (pt_cmpR op_eq (pv 2) pe_int (nomark _)) (pss_one (ps_ret (pe_op op_add_str (pe_op op_add_str (pe_slice sl_str (pv 0) po_none (po_some (pv 3))) (pv 6)) (pe_slice sl_str (pv 0) (po_some (pe_op op_add (pv 3) pe_int)) po_none)))) pss_nil)
      (pss_cons (ps_if (pt_cmpR op_eq (pv 2) pe_int (nomark _)) (pss_one (ps_ret (pe_op op_add_str (pe_slice sl_str (pv 0) po_none (po_some (pv 3))) (pe_slice sl_str (pv 0) (po_some (pe_op op_add (pv 3) pe_int)) po_none)))) pss_nil)
      (pss_cons (ps_if (pt_cmpR op_eq (pv 2) pe_int (nomark _)) (pss_one (ps_ret (pe_ix ix_list (pe_lstG (pa_cons pe_non (pa_cons pe_bl (pa_cons (pe_callTy (T := "list") (call_listSG rfl) (by rfl) T.n_list (by decide +kernel) (pa_cons (pv 0) pa_nil)) (pa_cons pe_str (pa_cons (pe_op op_mul_str (pv 0) pe_int) pa_nil)))))) (pv 5) (fun _ _ => rfl)))) pss_nil)
      (pss_cons (ps_if (pt_cmpR op_eq (pv 2) pe_int (nomark _)) (pss_one (ps_ret (pe_op op_add_str (pv 0) (pv 0)))) pss_nil)
      (pss_one (ps_ret (pv 0)))))))))))), ?_⟩
    have hz : z.length ≤ sizeLine := sz (by omega)
    refine ⟨_, rfl, p, _, rfl, SqL.of hp, rfl, _, _, rfl, _, _, rfl, _, _, rfl, _, _, rfl, rfl, ?_⟩
    refine ⟨_, rfl, _, rfl, z, rfl, hz, _, _, rfl, rfl, _, _, rfl, rfl, (by show (0 : Int) < _; omega), ?_⟩
    obtain ⟨a, ea⟩ : ∃ a : Nat, ((d1 : Nat) : Int) % (((z.length : Nat) : Int) + 1) = (a : Int) := ⟨d1 % (z.length + 1), by rw [Int.natCast_emod, Int.natCast_add]; rfl⟩
    show gName 3 (V.int (((d1 : Nat) : Int) % (((z.length : Nat) : Int) + 1))) _ _ _
    rw [ea]
    refine ⟨_, rfl, (by show 1 ≤ sizeLine; decide), fun q1 H1 nq1 s1 hq1 => ?_⟩
    refine ⟨q1, [(d2 : Int)], rfl, SqL.of hq1, (by show 1 ≤ 40; decide), fun d hd => (by rw [List.mem_singleton.mp hd]; omega), fun H2 zz s2 sok zzl => ?_⟩
    have zzl : zz.length = 1 := zzl
    obtain ⟨cc, hcc, hat⟩ := sg_at n1 (d2 : Int)
    refine ⟨_, _, rfl, rfl, sz (by rw [show (Str.ofString "\n\t").length = 2 by decide +kernel]; omega), ?_⟩
    have nt2 : (Str.ofString "\n\t").length = 2 := by decide +kernel
    have ntl : (zz ++ Str.ofString "\n\t").length = 3 := by rw [app_len, zzl, nt2]
    have s1c : (sgn cc).length = 1 := rfl
    refine ⟨_, rfl, _, rfl, _, rfl, z, rfl, hz, _, _, rfl, rfl, (by show (0 : Int) < _; omega), z, _, cc, rfl, rfl, hz, hat, _, _, rfl, rfl, sz (by rw [ntl]; show 3 + 1 ≤ 100000; decide), ?_⟩
    refine fun q3 H3 nq3 s3 hq3 => ?_
    obtain ⟨m, hm, m4⟩ : ∃ m : Nat, atI [V.int 0, V.int 0, V.int 1, V.int 2, V.int 3] ((d3 : Nat) : Int) = some (V.int (m : Nat)) ∧ m < 4 := by
      rcases (show d3 = 0 ∨ d3 = 1 ∨ d3 = 2 ∨ d3 = 3 ∨ d3 = 4 by omega) with rfl | rfl | rfl | rfl | rfl
      · exact ⟨0, ats (i := 0) rfl, by decide⟩
      · exact ⟨0, ats (i := 1) rfl, by decide⟩
      · exact ⟨1, ats (i := 2) rfl, by decide⟩
      · exact ⟨2, ats (i := 3) rfl, by decide⟩
      · exact ⟨3, ats (i := 4) rfl, by decide⟩
    have sl : ((zz ++ Str.ofString "\n\t") ++ sgn cc).length = 4 := by rw [app_len, ntl, s1c]
    obtain ⟨sc, hsc⟩ : ∃ sc, ((zz ++ Str.ofString "\n\t") ++ sgn cc).cps.toList[m]? = some sc := ⟨_, List.getElem?_eq_getElem (by rw [len_cps, sl]; exact m4)⟩
    refine ⟨_, rfl, q3, _, _, _, rfl, rfl, SqL.of hq3, hm, (zz ++ Str.ofString "\n\t") ++ sgn cc, _, sc, rfl, rfl, sz (by rw [sl]; decide), ats hsc, ?_⟩
    have s03 := (s1.trans s2).trans s3
    have good : ∀ (t : Str), t.length ≤ 100000 → ∀ H', Same H3 H' → Q (.str t) H' := fun t tl H' s' => k H' _ (s03.trans s') (.inr ⟨t, rfl, tl⟩)
    have c1 := cutl_to z a
    have c2 := cutl_from z a
    have c3 := cutl_from z (a + 1)
    have ss : ({ cps := #[sc] } : Str).length = 1 := rfl
    have c3 : (cutS z (some ((a : Int) + 1)) none).length ≤ z.length := c3
    have cat : ∀ {x y : Str}, (x ++ y).length = x.length + y.length := fun {x y} => app_len x y
    refine ⟨_, rfl, rfl, _, rfl, ite2 (fun _ => ?_) (fun _ => ?_)⟩
    · refine ⟨_, rfl, _, rfl, _, rfl, _, rfl, hz, _, rfl, _, _, rfl, rfl, sz (by omega), _, rfl, _, rfl, _, rfl, _, rfl, hz, _, _, rfl, rfl, sz (by rw [cat]; omega), good _ (by rw [cat, cat]; omega) _ (Same.refl _)⟩
    refine ⟨_, rfl, rfl, _, rfl, ite2 (fun _ => ?_) (fun _ => ?_)⟩
    · refine ⟨_, rfl, _, rfl, _, rfl, _, rfl, hz, _, rfl, _, _, rfl, rfl, sz (by omega), _, rfl, _, rfl, _, _, rfl, rfl, _, rfl, _, rfl, hz, _, _, rfl, rfl, sz (by rw [cat]; omega), good _ (by rw [cat, cat]; omega) _ (Same.refl _)⟩
    refine ⟨_, rfl, rfl, _, rfl, ite2 (fun _ => ?_) (fun _ => ?_)⟩
    · refine ⟨_, rfl, _, rfl, _, rfl, _, rfl, hz, _, rfl, _, rfl, _, _, rfl, rfl, _, rfl, _, rfl, hz, _, _, rfl, rfl, sz (by omega), good _ (by rw [cat]; omega) _ (Same.refl _)⟩
    refine ⟨_, rfl, rfl, _, rfl, ite2 (fun _ => ?_) (fun _ => ?_)⟩
    · refine ⟨_, rfl, z, rfl, hz, fun l H4 nl s4 hl => ?_⟩
      refine ⟨_, rfl, z, 13, rfl, rfl, by decide, by decide, by omega, fun t ht tl => ?_⟩
      have tl : t.length ≤ z.length * 13 := tl
      refine ⟨(by show 5 ≤ sizeLine; decide), fun q5 H5 nq5 s5 hq5 => ?_⟩
      have no : ∀ v, NoStr K H5 v → Q v H5 := fun v h => k H5 v (s03.trans (s4.trans s5)) (.inl h)
      obtain ⟨v, hv, kv⟩ : ∃ v, atI [V.non, V.bl true, V.ref l, V.str (Str.ofString ""), V.str t] ((d3 : Nat) : Int) = some v ∧ Q v H5 := by
        rcases (show d3 = 0 ∨ d3 = 1 ∨ d3 = 2 ∨ d3 = 3 ∨ d3 = 4 by omega) with rfl | rfl | rfl | rfl | rfl
        · exact ⟨_, ats (i := 0) rfl, no _ noStr_non⟩
        · exact ⟨_, ats (i := 1) rfl, no _ (noStr_bl true)⟩
        · exact ⟨_, ats (i := 2) rfl, no _ (noStr_lst (s5 _ _ hl))⟩
        · exact ⟨_, ats (i := 3) rfl, good _ (by decide +kernel) _ (s4.trans s5)⟩
        · exact ⟨_, ats (i := 4) rfl, good _ (by omega) _ (s4.trans s5)⟩
      exact ⟨_, rfl, q5, _, _, _, rfl, rfl, SqL.of hq5, hv, kv⟩
    refine ⟨_, rfl, rfl, _, rfl, ite2 (fun _ => ?_) (fun _ => ?_)⟩
    · exact ⟨_, rfl, _, rfl, _, _, rfl, rfl, sz (by omega), good _ (by rw [cat]; omega) _ (Same.refl _)⟩
    exact ⟨_, rfl, good _ (by omega) _ (Same.refl _)⟩
end
end Jr
namespace Jr
open PySem PySem.Spec PyProof.Rows L2
def sgns63 : Str := Str.ofString " !\"#$&'()*+,-./0123456789:;<=>?@ABCDEFGHIJKLMNOPQRSTUVWXYZ[\\]^_`" ++ Str.ofString "abcdefghijklmnopqrstuvwxyz{|}~"
theorem sgns63_a : ∀ c ∈ sgns63.cps.toList, 32 ≤ c ∧ c ≤ 126 ∧ c ≠ 37 := by decide +kernel
theorem sgns63_b : ∀ c : Fin 127, 32 ≤ c.1 → c.1 ≠ 37 → c.1 ∈ sgns63.cps.toList := by decide +kernel
instance (c : Nat) : Decidable (SgnOk c) := by unfold SgnOk; infer_instance
theorem sgns63_mem (c : Nat) : decide (c ∈ sgns63.cps.toList) = decide (SgnOk c) := by
  by_cases h : SgnOk c
  · rw [decide_eq_true h, decide_eq_true (sgns63_b ⟨c, by have := h.2.1; omega⟩ h.1 h.2.2)]
  · rw [decide_eq_false h, decide_eq_false fun m => h (sgns63_a c m)]
section
variable {P : Program} {w : World} {K : PySem.W.Frag} {mg : Str → Option Value} {base : Heap}
def spDue63 (K : PySem.W.Frag) : Sp := fun vs H Q _ => ∃ (sv : V) (n : Nat), vs = [sv, .int (n : Nat)] ∧ (NoStr K H sv ∨ ∃ z, sv = .str z ∧ z.length ≤ 100000) ∧
  ∀ H' q, Same H H' → ((∃ z, sv = .str z ∧ SignsOk z ∧ 1 ≤ z.length ∧ z.length ≤ 12 ∧ z.length = n ∧ H' q = some (.lst [])) ∨ ∃ u, WRen K H n sv u ∧ H' q = some (.lst [.int 0, .str (Str.ofString "signs"), u])) → Q (.ref q) H'
theorem cal__law_due63 (T : Tx K mg) : Cal P w K mg base CX0 1 "_law_due" (spDue63 K) := by
  obtain ⟨fd, F⟩ := T.d__law_due
  refine ⟨_, fd, P__law_due, F.ok sc__law_due (fun vs H Q E h => ?_) (fun cdv A outer s H vs Q E hr h => ?_), T.g__law_due, F.kp, F.bindsN (ps := P__law_due) fun _ _ _ _ _ _ us hl => match us, hl with | [_, _], _ => rfl⟩
  · obtain ⟨sv, n, rfl, _⟩ := h
    rfl
  · obtain ⟨sv, n, rfl, hsv, k⟩ := h
    refine ⟨_, (PSs.nox (pss_cons (ps_set (i := 2) sc__law_due.nd rfl (Or.inl rfl) pe_str)
      (pss_cons (ps_set (i := 2) sc__law_due.nd rfl (Or.inl rfl) (pe_op op_add_str (pv 2) pe_str))
      (pss_cons (ps_if (PW.pt (pw_or (pt_not (pt_val (pe_callB (id := "isinstance") call_isi (by rfl) T.n_isinstance (by decide +kernel) (pa_cons (pv 0) (pa_cons (pe_bltn (v := .ty "str") (by rfl) T.n_str (by decide +kernel) rfl) pa_nil))))) (pw_or (pt_cmpR op_lt (pe_callB (id := "len") call_len_str (by rfl) T.n_len (by decide +kernel) (pa_cons (pv 0) pa_nil)) pe_int (nomark _)) (pw_or1 (pt_cmpR op_gt (pe_callB (id := "len") call_len_str (by rfl) T.n_len (by decide +kernel) (pa_cons (pv 0) pa_nil)) pe_int (nomark _)))))) (pss_one (ps_ret (pe_lstG (pa_cons pe_int (pa_cons pe_str (pa_cons pe_non pa_nil)))))) pss_nil)
      (pss_cons (ps_for PassesOwn.never rfl (pi_enumS (by rfl) T.n_enumerate (pa_cons (pv 0) pa_nil)) (pg_tup rfl (pgs_cons (pg_name (i := 3) sc__law_due.nd rfl (Or.inl rfl)) (pgs_cons (pg_name (i := 4) sc__law_due.nd rfl (Or.inl rfl)) pgs_nil))) (pss_one (ps_if (PW.pt (pw_or (pt_cmpR op_notIn_sign (pv 4) (pv 2) rfl) (pw_or1 (pt_cmpR op_in_sign (pv 4) (pe_slice sl_str (pv 0) po_none (po_some (pv 3))) rfl)))) (pss_one (ps_ret (pe_lstG (pa_cons pe_int (pa_cons pe_str (pa_cons (pv 3) pa_nil)))))) pss_nil)))
      (pss_cons (ps_if (pt_cmpR op_ne (pe_callB (id := "len") call_len_str (by rfl) T.n_len (by decide +kernel) (pa_cons (pv 0) pa_nil)) (pv 1) (nomark _)) (pss_one (ps_ret (pe_lstG (pa_cons pe_int (pa_cons pe_str (pa_cons pe_non pa_nil)))))) pss_nil)
      (pss_one (ps_ret (pe_lstG pa_nil))))))))), ?_⟩
    have bad : ∀ {H1 : Hp} {q : Addr} {u : V}, Same H H1 → WRen K H n sv u → H1 q = some (.lst [.int 0, .str (Str.ofString "signs"), u]) → Q (.ref q) H1 := fun s w hq => k _ _ s (.inr ⟨_, w, hq⟩)
    refine ⟨_, rfl, _, _, rfl, rfl, (by decide +kernel), ?_⟩
    rw [show Str.ofString " !\"#$&'()*+,-./0123456789:;<=>?@ABCDEFGHIJKLMNOPQRSTUVWXYZ[\\]^_`" ++ Str.ofString "abcdefghijklmnopqrstuvwxyz{|}~" = sgns63 from rfl]
    rcases hsv with ⟨ty, hty, hk⟩ | ⟨z, rfl, zl⟩
    · refine ⟨_, rfl, _, _, _, _, _, rfl, .ty "str", hty, hk, _, rfl, iteT ?_⟩
      exact ⟨(by show 3 ≤ sizeLine; decide), fun q H1 nq s1 hq => bad s1 (.inl (.inl ⟨⟨ty, hty, hk⟩, rfl⟩)) hq⟩
    refine ⟨_, rfl, _, _, _, _, _, rfl, .ty "str", .base (.str z), isStr, _, rfl, iteF ?_⟩
    refine ⟨_, rfl, _, rfl, sz zl, _, _, rfl, rfl, _, rfl, ?_⟩
    by_cases c1 : z.length < 1
    · rw [decide_eq_true (show ((z.length : Nat) : Int) < 1 by omega)]
      refine iteT ?_
      exact ⟨(by show 3 ≤ sizeLine; decide), fun q H1 nq s1 hq => bad s1 (.inl (.inr (.inl ⟨z, rfl, zl, by omega, rfl⟩))) hq⟩
    rw [decide_eq_false (show ¬ ((z.length : Nat) : Int) < 1 by omega)]
    refine iteF ⟨_, rfl, _, rfl, sz zl, _, _, rfl, rfl, _, rfl, ?_⟩
    by_cases c2 : 12 < z.length
    · rw [decide_eq_true (show ((z.length : Nat) : Int) > 12 by omega)]
      refine iteT ?_
      exact ⟨(by show 3 ≤ sizeLine; decide), fun q H1 nq s1 hq => bad s1 (.inl (.inr (.inl ⟨z, rfl, zl, by omega, rfl⟩))) hq⟩
    rw [decide_eq_false (show ¬ ((z.length : Nat) : Int) > 12 by omega)]
    refine iteF ?_
    have hz : z.length ≤ sizeLine := sz zl
    have hs63 : sgns63.length ≤ sizeLine := by decide +kernel
    refine ⟨_, rfl, z, rfl, for_enumS (x := z) (fun i σ H' => ∃ u v : Option V, σ = [some (.str z), some (.int (n : Nat)), some (.str sgns63), u, v] ∧ Same H H' ∧ ∀ j d, j < i → z.cps.toList[j]? = some d → SgnOk d ∧ ¬ d ∈ z.cps.toList.take j) ⟨none, none, rfl, Same.refl H, fun j d hj => absurd hj (Nat.not_lt_zero _)⟩ ?_ ?_⟩
    · rintro i c t σ H' hi ht ⟨u, v, rfl, sm, ah⟩
      have s2 := Same.put (o := .tup [.int (i : Nat), .str (sgn c)]) sm ht
      have il := (List.getElem?_eq_some_iff.mp hi).1
      rw [len_cps] at il
      refine ⟨t, _, rfl, SqT.of upd_same, rfl, _, _, rfl, _, _, rfl, rfl, ?_⟩
      revert s2
      generalize (upd H' t (.tup [.int (i : Nat), .str (sgn c)])) = H2
      intro s2
      refine ⟨_, rfl, _, rfl, c, sgns63, rfl, rfl, _, rfl, ?_⟩
      rw [sgns63_mem]
      by_cases oc : SgnOk c
      · rw [decide_eq_true oc]
        refine iteF ⟨_, rfl, _, rfl, _, rfl, _, rfl, _, rfl, hz, c, _, rfl, rfl, _, rfl, ?_⟩
        rw [cut_to]
        by_cases hm : c ∈ z.cps.toList.take i
        · rw [decide_eq_true hm]
          exact iteT ⟨_, rfl, (by show 3 ≤ sizeLine; decide), fun q H3 nq s3 hq => bad (s2.trans s3) (.inl (.inr (.inr ⟨z, i, rfl, by omega, by omega, ⟨⟨c, hi, .inr hm⟩, ah⟩, rfl⟩))) hq⟩
        · rw [decide_eq_false hm]
          refine iteF ⟨_, _, rfl, s2, fun j d hj hd => ?_⟩
          by_cases e : j = i
          · rw [e] at hd ⊢
            rw [hi] at hd
            rw [← Option.some.inj hd]
            exact ⟨oc, hm⟩
          · exact ah j d (by omega) hd
      · rw [decide_eq_false oc]
        exact iteT ⟨_, rfl, (by show 3 ≤ sizeLine; decide), fun q H3 nq s3 hq => bad (s2.trans s3) (.inl (.inr (.inr ⟨z, i, rfl, by omega, by omega, ⟨⟨c, hi, .inl oc⟩, ah⟩, rfl⟩))) hq⟩
    · rintro σ H' ⟨u, v, rfl, sm, ah⟩
      have ok : SignsOk z := signs_ok_of fun j d hd => ah j d (List.getElem?_eq_some_iff.mp hd).1 hd
      refine ⟨_, rfl, _, rfl, hz, _, rfl, ?_⟩
      by_cases e : z.length = n
      · refine ⟨rfl, false, by simp [e], iteF ?_⟩
        exact ⟨(by show 0 ≤ sizeLine; decide), fun q H3 nq s3 hq => k H3 q (sm.trans s3) (.inl ⟨z, rfl, ok, by omega, by omega, e, hq⟩)⟩
      · refine ⟨rfl, true, by simp; omega, iteT ?_⟩
        exact ⟨(by show 3 ≤ sizeLine; decide), fun q H3 nq s3 hq => bad (sm.trans s3) (.inr ⟨z, rfl, ok, by omega, by omega, e, rfl⟩) hq⟩
end
end Jr
namespace Jr
open PySem PySem.Spec PyProof.Rows L2
/-- digits by sizes: a new list, each digit from 0 to below its size -/
def spNumbers (K : PySem.W.Frag) : Sp := fun vs H Q _ => ∃ (c salt : Int) (a : Addr) (ns : List Int), vs = [.int c, .int salt, .ref a] ∧ 0 ≤ salt ∧ salt ≤ 100000 ∧ SqL K H a (ns.map V.int) ∧ ns.length ≤ 1000 ∧
  (∀ z ∈ ns, 0 < z ∧ z.natAbs.log2 < 9000) ∧ ∀ H' p ds, Same H H' → H p = none → H' p = some (.lst (ds.map V.int)) → Digs ns ds → Q (.ref p) H'
theorem Digs.snoc {ns ds : List Int} {i : Nat} {z d : Int} (h : Digs (ns.take i) ds) (hz : ns[i]? = some z) (h0 : 0 ≤ d) (h1 : d < z) : Digs (ns.take (i + 1)) (ds ++ [d]) := by
  have e : ns.take (i + 1) = ns.take i ++ [z] := by
    rw [List.take_add_one, hz]
    rfl
  rw [e]
  exact Paired.snoc h ⟨h0, h1⟩
theorem digs_end {H' : Hp} {p : Addr} {ns ds : List Int} {i : Nat} {z x : Int} (h : Digs (ns.take i) ds) (hz : ns[i]? = some z) (zp : 0 < z) :
    ∃ es : List Int, (upd H' p (.lst (ds.map V.int ++ [V.int (x % z)]))) p = some (.lst (es.map V.int)) ∧ Digs (ns.take (i + 1)) es :=
  ⟨ds ++ [x % z], by rw [upd_same, List.map_append]; rfl, h.snoc hz (Int.emod_nonneg _ (by omega)) (Int.emod_lt_of_pos _ zp)⟩
theorem nab {x m : Int} (h : 0 < m) (hm : m ≤ 2 ^ 62) : (x % m).natAbs < 2 ^ 64 := by
  have := Int.emod_nonneg x (show m ≠ 0 by omega)
  have := Int.emod_lt_of_pos x h
  omega
theorem mulb {x m : Int} (h : 0 < m) (hm : m ≤ 2 ^ 62) : -(2 ^ 64) < x % m ∧ x % m < 2 ^ 64 := by
  have := Int.emod_nonneg x (show m ≠ 0 by omega)
  have := Int.emod_lt_of_pos x h
  omega
theorem mulb2 {x : Int} {i : Nat} (hi : i ≤ 1000) : -(2 ^ 64) < x % 2147483647 + 104729 * (0 + (i : Int) + 1) ∧ x % 2147483647 + 104729 * (0 + (i : Int) + 1) < 2 ^ 64 := by
  have := Int.emod_nonneg x (show (2147483647 : Int) ≠ 0 by omega)
  have := Int.emod_lt_of_pos x (show (0 : Int) < 2147483647 by omega)
  omega
section
variable {P : Program} {w : World} {K : PySem.W.Frag} {mg : Str → Option Value} {base : Heap}
theorem cal__law_numbers (T : Tx K mg) : Cal P w K mg base CX0 1 "_law_numbers" (spNumbers K) := by
  obtain ⟨fd, F⟩ := T.d__law_numbers
  refine ⟨_, fd, P__law_numbers, F.ok sc__law_numbers (fun vs H Q E h => ?_) (fun cdv A outer s H vs Q E hr h => ?_), T.g__law_numbers, F.kp, F.bindsN (ps := P__law_numbers) fun _ _ _ _ _ _ us hl => match us, hl with | [_, _, _], _ => rfl⟩
  · obtain ⟨c, salt, a, ns, rfl, _⟩ := h
    rfl
  · obtain ⟨c, salt, a, ns, rfl, s0, s1, hS, hlen, hns, k⟩ := h
    refine ⟨_, (PSs.nox (pss_cons (ps_set (i := 3) sc__law_numbers.nd rfl (Or.inl rfl) (pe_callB (id := "max") (call_max2 rfl) (by rfl) T.n_max (by decide +kernel) (pa_cons (pv 0) (pa_cons (pe_op op_sub (pe_un un_neg pe_int) (pv 0)) pa_nil))))
      (pss_cons (ps_set (i := 4) sc__law_numbers.nd rfl (Or.inl rfl) (pv 3))
      (pss_cons (ps_set (i := 5) sc__law_numbers.nd rfl (Or.inl rfl) (pe_lst pa_nil))
      (pss_cons (ps_for PassesOwn.never rfl (pi_range1 (by rfl) T.n_range (pa_cons (pe_callB (id := "len") call_len_seq (by rfl) T.n_len (by decide +kernel) (pa_cons (pv 2) pa_nil)) pa_nil)) (pg_name (i := 6) sc__law_numbers.nd rfl (Or.inl rfl)) (pss_one (ps_if (PW.pt (pw_and (pt_cmpR op_ge (pv 3) (pe_op op_pow pe_int pe_int) (nomark _)) (pw_and1 (pt_cmpR op_gt (pv 4) pe_int (nomark _))))) (pss_cons (ps_expr (pe_bm PySem.F.plainAttrs_list PySem.F.slot_list_append PySem.F.type_list_append mt_append (pv 5) (pa_cons (pe_op op_mod (pv 4) (pe_ix ix_list (pv 2) (pv 6) (fun _ _ => rfl))) pa_nil)))
      (pss_one (ps_set (i := 4) sc__law_numbers.nd rfl (Or.inl rfl) (pe_op op_fdivW (pv 4) (pe_ix ix_list (pv 2) (pv 6) (fun _ _ => rfl)))))) (pss_cons (ps_set (i := 7) sc__law_numbers.nd rfl (Or.inl rfl) (pe_op op_mod (pe_op op_pow (pe_op op_add (pe_op op_add (pe_op op_mod (pv 3) pe_int) (pe_op op_mul pe_int (pv 1))) pe_int) pe_int) pe_int))
      (pss_cons (ps_set (i := 7) sc__law_numbers.nd rfl (Or.inl rfl) (pe_op op_mod (pe_op op_mul (pe_op op_add (pv 7) (pe_op op_mul pe_int (pe_op op_add (pv 6) pe_int))) (pe_op op_add (pv 6) pe_int)) pe_int))
      (pss_cons (ps_set (i := 7) sc__law_numbers.nd rfl (Or.inl rfl) (pe_op op_mod (pe_op op_mul (pe_op op_mod (pe_op op_pow (pv 7) pe_int) pe_int) pe_int) pe_int))
      (pss_one (ps_expr (pe_bm PySem.F.plainAttrs_list PySem.F.slot_list_append PySem.F.type_list_append mt_append (pv 5) (pa_cons (pe_op op_mod (pe_op op_fdiv (pv 7) pe_int) (pe_ix ix_list (pv 2) (pv 6) (fun _ _ => rfl))) pa_nil))))))))))
      (pss_one (ps_ret (pv 5)))))))), ?_⟩
    refine ⟨_, rfl, _, rfl, _, rfl, _, _, rfl, rfl, _, _, rfl, ?_⟩
    obtain ⟨nu, hnu⟩ : ∃ nu : Int, nu = (if -1 - c > c then -1 - c else c) := ⟨_, rfl⟩
    refine ⟨_, rfl, Nat.zero_le _, fun p hp => ?_⟩
    refine ⟨_, rfl, _, _, rfl, .inl ((Same.new hp).seq hS), _, rfl, ?_, ?_, ?_⟩
    · show -(2 ^ 62) ≤ (((ns.map V.int).length : Nat) : Int)
      omega
    · show (((ns.map V.int).length : Nat) : Int) < 2 ^ 62
      rw [List.length_map]
      omega
    have en : ((((ns.map V.int).length : Nat) : Int)).toNat = ns.length := by rw [List.length_map]; rfl
    rw [en]
    rw [← hnu]
    refine for_range (lo := 0) (n := ns.length) (fun i σ H' => ∃ (l : Int) (kk one : Option V), σ = [some (.int c), some (.int salt), some (.ref a), some (.int nu), some (.int l), some (.ref p), kk, one] ∧
      Same H H' ∧ ∃ ds : List Int, H' p = some (.lst (ds.map V.int)) ∧ Digs (ns.take i) ds) ⟨nu, none, none, rfl, Same.new hp, [], upd_same, .nil⟩ ?_ ?_
    · rintro i σ H' hi ⟨l, kk, one, rfl, sm, ds, hL, hD⟩
      have hz : ns[i]? = some ns[i] := List.getElem?_eq_getElem hi
      obtain ⟨z, ez⟩ : ∃ z, z = ns[i] := ⟨_, rfl⟩
      rw [← ez] at hz
      have zp : 0 < z ∧ z.natAbs.log2 < 9000 := hns z (by rw [ez]; exact List.getElem_mem hi)
      have hS' : SqL K H' a (ns.map V.int) := sm.seq hS
      have hat : atI (ns.map V.int) (0 + (i : Int)) = some (V.int z) := by
        rw [Int.zero_add]
        exact ats (by rw [List.getElem?_map, hz]; rfl)
      have hlen2 : (ds.map V.int).length < sizeLine := by
        rw [List.length_map, ← hD.length, List.length_take]
        exact szl (by omega)
      have keep : ∀ d : Int, Same H (upd H' p (.lst ((ds.map V.int) ++ [V.int d]))) := fun d => Same.mut sm hp
      have hnn : 0 ≤ nu := by
        rw [hnu]
        split <;> omega
      refine ⟨_, rfl, _, _, rfl, rfl, ⟨by decide, by decide, by decide⟩, _, _, rfl, rfl, _, rfl, ite2 (fun c1 => ⟨_, rfl, _, _, rfl, rfl, _, rfl, ite2 (fun c2 => ?A) (fun c2 => ?B1)⟩) (fun c1 => iteF ?B2)⟩
      case A =>
        refine ⟨_, rfl, .inl ⟨rfl, _, SqL.of hL⟩, _, rfl, _, rfl, _, rfl, _, _, _, _, rfl, rfl, hS', hat, _, _, rfl, rfl, zp.1, _, _, _, rfl, rfl, hL, hlen2, ?_⟩
        refine ⟨_, rfl, _, rfl, _, rfl, _, _, _, _, rfl, rfl, (keep _).seq hS, hat, _, _, rfl, rfl, zp, ?_⟩
        exact ⟨_, _, one, rfl, keep _, digs_end hD hz zp.1⟩
      all_goals
        have m1 : 0 ≤ nu % 2147483629 ∧ nu % 2147483629 < 2147483629 := ⟨Int.emod_nonneg _ (by decide), Int.emod_lt_of_pos _ (by decide)⟩
        refine ⟨_, rfl, _, _, rfl, rfl, (by show (0 : Int) < 2147483629; decide), _, rfl, _, _, rfl, rfl, .inl ⟨by decide, by decide⟩, _, _, rfl, rfl, _, _, rfl, rfl, _, _, rfl, rfl, ⟨by decide, by decide, ?_⟩, _, _, rfl, rfl, (by show (0 : Int) < 2147483647; decide), ?_⟩
        · show (nu % 2147483629 + 7919 * salt + 1).natAbs < 2 ^ 64
          omega
        refine ⟨_, rfl, _, rfl, _, _, rfl, rfl, _, _, rfl, rfl, .inl ⟨by decide, by decide⟩, _, _, rfl, rfl, _, rfl, _, _, rfl, rfl, _, _, rfl, rfl, .inl (mulb2 (by omega)), _, _, rfl, rfl, (by show (0 : Int) < 2147483629; decide), ?_⟩
        refine ⟨_, rfl, _, _, rfl, rfl, ⟨by decide, by decide, nab (by decide) (by decide)⟩, _, _, rfl, rfl, (by show (0 : Int) < 2147483647; decide), _, _, rfl, rfl, .inl (mulb (by decide) (by decide)), _, _, rfl, rfl, (by show (0 : Int) < 2147483629; decide), ?_⟩
        refine ⟨_, rfl, .inl ⟨rfl, _, SqL.of hL⟩, _, rfl, _, _, rfl, rfl, ⟨by decide, by decide⟩, _, rfl, _, rfl, _, _, _, _, rfl, rfl, hS', hat, _, _, rfl, rfl, zp.1, _, _, _, rfl, rfl, hL, hlen2, ?_⟩
        exact ⟨_, _, _, rfl, keep _, digs_end hD hz zp.1⟩
    · rintro σ H' ⟨l, kk, one, rfl, sm, ds, hL, hD⟩
      rw [List.take_length] at hD
      exact ⟨_, rfl, k _ p ds sm hp hL hD⟩
end
end Jr
namespace Jr
open PySem PySem.Spec PyProof.Rows L2
def spRows (K : PySem.W.Frag) : Sp := fun vs H Q _ => ∃ (z : Str) (a : Addr) (ds : List Int), vs = [.str z, .ref a] ∧ SqL K H a (ds.map V.int) ∧ ds.length ≤ 1000 ∧ SignsOk z ∧ 1 ≤ z.length ∧ z.length ≤ 12 ∧
  ∀ H' p rs, Same H H' → H p = none → RowsAt H' p rs → TabOk z rs → Q (.ref p) H'
section
variable {P : Program} {w : World} {K : PySem.W.Frag} {mg : Str → Option Value} {base : Heap}
theorem cal__law_rows (T : Tx K mg) : Cal P w K mg base CX0 1 "_law_rows" (spRows K) := by
  obtain ⟨fd, F⟩ := T.d__law_rows
  refine ⟨_, fd, P__law_rows, F.ok sc__law_rows (fun vs H Q E h => ?_) (fun cdv A outer s H vs Q E hr h => ?_), T.g__law_rows, F.kp, F.bindsN (ps := P__law_rows) fun _ _ _ _ _ _ us hl => match us, hl with | [_, _], _ => rfl⟩
  · obtain ⟨z, a, ds, rfl, _⟩ := h
    rfl
  · obtain ⟨z, a, ds, rfl, hS, hlen, so, z1, z12, k⟩ := h
    refine ⟨_, (PSs.nox (pss_cons (ps_set (i := 2) sc__law_rows.nd rfl (Or.inl rfl) (pe_callTy (T := "list") (call_list_str rfl) (by rfl) T.n_list (by decide +kernel) (pa_cons (pv 0) pa_nil)))
      (pss_cons (ps_set (i := 3) sc__law_rows.nd rfl (Or.inl rfl) (pe_lst pa_nil))
      (pss_cons (ps_for PassesOwn.never rfl (pi_range1 (by rfl) T.n_range (pa_cons (pe_op op_fdiv (pe_callB (id := "len") call_len_seq (by rfl) T.n_len (by decide +kernel) (pa_cons (pv 1) pa_nil)) pe_int) pa_nil)) (pg_name (i := 4) sc__law_rows.nd rfl (Or.inl rfl)) (pss_cons (ps_set (i := 5) sc__law_rows.nd rfl (Or.inl rfl) (pe_ix ix_list (pv 2) (pe_op op_mod (pe_ix ix_list (pv 1) (pe_op op_mul pe_int (pv 4)) (fun _ _ => rfl)) (pe_callB (id := "len") call_len_seq (by rfl) T.n_len (by decide +kernel) (pa_cons (pv 2) pa_nil))) (fun _ _ => rfl)))
      (pss_cons (ps_set (i := 6) sc__law_rows.nd rfl (Or.inl rfl) (pe_ix ix_list (pv 2) (pe_op op_mod (pe_ix ix_list (pv 1) (pe_op op_add (pe_op op_mul pe_int (pv 4)) pe_int) (fun _ _ => rfl)) (pe_callB (id := "len") call_len_seq (by rfl) T.n_len (by decide +kernel) (pa_cons (pv 2) pa_nil))) (fun _ _ => rfl)))
      (pss_one (ps_if (PW.pt (pw_and (pt_cmpR op_le (pe_callB (id := "len") call_len_str (by rfl) T.n_len (by decide +kernel) (pa_cons (pe_op op_add_str (pv 5) (pv 6)) pa_nil)) pe_int (nomark _)) (pw_and (pt_cmpR op_notIn_seq (pe_op op_add_str (pv 5) (pv 6)) (pv 2) rfl) (pw_and1 (pt_cmpR op_lt (pe_callB (id := "len") call_len_seq (by rfl) T.n_len (by decide +kernel) (pa_cons (pv 3) pa_nil)) pe_int (nomark _)))))) (pss_cons (ps_expr (pe_bm PySem.F.plainAttrs_list PySem.F.slot_list_append PySem.F.type_list_append mt_append (pv 3) (pa_cons (pe_tup (pa_cons (pv 5) (pa_cons (pv 6) pa_nil))) pa_nil)))
      (pss_one (ps_expr (pe_bm PySem.F.plainAttrs_list PySem.F.slot_list_append PySem.F.type_list_append mt_append (pv 2) (pa_cons (pe_op op_add_str (pv 5) (pv 6)) pa_nil))))) pss_nil)))))
      (pss_one (ps_ret (pv 3))))))), ?_⟩
    refine ⟨_, rfl, _, rfl, sz (by omega), fun q hq => ?_⟩
    refine ⟨Nat.zero_le _, fun p hp => ?_⟩
    have hpH : H p = none := by
      by_cases e : p = q
      · rw [e]; exact hq
      · rw [upd_ne e] at hp; exact hp
    have hqp : q ≠ p := fun e => by
      rw [← e, upd_same] at hp
      cases hp
    have s0 : Same H (upd (upd H q (.lst ((sgs z).map V.str))) p (.lst [])) := Same.mut (Same.new hq) hpH
    refine ⟨_, rfl, _, _, rfl, .inl (s0.seq hS), _, _, rfl, rfl, ⟨by decide, by decide⟩, _, rfl, ?_, ?_, ?_⟩
    · show -(2 ^ 62) ≤ (((ds.map V.int).length : Nat) : Int) / 2
      omega
    · show (((ds.map V.int).length : Nat) : Int) / 2 < 2 ^ 62
      rw [List.length_map]
      omega
    have en : ((((ds.map V.int).length : Nat) : Int) / 2).toNat = ds.length / 2 := by rw [List.length_map]; omega
    show ∃ W, _
    refine for_range (lo := 0) (n := ((((ds.map V.int).length : Nat) : Int) / 2).toNat) (fun i σ H' => ∃ (rs : Rws) (u v x : Option V), σ = [some (.str z), some (.ref a), some (.ref q), some (.ref p), u, v, x] ∧
      Same H H' ∧ H' q = some (.lst ((pcs z rs).map V.str)) ∧ RowsAt H' p rs ∧ TabOk z rs) ⟨[], none, none, none, rfl, s0, ?_, ⟨[], upd_same, .nil⟩, TabOk.nil so z1 z12⟩ ?_ ?_
    · rw [upd_ne hqp, upd_same]
      unfold pcs
      rw [List.map_nil, List.append_nil]
    · rintro i σ H' hi ⟨rs, u, v, x, rfl, sm, hq', ⟨as, hp', hrs⟩, tk⟩
      rw [en] at hi
      have hS' := sm.seq hS
      have pl : (pcs z rs).length = z.length + rs.length := pcs_len z rs
      have plm : ((pcs z rs).map V.str).length = z.length + rs.length := by rw [List.length_map, pl]
      have many := tk.many
      have dig : ∀ j : Nat, j < ds.length → ∃ d, atI (ds.map V.int) (j : Int) = some (V.int d) := fun j hj => ⟨ds[j], atm (List.getElem?_eq_getElem hj)⟩
      have pce : ∀ d : Int, ∃ x, x ∈ pcs z rs ∧ atI ((pcs z rs).map V.str) (d % (((pcs z rs).map V.str).length : Nat)) = some (V.str x) := fun d => by
        have h0 := Int.emod_nonneg d (show ((((pcs z rs).map V.str).length : Nat) : Int) ≠ 0 by omega)
        have h1 := Int.emod_lt_of_pos d (show (0 : Int) < (((pcs z rs).map V.str).length : Nat) by omega)
        obtain ⟨m, hm⟩ := Int.eq_ofNat_of_zero_le h0
        rw [hm]
        have hm2 : m < (pcs z rs).length := by omega
        exact ⟨(pcs z rs)[m], List.getElem_mem hm2, atm (List.getElem?_eq_getElem hm2)⟩
      have e1 : (2 : Int) * (0 + (i : Int)) = ((2 * i : Nat) : Int) := by omega
      have e2 : (2 : Int) * (0 + (i : Int)) + 1 = ((2 * i + 1 : Nat) : Int) := by omega
      obtain ⟨d1, hd1⟩ := dig (2 * i) (by omega)
      obtain ⟨d2, hd2⟩ := dig (2 * i + 1) (by omega)
      obtain ⟨x1, m1, a1⟩ := pce d1
      obtain ⟨x2, m2, a2⟩ := pce d2
      rw [← e1] at hd1
      rw [← e2] at hd2
      have pos : (0 : Int) < (((pcs z rs).map V.str).length : Nat) := by omega
      refine ⟨_, rfl, _, rfl, _, rfl, _, _, rfl, rfl, .inl ⟨by decide, by decide⟩, _, _, _, _, rfl, rfl, hS', hd1, _, rfl, _, _, rfl, .inl (SqL.of hq'), _, _, rfl, rfl, pos, _, _, _, _, rfl, rfl, SqL.of hq', a1, ?_⟩
      refine ⟨_, rfl, _, rfl, _, rfl, _, _, rfl, rfl, .inl ⟨by decide, by decide⟩, _, _, rfl, rfl, _, _, _, _, rfl, rfl, hS', hd2, _, rfl, _, _, rfl, .inl (SqL.of hq'), _, _, rfl, rfl, pos, _, _, _, _, rfl, rfl, SqL.of hq', a2, ?_⟩
      have l1 := tk.plen m1
      have l2 := tk.plen m2
      have la := app_len x1 x2
      have stay : ∀ {u' v' x' : Option V}, ∃ (rs : Rws) (u v x : Option V), [some (V.str z), some (.ref a), some (.ref q), some (.ref p), u', v', x'] = [some (.str z), some (.ref a), some (.ref q), some (.ref p), u, v, x] ∧
          Same H H' ∧ H' q = some (.lst ((pcs z rs).map V.str)) ∧ RowsAt H' p rs ∧ TabOk z rs := ⟨rs, _, _, _, rfl, sm, hq', ⟨as, hp', hrs⟩, tk⟩
      refine ⟨_, rfl, _, rfl, _, _, rfl, rfl, sz (by omega), _, rfl, sz (by omega), _, _, rfl, rfl, _, rfl, ite2 (fun c1 => ?_) (fun c1 => iteF stay)⟩
      refine ⟨_, rfl, _, rfl, _, _, rfl, rfl, sz (by omega), _, rfl, _, _, rfl, .inl (SqL.of hq'), rfl, flat_str _, _, rfl, ?_⟩
      show if (!inV (V.str (x1 ++ x2)) ((pcs z rs).map V.str)) = true then _ else _
      rw [inV_str]
      refine ite2 (fun c2 => ?_) (fun c2 => iteF stay)
      have c2' : ¬ (x1 ++ x2) ∈ pcs z rs := by simpa using c2
      refine ⟨_, rfl, _, _, rfl, .inl (SqL.of hp'), _, _, rfl, rfl, _, rfl, ite2 (fun c3 => ?_) (fun c3 => stay)⟩
      have c3' : rs.length < 24 := by
        have q1 := of_decide_eq_true c3
        rw [List.length_map, Paired.len hrs] at q1
        omega
      have c1' : (x1 ++ x2).length ≤ 16 := by
        have q1 := of_decide_eq_true c1
        omega
      refine ⟨_, rfl, .inl ⟨rfl, _, SqL.of hp'⟩, _, rfl, _, rfl, (by show 2 ≤ sizeLine; decide), fun t ht => ?_⟩
      have tp : t ≠ p := fun e => by rw [e, hp'] at ht; cases ht
      have tq : t ≠ q := fun e => by rw [e, hq'] at ht; cases ht
      have tH : H t = none := sm.free ht
      refine ⟨_, _, _, rfl, rfl, (by rw [upd_ne (Ne.symm tp)]; exact hp'), ?_, ?_⟩
      · rw [List.length_map, Paired.len hrs]
        exact szl (by omega)
      refine ⟨_, rfl, .inl ⟨rfl, _, SqL.of (show upd _ _ _ q = _ by rw [upd_ne hqp, upd_ne (Ne.symm tq)]; exact hq')⟩, _, rfl, _, rfl, _, _, rfl, rfl, sz (by omega), _, _, _, rfl, rfl, (by rw [upd_ne hqp, upd_ne (Ne.symm tq)]; exact hq'), szl (by omega), ?_⟩
      have ro : RowOk z rs (x1, x2) := ⟨m1, m2, c1', c2'⟩
      refine ⟨rs ++ [(x1, x2)], _, _, _, rfl, Same.mut (Same.mut (Same.put sm ht) hpH) hq, ?_, ⟨as ++ [t], ?_, ?_⟩, tk.snoc ro c3'⟩
      · rw [upd_same, pcs_snoc, List.map_append]
        rfl
      · rw [upd_ne (Ne.symm hqp), upd_same, List.map_append]
        rfl
      · refine Paired.snoc ?_ ?_
        · refine L2.Paired.mapP hrs fun b r hb => ?_
          show upd _ _ _ b = _
          have b1 : b ≠ q := fun e => by
            have hb2 : H' b = _ := hb
            rw [e, hq'] at hb2; cases hb2
          have b2 : b ≠ p := fun e => by
            have hb2 : H' b = _ := hb
            rw [e, hp'] at hb2; cases hb2
          rw [upd_ne b1, upd_ne b2, upd_ne (ne_of_none hb ht)]
          exact hb
        · show upd _ _ _ t = _
          rw [upd_ne tq, upd_ne tp, upd_same]
    · rintro σ H' ⟨rs, u, v, x, rfl, sm, hq', hp', tk⟩
      exact ⟨_, rfl, k _ p rs sm hpH hp' tk⟩
end
end Jr
namespace Jr
open PySem PySem.Spec PyProof.Rows L2
/-- a tuple of signs and rows -/
def spLTable (K : PySem.W.Frag) : Sp := fun vs H Q _ => ∃ (c salt : Int) (most : Nat), vs = [.int c, .int salt, .int most] ∧ 0 ≤ salt ∧ salt ≤ 100000 ∧ most ≤ 100 ∧
  ∀ H' t p z rs, Same H H' → H' t = some (.tup [.str z, .ref p]) → H p = none → RowsAt H' p rs → TabOk z rs → Q (.ref t) H'
def szs (most : Nat) : List Int := [4, 12, 3, 4, 4, (most : Int) + 1] ++ List.replicate 12 94 ++ List.replicate (2 * most) 36
theorem szs_ok (most : Nat) (h : most ≤ 100) : ∀ z ∈ szs most, 0 < z ∧ z.natAbs.log2 < 9000 := by
  have lg : ∀ z : Int, 0 < z → z ≤ 1000 → 0 < z ∧ z.natAbs.log2 < 9000 := fun z h0 h1 => ⟨h0, by
    have : z.natAbs.log2 < 10 := (Nat.log2_lt (by omega)).mpr (by omega)
    omega⟩
  intro z hz
  unfold szs at hz
  rcases List.mem_append.mp hz with hz | hz
  · rcases List.mem_append.mp hz with hz | hz
    · simp only [List.mem_cons, List.not_mem_nil, or_false] at hz
      rcases hz with rfl | rfl | rfl | rfl | rfl | rfl <;> exact lg _ (by omega) (by omega)
    · rw [(List.mem_replicate.mp hz).2]; exact lg _ (by omega) (by omega)
  · rw [(List.mem_replicate.mp hz).2]; exact lg _ (by omega) (by omega)
section
variable {P : Program} {w : World} {K : PySem.W.Frag} {mg : Str → Option Value} {base : Heap}
theorem cal__law_table (T : Tx K mg) : Cal P w K mg base CX0 2 "_law_table" (spLTable K) := by
  have C__law_numbers := cal__law_numbers (P := P) (w := w) (base := base) T
  have C__law_signs := cal__law_signs (P := P) (w := w) (base := base) T
  have C__law_rows := cal__law_rows (P := P) (w := w) (base := base) T
  obtain ⟨fd, F⟩ := T.d__law_table
  refine ⟨_, fd, P__law_table, F.ok sc__law_table (fun vs H Q E h => ?_) (fun cdv A outer s H vs Q E hr h => ?_), T.g__law_table, F.kp, F.bindsN (ps := P__law_table) fun _ _ _ _ _ _ us hl => match us, hl with | [_, _, _], _ => rfl⟩
  · obtain ⟨c, salt, most, rfl, _⟩ := h
    rfl
  · obtain ⟨c, salt, most, rfl, s0, s1, hm, k⟩ := h
    refine ⟨_, (PSs.nox (pss_cons (ps_set (i := 3) sc__law_table.nd rfl (Or.inl rfl) (pe_cal C__law_numbers (by first | exact hr | exact hr.mono (by decide)) (by rfl) (pa_cons (pv 0) (pa_cons (pv 1) (pa_cons (pe_op op_cat (pe_op op_cat (pe_lst (pa_cons pe_int (pa_cons pe_int (pa_cons pe_int (pa_cons pe_int (pa_cons pe_int (pa_cons (pe_op op_add (pv 2) pe_int) pa_nil))))))) (pe_op op_rep (pe_lst (pa_cons pe_int pa_nil)) pe_int)) (pe_op op_rep (pe_lst (pa_cons pe_int pa_nil)) (pe_op op_mul pe_int (pv 2)))) pa_nil)))))
      (pss_cons (ps_set (i := 4) sc__law_table.nd rfl (Or.inl rfl) (pe_op op_add pe_int (pe_ix ix_list (pe_lst (pa_cons (pe_ix ix_list (pv 3) pe_int (fun _ _ => rfl)) (pa_cons (pe_ix ix_list (pv 3) pe_int (fun _ _ => rfl)) (pa_cons (pe_ix ix_list (pv 3) pe_int (fun _ _ => rfl)) (pa_cons (pe_ix ix_list (pv 3) pe_int (fun _ _ => rfl)) pa_nil))))) (pe_ix ix_list (pv 3) pe_int (fun _ _ => rfl)) (fun _ _ => rfl))))
      (pss_cons (ps_set (i := 5) sc__law_table.nd rfl (Or.inl rfl) (pe_cal C__law_signs (by first | exact hr | exact hr.mono (by decide)) (by rfl) (pa_cons (pe_slice sl_list (pv 3) (po_some pe_int) (po_some (pe_op op_add pe_int (pv 4)))) pa_nil)))
      (pss_cons (ps_set (i := 6) sc__law_table.nd rfl (Or.inl rfl) (pe_cal C__law_rows (by first | exact hr | exact hr.mono (by decide)) (by rfl) (pa_cons (pv 5) (pa_cons (pe_slice sl_list (pv 3) (po_some pe_int) po_none) pa_nil))))
      (pss_cons (ps_if (pt_cmpR op_eq (pe_ix ix_list (pv 3) pe_int (fun _ _ => rfl)) pe_int (nomark _)) (pss_one (ps_set (i := 6) sc__law_table.nd rfl (Or.inl rfl) (pe_slice sl_list (pv 6) po_none (po_some (pe_ix ix_list (pv 3) pe_int (fun _ _ => rfl)))))) pss_nil)
      (pss_one (ps_ret (pe_tup (pa_cons (pv 5) (pa_cons (pv 6) pa_nil))))))))))), ?_⟩
    refine ⟨_, rfl, _, rfl, _, rfl, _, _, rfl, rfl, (by show 6 ≤ sizeLine; decide), fun p1 h1 => ?_⟩
    refine ⟨(by show 1 ≤ sizeLine; decide), fun p2 h2 => ⟨_, _, _, rfl, rfl, upd_same, by decide, by decide, by decide, fun p3 h3 => ?_⟩⟩
    have q1 := Same.new (o := .lst (List.replicate (12 : Int).toNat [V.int 94]).flatten) h3 _ _ (Same.new (o := .lst [V.int 94]) h2 p1 _ upd_same)
    refine ⟨_, _, _, _, rfl, rfl, q1, upd_same, ?_, fun p4 h4 => ?_⟩
    · rw [rep_one, List.length_replicate]
      show 6 + 12 ≤ sizeLine
      decide
    refine ⟨(by show 1 ≤ sizeLine; decide), fun p5 h5 => ⟨_, rfl, _, _, rfl, rfl, .inl ⟨by decide, by decide⟩, _, _, _, rfl, rfl, upd_same, ?_, ?_, ?_, fun p6 h6 => ?_⟩⟩
    · omega
    · omega
    · show 1 * ((2 : Int) * (most : Int)).toNat ≤ sizeLine
      exact sz (by omega)
    have em : ((2 : Int) * (most : Int)).toNat = 2 * most := by omega
    refine ⟨_, _, _, _, rfl, rfl, Same.new h6 _ _ (Same.new h5 _ _ upd_same), upd_same, ?_, fun p7 h7 => ?_⟩
    · rw [rep_one, rep_one, List.length_append, List.length_replicate, List.length_replicate, em]
      show 6 + 12 + 2 * most ≤ sizeLine
      exact sz (by omega)
    refine ⟨c, salt, p7, szs most, rfl, s0, s1, SqL.of ?_, ?_, szs_ok most hm, fun H1 p ds sm hp hL hD => ?_⟩
    · rw [upd_same]
      unfold szs
      rw [rep_one, rep_one, em, List.map_append, List.map_append, map_rep, map_rep]
      rfl
    · unfold szs
      rw [List.length_append, List.length_append, List.length_replicate, List.length_replicate]
      show 6 + 12 + 2 * most ≤ 1000
      omega
    have sH := (((((((Same.new h1).trans (Same.new h2)).trans (Same.new h3)).trans (Same.new h4)).trans (Same.new h5)).trans (Same.new h6)).trans (Same.new h7)).trans sm
    have dl : ds.length = 18 + 2 * most := by
      rw [← Paired.len hD]
      unfold szs
      rw [List.length_append, List.length_append, List.length_replicate, List.length_replicate]
      rfl
    obtain ⟨d0, e0, b0⟩ := Paired.get hD (i := 0) (x := 4) rfl
    obtain ⟨d1, e1, b1⟩ := Paired.get hD (i := 1) (x := 12) rfl
    obtain ⟨d2, e2, b2⟩ := Paired.get hD (i := 2) (x := 3) rfl
    obtain ⟨d3, e3, b3⟩ := Paired.get hD (i := 3) (x := 4) rfl
    obtain ⟨d4, e4, b4⟩ := Paired.get hD (i := 4) (x := 4) rfl
    obtain ⟨d5, e5, b5⟩ := Paired.get hD (i := 5) (x := (most : Int) + 1) rfl
    have hLq : SqL K H1 p (ds.map V.int) := SqL.of hL
    have A0 : atI (ds.map V.int) 0 = some (V.int d0) := atm (f := V.int) e0
    have A1 : atI (ds.map V.int) 1 = some (V.int d1) := atm (f := V.int) e1
    have A2 : atI (ds.map V.int) 2 = some (V.int d2) := atm (f := V.int) e2
    have A3 : atI (ds.map V.int) 3 = some (V.int d3) := atm (f := V.int) e3
    have A4 : atI (ds.map V.int) 4 = some (V.int d4) := atm (f := V.int) e4
    have A5 : atI (ds.map V.int) 5 = some (V.int d5) := atm (f := V.int) e5
    obtain ⟨m, hm1, hm12, Am⟩ : ∃ m : Nat, m < 12 ∧ True ∧ atI [V.int d2, V.int d2, V.int d3, V.int d1] d0 = some (V.int (m : Int)) := by
      obtain ⟨j, rfl⟩ := Int.eq_ofNat_of_zero_le b0.1
      obtain ⟨m1, rfl⟩ := Int.eq_ofNat_of_zero_le b1.1
      obtain ⟨m2, rfl⟩ := Int.eq_ofNat_of_zero_le b2.1
      obtain ⟨m3, rfl⟩ := Int.eq_ofNat_of_zero_le b3.1
      have hj : j = 0 ∨ j = 1 ∨ j = 2 ∨ j = 3 := by omega
      rcases hj with rfl | rfl | rfl | rfl
      · exact ⟨m2, by omega, trivial, ats rfl⟩
      · exact ⟨m2, by omega, trivial, ats rfl⟩
      · exact ⟨m3, by omega, trivial, ats rfl⟩
      · exact ⟨m1, by omega, trivial, ats rfl⟩
    refine ⟨_, rfl, _, _, _, _, rfl, rfl, hLq, A2, _, rfl, _, _, _, _, rfl, rfl, hLq, A2, _, rfl, _, _, _, _, rfl, rfl, hLq, A3, _, rfl, _, _, _, _, rfl, rfl, hLq, A1, (by show 4 ≤ sizeLine; decide), fun p8 h8 => ?_⟩
    have s8 := Same.new (o := .lst [V.int d2, V.int d2, V.int d3, V.int d1]) h8
    refine ⟨_, rfl, _, _, _, _, rfl, rfl, s8.seq hLq, A0, _, _, _, _, rfl, rfl, SqL.of upd_same, Am, _, _, rfl, rfl, ?_⟩
    refine ⟨_, rfl, _, rfl, _, rfl, _, _, rfl, rfl, _, rfl, _, _, rfl, s8.seq hLq, fun p9 h9 => ?_⟩
    have s9 := s8.trans (Same.new (o := .lst (cutV (ds.map V.int) (some 6) (some (6 + (1 + (m : Int)))))) h9)
    have ec : cutV (ds.map V.int) (some 6) (some (6 + (1 + (m : Int)))) = ((ds.drop 6).take (m + 1)).map V.int := by
      have z : (6 : Int) + (1 + (m : Int)) = ((7 + m : Nat) : Int) := by omega
      have z2 : 7 + m - 6 = m + 1 := by omega
      rw [z, show (some (6 : Int)) = some ((6 : Nat) : Int) from rfl, cutV_mid, z2, List.map_take, List.map_drop]
    refine ⟨p9, (ds.drop 6).take (m + 1), rfl, SqL.of (by rw [upd_same, ec]), ?_, ?_, fun H2 z sm2 ok ez => ?_⟩
    · rw [List.length_take]; omega
    · intro d hd
      have nsd : ((szs most).drop 6).take (m + 1) = List.replicate (m + 1) 94 := by
        unfold szs
        rw [List.append_assoc]
        show (List.replicate 12 (94 : Int) ++ List.replicate (2 * most) (36 : Int)).take (m + 1) = _
        rw [List.take_append_of_le_length (by rw [List.length_replicate]; omega), List.take_replicate, Nat.min_eq_left (by omega)]
      have hP := Paired.tk (m + 1) (Paired.dr 6 hD)
      rw [nsd] at hP
      obtain ⟨x, hx, b⟩ := Paired.mem2 hP hd
      rw [(List.mem_replicate.mp hx).2] at b
      exact b
    have z1 : z.length = m + 1 := by
      rw [ez, List.length_take, List.length_drop, dl]
      omega
    have s2 := s9.trans sm2
    refine ⟨_, rfl, _, rfl, _, rfl, _, _, rfl, s2.seq hLq, fun p10 h10 => ?_⟩
    have s10 := s2.trans (Same.new (o := .lst (cutV (ds.map V.int) (some 18) none)) h10)
    refine ⟨z, p10, ds.drop 18, rfl, SqL.of ?_, ?_, ok, by omega, by omega, fun H3 pr rs sm3 hpr hr3 tk => ?_⟩
    · rw [upd_same, show (some (18 : Int)) = some ((18 : Nat) : Int) from rfl, cutV_from, List.map_drop]
    · rw [List.length_drop]; omega
    have s3 := s10.trans sm3
    have sT := sH.trans s3
    refine ⟨_, rfl, _, _, _, _, rfl, rfl, s3.seq hLq, A4, rfl, _, rfl, ite2 (fun c1 => ?_) (fun c1 => ?_)⟩
    · refine ⟨_, rfl, _, rfl, _, _, _, _, rfl, rfl, s3.seq hLq, A5, _, rfl, ?_⟩
      obtain ⟨as, ha, hrs⟩ := hr3
      refine ⟨_, _, rfl, SqL.of ha, fun p11 h11 => ?_⟩
      obtain ⟨j, rfl⟩ := Int.eq_ofNat_of_zero_le b5.1
      have s11 := Same.new (o := .lst (cutV (as.map V.ref) none (some (j : Int)))) h11
      refine ⟨_, rfl, _, rfl, (by show 2 ≤ sizeLine; decide), fun t ht => ?_⟩
      have s12 := s11.trans (Same.new (o := .tup [V.str z, V.ref p11]) ht)
      refine k _ t p11 z (rs.take j) (sT.trans s12) upd_same (sT.free h11) ⟨as.take j, ?_, TupAt.same s12 (Paired.tk j hrs)⟩ (tk.take j)
      refine (Same.new ht) _ _ ?_
      rw [upd_same, cutV_to, List.map_take]
    · refine ⟨_, rfl, _, rfl, (by show 2 ≤ sizeLine; decide), fun t ht => ?_⟩
      refine k _ t pr z rs (sT.trans (Same.new ht)) upd_same ?_ (hr3.same (Same.new ht)) tk
      exact (sH.trans s10).free hpr
end
end Jr
namespace Jr
open PySem PySem.Spec PyProof.Rows L2
section
variable {P : Program} {w : World} {K : PySem.W.Frag} {mg : Str → Option Value} {base : Heap}
/-- the pieces, by their numbers -/
def spPiecesT (K : PySem.W.Frag) : Sp := fun vs H Q _ => ∃ (tt p : Addr) (z : Str) (rs : Rws), vs = [.ref tt] ∧ H tt = some (.tup [.str z, .ref p]) ∧ RowsAt H p rs ∧ TabOk z rs ∧
  ∀ H' b, Same H H' → H b = none → H' b = some (.lst ((pcs z rs).map V.str)) → Q (.ref b) H'
theorem cal__law_pieces (T : Tx K mg) : Cal P w K mg base CX0 1 "_law_pieces" (spPiecesT K) := by
  obtain ⟨fd, F⟩ := T.d__law_pieces
  refine ⟨_, fd, P__law_pieces, F.ok sc__law_pieces (fun vs H Q E h => ?_) (fun cdv A outer s H vs Q E hr h => ?_), T.g__law_pieces, F.kp, F.bindsN (ps := P__law_pieces) fun _ _ _ _ _ _ us hl => match us, hl with | [_], _ => rfl⟩
  · obtain ⟨tt, p, z, rs, rfl, _⟩ := h
    rfl
  · obtain ⟨tt, p, z, rs, rfl, htt, ⟨as, hp, hrs⟩, tk, k⟩ := h
    refine ⟨_, (PSs.nox (pss_one (ps_ret (pe_op op_cat (pe_callTy (T := "list") (call_list_str rfl) (by rfl) T.n_list (by decide +kernel) (pa_cons (pe_ix ix_tup (pv 0) pe_int (fun _ _ => rfl)) pa_nil)) (pe_lc (own := [("_law_left", 1), ("_law_right", 2)]) (g := gTup K 2 (gCons (gName 1) (gCons (gName 2) gNil))) (by rfl) sc__law_pieces.nd (pi_list (pe_ix ix_tup (pv 0) pe_int (fun _ _ => rfl))) (blkOk_by (own := [("_law_left", 1), ("_law_right", 2)]) (N := N__law_pieces) (sc := defScope s__law_pieces) (by decide +kernel)) (fun _ _ _ _ _ => (pg_tup rfl (pgs_cons (pg_name (i := 1) sc__law_pieces.nd rfl (Or.inl rfl)) (pgs_cons (pg_name (i := 2) sc__law_pieces.nd rfl (Or.inl rfl)) pgs_nil)))) (fun _ _ _ _ _ => pts_nil) (fun _ _ _ _ _ => (pe_op op_add_str (pv 1) (pv 2)))))))), ?_⟩
    have n12 := tk.n12
    have many := tk.many
    refine ⟨_, rfl, tt, _, _, _, rfl, rfl, SqT.of htt, rfl, z, rfl, sz (by omega), fun l hl => ?_⟩
    have s1 := Same.new (o := .lst ((sgs z).map V.str)) hl
    have hts := TupAt.same s1 hrs
    have hS : SqL K (upd H l (.lst ((sgs z).map V.str))) p ((as.zip rs).map fun x => V.ref x.1) := by
      rw [zip_fst V.ref hrs]
      exact SqL.of (s1 _ _ hp)
    refine ⟨_, rfl, tt, _, _, _, rfl, rfl, SqT.of (s1 _ _ htt), rfl, p, rfl, ⟨_, hS⟩, fun D hD => lc_listM (K := K) (item := fun x : Addr × (Str × Str) => V.ref x.1) (p := fun _ => true) (f := fun x => V.str (jn x.2)) (l := as.zip rs) hS hD ?_ (fun x hx H2 s2 N M hM _ => ?_) (fun H2 s2 hL => ?_)⟩
    · rw [List.length_zip]
      omega
    · obtain ⟨hx1, hx2⟩ := zip_mem hts x hx
      obtain ⟨i, hi, ei⟩ := List.mem_iff_getElem.mp hx2
      have ro := tk.rows i x.2 (by rw [List.getElem?_eq_getElem hi, ei])
      have ll := ro.len
      have le : (jn x.2).length = x.2.1.length + x.2.2.length := app_len _ _
      exact ⟨x.1, _, rfl, SqT.of (s2 _ _ hx1), rfl, _, _, rfl, _, _, rfl, rfl, rfl, _, rfl, _, rfl, _, _, rfl, rfl, sz (by omega), hM rfl⟩
    · have ef : (as.zip rs).filter (fun _ => true) = as.zip rs := List.filter_eq_self.mpr fun _ _ => rfl
      rw [ef, zip_snd (fun r => V.str (jn r)) hrs] at hL
      have hl2 := s2 _ _ (show (upd H l (.lst ((sgs z).map V.str))) l = _ from upd_same)
      have sm := s1.trans s2
      have e : (sgs z).map V.str ++ rs.map (fun r => V.str (jn r)) = (pcs z rs).map V.str := by
        unfold pcs
        rw [List.map_append, List.map_map]; rfl
      refine ⟨l, D, _, _, rfl, rfl, hl2, hL, ?_, fun q hq => ?_⟩
      · rw [List.length_map, List.length_map, sgs_len]; exact sz (by omega)
      · rw [e]
        exact k _ q (Same.put sm hq) (sm.free hq) upd_same
end
end Jr
namespace Jr
open PySem PySem.Spec PyProof.Rows L2
section
variable {P : Program} {w : World} {K : PySem.W.Frag} {mg : Str → Option Value} {base : Heap}
/-- a text of at most so many pieces -/
def spWords (K : PySem.W.Frag) : Sp := fun vs H Q _ => ∃ (c salt : Int) (lp : Addr) (ps : List Str) (most : Nat), vs = [.int c, .int salt, .ref lp, .int (most : Nat)] ∧ 0 ≤ salt ∧ salt ≤ 100000 ∧ SqL K H lp (ps.map V.str) ∧ 0 < ps.length ∧ (∀ p ∈ ps, p.length ≤ 16) ∧ most ≤ 100 ∧
  ∀ H' qs, Same H H' → (∀ q ∈ qs, q ∈ ps) → qs.length ≤ most → Q (.str (Txt.join (Str.ofString "") qs)) H'
theorem cal__law_words (T : Tx K mg) : Cal P w K mg base CX0 2 "_law_words" (spWords K) := by
  have C__law_numbers := cal__law_numbers (P := P) (w := w) (base := base) T
  obtain ⟨fd, F⟩ := T.d__law_words
  refine ⟨_, fd, P__law_words, F.ok sc__law_words (fun vs H Q E h => ?_) (fun cdv A outer s H vs Q E hr h => ?_), T.g__law_words, F.kp, F.bindsN (ps := P__law_words) fun _ _ _ _ _ _ us hl => match us, hl with | [_, _, _, _], _ => rfl⟩
  · obtain ⟨c, salt, lp, ps, most, rfl, _⟩ := h
    rfl
  · obtain ⟨c, salt, lp, ps, most, rfl, s0, s1', hP, np, pl, hm, k⟩ := h
    refine ⟨_, (PSs.nox (pss_cons (ps_set (i := 4) sc__law_words.nd rfl (Or.inl rfl) (pe_cal C__law_numbers (by first | exact hr | exact hr.mono (by decide)) (by rfl) (pa_cons (pv 0) (pa_cons (pv 1) (pa_cons (pe_op op_catG (pe_lstG (pa_cons (pe_op op_add (pv 3) pe_int) pa_nil)) (pe_op op_repG (pe_intsAs (ns := [36]) (pe_litI (ns := [36]) (pe_lst (pa_cons pe_int pa_nil)) (fun _ _ _ => rfl) (by decide)) (by decide)) (pv 3))) pa_nil)))))
      (pss_one (ps_ret (pe_join pe_str (pe_lc (own := [("_law_digit", 5)]) (g := gName 5) (by rfl) sc__law_words.nd (pi_list (pe_slice sl_listG (pv 4) (po_some pe_int) (po_some (pe_op op_add pe_int (pe_ix ix_list (pv 4) pe_int (fun _ _ => rfl)))))) (blkOk_by (own := [("_law_digit", 5)]) (N := N__law_words) (sc := defScope s__law_words) (by decide +kernel)) (fun _ _ _ _ _ => (pg_name (i := 5) sc__law_words.nd rfl (Or.inl rfl))) (fun _ _ _ _ _ => pts_nil) (fun _ _ _ _ _ => (pe_ix (ix_listK (K := K)) (pv 2) (pe_op op_mod (pv 5) (pe_callB (id := "len") (call_len_seqK (K := K)) (by rfl) T.n_len (by decide +kernel) (pa_cons (pv 2) pa_nil))) (fun _ _ => rfl))))))))), ?_⟩
    refine ⟨_, rfl, _, rfl, _, rfl, _, _, rfl, rfl, (by show 1 ≤ sizeLine; decide), fun p1 H1 n1 s1 h1 => ?_⟩
    refine fun p2 H2 n2 s2 h2 => ?_
    refine ⟨_, rfl, p2, _, _, rfl, rfl, h2, by omega, by omega, ?_, fun p3 H3 n3 s3 h3 => ?_⟩
    · show 1 * ((most : Nat) : Int).toNat ≤ sizeLine
      exact sz (by omega)
    refine ⟨p1, p3, _, _, rfl, rfl, SqL.of ((s2.trans s3) _ _ h1), SqL.of h3, ?_, fun p4 H4 n4 s4 h4 => ?_⟩
    · show 1 + (List.replicate ((most : Nat) : Int).toNat [V.int 36]).flatten.length ≤ sizeLine
      rw [rep_one, List.length_replicate]
      exact sz (by omega)
    refine ⟨c, salt, p4, [(most : Int) + 1] ++ List.replicate most 36, rfl, s0, s1', SqL.of ?_, ?_, ?_, fun H5 p ds sm hp hL hD => ?_⟩
    · rw [h4]
      show some (HO.lst ([V.int ((most : Int) + 1)] ++ (List.replicate ((most : Nat) : Int).toNat [V.int 36]).flatten)) = _
      rw [rep_one, List.map_append, map_rep, Int.toNat_natCast]; rfl
    · rw [List.length_append, List.length_replicate]
      show 1 + most ≤ 1000
      omega
    · have lg : ∀ x : Int, 0 < x → x ≤ 1000 → 0 < x ∧ x.natAbs.log2 < 9000 := fun x h0 h1 => ⟨h0, by
        have : x.natAbs.log2 < 10 := (Nat.log2_lt (by omega)).mpr (by omega)
        omega⟩
      intro x hx
      rcases List.mem_append.mp hx with hx | hx
      · rw [List.mem_singleton.mp hx]; exact lg _ (by omega) (by omega)
      · rw [(List.mem_replicate.mp hx).2]; exact lg _ (by omega) (by omega)
    have sH := (((s1.trans s2).trans s3).trans s4).trans sm
    obtain ⟨d0, e0, b0⟩ := Paired.get hD (i := 0) (x := (most : Int) + 1) rfl
    have hLq : SqL K H5 p (ds.map V.int) := SqL.of hL
    obtain ⟨n, rfl⟩ := Int.eq_ofNat_of_zero_le b0.1
    have A0 : atI (ds.map V.int) 0 = some (V.int (n : Int)) := atm (f := V.int) e0
    have hn : n ≤ most := by have := b0.2; omega
    refine ⟨⟨_, rfl⟩, ?_⟩
    refine ⟨_, rfl, _, rfl, _, rfl, _, _, _, _, rfl, rfl, hLq, A0, _, _, rfl, rfl, _, rfl, p, _, rfl, hLq, fun q H6 nq s6 hq => ?_⟩
    have ec : cutV (ds.map V.int) (some 1) (some (1 + (n : Int))) = ((ds.drop 1).take n).map V.int := by
      have z : (1 : Int) + (n : Int) = ((1 + n : Nat) : Int) := by omega
      have z2 : 1 + n - 1 = n := by omega
      rw [z, show (some (1 : Int)) = some ((1 : Nat) : Int) from rfl, cutV_mid, z2, List.map_take, List.map_drop]
    rw [ec] at hq
    have posP : (0 : Int) < ((ps.map V.str).length : Nat) := by rw [List.length_map]; omega
    obtain ⟨g, hg⟩ : ∃ g : Int → Str, ∀ d, g d ∈ ps ∧ atI (ps.map V.str) (d % ((ps.map V.str).length : Nat)) = some (V.str (g d)) :=
      ⟨fun d => (mod_at V.str ps np d).choose, fun d => (mod_at V.str ps np d).choose_spec⟩
    have tl : ((ds.drop 1).take n).length ≤ n := by rw [List.length_take]; omega
    refine ⟨q, rfl, ⟨_, SqL.of hq⟩, fun D hD2 => lc_listM (K := K) (item := V.int) (p := fun _ => true) (f := fun d => V.str (g d)) (l := (ds.drop 1).take n) (SqL.of hq) hD2 (by omega) (fun d0 hd0 H2 s2 N M hM _ => ?_) (fun H7 s7 hL2 => ?_)⟩
    · have hP7 := ((sH.trans s6).trans s2).seq hP
      exact ⟨rfl, _, rfl, _, rfl, _, rfl, _, _, rfl, .inl hP7, _, _, rfl, rfl, posP, _, _, _, _, rfl, rfl, hP7, (hg d0).2, hM rfl⟩
    · have ef : ((ds.drop 1).take n).filter (fun _ => true) = (ds.drop 1).take n := List.filter_eq_self.mpr fun _ _ => rfl
      rw [ef] at hL2
      have em : ((ds.drop 1).take n).map (fun d => V.str (g d)) = (((ds.drop 1).take n).map g).map V.str := by rw [List.map_map]; rfl
      rw [em] at hL2
      have inq : ∀ q ∈ ((ds.drop 1).take n).map g, q ∈ ps := fun q hq => by
        obtain ⟨d, _, rfl⟩ := List.mem_map.mp hq
        exact (hg d).1
      have sl := sum_le (((ds.drop 1).take n).map g) 16 fun q hq => pl q (inq q hq)
      rw [List.length_map] at sl
      refine ⟨_, D, ((ds.drop 1).take n).map g, rfl, rfl, .inl (SqL.of hL2), ?_, k _ _ ((sH.trans s6).trans s7) inq (by rw [List.length_map]; omega)⟩
      have e0 : (Str.ofString "").length = 0 := by decide +kernel
      rw [e0]
      omega
end
end Jr
namespace Jr
open PySem PySem.Spec PyProof.Rows L2
section
variable {P : Program} {w : World} {K : PySem.W.Frag} {mg : Str → Option Value} {base : Heap}
def spCellAt (K : PySem.W.Frag) : Sp := fun vs H Q _ => ∃ (a : Addr) (ns : List Int) (k : Nat), vs = [.ref a, .int (k : Nat)] ∧ SqL K H a (ns.map V.int) ∧ ∀ c : Int, Q (.int c) H
theorem cal__law_cell_at (T : Tx K mg) : Cal P w K mg base CX0 1 "_law_cell_at" (spCellAt K) := by
  obtain ⟨fd, F⟩ := T.d__law_cell_at
  refine ⟨_, fd, P__law_cell_at, F.ok sc__law_cell_at (fun vs H Q E h => ?_) (fun cdv A outer s H vs Q E hr h => ?_), T.g__law_cell_at, F.kp, F.bindsN (ps := P__law_cell_at) fun _ _ _ _ _ _ us hl => match us, hl with | [_, _], _ => rfl⟩
  · obtain ⟨a, ns, i, rfl, _⟩ := h
    rfl
  · obtain ⟨a, ns, i, rfl, hS, k⟩ := h
    refine ⟨_, (PSs.nox (pss_cons (ps_if (pt_cmpR op_lt (pv 1) (pe_callB (id := "len") call_len_seq (by rfl) T.n_len (by decide +kernel) (pa_cons (pv 0) pa_nil)) (nomark _)) (pss_one (ps_ret (pe_ix ix_list (pv 0) (pv 1) (fun _ _ => rfl)))) pss_nil)
      (pss_one (ps_ret pe_int)))), ?_⟩
    refine ⟨_, rfl, _, rfl, _, _, rfl, .inl hS, _, _, rfl, rfl, _, rfl, ite2 (fun c => ?_) (fun c => k 0)⟩
    have c' : i < ns.length := by
      have := of_decide_eq_true c
      rw [List.length_map] at this
      omega
    exact ⟨_, rfl, _, rfl, _, _, _, _, rfl, rfl, hS, atm (f := V.int) (List.getElem?_eq_getElem c'), k _⟩
end
end Jr
namespace Jr
open PySem PySem.Spec PyProof.Rows L2
theorem rot_ok63 {z : Str} (ok : SignsOk z) (n : Nat) : SignsOk (cutS z (some (n : Int)) none ++ cutS z none (some (n : Int))) ∧ (cutS z (some (n : Int)) none ++ cutS z none (some (n : Int))).length = z.length := by
  have e : (cutS z (some (n : Int)) none ++ cutS z none (some (n : Int))).cps.toList = z.cps.toList.drop n ++ z.cps.toList.take n := by rw [app_cps, cut_from, cut_to]
  have p : (z.cps.toList.drop n ++ z.cps.toList.take n).Perm z.cps.toList := by
    have := List.perm_append_comm (l₁ := z.cps.toList.drop n) (l₂ := z.cps.toList.take n)
    rwa [List.take_append_drop] at this
  refine ⟨⟨by rw [e]; exact p.nodup_iff.mpr ok.nd, fun c hc => ok.ok c (by rw [e] at hc; exact p.mem_iff.mp hc)⟩, ?_⟩
  rw [← len_cps, e, p.length_eq, len_cps]
theorem flk63 {K : PySem.W.Frag} {H : Hp} {n : Nat} {sv u : V} (wr : WRen K H n sv u) : ∀ v ∈ [V.int 0, V.str (Str.ofString "signs"), u], Fl v := fun v hv => by
  simp only [List.mem_cons, List.not_mem_nil, or_false] at hv
  rcases hv with rfl | rfl | rfl
  · exact trivial
  · exact fun c hc => of_decide_eq_true (List.all_eq_true.mp (show (Str.ofString "signs").cps.toList.all (fun c => decide (c ≤ 126)) = true by decide +kernel) c hc)
  · exact wr.fl.1
section
variable {P : Program} {w : World} {K : PySem.W.Frag} {mg : Str → Option Value} {base : Heap}
def spBlock63 (K : PySem.W.Frag) : Sp := fun vs H Q _ => ∃ (a : Addr) (ns : List Int) (i : Nat), vs = [.ref a, .int (i : Nat)] ∧ SqL K H a (ns.map V.int) ∧ i ≤ 63 ∧ ∀ H', Same H H' → Q (.bl true) H'
theorem cal__law_block63 (T : Tx K mg) : Cal P w K mg base CX0 8 "_law_block" (spBlock63 K) := by
  have C__law_cell_at := cal__law_cell_at (P := P) (w := w) (base := base) T
  have C__law_numbers := cal__law_numbers (P := P) (w := w) (base := base) T
  have C__law_table := cal__law_table (P := P) (w := w) (base := base) T
  have C__law_signs := cal__law_signs (P := P) (w := w) (base := base) T
  have C__law_words := cal__law_words (P := P) (w := w) (base := base) T
  have C__law_pieces := cal__law_pieces (P := P) (w := w) (base := base) T
  have C__law_bent := cal__law_bent63 (P := P) (w := w) (base := base) T
  have C__law_due := cal__law_due63 (P := P) (w := w) (base := base) T
  have C__law_good := cal__law_good63 (P := P) (w := w) (base := base) T
  have C__law_refused := cal__law_refused63 (P := P) (w := w) (base := base) T
  have C__law_is_table := cal__law_is_table (P := P) (w := w) (base := base) T
  have C_Table := mkc_Table (P := P) (w := w) (base := base) T
  obtain ⟨fd, F⟩ := T.d__law_block
  refine ⟨_, fd, P__law_block, F.ok sc__law_block (fun vs H Q E h => ?_) (fun cdv A outer s H vs Q E hr h => ?_), T.g__law_block, F.kp, F.bindsN (ps := P__law_block) fun _ _ _ _ _ _ us hl => match us, hl with | [_, _], _ => rfl⟩
  · obtain ⟨a, ns, i, rfl, _⟩ := h
    rfl
  · obtain ⟨a, ns, i, rfl, hS, hi, k⟩ := h
    refine ⟨_, (PSs.nox (pss_cons (ps_set (i := 2) sc__law_block.nd rfl (Or.inl rfl) (pe_cal C__law_table (by first | exact hr | exact hr.mono (by decide)) (by rfl) (pa_cons (pe_cal C__law_cell_at (by first | exact hr | exact hr.mono (by decide)) (by rfl) (pa_cons (pv 0) (pa_cons (pv 1) pa_nil))) (pa_cons (pe_op op_add pe_int (pv 1)) (pa_cons pe_int pa_nil)))))
      (pss_cons (ps_set (i := 3) sc__law_block.nd rfl (Or.inl rfl) (pe_callB (id := "len") call_len_str (by rfl) T.n_len (by decide +kernel) (pa_cons (pe_ix ix_tup (pv 2) pe_int (fun _ _ => rfl)) pa_nil)))
      (pss_cons (ps_set (i := 4) sc__law_block.nd rfl (Or.inl rfl) (pe_cal C__law_numbers (by first | exact hr | exact hr.mono (by decide)) (by rfl) (pa_cons (pe_cal C__law_cell_at (by first | exact hr | exact hr.mono (by decide)) (by rfl) (pa_cons (pv 0) (pa_cons (pe_op op_add (pv 1) pe_int) pa_nil))) (pa_cons (pe_op op_add pe_int (pv 1)) (pa_cons (pe_intsAs (ns := [4, 12, 94, 94, 94, 94, 94, 94, 94, 94, 94, 94, 94, 94]) (pe_catI (pe_litI (ns := [4, 12]) (pe_lst (pa_cons pe_int (pa_cons pe_int pa_nil))) (fun _ _ _ => rfl) (by decide)) (pe_repI (k := 12) (pe_litI (ns := [94]) (pe_lst (pa_cons pe_int pa_nil)) (fun _ _ _ => rfl) (by decide)) pe_int (by decide) (by decide)) (by decide)) (by decide)) pa_nil)))))
      (pss_cons (ps_set (i := 5) sc__law_block.nd rfl (Or.inl rfl) (pe_cal C__law_signs (by first | exact hr | exact hr.mono (by decide)) (by rfl) (pa_cons (pe_slice sl_listG (pv 4) (po_some pe_int) (po_some (pe_op op_add pe_int (pv 3)))) pa_nil)))
      (C8.pss_cut (ps_if (pt_cmpR op_eq (pe_ix ix_list (pv 4) pe_int (fun _ _ => rfl)) pe_int (nomark _)) (pss_cons (ps_set (i := 6) sc__law_block.nd rfl (Or.inl rfl) (pe_op op_mod (pe_ix ix_list (pv 4) pe_int (fun _ _ => rfl)) (pv 3)))
      (pss_one (ps_set (i := 5) sc__law_block.nd rfl (Or.inl rfl) (pe_op op_add_str (pe_slice sl_str (pe_ix ix_tup (pv 2) pe_int (fun _ _ => rfl)) (po_some (pv 6)) po_none) (pe_slice sl_str (pe_ix ix_tup (pv 2) pe_int (fun _ _ => rfl)) po_none (po_some (pv 6))))))) pss_nil)
      (pss_cons (ps_set (i := 7) sc__law_block.nd rfl (Or.inl rfl) (pe_cal C__law_words (by first | exact hr | exact hr.mono (by decide)) (by rfl) (pa_cons (pe_cal C__law_cell_at (by first | exact hr | exact hr.mono (by decide)) (by rfl) (pa_cons (pv 0) (pa_cons (pe_op op_add (pv 1) pe_int) pa_nil))) (pa_cons (pe_op op_add pe_int (pv 1)) (pa_cons (pe_cal C__law_pieces (by first | exact hr | exact hr.mono (by decide)) (by rfl) (pa_cons (pv 2) pa_nil)) (pa_cons pe_int pa_nil))))))
      (pss_cons (ps_set (i := 8) sc__law_block.nd rfl (Or.inl rfl) (pe_cal C__law_bent (by first | exact hr | exact hr.mono (by decide)) (by rfl) (pa_cons (pv 5) (pa_cons (pe_cal C__law_numbers (by first | exact hr | exact hr.mono (by decide)) (by rfl) (pa_cons (pe_cal C__law_cell_at (by first | exact hr | exact hr.mono (by decide)) (by rfl) (pa_cons (pv 0) (pa_cons (pe_op op_add (pv 1) pe_int) pa_nil))) (pa_cons (pe_op op_add pe_int (pv 1)) (pa_cons (pe_intsAs (ns := [6, 13, 94, 5]) (pe_litI (ns := [6, 13, 94, 5]) (pe_lst (pa_cons pe_int (pa_cons pe_int (pa_cons pe_int (pa_cons pe_int pa_nil))))) (fun _ _ _ => rfl) (by decide)) (by decide)) pa_nil)))) pa_nil))))
      (pss_cons (ps_set (i := 9) sc__law_block.nd rfl (Or.inl rfl) (pe_mk C_Table (by first | exact hr | exact hr.mono (by decide)) rfl (pa_cons (pe_ix ix_tup (pv 2) pe_int (fun _ _ => rfl)) (pa_cons (pe_ix ix_tup (pv 2) pe_int (fun _ _ => rfl)) pa_nil))))
      (pss_cons (ps_if (pt_not (pt_val (pe_cal C__law_good (by first | exact hr | exact hr.mono (by decide)) (by rfl) (pa_cons (pv 9) (pa_cons (pv 2) (pa_cons (pv 5) (pa_cons (pv 7) pa_nil))))))) (pss_one (ps_ret pe_bl)) pss_nil)
      (pss_cons (ps_set (i := 10) sc__law_block.nd rfl (Or.inl rfl) (pe_cal C__law_due (by first | exact hr | exact hr.mono (by decide)) (by rfl) (pa_cons (pv 8) (pa_cons (pv 3) pa_nil))))
      (C8.pss_cut (ps_if (PW.pt (pw_and (pt_cmpR (op_neD hr.units) (pv 10) (pe_lstG pa_nil) (nomark _)) (pw_and1 (pt_not (pt_val (pe_cal C__law_refused (by first | exact hr | exact hr.mono (by decide)) (by rfl) (pa_cons (pv 9) (pa_cons (pv 8) (pa_cons (pv 10) pa_nil))))))))) (pss_one (ps_ret pe_bl)) pss_nil)
      (pss_cons (ps_if (PW.pt (pw_and (pt_cmpR (op_eqD hr.units) (pv 10) (pe_lstG pa_nil) (nomark _)) (pw_and1 (pt_not (pt_val (pe_cal C__law_good (by first | exact hr | exact hr.mono (by decide)) (by rfl) (pa_cons (pv 9) (pa_cons (pv 2) (pa_cons (pv 8) (pa_cons (pv 7) pa_nil)))))))))) (pss_one (ps_ret pe_bl)) pss_nil)
      (pss_one (ps_ret (pe_and (pe_cal C__law_is_table (by first | exact hr | exact hr.mono (by decide)) (by rfl) (pa_cons (pv 9) (pa_cons (pv 2) pa_nil))) (pe_one (pe_cal C__law_good (by first | exact hr | exact hr.mono (by decide)) (by rfl) (pa_cons (pv 9) (pa_cons (pv 2) (pa_cons (pv 5) (pa_cons (pv 7) pa_nil)))))))))))))))))))))), ?_⟩
    refine ⟨_, rfl, _, rfl, a, ns, i, rfl, hS, fun c0 => ?_⟩
    refine ⟨_, rfl, _, _, rfl, rfl, ?_⟩
    refine ⟨c0, _, 8, rfl, ?_, ?_, by decide, fun H1 tt p z rs s1 htt _ hR tk => ?_⟩
    · show (0 : Int) ≤ 6300 + ((i : Nat) : Int)
      omega
    · show 6300 + ((i : Nat) : Int) ≤ 100000
      omega
    have n1 := tk.n1
    have n12 := tk.n12
    have hz : z.length ≤ sizeLine := sz (by omega)
    refine ⟨_, rfl, tt, _, _, _, rfl, rfl, SqT.of htt, rfl, _, rfl, hz, ?_⟩
    refine ⟨_, rfl, _, rfl, _, _, rfl, rfl, a, ns, i + 1, (by rw [Int.natCast_add]; rfl), s1.seq hS, fun c1 => ?_⟩
    refine ⟨_, rfl, _, _, rfl, rfl, fun q1 H2 nq1 s2 hq1 => ?_⟩
    refine ⟨c1, _, q1, _, rfl, ?_, ?_, SqL.of hq1, by decide, sizes_ok (by decide), fun H3 pd ds s3 npd hD hds => ?_⟩
    · show (0 : Int) ≤ 6301 + ((i : Nat) : Int)
      omega
    · show 6301 + ((i : Nat) : Int) ≤ 100000
      omega
    have dl : ds.length = 14 := (Paired.len hds).symm
    obtain ⟨d0, e0, b0, A0⟩ := dig hds (j := 0) (z := 4) rfl
    obtain ⟨d1, e1, b1, A1⟩ := dig hds (j := 1) (z := 12) rfl
    have s03 := (s1.trans s2).trans s3
    refine ⟨_, rfl, _, rfl, _, rfl, _, _, rfl, rfl, _, rfl, pd, _, rfl, SqL.of hD, fun q4 H4 nq4 s4 hq4 => ?_⟩
    have hq4' : H4 q4 = some (.lst (((ds.drop 2).take z.length).map V.int)) := by
      rw [hq4, show (2 : Int) + (z.length : Int) = ((2 + z.length : Nat) : Int) by omega]
      refine congrArg (fun l => some (HO.lst l)) ((cut_mid ds 2 (2 + z.length)).trans ?_)
      rw [show 2 + z.length - 2 = z.length by omega]
    refine ⟨q4, (ds.drop 2).take z.length, rfl, SqL.of hq4', by rw [List.length_take]; omega, fun d hd' => ?_, fun H5 z0 s5 ok0 zl0 => ?_⟩
    · have hP := Paired.tk z.length (Paired.dr 2 hds)
      have e94 : (([4, 12, 94, 94, 94, 94, 94, 94, 94, 94, 94, 94, 94, 94] : List Int).drop 2).take z.length = List.replicate z.length 94 := by
        show (List.replicate 12 (94 : Int)).take z.length = _
        rw [List.take_replicate, Nat.min_eq_left n12]
      rw [e94] at hP
      obtain ⟨x, hx, b⟩ := Paired.mem2 hP hd'
      rw [(List.mem_replicate.mp hx).2] at b
      exact b
    rw [List.length_take, List.length_drop, dl] at zl0
    have zl0 : z0.length = z.length := by omega
    have s05 := s03.trans (s4.trans s5)
    have hD5 := (s4.trans s5) _ _ hD
    have htt5 := (s2.trans (s3.trans (s4.trans s5))) _ _ htt
    have hR5 := hR.same (s2.trans (s3.trans (s4.trans s5)))
    clear hq4 hq4' hq1 hD htt hR s03
    have sqD := SqL.of (K := K) hD5
    refine ⟨fun σ H' => ∃ (z' : Str) (u6 : Option V), σ = [some (.ref a), some (.int (i : Nat)), some (.ref tt), some (.int (z.length : Nat)), some (.ref pd), some (.str z'), u6, none, none, none, none] ∧ H' = H5 ∧ SignsOk z' ∧ z'.length = z.length, ?_, ?_⟩
    · refine ⟨_, rfl, pd, _, _, _, rfl, rfl, sqD, A0, rfl, _, rfl, ite2 (fun _ => ?_) (fun _ => ⟨z0, _, rfl, rfl, ok0, zl0⟩)⟩
      refine ⟨_, rfl, pd, _, _, _, rfl, rfl, sqD, A1, _, rfl, _, _, rfl, rfl, (by show (0 : Int) < _; omega), ?_⟩
      obtain ⟨m, em⟩ : ∃ m : Nat, ((d1 : Nat) : Int) % ((z.length : Nat) : Int) = (m : Int) := ⟨d1 % z.length, by rw [Int.natCast_emod]⟩
      show gName 6 (V.int (((d1 : Nat) : Int) % ((z.length : Nat) : Int))) _ _ _
      rw [em]
      have rk := rot_ok63 tk.sg m
      have rl := rk.2
      rw [app_len] at rl
      exact ⟨_, rfl, tt, _, _, _, rfl, rfl, SqT.of htt5, rfl, _, rfl, _, rfl, _, rfl, hz, _, rfl, tt, _, _, _, rfl, rfl, SqT.of htt5, rfl, _, rfl, _, rfl, _, rfl, hz, _, _, rfl, rfl, sz (by omega), _, _, rfl, rfl, rk.1, rk.2⟩
    rintro σ H6 ⟨z', u6, rfl, rfl, ok', el⟩
    have hS6 := s05.seq hS
    refine ⟨_, rfl, _, rfl, _, _, rfl, rfl, a, ns, i + 2, (by rw [Int.natCast_add]; rfl), hS6, fun c2 => ?_⟩
    refine ⟨_, rfl, _, _, rfl, rfl, _, rfl, tt, p, z, rs, rfl, htt5, hR5, tk, fun H7 lp s7 nlp hlp => ?_⟩
    have np : 0 < (pcs z rs).length := by rw [pcs_len]; omega
    have pl16 : ∀ q ∈ pcs z rs, q.length ≤ 16 := fun q hq => (tk.plen hq).2
    refine ⟨c2, _, lp, pcs z rs, 3, rfl, ?_, ?_, SqL.of hlp, np, pl16, by decide, fun H8 qs s8 hqs lqs => ?_⟩
    · show (0 : Int) ≤ 6302 + ((i : Nat) : Int)
      omega
    · show 6302 + ((i : Nat) : Int) ≤ 100000
      omega
    obtain ⟨tx, tl0⟩ := join_pcs tk hqs
    have tl : (Txt.join (Str.ofString "") qs).length ≤ 1000 := by omega
    clear tl0
    revert tx tl
    generalize Txt.join (Str.ofString "") qs = t
    intro tx tl
    have s68 := s7.trans s8
    refine ⟨_, rfl, _, rfl, _, rfl, _, _, rfl, rfl, a, ns, i + 3, (by rw [Int.natCast_add]; rfl), s68.seq hS6, fun c3 => ?_⟩
    refine ⟨_, rfl, _, _, rfl, rfl, fun q9 H9 nq9 s9 hq9 => ?_⟩
    refine ⟨c3, _, q9, _, rfl, ?_, ?_, SqL.of hq9, by decide, sizes_ok (by decide), fun HA pe es sA npe hE hes => ?_⟩
    · show (0 : Int) ≤ 6303 + ((i : Nat) : Int)
      omega
    · show 6303 + ((i : Nat) : Int) ≤ 100000
      omega
    obtain ⟨g0, h0, _, _⟩ := dig hes (j := 0) (z := 6) rfl
    obtain ⟨g1, h1, _, _⟩ := dig hes (j := 1) (z := 13) rfl
    obtain ⟨g2, h2, c2', _⟩ := dig hes (j := 2) (z := 94) rfl
    obtain ⟨g3, h3, c3', _⟩ := dig hes (j := 3) (z := 5) rfl
    have el4 : es.length = 4 := (Paired.len hes).symm
    have ee : es.map V.int = [.int (g0 : Nat), .int (g1 : Nat), .int (g2 : Nat), .int (g3 : Nat)] := by
      have e : es = [(g0 : Int), g1, g2, g3] := List.ext_getElem? fun j => by
        match j with
        | 0 => exact h0
        | 1 => exact h1
        | 2 => exact h2
        | 3 => exact h3
        | j + 4 => rw [List.getElem?_eq_none (by omega)]; rfl
      rw [e]; rfl
    rw [ee] at hE
    refine ⟨z', pe, g0, g1, g2, g3, rfl, by omega, by omega, hE, by omega, by omega, fun HB bv sB hbv => ?_⟩
    have s6B := (s68.trans (s9.trans sA)).trans sB
    have htB := s6B _ _ htt5
    have hRB := hR5.same s6B
    refine ⟨_, rfl, tt, _, _, _, rfl, rfl, SqT.of htB, rfl, _, rfl, tt, _, _, _, rfl, rfl, SqT.of htB, rfl, ?_⟩
    intro x dx hx hdx ndx
    refine ⟨HB, x, dx, p, z, rs, rfl, rfl, hx, hdx, ndx, hRB, tk, fun HC sC ta => ⟨rfl, ?_⟩⟩
    have htC := sC _ _ htB
    have hRC := hRB.same sC
    have hbC : Bent63 K HC bv := by
      rcases hbv with h | h
      · exact .inl (h.same sC)
      · exact .inr h
    refine ⟨_, rfl, _, rfl, _, rfl, _, rfl, x, tt, p, z, z', rs, t, rfl, ta, htC, hRC, ok', el, tx, tl, fun HD sD => ⟨_, rfl, iteF ?_⟩⟩
    refine ⟨_, rfl, _, rfl, bv, z.length, rfl, ?_, fun HE du sE hdu => ?_⟩
    · rcases hbC with h | h
      · exact .inl (h.same sD)
      · exact .inr h
    have taE := (ta.same sD).same sE
    have htE := (sD.trans sE) _ _ htC
    have hRE := hRC.same (sD.trans sE)
    have s0E := (((s05.trans s6B).trans sC).trans sD).trans sE
    have last : ∀ H', Same HE H' → tRet (tAndV (fun σ H Q => tCons (tVar 9) (tCons (tVar 2) tNil) σ H fun vs H1 => spIsTable K vs H1 Q E0) fun σ H Q => tCons (tVar 9) (tCons (tVar 2) (tCons (tVar 5) (tCons (tVar 7) tNil))) σ H fun vs H1 => spGood63 K vs H1 Q E0) { nx := fun x H' => Q V.non H', rt := Q }
        [some (.ref a), some (.int (i : Nat)), some (.ref tt), some (.int (z.length : Nat)), some (.ref pd), some (.str z'), u6, some (.str t), some bv, some (.ref x), some (.ref du)] H' := fun H' s' =>
      ⟨_, rfl, _, rfl, x, tt, p, z, rs, rfl, taE.same s', s' _ _ htE, hRE.same s', fun H1 s1' => ⟨_, rfl, iteT ⟨_, rfl, _, rfl, _, rfl, _, rfl, x, tt, p, z, z', rs, t, rfl, (taE.same s').same s1', (s'.trans s1') _ _ htE, hRE.same (s'.trans s1'), ok', el, tx, tl, fun H2' s2' => k H2' (s0E.trans ((s'.trans s1').trans s2'))⟩⟩⟩
    refine ⟨fun σ H' => σ = [some (.ref a), some (.int (i : Nat)), some (.ref tt), some (.int (z.length : Nat)), some (.ref pd), some (.str z'), u6, some (.str t), some bv, some (.ref x), some (.ref du)] ∧ Same HE H', ?_, ?_⟩
    · rcases hdu with ⟨z2, rfl, ok2, a1, a2, e2, hdu⟩ | ⟨u, wr, hdu⟩
      · refine ⟨_, rfl, (by show 0 ≤ sizeLine; decide), fun e HF ne sF he => ?_⟩
        refine ⟨_, _, dpL (xs := []) (SqL.of (sF _ _ hdu)) (fun _ h => by cases h), dpL (xs := []) (SqL.of he) (fun _ h => by cases h), shL (fun _ h => by cases h), shL (fun _ h => by cases h), _, rfl, ?_⟩
        exact iteF ⟨rfl, sF⟩
      · have flk := flk63 wr
        refine ⟨_, rfl, (by show 0 ≤ sizeLine; decide), fun e HF ne sF he => ?_⟩
        refine ⟨_, _, dpL (SqL.of (sF _ _ hdu)) flk, dpL (xs := []) (SqL.of he) (fun _ h => by cases h), shL flk, shL (fun _ h => by cases h), _, rfl, ?_⟩
        refine iteT ⟨_, rfl, _, rfl, _, rfl, x, z, rs, bv, u, du, rfl, taE.same sF, wr.same (sE.trans sF), sF _ _ hdu, fun HG sG => ⟨_, rfl, iteF ⟨rfl, sF.trans sG⟩⟩⟩
    rintro σ HF ⟨rfl, sF⟩
    rcases hdu with ⟨z2, rfl, ok2, a1, a2, e2, hdu⟩ | ⟨u, wr, hdu⟩
    · refine ⟨_, rfl, (by show 0 ≤ sizeLine; decide), fun e HG ne sG he => ?_⟩
      have sFG := sF.trans sG
      refine ⟨_, _, dpL (xs := []) (SqL.of (sFG _ _ hdu)) (fun _ h => by cases h), dpL (xs := []) (SqL.of he) (fun _ h => by cases h), shL (fun _ h => by cases h), shL (fun _ h => by cases h), _, rfl, ?_⟩
      refine iteT ⟨_, rfl, _, rfl, _, rfl, _, rfl, x, tt, p, z, z2, rs, t, rfl, taE.same sFG, sFG _ _ htE, hRE.same sFG, ok2, e2, tx, tl, fun HH sH => ⟨_, rfl, iteF ?_⟩⟩
      exact last HH (sFG.trans sH)
    · have flk := flk63 wr
      refine ⟨_, rfl, (by show 0 ≤ sizeLine; decide), fun e HG ne sG he => ?_⟩
      have sFG := sF.trans sG
      refine ⟨_, _, dpL (SqL.of (sFG _ _ hdu)) flk, dpL (xs := []) (SqL.of he) (fun _ h => by cases h), shL flk, shL (fun _ h => by cases h), _, rfl, ?_⟩
      exact iteF (last HG sFG)
end
end Jr
namespace Jr
open PySem PySem.Spec PyProof.Rows L2
/-! ### ranges by a step, up to 63 -/
def rgQ (c : Nat) : Bool := (List.range 64).all fun h => Builtin.Range.small 0 (h : Int) (c : Int) && decide (Builtin.Range.rangeSize 0 (h : Int) (c : Int) = (((h + (c - 1)) / c : Nat) : Int))
theorem rgQ2 : rgQ 2 = true := by decide +kernel
theorem rgQ_by {c h : Nat} (hb : rgQ (c + 1) = true) (hh : h ≤ 63) (hc : c < 1000 := by decide) : RgC 0 (h : Int) ((c + 1 : Nat) : Int) ((h + c) / (c + 1)) := by
  have := List.all_eq_true.mp hb h (List.mem_range.mpr (by omega))
  rw [Bool.and_eq_true, decide_eq_true_eq] at this
  refine ⟨by omega, by omega, this.1, ?_⟩
  have e := this.2
  rw [Nat.add_sub_cancel] at e
  exact e
/-- max(lo, min(hi, n)) -/
theorem clamp (n lo hi : Nat) (h : lo ≤ hi) : ∃ m : Nat, lo ≤ m ∧ m ≤ hi ∧ (if (if ((n : Nat) : Int) < ((hi : Nat) : Int) then ((n : Nat) : Int) else ((hi : Nat) : Int)) > ((lo : Nat) : Int) then (if ((n : Nat) : Int) < ((hi : Nat) : Int) then ((n : Nat) : Int) else ((hi : Nat) : Int)) else ((lo : Nat) : Int)) = ((m : Nat) : Int) := by
  refine ⟨max lo (min hi n), by omega, by omega, ?_⟩
  split <;> split <;> omega
end Jr
namespace Jr
open PySem PySem.Spec PyProof.Rows L2
theorem rgQ63 : rgQ 4 = true := by decide +kernel
section
variable {P : Program} {w : World} {K : PySem.W.Frag} {mg : Str → Option Value}
theorem fn_law (T : Tx K mg) : ∃ fd, FunD K "law" "law" (defArgs s_law) (defBody s_law) (defScope s_law) [] [] (He.fAd K ("law", none)) fd ∧ ∀ base : Heap, FnOk P w K mg base CX0 9 (He.fAd K ("law", none)) fd P_law (spLaw K) := by
  obtain ⟨fd, F⟩ := T.d_law
  refine ⟨fd, F, fun base => ?_⟩
  have C__law_block := cal__law_block63 (P := P) (w := w) (base := base) T
  refine F.ok sc_law (fun vs H Q E h => ?_) (fun cdv A outer s H vs Q E hr h => ?_)
  · obtain ⟨a, ns, rfl, _⟩ := h
    rfl
  · obtain ⟨a, ns, rfl, hS, hlen, k⟩ := h
    refine ⟨_, (PSs.nox (pss_cons (ps_for PassesOwn.never rfl (pi_range3 (by rfl) T.n_range (pa_cons pe_int (pa_cons (pe_callB (id := "max") (call_max2 rfl) (by rfl) T.n_max (by decide +kernel) (pa_cons pe_int (pa_cons (pe_callB (id := "min") (call_min2 rfl) (by rfl) T.n_min (by decide +kernel) (pa_cons pe_int (pa_cons (pe_callB (id := "len") call_len_seq (by rfl) T.n_len (by decide +kernel) (pa_cons (pv 0) pa_nil)) pa_nil))) pa_nil))) (pa_cons pe_int pa_nil)))) (pg_name (i := 1) sc_law.nd rfl (Or.inl rfl)) (pss_one (ps_if (pt_not (pt_val (pe_cal C__law_block (by first | exact hr | exact hr.mono (by decide)) (by rfl) (pa_cons (pv 0) (pa_cons (pv 1) pa_nil))))) (pss_one (ps_ret pe_bl)) pss_nil)))
      (pss_one (ps_ret pe_bl)))), ?_⟩
    obtain ⟨hi, hhi, ehi⟩ : ∃ hi : Nat, 1 ≤ hi ∧ hi ≤ 60 ∧ (if (if (((ns.map V.int).length : Nat) : Int) < 60 then (((ns.map V.int).length : Nat) : Int) else 60) > 1 then (if (((ns.map V.int).length : Nat) : Int) < 60 then (((ns.map V.int).length : Nat) : Int) else 60) else 1) = ((hi : Nat) : Int) := by
      refine ⟨max 1 (min 60 ns.length), by omega, by omega, ?_⟩
      rw [List.length_map]
      split <;> split <;> omega
    obtain ⟨hi60, ehi⟩ := ehi
    refine ⟨_, rfl, a, _, rfl, .inl hS, _, _, rfl, _, _, rfl, ?_⟩
    rw [ehi]
    refine ⟨0, _, 4, (hi + 3) / 4, rfl, rgQ_by rgQ63 (by omega), ?_⟩
    refine for_rangeC (lo := 0) (c := 4) (n := (hi + 3) / 4) (fun j σ H' => ∃ (u5 : Option V), σ = [some (.ref a), u5] ∧ Same H H') ⟨_, rfl, Same.refl _⟩ ?_ (fun σ H' _ => k H')
    rintro j σ H' hj ⟨u5, rfl, sm⟩
    refine ⟨_, rfl, _, rfl, a, ns, 4 * j, ?_, sm.seq hS, by omega, fun H3 s3 => ⟨_, rfl, iteF ⟨_, rfl, sm.trans s3⟩⟩⟩
    show [V.ref a, V.int (0 + ((j : Nat) : Int) * 4)] = _
    rw [show (0 : Int) + ((j : Nat) : Int) * 4 = ((4 * j : Nat) : Int) by omega]
end
end Jr
namespace Jr
open PySem PySem.Spec PyProof.Rows L2
theorem tx_of {K : PySem.W.Frag} {h : Heap} {mg : Str → Option Value} {w : World} (X : K.In h) (G : h.Ns mainGlobals mg) (c : SaysC fa fn (fun K => (exs K).all id) w K) : Tx K mg := {
    n_len := He.free_ok X G (c.t.d.fact 0 (f := .free "len") rfl)
    n_range := He.free_ok X G (c.t.d.fact 1 (f := .free "range") rfl)
    n_max := He.free_ok X G (c.t.d.fact 2 (f := .free "max") rfl)
    n_min := He.free_ok X G (c.t.d.fact 3 (f := .free "min") rfl)
    n_isinstance := He.free_ok X G (c.t.d.fact 4 (f := .free "isinstance") rfl)
    n_str := He.free_ok X G (c.t.d.fact 5 (f := .free "str") rfl)
    n_bool := He.free_ok X G (c.t.d.fact 6 (f := .free "bool") rfl)
    n_list := He.free_ok X G (c.t.d.fact 7 (f := .free "list") rfl)
    n_tuple := He.free_ok X G (c.t.d.fact 8 (f := .free "tuple") rfl)
    n_dict := He.free_ok X G (c.t.d.fact 9 (f := .free "dict") rfl)
    n_ord := He.free_ok X G (c.t.d.fact 10 (f := .free "ord") rfl)
    n_enumerate := He.free_ok X G (c.t.d.fact 11 (f := .free "enumerate") rfl)
    n_zip := He.free_ok X G (c.t.d.fact 12 (f := .free "zip") rfl)
    n_ValueError := He.free_ok X G (c.t.d.fact 13 (f := .free "ValueError") rfl)
    c_MOST_SIGNS := He.int_ok X G (c.t.d.fact 14 (f := .int "MOST_SIGNS" 12) rfl)
    c_MOST_ROWS := He.int_ok X G (c.t.d.fact 15 (f := .int "MOST_ROWS" 24) rfl)
    c_MOST_JOINED := He.int_ok X G (c.t.d.fact 16 (f := .int "MOST_JOINED" 16) rfl)
    c_BLANK_CODE := He.int_ok X G (c.t.d.fact 17 (f := .int "BLANK_CODE" 32) rfl)
    c_PERCENT_CODE := He.int_ok X G (c.t.d.fact 18 (f := .int "PERCENT_CODE" 37) rfl)
    c_TILDE_CODE := He.int_ok X G (c.t.d.fact 19 (f := .int "TILDE_CODE" 126) rfl)
    g_JoinError := He.glo_ok X G (c.t.d.fact 20 (f := .glo "JoinError") rfl)
    rd_JoinError := (exAt (i := 0) c.more rfl)
    ga_JoinError := of_decide_eq_true (exAt (i := 1) c.more rfl)
    fc_JoinError := fcB_ok (exAt (i := 2) c.more rfl)
    g_NoTable := He.glo_ok X G (c.t.d.fact 21 (f := .glo "NoTable") rfl)
    xc_NoTable := xcB_ok (exAt (i := 3) c.more rfl)
    in_NoTable := of_decide_eq_true (exAt (i := 4) c.more rfl)
    it_NoTable := of_decide_eq_true (exAt (i := 5) c.more rfl)
    no_NoTable_part := of_decide_eq_true (exAt (i := 6) c.more rfl)
    no_NoTable_number := of_decide_eq_true (exAt (i := 7) c.more rfl)
    exm_NoTable_JoinError := of_decide_eq_true (exAt (i := 8) c.more rfl)
    kit_NoTable_JoinError := of_decide_eq_true (exAt (i := 9) c.more rfl)
    kit_NoTable_NoTable := of_decide_eq_true (exAt (i := 10) c.more rfl)
    kit_NoTable_NoGrammar := of_decide_eq_true (exAt (i := 11) c.more rfl)
    kit_NoTable_NoCutting := of_decide_eq_true (exAt (i := 12) c.more rfl)
    kit_NoTable_NoSign := of_decide_eq_true (exAt (i := 13) c.more rfl)
    kit_NoTable_NoPiece := of_decide_eq_true (exAt (i := 14) c.more rfl)
    kit_NoTable_NoNumber := of_decide_eq_true (exAt (i := 15) c.more rfl)
    kit_NoTable_NoCount := of_decide_eq_true (exAt (i := 16) c.more rfl)
    kit_NoTable_NoText := of_decide_eq_true (exAt (i := 17) c.more rfl)
    kit_NoTable_NoPlace := of_decide_eq_true (exAt (i := 18) c.more rfl)
    kit_NoTable_NoLead := of_decide_eq_true (exAt (i := 19) c.more rfl)
    kit_NoTable_NoDeed := of_decide_eq_true (exAt (i := 20) c.more rfl)
    kit_NoTable_NoRow := of_decide_eq_true (exAt (i := 21) c.more rfl)
    kit_NoTable_NoName := of_decide_eq_true (exAt (i := 22) c.more rfl)
    kit_NoTable_ValueError := of_decide_eq_true (exAt (i := 23) c.more rfl)
    g_NoGrammar := He.glo_ok X G (c.t.d.fact 22 (f := .glo "NoGrammar") rfl)
    g_NoCutting := He.glo_ok X G (c.t.d.fact 23 (f := .glo "NoCutting") rfl)
    g_NoSign := He.glo_ok X G (c.t.d.fact 24 (f := .glo "NoSign") rfl)
    g_NoPiece := He.glo_ok X G (c.t.d.fact 25 (f := .glo "NoPiece") rfl)
    g_NoNumber := He.glo_ok X G (c.t.d.fact 26 (f := .glo "NoNumber") rfl)
    g_NoCount := He.glo_ok X G (c.t.d.fact 27 (f := .glo "NoCount") rfl)
    g_NoText := He.glo_ok X G (c.t.d.fact 28 (f := .glo "NoText") rfl)
    g_NoPlace := He.glo_ok X G (c.t.d.fact 29 (f := .glo "NoPlace") rfl)
    g_NoLead := He.glo_ok X G (c.t.d.fact 30 (f := .glo "NoLead") rfl)
    g_NoDeed := He.glo_ok X G (c.t.d.fact 31 (f := .glo "NoDeed") rfl)
    g_NoRow := He.glo_ok X G (c.t.d.fact 32 (f := .glo "NoRow") rfl)
    g_NoName := He.glo_ok X G (c.t.d.fact 33 (f := .glo "NoName") rfl)
    g_Table := He.glo_ok X G (c.t.d.fact 34 (f := .glo "Table") rfl)
    cl_Table := He.cls_ok (c.t.d.fact 35 (f := .cls "Table") rfl)
    no_Table_sign_text := He.noat_ok (c.t.d.fact 36 (f := .noat "Table" "sign_text") rfl)
    no_Table_row_list := He.noat_ok (c.t.d.fact 37 (f := .noat "Table" "row_list") rfl)
    no_Table_piece_list := He.noat_ok (c.t.d.fact 38 (f := .noat "Table" "piece_list") rfl)
    no_Table_number_by_piece := He.noat_ok (c.t.d.fact 39 (f := .noat "Table" "number_by_piece") rfl)
    no_Table_rank_by_row := He.noat_ok (c.t.d.fact 40 (f := .noat "Table" "rank_by_row") rfl)
    no_Table_most_signs := He.noat_ok (c.t.d.fact 41 (f := .noat "Table" "most_signs") rfl)
    mk_Table := He.mkr_ok (c.t.d.fact 42 (f := .mkr "Table") rfl)
    m_Table_take_piece := He.meth_ok (c.t.d.fact 43 (f := .meth "Table" "take_piece") rfl)
    m_Table_may_take_row := He.meth_ok (c.t.d.fact 44 (f := .meth "Table" "may_take_row") rfl)
    m_Table_take_row := He.meth_ok (c.t.d.fact 45 (f := .meth "Table" "take_row") rfl)
    m_Table_signs := He.meth_ok (c.t.d.fact 46 (f := .meth "Table" "signs") rfl)
    m_Table_rows := He.meth_ok (c.t.d.fact 47 (f := .meth "Table" "rows") rfl)
    m_Table_which := He.meth_ok (c.t.d.fact 48 (f := .meth "Table" "which") rfl)
    m_Table_parts := He.meth_ok (c.t.d.fact 49 (f := .meth "Table" "parts") rfl)
    m_Table_rank := He.meth_ok (c.t.d.fact 50 (f := .meth "Table" "rank") rfl)
    d_JoinError___init__ := c.t.d.def_ 0 (d := ⟨("JoinError", some "__init__"), "__init__", "JoinError.__init__", defArgs s_JoinError___init__, defBody s_JoinError___init__, defScope s_JoinError___init__, [], []⟩) rfl
    d_NoTable___init__ := c.t.d.def_ 1 (d := ⟨("NoTable", some "__init__"), "__init__", "NoTable.__init__", defArgs s_NoTable___init__, defBody s_NoTable___init__, defScope s_NoTable___init__, [], []⟩) rfl
    g_check_text := He.glo_ok X G (c.t.d.fact 51 (f := .glo "check_text") rfl)
    d_check_text := c.t.d.def_ 2 (d := ⟨("check_text", none), "check_text", "check_text", defArgs s_check_text, defBody s_check_text, defScope s_check_text, [], []⟩) rfl
    g_signs_of := He.glo_ok X G (c.t.d.fact 52 (f := .glo "signs_of") rfl)
    d_signs_of := c.t.d.def_ 3 (d := ⟨("signs_of", none), "signs_of", "signs_of", defArgs s_signs_of, defBody s_signs_of, defScope s_signs_of, [], []⟩) rfl
    g_pass_along := He.glo_ok X G (c.t.d.fact 53 (f := .glo "pass_along") rfl)
    d_pass_along := c.t.d.def_ 4 (d := ⟨("pass_along", none), "pass_along", "pass_along", defArgs s_pass_along, defBody s_pass_along, defScope s_pass_along, [], []⟩) rfl
    g_pass_all := He.glo_ok X G (c.t.d.fact 54 (f := .glo "pass_all") rfl)
    d_pass_all := c.t.d.def_ 5 (d := ⟨("pass_all", none), "pass_all", "pass_all", defArgs s_pass_all, defBody s_pass_all, defScope s_pass_all, [], []⟩) rfl
    g_swept := He.glo_ok X G (c.t.d.fact 55 (f := .glo "swept") rfl)
    d_swept := c.t.d.def_ 6 (d := ⟨("swept", none), "swept", "swept", defArgs s_swept, defBody s_swept, defScope s_swept, [], []⟩) rfl
    g_may_be_sign := He.glo_ok X G (c.t.d.fact 56 (f := .glo "may_be_sign") rfl)
    d_may_be_sign := c.t.d.def_ 7 (d := ⟨("may_be_sign", none), "may_be_sign", "may_be_sign", defArgs s_may_be_sign, defBody s_may_be_sign, defScope s_may_be_sign, [], []⟩) rfl
    g_check_signs := He.glo_ok X G (c.t.d.fact 57 (f := .glo "check_signs") rfl)
    d_check_signs := c.t.d.def_ 8 (d := ⟨("check_signs", none), "check_signs", "check_signs", defArgs s_check_signs, defBody s_check_signs, defScope s_check_signs, [], []⟩) rfl
    d_Table___init__ := c.t.d.def_ 9 (d := ⟨("Table", some "__init__"), "__init__", "Table.__init__", defArgs s_Table___init__, defBody s_Table___init__, defScope s_Table___init__, [], []⟩) rfl
    d_Table_take_piece := c.t.d.def_ 10 (d := ⟨("Table", some "take_piece"), "take_piece", "Table.take_piece", defArgs s_Table_take_piece, defBody s_Table_take_piece, defScope s_Table_take_piece, [], []⟩) rfl
    d_Table_may_take_row := c.t.d.def_ 11 (d := ⟨("Table", some "may_take_row"), "may_take_row", "Table.may_take_row", defArgs s_Table_may_take_row, defBody s_Table_may_take_row, defScope s_Table_may_take_row, [], []⟩) rfl
    d_Table_take_row := c.t.d.def_ 12 (d := ⟨("Table", some "take_row"), "take_row", "Table.take_row", defArgs s_Table_take_row, defBody s_Table_take_row, defScope s_Table_take_row, [], []⟩) rfl
    d_Table_signs := c.t.d.def_ 13 (d := ⟨("Table", some "signs"), "signs", "Table.signs", defArgs s_Table_signs, defBody s_Table_signs, defScope s_Table_signs, [], []⟩) rfl
    d_Table_rows := c.t.d.def_ 14 (d := ⟨("Table", some "rows"), "rows", "Table.rows", defArgs s_Table_rows, defBody s_Table_rows, defScope s_Table_rows, [], []⟩) rfl
    d_Table_which := c.t.d.def_ 15 (d := ⟨("Table", some "which"), "which", "Table.which", defArgs s_Table_which, defBody s_Table_which, defScope s_Table_which, [], []⟩) rfl
    d_Table_parts := c.t.d.def_ 16 (d := ⟨("Table", some "parts"), "parts", "Table.parts", defArgs s_Table_parts, defBody s_Table_parts, defScope s_Table_parts, [], []⟩) rfl
    d_Table_rank := c.t.d.def_ 17 (d := ⟨("Table", some "rank"), "rank", "Table.rank", defArgs s_Table_rank, defBody s_Table_rank, defScope s_Table_rank, [], []⟩) rfl
    g_renamed := He.glo_ok X G (c.t.d.fact 58 (f := .glo "renamed") rfl)
    d_renamed := c.t.d.def_ 18 (d := ⟨("renamed", none), "renamed", "renamed", defArgs s_renamed, defBody s_renamed, defScope s_renamed, [], []⟩) rfl
    g__law_cell_at := He.glo_ok X G (c.t.d.fact 59 (f := .glo "_law_cell_at") rfl)
    d__law_cell_at := c.t.d.def_ 19 (d := ⟨("_law_cell_at", none), "_law_cell_at", "_law_cell_at", defArgs s__law_cell_at, defBody s__law_cell_at, defScope s__law_cell_at, [], []⟩) rfl
    g__law_numbers := He.glo_ok X G (c.t.d.fact 60 (f := .glo "_law_numbers") rfl)
    d__law_numbers := c.t.d.def_ 20 (d := ⟨("_law_numbers", none), "_law_numbers", "_law_numbers", defArgs s__law_numbers, defBody s__law_numbers, defScope s__law_numbers, [], []⟩) rfl
    g__law_signs := He.glo_ok X G (c.t.d.fact 61 (f := .glo "_law_signs") rfl)
    d__law_signs := c.t.d.def_ 21 (d := ⟨("_law_signs", none), "_law_signs", "_law_signs", defArgs s__law_signs, defBody s__law_signs, defScope s__law_signs, [], []⟩) rfl
    g__law_rows := He.glo_ok X G (c.t.d.fact 62 (f := .glo "_law_rows") rfl)
    d__law_rows := c.t.d.def_ 22 (d := ⟨("_law_rows", none), "_law_rows", "_law_rows", defArgs s__law_rows, defBody s__law_rows, defScope s__law_rows, [], []⟩) rfl
    g__law_table := He.glo_ok X G (c.t.d.fact 63 (f := .glo "_law_table") rfl)
    d__law_table := c.t.d.def_ 23 (d := ⟨("_law_table", none), "_law_table", "_law_table", defArgs s__law_table, defBody s__law_table, defScope s__law_table, [], []⟩) rfl
    g__law_cut := He.glo_ok X G (c.t.d.fact 64 (f := .glo "_law_cut") rfl)
    d__law_cut := c.t.d.def_ 24 (d := ⟨("_law_cut", none), "_law_cut", "_law_cut", defArgs s__law_cut, defBody s__law_cut, defScope s__law_cut, [], []⟩) rfl
    g__law_pieces := He.glo_ok X G (c.t.d.fact 65 (f := .glo "_law_pieces") rfl)
    d__law_pieces := c.t.d.def_ 25 (d := ⟨("_law_pieces", none), "_law_pieces", "_law_pieces", defArgs s__law_pieces, defBody s__law_pieces, defScope s__law_pieces, [], []⟩) rfl
    g__law_words := He.glo_ok X G (c.t.d.fact 66 (f := .glo "_law_words") rfl)
    d__law_words := c.t.d.def_ 26 (d := ⟨("_law_words", none), "_law_words", "_law_words", defArgs s__law_words, defBody s__law_words, defScope s__law_words, [], []⟩) rfl
    g__law_is_table := He.glo_ok X G (c.t.d.fact 67 (f := .glo "_law_is_table") rfl)
    d__law_is_table := c.t.d.def_ 27 (d := ⟨("_law_is_table", none), "_law_is_table", "_law_is_table", defArgs s__law_is_table, defBody s__law_is_table, defScope s__law_is_table, [], []⟩) rfl
    g__law_refusal := He.glo_ok X G (c.t.d.fact 68 (f := .glo "_law_refusal") rfl)
    d__law_refusal := c.t.d.def_ 28 (d := ⟨("_law_refusal", none), "_law_refusal", "_law_refusal", defArgs s__law_refusal, defBody s__law_refusal, defScope s__law_refusal, [], []⟩) rfl
    g__law_seen := He.glo_ok X G (c.t.d.fact 69 (f := .glo "_law_seen") rfl)
    d__law_seen := c.t.d.def_ 29 (d := ⟨("_law_seen", none), "_law_seen", "_law_seen", defArgs s__law_seen, defBody s__law_seen, defScope s__law_seen, [], []⟩) rfl
    g__law_due := He.glo_ok X G (c.t.d.fact 70 (f := .glo "_law_due") rfl)
    d__law_due := c.t.d.def_ 30 (d := ⟨("_law_due", none), "_law_due", "_law_due", defArgs s__law_due, defBody s__law_due, defScope s__law_due, [], []⟩) rfl
    g__law_bent := He.glo_ok X G (c.t.d.fact 71 (f := .glo "_law_bent") rfl)
    d__law_bent := c.t.d.def_ 31 (d := ⟨("_law_bent", none), "_law_bent", "_law_bent", defArgs s__law_bent, defBody s__law_bent, defScope s__law_bent, [], []⟩) rfl
    g__law_refused := He.glo_ok X G (c.t.d.fact 72 (f := .glo "_law_refused") rfl)
    d__law_refused := c.t.d.def_ 32 (d := ⟨("_law_refused", none), "_law_refused", "_law_refused", defArgs s__law_refused, defBody s__law_refused, defScope s__law_refused, [], []⟩) rfl
    g__law_turned := He.glo_ok X G (c.t.d.fact 73 (f := .glo "_law_turned") rfl)
    d__law_turned := c.t.d.def_ 33 (d := ⟨("_law_turned", none), "_law_turned", "_law_turned", defArgs s__law_turned, defBody s__law_turned, defScope s__law_turned, [], []⟩) rfl
    g__law_good := He.glo_ok X G (c.t.d.fact 74 (f := .glo "_law_good") rfl)
    d__law_good := c.t.d.def_ 34 (d := ⟨("_law_good", none), "_law_good", "_law_good", defArgs s__law_good, defBody s__law_good, defScope s__law_good, [], []⟩) rfl
    g__law_block := He.glo_ok X G (c.t.d.fact 75 (f := .glo "_law_block") rfl)
    d__law_block := c.t.d.def_ 35 (d := ⟨("_law_block", none), "_law_block", "_law_block", defArgs s__law_block, defBody s__law_block, defScope s__law_block, [], []⟩) rfl
    g_law := He.glo_ok X G (c.t.d.fact 76 (f := .glo "law") rfl)
    d_law := c.t.d.def_ 36 (d := ⟨("law", none), "law", "law", defArgs s_law, defBody s_law, defScope s_law, [], []⟩) rfl }
theorem law_fact {P : Program} {w : World} {K : PySem.W.Frag} {h : Heap} {mg : Str → Option Value} {f : Addr} (X : K.In h) (G : h.Ns mainGlobals mg) (hfa : mg ("law" : Str) = some (.ref f)) (c : SaysC fa fn (fun K => (exs K).all id) w K) :
    ∃ fd : FuncData, (∀ (s : Shared) (v : Value), BindsTo s fd ⟨[v], []⟩ [("_law_script", v)]) ∧ ∀ base : Heap, K.In base → base.Ns mainGlobals mg → FnOk P w K mg base CX0 9 f fd ["_law_script"] (spLaw K) := by
  have T := tx_of X G c
  have e := hfa.symm.trans (He.glo_ok X G (c.t.d.fact 76 (f := .glo "law") rfl))
  cases e
  obtain ⟨fd, F, ok⟩ := fn_law (P := P) (w := w) T
  have b := FunD.bindsA (ps := ["_law_script"]) F fun _ _ _ _ _ _ us hl => match us, hl with | [_], _ => rfl
  exact ⟨fd, fun s v => b s [v] rfl, fun base _ _ => ok base⟩
end Jr
open PySem PySem.W PySem.Calls PyProof.Rows
set_option maxRecDepth 100000 in
set_option maxHeartbeats 0 in
theorem PySem.Challenge.cw_joinranks_k63_renamed_holds : PySem.Challenge.rw_joinranks_k63_renamed.Holds := by
  w_on; o_law
  refine HandSHeadRun.head_any (r := OpenLaw.row PySem.Challenge.rw_joinranks_k63_renamed) (q := view (OpenLaw.row PySem.Challenge.rw_joinranks_k63_renamed).prog [56]) (H := Jr.hk) (ob := Jr.ob) (M := 8000) (loose := Jr.loose) (d := HandSHeadRun.topDef (OpenLaw.row PySem.Challenge.rw_joinranks_k63_renamed).prog 56) (kwd := []) Jr.ob_eq
    (by kernel_rfl) (fun s => by kernel_rfl) Jr.run (by kernel_rfl) (by kernel_rfl) (by kernel_rfl) (by rfl) (by first | assumption | decide +kernel) (by decide +kernel) ⟨rfl, rfl, rfl, rfl, rfl, by decide +kernel⟩ ?hw ?hc
  case hw => w_witness2
  case hc =>
    refine L2.walk_ofE (l := PySem.Challenge.rw_joinranks_k63_renamed) (n := 63) (k := 9) (x := "_law_script") (CX := L2.CX0) rfl (by decide) (by kernel_rfl) ⟨rfl, by decide, by decide⟩ ?F (fun _ _ _ _ z => z)
    intro w mg fa h Y G hmg0
    obtain ⟨K, KX, c⟩ := Y
    have hmg : mg ("law" : PySem.Str) = some (.ref fa) := by
      have e : (HandSHeadRun.topDef (OpenLaw.row PySem.Challenge.rw_joinranks_k63_renamed).prog 56).name = ("law" : PySem.Str) := by kernel_rfl
      rw [← e]
      exact hmg0
    obtain ⟨fd, hb, hF⟩ := Jr.law_fact (P := (PySem.Challenge.rw_joinranks_k63_renamed).prog) (w := w) KX G hmg c
    exact ⟨K, fd, Jr.spLaw K, KX, hb, fun H a ns hl _ hS => ⟨a, ns, rfl, hS, hl, fun _ => rfl⟩, hF⟩
#print axioms PySem.Challenge.cw_joinranks_k63_renamed_holds

