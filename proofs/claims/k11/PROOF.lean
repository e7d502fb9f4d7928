import PyProof.Rows.All
import Wide.All
import OpenK.AllK
import Wide.FinOn
import HandS.ForMost
import HandS.Exc
import HandS.ExcInit
import HandS.ExcIs
import HandS.ExcField
import PyProof.ReprReads
import HandS.NoneIn
import KE.GoesEnum
import HandS.Walk
import HandS.Replace
import HandS.ReplaceLit
import PyProof.ToksMono
import HandS.Flow
import HandS.IsInst
import HandS.More
import HandS.Text
import HandS.Star
import HandS.Conv
import KE.KDictSum
import HandS.WordsExc
import HandS.DictComp
import HandS.RaiseMore
import PySem.Challenge.RW_foldsame_k11_texts_refused
set_option Elab.async false
set_option linter.all false
set_option maxRecDepth 100000
set_option maxHeartbeats 4000000
/-! Own rules: exceptions of own classes as values (made, read, asked by isinstance), repr of lists of plain values. -/
namespace PySem.W
open PySem PySem.Spec PySem.Calls PyProof.Rows
section
variable {prog : Program} {w : World} {A : Around} {E : Value → Shared → Prop} {s : Shared} {K : Frag} {x D : Addr} {ox : Obj} {od : Option Obj}
theorem fs_findClass (hdct : hasDictIn K D = true) (ha : findIn K (.ref D) "__class__" = some (some (.builtin "object.__class__"))) (hn : specialIn K (.builtin "object.__class__") "__get__" = some (some (.builtin "getset_descriptor.__get__")))
    (htk : takesIn K (.builtin "object.__class__") = some true) : findObj K D od "__class__" = some (.bind (.builtin "getset_descriptor.__get__") (.builtin "object.__class__")) := by
  obtain ⟨cd, hcd, _⟩ := any_some hdct
  unfold findObj; rw [hcd, Option.bind_some, ha, Option.bind_some]; simp [hn, htk]
theorem fs_class {Q : Option Value → Shared → Prop} (hga : findIn K (.ref D) "__getattribute__" = some (some (.builtin "BaseException.__getattribute__"))) (hgt : findIn K (.ref D) "__getattr__" = some none) (hsub : subIn K (.ref D) (.type "BaseException") = some true)
    (hdct : hasDictIn K D = true) (ha : findIn K (.ref D) "__class__" = some (some (.builtin "object.__class__")))
    (hn : specialIn K (.builtin "object.__class__") "__get__" = some (some (.builtin "getset_descriptor.__get__"))) (htk : takesIn K (.builtin "object.__class__") = some true) (hm : mroIn K D (.type "object") = some true)
    (KX : K.In s.heap) (J : InstAt s.heap x ox D od) (hq : Q (some (.ref D)) { s with toks := s.toks + 1 }) : wpAny (model prog w) A (getAttr? (.ref x) "__class__") Q E s := by
  have hfind : findObj K D od "__class__" = some (.bind (.builtin "getset_descriptor.__get__") (.builtin "object.__class__")) := fs_findClass hdct ha hn htk
  obtain ⟨hp, gg, dd, tt, oo⟩ := s
  have M0 := J.type (M := model prog w); have M1 := looks_findIn (M := model prog w) KX hga
  have M2 := looks_findIn (M := model prog w) KX hgt; have M3 := looks_find (M := model prog w) KX J hfind
  have hisB : Looks (model prog w) hp (isInstance (.ref x) (.type "BaseException")) true := M0.andThen (looks_subIn KX hsub)
  have e0 : (false && onTheHeap (Value.builtin "BaseException.__getattribute__")) = false := rfl
  have e2 : (Value.builtin "BaseException.__getattribute__" == Value.builtin "object.__getattribute__") = false := by decide +kernel
  have e1 : (onTheHeap (Value.ref D) && Value.builtin "BaseException.__getattribute__" == Value.builtin "object.__getattribute__") = false := by rw [e2] <;> rfl
  unfold getAttr? getAttrBy? getAttrBy
  refine wpAny_bind (wpAny_mkText (wpAny_bind (wpAny_attempt (wpAny_holding (wpAny_bind (M0.at (wpAny_bind (M1.at ?_))))))))
  show wpAny _ _ (if (onTheHeap (Value.ref D) && Value.builtin "BaseException.__getattribute__" == Value.builtin "object.__getattribute__") = true then _ else _) _ _ _
  rw [e1, if_neg Bool.false_ne_true]; unfold getAttrByItsOwn hookBefore
  refine wpAny_bind ?_
  rw [if_pos (show onTheHeap (Value.ref D) = true from rfl)]; refine M2.at ?_
  refine wpAny_bind (wpAny_attempt (wpAny_holding ?_)); unfold callGetattribute
  rw [e0, if_neg Bool.false_ne_true]; unfold boundAndCalled
  rw [PySem.F.excAttr_ValueError.ga.bind (.ref x)]; refine wpAny_bind (wpAny_pure ?_)
  show wpAny _ _ (call (.builtin "BaseException.__getattribute__") [.ref x, .str "__class__" tt]) _ _ _
  refine wpAny_call (codeAny_call_builtin PySem.F.excAttr_ValueError.ga.plain PySem.F.entry_bexc_ga ?_)
  refine @check_slot (model prog w) _ _ ⟨hp, gg, dd, tt + 1, oo⟩ "BaseException.__getattribute__" "BaseException" "__getattribute__" (.ref x) [.str "__class__" tt] [] _ (by decide +kernel) (by decide +kernel) hisB (PySem.F.args_bexc_ga (.ref x) (.str "__class__" tt)) ?_
  unfold Builtin.«object.__getattribute__»
  refine wpAny_bind (wpAny_of_eq (a := ((Value.ref x : Value), [Value.str "__class__" tt])) (by first | rfl | (simp only [slotArgs]; rfl)) ?_)
  refine wpAny_bind (wpAny_pure (wpAny_bind (M0.at (wpAny_bind (M3.at ?_)))))
  show wpAny _ _ (holding [Value.builtin "object.__class__"] (call (.builtin "getset_descriptor.__get__") [.builtin "object.__class__", .ref x, .ref D]) >>= ret) _ _ _
  refine wpAny_bind (wpAny_holding (wpAny_call (class_get (s := ⟨hp, gg, dd, tt + 1, oo⟩) (ox := ox) (od := od) KX J hm ?_))); refine wpAny_pure ?_
  show wpAny _ _ (handedOut (.ref D)) _ _ _
  rw [handedOut_of (v := .ref D) rfl]
  first | exact wpAny_pure (wpAny_pure hq) | exact wpAny_pure hq | exact wpAny_pure (wpAny_bind (wpAny_pure (wpAny_pure hq)))
theorem fs_kitx (hga : findIn K (.ref D) "__getattribute__" = some (some (.builtin "BaseException.__getattribute__"))) (hgt : findIn K (.ref D) "__getattr__" = some none) (hsub : subIn K (.ref D) (.type "BaseException") = some true) (hdct : hasDictIn K D = true) (ha : findIn K (.ref D) "__class__" = some (some (.builtin "object.__class__")))
    (hn : specialIn K (.builtin "object.__class__") "__get__" = some (some (.builtin "getset_descriptor.__get__"))) (htk : takesIn K (.builtin "object.__class__") = some true) (hm : mroIn K D (.type "object") = some true) :
    KitX K (.ref x) (.ref D) (fun h => ∃ ox od, InstAt h x ox D od) where
  ty := fun _ _ _ ⟨_, _, J⟩ => J.type
  it := fun _ _ KX _ => by
    obtain ⟨cc, hcc, _⟩ := any_some hdct
    unfold clsIn at hcc
    split at hcc
    · rename_i hlook
      intro A1 Q1 E1 s1 kk qq; unfold isType loadHead
      exact wpAny_bind (wpAny_loadPart (kk _ _ (KX _ _ hlook)) (wpAny_pure qq))
    · cases hcc
  ne := fun hh tp dd its nn sl KX htp => by
    obtain ⟨cc, hcc, _⟩ := any_some hdct
    refine Bool.eq_false_iff.mpr fun qq => ?_
    have eD : D = tp := Value.ref.inj (beq_iff_eq.mp qq)
    subst eD; unfold clsIn at hcc
    split at hcc
    · rename_i hlook
      have zz := (KX _ _ hlook).symm.trans htp; cases zz
    · cases hcc
  ca := fun KX ⟨_, _, J⟩ kk => fs_class hga hgt hsub hdct ha hn htk hm KX J kk
end
end PySem.W
namespace FS
open PySem PySem.Spec PyProof.Rows L2
/-! ### made -/
/-- C(e, ..) as a value, C's own __init__ keeping sp -/
def tMkV (C : Addr) (sp : Sp) (dvs : List V) (ta : TA) : TE := fun σ H Q => ta σ H fun vs H1 => vs.length ≤ 1000 ∧ ∀ a, H1 a = none →
  sp (.ref a :: (vs ++ dvs)) (upd H1 a (exo a C none)) (fun v H2 => v = .non ∧ Q (.ref a) H2) (fun _ _ _ => False)
section
variable {X : Cx} {e : Expr} {es : List Expr} {te : TE} {ta : TA} {p pos : Pos}
theorem pe_mkV {CX : CXT} {x : Str} {C fI : Addr} {k : Nat} {fd : FuncData} {ps : List Str} {sp : Sp} {ds : List Value} {dvs : List V} (T : OexC X.K C) (iC : PySem.W.findIn X.K (.ref C) "__init__" = some (some (.ref fI))) (tI : PySem.W.typeIn X.K (.ref fI) = some (.type "function"))
    (F1 : FnOk X.prog X.w X.K X.mg X.base CX k fI fd ps sp) (hr : Room (k + 1) X.A) (hb : Binds X.K fd ps ds) (hd : Vals dvs ds) (hx : Passes CX X (fun _ _ _ => False)) (hg : Gl X x) (hm : X.mg x = some (.ref C)) (ha : PA X (e :: es) ta)
    (hdb : (x == ("__debug__" : Str)) = false := by decide) (he : starEach (e :: es) X.env = (false, eval e X.env) :: starEach es X.env := by rfl) (hpl : (backTo pos (starEach es X.env)).any (·.1) = false := by rfl) :
    PE X (.Call (.Name x p) (e :: es) [] pos) (tMkV C sp dvs ta) := by
  refine ⟨fun pins st0 σ H Q I h => ?_⟩
  obtain ⟨nm, q, N, bs, bm, sn, sub, ab, col, dd, k0, k1, k2, k3, k5, hC, hbm⟩ := T.cls
  refine wpAny_Call_Name_kw (ld_glob I hg hm ?_ hdb)
  refine PySem.W.callWith_K (h₀ := X.base) I.ok.mod.kin T.kC (thn (ha.run pos pins st0 σ H _ I h) fun us s1 ⟨vs, H1, I1, r1, hz, q1⟩ => ⟨I1.kIn, ?_⟩) he hpl
  show wpAny _ _ (call (.ref C) us) _ _ _
  obtain ⟨hp, g, dr, tk, os⟩ := s1
  have hsz1 : hp.objs.size ≤ hp.objs.size + 1 := Nat.le_succ _
  have hn1 : H1 (hp.objs.size + 1) = none := I1.hok.fresh hsz1
  have hq1 := q1 (hp.objs.size + 1) hn1
  have kk1 : ∀ b o, hp.get? b = some o → ((hp.push (PySem.W.kdv_tup us)).push (PySem.HandSPX.excO C hp.objs.size)).get? b = some o := fun b o eo => Heap.get?_push_of_some _ (Heap.get?_push_of_some _ eo)
  have hget1 : ((hp.push (PySem.W.kdv_tup us)).push (PySem.HandSPX.excO C hp.objs.size)).get? (hp.objs.size + 1) = some (PySem.HandSPX.excO C hp.objs.size) := by heap_get
  have J2 : Inv X pins σ (upd H1 (hp.objs.size + 1) (exo (hp.objs.size + 1) C none)) ⟨(hp.push (PySem.W.kdv_tup us)).push (PySem.HandSPX.excO C hp.objs.size), g, dr, tk, os⟩ :=
    I1.laid (t' := tk) (a := hp.objs.size + 1) (o := exo (hp.objs.size + 1) C none) (h' := (hp.push (PySem.W.kdv_tup us)).push (PySem.HandSPX.excO C hp.objs.size)) kk1 hsz1 (exo_ok hget1)
  have rr2 : Vals (V.ref (hp.objs.size + 1) :: (vs ++ dvs)) (Value.ref (hp.objs.size + 1) :: (us ++ ds)) := .cons rfl (r1.append hd)
  have hl1 : (Value.ref (hp.objs.size + 1) :: us ++ ds).length = ps.length := by
    have e9 := rr2.length
    rw [F1.len _ _ _ _ hq1] at e9; exact e9.symm
  have hus1 : us.length ≤ sizeLine := by
    rw [← Paired.length r1, sizeLine_eq]; omega
  refine wpAny_call (PySem.HandSPX.call_own F.excBase_ValueError (fun Y => PySem.HandSPX.refsVE_contains Y bm hbm) (I1.kIn _ _ hC) (PySem.W.looks_findIn I1.kIn iC) (fun self => PySem.W.bind_fn I1.kIn self tI) hus1
    (codeAny_mono (F1.run _ X.stack _ _ ⟨Value.ref (hp.objs.size + 1) :: us, []⟩ (Value.ref (hp.objs.size + 1) :: (us ++ ds)) _ _ (fun _ _ _ => False) (hr.make C us []) (J2.env0.make C us []) (hb _ (Value.ref (hp.objs.size + 1) :: us) J2.kIn hl1) rr2 hq1) fun r s' hq' => ?_))
  cases r with
  | error er => exact hx pins σ _ _ er s' J2 hq'
  | ok fl =>
    cases fl with
    | ret u =>
      obtain ⟨v, H2, os2, bare2, un2, hok2, rv, ev, q2⟩ := hq'
      subst ev
      exact ⟨rv, .ref (hp.objs.size + 1), H2, J2.call' (ch := []) os2 un2 hok2 bare2 (fun b z => absurd z (by simp)), rfl, q2⟩
    | next => exact False.elim hq'
    | brk => exact False.elim hq'
    | cont => exact False.elim hq'
/-! ### read -/
def tXo (K : PySem.W.Frag) (f : Str) (te : TE) : TE := fun σ H Q => te σ H fun x H1 => ∃ (a C dd : Addr) (fs : List (Str × V)) (v : V), x = .ref a ∧ H1 a = some (exo a C (some dd)) ∧ H1 dd = some (exd dd fs) ∧ XfC K C ∧ PySem.W.findIn K (.ref C) f = some none ∧ fs.lookup f = some v ∧ Q v H1
theorem pe_xo {n : Str} (he : PE X e te) (hb : attributeBase e n X.env (eval e X.env) = eval e X.env := by rfl) : PE X (.Attribute e n pos) (tXo X.K n te) := by
  refine ⟨fun pins s σ H Q I h => ?_⟩
  refine attr_of hb (thn (he.run pins s σ H _ I h) fun u s1 hh => ?_)
  obtain ⟨x, H1, I1, rx, a, C, dd, fs, v, ex, ea, ed, T, hno, l, q⟩ := hh
  subst ex
  obtain rfl : u = Value.ref a := rx
  obtain ⟨t1, ho⟩ := exo_at I1.hok ea
  obtain ⟨mA, hns, hr⟩ := exd_at I1.hok ed
  obtain ⟨od, hod, hl⟩ := lookIn_ns hns
  obtain ⟨u, hu, ru⟩ := RelO.some_of (v := v) (o := mA n) (by rw [← l]; exact hr n)
  have J : PySem.W.InstAt s1.heap a { cls := .ref C, dict := some dd, data := .fields #[.ref t1, .none, .none, .none, .bool false, .none] } C (some od) := ⟨ho, rfl, rfl, hod⟩
  exact HandSPX.exc_get I1.kIn J T.ga T.gg T.exC (PySem.W.findObj_own T.hdC hno rfl (by rw [hl, hu])) (handed_of ru) ⟨v, H1, I1.tok _, ru, q⟩
end
/-! ### isinstance -/
def rIsO (K : PySem.W.Frag) : List V → Hp → VK → Prop := fun xs H Q => ∃ (a C d : Addr) (fs : List (Str × V)) (c : V) (cv : Value) (b : Bool), xs = [.ref a, c] ∧ H a = some (exo a C (some d)) ∧ H d = some (exd d fs) ∧ ExcC K C ∧ (∀ u, RelV c u → u = cv) ∧ PySem.W.kitOne K (.ref C) cv = some b ∧ Q (.bl b) H
theorem call_isO {X : Cx} : CallR X (.builtin "isinstance") (rIsO X.K) := by
  intro pins s σ H xs us Q I r h
  obtain ⟨a, C, d, fs, c, cv, b, rfl, ea, ed, T, hcv, e, q⟩ := h
  obtain ⟨u1, u2, rfl, r1, r2⟩ := vals2 r
  cases (show u1 = Value.ref a from r1)
  have ec := hcv _ r2
  subst ec
  obtain ⟨t1, ho⟩ := exo_at I.hok ea
  obtain ⟨mA, hns, hr⟩ := exd_at I.hok ed
  obtain ⟨od, hod, hl⟩ := lookIn_ns hns
  have J : PySem.W.InstAt s.heap a { cls := .ref C, dict := some d, data := .fields #[.ref t1, .none, .none, .none, .bool false, .none] } C (some od) := ⟨ho, rfl, rfl, hod⟩
  exact PySem.W.kia_one (PySem.W.fs_kitx T.hg T.hk T.hs T.hd T.ha T.hn T.ht T.hm) I.kIn ⟨_, _, J⟩ e (fun z => nomatch z) fun tk => ⟨.bl b, H, I.tok tk, rfl, q⟩
/-! ### repr of a list of plain values (an empty dict among them, not deeper) -/
inductive Dq (K : PySem.W.Frag) (H : Hp) : V → PyData → Prop
  | dp {v : V} {d : PyData} : Dp K H v d → d.hasDict = false → Dq K H v d
  | emp {a : Addr} : H a = some (.dK []) → Dq K H (.ref a) (.dict [])
inductive DqAll (K : PySem.W.Frag) (H : Hp) : List V → List PyData → Prop
  | nil : DqAll K H [] []
  | cons {v : V} {vs : List V} {d : PyData} {ds : List PyData} : Dq K H v d → DqAll K H vs ds → DqAll K H (v :: vs) (d :: ds)
section
variable {X : Cx} {pins : List (Addr × Obj)} {σ : L2.St} {H : Hp} {s : Shared}
theorem Dq.repr (I : Inv X pins σ H s) {v : V} {d : PyData} {u : Value} (h : Dq X.K H v d) (r : RelV v u) (hs : d.showable = true) (hz : d.shown.length ≤ sizeLine) :
    ∃ as bs, Reads s.heap u d as ∧ ReadAtMost s.heap d.depth bs ∧ ReprK X.prog X.w bs s.heap d.depth u d.shown := by
  cases h with
  | dp h hd =>
    obtain ⟨as, rd⟩ := Dp.reads I d v u h r
    obtain ⟨bs, h1, h2⟩ := ReprK.of_reads (prog := X.prog) (w := X.w) rd hs (PyData.noDict_hsm hd) hz
    exact ⟨as, bs, rd, h1, h2⟩
  | @emp a ea =>
    cases (show u = Value.ref a from r)
    obtain ⟨_, hsm, vs, kv, o, es, ep, h1, h2, h3, _, h4, _⟩ := (show ObjOk X.prog X.w H s.heap a (.dK []) from I.hok a _ ea)
    cases kv
    have e0 : es.toList = [] := by
      cases hq : es.toList with
      | nil => rfl
      | cons x xs =>
        rw [hq] at h4
        first | exact absurd h4 (by simp [Pairs]) | cases h4
    have rd : Reads s.heap (.ref a) (.dict []) (a :: [] ++ []) := .dict (kvs := []) h1 h2.1 h3 (by rw [e0]; exact .nil) (by rw [e0]; exact .nil)
    obtain ⟨bs, q1, q2⟩ := ReprK.of_reads (prog := X.prog) (w := X.w) rd hs (fun _ hm => by
      have : sysModules = a := by simpa using hm
      rw [this] at hsm
      simp at hsm) hz
    exact ⟨_, bs, rd, q1, q2⟩
theorem DqAll.repr (I : Inv X pins σ H s) : ∀ {vs : List V} {ds : List PyData} {us : List Value}, DqAll X.K H vs ds → Vals vs us → PyData.showableAll ds = true → (∀ t ∈ PyData.shownAll ds, t.length ≤ sizeLine) →
    ∃ as bs, ReadsAll s.heap us ds as ∧ ReadAtMost s.heap (PyData.depthAll ds) bs ∧ ReprAllK X.prog X.w bs s.heap (PyData.depthAll ds) us (PyData.shownAll ds)
  | _, _, _, .nil, .nil, _, _ => ⟨[], [], .nil, (fun _ h => nomatch h), by simp only [PyData.shownAll]; exact .nil⟩
  | _, _, _, .cons (d := d) (ds := ds) h hl, .cons r rl, hs, hz => by
    have hs2 : d.showable = true ∧ PyData.showableAll ds = true := by simpa [PyData.showableAll] using hs
    obtain ⟨a1, c1, rd1, q1, k1⟩ := Dq.repr I h r hs2.1 (hz _ (by simp only [PyData.shownAll]; exact List.mem_cons_self ..))
    obtain ⟨a2, c2, rd2, q2, k2⟩ := DqAll.repr I hl rl hs2.2 (fun t ht => hz t (by simp only [PyData.shownAll]; exact List.mem_cons_of_mem _ ht))
    refine ⟨_, c1 ++ c2, .cons rd1 rd2, ?_, ?_⟩
    · simp only [PyData.depthAll]
      exact (q1.mono (Nat.le_max_left _ _)).append (q2.mono (Nat.le_max_right _ _))
    · simp only [PyData.depthAll, PyData.shownAll]
      exact .cons ((k1.more fun b hb => List.mem_append_left _ hb).level_le (Nat.le_max_left _ _)) (k2.more_le (fun b hb => List.mem_append_right _ hb) (Nat.le_max_right _ _))
end
def rReprL (K : PySem.W.Frag) : List V → Hp → VK → Prop := fun xs H Q => ∃ (a : Addr) (v : V) (vs : List V) (ds : List PyData), xs = [.ref a] ∧ H a = some (.lst (v :: vs)) ∧ DqAll K H (v :: vs) ds ∧ PyData.showableAll ds = true ∧ PyData.depthAll ds ≤ 30 ∧
  (listText (PyData.shownAll ds)).length ≤ sizeLine ∧ Q (.str (listText (PyData.shownAll ds))) H
theorem call_reprL {X : Cx} (hg : X.A.guards = some []) (hu : X.A.units + 64 < cLine) : CallR X (.builtin "repr") (rReprL X.K) := by
  intro pins s σ H xs us Q I r h
  obtain ⟨a, v, vs, ds, rfl, ea, hd, hs, hdep, hz, q⟩ := h
  cases r with
  | cons ra rn =>
    cases rn
    rename_i u1
    cases (show u1 = Value.ref a from ra)
    obtain ⟨_, its, n, rv, ho⟩ := (show ObjOk X.prog X.w H s.heap a (.lst (v :: vs)) from I.hok a _ ea)
    cases rv with
    | @cons _ u _ ul r1 r2 =>
      obtain ⟨as, bs, rd, hb, hk⟩ := DqAll.repr I hd (.cons r1 r2) hs (fun t ht => Nat.le_trans (listText_mem_le ht) hz)
      have rr : Reads s.heap (.ref a) (.list ds) (a :: as) := .list ho rfl rfl rd
      have hna : a ∉ bs := not_mem_of_deeper rr (by simp only [PyData.depth]; omega) hb
      refine call_repr_slot (by omega) ⟨_, ho, rfl⟩ F.slot_list_repr.toG ?_
      exact call_list_reprK ho rfl rfl hna (by simpa using hk.length_eq) (fun i y e => hk.item i y (by simpa using e)) hg (fun b _ => Clear.nil b) (by show X.A.units + 1 + _ < cLine; omega) (fun _ _ e => e)
        (fun h' t tk hk' => ⟨_, _, rfl, .str (listText (PyData.shownAll ds)), H, I.kept (t' := tk) hk', ⟨_, rfl⟩, q⟩) hz
end FS

set_option Elab.async false
set_option linter.all false
set_option maxRecDepth 100000
set_option maxHeartbeats 4000000
/-! The law's own def is called where no guard stands: its promise may use that (repr of lists asks it). -/
namespace FS
open PySem PySem.Spec PyProof.Rows L2
structure FnG (P : Program) (w : World) (K : PySem.W.Frag) (mg : Str → Option Value) (base : Heap) (k : Nat) (f : Addr) (fd : FuncData) (ps : List Str) (sp : Sp) : Prop where
  len : ∀ vs H Q E, sp vs H Q E → vs.length = ps.length
  run : ∀ (A : Around) (out1 : List Env) (st1 : Shared) (H : Hp) (args : Args) (us : List Value) (vs : List V) (Q : VK) (E : XK), A.guards = some [] → Room k A → Env0 P w K mg base A out1 st1 H → BindsTo st1 fd args (ps.zip us) → Vals vs us → sp vs H Q E →
    codeAny (model P w) A (.call (.ref f) args) (CR CX0 out1 P w H st1 Q E) st1
section
variable {P : Program} {w : World} {K : PySem.W.Frag} {mg : Str → Option Value} {base : Heap}
theorem okG {x qual : Str} {st : Stmt} {f : Addr} {fd : FuncData} {N ps : List Str} {k : Nat} {sp : Sp} (F : Fun K x qual st f fd) (S : FnScope N ps (defScope st)) (hlen : ∀ vs H Q E, sp vs H Q E → vs.length = ps.length)
    (hbd : ∀ (cdv : Value) (A : Around) (out1 : List Env) (st1 : Shared) (H : Hp) (vs : List V) (Q : VK) (E : XK), (A.deeper (envOfC qual (defScope st) st1.heap.objs.size f cdv)).guards = some [] → Room k (A.deeper (envOfC qual (defScope st) st1.heap.objs.size f cdv)) → sp vs H Q E →
      ∃ t, PSs (cxOf CX0 P w K mg base N qual (defScope st) f cdv A out1 st1 H E).nox (defBody st) t ∧ t { nx := fun _ H' => Q .non H', rt := Q } (start N vs) H) : FnG P w K mg base (k + 1) f fd ps sp := by
  obtain ⟨oc, od, kV, doc, pm, an, cdv, ct, osl, rfl, lk, hcd⟩ := F.ex
  refine ⟨hlen, fun A out1 st1 H args us vs Q E hgd hr1 en0 hb1 rv1 hsp1 => ?_⟩
  have hl1 := hlen _ _ _ _ hsp1
  have KX1 : K.In st1.heap := en0.mod.kin.keeps fun b1 o1 e1 => (en0.bs b1 o1 e1).1
  have lim1 : st1.heap.NoLimit := en0.mod.nolimit.keeps fun b1 o1 e1 => (en0.bs b1 o1 e1).1
  have hknd : ∀ y1 ∈ ps.zip us, (defScope st).names.lookup y1.1 = some .local ∨ ((defScope st).names.lookup y1.1 = some .cell ∧ ((cellsFrom (st1.heap.objs.size + 1) (defScope st).names []).lookup y1.1).isSome = true) := fun ⟨n1, v1⟩ hy1 => by
    rcases S.par n1 (List.of_mem_zip hy1).1 with q1 | q1
    · exact .inl q1
    · exact .inr ⟨q1, PySem.W.cellsFrom_some _ _ _ (.inl q1)⟩
  refine codeAny_call_function hr1.depth (KX1 _ _ lk) rfl S.co S.gen rfl (PySem.W.codeRec_of KX1 hcd) (hb1 _ _ _ _ ?_)
  refine wpAny_newFunctionEnv_cells S.kind hknd fun env1 he1 st2 x1 => ?_
  subst he1; refine ⟨lim1.keeps x1.toInCall.keep, codeAny_func ?_⟩
  obtain ⟨t, ht0, hq1⟩ := hbd cdv A out1 st1 H vs Q E hgd (hr1.deeper _) hsp1
  have ht := ht0.nox
  have I1 : Inv (cxOf CX0 P w K mg base N qual (defScope st) f cdv A out1 st1 H E) [] (start N vs) H st2 := inv_start S hr1.hd en0 hl1 rv1 x1
  refine wpAny_mono (ht.run [] st2 (start N vs) H _ I1 hq1) (fun fl st3 hs1 => ?_) fun _ st3 hs1 => hs1
  have done1 : ∀ {σ1 : L2.St} {H1 : Hp} {v : V} {u : Value}, Inv (cxOf CX0 P w K mg base N qual (defScope st) f cdv A out1 st1 H E) [] σ1 H1 st3 → RelV v u → Q v H1 → CE out1 P w H st1 Q u st3 :=
    fun {σ1 H1 v u} J1 rv q1 => ⟨v, H1, J1.os, J1.bare, J1.base, J1.hok, rv, q1⟩
  cases fl with
  | ret u => obtain ⟨v, σ1, H1, J1, rv, q1⟩ := hs1; exact done1 J1 rv q1
  | next => obtain ⟨σ1, H1, J1, q1⟩ := hs1; exact done1 (v := V.non) (u := Value.none) J1 rfl q1
  | brk => obtain ⟨_, _, _, q1⟩ := hs1; exact False.elim q1
  | cont => obtain ⟨_, _, _, q1⟩ := hs1; exact False.elim q1
theorem law_callG {mb : Str → Option Value} {k : Nat} {fa a : Addr} {fd : FuncData} {x : Str} {sp : Sp} {st1 : Shared} {vs : List Value} {ns : List Int}
    (KX : K.In st1.heap) (hns : st1.heap.Ns mainGlobals mg) (hbl : st1.heap.Ns builtinsNs mb) (hbb : ∀ x : Str, x ≠ "__name__" → mb x = bootBuiltins x) (hlim : st1.heap.NoLimit) (hgn : st1.gens = #[])
    (hat : st1.heap.get? a = some { cls := .type "list", data := .seq vs.toArray }) (hi : IntsAre vs ns) (hl : ns.length ≤ sizeLine) (hr1 : Room k callerA)
    (F : ∀ base : Heap, K.In base → base.Ns mainGlobals mg → FnG P w K mg base k fa fd [x] sp) (hbind : ∀ (s : Shared) (u : Value), BindsTo s fd ⟨[u], []⟩ [(x, u)])
    (hsp1 : ∀ H : Hp, Only H → SqL K H a (ns.map V.int) → sp [.ref a] H (fun v _ => v = .bl true) fun _ _ _ => False) :
    codeAny (model P w) callerA (.call (.ref fa) ⟨[.ref a], []⟩) (fun r s' => r = .ok (.ret (.bool true)) ∧ OldK st1.heap s'.heap ∧ s'.os = st1.os ∧ AllBare s'.gens) st1 := by
  have rv1 := vals_ints hi
  have lenV1 := hi.length
  have core1 : ∀ H : Hp, Only H → SqL K H a (ns.map V.int) → HOk P w H st1.heap → (∀ b1, H b1 ≠ none → b1 = a) → (H a ≠ none → K.lookup a = none) →
      codeAny (model P w) callerA (.call (.ref fa) ⟨[.ref a], []⟩) (fun r s' => r = .ok (.ret (.bool true)) ∧ OldK st1.heap s'.heap ∧ s'.os = st1.os ∧ AllBare s'.gens) st1 := by
    intro H hO1 hS1 hok1 hA1 hK1
    have base1 : ∀ {b1 : Addr} {o1 : Obj}, st1.heap.get? b1 = some o1 → H b1 = none → (hidT st1.heap H).get? b1 = some o1 := fun e1 n1 => hidT_get e1 n1
    have noA1 : ∀ {b1 : Addr} {o1 : Obj} {es1 : Array DictEntry} {ep1 : Nat}, st1.heap.get? b1 = some o1 → o1.data = .dict es1 ep1 → H b1 = none := fun {b1 o1 es1 ep1} e1 d1 => by
      cases q1 : H b1 with
      | none => rfl
      | some u1 =>
        have e2 : b1 = a := hA1 b1 (by rw [q1]; simp)
        subst e2; rw [hat] at e1; cases e1
        have d2 : Data.seq vs.toArray _ = Data.dict es1 ep1 := d1
        cases d2
    have nsK1 : ∀ {b1 : Addr} {m : Str → Option Value}, st1.heap.Ns b1 m → (hidT st1.heap H).Ns b1 m := fun {b1 m} ⟨o1, es1, ep1, e1, d1, r1⟩ => ⟨o1, es1, ep1, base1 e1 (noA1 e1 d1), d1, r1⟩
    have hKb1 : K.In (hidT st1.heap H) := fun b1 o1 e1 => base1 (KX b1 o1 e1) (by
      cases q1 : H b1 with
      | none => rfl
      | some u1 =>
        have e2 : b1 = a := hA1 b1 (by rw [q1]; simp)
        subst e2; rw [hK1 (by rw [q1]; simp)] at e1; cases e1)
    have hM1 : Mod K mg (hidT st1.heap H) := ⟨hKb1, nsK1 hns, ⟨mb, nsK1 hbl, hbb⟩, let ⟨mc, h1, h2⟩ := hlim; ⟨mc, nsK1 h1, h2⟩⟩
    have en0 : Env0 P w K mg (hidT st1.heap H) callerA [] st1 H := ⟨rfl, hM1, fun b1 o1 e1 => of_hidT e1, Nat.le_of_eq (hidT_size _ _), trivial, fun b1 hb1 => absurd (show b1 ∈ ([] : List Addr) from hb1) (by simp), hok1, .of_eq hgn⟩
    refine codeAny_mono ((F _ hKb1 (nsK1 hns)).run callerA [] st1 H ⟨[.ref a], []⟩ [.ref a] [.ref a] _ _ rfl hr1 en0 (hbind st1 (.ref a)) (.cons rfl .nil) (hsp1 H hO1 hS1)) fun r s' h1 => ?_
    cases r with
    | error e1 => exact False.elim h1
    | ok fl =>
      cases fl with
      | next => exact False.elim h1
      | brk => exact False.elim h1
      | cont => exact False.elim h1
      | ret u1 =>
        obtain ⟨v1, H1, os1, bare1, un1, hok2, r1, q1⟩ := h1
        have q2 : v1 = .bl true := q1
        subst q2; obtain rfl : u1 = Value.bool true := r1
        refine ⟨rfl, OldK.of_keep fun b1 o1 e1 => ?_, os1, bare1⟩
        cases q3 : H b1 with
        | none => exact un1.keep b1 o1 e1 q3 (by intro z; exact absurd (show b1 ∈ ([] : List Addr) from z) (by simp)) (by simp)
        | some u2 =>
          rcases hO1 b1 with z1 | ⟨ob1, xs1, z1⟩
          · rw [q3] at z1; cases z1
          · have z2 := un1.frzs b1 ob1 _ z1
            obtain ⟨e3, _⟩ := hok1 b1 _ z1; obtain ⟨e4, _⟩ := hok2 b1 _ z2
            rw [e1] at e3; cases e3; exact e4
  cases hk1 : K.lookup a with
  | some o1 =>
    have e1 := KX a o1 hk1
    rw [hat] at e1; cases e1
    refine core1 (fun _ => none) (fun _ => .inl rfl) (.inr ⟨_, vs.toArray, _, hk1, rfl, rfl, rfl, by rw [List.size_toArray, lenV1]; exact hl, by simpa using rv1⟩) (fun b1 u1 z1 => by have z2 : (none : Option HO) = some u1 := z1; cases z2) (fun b1 z1 => absurd rfl z1) fun z1 => absurd rfl z1
  | none =>
    refine core1 (fun b1 => if b1 = a then some (.frz { cls := .type "list", data := .seq vs.toArray } (.lst (ns.map V.int))) else none) (fun b1 => ?_) (.inl (.inr ⟨{ cls := .type "list", data := .seq vs.toArray }, if_pos rfl⟩)) (fun b1 u1 z1 => ?_) (fun b1 z1 => ?_) fun _ => hk1
    · by_cases hb1 : b1 = a
      · exact .inr ⟨_, _, if_pos hb1⟩
      · exact .inl (if_neg hb1)
    · by_cases hb1 : b1 = a
      · have z2 := (if_pos hb1).symm.trans z1
        cases z2; subst hb1
        exact ⟨hat, by rw [List.length_map]; exact hl, vs, _, rv1, hat⟩
      · have z2 := (if_neg hb1).symm.trans z1
        cases z2
    · by_cases hb1 : b1 = a
      · exact hb1
      · exact absurd (if_neg hb1) z1
end
theorem walk_G {l : PySem.W.OpenLaw} {n k : Nat} {qp : Program} {loose : List Str} {XP : (Str → Option Value) → Heap → Prop} {YP : World → Heap → Prop} {dr : DefRec} {KK : Params → PySem.W.Frag} {sp : World → Sp} {x : Str}
    (hn : l.most = some n) (hn2 : n ≤ sizeLine) (hdf : dr.params.defaults = []) (hr1 : Room k callerA) (hY : ∀ (w : World) (h : Heap), YP w h → (KK w.params).In h)
    (F : ∀ (w : World) (mg : Str → Option Value) (fa : Addr) (h : Heap), (KK w.params).In h → h.Ns mainGlobals mg → mg dr.name = some (.ref fa) →
      ∃ fd : FuncData, (∀ (s : Shared) (u : Value), BindsTo s fd ⟨[u], []⟩ [(x, u)]) ∧ ∀ base : Heap, (KK w.params).In base → base.Ns mainGlobals mg → FnG l.prog w (KK w.params) mg base k fa fd [x] (sp w))
    (hsp1 : ∀ (w : World) (H : Hp) (a : Addr) (ns : List Int), ns.length ≤ n → Only H → SqL (KK w.params) H a (ns.map V.int) → sp w [.ref a] H (fun v _ => v = .bl true) fun _ _ _ => False) :
    PySem.W.WalkO qp loose XP YP l.row.toRowW dr [] (fun f vs => PySem.call f vs) := by
  refine Att.attach_call hn hdf fun w s0 st1 mg mb fa o pm cd doc a vs ns G Y ho hd hcd hmg hobj hints hlen hgn => ?_
  have KX1 := hY w _ Y
  obtain ⟨fd, hb1, hF1⟩ := F w mg fa _ KX1 G.T.g hmg
  exact law_callG KX1 G.T.g G.T.b G.T.builtins G.T.nolimit hgn hobj hints (Nat.le_trans hlen hn2) hr1 hF1 hb1 (fun H hO1 hS1 => hsp1 w H a ns hlen hO1 hS1)
end FS

set_option Elab.async false
set_option linter.all false
set_option maxRecDepth 100000
set_option maxHeartbeats 4000000
/-! What both laws on errors use: an error's class, a made error, plain values that repr shows, isinstance over a list of errors. -/
namespace FS
open PySem PySem.Spec PyProof.Rows L2
/-! ### heaps -/
theorem same_new {H : Hp} {p : Addr} {o : HO} (h : H p = none) : Same H (upd H p o) := fun b x e => by
  rw [upd_ne (ne_of_none e h)]; exact e
/-- all but p as it was -/
def Off (p : Addr) (H H' : Hp) : Prop := ∀ b o, b ≠ p → H b = some o → H' b = some o
theorem Off.of {p : Addr} {H H' : Hp} (h : Same H H') : Off p H H' := fun b o _ e => h b o e
theorem Off.trans {p : Addr} {H H1 H2 : Hp} (h : Off p H H1) (k : Off p H1 H2) : Off p H H2 := fun b o n e => k b o n (h b o n e)
theorem Off.put {p : Addr} {H : Hp} {o : HO} : Off p H (upd H p o) := fun b x n e => by rw [upd_ne n]; exact e
theorem Off.same {p : Addr} {H H1 H2 : Hp} (h : Same H H1) (hp : H p = none) (k : Off p H1 H2) : Same H H2 := fun b o e => k b o (ne_of_none e hp) (h b o e)
/-! ### plain values -/
mutual
theorem Dp_mono {K : PySem.W.Frag} {H H' : Hp} (s : Same H H') : ∀ (d : PyData) (v : V), Dp K H v d → Dp K H' v d
  | .none, _, h => by cases h; exact .non
  | .bool b, _, h => by cases h; exact .bl b
  | .int i, _, h => by cases h; exact .int i
  | .str x, _, h => by cases h; exact .str x
  | .list ds, _, h => by
    cases h with
    | lst hs ha => exact .lst (s.seq hs) (DpAll_mono s ds _ ha)
  | .tuple ds, _, h => by
    cases h with
    | tup hs ha =>
      refine .tup ?_ (DpAll_mono s ds _ ha)
      rcases hs with (h | ⟨o, h⟩) | h
      · exact .inl (.inl (s _ _ h))
      · exact .inl (.inr ⟨o, s _ _ h⟩)
      · exact .inr h
  | .dict _, _, h => by cases h
theorem DpAll_mono {K : PySem.W.Frag} {H H' : Hp} (s : Same H H') : ∀ (ds : List PyData) (vs : List V), DpAll K H vs ds → DpAll K H' vs ds
  | [], _, h => by cases h; exact .nil
  | d :: ds, _, h => by
    cases h with
    | cons h1 h2 => exact .cons (Dp_mono s d _ h1) (DpAll_mono s ds _ h2)
end
/-- a value that repr shows shortly -/
def Nice (K : PySem.W.Frag) (H : Hp) (v : V) (d : PyData) : Prop := Dq K H v d ∧ d.showable = true ∧ d.depth ≤ 5 ∧ d.shown.length ≤ 40
theorem Dq_mono {K : PySem.W.Frag} {H H' : Hp} {v : V} {d : PyData} (s : Same H H') (h : Dq K H v d) : Dq K H' v d := by
  cases h with
  | dp h hd => exact .dp (Dp_mono s d v h) hd
  | emp h => exact .emp (s _ _ h)
theorem Nice.mono {K : PySem.W.Frag} {H H' : Hp} {v : V} {d : PyData} (s : Same H H') (h : Nice K H v d) : Nice K H' v d := ⟨Dq_mono s h.1, h.2⟩
inductive NiceAll (K : PySem.W.Frag) (H : Hp) : List V → List PyData → Prop
  | nil : NiceAll K H [] []
  | cons {v : V} {vs : List V} {d : PyData} {ds : List PyData} : Nice K H v d → NiceAll K H vs ds → NiceAll K H (v :: vs) (d :: ds)
theorem NiceAll.dq {K : PySem.W.Frag} {H : Hp} : ∀ {vs : List V} {ds : List PyData}, NiceAll K H vs ds → DqAll K H vs ds
  | _, _, .nil => .nil
  | _, _, .cons h t => .cons h.1 t.dq
theorem NiceAll.show {K : PySem.W.Frag} {H : Hp} : ∀ {vs : List V} {ds : List PyData}, NiceAll K H vs ds → PyData.showableAll ds = true
  | _, _, .nil => by simp [PyData.showableAll]
  | _, _, .cons h t => by simp only [PyData.showableAll, h.2.1, t.show, Bool.and_self]
theorem NiceAll.depth {K : PySem.W.Frag} {H : Hp} : ∀ {vs : List V} {ds : List PyData}, NiceAll K H vs ds → PyData.depthAll ds ≤ 30
  | _, _, .nil => by simp [PyData.depthAll]
  | _, _, .cons h t => by
    simp only [PyData.depthAll]
    have h1 := h.2.2.1
    have h2 := t.depth
    omega
theorem text_len : ∀ (ts : List Str) (k : Nat) (acc : Str), (∀ t ∈ ts, t.length ≤ 40) → (textFrom k acc ts).length ≤ acc.length + 42 * ts.length
  | [], k, acc, _ => Nat.le_refl _
  | t :: r, k, acc, h => by
    have h1 := h t (List.mem_cons_self ..)
    have h2 : (Str.ofString "").length = 0 := by decide
    have h3 : (Str.ofString ", ").length = 2 := by decide
    unfold textFrom
    refine Nat.le_trans (text_len r _ _ (fun x hx => h x (List.mem_cons_of_mem _ hx))) ?_
    rw [List.length_cons]
    repeat rw [strLen_append]
    split <;> omega
theorem NiceAll.len {K : PySem.W.Frag} {H : Hp} : ∀ {vs : List V} {ds : List PyData}, NiceAll K H vs ds → (PyData.shownAll ds).length = vs.length ∧ ∀ t ∈ PyData.shownAll ds, t.length ≤ 40
  | _, _, .nil => ⟨by simp [PyData.shownAll], fun t h => by simp [PyData.shownAll] at h⟩
  | _, _, .cons h t => by
    obtain ⟨h1, h2⟩ := t.len
    simp only [PyData.shownAll]
    refine ⟨by rw [List.length_cons, List.length_cons, h1], fun x hx => ?_⟩
    rcases List.mem_cons.mp hx with rfl | hx
    · exact h.2.2.2
    · exact h2 x hx
theorem NiceAll.size {K : PySem.W.Frag} {H : Hp} {vs : List V} {ds : List PyData} (h : NiceAll K H vs ds) (hv : vs.length ≤ 1000) : (listText (PyData.shownAll ds)).length ≤ sizeLine := by
  obtain ⟨h1, h2⟩ := h.len
  have h3 := text_len (PyData.shownAll ds) 0 "[" h2
  have h4 : (Str.ofString "[").length = 1 := by decide
  have h5 : (Str.ofString "]").length = 1 := by decide
  unfold listText
  rw [strLen_append, sizeLine_eq]
  rw [h1] at h3
  omega
end FS

set_option Elab.async false
set_option linter.all false
set_option maxRecDepth 100000
set_option maxHeartbeats 4000000
namespace FS
open PySem PySem.Spec PyProof.Rows L2
/-! ### an error's class -/
structure EC (K : PySem.W.Frag) (mg : Str → Option Value) (nm : Str) (C fI : Addr) : Prop where
  oex : OexC K C
  gC : mg nm = some (.ref C)
  iC : PySem.W.findIn K (.ref C) "__init__" = some (some (.ref fI))
  tI : PySem.W.typeIn K (.ref fI) = some (.type "function")
  xf : XfC K C
  ec : ExcC K C
theorem ec_mk {K : PySem.W.Frag} {h : Heap} {mg : Str → Option Value} (X : K.In h) (G : h.Ns mainGlobals mg) {nm : Str} {C fI : Addr} {n1 q : Str} {N : Addr} {bs bm : List Value} {sn : List Str} {sub : List Value} {ab : Bool} {col : Option Bool} {dd : Option Addr} {m0 m1 m2 m3 m5 : Option Value}
    (aC : PySem.W.nsIn K mainGlobals nm = some (some (.ref C))) (xL : K.lookup C = some (excClassObj n1 q C N bs bm true sn sub ab col dd m0 m1 m2 m3 m5 "ValueError.__new__")) (bmv : PySem.HandSPX.refsVE bm = true)
    (sa : PySem.W.findIn K (.ref C) "__setattr__" = some (some (.builtin "object.__setattr__"))) (ga : PySem.W.findIn K (.ref C) "__getattribute__" = some (some (.builtin "BaseException.__getattribute__"))) (gg : PySem.W.findIn K (.ref C) "__getattr__" = some none)
    (a1 : PySem.W.findIn K (.ref C) "__init__" = some (some (.ref fI))) (t1 : PySem.W.typeIn K (.ref fI) = some (.type "function")) (kC : PySem.W.keepIn K (.ref C) = true) (eC : PySem.W.subIn K (.ref C) (.type "BaseException") = some true)
    (tC : PySem.W.typeIn K (.ref C) = some (.type "type")) (hC : PySem.W.hasDictIn K C = true) (cC : PySem.W.findIn K (.ref C) "__class__" = some (some (.builtin "object.__class__"))) (mC : PySem.W.mroIn K C (.type "object") = some true)
    (hn : PySem.W.specialIn K (.builtin "object.__class__") "__get__" = some (some (.builtin "getset_descriptor.__get__"))) (ht : PySem.W.takesIn K (.builtin "object.__class__") = some true) : EC K mg nm C fI :=
  ⟨⟨⟨n1, q, N, bs, bm, sn, sub, ab, col, dd, m0, m1, m2, m3, m5, xL, bmv⟩, sa, eC, tC, kC⟩, PySem.W.mg_of X G aC, a1, t1, ⟨ga, gg, eC, hC⟩, ⟨ga, gg, eC, hC, cC, hn, ht, mC⟩⟩
/-- isinstance's answer over classes -/
theorem kit_own {K : PySem.W.Frag} {D C : Addr} {b : Bool} (hd : PySem.W.hasDictIn K C = true) (ty : PySem.W.typeIn K (.ref C) = some (.type "type")) (h : PySem.W.subIn K (.ref D) (.ref C) = some b) (hb : D = C → b = true) : PySem.W.kitOne K (.ref D) (.ref C) = some b := by
  unfold PySem.W.kitOne
  by_cases e : D = C
  · subst e
    rw [if_pos (by simp), hb rfl]
  · have ne : ((Value.ref D) == (Value.ref C)) = false := beq_eq_false_iff_ne.mpr fun q => e (Value.ref.inj q)
    rw [ne, if_neg Bool.false_ne_true]
    obtain ⟨cd, hc, _⟩ := PySem.W.any_some hd
    show (if ((PySem.W.clsIn K C).isSome && PySem.W.typeIn K (.ref C) == some (.type "type")) = true then PySem.W.subIn K (.ref D) (.ref C) else none) = some b
    rw [if_pos (by rw [hc, ty] <;> rfl)]
    exact h
theorem kit_ve {K : PySem.W.Frag} {D : Addr} {b : Bool} (h : PySem.W.subIn K (.ref D) (.type "ValueError") = some b) : PySem.W.kitOne K (.ref D) (.type "ValueError") = some b := by
  unfold PySem.W.kitOne
  have ne : ((Value.ref D) == (Value.type "ValueError")) = false := beq_eq_false_iff_ne.mpr fun q => nomatch q
  rw [ne, if_neg Bool.false_ne_true]
  show (if PySem.W.kitMeta "ValueError" = true then PySem.W.subIn K (.ref D) (.type "ValueError") else none) = some b
  rw [if_pos (by decide +kernel)]
  exact h
/-! ### an error made -/
def ErrAt (H : Hp) (a C : Addr) (fs : List (Str × V)) : Prop := ∃ d, H a = some (exo a C (some d)) ∧ H d = some (exd d fs)
theorem ErrAt.mono {H H' : Hp} {a C : Addr} {fs : List (Str × V)} (s : Same H H') (h : ErrAt H a C fs) : ErrAt H' a C fs := by
  obtain ⟨d, h1, h2⟩ := h
  exact ⟨d, s _ _ h1, s _ _ h2⟩
def spI1 (C : Addr) (f : Str) : Sp := fun vs H Q _ => ∃ (a : Addr) (v : V), vs = [.ref a, v] ∧ H a = some (exo a C none) ∧ ∀ H', Off a H H' → ErrAt H' a C [(f, v)] → Q .non H'
def spI2 (C : Addr) (f g : Str) : Sp := fun vs H Q _ => ∃ (a : Addr) (v u : V), vs = [.ref a, v, u] ∧ H a = some (exo a C none) ∧ ∀ H', Off a H H' → ErrAt H' a C [(g, u), (f, v)] → Q .non H'
def spI3 (C : Addr) (f g i : Str) : Sp := fun vs H Q _ => ∃ (a : Addr) (v u x : V), vs = [.ref a, v, u, x] ∧ H a = some (exo a C none) ∧ ∀ H', Off a H H' → ErrAt H' a C [(i, x), (g, u), (f, v)] → Q .non H'
theorem off_first {H : Hp} {a dx C : Addr} {u : HO} (n : H dx = none) : Off a H (upd (upd H dx u) a (exo a C (some dx))) := fun b o hb e => by rw [upd_ne hb, upd_ne (ne_of_none e n)]; exact e
theorem err_first {H : Hp} {a dx C : Addr} {fs : List (Str × V)} (ne : dx ≠ a) : ErrAt (upd (upd H dx (exd dx fs)) a (exo a C (some dx))) a C fs := ⟨dx, upd_same, by rw [upd_ne ne, upd_same]⟩
theorem err_next {H : Hp} {a dx C : Addr} {fs : List (Str × V)} (ne : dx ≠ a) (h : H a = some (exo a C (some dx))) : ErrAt (upd H dx (exd dx fs)) a C fs := ⟨dx, by rw [upd_ne ne.symm]; exact h, upd_same⟩
section
variable {P : Program} {w : World} {K : PySem.W.Frag} {mg : Str → Option Value} {base : Heap} {H : Hp} {C : Addr} {f g i : Str} {Q : VK}
theorem mk1 {v : V} (h : ∀ a H', Same H H' → H a = none → ErrAt H' a C [(f, v)] → Q (.ref a) H') :
    [v].length ≤ 1000 ∧ ∀ a, H a = none → spI1 C f (.ref a :: ([v] ++ [])) (upd H a (exo a C none)) (fun v H2 => v = .non ∧ Q (.ref a) H2) (fun _ _ _ => False) :=
  ⟨by simp, fun a na => ⟨a, v, rfl, upd_same, fun H' o e => ⟨rfl, h a H' (Off.same (same_new na) na o) na e⟩⟩⟩
theorem mk2 {v u : V} (h : ∀ a H', Same H H' → H a = none → ErrAt H' a C [(g, u), (f, v)] → Q (.ref a) H') :
    [v, u].length ≤ 1000 ∧ ∀ a, H a = none → spI2 C f g (.ref a :: ([v, u] ++ [])) (upd H a (exo a C none)) (fun v H2 => v = .non ∧ Q (.ref a) H2) (fun _ _ _ => False) :=
  ⟨by simp, fun a na => ⟨a, v, u, rfl, upd_same, fun H' o e => ⟨rfl, h a H' (Off.same (same_new na) na o) na e⟩⟩⟩
theorem mk3 {v u x : V} (h : ∀ a H', Same H H' → H a = none → ErrAt H' a C [(i, x), (g, u), (f, v)] → Q (.ref a) H') :
    [v, u, x].length ≤ 1000 ∧ ∀ a, H a = none → spI3 C f g i (.ref a :: ([v, u, x] ++ [])) (upd H a (exo a C none)) (fun v H2 => v = .non ∧ Q (.ref a) H2) (fun _ _ _ => False) :=
  ⟨by simp, fun a na => ⟨a, v, u, x, rfl, upd_same, fun H' o e => ⟨rfl, h a H' (Off.same (same_new na) na o) na e⟩⟩⟩
end
/-! ### isinstance over a list of errors -/
inductive Isi (K : PySem.W.Frag) (H : Hp) (cv : Value) : List V → List Bool → Prop
  | nil : Isi K H cv [] []
  | cons {a C : Addr} {fs : List (Str × V)} {b : Bool} {vs : List V} {bs : List Bool} : ErrAt H a C fs → ExcC K C → PySem.W.kitOne K (.ref C) cv = some b → Isi K H cv vs bs → Isi K H cv (.ref a :: vs) (b :: bs)
theorem Isi.mono {K : PySem.W.Frag} {H H' : Hp} {cv : Value} (s : Same H H') : ∀ {vs : List V} {bs : List Bool}, Isi K H cv vs bs → Isi K H' cv vs bs
  | _, _, .nil => .nil
  | _, _, .cons h1 h2 h3 t => .cons (h1.mono s) h2 h3 (t.mono s)
theorem Isi.get {K : PySem.W.Frag} {H : Hp} {cv : Value} : ∀ {vs : List V} {bs : List Bool} {i : Nat} {v : V}, Isi K H cv vs bs → vs[i]? = some v → ∃ a C fs b, v = .ref a ∧ ErrAt H a C fs ∧ ExcC K C ∧ PySem.W.kitOne K (.ref C) cv = some b ∧ bs[i]? = some b
  | _, _, i, v, .nil, e => by simp at e
  | _, _, 0, v, .cons h1 h2 h3 t, e => by
    simp at e
    exact ⟨_, _, _, _, e.symm, h1, h2, h3, by simp⟩
  | _, _, i + 1, v, .cons h1 h2 h3 t, e => by
    simp at e
    obtain ⟨a, C, fs, b, r⟩ := t.get e
    exact ⟨a, C, fs, b, r.1, r.2.1, r.2.2.1, r.2.2.2.1, by simpa using r.2.2.2.2⟩
theorem Isi.len {K : PySem.W.Frag} {H : Hp} {cv : Value} : ∀ {vs : List V} {bs : List Bool}, Isi K H cv vs bs → bs.length = vs.length
  | _, _, .nil => rfl
  | _, _, .cons _ _ _ t => by rw [List.length_cons, List.length_cons, t.len]
/-- one isinstance -/
theorem isi_one {K : PySem.W.Frag} {H : Hp} {a C : Addr} {fs : List (Str × V)} {b : Bool} {c : V} {cv : Value} {Q : VK} (h1 : ErrAt H a C fs) (h2 : ExcC K C) (hc : ∀ u, RelV c u → u = cv) (h3 : PySem.W.kitOne K (.ref C) cv = some b) (q : Q (.bl b) H) : rIsO K [.ref a, c] H Q := by
  obtain ⟨d, e1, e2⟩ := h1
  exact ⟨a, C, d, fs, c, cv, b, rfl, e1, e2, h2, hc, h3, q⟩
/-- [isinstance(x, c) for x in xs] -/
theorem comp_isi {K : PySem.W.Frag} {i j : Nat} {σ : L2.St} {H : Hp} {Q : VK} {l : Addr} {vs : List V} {bs : List Bool} {c : V} {cv : Value} (h1 : σ[i]? = some (some (.ref l))) (hl : SqL K H l vs) (hv : Isi K H cv vs bs) (hc : ∀ u, RelV c u → u = cv) (hz : vs.length ≤ 100) (hj : j < σ.length)
    (hq : ∀ D H', Same H H' → H' D = some (.lst (bs.map .bl)) → Q (.ref D) H') : tLc (iList K (tVar i)) (gName j) tYes (tCB (rIsO K) (tCons (tVar j) (tCons (tC c) tNil))) [j] σ H Q := by
  refine ⟨_, h1, l, rfl, ⟨_, hl⟩, fun D hD => ?_⟩
  have s0 : Same H (upd H D (.lst [])) := same_new hD
  refine lc_list (xs := vs) (fun i H' => Same H H' ∧ H' D = some (.lst ((bs.take i).map .bl))) ⟨s0, upd_same⟩ (fun _ _ _ h => h.1.seq hl) (fun k x H' hx ⟨s, hd⟩ => ?_) (fun H' ⟨s, hd⟩ => hq D H' s ?_)
  · obtain ⟨a, C, fs, b, rfl, e1, e2, e3, e4⟩ := (hv.mono s).get hx
    refine ⟨by simp [wipe], ?_⟩
    refine ⟨.ref a, by simp [wipe, hj], ?_⟩
    dsimp only [tCons, tC, tNil]
    refine isi_one e1 e2 hc e3 ⟨_, hd, ?_, ?_, ?_⟩
    · rw [List.length_map, List.length_take]
      have := hv.len
      exact small1000 (by omega)
    · intro b' o e
      rw [upd_ne (ne_of_none e hD)]
      exact s _ _ e
    · rw [upd_same, List.take_add_one, e4, List.map_append]
      rfl
  · rw [hd, ← hv.len, List.take_length]
end FS

set_option Elab.async false
set_option linter.all false
set_option maxRecDepth 100000
set_option maxHeartbeats 4000000
namespace FS
open PySem PySem.Spec PyProof.Rows L2
section
variable {K : PySem.W.Frag} {H : Hp} {Q : VK}
theorem mkL {xs : List V} (hl : xs.length ≤ 1000) (h : ∀ p H', Same H H' → H p = none → H' p = some (.lst xs) → Q (.ref p) H') : xs.length ≤ sizeLine ∧ ∀ p, H p = none → Q (.ref p) (upd H p (.lst xs)) :=
  ⟨Nat.le_of_lt (small1000 hl), fun p np => h p _ (same_new np) np upd_same⟩
theorem mkT {xs : List V} (hl : xs.length ≤ 1000) (h : ∀ p H', Same H H' → H p = none → H' p = some (.tup xs) → Q (.ref p) H') : xs.length ≤ sizeLine ∧ ∀ p, H p = none → Q (.ref p) (upd H p (.tup xs)) :=
  ⟨Nat.le_of_lt (small1000 hl), fun p np => h p _ (same_new np) np upd_same⟩
theorem mkD (h : ∀ p H', Same H H' → H p = none → H' p = some (.dK []) → Q (.ref p) H') : ∀ p, H p = none → Q (.ref p) (upd H p (.dK [])) := fun p np => h p _ (same_new np) np upd_same
theorem mkCat {l b : Addr} {xs zs : List V} (hl : H l = some (.lst xs)) (hb : H b = some (.lst zs)) (hz : xs.length + zs.length ≤ 1000) (h : ∀ p H', Same H H' → H' p = some (.lst (xs ++ zs)) → Q (.ref p) H') : rCat (.ref l) (.ref b) H Q :=
  ⟨l, b, xs, zs, rfl, rfl, hl, hb, Nat.le_of_lt (small1000 hz), fun p np => h p _ (same_new np) upd_same⟩
theorem rp {a : Addr} {v : V} {vs : List V} {ds : List PyData} (ha : H a = some (.lst (v :: vs))) (hn : NiceAll K H (v :: vs) ds) (hl : (v :: vs).length ≤ 1000) (q : Q (.str (listText (PyData.shownAll ds))) H) : rReprL K [.ref a] H Q :=
  ⟨a, v, vs, ds, rfl, ha, hn.dq, hn.show, hn.depth, hn.size hl, q⟩
theorem rd_at {σ : L2.St} {l a C : Addr} {xs : List V} {i : Int} {j : Nat} {fs : List (Str × V)} {n : Str} {v : V} (hj : σ[j]? = some (some (.ref l))) (hL : H l = some (.lst xs)) (hx : atI xs i = some (.ref a)) (he : ErrAt H a C fs) (T : XfC K C)
    (no : PySem.W.findIn K (.ref C) n = some none) (hl : fs.lookup n = some v) (q : Q v H) : tXo K n (tOp (rIxL K) (tVar j) (tC (.int i))) σ H Q := by
  obtain ⟨d, h1, h2⟩ := he
  exact ⟨_, hj, l, xs, i, _, rfl, rfl, SqL.of hL, hx, a, C, d, fs, v, rfl, h1, h2, T, no, hl, q⟩
theorem dp_bools {a : Addr} {bs : List Bool} (h : H a = some (.lst (bs.map V.bl))) : Dp K H (.ref a) (.list (bs.map PyData.bool)) := by
  refine .lst (SqL.of h) ?_
  clear h
  induction bs with
  | nil => exact .nil
  | cons b r ih => exact .cons (.bl b) ih
/-- [spot == other for other in range(n)] -/
theorem comp_eq {σ : L2.St} {i j n : Nat} {z : Int} (hi : σ[i]? = some (some (.int z))) (hj : j < σ.length) (hne : i ≠ j) (hn : n ≤ 1000)
    (hq : ∀ D H', Same H H' → H' D = some (.lst ((List.range n).map fun k : Nat => V.bl (decide (V.int z = V.int (0 + (k : Int)))))) → Q (.ref D) H') : tLc (iRng1 (tCons (tC (.int (n : Int))) tNil)) (gName j) tYes (tOp rEq (tVar i) (tVar j)) [j] σ H Q := by
  refine ⟨(n : Int), rfl, by omega, by omega, fun D hD => ?_⟩
  refine lc_range (lo := 0) (n := n) (fun k H' => Same H H' ∧ H' D = some (.lst ((List.range k).map fun k : Nat => V.bl (decide (V.int z = V.int (0 + (k : Int))))))) ⟨same_new hD, upd_same⟩ (fun k H' hk ⟨s, hd⟩ => ?_) (fun H' ⟨s, hd⟩ => hq D H' s hd)
  refine ⟨by simp [wipe], ?_⟩
  refine ⟨.int z, ?_, .int (0 + (k : Int)), by simp [wipe, hj], rfl, _, hd, ?_, ?_, ?_⟩
  · simp [wipe, List.getElem?_set, hne.symm, hi]
  · rw [List.length_map, List.length_range]
    exact small1000 (by omega)
  · intro b o e
    rw [upd_ne (ne_of_none e hD)]
    exact s _ _ e
  · rw [upd_same, List.range_succ, List.map_append]
    rfl
theorem off_second {a dx C : Addr} {u1 u2 : HO} (n : H dx = none) : Off a H (upd (upd (upd H dx u1) a (exo a C (some dx))) dx u2) := fun b o hb e => by rw [upd_ne (ne_of_none e n), upd_ne hb, upd_ne (ne_of_none e n)]; exact e
theorem off_third {a dx C : Addr} {u1 u2 u3 : HO} (n : H dx = none) : Off a H (upd (upd (upd (upd H dx u1) a (exo a C (some dx))) dx u2) dx u3) := fun b o hb e => by rw [upd_ne (ne_of_none e n), upd_ne (ne_of_none e n), upd_ne hb, upd_ne (ne_of_none e n)]; exact e
end
end FS

set_option Elab.async false
set_option linter.all false
set_option maxRecDepth 100000
set_option maxHeartbeats 4000000
namespace FS
open PySem PySem.Spec PyProof.Rows L2
/-! Rules whose readings hand on a heap by a letter: what stood stands, and the new thing is there. -/
section
variable {X : Cx} {e : Expr} {es : List Expr} {te : TE} {t : TA} {p pos : Pos}
theorem pe_imp {t' : TE} (h : PE X e te) (i : ∀ σ H Q, t' σ H Q → te σ H Q) : PE X e t' := ⟨fun pins s σ H Q I q => h.run pins s σ H Q I (i σ H Q q)⟩
def tLstS (t : TA) : TE := fun σ H Q => t σ H fun xs H1 => xs.length ≤ 1000 ∧ ∀ p H', Same H1 H' → H1 p = none → H' p = some (.lst xs) → Q (.ref p) H'
def tTupS (t : TA) : TE := fun σ H Q => t σ H fun xs H1 => xs.length ≤ 1000 ∧ ∀ p H', Same H1 H' → H1 p = none → H' p = some (.tup xs) → Q (.ref p) H'
def tDictS : TE := fun _ H Q => ∀ p H', Same H H' → H p = none → H' p = some (.dK []) → Q (.ref p) H'
theorem pe_lstS (h : PA X es t) : PE X (.List es pos) (tLstS t) := by
  refine ⟨fun pins s0 σ H Q I hq => ?_⟩
  refine wpAny_List_spliced (thn (h.run pos pins s0 σ H _ I hq) fun us s1 ⟨xs, H1, I1, r, z, q⟩ => ⟨by rw [← r.length]; exact Nat.le_of_lt (small1000 z), ?_⟩)
  have nf : H1 s1.heap.objs.size = none := I1.hok.fresh (Nat.le_refl _)
  refine ⟨.ref s1.heap.objs.size, upd H1 s1.heap.objs.size (.lst xs), I1.laid (t' := s1.toks) (fun b u e1 => Heap.get?_push_of_some _ e1) (Nat.le_refl _) ?_, rfl, q _ _ (same_new nf) nf upd_same⟩
  exact ⟨Nat.le_of_lt (small1000 z), us, 0, r, Heap.get?_push_size _ rfl⟩
theorem pe_tupS {x1} (h : PA X es t) : PE X (.Tuple es x1 pos) (tTupS t) := by
  refine ⟨fun pins s0 σ H Q I hq => ?_⟩
  refine wpAny_Tuple_spliced (thn (h.run pos pins s0 σ H _ I hq) fun us s1 ⟨xs, H1, I1, r, z, q⟩ => ⟨by rw [← r.length]; exact Nat.le_of_lt (small1000 z), ?_⟩)
  have nf : H1 s1.heap.objs.size = none := I1.hok.fresh (Nat.le_refl _)
  refine ⟨.ref s1.heap.objs.size, upd H1 s1.heap.objs.size (.tup xs), I1.laid (t' := s1.toks) (fun b u e1 => Heap.get?_push_of_some _ e1) (Nat.le_refl _) ?_, rfl, q _ _ (same_new nf) nf upd_same⟩
  exact ⟨Nat.le_of_lt (small1000 z), us, r, ⟨_, Heap.get?_push_size _ rfl, rfl, _, rfl⟩⟩
theorem pe_dictS : PE X (.Dict [] [] pos) tDictS := pe_imp pe_dnewK fun σ H Q h p np => h p _ (same_new np) np upd_same
def rCatS : R2 := fun x y H Q => ∃ l b xs zs, x = .ref l ∧ y = .ref b ∧ H l = some (.lst xs) ∧ H b = some (.lst zs) ∧ xs.length + zs.length ≤ 1000 ∧ ∀ p H', Same H H' → H p = none → H' p = some (.lst (xs ++ zs)) → Q (.ref p) H'
theorem op_catS : OpR X (binaryOp .Add) rCatS := fun pins s σ H x y v u Q I rx ry ⟨l, b, xs, zs, e1, e2, h1, h2, hz, q⟩ =>
  op_cat pins s σ H x y v u Q I rx ry ⟨l, b, xs, zs, e1, e2, h1, h2, Nat.le_of_lt (small1000 hz), fun p np => q p _ (same_new np) np upd_same⟩
def rRepS : R2 := fun x y H Q => ∃ l k xs, x = .ref l ∧ y = .int k ∧ H l = some (.lst xs) ∧ 0 ≤ k ∧ k < 1000 ∧ xs.length * k.toNat ≤ 1000 ∧ ∀ p H', Same H H' → H p = none → H' p = some (.lst ((List.replicate k.toNat xs).flatten)) → Q (.ref p) H'
def tMk1 (C : Addr) (f : Str) (i : Nat) : TE := fun σ H Q => ∃ v, σ[i]? = some (some v) ∧ ∀ a H', Same H H' → H a = none → ErrAt H' a C [(f, v)] → Q (.ref a) H'
def tMk2 (C : Addr) (f g : Str) (i j : Nat) : TE := fun σ H Q => ∃ v u, σ[i]? = some (some v) ∧ σ[j]? = some (some u) ∧ ∀ a H', Same H H' → H a = none → ErrAt H' a C [(g, u), (f, v)] → Q (.ref a) H'
def tMk3 (C : Addr) (f g k : Str) (i j m : Nat) : TE := fun σ H Q => ∃ v u x, σ[i]? = some (some v) ∧ σ[j]? = some (some u) ∧ σ[m]? = some (some x) ∧ ∀ a H', Same H H' → H a = none → ErrAt H' a C [(k, x), (g, u), (f, v)] → Q (.ref a) H'
theorem pe_mk1 {C : Addr} {f : Str} {i : Nat} (h : PE X e (tMkV C (spI1 C f) [] (tCons (tVar i) tNil))) : PE X e (tMk1 C f i) := pe_imp h fun σ H Q ⟨v, e1, q⟩ => ⟨v, e1, mk1 q⟩
theorem pe_mk2 {C : Addr} {f g : Str} {i j : Nat} (h : PE X e (tMkV C (spI2 C f g) [] (tCons (tVar i) (tCons (tVar j) tNil)))) : PE X e (tMk2 C f g i j) := pe_imp h fun σ H Q ⟨v, u, e1, e2, q⟩ => ⟨v, e1, u, e2, mk2 q⟩
theorem pe_mk3 {C : Addr} {f g k : Str} {i j m : Nat} (h : PE X e (tMkV C (spI3 C f g k) [] (tCons (tVar i) (tCons (tVar j) (tCons (tVar m) tNil))))) : PE X e (tMk3 C f g k i j m) := pe_imp h fun σ H Q ⟨v, u, x, e1, e2, e3, q⟩ => ⟨v, e1, u, e2, x, e3, mk3 q⟩
def tCI (K : PySem.W.Frag) (i j : Nat) (c : V) : TE := fun σ H Q => ∃ (l : Addr) (vs : List V) (bs : List Bool) (cv : Value), σ[i]? = some (some (.ref l)) ∧ SqL K H l vs ∧ Isi K H cv vs bs ∧ (∀ u, RelV c u → u = cv) ∧ vs.length ≤ 100 ∧ j < σ.length ∧ ∀ D H', Same H H' → H' D = some (.lst (bs.map .bl)) → Q (.ref D) H'
theorem pe_ci {K : PySem.W.Frag} {i j : Nat} {c : V} (h : PE X e (tLc (iList K (tVar i)) (gName j) tYes (tCB (rIsO K) (tCons (tVar j) (tCons (tC c) tNil))) [j])) : PE X e (tCI K i j c) :=
  pe_imp h fun σ H Q ⟨l, vs, bs, cv, h1, h2, h3, h4, h5, h6, q⟩ => comp_isi h1 h2 h3 h4 h5 h6 q
def tCE (i j n : Nat) : TE := fun σ H Q => ∃ z : Int, σ[i]? = some (some (.int z)) ∧ j < σ.length ∧ ∀ D H', Same H H' → H' D = some (.lst ((List.range n).map fun k : Nat => V.bl (decide (V.int z = V.int (0 + (k : Int)))))) → Q (.ref D) H'
theorem pe_ce {i j n : Nat} (hne : i ≠ j) (hn : n ≤ 1000) (h : PE X e (tLc (iRng1 (tCons (tC (.int (n : Int))) tNil)) (gName j) tYes (tOp rEq (tVar i) (tVar j)) [j])) : PE X e (tCE i j n) := pe_imp h fun σ H Q ⟨z, h1, h2, q⟩ => comp_eq h1 h2 hne hn q
def tRep (K : PySem.W.Frag) (te : TE) : TE := fun σ H Q => te σ H fun x H1 => rReprL K [x] H1 Q
theorem pe_rep {K : PySem.W.Frag} (h : PE X e (tCB (rReprL K) (tCons te tNil))) : PE X e (tRep K te) := pe_imp h fun _ _ _ q => q
def tIsi (K : PySem.W.Frag) (te : TE) (c : V) : TE := fun σ H Q => te σ H fun x H1 => rIsO K [x, c] H1 Q
theorem pe_isi {K : PySem.W.Frag} {c : V} (h : PE X e (tCB (rIsO K) (tCons te (tCons (tC c) tNil)))) : PE X e (tIsi K te c) := pe_imp h fun _ _ _ q => q
end
end FS

set_option Elab.async false
set_option linter.all false
set_option maxRecDepth 100000
set_option maxHeartbeats 4000000
namespace FS
open PySem PySem.Spec PyProof.Rows L2
section
variable {X : Cx}
theorem count_eqU {y : V} : ∀ {xs : List V} {us : List Value}, Vals xs us → xs.all flatV = true → us.countP (eqU y) = xs.countP fun z => eqV z y
  | _, _, .nil, _ => rfl
  | x :: xs, u :: us, .cons r t, f => by
    rw [List.all_cons, Bool.and_eq_true] at f
    rw [List.countP_cons, List.countP_cons, eqU_of r f.1, count_eqU t f.2]
/-- xs.count(y), flat items -/
def rCntV (K : PySem.W.Frag) : V → List V → Hp → VK → Prop := fun x xs H Q => ∃ (p : Addr) (ys : List V) (y : V), x = .ref p ∧ xs = [y] ∧ SqL K H p ys ∧ flatV y = true ∧ ys.all flatV = true ∧ Q (.int (ys.countP (fun z => eqV z y) : Nat)) H
theorem mt_countV : MtR X "list.count" (rCntV X.K) := by
  intro pins s σ H x xs v us Q I rx rxs h
  obtain ⟨p, ys, y, rfl, rfl, hs, fy, fys, q⟩ := h
  cases rx
  obtain ⟨u, rfl, ru⟩ := rxs.one
  obtain ⟨its, rv, ⟨⟨cls, dd, data, sl⟩, n, ho, hc, hdn, hd⟩, hlen⟩ := I.list hs
  simp only at hc hd
  subst hc hd
  refine call_meets PySem.F.slot_list_count ⟨_, ho, rfl⟩ PySem.F.entry_list_count (PySem.F.args_list_count_2 _ _)
    (SeqAt.list_countAt p its.toArray n dd sl u (eqU y)) ⟨ho, fun z hz => mem_eqAt ru fy rv fys z (by simpa using hz), ?_⟩
  have ec : its.toArray.toList.countP (eqU y) = ys.countP fun z => eqV z y := count_eqU rv fys
  refine ⟨.int (ys.countP (fun z => eqV z y) : Nat), H, I.tok _, ⟨s.toks, ?_⟩, q⟩
  show Value.int ((its.toArray.toList.countP (eqU y) : Nat) : Int) s.toks = Value.int ((ys.countP (fun z => eqV z y) : Nat) : Int) s.toks
  rw [ec]
def rSlS (K : PySem.W.Frag) : V → Option Int → Option Int → Hp → VK → Prop := fun x lo hi H Q => ∃ a xs, x = .ref a ∧ SqL K H a xs ∧ ∀ p H', Same H H' → H p = none → H' p = some (.lst (cutV xs lo hi)) → Q (.ref p) H'
theorem sl_listS : SlR X (rSlS X.K) := fun pins s σ H x v vl vu lo hi sl Q I rx hs pl pu ⟨a, xs, e, hx, q⟩ =>
  sl_list pins s σ H x v vl vu lo hi sl Q I rx hs pl pu ⟨a, xs, e, hx, fun p np => q p _ (same_new np) np upd_same⟩
theorem call_listS : CallR X (.type "list") (fun xs H Q => ∃ p ys, xs = [.ref p] ∧ (SqL X.K H p ys ∨ SqT X.K H p ys) ∧ ∀ l H', Same H H' → H l = none → H' l = some (.lst ys) → Q (.ref l) H') := fun pins s σ H xs us Q I r ⟨p, ys, e, h, q⟩ =>
  call_list_of pins s σ H xs us Q I r ⟨p, ys, e, h, fun l nl => q l _ (same_new nl) nl upd_same⟩
theorem op_repS : OpR X (binaryOp .Mult) rRepS := fun pins s σ H x y v u Q I rx ry ⟨l, k, xs, e1, e2, h, k0, k1, hz, q⟩ =>
  op_rep pins s σ H x y v u Q I rx ry ⟨l, k, xs, e1, e2, h, by omega, by omega, Nat.le_of_lt (small1000 hz), fun p np => q p _ (same_new np) np upd_same⟩
end
theorem ixN_of {n j : Nat} (hj : j < n) : ixN n (j : Int) = some j := by
  unfold ixN
  rw [if_pos (by omega), if_pos (by omega)]; simp
theorem cut_ints (ns : List Int) (lo hi : Option Int) : ∃ ms : List Int, cutV (ns.map V.int) lo hi = ms.map V.int ∧ ms.length ≤ ns.length := by
  refine ⟨(ns.drop (HT.sIx (ns.map V.int).length 0 lo)).take (HT.sIx (ns.map V.int).length (ns.map V.int).length hi - HT.sIx (ns.map V.int).length 0 lo), ?_, ?_⟩
  · unfold cutV
    rw [List.map_take, List.map_drop]
  · rw [List.length_take, List.length_drop]
    omega
end FS

set_option Elab.async false
set_option linter.all false
set_option maxRecDepth 100000
set_option maxHeartbeats 4000000
/-! zip of a list and a tuple. -/
namespace FS
open PySem PySem.Spec PyProof.Rows L2
def ItM (K : PySem.W.Frag) (a b : Addr) : It :=
  ⟨fun i H => ∃ (xs ys : List V) (x y : V), SqL K H a xs ∧ SqT K H b ys ∧ xs[i]? = some x ∧ ys[i]? = some y,
    fun i H v H' => ∃ T x y, v = .ref T ∧ H T = none ∧ H' = upd H T (.tup [x, y]) ∧ (∀ xs, SqL K H a xs → xs[i]? = some x) ∧ ∀ ys, SqT K H b ys → ys[i]? = some y,
    fun i H => ∃ xs ys : List V, SqL K H a xs ∧ SqT K H b ys ∧ (i = xs.length ∨ i = ys.length) ∧ i ≤ xs.length ∧ i ≤ ys.length⟩
theorem turn_zipM {P : Program} {w : World} {K : PySem.W.Frag} {elts : List Expr} {kk : Nat} {tpos : Pos} {a b z TI TO i1 i2 : Addr} (S : ZipSep2 z TI TO i1 i2 [i1, a] [i2, b]) (na : a ≠ i1) (nb : b ≠ i2) :
    Turn P w K (.Tuple elts kk tpos) (ItM K a b) [z, TI, TO, i1, i2] z (fun i h => IsZip h z TI TO .none ∧ IsTupOf2 h TI (.ref i1) (.ref i2) ∧ (∃ x y, IsTupOf2 h TO x y) ∧ h.IsListIter i1 a i ∧ h.IsTupleIter i2 b i) where
  mem := by simp
  obj := fun i h ⟨q1, q2, ⟨x, y, q3⟩, ⟨o1, e1, _, d1⟩, ⟨o2, e2, _, d2⟩⟩ c hc => by
    have hcs : c = z ∨ c = TI ∨ c = TO ∨ c = i1 ∨ c = i2 := by simpa using hc
    rcases hcs with rfl | rfl | rfl | rfl | rfl
    · exact ⟨_, q1, fun v q => nomatch q⟩
    · exact ⟨_, q2, fun v q => nomatch q⟩
    · exact ⟨_, q3, fun v q => nomatch q⟩
    · exact ⟨o1, e1, fun v q => by rw [d1] at q; cases q⟩
    · exact ⟨o2, e2, fun v q => by rw [d2] at q; cases q⟩
  keep := fun i h h' ⟨q1, q2, ⟨x, y, q3⟩, q4, q5⟩ k => ⟨k z (by simp) _ q1, k TI (by simp) _ q2, ⟨x, y, k TO (by simp) _ q3⟩, q4.at fun o q => k i1 (by simp) o q, q5.at fun o q => k i2 (by simp) o q⟩
  item := by
    intro X eP ew eK hc i pins s σ H E I hf ⟨q1, q2, ⟨x0, y0, q3⟩, q4, q5⟩ ⟨xs, ys, x, y, hqx, hqy, hx, hy⟩
    subst eP ew eK
    obtain ⟨its, rv, p1, _⟩ := I.list hqx
    obtain ⟨its2, rv2, p2, _⟩ := I.tuple hqy
    obtain ⟨u, hu, ru⟩ := rv.get hx
    obtain ⟨u2, hu2, ru2⟩ := rv2.get hy
    have hh : X.A.in1.handled = none := I.ok.hd hc
    have hu' : its.toArray[i]? = some u := by simpa using hu
    have hu2' : its2.toArray[i]? = some u2 := by simpa using hu2
    have l1 : i < its.toArray.size := (Array.getElem?_eq_some_iff.mp hu').1
    have l2 : i < its2.toArray.size := (Array.getElem?_eq_some_iff.mp hu2').1
    have hzl : z < s.heap.objs.size := Heap.lt_size q1
    refine wpAny_pyNext_zipD2_item S (.list hh i1 a na its.toArray) (.tuple hh i2 b nb its2.toArray) q1 q2 q3 ⟨q4, p1.isList⟩ ⟨q5, p2⟩ l1 l2 fun v1 v2 h' tk e1 e2 z1 t1 st1 st2 tt hsz hk => ?_
    obtain rfl : v1 = u := Option.some.inj (e1.symm.trans hu')
    obtain rfl : v2 = u2 := Option.some.inj (e2.symm.trans hu2')
    refine ⟨_, rfl, wpAny_letOwnedTupleGo_zip (s := { s with heap := h', toks := tk }) z1 fun h'' z'' sb => ?_⟩
    have tt2 : IsTupOf2 h'' s.heap.objs.size v1 v2 := (sb.2 _ (Nat.ne_of_gt hzl)).trans tt
    have new : ObjOk X.prog X.w (upd H s.heap.objs.size (.tup [x, y])) h'' s.heap.objs.size (.tup [x, y]) := ⟨by show 2 ≤ sizeLine; decide, [v1, v2], .cons ru (.cons ru2 .nil), ⟨_, tt2, rfl, _, rfl⟩⟩
    have kk : ∀ c o, c ∉ [z, TI, TO, i1, i2] → s.heap.get? c = some o → h''.get? c = some o := fun c o hb q => (sb.2 c (fun q' => hb (by simp [q']))).trans (hk c o (fun q' => hb (by simp [q'])) (fun q' => hb (by simp [q'])) (fun q' => hb (by simp [q'])) (fun q' => hb (by simp [q'])) q)
    have I1 : Inv X pins σ (upd H s.heap.objs.size (.tup [x, y])) { s with heap := h'', toks := tk } := I.turnedNew (t' := tk) (ch := [z, TI, TO, i1, i2]) kk hf (Nat.le_refl _) new
    have zi1 := S.zi1
    have zi2 := S.zi2
    refine ⟨.ref s.heap.objs.size, _, I1, rfl, ⟨_, x, y, rfl, I.hok.fresh (Nat.le_refl _), rfl, fun l hl => by rw [I.list_inj hl hqx]; exact hx, fun l hl => by rw [I.tuple_inj hl hqy]; exact hy⟩, ⟨z'', ?_, ⟨v1, v2, ?_⟩, ?_, ?_⟩, fun c hcm => ?_⟩
    · exact (sb.2 _ S.TIz).trans (hk _ _ S.TIz S.TITO S.TIi1 S.TIi2 q2)
    · exact (sb.2 _ S.TOz).trans t1
    · exact st1.1.at fun o q => (sb.2 _ zi1.symm).trans q
    · exact st2.1.at fun o q => (sb.2 _ zi2.symm).trans q
    · have hlt : c < s.heap.objs.size := by
        have hcs : c = z ∨ c = TI ∨ c = TO ∨ c = i1 ∨ c = i2 := by simpa using hcm
        rcases hcs with rfl | rfl | rfl | rfl | rfl
        · exact hzl
        · exact Heap.lt_size q2
        · exact Heap.lt_size q3
        · obtain ⟨_, e9, _⟩ := q4; exact Heap.lt_size e9
        · obtain ⟨_, e9, _⟩ := q5; exact Heap.lt_size e9
      rw [upd_ne (Nat.ne_of_lt hlt)]
      exact (hf c hcm).1
  done := by
    intro X eP ew eK hc i pins s σ H E I hf ⟨q1, q2, ⟨x0, y0, q3⟩, q4, q5⟩ ⟨xs, ys, hqx, hqy, hend, h1, h2⟩
    subst eP ew eK
    obtain ⟨its, rv, p1, _⟩ := I.list hqx
    obtain ⟨its2, rv2, p2, _⟩ := I.tuple hqy
    have hh : X.A.in1.handled = none := I.ok.hd hc
    have n1 := rv.length
    have n2 := rv2.length
    have z1 : its.toArray.size = its.length := List.size_toArray
    have z2 : its2.toArray.size = its2.length := List.size_toArray
    refine wpAny_pyNext_zipD2_end S (.list hh i1 a na its.toArray) (.tuple hh i2 b nb its2.toArray) q1 q2 q3 ⟨q4, p1.isList⟩ ⟨q5, p2⟩ (by omega) (by omega) (by omega) fun h' tk hk => ⟨rfl, ?_⟩
    exact I.turnedL (t' := tk) (ch := [z, TI, TO, i1, i2]) (fun c o hb q => hk c o (fun q' => hb (by simp [q'])) (fun q' => hb (by simp [q'])) (fun q' => hb (by simp [q'])) (fun q' => hb (by simp [q'])) q) hf
  self := fun A i s Q E st h => wpAny_pyIter_zip st.1 h
def iZipM (K : PySem.W.Frag) (ta : TA) : TI := fun σ H R => ta σ H fun vs H1 => ∃ a b xs ys, vs = [.ref a, .ref b] ∧ SqL K H1 a xs ∧ SqT K H1 b ys ∧ R (ItM K a b) H1
theorem pi_zipM {X : Cx} {e e2 : Expr} {ta : TA} {p pos tpos : Pos} {elts : List Expr} {kk : Nat} (hg : Gl X "zip") (hm : X.mg "zip" = none) (ha : PA X [e, e2] ta)
    (hs : starEach [e, e2] X.env = (false, eval e X.env) :: starEach [e2] X.env := by rfl) (hpl : (backTo pos (starEach [e2] X.env)).any (·.1) = false := by rfl) :
    PI X (.Tuple elts kk tpos) (.Call (.Name "zip" p) [e, e2] [] pos) (iZipM X.K ta) := by
  refine ⟨fun pins s0 σ H R I h => ?_⟩
  refine Call_ (ld_blt I hg hm PyProof.Rows.boot_zip (PyProof.Rows.callWith_type1 (thn (ha.run pos pins s0 σ H _ I h) fun us s1 ⟨vs, H1, I1, r1, a, b, xs, ys, ex, hqx, hqy, q⟩ => ?_) hs hpl))
  subst ex
  obtain ⟨u1, u2, rfl, ra, rb⟩ := vals2 r1
  cases (show u1 = Value.ref a from ra)
  cases (show u2 = Value.ref b from rb)
  obtain ⟨its, rv, p1, _⟩ := I1.list hqx
  obtain ⟨its2, rv2, p2, _⟩ := I1.tuple hqy
  have la : a < s1.heap.objs.size := p1.lt
  have lb : b < s1.heap.objs.size := by obtain ⟨o, ho, _⟩ := id p2; exact Heap.lt_size ho
  refine zip_begins2 (begins_list a its.toArray) (begins_tuple b its2.toArray) p1.isList p2 fun h' hz hTI hTO e1 e2 hsz hk => wpAny_pyIter_zip hz ?_
  have I2 : Inv X pins σ H1 { s1 with heap := h' } := I1.kept (t' := s1.toks) hk
  have S : ZipSep2 (s1.heap.objs.size + 4) (s1.heap.objs.size + 2) (s1.heap.objs.size + 3) s1.heap.objs.size (s1.heap.objs.size + 1) [s1.heap.objs.size, a] [s1.heap.objs.size + 1, b] := zip_sep2 (fp1 := [a]) (fp2 := [b]) (by simpa using la) (by simpa using lb)
  refine ⟨s1.heap.objs.size + 4, [s1.heap.objs.size + 4, s1.heap.objs.size + 2, s1.heap.objs.size + 3, s1.heap.objs.size, s1.heap.objs.size + 1], _, _, H1, rfl, I2, turn_zipM S (Nat.ne_of_lt la) (Nat.ne_of_lt (Nat.lt_succ_of_lt lb)), ⟨hz, hTI, ⟨_, _, hTO⟩, ⟨_, e1, rfl, rfl⟩, ⟨_, e2, rfl, rfl⟩⟩, fun c hcm => ?_, q⟩
  have hle : s1.heap.objs.size ≤ c := by
    have hcs : c = s1.heap.objs.size + 4 ∨ c = s1.heap.objs.size + 2 ∨ c = s1.heap.objs.size + 3 ∨ c = s1.heap.objs.size ∨ c = s1.heap.objs.size + 1 := by simpa using hcm
    rcases hcs with rfl | rfl | rfl | rfl | rfl <;> first | exact Nat.le_refl _ | exact Nat.le_add_right _ _
  exact I1.fpOk hle (I1.hok.fresh hle)
theorem walk_zipM {K : PySem.W.Frag} {a b : Addr} {xs ys : List V} {n : Nat} (hn : n = min xs.length ys.length) : Walk (ItM K a b) n (fun H => SqL K H a xs ∧ SqT K H b ys) (YPair (fun i => xs[i]?) (fun i => ys[i]?)) := by
  subst hn
  refine ⟨fun i H hi ⟨q1, q2⟩ => ⟨xs, ys, xs[i]'(by omega), ys[i]'(by omega), q1, q2, List.getElem?_eq_getElem _, List.getElem?_eq_getElem _⟩, fun H ⟨q1, q2⟩ => ⟨xs, ys, q1, q2, by omega, by omega, by omega⟩, fun i H v H' _ ⟨q1, q2⟩ ⟨T, x, y, e, n, eH, f1, f2⟩ => ⟨T, x, y, e, n, eH, f1 _ q1, f2 _ q2⟩⟩
end FS

set_option Elab.async false
set_option linter.all false
set_option maxRecDepth 100000
set_option maxHeartbeats 4000000
/-! One token is out: within a loop's rows and within a comprehension. -/
namespace FS
open PySem PySem.Spec PyProof.Rows L2 CwR
theorem thnT {α : Type} {t : Sem α} {Q Q' : α → Shared → Prop} {M : Model} {A : Around} {E : Value → Shared → Prop} {s : Shared} (h0 : 1 ≤ s.toks) (h : wpAny M A t Q E s) (hQ : ∀ a s', 1 ≤ s'.toks → Q a s' → Q' a s') : wpAny M A t Q' E s :=
  wpAny_mono (PySem.wpAny_toks_of h0 h) (fun a s' q => hQ a s' q.1 q.2) fun _ _ q => q.2
theorem thnFT {α : Type} {t : Sem α} {Q Q' : α → Shared → Prop} {M : Model} {A : Around} {E : Value → Shared → Prop} {s : Shared} (h0 : 1 ≤ s.toks) (h : wpAny M A t Q (fun _ _ => False) s) (hQ : ∀ a s', 1 ≤ s'.toks → Q a s' → Q' a s') : wpAny M A t Q' E s :=
  wpAny_mono (PySem.wpAny_toks_of h0 h) (fun a s' q => hQ a s' q.1 q.2) fun _ _ q => False.elim q.2
section
variable {X : Cx}
/-- between two turns: a token is out, the walk is at its i-th item, nothing of the iterator's is tracked -/
def Mid (B : Cx) (fp : List Addr) (tn : Nat → Heap → Prop) (W : Nat → Nat → Hp → Prop) (τ : L2.St) (n : Nat) (z : Shared) : Prop :=
  1 ≤ z.toks ∧ ∃ i G, Inv B [] τ G z ∧ tn i z.heap ∧ (∀ b ∈ fp, G b = none) ∧ W i n G
/-- a turn's last words: what was kept of the names, of the iterator -/
theorem mid_next {B : Cx} {tg : Expr} {J : It} {fp vs} {it : Addr} {tn : Nat → Heap → Prop} {W : Nat → Nat → Hp → Prop} {υ τ0 : L2.St} {i : Nat} {h0 : Heap} {z : Shared} {G : Hp}
    (T : Turn B.prog B.w B.K tg J fp it tn) (st : tn (i + 1) h0) (I : Inv B ([] ++ pinsAt fp h0) υ G z) (k : 1 ≤ z.toks) (hw : wipe υ vs = wipe τ0 vs) {n' : Nat} (w : W (i + 1) n' G) : Mid B fp tn W (wipe τ0 vs) n' z := by
  have still : ∀ c ∈ fp, ∀ o, h0.get? c = some o → z.heap.get? c = some o ∧ G c = none := fun c hc o ho => by
    have p := I.pin (c, o) (by simp only [List.mem_append]; exact .inr (.inr (mem_pinsAt hc ho)))
    exact ⟨p.1, p.2.1⟩
  have I0 : Inv B [] (wipe τ0 vs) G z := (I.unpinned (pins := [])).weak (by rw [← hw, wipe_length]) fun j v e => by
    rw [← hw] at e
    exact (wipe_some e).1
  refine ⟨k, i + 1, G, I0, T.keep _ _ _ st fun c hc o ho => (still c hc o ho).1, fun c hc => ?_, w⟩
  obtain ⟨o, ho, _⟩ := T.obj _ _ st c hc
  exact (still c hc o ho).2
/-- one turn of a comprehension without tests -/
theorem mid_turn {B : Cx} {elt tg : Expr} {g : TG} {te : TE} {J : It} {fp : List Addr} {it D : Addr} {tn : Nat → Heap → Prop} {W : Nat → Nat → Hp → Prop} {τ : L2.St} {vs : List Nat} {Qz : Hp → Prop} {R : Result → Shared → Prop} {E1 : Value → Shared → Prop}
    (T : Turn B.prog B.w B.K tg J fp it tn) (calm : B.calm = true) (nox : B.xe = fun _ _ => False) (loose : ∀ {υ : L2.St} {G : Hp} {z : Shared}, Inv B [] υ G z → (∀ b ∈ fp, G b = none) → ∀ b ∈ fp, FpOk B [] G b) (tgt : PG B tg g) (val : PET B elt te)
    (rule : ∀ i m G, W i m G → (J.stop i G ∧ Qz G) ∨ (J.go i G ∧ ∃ Nx : Hp → Prop, (∀ G', Nx G' → ∃ m', m' < m ∧ W (i + 1) m' G') ∧ ∀ x G', J.yld i G x G' → g x (wipe τ vs) G' fun υ G2 => wipe υ vs = wipe τ vs ∧ tYes υ G2 fun b G3 => if b = true then te υ G3 fun y G4 => ∃ acc, G4 D = some (.lst acc) ∧ acc.length < sizeLine ∧ Nx (upd G4 D (.lst (acc ++ [y]))) else Nx G3))
    (out : ∀ G z, Qz G → Inv B [] (wipe τ vs) G z → R (.ok .next) z) {n : Nat} {z : Shared} (m : Mid B fp tn W (wipe τ vs) n z) :
    wpAny (model B.prog B.w) B.A (pyNext (.ref it)) (fun r z1 => match r with
      | none => R (.ok .next) z1
      | some v => wpAny (model B.prog B.w) B.A (letOwnedTupleGo tg (.ref it) v) (fun _ z2 => wpAny (model B.prog B.w) B.A (assign tg B.env v) (fun _ z3 =>
          wpAny (model B.prog B.w) B.A (forIn ([] : List Expr) true fun c r => if r = true then do let ok ← isTrue c B.env (eval c B.env); pure (ForInStep.yield ok) else pure (ForInStep.yield r)) (fun ok z4 =>
            if ok = true then wpAny (model B.prog B.w) B.A (eval elt B.env) (fun x z5 => wpAny (model B.prog B.w) B.A (call (.builtin "list.append") [.ref D, x]) (fun _ z6 => ∃ n', n' < n ∧ Mid B fp tn W (wipe τ vs) n' z6) E1 z5) E1 z4
            else ∃ n', n' < n ∧ Mid B fp tn W (wipe τ vs) n' z4) E1 z3) E1 z2) E1 z1) E1 z := by
  obtain ⟨k, i, G, I, st, fr, w⟩ := m
  rcases rule i n G w with ⟨hstop, qz⟩ | ⟨hgo, Nx, onward, step⟩
  · exact thnF (T.done B rfl rfl rfl calm i [] z _ G _ I (loose I fr) st hstop) fun r z1 ⟨er, I1⟩ => by subst er; exact out G z1 qz I1
  refine thnFT k (T.item B rfl rfl rfl calm i [] z _ G _ I (loose I fr) st hgo) fun r z1 k1 ⟨u, er, h1⟩ => ?_
  subst er
  refine thnFT k1 h1 fun _ z2 k2 ⟨x, G2, I2, rx, yx, st2, fr2⟩ => ?_
  have pinned2 := I2.pinned (loose I2 fr2) (T.obj _ _ st2)
  have a1 := tgt.run _ z2 _ G2 x u _ pinned2 rx (step x G2 yx)
  rw [nox] at a1
  refine thnFT k2 a1 fun _ z3 k3 ⟨υ, G3, I3, hw, q3⟩ => wpAny_tests_nil ?_
  have a2 := val _ z3 υ G3 _ k3 I3 q3
  rw [nox] at a2
  show wpAny _ _ (eval elt B.env) _ _ _
  refine thnFT k3 a2 fun y z4 k4 ⟨yv, G4, I4, ry, acc, hD, hz, nx⟩ => wpAny_with_toks k4 (app_ok I4 hD hz ry fun z5 I5 k5 => ?_)
  obtain ⟨n', hn, w'⟩ := onward _ nx
  exact ⟨n', hn, mid_next T st2 I5 k5 hw w'⟩
theorem tok_comp {pins : List (Addr × Obj)} {s : Shared} {σ : L2.St} {H : Hp} {Q : VK} {elt tg iter : Expr} {scope : Scope} {own : List (Str × Nat)} {pos pos' : Pos} {wi : TI} {g : TG} {te : TE} {use : Option (Value → Sem Unit)} {Qf : Value → Shared → Prop}
    (calm : X.calm = true) (nd : X.N.Nodup) (k : 1 ≤ s.toks) (I : Inv X pins σ H s) (walk : PI X tg iter wi) (ok : BlkOk X.N X.env.scope scope own)
    (tgt : ∀ (s : Shared) (H : Hp) (C : Addr) (cl : List (Str × Addr)) (fp : List Addr), PG (X.blk s H scope (compEnvC scope cl C X.env) fp) tg g)
    (val : ∀ (s : Shared) (H : Hp) (C : Addr) (cl : List (Str × Addr)) (fp : List Addr), PET (X.blk s H scope (compEnvC scope cl C X.env) fp) elt te) (fold : ∀ x, foldedSetIterable iter X.env x = pure x) (h : tLc wi g tYes te (own.map (·.2)) σ H Q)
    (fin : ∀ D C z m G, Inv X pins σ G z → Q (.ref D) G → z.heap.Ns C m → FpOk X pins G C → compPost (model X.prog X.w) X.A X.xe use Qf (.ref D) C (.ok .next) z) :
    wpAny (model X.prog X.w) X.A (comprehension (.ListComp elt [⟨tg, iter, [], 0⟩] scope pos) scope X.env pos' (newList []) false (eval iter X.env) use) Qf X.xe s := by
  have cellsThere : ∀ y ∈ scope.names, y.2 = .free → ∃ c, X.env.cells.lookup y.1 = some c := fun y hy e => (ok.free y hy e).elim (fun a => I.ok.has _ (.inl a)) fun a => I.ok.has _ (.inr a)
  refine wpAny_comprehension_free (use := use) rfl fold (closure_ok cellsThere) ok.kind (fun y hy e => (ok.uniq y hy).trans (by rw [e])) ?_
  refine thnT k (walk.run pins s σ H _ I h) fun _ a ka ha => thnT ka ha fun _ b kb ⟨it, fp, tn, J, Hb, eb, Ib, T, stb, frb, q⟩ => ?_
  subst eb
  refine wpAny_newObj_type (newEnv_comp ?_) (Nat.zero_le _)
  -- the new list at L, the block's names at L + 1
  obtain ⟨L, hL⟩ : ∃ L, b.heap.objs.size = L := ⟨_, rfl⟩
  have nL : Hb L = none := Ib.hok.fresh (by rw [hL]; exact Nat.le_refl _)
  obtain ⟨W, ⟨m0, w0⟩, rule⟩ := q L nL
  obtain ⟨c, hc⟩ : ∃ c : Shared, c = { b with heap := b.heap.push { cls := .type "list", data := .seq ([] : List Value).toArray } } := ⟨_, rfl⟩
  have Ic : Inv X pins σ (upd Hb L (.lst [])) c := by
    subst hc hL
    exact Ib.laid (t' := b.toks) (fun _ _ e => Heap.get?_push_of_some _ e) (Nat.le_refl _) ⟨Nat.zero_le _, [], 0, .nil, Heap.get?_push_size _ rfl⟩
  have grown : ∀ p o, b.heap.get? p = some o → c.heap.get? p = some o := fun p o e => by subst hc; exact Heap.get?_push_of_some _ e
  have lt : ∀ p ∈ fp, p < L := fun p hp => by
    obtain ⟨o, e, _⟩ := T.obj _ _ stb p hp
    rw [← hL]
    exact Heap.lt_size e
  have lc : c.heap.objs.size = L + 1 := by subst hc; rw [Heap.size_push, hL]
  have frc : ∀ p ∈ fp, FpOk X pins (upd Hb L (.lst [])) p ∧ p < c.heap.objs.size := fun p hp => by
    have l := lt p hp
    exact ⟨⟨by rw [upd_ne (Nat.ne_of_lt l)]; exact (frb p hp).1, (frb p hp).2⟩, by rw [lc]; exact Nat.lt_succ_of_lt l⟩
  have stc : tn 0 c.heap := T.keep _ _ _ stb fun p _ o e => grown p o e
  have Id := block_start Ic ok nd frc
  have kc : 1 ≤ c.toks := by subst hc; exact kb
  have tgtB := tgt c (upd Hb L (.lst [])) c.heap.objs.size (cellsFrom (c.heap.objs.size + 1) scope.names (cloFrom X.env.cells scope.names [])) fp
  have valB := val c (upd Hb L (.lst [])) c.heap.objs.size (cellsFrom (c.heap.objs.size + 1) scope.names (cloFrom X.env.cells scope.names [])) fp
  rw [← hc, hL]
  show codeAny _ _ (.compStart (.ListComp elt [⟨tg, iter, [], 0⟩] scope pos) 0 (.ref it) (.ref L) (compEnvC scope (cellsFrom (c.heap.objs.size + 1) scope.names (cloFrom X.env.cells scope.names [])) c.heap.objs.size X.env)) (compPost (model X.prog X.w) X.A X.xe use Qf (.ref L) c.heap.objs.size) { c with heap := pushCells (c.heap.push { cls := .type "dict", data := .dict #[] }) scope.names }
  have eL : (compEnvC scope (cellsFrom (c.heap.objs.size + 1) scope.names (cloFrom X.env.cells scope.names [])) c.heap.objs.size X.env).locals = c.heap.objs.size := rfl
  generalize compEnvC scope (cellsFrom (c.heap.objs.size + 1) scope.names (cloFrom X.env.cells scope.names [])) c.heap.objs.size X.env = env1 at Id tgtB valB eL ⊢
  obtain ⟨d, hd⟩ : ∃ d : Shared, d = { c with heap := pushCells (c.heap.push { cls := .type "dict", data := .dict #[] }) scope.names } := ⟨_, rfl⟩
  rw [← hd] at Id ⊢
  have std : tn 0 d.heap := T.keep _ _ _ stc fun p _ o e => by rw [hd]; exact pushCells_keeps _ _ _ _ (Heap.get?_push_of_some _ e)
  have kd : 1 ≤ d.toks := by rw [hd]; exact kc
  have loose : ∀ {υ : L2.St} {G : Hp} {z : Shared}, Inv (X.blk c (upd Hb L (.lst [])) scope env1 fp) [] υ G z → (∀ p ∈ fp, G p = none) → ∀ p ∈ fp, FpOk (X.blk c (upd Hb L (.lst [])) scope env1 fp) [] G p := fun Iz fr p hp =>
    ⟨fr p hp, (Iz.ok.exf p hp).1, Iz.ok.exfs p hp, .inl hp, fun x e => (Iz.ok.exf p hp).2 x e, fun o ho => by cases ho⟩
  have first : Mid (X.blk c (upd Hb L (.lst [])) scope env1 fp) fp tn W (wipe σ (own.map (·.2))) m0 d := ⟨kd, 0, _, Id, std, fun p hp => (frc p hp).1.1, w0⟩
  have loop : codeAny (model X.prog X.w) X.A (.compLoop (.ListComp elt [⟨tg, iter, [], 0⟩] scope pos) 0 (.ref it) (.ref L) env1) (compPost (model X.prog X.w) X.A X.xe use Qf (.ref L) c.heap.objs.size) d :=
    compLoop_any (Mid (X.blk c (upd Hb L (.lst [])) scope env1 fp) fp tn W (wipe σ (own.map (·.2)))) (fun n z mz => mid_turn (B := X.blk c (upd Hb L (.lst [])) scope env1 fp) T calm rfl loose tgtB valB rule (fun G z1 qz I1 => by
      have J1 : Inv X pins σ G z1 := Ic.call' (ch := fp) I1.os I1.base I1.hok I1.bare fun p hp => by
        obtain ⟨f0, f1, f2, f3, f4, f5⟩ := (frc p hp).1
        exact ⟨f3, f1, f4, f5⟩
      obtain ⟨mm, hn, _⟩ := I1.loc
      have free1 : G env1.locals = none := I1.free
      have hn1 : z1.heap.Ns env1.locals mm := hn
      rw [eL] at free1 hn1
      exact fin L _ z1 mm G J1 qz hn1 (Ic.fpOk (Nat.le_refl _) free1)) mz) m0 first
  exact codeAny_compStart_list loop (T.self X.A 0 _ _ _ std loop)
/-- name = [..], a token out: the name a local -/
theorem pst_setLc {i : Nat} {y : Str} {py : Pos} {elt tg iter : Expr} {scope : Scope} {own : List (Str × Nat)} {pos spos : Pos} {wi : TI} {g : TG} {te : TE} (calm : X.calm = true) (nd : X.N.Nodup) (at_i : X.N[i]? = some y) (local_y : X.env.scope.names.lookup y = some .local)
    (swap : swapsWith (.ListComp elt [⟨tg, iter, [], 0⟩] scope pos) (some (.Name y py)) spos.line X.env = pure true) (walk : PI X tg iter wi) (ok : BlkOk X.N X.env.scope scope own)
    (tgt : ∀ (s : Shared) (H : Hp) (C : Addr) (cl : List (Str × Addr)) (fp : List Addr), PG (X.blk s H scope (compEnvC scope cl C X.env) fp) tg g)
    (val : ∀ (s : Shared) (H : Hp) (C : Addr) (cl : List (Str × Addr)) (fp : List Addr), PET (X.blk s H scope (compEnvC scope cl C X.env) fp) elt te) (fold : ∀ x, foldedSetIterable iter X.env x = pure x := by intro _; rfl) :
    PST X (.Assign [.Name y py] (.ListComp elt [⟨tg, iter, [], 0⟩] scope pos) spos) (tAsg (tLc wi g tYes te (own.map (·.2))) (gName i)) := by
  intro pins s σ H D k I h
  have hq : tLc wi g tYes te (own.map (·.2)) σ H (fun v G => gName i v σ G D.nx) := h
  rw [exec_Assign_Name_used _ _ _ _ swap]
  refine wpAny_bind (wpAny_standAt (wpAny_bind (wpAny_bind ?_)))
  refine thn (tok_comp (use := some (assign (.Name y py) X.env)) (Qf := fun _ z => SP X pins D .next z) calm nd k I walk ok tgt val fold hq fun L C z m G Iz qz ns fz => ?_) fun _ _ r => wpAny_pure (wpAny_pure r)
  obtain ⟨f0, f1, f2, f3, f4, f5⟩ := fz
  refine wpAny_assign_Name (store_ok2 (v := V.ref L) Iz nd at_i (.inl local_y) rfl (fun z2 I2 ⟨p, sb, hp⟩ => ?_) (.inr local_y))
  have apart : C ≠ p := fun e => by
    rcases hp with hp | hp
    · exact f1 (by rw [e, hp])
    · exact f4 y p hp e.symm
  exact ⟨m, ns.sameBut sb apart, fun h3 sb3 => ⟨_, G, I2.turned (t' := z2.toks) (fun q o hb e => (sb3.2 q hb).trans e) f0 f1 f3 f4 f5, qz⟩⟩
/-- one turn of a for's rows, a token out -/
theorem mid_row {pins : List (Addr × Obj)} {tg : Expr} {body : List Stmt} {g : TG} {tb : TS} {J : It} {fp : List Addr} {it : Addr} {tn : Nat → Heap → Prop} {W : Nat → Nat → L2.St → Hp → Prop} {D : Ends}
    (own : PassesOwn (model X.prog X.w) X.A X.env X.xe) (calm : X.calm = true) (T : Turn X.prog X.w X.K tg J fp it tn) (apart : ∀ b ∈ fp, ∀ {G : Hp}, G b = none → FpOk X pins G b) (tgt : PG X tg g) (rows : PSsT X body tb)
    (rule : ∀ i m σ G, W i m σ G → (J.stop i G ∧ D.nx σ G) ∨ (J.go i G ∧ ∃ N : L2.St → Hp → Prop, (∀ σ' G', N σ' G' → ∃ m', m' < m ∧ W (i + 1) m' σ' G') ∧ ∀ x G', J.yld i G x G' → g x σ G' fun σ2 G2 => tb { D with nx := N, ct := N, bk := D.nx } σ2 G2))
    {n : Nat} {z : Shared} (m : 1 ≤ z.toks ∧ ∃ i σ G, Inv X pins σ G z ∧ tn i z.heap ∧ (∀ b ∈ fp, G b = none) ∧ W i n σ G) :
    wpAny (model X.prog X.w) X.A (pyNext (.ref it)) (fun r z1 => match r with
      | none => wpAny (model X.prog X.w) X.A (execs [] X.env) (fun f z3 => SP X pins D f z3) X.xe z1
      | some v => wpAny (model X.prog X.w) X.A (letOwnedTupleGo tg (.ref it) v) (fun _ z2 => wpAny (model X.prog X.w) X.A (assign tg X.env v) (fun _ z3 => wpAny (model X.prog X.w) X.A (execs body X.env) (fun f z4 => match f with
          | .next | .cont => ∃ n', n' < n ∧ 1 ≤ z4.toks ∧ ∃ i σ G, Inv X pins σ G z4 ∧ tn i z4.heap ∧ (∀ b ∈ fp, G b = none) ∧ W i n' σ G
          | .brk => SP X pins D .next z4
          | .ret u => SP X pins D (.ret u) z4) X.xe z3) X.xe z2) X.xe z1) X.xe z := by
  obtain ⟨k, i, σ, G, I, st, fr, w⟩ := m
  have ap : ∀ {G : Hp}, (∀ b ∈ fp, G b = none) → ∀ b ∈ fp, FpOk X pins G b := fun h b hb => apart b hb (h b hb)
  rcases rule i n σ G w with ⟨hstop, qn⟩ | ⟨hgo, N, onward, step⟩
  · exact thn (T.done X rfl rfl rfl calm i pins z σ G X.xe I (ap fr) st hstop) fun r z1 ⟨er, I1⟩ => by subst er; exact wpAny_execs_nil ⟨σ, G, I1, qn⟩
  refine thnT k (T.item X rfl rfl rfl calm i pins z σ G X.xe I (ap fr) st hgo) fun r z1 k1 ⟨u, er, h1⟩ => ?_
  subst er
  refine thnT k1 h1 fun _ z2 k2 ⟨x, G2, I2, rx, yx, st2, fr2⟩ => ?_
  have P2 := I2.pinned (ap fr2) (T.obj _ _ st2)
  refine thnT k2 (tgt.run _ z2 σ G2 x u _ P2 rx (step x G2 yx)) fun _ z3 k3 ⟨σ3, G3, I3, q3⟩ => ?_
  refine thnT k3 (rows _ z3 σ3 G3 _ k3 I3 q3) fun f z4 k4 q4 => ?_
  have onwards : ∀ {σ5 : L2.St} {G5 : Hp}, Inv X (pins ++ pinsAt fp z2.heap) σ5 G5 z4 → N σ5 G5 → ∃ n', n' < n ∧ 1 ≤ z4.toks ∧ ∃ i σ G, Inv X pins σ G z4 ∧ tn i z4.heap ∧ (∀ b ∈ fp, G b = none) ∧ W i n' σ G := fun {σ5 G5} I5 n5 => by
    have still : ∀ c ∈ fp, ∀ o, z2.heap.get? c = some o → z4.heap.get? c = some o ∧ G5 c = none := fun c hc o ho => by
      have p := I5.pin (c, o) (by simp only [List.mem_append]; exact .inr (.inr (mem_pinsAt hc ho)))
      exact ⟨p.1, p.2.1⟩
    obtain ⟨n', hn, w'⟩ := onward σ5 G5 n5
    refine ⟨n', hn, k4, i + 1, σ5, G5, I5.unpinned, T.keep _ _ _ st2 fun c hc o ho => (still c hc o ho).1, fun c hc => ?_, w'⟩
    obtain ⟨o, ho, _⟩ := T.obj _ _ st2 c hc
    exact (still c hc o ho).2
  cases f with
  | next => obtain ⟨σ5, G5, I5, n5⟩ := q4; exact onwards I5 n5
  | cont => obtain ⟨σ5, G5, I5, n5⟩ := q4; exact onwards I5 n5
  | brk => obtain ⟨σ5, G5, I5, q5⟩ := q4; exact ⟨σ5, G5, I5.unpinned, q5⟩
  | ret v => obtain ⟨x5, σ5, G5, I5, r5, q5⟩ := q4; exact ⟨x5, σ5, G5, I5.unpinned, r5, q5⟩
/-- a for, a token out -/
theorem pst_forT {tg iter : Expr} {body : List Stmt} {wi : TI} {g : TG} {tb : TS} {pos : Pos} (own : PassesOwn (model X.prog X.w) X.A X.env X.xe) (calm : X.calm = true) (walk : PIT X tg iter wi) (tgt : PG X tg g) (rows : PSsT X body tb)
    (fold : ∀ x, foldedSetIterable iter X.env x = pure x := by intro _; rfl) : PST X (.For tg iter body [] pos) (tFor wi g tb) := by
  intro pins s σ H D k I h
  refine wpAny_For (thnT k (walk pins s σ H _ k I h) fun _ a ka ha => thnT ka ha fun _ b kb ⟨it, fp, tn, J, Hb, eb, Ib, T, stb, frb, W, ⟨m0, w0⟩, rule⟩ => ?_) fold
  subst eb
  refine codeAny_forLoop_any (fun n z => 1 ≤ z.toks ∧ ∃ i σ G, Inv X pins σ G z ∧ tn i z.heap ∧ (∀ b ∈ fp, G b = none) ∧ W i n σ G) (fun n z mz => ?_) m0 ⟨kb, 0, σ, Hb, Ib, stb, fun c hc => (frb c hc).1, w0⟩
  have t := mid_row (D := D) own calm T (fun c hc {G} hn => ⟨hn, (frb c hc).2⟩) tgt rows rule mz
  refine wpAny_passesOwn own (thn t fun r z1 q => ?_)
  cases r with
  | none => exact wpAny_passesOwn own q
  | some v => exact wpAny_passesOwn own (thn q fun _ z2 q => wpAny_passesOwn own (thn q fun _ z3 q => wpAny_passesOwn own q))
theorem pet_ifExp {c a b : Expr} {tA : TT} {ta tb : TE} {pos : Pos} (hc : PT X c tA) (ha : PET X a ta) (hb : PET X b tb) : PET X (.IfExp c a b pos) (tIf tA ta tb) := by
  intro pins s σ H Q h0 I h
  refine wpAny_IfExp (thnT h0 (hc.run pins s σ H _ I h) fun d s1 k1 ⟨H1, I1, q1⟩ => ?_)
  cases d with
  | true => exact ha pins s1 σ H1 Q k1 I1 q1
  | false => exact hb pins s1 σ H1 Q k1 I1 q1
theorem psst_consS {st : Stmt} {rest : List Stmt} {t u : TS} (h1 : PS X st t) (h2 : PSsT X rest u) : PSsT X (st :: rest) (tSeq t u) := psst_cons (PST.of h1) h2
/-- behind a statement that gives a token out -/
theorem pss_consT {st : Stmt} {rest : List Stmt} {t u : TS} (h1 : ∀ (pins : List (Addr × Obj)) (s : Shared) (σ : L2.St) (H : Hp) (D : Ends), Inv X pins σ H s → t D σ H → wpAny (model X.prog X.w) X.A (exec st X.env) (fun f s1 => 1 ≤ s1.toks ∧ SP X pins D f s1) X.xe s) (h2 : PSsT X rest u) : PSs X (st :: rest) (tSeq t u) := by
  refine ⟨fun pins s σ H D I h => ?_⟩
  refine wpAny_execs_cons (wpAny_mono (h1 pins s σ H { D with nx := u D } I h) (fun f s1 q => ?_) fun _ _ x => x)
  obtain ⟨hk, q⟩ := q
  cases f with
  | next =>
    obtain ⟨σ', H', I', q⟩ := q
    exact h2 pins s1 σ' H' D hk I' q
  | ret v => exact q
  | brk => exact q
  | cont => exact q
/-- an expression that gives a token out -/
def PE1 (X : Cx) (e : Expr) (t : TE) : Prop := ∀ (pins : List (Addr × Obj)) (s : Shared) (σ : L2.St) (H : Hp) (Q : VK), Inv X pins σ H s → t σ H Q → wpAny (model X.prog X.w) X.A (eval e X.env) (fun v s1 => 1 ≤ s1.toks ∧ EP X pins σ Q v s1) X.xe s
/-- a list whose first item is a written text -/
theorem pe1_lst {c : Str} {j : Nat} {cp pos : Pos} {es : List Expr} {ta : TA} (h : PA X es ta) : PE1 X (.List (.Constant (.str c) j cp :: es) pos) (tLstS (tCons (tC (.str c)) ta)) := by
  intro pins s σ H Q I hq
  refine wpAny_List_spliced ?_
  show wpAny _ _ (spliced ((false, eval (.Constant (.str c) j cp) X.env) :: backTo pos (starEach es X.env))) _ _ s
  refine Calls.spliced_cons (Calls.Constant_str ?_)
  have I0 : Inv X pins σ H { s with toks := s.toks + 1 } := I.tok _
  refine thnT (by show 1 ≤ s.toks + 1; omega) (h.run pos pins _ σ H _ I0 hq) fun us s1 k1 ⟨xs, H1, I1, r, z, q⟩ => ?_
  have hl : (Value.str c s.toks :: us).length = (V.str c :: xs).length := by rw [List.length_cons, List.length_cons, ← r.length]
  have z' : (V.str c :: xs).length ≤ sizeLine := Nat.le_of_lt (small1000 z)
  have rr : Vals (V.str c :: xs) (Value.str c s.toks :: us) := .cons ⟨_, rfl⟩ r
  have nf : H1 s1.heap.objs.size = none := I1.hok.fresh (Nat.le_refl _)
  refine ⟨by show (Value.str c s.toks :: us).length ≤ sizeLine; rw [hl]; exact z', k1, .ref s1.heap.objs.size, upd H1 s1.heap.objs.size (.lst (V.str c :: xs)), I1.laid (t' := s1.toks) (fun b u e1 => Heap.get?_push_of_some _ e1) (Nat.le_refl _) ?_, rfl, q _ _ (same_new nf) nf upd_same⟩
  exact ⟨z', Value.str c s.toks :: us, 0, rr, Heap.get?_push_size _ rfl⟩
theorem pss_set1 {i : Nat} {x : Str} {e : Expr} {te : TE} {rest : List Stmt} {u : TS} {pos' pos : Pos} (hN : X.N.Nodup) (hi : X.N[i]? = some x) (hx : Loc X.env.scope x) (he : PE1 X e te) (h2 : PSsT X rest u) (hs : swapsWith e (some (.Name x pos')) pos.line X.env = pure false := by rfl) (hf : X.fn x = true ∨ X.env.scope.names.lookup x = some .local := by first | exact .inl rfl | exact .inr rfl | assumption) :
    PSs X (.Assign [.Name x pos'] e pos :: rest) (tSeq (tAsg te (gName i)) u) := by
  refine ⟨fun pins s σ H D I h => ?_⟩
  refine wpAny_execs_cons (wpAny_Assign_Name (wpAny_mono (he pins s σ H _ I h) (fun v s1 q => ?_) fun _ _ x => x) hs)
  obtain ⟨k1, x1, H1, I1, r1, q1⟩ := q
  refine wpAny_mono (PySem.wpAny_toks_of k1 (store_ok (v := x1) (u := v) (Q := fun _ s2 => Inv X pins (σ.set i (some x1)) H1 s2) I1 hN hi hx r1 (fun _ I2 => I2) hf)) (fun _ s2 q => ?_) fun _ _ z => z.2
  exact h2 pins s2 _ H1 D q.1 q.2 q1
end
end FS

set_option Elab.async false
set_option linter.all false
set_option maxRecDepth 100000
set_option maxHeartbeats 4000000
/-! The module of texts, def by def: each hands back its mirror's value. -/
namespace TX
open PySem PySem.Spec PyProof.Rows L2 L2.FK FS
def top (i : Nat) : Stmt := PySem.Challenge.pw_foldsame_k11_texts_refused.main.body.getD i (.Pass ⟨0, 0, 0, 0⟩)
def o : Nat := 13
abbrev sIsName : Stmt := top o
abbrev sReadInt : Stmt := top (o + 1)
/-! ### the mirror -/
def LET : Str := "abcdefghijklmnopqrstuvwxyz"
def DIG : Str := "0123456789"
def OTHERS : List Str := ["func", "data", "end", "export", "alias"]
def REGS : List Str := ["a", "b", "c", "d"]
def FORM : List (Str × List Str) := [("call", ["name"]), ("callr", ["reg"]), ("ret", []), ("addr", ["reg", "name"]), ("set", ["reg", "integer"]), ("move", ["reg", "reg"]), ("read", ["reg", "name", "integer"]), ("readr", ["reg", "reg", "integer"]), ("same", ["reg", "reg", "to"]), ("choose", ["to"]), ("tell", ["reg"]), ("go", ["to"])]
def formOf (z : Str) : Option (List Str) := FORM.lookup z
def inL (c : Nat) : Bool := decide (c ∈ LET.cps.toList)
def inD (c : Nat) : Bool := decide (c ∈ DIG.cps.toList)
def isName (z : Str) : Bool :=
  decide (1 ≤ z.length) && decide (z.length ≤ 8) && !OTHERS.contains z && !(formOf z).isSome && ((z.cps.toList[0]?).any inL) && z.cps.toList.all fun c => inL c || inD c
def readInt (z : Str) : Option Int :=
  if !(decide (1 ≤ z.length) && decide (z.length ≤ 2)) || !(z.cps.toList.all inD) then none
  else if z.length == 2 && z.cps.toList[0]? == some 48 then none else PySem.intText? z
/-! ### what the text holds -/
/-- a tuple of texts of the module -/
def KT (K : PySem.W.Frag) (a : Addr) (xs : List V) : Prop := ∃ (o : Obj) (its : Array Value) (n : Nat), K.lookup a = some o ∧ o.cls = .type "tuple" ∧ o.data = .seq its n ∧ its.size ≤ sizeLine ∧ Vals xs its.toList
theorem KT.sq {K : PySem.W.Frag} {a : Addr} {xs : List V} (h : KT K a xs) (H : Hp) : SqT K H a xs := .inr h
structure TT (K : PySem.W.Frag) (w : World) (mg : Str → Option Value) (aO aR dF : Addr) (es : Array DictEntry) (nF : Nat) (tF : Str → Addr) : Prop where
  gL : ∃ t, mg "LETTERS" = some (.str LET t)
  gD : ∃ t, mg "DIGITS" = some (.str DIG t)
  g8 : ∃ t, mg "LONGEST_NAME" = some (.int 8 t)
  gO : mg "OTHER_WORDS" = some (.ref aO)
  kO : KT K aO (OTHERS.map V.str)
  gR : mg "REGISTERS" = some (.ref aR)
  kR : KT K aR (REGS.map V.str)
  gF : mg "FORMS" = some (.ref dF)
  kF : KDict K w dF es nF
  lF : ∀ z, PySem.W.nsIn K dF z = some ((formOf z).map fun _ => Value.ref (tF z))
  tF : ∀ z ws, formOf z = some ws → KT K (tF z) (ws.map V.str)
  zi : mg "isinstance" = none
  zs : mg "str" = none
  zl : mg "len" = none
  za : mg "all" = none
  zy : mg "any" = none
  zn : mg "int" = none
  zz : mg "zip" = none
theorem b_isi : bootBuiltins "isinstance" = some (.builtin "isinstance") := by decide +kernel
theorem b_str : bootBuiltins "str" = some (.type "str") := by decide +kernel
theorem b_all : bootBuiltins "all" = some (.builtin "all") := by decide +kernel
theorem b_any : bootBuiltins "any" = some (.builtin "any") := by decide +kernel
theorem b_int : bootBuiltins "int" = some (.type "int") := by decide +kernel
/-- no text: isinstance tells -/
def NoStr (K : PySem.W.Frag) (H : Hp) (v : V) : Prop := ∃ t, TyX K H v t ∧ PySem.W.kitOne K t (.type "str") = some false
section
variable {P : Program} {w : World} {K : PySem.W.Frag} {mg : Str → Option Value} {base : Heap} {aO aR dF : Addr} {es : Array DictEntry} {nF : Nat} {tF : Str → Addr}
theorem len_cps (z : Str) : z.cps.toList.length = z.length := by
  show z.cps.toList.length = z.cps.size
  simp
theorem others_in (z : Str) : inV (.str z) (OTHERS.map V.str) = OTHERS.contains z := by
  have key : ∀ l : List Str, inV (.str z) (l.map V.str) = l.contains z := by
    intro l
    induction l with
    | nil => rfl
    | cons x r ih =>
      show (eqV (.str x) (.str z) || inV (.str z) (r.map V.str)) = _
      rw [ih, List.contains_cons]
      congr 1
      show (x == z) = (z == x)
      exact Bool.beq_comm
  exact key OTHERS
/-! ### is_name -/
def spIsName (K : PySem.W.Frag) : Sp := fun vs H Q _ => ∃ v, vs = [v] ∧ ((∃ z, v = .str z ∧ z.length ≤ sizeLine ∧ ∀ H', Same H H' → Q (.bl (isName z)) H') ∨ (NoStr K H v ∧ Q (.bl false) H))
theorem scN : FnScope ["value", "sign"] ["value"] (defScope sIsName) := ⟨rfl, rfl, rfl, by decide +kernel, rfl, by decide +kernel, by decide +kernel⟩
theorem ok_isName {f : Addr} {fd : FuncData} {k : Nat} (F : Fun K "is_name" "is_name" sIsName f fd) (T : TT K w mg aO aR dF es nF tF) : FnOk P w K mg base CX0 (k + 1) f fd ["value"] (spIsName K) := by
  obtain ⟨tL, gL⟩ := T.gL
  obtain ⟨tD, gD⟩ := T.gD
  obtain ⟨t8, g8⟩ := T.g8
  refine F.ok scN (fun vs H Q E h => ?_) (fun cdv A outer s H vs Q E hr h => ?_)
  · obtain ⟨v, rfl, _⟩ := h
    rfl
  · obtain ⟨v, rfl, q⟩ := h
    refine ⟨_, pss_cons (ps_if (PW.pt (pw_or (pt_not (pt_val (pe_callB call_isi (by rfl) T.zi b_isi (pa_cons (pv 0) (pa_cons (pe_bltn rfl T.zs b_str (v := .ty "str") rfl) pa_nil)))))
        (pw_or1 (pt_not (pt_chain op_le op_le pe_int (pe_callB call_len_str (by rfl) T.zl PySem.boot_len (pa_cons (pv 0) pa_nil)) (pe_glob rfl g8 (v := .int 8) ⟨_, rfl⟩)))))) (pss_one (ps_ret pe_bl)) pss_nil)
      (pss_cons (ps_if (PW.pt (pw_or (pt_cmpR op_in_seq (pv 0) (pe_glob rfl T.gO (v := .ref aO) rfl) (by rfl)) (pw_or1 (pt_cmpR (op_in_kd T.kF) (pv 0) (pe_glob rfl T.gF (v := .ref dF) rfl) (by rfl))))) (pss_one (ps_ret pe_bl)) pss_nil)
      (pss_one (ps_ret (pe_and (pe_cmpR op_in_sign (pe_ix ix_str (pv 0) pe_int (fun _ _ => rfl)) (pe_glob rfl gL (v := .str LET) ⟨_, rfl⟩) (by rfl))
        (pe_one (pe_callB (cr_all rfl) (by rfl) T.za b_all (pa_cons (pe_lc (own := [("sign", 1)]) (g := gName 1) (tt := tYes) rfl scN.nd (pi_str (pv 0)) (blkOk_by (N := ["value", "sign"]) (sc := defScope sIsName) (by decide +kernel)) (fun _ _ _ _ _ => pg_name (i := 1) scN.nd rfl (Or.inl rfl)) (fun _ _ _ _ _ => pts_nil)
          (fun _ _ _ _ _ => pe_or (pe_cmpR op_in_sign (pv 1) (pe_glob rfl gL (v := .str LET) ⟨_, rfl⟩) (by rfl)) (pe_one (pe_cmpR op_in_sign (pv 1) (pe_glob rfl gD (v := .str DIG) ⟨_, rfl⟩) (by rfl))))) pa_nil))))))), ?_⟩
    rcases q with ⟨z, rfl, hz, q⟩ | ⟨⟨t, ty, kt⟩, q⟩
    · have hq : ∀ (H' : Hp) (b : Bool), Same H H' → isName z = b → Q (.bl b) H' := fun H' b s e => by rw [← e]; exact q H' s
      have ks : PySem.W.kitOne K (.type "str") (.type "str") = some true := kit_ty (by decide +kernel)
      refine ⟨.str z, rfl, .str z, .ty "str", .type "str", .type "str", true, rfl, .ty "str", .base (.str z), ks, true, rfl, iteF ?_⟩
      refine ⟨.str z, rfl, z, rfl, hz, _, _, rfl, rfl, _, rfl, ?_⟩
      refine ite2 (fun h1 => ?_) (fun h1 => ⟨_, rfl, iteT (hq H false (Same.refl H) ?_)⟩)
      · refine ⟨_, _, rfl, rfl, _, rfl, ?_⟩
        by_cases h2 : (z.length : Int) ≤ 8
        · rw [decide_eq_true h2]
          refine iteF ?_
          refine ⟨.str z, rfl, aO, _, rfl, .inr (T.kO.sq H), rfl, by decide, ?_⟩
          rw [show (if false = true then !inV (V.str z) (OTHERS.map V.str) else inV (V.str z) (OTHERS.map V.str)) = OTHERS.contains z from others_in z]
          refine ⟨_, rfl, ?_⟩
          by_cases h3 : OTHERS.contains z = true
          · rw [h3]
            exact iteT (iteT (hq H false (Same.refl H) (by simp only [isName, h3, Bool.not_true, Bool.and_false, Bool.false_and])))
          · have h3' : OTHERS.contains z = false := by simpa using h3
            rw [h3']
            refine iteF ⟨.str z, rfl, z, _, rfl, rfl, T.lF z, _, rfl, ?_⟩
            by_cases h4 : (formOf z).isSome = true
            · rw [Option.isSome_map, h4]
              exact iteT (hq H false (Same.refl H) (by simp only [isName, h4, Bool.not_true, Bool.and_false, Bool.false_and]))
            · have h4' : (formOf z).isSome = false := by simpa using h4
              rw [Option.isSome_map, h4']
              refine iteF ?_
              have h1' : (1 : Int) ≤ (z.length : Int) := of_decide_eq_true h1
              obtain ⟨c, hc⟩ : ∃ c, z.cps.toList[0]? = some c := ⟨_, List.getElem?_eq_getElem (by rw [len_cps]; omega)⟩
              have n1 : decide (1 ≤ z.length) = true := decide_eq_true (by omega)
              have n2 : decide (z.length ≤ 8) = true := decide_eq_true (by omega)
              refine ⟨.str z, rfl, z, 0, c, rfl, rfl, hz, atI_nat (j := 0) hc, c, LET, rfl, rfl, _, rfl, ?_⟩
              refine ite2 (fun h5 => ?_) (fun h5 => hq H false (Same.refl H) ?_)
              · refine ⟨.str z, rfl, z, rfl, fun D hD => ?_⟩
                refine lc_it walk_str (fun i H' => Same H H' ∧ H' D = some (.lst ((z.cps.toList.take i).map fun c => V.bl (inL c || inD c)))) ⟨same_new hD, upd_same⟩ (fun _ _ _ _ => True.intro) (fun i x H1 H2 hi ⟨s1, e1⟩ ⟨eH, c', hc', ex⟩ => ?_) (fun H1 ⟨s1, e1⟩ => ?_)
                · subst eH
                  subst ex
                  have hi' : z.cps.toList[i]? = some c' := by simpa using hc'
                  have adv : (z.cps.toList.take (i + 1)).map (fun c => V.bl (inL c || inD c)) = (z.cps.toList.take i).map (fun c => V.bl (inL c || inD c)) ++ [V.bl (inL c' || inD c')] := by
                    rw [List.take_add_one, hi', List.map_append]
                    rfl
                  have sm : ((z.cps.toList.take i).map fun c => V.bl (inL c || inD c)).length < sizeLine := by
                    rw [List.length_map, List.length_take]
                    exact small1000 (by have := len_cps z; omega)
                  refine ⟨rfl, ?_⟩
                  refine ⟨.str ⟨#[c']⟩, rfl, c', LET, rfl, rfl, _, rfl, ?_⟩
                  have fin : ∀ b : Bool, b = (inL c' || inD c') → ∃ acc, H2 D = some (.lst acc) ∧ acc.length < sizeLine ∧ Same H (upd H2 D (.lst (acc ++ [.bl b]))) ∧ (upd H2 D (.lst (acc ++ [.bl b]))) D = some (.lst ((z.cps.toList.take (i + 1)).map fun c => V.bl (inL c || inD c))) := fun b eb =>
                    ⟨_, e1, sm, fun a o e => by rw [upd_ne (ne_of_none e hD)]; exact s1 _ _ e, by rw [upd_same, adv, eb]⟩
                  refine ite2 (fun h6 => fin true ?_) (fun h6 => ⟨.str ⟨#[c']⟩, rfl, c', DIG, rfl, rfl, fin _ ?_⟩)
                  · have h7 : inL c' = true := h6
                    rw [h7]
                    rfl
                  · have h7 : inL c' = false := by
                      have : ¬ inL c' = true := h6
                      simpa using this
                    rw [h7]
                    rfl
                · have e2 : H1 D = some (.lst ((z.cps.toList.map fun c => inL c || inD c).map V.bl)) := by
                    rw [e1, List.take_of_length_le (by simp), List.map_map]
                    rfl
                  refine ⟨D, _, rfl, SqL.of e2, hq H1 _ s1 ?_⟩
                  have h5' : inL c = true := h5
                  simp only [isName, n1, n2, h3', h4', hc, Option.any_some, h5', Bool.not_false, Bool.and_true, Bool.true_and, List.all_map]
                  rfl
              · have h5' : inL c = false := by
                  have : ¬ inL c = true := h5
                  simpa using this
                simp only [isName, hc, Option.any_some, h5', Bool.and_false, Bool.false_and]
        · rw [decide_eq_false h2]
          refine iteT (hq H false (Same.refl H) ?_)
          have n2 : decide (z.length ≤ 8) = false := decide_eq_false (by omega)
          simp only [isName, n2, Bool.and_false, Bool.false_and]
      · have n1 : decide (1 ≤ z.length) = false := decide_eq_false (by
          have h1' : ¬ (1 : Int) ≤ (z.length : Int) := fun e => h1 (decide_eq_true e)
          omega)
        simp only [isName, n1, Bool.false_and]
    · refine ⟨v, rfl, v, .ty "str", t, .type "str", false, rfl, .ty "str", ty, kt, false, rfl, iteT ?_⟩
      exact iteT q
end
end TX

set_option Elab.async false
set_option linter.all false
set_option maxRecDepth 100000
set_option maxHeartbeats 4000000
namespace TX
open PySem PySem.Spec PyProof.Rows L2 L2.FK FS
section
variable {X : Cx} {e : Expr}
/-- [t for sign in text], a test of each sign -/
def tCS (i j : Nat) (f : Nat → Bool) : TE := fun σ H Q => ∃ z, σ[i]? = some (some (.str z)) ∧ z.length ≤ sizeLine ∧ j < σ.length ∧ ∀ D H', Same H H' → H' D = some (.lst ((z.cps.toList.map f).map V.bl)) → Q (.ref D) H'
theorem pe_cs {i j : Nat} {te : TE} (f : Nat → Bool) (h : PE X e (tLc (iStr (tVar i)) (gName j) tYes te [j])) (hte : ∀ (c : Nat) (σ : L2.St) (H : Hp) (Q : VK), σ[j]? = some (some (.str ⟨#[c]⟩)) → Q (.bl (f c)) H → te σ H Q) : PE X e (tCS i j f) := by
  refine pe_imp h fun σ H Q ⟨z, hi, hz, hj, q⟩ => ⟨.str z, hi, z, rfl, fun D hD => ?_⟩
  refine lc_it walk_str (fun i H' => Same H H' ∧ H' D = some (.lst ((z.cps.toList.take i).map fun c => V.bl (f c)))) ⟨same_new hD, upd_same⟩ (fun _ _ _ _ => True.intro) (fun i x H1 H2 hi ⟨s1, e1⟩ ⟨eH, c', hc', ex⟩ => ?_) (fun H1 ⟨s1, e1⟩ => ?_)
  · subst eH
    subst ex
    have hi' : z.cps.toList[i]? = some c' := by simpa using hc'
    have adv : (z.cps.toList.take (i + 1)).map (fun c => V.bl (f c)) = (z.cps.toList.take i).map (fun c => V.bl (f c)) ++ [V.bl (f c')] := by
      rw [List.take_add_one, hi', List.map_append]
      rfl
    refine ⟨by simp [wipe], hte c' _ _ _ (by simp [wipe, hj]) ⟨_, e1, ?_, fun a o e => ?_, ?_⟩⟩
    · rw [List.length_map, List.length_take]
      have h9 : z.cps.size = z.length := rfl
      omega
    · rw [upd_ne (ne_of_none e hD)]
      exact s1 _ _ e
    · rw [upd_same, adv]
  · refine q D H1 s1 ?_
    rw [e1, List.take_of_length_le (by simp), List.map_map]
    rfl
end
theorem int_some {z : Str} (h1 : 1 ≤ z.length) (h2 : z.length ≤ 2) (hd : z.cps.toList.all inD = true) : ∃ n : Int, PySem.intText? z = some n ∧ 0 ≤ n ∧ n ≤ 99 := by
  obtain ⟨⟨l⟩⟩ := z
  have k1 : ∀ c ∈ DIG.cps.toList, (match PySem.intText? ⟨#[c]⟩ with | some n => decide (0 ≤ n ∧ n ≤ 99) | none => false) = true := by decide +kernel
  have k2 : ∀ c ∈ DIG.cps.toList, ∀ d ∈ DIG.cps.toList, (match PySem.intText? ⟨#[c, d]⟩ with | some n => decide (0 ≤ n ∧ n ≤ 99) | none => false) = true := by decide +kernel
  have fin : ∀ w : Str, (match PySem.intText? w with | some n => decide (0 ≤ n ∧ n ≤ 99) | none => false) = true → ∃ n : Int, PySem.intText? w = some n ∧ 0 ≤ n ∧ n ≤ 99 := fun w h => by
    cases e : PySem.intText? w with
    | none => rw [e] at h; cases h
    | some n =>
      rw [e] at h
      have h' := of_decide_eq_true h
      exact ⟨n, rfl, h'.1, h'.2⟩
  match l, h1, h2, hd with
  | [c], _, _, hd =>
    have hc : c ∈ DIG.cps.toList := by
      have : inD c = true := by simpa using hd
      exact of_decide_eq_true this
    exact fin _ (k1 c hc)
  | [c, d], _, _, hd =>
    have hc : inD c = true ∧ inD d = true := by simpa using hd
    exact fin _ (k2 c (of_decide_eq_true hc.1) d (of_decide_eq_true hc.2))
def optI : Option Int → V
  | some n => .int n
  | none => .non
def spReadInt : Sp := fun vs H Q _ => ∃ z, vs = [.str z] ∧ z.length ≤ sizeLine ∧ ∀ H', Same H H' → Q (optI (readInt z)) H'
section
variable {P : Program} {w : World} {K : PySem.W.Frag} {mg : Str → Option Value} {base : Heap} {aO aR dF : Addr} {es : Array DictEntry} {nF : Nat} {tF : Str → Addr}
theorem scR : FnScope ["word", "sign"] ["word"] (defScope sReadInt) := ⟨rfl, rfl, rfl, by decide +kernel, rfl, by decide +kernel, by decide +kernel⟩
theorem zero_sign (c : Nat) : decide ((V.str ⟨#[c]⟩) = (V.str "0")) = decide (c = 48) := by
  by_cases h : c = 48
  · subst h
    rfl
  · rw [decide_eq_false h]
    refine decide_eq_false fun e => h ?_
    have e2 := V.str.inj e
    have e3 : (Str.ofString "0") = ⟨#[48]⟩ := by decide
    rw [e3] at e2
    have e4 := congrArg (fun s : Str => s.cps.toList) e2
    simpa using e4
theorem ok_readInt {f : Addr} {fd : FuncData} {k : Nat} (F : Fun K "read_integer" "read_integer" sReadInt f fd) (T : TT K w mg aO aR dF es nF tF) : FnOk P w K mg base CX0 (k + 1) f fd ["word"] spReadInt := by
  obtain ⟨tD, gD⟩ := T.gD
  refine F.ok scR (fun vs H Q E h => ?_) (fun cdv A outer s H vs Q E hr h => ?_)
  · obtain ⟨v, rfl, _⟩ := h
    rfl
  · obtain ⟨z, rfl, hz, q⟩ := h
    refine ⟨_, pss_cons (ps_if (PW.pt (pw_or (pt_not (pt_chain op_le op_le pe_int (pe_callB call_len_str (by rfl) T.zl PySem.boot_len (pa_cons (pv 0) pa_nil)) pe_int))
        (pw_or1 (pt_not (pt_val (pe_callB (cr_all rfl) (by rfl) T.za b_all (pa_cons (pe_cs (i := 0) (j := 1) inD (pe_lc (own := [("sign", 1)]) (g := gName 1) (tt := tYes) rfl scR.nd (pi_str (pv 0)) (blkOk_by (N := ["word", "sign"]) (sc := defScope sReadInt) (by decide +kernel)) (fun _ _ _ _ _ => pg_name (i := 1) scR.nd rfl (Or.inl rfl)) (fun _ _ _ _ _ => pts_nil)
          (fun _ _ _ _ _ => pe_cmpR op_in_sign (pv 1) (pe_glob rfl gD (v := .str DIG) ⟨_, rfl⟩) (by rfl))) (fun c σ H Q hc hq => ⟨_, hc, c, DIG, rfl, rfl, hq⟩)) pa_nil))))))) (pss_one (ps_ret pe_non)) pss_nil)
      (pss_cons (ps_if (PW.pt (pw_and (pt_cmpR op_eq (pe_callB call_len_str (by rfl) T.zl PySem.boot_len (pa_cons (pv 0) pa_nil)) pe_int (nomark _)) (pw_and1 (pt_cmpR op_eq (pe_ix ix_str (pv 0) pe_int (fun _ _ => rfl)) pe_str (nomark _))))) (pss_one (ps_ret pe_non)) pss_nil)
      (pss_one (ps_ret (pe_callTy call_int_str (by rfl) T.zn b_int (pa_cons (pv 0) pa_nil))))), ?_⟩
    have hq : ∀ (H' : Hp) (v : V), Same H H' → optI (readInt z) = v → Q v H' := fun H' b s e => by rw [← e]; exact q H' s
    refine ⟨.str z, rfl, z, rfl, hz, _, _, rfl, rfl, _, rfl, ?_⟩
    refine ite2 (fun h1 => ?_) (fun h1 => ⟨_, rfl, iteT (hq H _ (Same.refl H) ?_)⟩)
    · refine ⟨_, _, rfl, rfl, _, rfl, ?_⟩
      have n1 : decide (1 ≤ z.length) = true := decide_eq_true (by have := of_decide_eq_true h1; omega)
      by_cases h2 : (z.length : Int) ≤ 2
      · rw [decide_eq_true h2]
        have n2 : decide (z.length ≤ 2) = true := decide_eq_true (by omega)
        refine iteF ?_
        refine ⟨z, rfl, hz, (by show 1 < 2; decide), fun D H1 s1 e1 => ?_⟩
        refine ⟨D, _, rfl, SqL.of e1, _, rfl, ?_⟩
        have ea : (z.cps.toList.map inD).all id = z.cps.toList.all inD := by rw [List.all_map]; rfl
        rw [ea]
        by_cases h3 : z.cps.toList.all inD = true
        · rw [h3]
          refine iteF ?_
          refine ⟨.str z, rfl, z, rfl, hz, rfl, _, rfl, ?_⟩
          obtain ⟨m, em, m0, m9⟩ := int_some (of_decide_eq_true n1) (of_decide_eq_true n2) h3
          have h640 : z.length ≤ 640 := by omega
          have base0 : readInt z = if z.length == 2 && z.cps.toList[0]? == some 48 then none else PySem.intText? z := by
            unfold readInt
            rw [n1, n2, h3]
            rfl
          refine ite2 (fun h4 => ?_) (fun h4 => iteF ?_)
          · obtain ⟨c, hc⟩ : ∃ c, z.cps.toList[0]? = some c := ⟨_, List.getElem?_eq_getElem (by rw [len_cps]; have := of_decide_eq_true n1; omega)⟩
            have l2 : z.length = 2 := by
              have := V.int.inj (of_decide_eq_true h4)
              omega
            refine ⟨.str z, rfl, z, 0, c, rfl, rfl, hz, atI_nat (j := 0) hc, rfl, _, rfl, ?_⟩
            rw [zero_sign]
            by_cases h5 : c = 48
            · rw [decide_eq_true h5]
              refine iteT (hq H1 _ s1 ?_)
              rw [base0, l2, hc, h5]
              rfl
            · rw [decide_eq_false h5]
              refine iteF ⟨.str z, rfl, z, m, rfl, em, h640, hq H1 _ s1 ?_⟩
              have e5 : (some c == some 48) = false := by simpa using h5
              rw [base0, l2, hc, e5, em]
              rfl
          · refine ⟨.str z, rfl, z, m, rfl, em, h640, hq H1 _ s1 ?_⟩
            have e6 : (z.length == 2) = false := by
              have : ¬ z.length = 2 := fun e => h4 (decide_eq_true (by rw [e]; rfl))
              simpa using this
            rw [base0, e6, em]
            rfl
        · have h3' : z.cps.toList.all inD = false := by simpa using h3
          rw [h3']
          refine iteT (hq H1 _ s1 ?_)
          unfold readInt
          rw [h3']
          simp [optI]
      · rw [decide_eq_false h2]
        refine iteT (hq H _ (Same.refl H) ?_)
        have n2 : decide (z.length ≤ 2) = false := decide_eq_false (by omega)
        unfold readInt
        rw [n2]
        simp [optI]
    · have n1 : decide (1 ≤ z.length) = false := decide_eq_false (by
        have h1' : ¬ (1 : Int) ≤ (z.length : Int) := fun e => h1 (decide_eq_true e)
        omega)
      unfold readInt
      rw [n1]
      simp [optI]
end
end TX

set_option Elab.async false
set_option linter.all false
set_option maxRecDepth 100000
set_option maxHeartbeats 4000000
namespace TX
open PySem PySem.Spec PyProof.Rows L2 L2.FK FS
section
variable {X : Cx} {o e : Expr} {apos cpos : Pos} {td ty : TE}
/-- D.get(k), D a written dict with text keys -/
def tKGet (K : PySem.W.Frag) (d : Addr) (td ty : TE) : TE := fun σ H Q => td σ H fun x H1 => x = .ref d ∧ ty σ H1 fun y H2 => ∃ (z : Str) (r : Option Value) (v : V), y = .str z ∧ PySem.W.nsIn K d z = some r ∧ RelV v (r.getD .none) ∧ Q v H2
theorem pe_kget {d : Addr} {es : Array DictEntry} {n : Nat} (D : KDict X.K X.w d es n) (ho : PE X o td) (he : PE X e ty) (m : M1 X o "get" apos e cpos) : PE X (.Call (.Attribute o "get" apos) [e] [] cpos) (tKGet X.K d td ty) := by
  refine ⟨fun pins s0 σ H Q I h => ?_⟩
  refine wpAny_Call_method m.base m.few m.line PySem.F.plainAttrs_dict PySem.F.slot_dict_get PySem.F.type_dict_get (thn (ho.run pins s0 σ H _ I h) fun u s1 ⟨x, H1, I1, rx, ex, q1⟩ => ?_)
  subst ex
  obtain rfl : u = Value.ref d := rx
  refine ⟨kd_type D I1, fun a ea => ⟨_, I1.kIn _ _ (by cases ea; exact D.at_), rfl⟩, ?_⟩
  rw [m.trees]
  refine Calls.callWith_builtin rfl (Calls.evalArgs_plain (Calls.spliced_cons (thn (he.run pins s1 σ H1 _ I1 q1) fun iv s2 ⟨y, H2, I2, ry, z, r, v, ey, en, rv, q2⟩ => Calls.spliced_nil ?_)))
  subst ey
  obtain ⟨t, rfl⟩ := ry
  have hm := PySem.W.mapOf_K (prog := X.prog) (w := X.w) I2.kIn D.at_ D.lit
  refine call_meetsIn PySem.F.slot_dict_get hm.typeIs PySem.F.entry_dict_get (PySem.F.args_dict_get_2 _ _) (meets_dict_get (strKind X.prog X.w) d (strKind_is X.prog X.w z t) D.low) ⟨_, hm, ?_⟩
  rw [PySem.W.find_K D.at_ en]
  exact ⟨v, H2, I2.tok _, rv, q2⟩
end
abbrev sReadPart : Stmt := top (TX.o + 2)
abbrev sReadParts : Stmt := top (TX.o + 3)
abbrev sReadIns : Stmt := top (TX.o + 4)
abbrev sReadDat : Stmt := top (TX.o + 5)
abbrev sSplit : Stmt := top (TX.o + 7)
/-! ### the mirror -/
def readPart (z sort : Str) : V :=
  if sort = "name" then (if isName z then .str z else .non) else if sort = "reg" then (if REGS.contains z then .str z else .non) else optI (readInt z)
section
variable {P : Program} {w : World} {K : PySem.W.Frag} {mg : Str → Option Value} {base : Heap} {aO aR dF : Addr} {es : Array DictEntry} {nF : Nat} {tF : Str → Addr}
theorem inV_strs (z : Str) (l : List Str) : inV (.str z) (l.map V.str) = l.contains z := by
  induction l with
  | nil => rfl
  | cons x r ih =>
    show (eqV (.str x) (.str z) || inV (.str z) (r.map V.str)) = _
    rw [ih, List.contains_cons]
    congr 1
    show (x == z) = (z == x)
    exact Bool.beq_comm
def spReadPart : Sp := fun vs H Q _ => ∃ z sort : Str, vs = [.str z, .str sort] ∧ z.length ≤ sizeLine ∧ ∀ H', Same H H' → Q (readPart z sort) H'
theorem scRP : FnScope ["word", "sort"] ["word", "sort"] (defScope sReadPart) := ⟨rfl, rfl, rfl, by decide +kernel, rfl, by decide +kernel, by decide +kernel⟩
theorem str_eq (a b : Str) : decide ((V.str a) = (V.str b)) = decide (a = b) := by
  by_cases h : a = b
  · subst h
    simp
  · rw [decide_eq_false h]
    exact decide_eq_false fun e => h (V.str.inj e)
theorem ok_readPart {f fN fR : Addr} {fd fdN fdR : FuncData} (F : Fun K "read_part" "read_part" sReadPart f fd) (T : TT K w mg aO aR dF es nF tF)
    (GN : FnOk P w K mg base CX0 1 fN fdN ["value"] (spIsName K)) (bN : Binds K fdN ["value"] []) (gN : mg "is_name" = some (.ref fN)) (kN : PySem.W.keepIn K (.ref fN) = true)
    (GR : FnOk P w K mg base CX0 1 fR fdR ["word"] spReadInt) (bR : Binds K fdR ["word"] []) (gR : mg "read_integer" = some (.ref fR)) (kR : PySem.W.keepIn K (.ref fR) = true) : FnOk P w K mg base CX0 2 f fd ["word", "sort"] spReadPart := by
  refine F.ok scRP (fun vs H Q E h => ?_) (fun cdv A outer s H vs Q E hr h => ?_)
  · obtain ⟨z, sort, rfl, _⟩ := h
    rfl
  · obtain ⟨z, sort, rfl, hz, q⟩ := h
    refine ⟨_, pss_cons (ps_if (pt_cmpR op_eq (pv 1) pe_str (nomark _)) (pss_one (ps_ret (pe_ifExp (pt_val (pe_call GN hr rfl gN kN bN .nil pass0 (pa_cons (pv 0) pa_nil))) (pv 0) pe_non))) pss_nil)
      (pss_cons (ps_if (pt_cmpR op_eq (pv 1) pe_str (nomark _)) (pss_one (ps_ret (pe_ifExp (pt_cmpR op_in_seq (pv 0) (pe_glob rfl T.gR (v := .ref aR) rfl) (by rfl)) (pv 0) pe_non))) pss_nil)
      (pss_one (ps_ret (pe_call GR hr rfl gR kR bR .nil pass0 (pa_cons (pv 0) pa_nil))))), ?_⟩
    have hq : ∀ (H' : Hp) (v : V), Same H H' → readPart z sort = v → Q v H' := fun H' b s e => by rw [← e]; exact q H' s
    refine ⟨.str sort, rfl, rfl, _, rfl, ?_⟩
    rw [str_eq]
    refine ite2 (fun h1 => ?_) (fun h1 => ?_)
    · have e1 : sort = "name" := of_decide_eq_true h1
      refine ⟨.str z, rfl, .str z, rfl, .inl ⟨z, rfl, hz, fun H1 s1 => ⟨_, rfl, ?_⟩⟩⟩
      refine ite2 (fun h2 => ⟨.str z, rfl, hq H1 _ s1 ?_⟩) (fun h2 => hq H1 _ s1 ?_)
      · unfold readPart
        rw [if_pos e1, if_pos h2]
      · unfold readPart
        rw [if_pos e1, if_neg h2]
    · have e1 : ¬ sort = "name" := fun e => h1 (decide_eq_true e)
      refine ⟨.str sort, rfl, rfl, _, rfl, ?_⟩
      rw [str_eq]
      refine ite2 (fun h2 => ?_) (fun h2 => ?_)
      · have e2 : sort = "reg" := of_decide_eq_true h2
        refine ⟨.str z, rfl, aR, _, rfl, .inr (T.kR.sq H), rfl, by decide, _, rfl, ?_⟩
        rw [show (if false = true then !inV (V.str z) (REGS.map V.str) else inV (V.str z) (REGS.map V.str)) = REGS.contains z from inV_strs z REGS]
        refine ite2 (fun h3 => ⟨.str z, rfl, hq H _ (Same.refl H) ?_⟩) (fun h3 => hq H _ (Same.refl H) ?_)
        · unfold readPart
          rw [if_neg e1, if_pos e2, if_pos h3]
        · unfold readPart
          rw [if_neg e1, if_pos e2, if_neg h3]
      · have e2 : ¬ sort = "reg" := fun e => h2 (decide_eq_true e)
        refine ⟨.str z, rfl, z, rfl, hz, fun H1 s1 => hq H1 _ s1 ?_⟩
        unfold readPart
        rw [if_neg e1, if_neg e2]
end
end TX

set_option Elab.async false
set_option linter.all false
set_option maxRecDepth 100000
set_option maxHeartbeats 4000000
namespace TX
open PySem PySem.Spec PyProof.Rows L2 L2.FK FS
/-! ### a comprehension over a list: each item's value by a relation that a growing heap keeps -/
section
variable {X : Cx} {e : Expr} {K : PySem.W.Frag}
/-- the value is no object, or one that was not there -/
def Nw (v : V) (H : Hp) : Prop := ∀ p, v = .ref p → H p = none
def tCG (K : PySem.W.Frag) (R : V → V → Hp → Prop) (Dm : V → Hp → Prop) (tl : TE) (j : Nat) : TE := fun σ H Q => tl σ H fun x H1 => ∃ (l : Addr) (xs : List V), x = .ref l ∧ SqL K H1 l xs ∧ xs.length ≤ sizeLine ∧ j < σ.length ∧ (∀ x ∈ xs, Dm x H1) ∧
  ∀ D H' vs, Same H1 H' → H1 D = none → H' D = some (.lst vs) → Paired (fun x v => R x v H') xs vs → Q (.ref D) H'
theorem paired_mono {R R' : V → V → Prop} (hR : ∀ x v, R x v → R' x v) : ∀ {xs vs : List V}, Paired R xs vs → Paired R' xs vs
  | _, _, .nil => .nil
  | _, _, .cons h t => .cons (hR _ _ h) (paired_mono hR t)
theorem paired_snoc {R : V → V → Prop} {x v : V} : ∀ {xs vs : List V}, Paired R xs vs → R x v → Paired R (xs ++ [x]) (vs ++ [v])
  | _, _, .nil, h => .cons h .nil
  | _, _, .cons a t, h => .cons a (paired_snoc t h)
theorem pe_cg {R : V → V → Hp → Prop} {Dm : V → Hp → Prop} {tl te : TE} {j : Nat} (h : PE X e (tLc (iList K tl) (gName j) tYes te [j])) (hR : ∀ x v H H', Same H H' → R x v H → R x v H') (hU : ∀ x v H D o, (∀ p, v = .ref p → p ≠ D) → R x v H → R x v (upd H D o))
    (hD : ∀ x H H', Same H H' → Dm x H → Dm x H')
    (hm : ∀ σ H (Q Q' : VK), (∀ v H, Q v H → Q' v H) → tl σ H Q → tl σ H Q') (hte : ∀ (x : V) (σ : L2.St) (H : Hp) (Q : VK), σ[j]? = some (some x) → Dm x H → (∀ v H', Same H H' → Nw v H → R x v H' → Q v H') → te σ H Q) : PE X e (tCG K R Dm tl j) := by
  refine pe_imp h fun σ H Q q => hm σ H _ _ (fun x H1 ⟨l, xs, ex, hl, hz, hj, hdm, q⟩ => ⟨l, ex, ⟨_, hl⟩, fun D hD0 => ?_⟩) q
  refine lc_list (xs := xs) (fun i H' => Same H1 H' ∧ ∃ vs, H' D = some (.lst vs) ∧ Paired (fun x v => R x v H' ∧ ∀ p, v = .ref p → p ≠ D) (xs.take i) vs) ⟨same_new hD0, [], upd_same, .nil⟩ (fun _ _ _ h => h.1.seq hl) (fun i x H2 hx ⟨s2, vs, hv, pv⟩ => ?_) (fun H2 ⟨s2, vs, hv, pv⟩ => ?_)
  · have hmem : x ∈ xs := List.mem_of_getElem? hx
    have hi : i < xs.length := (List.getElem?_eq_some_iff.mp hx).1
    refine ⟨by simp [wipe], hte x _ H2 _ (by simp [wipe, hj]) (hD _ _ _ s2 (hdm x hmem)) fun v H3 s3 nv rv => ⟨vs, s3 _ _ hv, ?_, fun b o eb => ?_, vs ++ [v], upd_same, ?_⟩⟩
    · have := pv.length
      rw [← this, List.length_take]
      omega
    · rw [upd_ne (ne_of_none eb hD0)]
      exact s3 _ _ (s2 _ _ eb)
    · rw [List.take_add_one, hx]
      refine paired_snoc (paired_mono (fun x v hh => ⟨hU _ _ _ _ _ hh.2 (hR _ _ _ _ s3 hh.1), hh.2⟩) pv) ?_
      have nd : ∀ p, v = .ref p → p ≠ D := fun p ep => (ne_of_none hv (nv p ep)).symm
      exact ⟨hU _ _ _ _ _ nd rv, nd⟩
  · rw [List.take_length] at pv
    exact q D H2 vs s2 hD0 hv (paired_mono (fun _ _ hh => hh.1) pv)
end
/-! ### the mirror -/
def readParts (ws : List Str) (form : List Str) : Option (List V) := match ws with
  | [] => none
  | w :: rest => if (w :: rest).length ≠ form.length + 1 then none else if (List.zipWith readPart rest form).any (fun v => decide (v = .non)) then none else some (.str w :: List.zipWith readPart rest form)
def readIns : List Str → Option (List V)
  | [] => none
  | w :: rest => match formOf w with
    | none => none
    | some form => if (w :: rest).length ≠ form.length + 1 then none else if (List.zipWith readPart rest form).any (fun v => decide (v = .non)) then none else some (.str w :: List.zipWith readPart rest form)
theorem readIns_none {w : Str} {rest : List Str} (h : formOf w = none) : readIns (w :: rest) = none := by simp only [readIns, h]
theorem readIns_some {w : Str} {rest : List Str} {form : List Str} (h : formOf w = some form) : readIns (w :: rest) = if (w :: rest).length ≠ form.length + 1 then none else if (List.zipWith readPart rest form).any (fun v => decide (v = V.non)) then none else some (V.str w :: List.zipWith readPart rest form) := by simp only [readIns, h]
section
variable {P : Program} {w : World} {K : PySem.W.Frag} {mg : Str → Option Value} {base : Heap} {aO aR dF : Addr} {es : Array DictEntry} {nF : Nat} {tF : Str → Addr}
def Wd (z : Str) : Prop := z.length ≤ sizeLine
theorem form3 {w1 : Str} {form : List Str} (hf : formOf w1 = some form) : form.length ≤ 3 := by
  have key : ∀ p ∈ FORM, p.2.length ≤ 3 := by decide
  exact key _ (PySem.mem_of_lookup hf)
def spReadParts (K : PySem.W.Frag) : Sp := fun vs H Q _ => ∃ (a b : Addr) (ws form : List Str), vs = [.ref a, .ref b] ∧ SqL K H a (ws.map V.str) ∧ (∀ H', Same H H' → SqT K H' b (form.map V.str)) ∧ ws ≠ [] ∧ (∀ z ∈ ws, Wd z) ∧ form.length ≤ 3 ∧
  (readParts ws form = none → ∀ H', Same H H' → Q .non H') ∧ (∀ xs, readParts ws form = some xs → ∀ H' p, Same H H' → H p = none → H' p = some (.tup xs) → Q (.ref p) H')
theorem scRPs : FnScope ["words", "form", "parts", "word", "sort", "part"] ["words", "form"] (defScope sReadParts) := ⟨rfl, rfl, rfl, by decide +kernel, rfl, by decide +kernel, by decide +kernel⟩
theorem ok_readParts {f fP : Addr} {fd fdP : FuncData} (F : Fun K "read_parts" "read_parts" sReadParts f fd) (T : TT K w mg aO aR dF es nF tF)
    (GP : FnOk P w K mg base CX0 2 fP fdP ["word", "sort"] spReadPart) (bP : Binds K fdP ["word", "sort"] []) (gP : mg "read_part" = some (.ref fP)) (kP : PySem.W.keepIn K (.ref fP) = true) : FnOk P w K mg base CX0 3 f fd ["words", "form"] (spReadParts K) := by
  refine F.ok scRPs (fun vs H Q E h => ?_) (fun cdv A outer s H vs Q E hr h => ?_)
  · obtain ⟨a, b, ws, form, rfl, _⟩ := h
    rfl
  · obtain ⟨a, b, ws, form, rfl, hS, hT, hne, hw, hf3, q0, q1⟩ := h
    refine ⟨_, pss_cons (ps_if (pt_cmpR op_ne (pe_callB call_len_seq (by rfl) T.zl PySem.boot_len (pa_cons (pv 0) pa_nil)) (pe_op op_add (pe_callB call_len_seq (by rfl) T.zl PySem.boot_len (pa_cons (pv 1) pa_nil)) pe_int) (nomark _)) (pss_one (ps_ret pe_non)) pss_nil)
      (pss_cons (ps_setLc (i := 2) (own := [("word", 3), ("sort", 4)]) (g := gTup K 2 (gCons (gName 3) (gCons (gName 4) gNil))) (tt := tYes) rfl scRPs.nd rfl rfl (sw_true rfl rfl rfl (by decide +kernel)) (pi_zipM (by rfl) T.zz (pa_cons (pe_slice sl_listS (pv 0) (po_some pe_int) po_none) (pa_cons (pv 1) pa_nil))) (blkOk_by (N := ["words", "form", "parts", "word", "sort", "part"]) (sc := defScope sReadParts) (by decide +kernel))
          (fun _ _ _ _ _ => pg_tup rfl (pgs_cons (pg_name (i := 3) scRPs.nd rfl (Or.inl rfl)) (pgs_cons (pg_name (i := 4) scRPs.nd rfl (Or.inl rfl)) pgs_nil))) (fun _ _ _ _ _ => pts_nil) (fun _ _ _ _ _ => pe_call GP hr rfl gP kP bP .nil pass0 (pa_cons (pv 3) (pa_cons (pv 4) pa_nil))))
      (pss_cons (ps_if (pt_val (pe_callB (cr_any rfl) (by rfl) T.zy b_any (pa_cons (pe_cg (K := K) (R := fun x v _ => v = .bl (decide (x = .non))) (Dm := fun _ _ => True) (j := 5) (pe_lc (own := [("part", 5)]) (g := gName 5) (tt := tYes) rfl scRPs.nd (pi_list (pv 2)) (blkOk_by (N := ["words", "form", "parts", "word", "sort", "part"]) (sc := defScope sReadParts) (by decide +kernel)) (fun _ _ _ _ _ => pg_name (i := 5) scRPs.nd rfl (Or.inl rfl)) (fun _ _ _ _ _ => pts_nil)
          (fun _ _ _ _ _ => pe_cmp (pc_isN (pv 5)))) (fun _ _ _ _ _ h => h) (fun _ _ _ _ _ _ h => h) (fun _ _ _ _ h => h) (fun σ H Q Q' k ⟨v, h1, h2⟩ => ⟨v, h1, k _ _ h2⟩) (fun x σ H Q hx _ hq => ⟨x, hx, hq _ H (Same.refl H) (fun _ ep => nomatch ep) rfl⟩)) pa_nil))) (pss_one (ps_ret pe_non)) pss_nil)
      (pss_one (ps_ret (pe_tupS (pa_cons (pe_ix ix_list (pv 0) pe_int (fun _ _ => rfl)) (StX.pa_star (pv 2) pa_nil))))))), ?_⟩
    obtain ⟨w1, rest, rfl⟩ : ∃ w1 rest, ws = w1 :: rest := by
      cases ws with
      | nil => exact absurd rfl hne
      | cons w1 rest => exact ⟨w1, rest, rfl⟩
    have h0 : ((w1 :: rest).map V.str)[0]? = some (.str w1) := rfl
    refine ⟨.ref a, rfl, a, _, rfl, .inl hS, .ref b, rfl, b, _, rfl, .inr (hT H (Same.refl H)), _, _, rfl, rfl, rfl, _, rfl, ?_⟩
    have step : readParts (w1 :: rest) form = if (w1 :: rest).length ≠ form.length + 1 then none else if (List.zipWith readPart rest form).any (fun v => decide (v = V.non)) then none else some (V.str w1 :: List.zipWith readPart rest form) := rfl
    by_cases hl : (w1 :: rest).length = form.length + 1
    · rw [if_neg (by simpa using hl)] at step
      have hl' : decide (V.int (((w1 :: rest).map V.str).length : Nat) = V.int (((form.map V.str).length : Nat) + 1)) = true := decide_eq_true (by rw [List.length_map, List.length_map, hl]; rfl)
      rw [hl']
      refine iteF ?_
      have hrl : rest.length = form.length := by simpa using hl
      have ec : cutV ((w1 :: rest).map V.str) (some 1) none = rest.map V.str := by
        unfold cutV
        rw [show HT.sIx ((w1 :: rest).map V.str).length 0 (some 1) = min 1 ((w1 :: rest).map V.str).length from HT.sIx_nat _ 0 1, HT.sIx_none]
        rw [show min 1 ((w1 :: rest).map V.str).length = 1 by rw [List.length_map, List.length_cons]; omega]
        show (List.take (((w1 :: rest).map V.str).length - 1) (rest.map V.str)) = _
        exact List.take_of_length_le (by rw [List.length_map, List.length_map, List.length_cons]; omega)
      refine ⟨.ref a, rfl, 1, rfl, a, _, rfl, hS, fun p1 H1 s1 n1 e1 => ⟨.ref b, rfl, p1, b, _, _, rfl, SqL.of e1, hT H1 s1, fun D hD => ?_⟩⟩
      rw [ec] at e1
      have hlen : rest.length ≤ 3 := by omega
      have zl : (List.zipWith readPart rest form).length = rest.length := by rw [List.length_zipWith]; omega
      refine lc_it (walk_zipM (xs := rest.map V.str) (ys := form.map V.str) rfl) (fun i H' => Same H1 H' ∧ H' D = some (.lst ((List.zipWith readPart rest form).take i))) ⟨same_new hD, upd_same⟩ (fun _ _ _ h => ⟨h.1.seq (SqL.of e1), hT _ (s1.trans h.1)⟩) (fun i v H2 H3 hi ⟨s2, e2⟩ ⟨T1, x, y, ev, nT, eH, hx, hy⟩ => ?_) (fun H2 ⟨s2, e2⟩ => ?_)
      · subst ev
        subst eH
        have hi' : i < rest.length := by
          rw [List.length_map, List.length_map] at hi
          omega
        have hx' : x = .str (rest[i]'hi') := by
          have hx : (rest.map V.str)[i]? = some x := hx
          rw [List.getElem?_map, List.getElem?_eq_getElem hi'] at hx
          exact (Option.some.inj hx).symm
        have hif : i < form.length := by omega
        have hy' : y = .str (form[i]'hif) := by
          have hy : (form.map V.str)[i]? = some y := hy
          rw [List.getElem?_map, List.getElem?_eq_getElem hif] at hy
          exact (Option.some.inj hy).symm
        subst hx' hy'
        have nTD : D ≠ T1 := ne_of_none e2 nT
        refine ⟨T1, [.str (rest[i]'hi'), .str (form[i]'hif)], rfl, .inl (.inl upd_same), rfl, _, [.str (form[i]'hif)], rfl, _, [], rfl, rfl, rfl, ?_⟩
        refine ⟨.str (rest[i]'hi'), rfl, .str (form[i]'hif), rfl, rest[i]'hi', form[i]'hif, rfl, hw _ (List.mem_cons_of_mem _ (List.getElem_mem _)), fun H4 s4 => ⟨_, s4 _ _ (by rw [upd_ne nTD]; exact e2), ?_, fun b o eb => ?_, ?_⟩⟩
        · rw [List.length_take, zl]
          exact small1000 (by omega)
        · rw [upd_ne (ne_of_none eb hD)]
          exact s4 _ _ ((same_new nT) _ _ (s2 _ _ eb))
        · rw [upd_same, List.take_add_one, List.getElem?_zipWith, List.getElem?_eq_getElem hi', List.getElem?_eq_getElem hif]
          rfl
      · have e3 : H2 D = some (.lst (List.zipWith readPart rest form)) := by
          rw [e2, List.take_of_length_le (by rw [List.length_map, List.length_map, zl]; omega)]
        have t2 : Same H H2 := s1.trans s2
        have nD0 : H D = none := s1.free hD
        refine ⟨.ref D, rfl, D, _, rfl, SqL.of e3, ?_, ?_, fun _ _ => trivial, fun D2 H3 vs s3 n3 e4 pv => ?_⟩
        · rw [zl]
          exact Nat.le_of_lt (small1000 (by omega))
        · show 5 < 6
          decide
        have evs : vs = ((List.zipWith readPart rest form).map fun x => decide (x = V.non)).map V.bl := by
          have key : ∀ {xs vs : List V}, Paired (fun x v => v = V.bl (decide (x = V.non))) xs vs → vs = (xs.map fun x => decide (x = V.non)).map V.bl := by
            intro xs vs p
            induction p with
            | nil => rfl
            | cons h _ ih => rw [h, ih]; rfl
          exact key pv
        rw [evs] at e4
        refine ⟨D2, _, rfl, SqL.of e4, _, rfl, ?_⟩
        have ea : (((List.zipWith readPart rest form).map fun x => decide (x = V.non)).any id) = (List.zipWith readPart rest form).any (fun v => decide (v = V.non)) := by
          rw [List.any_map]
          rfl
        rw [ea]
        by_cases hn : (List.zipWith readPart rest form).any (fun v => decide (v = V.non)) = true
        · rw [hn]
          refine iteT (q0 ?_ H3 (t2.trans s3))
          rw [step, if_pos hn]
        · have hn' : (List.zipWith readPart rest form).any (fun v => decide (v = V.non)) = false := Bool.eq_false_iff.mpr hn
          rw [hn']
          refine iteF ?_
          have hS3 := (t2.trans s3).seq hS
          refine ⟨.ref a, rfl, a, _, 0, _, rfl, rfl, hS3, atI_nat (j := 0) h0, .ref D, rfl, D, _, rfl, .inr (SqL.of (s3 _ _ e3)), ?_, fun p H4 s4 n4 e5 => ?_⟩
          · show (V.str w1 :: (List.zipWith readPart rest form ++ [])).length ≤ 1000
            rw [List.length_cons, List.append_nil, zl]
            omega
          · refine q1 (.str w1 :: List.zipWith readPart rest form) ?_ H4 p ((t2.trans s3).trans s4) ((t2.trans s3).free n4) ?_
            · rw [step, hn']
              rfl
            · rw [e5]
              show some (HO.tup (V.str w1 :: (List.zipWith readPart rest form ++ []))) = _
              rw [List.append_nil]
    · have hl' : decide (V.int (((w1 :: rest).map V.str).length : Nat) = V.int (((form.map V.str).length : Nat) + 1)) = false := decide_eq_false fun e => hl (by
        have e2 := V.int.inj e
        rw [List.length_map, List.length_map] at e2
        omega)
      rw [hl']
      refine iteT (q0 ?_ H (Same.refl H))
      rw [step, if_pos hl]
def spReadIns (K : PySem.W.Frag) : Sp := fun vs H Q _ => ∃ (a : Addr) (ws : List Str), vs = [.ref a] ∧ SqL K H a (ws.map V.str) ∧ ws ≠ [] ∧ (∀ z ∈ ws, Wd z) ∧
  (readIns ws = none → ∀ H', Same H H' → Q .non H') ∧ (∀ xs, readIns ws = some xs → ∀ H' p, Same H H' → H p = none → H' p = some (.tup xs) → Q (.ref p) H')
theorem scRI : FnScope ["words"] ["words"] (defScope sReadIns) := ⟨rfl, rfl, rfl, by decide +kernel, rfl, by decide +kernel, by decide +kernel⟩
theorem ok_readIns {f fP : Addr} {fd fdP : FuncData} (F : Fun K "read_instruction" "read_instruction" sReadIns f fd) (T : TT K w mg aO aR dF es nF tF)
    (GP : FnOk P w K mg base CX0 3 fP fdP ["words", "form"] (spReadParts K)) (bP : Binds K fdP ["words", "form"] []) (gP : mg "read_parts" = some (.ref fP)) (kP : PySem.W.keepIn K (.ref fP) = true) : FnOk P w K mg base CX0 4 f fd ["words"] (spReadIns K) := by
  refine F.ok scRI (fun vs H Q E h => ?_) (fun cdv A outer s H vs Q E hr h => ?_)
  · obtain ⟨a, ws, rfl, _⟩ := h
    rfl
  · obtain ⟨a, ws, rfl, hS, hne, hw, q0, q1⟩ := h
    refine ⟨_, pss_cons (ps_if (pt_cmpR (op_notIn_kd T.kF) (pe_ix ix_list (pv 0) pe_int (fun _ _ => rfl)) (pe_glob rfl T.gF (v := .ref dF) rfl) (by rfl)) (pss_one (ps_ret pe_non)) pss_nil)
      (pss_one (ps_ret (pe_call GP hr rfl gP kP bP .nil pass0 (pa_cons (pv 0) (pa_cons (pe_ix ix_kdict (pe_glob rfl T.gF (v := .ref dF) rfl) (pe_ix ix_list (pv 0) pe_int (fun _ _ => rfl)) (fun _ _ => rfl)) pa_nil))))), ?_⟩
    obtain ⟨w1, rest, rfl⟩ : ∃ w1 rest, ws = w1 :: rest := by
      cases ws with
      | nil => exact absurd rfl hne
      | cons w1 rest => exact ⟨w1, rest, rfl⟩
    have h0 : ((w1 :: rest).map V.str)[0]? = some (.str w1) := rfl
    cases hf : formOf w1 with
    | none =>
      have lf := T.lF w1
      rw [hf] at lf
      refine ⟨.ref a, rfl, a, _, 0, _, rfl, rfl, hS, atI_nat (j := 0) h0, w1, none, rfl, rfl, lf, _, rfl, ?_⟩
      exact iteT (q0 (readIns_none hf) H (Same.refl H))
    | some form =>
      have lf := T.lF w1
      rw [hf] at lf
      have kt := T.tF w1 form hf
      refine ⟨.ref a, rfl, a, _, 0, _, rfl, rfl, hS, atI_nat (j := 0) h0, w1, some (.ref (tF w1)), rfl, rfl, lf, _, rfl, ?_⟩
      refine iteF ⟨.ref a, rfl, .ref a, rfl, a, _, 0, _, rfl, rfl, hS, atI_nat (j := 0) h0, dF, w1, .ref (tF w1), rfl, rfl, ⟨es, nF, .ref (tF w1), T.kF.at_, T.kF.lit, lf, rfl⟩, ?_⟩
      have e : readParts (w1 :: rest) form = readIns (w1 :: rest) := by
        rw [readIns_some hf]
        rfl
      exact ⟨a, tF w1, w1 :: rest, form, rfl, hS, fun H' _ => kt.sq H', hne, hw, form3 hf, fun h => q0 (e ▸ h), fun xs h => q1 xs (e ▸ h)⟩
end
end TX

set_option Elab.async false
set_option linter.all false
set_option maxRecDepth 100000
set_option maxHeartbeats 4000000
namespace TX
open PySem PySem.Spec PyProof.Rows L2 L2.FK FS
section
variable {X : Cx}
def rSplitS : V → List V → Hp → VK → Prop := fun x xs H Q => ∃ a b : Str, x = .str a ∧ xs = [.str b] ∧ (b.length == 0) = false ∧ a.length + 2 ≤ sizeLine ∧ ∀ p H', Same H H' → H p = none → H' p = some (.lst ((Txt.split a b).map V.str)) → Q (.ref p) H'
theorem mt_splitS : MtR X "str.split" rSplitS := fun pins s σ H x xs v us Q I rx rxs ⟨a, b, e1, e2, h1, h2, q⟩ =>
  mt_split pins s σ H x xs v us Q I rx rxs ⟨a, b, e1, e2, h1, h2, fun p np => q p _ (same_new np) np upd_same⟩
end
abbrev sTarget : Stmt := top (TX.o + 6)
/-! ### the mirror -/
def readDat : List Str → V
  | [z] => if isName z then .str z else optI (readInt z)
  | _ => .non
def rowsOf (t : Str) : List (List Str) := if t = "" then [] else (Txt.split t "\n").map fun r => Txt.split r " "
def Fits (t : Str) : Prop := t.length + 2 ≤ sizeLine ∧ (∀ r ∈ Txt.split t "\n", r.length + 2 ≤ sizeLine)
def targetOf (row : List V) : V := match row with
  | .str w :: _ => (match formOf w with
    | some form => if form.contains "to" then row.getLast?.getD .non else .non
    | none => .non)
  | _ => .non
section
variable {P : Program} {w : World} {K : PySem.W.Frag} {mg : Str → Option Value} {base : Heap} {aO aR dF : Addr} {es : Array DictEntry} {nF : Nat} {tF : Str → Addr}
/-! ### read_datum -/
def spReadDat (K : PySem.W.Frag) : Sp := fun vs H Q _ => ∃ (a : Addr) (ws : List Str), vs = [.ref a] ∧ SqL K H a (ws.map V.str) ∧ (∀ z ∈ ws, Wd z) ∧ ∀ H', Same H H' → Q (readDat ws) H'
theorem scRD : FnScope ["words"] ["words"] (defScope sReadDat) := ⟨rfl, rfl, rfl, by decide +kernel, rfl, by decide +kernel, by decide +kernel⟩
theorem ok_readDat {f fN fR : Addr} {fd fdN fdR : FuncData} (F : Fun K "read_datum" "read_datum" sReadDat f fd) (T : TT K w mg aO aR dF es nF tF)
    (GN : FnOk P w K mg base CX0 1 fN fdN ["value"] (spIsName K)) (bN : Binds K fdN ["value"] []) (gN : mg "is_name" = some (.ref fN)) (kN : PySem.W.keepIn K (.ref fN) = true)
    (GR : FnOk P w K mg base CX0 1 fR fdR ["word"] spReadInt) (bR : Binds K fdR ["word"] []) (gR : mg "read_integer" = some (.ref fR)) (kR : PySem.W.keepIn K (.ref fR) = true) : FnOk P w K mg base CX0 2 f fd ["words"] (spReadDat K) := by
  refine F.ok scRD (fun vs H Q E h => ?_) (fun cdv A outer s H vs Q E hr h => ?_)
  · obtain ⟨a, ws, rfl, _⟩ := h
    rfl
  · obtain ⟨a, ws, rfl, hS, hw, q⟩ := h
    refine ⟨_, pss_cons (ps_if (pt_cmpR op_ne (pe_callB call_len_seq (by rfl) T.zl PySem.boot_len (pa_cons (pv 0) pa_nil)) pe_int (nomark _)) (pss_one (ps_ret pe_non)) pss_nil)
      (pss_one (ps_ret (pe_ifExp (pt_val (pe_call GN hr rfl gN kN bN .nil pass0 (pa_cons (pe_ix ix_list (pv 0) pe_int (fun _ _ => rfl)) pa_nil))) (pe_ix ix_list (pv 0) pe_int (fun _ _ => rfl)) (pe_call GR hr rfl gR kR bR .nil pass0 (pa_cons (pe_ix ix_list (pv 0) pe_int (fun _ _ => rfl)) pa_nil))))), ?_⟩
    refine ⟨.ref a, rfl, a, _, rfl, .inl hS, rfl, _, rfl, ?_⟩
    by_cases hl : ws.length = 1
    · obtain ⟨z, rfl⟩ := List.length_eq_one_iff.mp hl
      refine iteNS (by rfl) ?_
      have hz : Wd z := hw z (by simp)
      have at0 : ∀ H', SqL K H' a ([z].map V.str) → atI ([z].map V.str) 0 = some (.str z) := fun _ _ => rfl
      refine ⟨.ref a, rfl, a, _, 0, _, rfl, rfl, hS, rfl, .str z, rfl, .inl ⟨z, rfl, hz, fun H1 s1 => ⟨_, rfl, ?_⟩⟩⟩
      refine ite2 (fun h => ?_) (fun h => ?_)
      · refine ⟨.ref a, rfl, a, _, 0, _, rfl, rfl, s1.seq hS, rfl, ?_⟩
        have e : readDat [z] = .str z := by
          show (if isName z = true then V.str z else optI (readInt z)) = _
          rw [if_pos h]
        have hq := q H1 s1
        rw [e] at hq
        exact hq
      · refine ⟨.ref a, rfl, a, _, 0, _, rfl, rfl, s1.seq hS, rfl, z, rfl, hz, fun H2 s2 => ?_⟩
        have e : readDat [z] = optI (readInt z) := by
          show (if isName z = true then V.str z else optI (readInt z)) = _
          rw [if_neg h]
        have hq := q H2 (s1.trans s2)
        rw [e] at hq
        exact hq
    · have hl' : decide (V.int (((ws.map V.str).length : Nat) : Int) = V.int 1) = false := decide_eq_false fun e => hl (by
        have e2 := V.int.inj e
        rw [List.length_map] at e2
        omega)
      rw [hl']
      refine iteT ?_
      have e : readDat ws = .non := by
        match ws, hl with
        | [], _ => rfl
        | [_], h => exact absurd rfl h
        | _ :: _ :: _, _ => rfl
      have hq := q H (Same.refl H)
      rw [e] at hq
      exact hq
/-! ### split_rows -/
def RowsAt (H : Hp) (vs : List V) (rs : List (List Str)) : Prop := Paired (fun (ws : List Str) v => ∃ q, v = .ref q ∧ H q = some (.lst (ws.map V.str))) rs vs
def spSplit : Sp := fun vs H Q _ => ∃ t : Str, vs = [.str t] ∧ Fits t ∧ ∀ H' p rs, Same H H' → H p = none → H' p = some (.lst rs) → RowsAt H' rs (rowsOf t) → Q (.ref p) H'
theorem scSp : FnScope ["text", "row"] ["text"] (defScope sSplit) := ⟨rfl, rfl, rfl, by decide +kernel, rfl, by decide +kernel, by decide +kernel⟩
theorem ok_split {f : Addr} {fd : FuncData} {k : Nat} (F : Fun K "split_rows" "split_rows" sSplit f fd) : FnOk P w K mg base CX0 (k + 1) f fd ["text"] spSplit := by
  refine F.ok scSp (fun vs H Q E h => ?_) (fun cdv A outer s H vs Q E hr h => ?_)
  · obtain ⟨t, rfl, _⟩ := h
    rfl
  · obtain ⟨t, rfl, ⟨hf1, hf2⟩, q⟩ := h
    refine ⟨_, pss_cons (ps_if (pt_cmpR op_eq (pv 0) pe_str (nomark _)) (pss_one (ps_ret (pe_lstS pa_nil))) pss_nil)
      (pss_one (ps_ret (pe_cg (K := K) (R := fun x v H => ∃ z q, x = .str z ∧ v = .ref q ∧ H q = some (.lst ((Txt.split z " ").map V.str))) (Dm := fun x _ => ∃ z, x = .str z ∧ z.length + 2 ≤ sizeLine) (tl := tBM K "str" rSplitS (tVar 0) (tCons (tC (.str "\n")) tNil)) (te := tBM K "str" rSplitS (tVar 1) (tCons (tC (.str " ")) tNil)) (j := 1)
        (pe_lc (own := [("row", 1)]) (g := gName 1) (tt := tYes) rfl scSp.nd (pi_list (pe_bm PySem.F.plainAttrs_str PySem.F.slot_str_split PySem.F.type_str_split mt_splitS (pv 0) (pa_cons pe_str pa_nil))) (blkOk_by (N := ["text", "row"]) (sc := defScope sSplit) (by decide +kernel)) (fun _ _ _ _ _ => pg_name (i := 1) scSp.nd rfl (Or.inl rfl)) (fun _ _ _ _ _ => pts_nil)
          (fun _ _ _ _ _ => pe_bm PySem.F.plainAttrs_str PySem.F.slot_str_split PySem.F.type_str_split mt_splitS (pv 1) (pa_cons pe_str pa_nil)))
        (fun x v H H' s ⟨z, q, e1, e2, h⟩ => ⟨z, q, e1, e2, s _ _ h⟩) (fun x v H D o hp ⟨z, q, e1, e2, h⟩ => ⟨z, q, e1, e2, by rw [upd_ne (hp q e2)]; exact h⟩) (fun _ _ _ _ h => h)
        (fun σ H Q Q' k h => by
          obtain ⟨v, h1, h2, a, b, e1, e2, h3, h4, hq⟩ := h
          exact ⟨v, h1, h2, a, b, e1, e2, h3, h4, fun p H' s n h => k _ _ (hq p H' s n h)⟩)
        (fun x σ H Q hx h hq => by
          obtain ⟨z, ex, hz⟩ := h
          exact ⟨x, hx, by subst ex; rfl, z, " ", ex, rfl, rfl, hz, fun p H' s n h => hq _ H' s (fun p' ep => by cases ep; exact n) ⟨z, p, ex, rfl, h⟩⟩)))), ?_⟩
    refine ⟨.str t, rfl, rfl, _, rfl, ?_⟩
    rw [str_eq]
    refine ite2 (fun h => ?_) (fun h => ?_)
    · have e : t = "" := of_decide_eq_true h
      refine ⟨by simp, fun p H1 s1 n1 e1 => q H1 p [] s1 n1 e1 ?_⟩
      unfold rowsOf
      rw [if_pos e]
      exact .nil
    · have e : ¬ t = "" := fun e => h (decide_eq_true e)
      refine ⟨.str t, rfl, rfl, t, "\n", rfl, rfl, rfl, hf1, fun p H1 s1 n1 e1 => ⟨p, _, rfl, SqL.of e1, ?_, (by show 1 < 2; decide), fun x hx => ?_, fun D H2 vs s2 n2 e2 pv => ?_⟩⟩
      · rw [List.length_map]
        have := PyProof.Rows.split_le t "\n"
        omega
      · obtain ⟨z, hz, rfl⟩ := List.mem_map.mp hx
        exact ⟨z, rfl, hf2 z hz⟩
      · refine q H2 D vs (s1.trans s2) (s1.free n2) e2 ?_
        unfold rowsOf
        rw [if_neg e]
        have key : ∀ (zs : List Str) (vs : List V), Paired (fun x v => ∃ z q, x = V.str z ∧ v = V.ref q ∧ H2 q = some (.lst ((Txt.split z " ").map V.str))) (zs.map V.str) vs → RowsAt H2 vs (zs.map fun r => Txt.split r " ") := by
          intro zs
          induction zs with
          | nil => intro vs p; cases p; exact .nil
          | cons z r ih =>
            intro vs p
            cases p with
            | cons h t =>
              obtain ⟨z', q, e1, e2, e3⟩ := h
              cases e1
              exact .cons ⟨q, e2, e3⟩ (ih _ t)
        exact key _ _ pv
/-! ### target_of -/
def spTarget (K : PySem.W.Frag) : Sp := fun vs H Q _ => ∃ (a : Addr) (row : List V) (w1 : Str) (r : List V) (form : List Str), vs = [.ref a] ∧ SqT K H a row ∧ row = .str w1 :: r ∧ formOf w1 = some form ∧ Q (targetOf row) H
theorem scTa : FnScope ["row"] ["row"] (defScope sTarget) := ⟨rfl, rfl, rfl, by decide +kernel, rfl, by decide +kernel, by decide +kernel⟩
theorem ok_target {f : Addr} {fd : FuncData} {k : Nat} (F : Fun K "target_of" "target_of" sTarget f fd) (T : TT K w mg aO aR dF es nF tF) : FnOk P w K mg base CX0 (k + 1) f fd ["row"] (spTarget K) := by
  refine F.ok scTa (fun vs H Q E h => ?_) (fun cdv A outer s H vs Q E hr h => ?_)
  · obtain ⟨a, row, w1, r, form, rfl, _⟩ := h
    rfl
  · obtain ⟨a, row, w1, r, form, rfl, hS, rfl, hf, q⟩ := h
    refine ⟨_, pss_one (ps_ret (pe_ifExp (pt_cmpR op_in_seq pe_str (pe_ix ix_kdict (pe_glob rfl T.gF (v := .ref dF) rfl) (pe_ix ix_tup (pv 0) pe_int (fun _ _ => rfl)) (fun _ _ => rfl)) (by rfl)) (pe_ix ix_tup (pv 0) (pe_un un_neg pe_int) (fun _ _ => rfl)) pe_non)), ?_⟩
    have lf := T.lF w1
    rw [hf] at lf
    have kt := T.tF w1 form hf
    refine ⟨.ref a, rfl, a, _, 0, _, rfl, rfl, hS, atI_nat (j := 0) rfl, dF, w1, .ref (tF w1), rfl, rfl, ⟨es, nF, .ref (tF w1), T.kF.at_, T.kF.lit, lf, rfl⟩, tF w1, _, rfl, .inr (kt.sq H), rfl, ?_, _, rfl, ?_⟩
    · rw [List.all_map]
      simp [flatV]
    rw [show (if false = true then !inV (V.str "to") (form.map V.str) else inV (V.str "to") (form.map V.str)) = form.contains "to" from inV_strs "to" form]
    refine ite2 (fun h => ?_) (fun h => ?_)
    · obtain ⟨v, hv⟩ : ∃ v, (V.str w1 :: r)[(V.str w1 :: r).length - 1]? = some v := ⟨_, List.getElem?_eq_getElem (by simp)⟩
      have ea : atI (V.str w1 :: r) (-1) = some v := by
        unfold atI ixN
        rw [if_neg (by decide), if_pos (by rw [List.length_cons]; omega)]
        show (V.str w1 :: r)[(-1 + ((V.str w1 :: r).length : Int)).toNat]? = some v
        rw [← hv]
        congr 1
        omega
      refine ⟨.ref a, rfl, _, rfl, a, _, -1, v, rfl, rfl, hS, ea, ?_⟩
      have e : targetOf (V.str w1 :: r) = v := by
        simp only [targetOf, hf]
        show (if form.contains "to" = true then (V.str w1 :: r).getLast?.getD .non else .non) = v
        rw [if_pos h, List.getLast?_eq_getElem?, hv]
        rfl
      rw [e] at q
      exact q
    · have e : targetOf (V.str w1 :: r) = .non := by
        simp only [targetOf, hf]
        show (if form.contains "to" = true then (V.str w1 :: r).getLast?.getD .non else .non) = .non
        rw [if_neg h]
      rw [e] at q
      exact q
end
end TX

set_option Elab.async false
set_option linter.all false
set_option maxRecDepth 100000
set_option maxHeartbeats 4000000
/-! tuple(d), d a dict: a new tuple of its keys. -/
namespace FS
open PySem PySem.Calls PySem.Spec PyProof.Rows L2
section
variable {prog : Program} {w : World} {A : Around} {E : Value → Shared → Prop} {s : Shared} {T : String} {r d : Addr} {n : Nat} {P : Nat → Value → Prop} {OK : Heap → Prop}
theorem code_tupS {Q₁ : Value → Shared → Prop} (K : PySem.W.KdlSrc prog w T r d n P OK) (hh : A.handled = none) (hok : OK s.heap) (hn : n ≤ sizeLine)
    (h : ∀ (h' : Heap) (tk : Nat) (acc : Array Value), (∀ b o, s.heap.get? b = some o → h'.get? b = some o) → ItemsOf P acc n → Q₁ (.ref h'.objs.size) { s with heap := h'.push { cls := .type "tuple", data := .seq acc }, toks := tk }) :
    codeAny (model prog w) A (.call (.builtin "tuple.__new__") ⟨[.type "tuple", .ref r], []⟩) (wants Q₁ E) s := by
  refine codeAny_of_tree ?_
  show wpAny _ A.in1 (do checkBuiltinCall "tuple.__new__" ⟨[.type "tuple", .ref r], []⟩; again (.builtin "tuple.__new__" ⟨[.type "tuple", .ref r], []⟩)) _ _ s
  refine wpAny_bind (wpAny_of_eq (F.newCall_tuple_1 _) (wpAny_pure ⟨plainId_quiet F.plain_tuple_new _, codeAny_builtin F.entry_tuple_new ?_⟩))
  rw [Around.under_plainId F.plain_tuple_new _]
  have hsub := sub_tuple_self
  have hinit := init_tuple_lookup
  have hmh := madeHere_tuple
  have hTI : s.TypeIs (.ref r) T := K.type s hok
  have hnt := K.notTuple
  have hnl := K.notList
  have hh1 : A.in1.handled = none := hh
  wp_walk using wpAny_typeOf hTI, PySem.W.kdu_collect (A := A.in1) K hh1 hok hn
  intro h' tk acc hk hacc
  show wpAny _ _ (Builtin.Tuple.tupleExact acc.toList.toArray >>= fun v => ret v) _ _ _
  unfold Builtin.Tuple.tupleExact
  refine wpAny_bind (wpAny_newObj_type ?_ (by show acc.toList.toArray.size ≤ sizeLine; simp only [Array.toArray_toList]; rw [hacc.1]; exact hn))
  refine wpAny_pure ?_
  have e : acc.toList.toArray = acc := by simp
  rw [e]
  exact h h' tk acc hk hacc
theorem call_tupS {Q : Value → Shared → Prop} (K : PySem.W.KdlSrc prog w T r d n P OK) (hh : A.handled = none) (hok : OK s.heap) (hn : n ≤ sizeLine)
    (h : ∀ (h' : Heap) (tk : Nat) (acc : Array Value), (∀ b o, s.heap.get? b = some o → h'.get? b = some o) → ItemsOf P acc n → Q (.ref h'.objs.size) { s with heap := h'.push { cls := .type "tuple", data := .seq acc }, toks := tk }) :
    wpAny (model prog w) A (call (.type "tuple") [.ref r]) Q E s := by
  refine callType_codes (Q₁ := fun obj s₁ => s₁.TypeIs obj "tuple" ∧ Q obj s₁) F.called_tuple (F.typeCall_tuple_1 _) F.entry_object_init
    (code_tupS (A := A.in1) K hh hok hn fun h' tk acc hk hacc => ⟨⟨_, Heap.get?_push_size _ rfl, rfl⟩, h h' tk acc hk hacc⟩) fun obj s₁ h₁ => ?_
  exact ⟨h₁.1, F.args_object_init_2 obj _, object_init_meets F.called_tuple.init.lookup F.called_tuple.made (by decide) prog w A.in1 _ s₁ ⟨h₁.1, rfl, h₁.2⟩⟩
end
def rTupD : List V → Hp → VK → Prop := fun xs H Q => ∃ p kvs, xs = [.ref p] ∧ H p = some (.dK kvs) ∧ ∀ q, H q = none → Q (.ref q) (upd H q (.tup (kvs.map fun kv => kV kv.1)))
theorem call_tuple_dK {X : Cx} (hc : X.calm = true) : CallR X (.type "tuple") rTupD := by
  intro pins s σ H xs us Q I r h
  obtain ⟨p, kvs, e, hk, q⟩ := h
  subst e
  obtain ⟨u, eu, rx⟩ := vals1 r
  subst eu
  obtain rfl : u = Value.ref p := rx
  obtain ⟨z, lo, vs, rk, hd⟩ := (show ObjOk X.prog X.w H s.heap p (.dK kvs) from I.hok p _ hk)
  obtain ⟨ep, hat⟩ := hd.dictAt
  have hl : kvs.length = vs.length := Paired.length rk
  refine call_tupS (PySem.W.kdl_dict (knd := mixKind X.prog X.w) (kvs := vs) (ep := ep) lo) (I.ok.hd hc) hat (by rw [← hl]; exact z) fun h' tk acc' hkeep hacc => ?_
  have I2 : Inv X pins σ H { s with heap := h', toks := tk } := I.kept hkeep
  refine ⟨.ref h'.objs.size, upd H h'.objs.size (.tup (kvs.map fun kv => kV kv.1)), I2.laid (t' := tk) (fun c o e => Heap.get?_push_of_some _ e) (Nat.le_refl _) (show ObjOk X.prog X.w _ _ _ (.tup (kvs.map fun kv => kV kv.1)) from ⟨?_, acc'.toList, ?_, ?_⟩), rfl, q _ (I2.hok.fresh (Nat.le_refl _))⟩
  · rw [List.length_map]; exact z
  · have el : acc'.toList.length = acc'.size := by simp
    refine vals_of_at (by rw [List.length_map, el, hacc.1, hl]) fun j x w h1 h2 => ?_
    obtain ⟨k, y, hky, hi⟩ := hacc.2 j w (by rw [← Array.getElem?_toList]; exact h2)
    have e1 : (kvs.map (·.1))[j]? = some k := by
      rw [KV.keys rk, List.getElem?_map, hky] <;> rfl
    have e2 : (kvs.map fun kv => kV kv.1)[j]? = some (kV k) := by
      have e3 : (kvs.map fun kv => kV kv.1) = (kvs.map (·.1)).map kV := by rw [List.map_map] <;> rfl
      rw [e3, List.getElem?_map, e1] <;> rfl
    rw [e2] at h1
    cases h1
    exact keyIs_rel hi
  · rw [Array.toArray_toList]; exact IsTup.new _ _
end FS

set_option Elab.async false
set_option linter.all false
set_option maxRecDepth 100000
set_option maxHeartbeats 4000000
/-! o.f as one of several targets. -/
namespace FS
open PySem PySem.Calls PySem.Spec PyProof.Rows L2
section
variable {X : Cx} {o : Expr} {to : TE} {f : Str} {pos : Pos}
def gFld (K : PySem.W.Frag) (to : TE) (f : Str) : TG := fun v σ H Q => to σ H fun x H2 => ∃ a C dx fs, x = .ref a ∧ H2 a = some (.ins C dx fs) ∧ Cls K C ∧ NoAttr K C f ∧ fs.length < 1000 ∧ Q σ (upd H2 a (.ins C dx (putF f v fs)))
theorem pg_fld (ho : PE X o to) : PG X (.Attribute o f pos) (gFld X.K to f) := by
  refine ⟨fun pins s σ H v u Q I r h => ?_⟩
  rw [PySem.assign_Attribute]
  refine wpAny_bind (wpAny_holding (thn (ho.run pins s σ H _ I h) fun ov s1 ⟨x, H1, I1, r1, a, C, dx, fs, ex, ea, c, n, l, q⟩ => ?_))
  subst ex
  obtain rfl : ov = Value.ref a := r1
  refine wpAny_bind (wpAny_standAt (wpAny_bind (wpAny_holding (setattr_ok (I1.tok _) ea c n l r fun s3 I3 => ?_))))
  exact wpAny_release ⟨σ, _, I3, q⟩
end
def f3 (a b c : V) : List (Str × V) := [("pieces", a), ("kind", b), ("rows", c)]
def f2 (a b : V) : List (Str × V) := [("pieces", a), ("kind", b)]
theorem l1 (a b c : V) : (f3 a b c).lookup ("kind" : Str) = some b := by rfl
theorem l2 (a b c : V) : putF "kind" c (f3 a b c) = f3 a c c := by rfl
theorem l3 (a b c : V) : putF "rows" c (f2 a b) = f3 a b c := by rfl
end FS

set_option Elab.async false
set_option linter.all false
set_option maxRecDepth 100000
set_option maxHeartbeats 4000000
/-! A text, row by row: the mirror; what a draft looks like in memory. -/
namespace TX
open PySem PySem.Spec PyProof.Rows L2 L2.FK FS
/-! ### the mirror -/
/-- a row of a piece -/
inductive MR where
  | ins (xs : List V)
  | dat (v : V)
structure MP where
  name : Str
  kind : Str
  rows : List MR
/-- the piece that is open -/
structure OP where
  kind : Str
  name : Str
  start : Int
  rows : List MR
structure ST where
  ps : List MP
  ex : List Str
  al : List (Str × Str)
  nm : List Str
  op : Option OP
def st0 : ST := ⟨[], [], [], [], none⟩
def takeName (z : Str) (st : ST) : Option ST := if isName z && !st.nm.contains z then some { st with nm := st.nm ++ [z] } else none
def exportsGo : List Str → ST → Option ST
  | [], st => some st
  | z :: r, st => if isName z && !st.ex.contains z then exportsGo r { st with ex := st.ex ++ [z] } else none
def takeExports (ws : List Str) (st : ST) : Option ST := if ws.length = 0 then none else exportsGo ws st
def takeAlias (ws : List Str) (st : ST) : Option ST := match ws with
  | [x, y] => if isName y then (takeName x st).map fun s => { s with al := s.al ++ [(x, y)] } else none
  | _ => none
def openPiece (num : Int) (ws : List Str) (st : ST) : Option ST := match ws with
  | [k, n] => if st.ps.length = 12 then none else (takeName n st).map fun s => { s with op := some ⟨k, n, num + 1, []⟩ }
  | _ => none
def takeBetween (num : Int) (ws : List Str) (st : ST) : Option ST := match ws with
  | [] => none
  | w :: r => if w = "export" then takeExports r st else if w = "alias" then takeAlias r st else if w = "func" ∨ w = "data" then openPiece num (w :: r) st else none
/-- the row that words make in a piece of this kind -/
def rowOf (k : Str) (ws : List Str) : Option MR := if k = "func" then (readIns ws).map .ins else if readDat ws = .non then none else some (.dat (readDat ws))
def takeWithin (ws : List Str) (op : OP) (st : ST) : Option ST := match rowOf op.kind ws with
  | none => none
  | some r => if op.rows.length = 16 then none else some { st with op := some { op with rows := op.rows ++ [r] } }
def tooGreat (n : Nat) : MR → Bool
  | .ins xs => (match targetOf xs with | .int t => decide ((n : Int) < t) | _ => false)
  | .dat _ => false
/-- the first row whose target is too great -/
def badFrom (n : Nat) : List MR → Int → Option Int
  | [], _ => none
  | r :: rs, i => if tooGreat n r then some i else badFrom n rs (i + 1)
def closePiece (op : OP) (st : ST) : Except Int ST :=
  match (if op.kind = "func" then badFrom op.rows.length op.rows 0 else none) with
  | some i => .error (op.start + i)
  | none => .ok { st with ps := st.ps ++ [⟨op.name, op.kind, op.rows⟩], op := none }
def takeRow (num : Int) (ws : List Str) (st : ST) : Except Int ST := match st.op with
  | none => (match takeBetween num ws st with | some s => .ok s | none => .error num)
  | some op => if ws = [("end" : Str)] then closePiece op st else (match takeWithin ws op st with | some s => .ok s | none => .error num)
def parseRows : List (List Str) → Int → ST → Except Int ST
  | [], _, st => .ok st
  | ws :: r, i, st => match takeRow i ws st with
    | .error e => .error e
    | .ok st' => parseRows r (i + 1) st'
def parseT (t : Str) : Except Int ST := match parseRows (rowsOf t) 0 st0 with
  | .error e => .error e
  | .ok st => if st.op.isSome then .error ((rowsOf t).length : Int) else .ok st
/-! ### in memory -/
/-- tuples and the instances of the class at CP stay as they are -/
def Fix (CP : Addr) (H H' : Hp) : Prop := (∀ q xs, H q = some (.tup xs) → H' q = some (.tup xs)) ∧ ∀ q dx fs, H q = some (.ins CP dx fs) → H' q = some (.ins CP dx fs)
theorem Fix.of {CP : Addr} {H H' : Hp} (s : Same H H') : Fix CP H H' := ⟨fun q xs e => s _ _ e, fun q dx fs e => s _ _ e⟩
theorem Fix.trans {CP : Addr} {H H1 H2 : Hp} (a : Fix CP H H1) (b : Fix CP H1 H2) : Fix CP H H2 := ⟨fun q xs e => b.1 _ _ (a.1 _ _ e), fun q dx fs e => b.2 _ _ _ (a.2 _ _ _ e)⟩
theorem Fix.lst {CP a : Addr} {H : Hp} {xs : List V} {o : HO} (h : H a = some (.lst xs)) : Fix CP H (upd H a o) :=
  ⟨fun q ys e => by rw [upd_ne (ne_of e h (by intro z; cases z))]; exact e, fun q dx fs e => by rw [upd_ne (ne_of e h (by intro z; cases z))]; exact e⟩
theorem Fix.dK {CP a : Addr} {H : Hp} {xs : List (Key × V)} {o : HO} (h : H a = some (.dK xs)) : Fix CP H (upd H a o) :=
  ⟨fun q ys e => by rw [upd_ne (ne_of e h (by intro z; cases z))]; exact e, fun q dx fs e => by rw [upd_ne (ne_of e h (by intro z; cases z))]; exact e⟩
theorem Fix.ins {CP C a dx : Addr} {H : Hp} {fs : List (Str × V)} {o : HO} (h : H a = some (.ins C dx fs)) (ne : CP ≠ C) : Fix CP H (upd H a o) :=
  ⟨fun q ys e => by rw [upd_ne (ne_of e h (by intro z; cases z))]; exact e, fun q dx fs e => by rw [upd_ne (ne_of e h (by intro z; cases z; exact ne rfl))]; exact e⟩
def RowAt (H : Hp) : MR → V → Prop
  | .ins xs, v => ∃ q, v = .ref q ∧ H q = some (.tup xs)
  | .dat d, v => v = d
theorem RowAt.mono {CP : Addr} {H H' : Hp} (f : Fix CP H H') {r : MR} {v : V} (h : RowAt H r v) : RowAt H' r v := by
  cases r with
  | ins xs => obtain ⟨q, e1, e2⟩ := h; exact ⟨q, e1, f.1 _ _ e2⟩
  | dat d => exact h
def pflds (p : MP) (t : Addr) : List (Str × V) := [("name", .str p.name), ("kind", .str p.kind), ("rows", .ref t)]
def PieceAt (CP : Addr) (H : Hp) (p : MP) (v : V) : Prop := ∃ q dx t vs, v = .ref q ∧ H q = some (.ins CP dx (pflds p t)) ∧ H t = some (.tup vs) ∧ Paired (RowAt H) p.rows vs
theorem pair_mono {α : Type} {R R' : α → V → Prop} (f : ∀ x v, R x v → R' x v) : ∀ {xs : List α} {vs : List V}, Paired R xs vs → Paired R' xs vs
  | _, _, .nil => .nil
  | _, _, .cons h t => .cons (f _ _ h) (pair_mono f t)
theorem pair_snoc {α : Type} {R : α → V → Prop} {x : α} {v : V} : ∀ {xs : List α} {vs : List V}, Paired R xs vs → R x v → Paired R (xs ++ [x]) (vs ++ [v])
  | _, _, .nil, h => .cons h .nil
  | _, _, .cons a t, h => .cons a (pair_snoc t h)
theorem PieceAt.mono {CP : Addr} {H H' : Hp} (f : Fix CP H H') {p : MP} {v : V} (h : PieceAt CP H p v) : PieceAt CP H' p v := by
  obtain ⟨q, dx, t, vs, e1, e2, e3, r⟩ := h
  exact ⟨q, dx, t, vs, e1, f.2 _ _ _ e2, f.1 _ _ e3, pair_mono (fun _ _ h => h.mono f) r⟩
def AliAt (H : Hp) (p : Str × Str) (v : V) : Prop := ∃ q, v = .ref q ∧ H q = some (.tup [.str p.1, .str p.2])
theorem AliAt.mono {CP : Addr} {H H' : Hp} (f : Fix CP H H') {p : Str × Str} {v : V} (h : AliAt H p v) : AliAt H' p v := by
  obtain ⟨q, e1, e2⟩ := h
  exact ⟨q, e1, f.1 _ _ e2⟩
/-- a dict of names, each with True -/
def dk (zs : List Str) : List (Key × V) := zs.map fun z => (Sum.inr z, .bl true)
theorem dk_val (z : Str) : ∀ zs : List Str, (valV (dk zs) (Sum.inr z : Key)).isSome = zs.contains z
  | [] => rfl
  | y :: r => by
    by_cases e : y = z
    · subst e
      rw [show dk (y :: r) = ((Sum.inr y : Key), V.bl true) :: dk r from rfl, valV_pos rfl]
      simp
    · have ne : ¬ (Sum.inr y : Key) = Sum.inr z := fun q => e (Sum.inr.inj q)
      rw [show dk (y :: r) = ((Sum.inr y : Key), V.bl true) :: dk r from rfl, valV_neg ne, dk_val z r, List.contains_cons]
      have : (z == y) = false := by simpa using fun q => e q.symm
      rw [this, Bool.false_or]
theorem dk_put {z : Str} {zs : List Str} (h : zs.contains z = false) : putK (dk zs) (Sum.inr z : Key) (V.bl true) = dk (zs ++ [z]) := by
  have e : valV (dk zs) (Sum.inr z : Key) = none := by
    have := dk_val z zs
    rw [h] at this
    cases q : valV (dk zs) (Sum.inr z : Key) with
    | none => rfl
    | some v => rw [q] at this; cases this
  rw [putK_new _ e]
  show _ = (zs ++ [z]).map _
  rw [List.map_append]
  rfl
theorem dk_len (zs : List Str) : (dk zs).length = zs.length := List.length_map ..
/-- a draft's places: itself, its lists and dicts, the rows of the piece that is open -/
structure AD where
  p : Addr
  dp : Addr
  de : Addr
  da : Addr
  dn : Addr
  dr : Option Addr
def Foot (A : AD) (b : Addr) : Prop := b = A.p ∨ b = A.dp ∨ b = A.de ∨ b = A.da ∨ b = A.dn ∨ A.dr = some b
def dflds (A : AD) (k n s r : V) : List (Str × V) := [("pieces", .ref A.dp), ("exports", .ref A.de), ("aliases", .ref A.da), ("named", .ref A.dn), ("kind", k), ("name", n), ("start", s), ("rows", r)]
def OpAt (H : Hp) (A : AD) (k n s r : V) : Option OP → Prop
  | none => k = .non ∧ A.dr = none
  | some o => k = .str o.kind ∧ n = .str o.name ∧ s = .int o.start ∧ ∃ dr ws, A.dr = some dr ∧ r = .ref dr ∧ H dr = some (.lst ws) ∧ Paired (RowAt H) o.rows ws ∧ dr ≠ A.dp ∧ dr ≠ A.da
structure DAt (CD CP : Addr) (A : AD) (H : Hp) (st : ST) : Prop where
  ob : ∃ dx k n s r, H A.p = some (.ins CD dx (dflds A k n s r)) ∧ OpAt H A k n s r st.op
  dp : ∃ vs, H A.dp = some (.lst vs) ∧ Paired (PieceAt CP H) st.ps vs
  de : H A.de = some (.dK (dk st.ex))
  da : ∃ vs, H A.da = some (.lst vs) ∧ Paired (AliAt H) st.al vs
  dn : H A.dn = some (.dK (dk st.nm))
  n1 : A.dp ≠ A.da
  n2 : A.de ≠ A.dn
/-- all but the draft as it was -/
def Kept (A : AD) (H H' : Hp) : Prop := ∀ b o, H b = some o → ¬ Foot A b → H' b = some o
theorem Kept.of {A : AD} {H H' : Hp} (s : Same H H') : Kept A H H' := fun b o e _ => s b o e
theorem Kept.upd {A : AD} {H : Hp} {a : Addr} {o : HO} (h : Foot A a) : Kept A H (upd H a o) := fun b x e n => by
  rw [upd_ne (fun z => n (by rw [z]; exact h))]
  exact e
theorem Kept.trans {A : AD} {H H1 H2 : Hp} (a : Kept A H H1) (b : Kept A H1 H2) : Kept A H H2 := fun c o e n => b c o (a c o e n) n
/-- the draft's places later: the rows' place may be new -/
def Next (H : Hp) (A A' : AD) : Prop := A'.p = A.p ∧ A'.dp = A.dp ∧ A'.de = A.de ∧ A'.da = A.da ∧ A'.dn = A.dn ∧ ∀ b, A'.dr = some b → A.dr = some b ∨ H b = none
theorem Next.same (H : Hp) (A : AD) : Next H A A := ⟨rfl, rfl, rfl, rfl, rfl, fun b h => .inl h⟩
theorem Next.foot {H : Hp} {A A' : AD} (h : Next H A A') {b : Addr} {o : HO} (e : H b = some o) (n : ¬ Foot A b) : ¬ Foot A' b := by
  obtain ⟨h1, h2, h3, h4, h5, h6⟩ := h
  intro f
  apply n
  unfold Foot at f ⊢
  rw [h1, h2, h3, h4, h5] at f
  rcases f with f | f | f | f | f | f
  · exact .inl f
  · exact .inr (.inl f)
  · exact .inr (.inr (.inl f))
  · exact .inr (.inr (.inr (.inl f)))
  · exact .inr (.inr (.inr (.inr (.inl f))))
  · rcases h6 b f with q | q
    · exact .inr (.inr (.inr (.inr (.inr q))))
    · rw [q] at e; cases e
theorem OpAt.mono {CP : Addr} {H H' : Hp} {A : AD} {k n s r : V} {op : Option OP} (f : Fix CP H H') (hd : ∀ b ws, A.dr = some b → H b = some (.lst ws) → H' b = some (.lst ws)) (h : OpAt H A k n s r op) : OpAt H' A k n s r op := by
  cases op with
  | none => exact h
  | some o =>
    obtain ⟨e1, e2, e3, dr, ws, e4, e5, e6, e7, e8⟩ := h
    exact ⟨e1, e2, e3, dr, ws, e4, e5, hd _ _ e4 e6, pair_mono (fun _ _ h => h.mono f) e7, e8⟩
theorem DAt.mono {CD CP : Addr} {A : AD} {H H' : Hp} {st : ST} (s : Same H H') (h : DAt CD CP A H st) : DAt CD CP A H' st := by
  obtain ⟨dx, k, n, x, r, e1, e2⟩ := h.ob
  obtain ⟨vs, e3, e4⟩ := h.dp
  obtain ⟨us, e5, e6⟩ := h.da
  have f : Fix CP H H' := Fix.of s
  exact ⟨⟨dx, k, n, x, r, s _ _ e1, e2.mono f fun b ws _ e => s _ _ e⟩, ⟨vs, s _ _ e3, pair_mono (fun _ _ h => h.mono f) e4⟩, s _ _ h.de, ⟨us, s _ _ e5, pair_mono (fun _ _ h => h.mono f) e6⟩, s _ _ h.dn, h.n1, h.n2⟩
/-- a name more -/
theorem DAt.put_nm {CD CP : Addr} {A : AD} {H : Hp} {st : ST} {z : Str} (h : DAt CD CP A H st) : DAt CD CP A (upd H A.dn (.dK (dk (st.nm ++ [z])))) { st with nm := st.nm ++ [z] } := by
  obtain ⟨dx, k, n, x, r, e1, e2⟩ := h.ob
  obtain ⟨vs, e3, e4⟩ := h.dp
  obtain ⟨us, e5, e6⟩ := h.da
  have f : Fix CP H (upd H A.dn (.dK (dk (st.nm ++ [z])))) := Fix.dK h.dn
  exact ⟨⟨dx, k, n, x, r, by rw [upd_ne (ne_of e1 h.dn (by intro z; cases z))]; exact e1, e2.mono f fun b ws _ e => by rw [upd_ne (ne_of e h.dn (by intro z; cases z))]; exact e⟩,
    ⟨vs, by rw [upd_ne (ne_of e3 h.dn (by intro z; cases z))]; exact e3, pair_mono (fun _ _ h => h.mono f) e4⟩, by rw [upd_ne h.n2]; exact h.de,
    ⟨us, by rw [upd_ne (ne_of e5 h.dn (by intro z; cases z))]; exact e5, pair_mono (fun _ _ h => h.mono f) e6⟩, upd_same, h.n1, h.n2⟩
theorem DAt.put_ex {CD CP : Addr} {A : AD} {H : Hp} {st : ST} {z : Str} (h : DAt CD CP A H st) : DAt CD CP A (upd H A.de (.dK (dk (st.ex ++ [z])))) { st with ex := st.ex ++ [z] } := by
  obtain ⟨dx, k, n, x, r, e1, e2⟩ := h.ob
  obtain ⟨vs, e3, e4⟩ := h.dp
  obtain ⟨us, e5, e6⟩ := h.da
  have f : Fix CP H (upd H A.de (.dK (dk (st.ex ++ [z])))) := Fix.dK h.de
  exact ⟨⟨dx, k, n, x, r, by rw [upd_ne (ne_of e1 h.de (by intro z; cases z))]; exact e1, e2.mono f fun b ws _ e => by rw [upd_ne (ne_of e h.de (by intro z; cases z))]; exact e⟩,
    ⟨vs, by rw [upd_ne (ne_of e3 h.de (by intro z; cases z))]; exact e3, pair_mono (fun _ _ h => h.mono f) e4⟩, upd_same,
    ⟨us, by rw [upd_ne (ne_of e5 h.de (by intro z; cases z))]; exact e5, pair_mono (fun _ _ h => h.mono f) e6⟩, by rw [upd_ne h.n2.symm]; exact h.dn, h.n1, h.n2⟩
/-- an alias more, its tuple at v -/
theorem DAt.put_al {CD CP : Addr} {A : AD} {H : Hp} {st : ST} {us : List V} {v : V} {p : Str × Str} (h : DAt CD CP A H st) (e5 : H A.da = some (.lst us)) (e6 : Paired (AliAt H) st.al us) (hv : AliAt H p v) :
    DAt CD CP A (upd H A.da (.lst (us ++ [v]))) { st with al := st.al ++ [p] } := by
  obtain ⟨dx, k, n, x, r, e1, e2⟩ := h.ob
  obtain ⟨vs, e3, e4⟩ := h.dp
  have f : Fix CP H (upd H A.da (.lst (us ++ [v]))) := Fix.lst e5
  refine ⟨⟨dx, k, n, x, r, by rw [upd_ne (ne_of e1 e5 (by intro z; cases z))]; exact e1, e2.mono f fun b ws eb e => ?_⟩,
    ⟨vs, by rw [upd_ne h.n1]; exact e3, pair_mono (fun _ _ h => h.mono f) e4⟩, by rw [upd_ne (ne_of h.de e5 (by intro z; cases z))]; exact h.de,
    ⟨_, upd_same, pair_mono (fun _ _ h => h.mono f) (pair_snoc e6 hv)⟩, by rw [upd_ne (ne_of h.dn e5 (by intro z; cases z))]; exact h.dn, h.n1, h.n2⟩
  cases ho : st.op with
  | none =>
    rw [ho] at e2
    rw [e2.2] at eb
    cases eb
  | some o =>
    rw [ho] at e2
    obtain ⟨_, _, _, dr, ws', q4, q5, q6, q7, q8, q9⟩ := e2
    rw [q4] at eb
    cases eb
    rw [upd_ne q9]
    exact e
end TX

set_option Elab.async false
set_option linter.all false
set_option maxRecDepth 100000
set_option maxHeartbeats 4000000
/-! The draft's methods that take names. -/
namespace TX
open PySem PySem.Spec PyProof.Rows L2 L2.FK FS
abbrev sDraft (j : Nat) : Stmt := inClass (top (TX.o + 12)) j
structure TC (K : PySem.W.Frag) (CD CP : Addr) : Prop where
  cD : Cls K CD
  nPieces : NoAttr K CD "pieces"
  nExports : NoAttr K CD "exports"
  nAliases : NoAttr K CD "aliases"
  nNamed : NoAttr K CD "named"
  nKind : NoAttr K CD "kind"
  nName : NoAttr K CD "name"
  nStart : NoAttr K CD "start"
  nRows : NoAttr K CD "rows"
  cP : Cls K CP
  pName : NoAttr K CP "name"
  pKind : NoAttr K CP "kind"
  pRows : NoAttr K CP "rows"
  ne : CP ≠ CD
theorem Kept.next {A A1 : AD} {H H1 H2 : Hp} (a : Kept A H H1) (n : Next H A A1) (b : Kept A1 H1 H2) : Kept A H H2 := fun c o e f => b c o (a c o e f) (n.foot e f)
theorem Next.trans {CD CP : Addr} {A A1 A2 : AD} {H H1 : Hp} {st : ST} (k : Kept A H H1) (a : Next H A A1) (d : DAt CD CP A1 H1 st) (b : Next H1 A1 A2) : Next H A A2 := by
  obtain ⟨h1, h2, h3, h4, h5, h6⟩ := a
  obtain ⟨k1, k2, k3, k4, k5, k6⟩ := b
  refine ⟨k1.trans h1, k2.trans h2, k3.trans h3, k4.trans h4, k5.trans h5, fun c hc => ?_⟩
  rcases k6 c hc with q | q
  · exact h6 c q
  · cases e : H c with
    | none => exact .inr rfl
    | some x =>
      by_cases f : Foot A c
      · unfold Foot at f
        obtain ⟨dx, kk, nn, x2, r, e1, _⟩ := d.ob
        obtain ⟨vs, e3, _⟩ := d.dp
        obtain ⟨us, e5, _⟩ := d.da
        rcases f with f | f | f | f | f | f
        · rw [f, ← h1, e1] at q; cases q
        · rw [f, ← h2, e3] at q; cases q
        · rw [f, ← h3, d.de] at q; cases q
        · rw [f, ← h4, e5] at q; cases q
        · rw [f, ← h5, d.dn] at q; cases q
        · exact .inl f
      · rw [k c x e f] at q; cases q
/-- what a method that takes something hands back -/
def Res (CD CP : Addr) (A : AD) (H : Hp) (r : Option ST) (Q : VK) : Prop :=
  (r = none → ∀ H', Kept A H H' → Q (.bl false) H') ∧ ∀ st', r = some st' → ∀ H' A', Kept A H H' → Next H A A' → DAt CD CP A' H' st' → Q (.bl true) H'
theorem Res.of {CD CP : Addr} {A : AD} {H : Hp} {r r' : Option ST} {Q : VK} (h : Res CD CP A H r Q) (e : r = r') : Res CD CP A H r' Q := e ▸ h
theorem Res.here {CD CP : Addr} {A : AD} {H H1 : Hp} {r : Option ST} {Q : VK} (h : Res CD CP A H r Q) (s : Same H H1) : Res CD CP A H1 r Q :=
  ⟨fun e H' k => h.1 e H' ((Kept.of s).trans k), fun st' e H' A' k n d => h.2 st' e H' A' ((Kept.of s).trans k) ⟨n.1, n.2.1, n.2.2.1, n.2.2.2.1, n.2.2.2.2.1, fun b hb => (n.2.2.2.2.2 b hb).imp id fun q => by
    cases e : H b with
    | none => rfl
    | some o => rw [s b o e] at q; cases q⟩ d⟩
section
variable {P : Program} {w : World} {K : PySem.W.Frag} {mg : Str → Option Value} {base : Heap} {aO aR dF CD CP : Addr} {es : Array DictEntry} {nF : Nat} {tF : Str → Addr}
/-! ### take_name -/
def spTakeName (CD CP : Addr) : Sp := fun vs H Q _ => ∃ A st z, vs = [.ref A.p, .str z] ∧ DAt CD CP A H st ∧ Wd z ∧ st.nm.length < sizeLine ∧ Res CD CP A H (takeName z st) Q
theorem scTN : FnScope ["self", "name"] ["self", "name"] (defScope (sDraft 5)) := ⟨rfl, rfl, rfl, by decide +kernel, rfl, by decide +kernel, by decide +kernel⟩
theorem ok_takeName {f fN : Addr} {fd fdN : FuncData} (F : Fun K "take_name" "Draft.take_name" (sDraft 5) f fd) (T : TC K CD CP)
    (GN : FnOk P w K mg base CX0 1 fN fdN ["value"] (spIsName K)) (bN : Binds K fdN ["value"] []) (gN : mg "is_name" = some (.ref fN)) (kN : PySem.W.keepIn K (.ref fN) = true) : FnOk P w K mg base CX0 2 f fd ["self", "name"] (spTakeName CD CP) := by
  refine F.ok scTN (fun vs H Q E h => ?_) (fun cdv A0 outer s H vs Q E hr h => ?_)
  · obtain ⟨A, st, z, rfl, _⟩ := h
    rfl
  · obtain ⟨A, st, z, rfl, D, hz, hl, q0, q1⟩ := h
    have hu := hu_of hr
    refine ⟨_, pss_cons (ps_if (PW.pt (pw_or (pt_not (pt_val (pe_call GN hr rfl gN kN bN .nil pass0 (pa_cons (pv 1) pa_nil)))) (pw_or1 (pt_cmp (pc_din hu (pv 1) (pe_fld (pv 0) rfl)))))) (pss_one (ps_ret pe_bl)) pss_nil)
      (pss_cons (ps_dput hu (pe_fld (pv 0) rfl) (pv 1) pe_bl rfl) (pss_one (ps_ret pe_bl))), ?_⟩
    refine ⟨.str z, rfl, .str z, rfl, .inl ⟨z, rfl, hz, fun H1 s1 => ⟨_, rfl, ?_⟩⟩⟩
    have D1 := D.mono s1
    obtain ⟨dx, k, n, x, r, e1, e2⟩ := D1.ob
    cases hn : isName z with
    | false =>
      refine iteT (iteT (q0 ?_ H1 (Kept.of s1)))
      unfold takeName
      rw [hn]
      rfl
    | true =>
      refine iteF ⟨.str z, rfl, .ref A.p, rfl, A.p, CD, dx, _, .ref A.dn, rfl, e1, T.cD, T.nNamed, rfl, A.dn, _, rfl, DGet.k (k := Sum.inr z) D1.dn, _, rfl, ?_⟩
      rw [dk_val]
      cases hc : st.nm.contains z with
      | true =>
        refine iteT (q0 ?_ H1 (Kept.of s1))
        unfold takeName
        rw [hn, hc]
        rfl
      | false =>
        refine iteF ⟨.ref A.p, rfl, A.p, CD, dx, _, .ref A.dn, rfl, e1, T.cD, T.nNamed, rfl, .str z, rfl, A.dn, _, rfl, DPut.k (k := Sum.inr z) D1.dn (by rw [dk_len]; exact hl), ?_⟩
        have e : putK (dk st.nm) (Sum.inr z : Key) (V.bl true) = dk (st.nm ++ [z]) := dk_put hc
        refine q1 _ ?_ _ A ((Kept.of s1).trans (Kept.upd (.inr (.inr (.inr (.inr (.inl rfl))))))) (Next.same _ _) (by rw [e]; exact D1.put_nm)
        unfold takeName
        rw [hn, hc]
        rfl
/-! ### take_exports -/
def spTakeExports (CD CP : Addr) : Sp := fun vs H Q _ => ∃ A st a, ∃ ws : List Str, vs = [.ref A.p, .ref a] ∧ DAt CD CP A H st ∧ H a = some (.lst (ws.map V.str)) ∧ ¬ Foot A a ∧ (∀ z ∈ ws, Wd z) ∧ st.ex.length + ws.length < sizeLine ∧ Res CD CP A H (takeExports ws st) Q
theorem scTE : FnScope ["self", "names", "name"] ["self", "names"] (defScope (sDraft 3)) := ⟨rfl, rfl, rfl, by decide +kernel, rfl, by decide +kernel, by decide +kernel⟩
theorem ok_takeExports {f fN : Addr} {fd fdN : FuncData} (F : Fun K "take_exports" "Draft.take_exports" (sDraft 3) f fd) (T : TC K CD CP) (zl : mg "len" = none)
    (GN : FnOk P w K mg base CX0 1 fN fdN ["value"] (spIsName K)) (bN : Binds K fdN ["value"] []) (gN : mg "is_name" = some (.ref fN)) (kN : PySem.W.keepIn K (.ref fN) = true) : FnOk P w K mg base CX0 2 f fd ["self", "names"] (spTakeExports CD CP) := by
  refine F.ok scTE (fun vs H Q E h => ?_) (fun cdv A0 outer s H vs Q E hr h => ?_)
  · obtain ⟨A, st, a, ws, rfl, _⟩ := h
    rfl
  · obtain ⟨A, st, a, ws, rfl, D, ha, na, hw, hl, q0, q1⟩ := h
    have hu := hu_of hr
    refine ⟨_, pss_cons (ps_for PassesOwn.never rfl (pi_list (pv 1)) (pg_name (i := 2) scTE.nd rfl (Or.inl rfl))
        (pss_cons (ps_if (PW.pt (pw_or (pt_not (pt_val (pe_call GN hr rfl gN kN bN .nil pass0 (pa_cons (pv 2) pa_nil)))) (pw_or1 (pt_cmp (pc_din hu (pv 2) (pe_fld (pv 0) rfl)))))) (pss_one (ps_ret pe_bl)) pss_nil)
          (pss_one (ps_dput hu (pe_fld (pv 0) rfl) (pv 2) pe_bl rfl))))
      (pss_one (ps_ret (pe_cmpR op_gt (pe_callB call_len_seq (by rfl) zl PySem.boot_len (pa_cons (pv 1) pa_nil)) pe_int (nomark _)))), ?_⟩
    refine ⟨_, rfl, a, rfl, ⟨_, SqL.of ha⟩, for_list (K := K) (a := a) (xs := ws.map V.str) (fun i σ H' => ∃ v, σ = [some (.ref A.p), some (.ref a), v] ∧ ∃ st', exportsGo (ws.drop i) st' = exportsGo ws st ∧ DAt CD CP A H' st' ∧ Kept A H H' ∧ st'.ex.length = st.ex.length + i)
      ⟨none, rfl, st, by rw [List.drop_zero], D, fun _ _ e _ => e, by omega⟩ (fun i σ H' _ ⟨_, _, st', _, _, k, _⟩ => SqL.of (k _ _ ha na)) ?_ ?_⟩
    · rintro i y σ H' hi ⟨v, rfl, st', eg, D', k', el⟩
      rw [List.getElem?_map] at hi
      obtain ⟨z, hz, rfl⟩ : ∃ z, ws[i]? = some z ∧ y = V.str z := by
        cases e : ws[i]? with
        | none => rw [e] at hi; cases hi
        | some z => rw [e] at hi; exact ⟨z, rfl, (Option.some.inj hi).symm⟩
      have hlt : i < ws.length := (List.getElem?_eq_some_iff.mp hz).1
      have ed : ws.drop i = z :: ws.drop (i + 1) := by
        rw [List.drop_eq_getElem_cons hlt]
        rw [(List.getElem?_eq_some_iff.mp hz).2]
      have hne : ws.length ≠ 0 := by omega
      refine ⟨_, rfl, .str z, rfl, .inl ⟨z, rfl, hw z (List.mem_of_getElem? hz), fun H1 s1 => ⟨_, rfl, ?_⟩⟩⟩
      have D1 := D'.mono s1
      obtain ⟨dx, k, n, x, r, e1, e2⟩ := D1.ob
      have no : (isName z && !st'.ex.contains z) = false → takeExports ws st = none := fun h => by
        unfold takeExports
        rw [if_neg hne, ← eg, ed]
        show (if (isName z && !st'.ex.contains z) = true then _ else none) = none
        rw [h, if_neg Bool.false_ne_true]
      have kk : Kept A H H1 := k'.trans (Kept.of s1)
      cases hn : isName z with
      | false =>
        refine iteT (iteT (q0 (no ?_) H1 kk))
        rw [hn]
        rfl
      | true =>
        refine iteF ⟨.str z, rfl, .ref A.p, rfl, A.p, CD, dx, _, .ref A.de, rfl, e1, T.cD, T.nExports, rfl, A.de, _, rfl, DGet.k (k := Sum.inr z) D1.de, _, rfl, ?_⟩
        rw [dk_val]
        cases hc : st'.ex.contains z with
        | true =>
          refine iteT (q0 (no ?_) H1 kk)
          rw [hn, hc]
          rfl
        | false =>
          refine iteF ⟨.ref A.p, rfl, A.p, CD, dx, _, .ref A.de, rfl, e1, T.cD, T.nExports, rfl, .str z, rfl, A.de, _, rfl, DPut.k (k := Sum.inr z) D1.de (by rw [dk_len]; omega), ?_⟩
          have e : putK (dk st'.ex) (Sum.inr z : Key) (V.bl true) = dk (st'.ex ++ [z]) := dk_put hc
          refine ⟨_, rfl, _, ?_, by rw [e]; exact D1.put_ex, kk.trans (Kept.upd (.inr (.inr (.inl rfl)))), by rw [List.length_append, el]; rfl⟩
          rw [← eg, ed]
          show _ = (if (isName z && !st'.ex.contains z) = true then _ else none)
          rw [hn, hc]
          rfl
    · rintro σ H' ⟨v, rfl, st', eg, D', k', el⟩
      rw [List.length_map, List.drop_length] at eg
      refine ⟨.ref a, rfl, a, _, rfl, .inl (SqL.of (k' _ _ ha na)), _, _, rfl, rfl, ?_⟩
      rw [List.length_map]
      by_cases hz : ws.length = 0
      · have e : decide ((0 : Int) < ((ws.length : Nat) : Int)) = false := decide_eq_false (by omega)
        show Q (.bl (decide ((0 : Int) < ((ws.length : Nat) : Int)))) H'
        rw [e]
        refine q0 ?_ H' k'
        unfold takeExports
        rw [if_pos hz]
      · have e : decide ((0 : Int) < ((ws.length : Nat) : Int)) = true := decide_eq_true (by omega)
        show Q (.bl (decide ((0 : Int) < ((ws.length : Nat) : Int)))) H'
        rw [e]
        refine q1 st' ?_ H' A k' (Next.same _ _) D'
        unfold takeExports
        rw [if_neg hz, ← eg]
        rfl
end
end TX

set_option Elab.async false
set_option linter.all false
set_option maxRecDepth 100000
set_option maxHeartbeats 4000000
/-! The draft's methods that take a row outside of pieces. -/
namespace TX
open PySem PySem.Spec PyProof.Rows L2 L2.FK FS
/-- a draft but for its own fields -/
structure DB (CD CP : Addr) (A : AD) (H : Hp) (st : ST) : Prop where
  pi : ∃ dx fs, H A.p = some (.ins CD dx fs)
  dp : ∃ vs, H A.dp = some (.lst vs) ∧ Paired (PieceAt CP H) st.ps vs
  de : H A.de = some (.dK (dk st.ex))
  da : ∃ vs, H A.da = some (.lst vs) ∧ Paired (AliAt H) st.al vs
  dn : H A.dn = some (.dK (dk st.nm))
  n1 : A.dp ≠ A.da
  n2 : A.de ≠ A.dn
theorem DAt.db {CD CP : Addr} {A : AD} {H : Hp} {st : ST} (h : DAt CD CP A H st) : DB CD CP A H st := by
  obtain ⟨dx, k, n, s, r, e1, _⟩ := h.ob
  exact ⟨⟨dx, _, e1⟩, h.dp, h.de, h.da, h.dn, h.n1, h.n2⟩
theorem DB.mono {CD CP : Addr} {A : AD} {H H' : Hp} {st : ST} (s : Same H H') (h : DB CD CP A H st) : DB CD CP A H' st := by
  obtain ⟨dx, fs, e1⟩ := h.pi
  obtain ⟨vs, e3, e4⟩ := h.dp
  obtain ⟨us, e5, e6⟩ := h.da
  have f : Fix CP H H' := Fix.of s
  exact ⟨⟨dx, fs, s _ _ e1⟩, ⟨vs, s _ _ e3, pair_mono (fun _ _ h => h.mono f) e4⟩, s _ _ h.de, ⟨us, s _ _ e5, pair_mono (fun _ _ h => h.mono f) e6⟩, s _ _ h.dn, h.n1, h.n2⟩
theorem DB.put {CD CP : Addr} {A : AD} {H : Hp} {st : ST} {dx dx' : Addr} {fs fs' : List (Str × V)} (ne : CP ≠ CD) (e : H A.p = some (.ins CD dx fs)) (h : DB CD CP A H st) : DB CD CP A (upd H A.p (.ins CD dx' fs')) st := by
  obtain ⟨vs, e3, e4⟩ := h.dp
  obtain ⟨us, e5, e6⟩ := h.da
  have f : Fix CP H (upd H A.p (.ins CD dx' fs')) := Fix.ins e ne
  exact ⟨⟨dx', fs', upd_same⟩, ⟨vs, by rw [upd_ne (ne_of e3 e (by intro z; cases z))]; exact e3, pair_mono (fun _ _ h => h.mono f) e4⟩, by rw [upd_ne (ne_of h.de e (by intro z; cases z))]; exact h.de,
    ⟨us, by rw [upd_ne (ne_of e5 e (by intro z; cases z))]; exact e5, pair_mono (fun _ _ h => h.mono f) e6⟩, by rw [upd_ne (ne_of h.dn e (by intro z; cases z))]; exact h.dn, h.n1, h.n2⟩
theorem DB.dAt {CD CP : Addr} {A : AD} {H : Hp} {st : ST} {dr : Option Addr} {op : Option OP} {dx : Addr} {k n s r : V} (h : DB CD CP A H st) (e : H A.p = some (.ins CD dx (dflds A k n s r))) (o : OpAt H { A with dr := dr } k n s r op) : DAt CD CP { A with dr := dr } H { st with op := op } :=
  ⟨⟨dx, k, n, s, r, e, o⟩, h.dp, h.de, h.da, h.dn, h.n1, h.n2⟩
/-- the module's own constants that the draft reads -/
structure TM (K : PySem.W.Frag) (mg : Str → Option Value) (aK : Addr) : Prop where
  g12 : ∃ t, mg "MOST_PIECES" = some (.int 12 t)
  g16 : ∃ t, mg "MOST_ROWS" = some (.int 16 t)
  gK : mg "KINDS" = some (.ref aK)
  kK : KT K aK [.str "func", .str "data"]
theorem cut_rest (w1 : V) (rest : List V) : cutV (w1 :: rest) (some 1) none = rest := by
  unfold cutV
  rw [show HT.sIx (w1 :: rest).length 0 (some 1) = min 1 (w1 :: rest).length from HT.sIx_nat _ 0 1, HT.sIx_none]
  rw [show min 1 (w1 :: rest).length = 1 by rw [List.length_cons]; omega]
  show (List.take ((w1 :: rest).length - 1) rest) = _
  exact List.take_of_length_le (by rw [List.length_cons]; omega)
section
variable {P : Program} {w : World} {K : PySem.W.Frag} {mg : Str → Option Value} {base : Heap} {aO aR dF CD CP aK : Addr} {es : Array DictEntry} {nF : Nat} {tF : Str → Addr}
theorem len2 {ws : List Str} (h : ws.length = 2) : ∃ x y, ws = [x, y] := by
  match ws, h with
  | [x, y], _ => exact ⟨x, y, rfl⟩
theorem alias_no {ws : List Str} {st : ST} (h : ¬ ws.length = 2) : takeAlias ws st = none := by
  match ws, h with
  | [], _ => rfl
  | [_], _ => rfl
  | [_, _], h => exact absurd rfl h
  | _ :: _ :: _ :: _, _ => rfl
theorem open_no {num : Int} {ws : List Str} {st : ST} (h : ¬ ws.length = 2) : openPiece num ws st = none := by
  match ws, h with
  | [], _ => rfl
  | [_], _ => rfl
  | [_, _], h => exact absurd rfl h
  | _ :: _ :: _ :: _, _ => rfl
theorem ne2 {n : Nat} : decide (V.int ((n : Nat) : Int) = V.int 2) = decide (n = 2) := by
  by_cases h : n = 2
  · subst h; simp
  · rw [decide_eq_false h]
    exact decide_eq_false fun e => h (by have := V.int.inj e; omega)
/-! ### take_alias -/
def spTakeAlias (CD CP : Addr) : Sp := fun vs H Q _ => ∃ A st a, ∃ ws : List Str, vs = [.ref A.p, .ref a] ∧ DAt CD CP A H st ∧ H a = some (.lst (ws.map V.str)) ∧ ¬ Foot A a ∧ (∀ z ∈ ws, Wd z) ∧ st.nm.length < sizeLine ∧ st.al.length < sizeLine ∧ Res CD CP A H (takeAlias ws st) Q
theorem scTA : FnScope ["self", "names"] ["self", "names"] (defScope (sDraft 4)) := ⟨rfl, rfl, rfl, by decide +kernel, rfl, by decide +kernel, by decide +kernel⟩
theorem ok_takeAlias {f fN fM : Addr} {fd fdN fdM : FuncData} (F : Fun K "take_alias" "Draft.take_alias" (sDraft 4) f fd) (T : TC K CD CP) (zl : mg "len" = none)
    (GN : FnOk P w K mg base CX0 1 fN fdN ["value"] (spIsName K)) (bN : Binds K fdN ["value"] []) (gN : mg "is_name" = some (.ref fN)) (kN : PySem.W.keepIn K (.ref fN) = true)
    (GM : FnOk P w K mg base CX0 2 fM fdM ["self", "name"] (spTakeName CD CP)) (bM : Binds K fdM ["self", "name"] []) (mM : Meth K CD "take_name" fM) : FnOk P w K mg base CX0 3 f fd ["self", "names"] (spTakeAlias CD CP) := by
  refine F.ok scTA (fun vs H Q E h => ?_) (fun cdv A0 outer s H vs Q E hr h => ?_)
  · obtain ⟨A, st, a, ws, rfl, _⟩ := h
    rfl
  · obtain ⟨A, st, a, ws, rfl, D, ha, na, hw, hl, hl2, q0, q1⟩ := h
    have hr1 : Room 1 _ := hr.mono (by decide)
    refine ⟨_, pss_cons (ps_if (PW.pt (pw_or (pt_cmpR op_ne (pe_callB call_len_seq (by rfl) zl PySem.boot_len (pa_cons (pv 1) pa_nil)) pe_int (nomark _))
          (pw_or (pt_not (pt_val (pe_call GN hr1 rfl gN kN bN .nil pass0 (pa_cons (pe_ix ix_list (pv 1) pe_int (fun _ _ => rfl)) pa_nil))))
          (pw_or1 (pt_not (pt_val (pe_meth (pv 0) T.cD mM GM hr bM .nil pass0 (pa_cons (pe_ix ix_list (pv 1) pe_int (fun _ _ => rfl)) pa_nil)))))))) (pss_one (ps_ret pe_bl)) pss_nil)
      (pss_cons (ps_expr (pe_bm PySem.F.plainAttrs_list PySem.F.slot_list_append PySem.F.type_list_append mt_append (pe_fld (pv 0) rfl) (pa_cons (pe_tupS (pa_cons (pe_ix ix_list (pv 1) pe_int (fun _ _ => rfl)) (pa_cons (pe_ix ix_list (pv 1) pe_int (fun _ _ => rfl)) pa_nil))) pa_nil)))
      (pss_one (ps_ret pe_bl))), ?_⟩
    refine ⟨.ref a, rfl, a, _, rfl, .inl (SqL.of ha), rfl, _, rfl, ?_⟩
    rw [List.length_map, ne2]
    by_cases h2 : ws.length = 2
    · obtain ⟨x, y, rfl⟩ := len2 h2
      rw [decide_eq_true h2]
      refine iteF ?_
      refine ⟨.ref a, rfl, a, _, 1, _, rfl, rfl, SqL.of ha, atI_nat (j := 1) rfl, .str y, rfl, .inl ⟨y, rfl, hw y (by simp), fun H1 s1 => ⟨_, rfl, ?_⟩⟩⟩
      cases hn : isName y with
      | false =>
        refine iteT (iteT (q0 ?_ H1 (Kept.of s1)))
        show (if isName y = true then _ else none) = none
        rw [hn, if_neg Bool.false_ne_true]
      | true =>
        have D1 := D.mono s1
        obtain ⟨dx, k, n, z, r, e1, e2⟩ := D1.ob
        have ec : takeAlias [x, y] st = (takeName x st).map fun s => { s with al := s.al ++ [(x, y)] } := by
          show (if isName y = true then _ else none) = _
          rw [hn, if_pos rfl]
        refine iteF ⟨.ref A.p, rfl, A.p, dx, _, rfl, e1, rfl, .ref a, rfl, a, _, 0, _, rfl, rfl, SqL.of (s1 _ _ ha), atI_nat (j := 0) rfl, A, st, x, rfl, D1, hw x (by simp), hl, fun en H2 k2 => ?_, fun st1 en H2 A1 k2 n2 D2 => ?_⟩
        · refine ⟨_, rfl, iteT (q0 ?_ H2 ((Kept.of s1).trans k2))⟩
          rw [ec, en]
          rfl
        · refine ⟨_, rfl, iteF ?_⟩
          have n0 : Next H A A1 := ⟨n2.1, n2.2.1, n2.2.2.1, n2.2.2.2.1, n2.2.2.2.2.1, fun b hb => (n2.2.2.2.2.2 b hb).imp id fun q => by
            cases e : H b with
            | none => rfl
            | some o => rw [s1 b o e] at q; cases q⟩
          have k0 : Kept A H H2 := (Kept.of s1).trans k2
          have a2 : H2 a = some (.lst ([x, y].map V.str)) := k0 _ _ ha na
          obtain ⟨dx2, kk, nn, ss, rr, e3, e4⟩ := D2.ob
          obtain ⟨us, e5, e6⟩ := D2.da
          have ep : A1.p = A.p := n2.1
          refine ⟨.ref A.p, rfl, A.p, CD, dx2, _, .ref A1.da, rfl, by rw [← ep]; exact e3, T.cD, T.nAliases, rfl, .inl ⟨rfl, _, SqL.of e5⟩, ?_⟩
          refine ⟨.ref a, rfl, a, _, 0, _, rfl, rfl, SqL.of a2, atI_nat (j := 0) rfl, .ref a, rfl, a, _, 1, _, rfl, rfl, SqL.of a2, atI_nat (j := 1) rfl, by simp, fun q H3 s3 nq eq => ?_⟩
          have D3 := D2.mono s3
          have f : Fix CP H2 H3 := Fix.of s3
          have lim : us.length < sizeLine := by
            have h1 := e6.length
            have h3 : st1.al = st.al := by
              unfold takeName at en
              split at en
              · cases en; rfl
              · cases en
            rw [h3] at h1
            omega
          refine ⟨A1.da, us, .ref q, rfl, rfl, s3 _ _ e5, lim, ?_⟩
          refine q1 _ (by rw [ec, en]; rfl) _ A1 ((k0.next n0 (Kept.of s3)).next n0 (Kept.upd (.inr (.inr (.inr (.inl rfl)))))) n0 (D3.put_al (p := (x, y)) (s3 _ _ e5) (pair_mono (fun _ _ h => h.mono f) e6) ⟨q, rfl, eq⟩)
    · rw [decide_eq_false h2]
      exact iteT (iteT (q0 (alias_no h2) H (Kept.of (Same.refl H))))
end
end TX

set_option Elab.async false
set_option linter.all false
set_option maxRecDepth 100000
set_option maxHeartbeats 4000000
/-! A piece is opened; a row outside of pieces. -/
namespace TX
open PySem PySem.Spec PyProof.Rows L2 L2.FK FS
theorem Next.here {H H1 : Hp} {A A1 : AD} (s : Same H H1) (n : Next H1 A A1) : Next H A A1 := ⟨n.1, n.2.1, n.2.2.1, n.2.2.2.1, n.2.2.2.2.1, fun b hb => (n.2.2.2.2.2 b hb).imp id fun q => by
  cases e : H b with
  | none => rfl
  | some o => rw [s b o e] at q; cases q⟩
theorem takeName_op {z : Str} {st st1 : ST} (h : takeName z st = some st1) : st1.op = st.op ∧ st1.ps = st.ps ∧ st1.al = st.al ∧ st1.ex = st.ex := by
  unfold takeName at h
  split at h
  · cases h; exact ⟨rfl, rfl, rfl, rfl⟩
  · cases h
theorem ne12 {n : Nat} : decide (V.int ((n : Nat) : Int) = V.int 12) = decide (n = 12) := by
  by_cases h : n = 12
  · subst h; simp
  · rw [decide_eq_false h]
    exact decide_eq_false fun e => h (by have := V.int.inj e; omega)
section
variable {P : Program} {w : World} {K : PySem.W.Frag} {mg : Str → Option Value} {base : Heap} {aO aR dF CD CP aK : Addr} {es : Array DictEntry} {nF : Nat} {tF : Str → Addr}
/-! ### open_piece -/
def spOpen (CD CP : Addr) : Sp := fun vs H Q _ => ∃ A st a num, ∃ ws : List Str, vs = [.ref A.p, .int num, .ref a] ∧ DAt CD CP A H st ∧ st.op = none ∧ H a = some (.lst (ws.map V.str)) ∧ ¬ Foot A a ∧ (∀ z ∈ ws, Wd z) ∧ st.nm.length < sizeLine ∧ Res CD CP A H (openPiece num ws st) Q
theorem scOP : FnScope ["self", "number", "words"] ["self", "number", "words"] (defScope (sDraft 6)) := ⟨rfl, rfl, rfl, by decide +kernel, rfl, by decide +kernel, by decide +kernel⟩
theorem ok_open {f fM : Addr} {fd fdM : FuncData} (F : Fun K "open_piece" "Draft.open_piece" (sDraft 6) f fd) (T : TC K CD CP) (M : TM K mg aK) (zl : mg "len" = none)
    (GM : FnOk P w K mg base CX0 2 fM fdM ["self", "name"] (spTakeName CD CP)) (bM : Binds K fdM ["self", "name"] []) (mM : Meth K CD "take_name" fM) : FnOk P w K mg base CX0 3 f fd ["self", "number", "words"] (spOpen CD CP) := by
  obtain ⟨t12, g12⟩ := M.g12
  refine F.ok scOP (fun vs H Q E h => ?_) (fun cdv A0 outer s H vs Q E hr h => ?_)
  · obtain ⟨A, st, a, num, ws, rfl, _⟩ := h
    rfl
  · obtain ⟨A, st, a, num, ws, rfl, D, hop, ha, na, hw, hl, q0, q1⟩ := h
    refine ⟨_, pss_cons (ps_if (PW.pt (pw_or (pt_cmpR op_ne (pe_callB call_len_seq (by rfl) zl PySem.boot_len (pa_cons (pv 2) pa_nil)) pe_int (nomark _))
          (pw_or (pt_cmpR op_eq (pe_callB call_len_seq (by rfl) zl PySem.boot_len (pa_cons (pe_fld (pv 0) rfl) pa_nil)) (pe_glob rfl g12 (v := .int 12) ⟨_, rfl⟩) (by rfl))
          (pw_or1 (pt_not (pt_val (pe_meth (pv 0) T.cD mM GM hr bM .nil pass0 (pa_cons (pe_ix ix_list (pv 2) pe_int (fun _ _ => rfl)) pa_nil)))))))) (pss_one (ps_ret pe_bl)) pss_nil)
      (pss_cons (ps_asg (pv 2) (pg_unl rfl (pgs_cons (pg_fld (pv 0)) (pgs_cons (pg_fld (pv 0)) pgs_nil))))
      (pss_cons (ps_fld (pv 0) (pe_op op_add (pv 1) pe_int) rfl)
      (pss_cons (ps_fld (pv 0) (pe_lstS pa_nil) rfl)
      (pss_one (ps_ret pe_bl))))), ?_⟩
    refine ⟨.ref a, rfl, a, _, rfl, .inl (SqL.of ha), rfl, _, rfl, ?_⟩
    rw [List.length_map, ne2]
    by_cases h2 : ws.length = 2
    · obtain ⟨x, y, rfl⟩ := len2 h2
      rw [decide_eq_true h2]
      refine iteF ?_
      obtain ⟨dx, k, n, z, r, e1, e2⟩ := D.ob
      obtain ⟨vs, e3, e4⟩ := D.dp
      refine ⟨.ref A.p, rfl, A.p, CD, dx, _, .ref A.dp, rfl, e1, T.cD, T.nPieces, rfl, A.dp, _, rfl, .inl (SqL.of e3), rfl, _, rfl, ?_⟩
      rw [← e4.length, ne12]
      by_cases h12 : st.ps.length = 12
      · rw [decide_eq_true h12]
        refine iteT (iteT (q0 ?_ H (Kept.of (Same.refl H))))
        show (if st.ps.length = 12 then none else _) = none
        rw [if_pos h12]
      · rw [decide_eq_false h12]
        have ec : openPiece num [x, y] st = (takeName y st).map fun s => { s with op := some ⟨x, y, num + 1, []⟩ } := by
          show (if st.ps.length = 12 then none else _) = _
          rw [if_neg h12]
        refine iteF ⟨.ref A.p, rfl, A.p, dx, _, rfl, e1, rfl, .ref a, rfl, a, _, 1, _, rfl, rfl, SqL.of ha, atI_nat (j := 1) rfl, A, st, y, rfl, D, hw y (by simp), hl, fun en H2 k2 => ?_, fun st1 en H2 A1 k2 n2 D2 => ?_⟩
        · refine ⟨_, rfl, iteT (q0 ?_ H2 k2)⟩
          rw [ec, en]
          rfl
        · refine ⟨_, rfl, iteF ?_⟩
          have a2 : H2 a = some (.lst ([x, y].map V.str)) := k2 _ _ ha na
          obtain ⟨dx2, kk, nn, ss, rr, e5, e6⟩ := D2.ob
          have ep : A1.p = A.p := n2.1
          have B0 := D2.db
          have B1 := B0.put (dx' := dx2) (fs' := dflds A1 (.str x) nn ss rr) T.ne e5
          have B2 := B1.put (dx' := dx2) (fs' := dflds A1 (.str x) (.str y) ss rr) T.ne upd_same
          have B3 := B2.put (dx' := dx2) (fs' := dflds A1 (.str x) (.str y) (.int (num + 1)) rr) T.ne upd_same
          rw [ep] at B1 B2 B3 e5
          refine ⟨.ref a, rfl, a, _, rfl, SqL.of a2, rfl, _, _, rfl, .ref A.p, rfl, A.p, CD, dx2, _, rfl, e5, T.cD, T.nKind, (by show 8 < 1000; decide), ?_⟩
          refine ⟨_, _, rfl, .ref A.p, rfl, A.p, CD, dx2, dflds A1 (.str x) nn ss rr, rfl, upd_same, T.cD, T.nName, (by show 8 < 1000; decide), rfl, ?_⟩
          refine ⟨.int num, rfl, num, 1, rfl, rfl, .ref A.p, rfl, A.p, CD, dx2, dflds A1 (.str x) (.str y) ss rr, rfl, upd_same, T.cD, T.nStart, (by show 8 < 1000; decide), ?_⟩
          refine ⟨by simp, fun q H3 s3 nq eq => ⟨.ref A.p, rfl, A.p, CD, dx2, dflds A1 (.str x) (.str y) (.int (num + 1)) rr, rfl, s3 _ _ upd_same, T.cD, T.nRows, (by show 8 < 1000; decide), ?_⟩⟩
          have B4 := B3.mono s3
          have e7 : H3 A.p = some (.ins CD dx2 (dflds A1 (.str x) (.str y) (.int (num + 1)) rr)) := s3 _ _ upd_same
          rw [← ep] at e7
          have B5 := B4.put (dx' := dx2) (fs' := dflds A1 (.str x) (.str y) (.int (num + 1)) (.ref q)) T.ne e7
          rw [ep] at B5 e7
          have nqp : q ≠ A.p := fun e => by rw [e, upd_same] at nq; cases nq
          have q2 : H2 q = none := by
            rw [upd_ne nqp, upd_ne nqp, upd_ne nqp] at nq
            exact nq
          have D5 : DAt CD CP { A1 with dr := some q } (upd H3 A.p (.ins CD dx2 (dflds A1 (.str x) (.str y) (.int (num + 1)) (.ref q)))) { st1 with op := some ⟨x, y, num + 1, []⟩ } := by
            refine B5.dAt (dx := dx2) (k := .str x) (n := .str y) (s := .int (num + 1)) (r := .ref q) (by rw [ep]; exact upd_same) ⟨rfl, rfl, rfl, q, [], rfl, rfl, by rw [upd_ne nqp]; exact eq, .nil, fun e => ?_, fun e => ?_⟩
            · obtain ⟨vs2, e8, _⟩ := D2.dp
              rw [e, e8] at q2
              cases q2
            · obtain ⟨vs2, e8, _⟩ := D2.da
              rw [e, e8] at q2
              cases q2
          have fp : Foot A A.p := .inl rfl
          refine q1 _ (by rw [ec, en]; rfl) _ { A1 with dr := some q } ((((k2.trans (Kept.upd fp)).trans (Kept.upd fp)).trans (Kept.upd fp)).trans ((Kept.of s3).trans (Kept.upd fp))) ?_ D5
          refine Next.trans (st := st1) k2 n2 D2 ⟨rfl, rfl, rfl, rfl, rfl, fun b hb => ?_⟩
          obtain rfl : q = b := Option.some.inj hb
          exact .inr q2
    · rw [decide_eq_false h2]
      exact iteT (iteT (q0 (open_no h2) H (Kept.of (Same.refl H))))
end
end TX

set_option Elab.async false
set_option linter.all false
set_option maxRecDepth 100000
set_option maxHeartbeats 4000000
/-! A row outside of pieces; a row within a piece. -/
namespace TX
open PySem PySem.Spec PyProof.Rows L2 L2.FK FS
theorem DAt.free {CD CP : Addr} {A : AD} {H : Hp} {st : ST} (h : DAt CD CP A H st) {b : Addr} (e : H b = none) : ¬ Foot A b := by
  intro f
  obtain ⟨dx, k, n, s, r, e1, e2⟩ := h.ob
  obtain ⟨vs, e3, _⟩ := h.dp
  obtain ⟨us, e5, _⟩ := h.da
  rcases f with f | f | f | f | f | f
  · rw [f, e1] at e; cases e
  · rw [f, e3] at e; cases e
  · rw [f, h.de] at e; cases e
  · rw [f, e5] at e; cases e
  · rw [f, h.dn] at e; cases e
  · cases ho : st.op with
    | none => rw [ho] at e2; rw [e2.2] at f; cases f
    | some o =>
      rw [ho] at e2
      obtain ⟨_, _, _, dr, ws, q1, _, q2, _⟩ := e2
      rw [q1] at f
      cases f
      rw [q2] at e
      cases e
section
variable {P : Program} {w : World} {K : PySem.W.Frag} {mg : Str → Option Value} {base : Heap} {aO aR dF CD CP aK : Addr} {es : Array DictEntry} {nF : Nat} {tF : Str → Addr}
theorem kinds_in (w1 : Str) : inV (.str w1) [.str "func", .str "data"] = decide (w1 = "func" ∨ w1 = "data") := by
  show (decide (("func" : Str) = w1) || (decide (("data" : Str) = w1) || false)) = _
  by_cases h1 : w1 = "func"
  · subst h1; simp
  · by_cases h2 : w1 = "data"
    · subst h2; simp
    · rw [decide_eq_false fun e => h1 e.symm, decide_eq_false fun e => h2 e.symm, decide_eq_false fun e => e.elim h1 h2]
      rfl
/-! ### take_between -/
def spBetween (CD CP : Addr) : Sp := fun vs H Q _ => ∃ A st a num, ∃ ws : List Str, vs = [.ref A.p, .int num, .ref a] ∧ DAt CD CP A H st ∧ st.op = none ∧ H a = some (.lst (ws.map V.str)) ∧ ¬ Foot A a ∧ ws ≠ [] ∧ (∀ z ∈ ws, Wd z) ∧ st.nm.length < sizeLine ∧ st.al.length < sizeLine ∧ st.ex.length + ws.length < sizeLine ∧ Res CD CP A H (takeBetween num ws st) Q
theorem scTB : FnScope ["self", "number", "words"] ["self", "number", "words"] (defScope (sDraft 2)) := ⟨rfl, rfl, rfl, by decide +kernel, rfl, by decide +kernel, by decide +kernel⟩
theorem ok_between {f fE fA fO : Addr} {fd fdE fdA fdO : FuncData} (F : Fun K "take_between" "Draft.take_between" (sDraft 2) f fd) (T : TC K CD CP) (M : TM K mg aK)
    (GE : FnOk P w K mg base CX0 2 fE fdE ["self", "names"] (spTakeExports CD CP)) (bE : Binds K fdE ["self", "names"] []) (mE : Meth K CD "take_exports" fE)
    (GA : FnOk P w K mg base CX0 3 fA fdA ["self", "names"] (spTakeAlias CD CP)) (bA : Binds K fdA ["self", "names"] []) (mA : Meth K CD "take_alias" fA)
    (GO : FnOk P w K mg base CX0 3 fO fdO ["self", "number", "words"] (spOpen CD CP)) (bO : Binds K fdO ["self", "number", "words"] []) (mO : Meth K CD "open_piece" fO) : FnOk P w K mg base CX0 4 f fd ["self", "number", "words"] (spBetween CD CP) := by
  refine F.ok scTB (fun vs H Q E h => ?_) (fun cdv A0 outer s H vs Q E hr h => ?_)
  · obtain ⟨A, st, a, num, ws, rfl, _⟩ := h
    rfl
  · obtain ⟨A, st, a, num, ws, rfl, D, hop, ha, na, hne, hw, l1, l2, l3, R⟩ := h
    have hr1 : Room 2 _ := hr.mono (by decide)
    refine ⟨_, pss_cons (ps_if (pt_cmpR op_eq (pe_ix ix_list (pv 2) pe_int (fun _ _ => rfl)) pe_str (nomark _)) (pss_one (ps_ret (pe_meth (pv 0) T.cD mE GE hr1 bE .nil pass0 (pa_cons (pe_slice sl_listS (pv 2) (po_some pe_int) po_none) pa_nil)))) pss_nil)
      (pss_cons (ps_if (pt_cmpR op_eq (pe_ix ix_list (pv 2) pe_int (fun _ _ => rfl)) pe_str (nomark _)) (pss_one (ps_ret (pe_meth (pv 0) T.cD mA GA hr bA .nil pass0 (pa_cons (pe_slice sl_listS (pv 2) (po_some pe_int) po_none) pa_nil)))) pss_nil)
      (pss_one (ps_ret (pe_and (pe_cmpR op_in_seq (pe_ix ix_list (pv 2) pe_int (fun _ _ => rfl)) (pe_glob rfl M.gK (v := .ref aK) rfl) (by rfl)) (pe_one (pe_meth (pv 0) T.cD mO GO hr bO .nil pass0 (pa_cons (pv 1) (pa_cons (pv 2) pa_nil)))))))), ?_⟩
    obtain ⟨w1, rest, rfl⟩ : ∃ w1 rest, ws = w1 :: rest := by
      cases ws with
      | nil => exact absurd rfl hne
      | cons w1 rest => exact ⟨w1, rest, rfl⟩
    obtain ⟨dx, k, n, z, r, e1, e2⟩ := D.ob
    have h0 : ((w1 :: rest).map V.str)[0]? = some (.str w1) := rfl
    have hrest : ∀ z ∈ rest, Wd z := fun z hz => hw z (List.mem_cons_of_mem _ hz)
    have ec : cutV ((w1 :: rest).map V.str) (some 1) none = rest.map V.str := cut_rest _ _
    have l3' : st.ex.length + rest.length < sizeLine := by
      rw [List.length_cons] at l3
      omega
    refine ⟨.ref a, rfl, a, _, 0, _, rfl, rfl, SqL.of ha, atI_nat (j := 0) h0, rfl, _, rfl, ?_⟩
    rw [str_eq]
    refine ite2 (fun h => ?_) (fun h => ?_)
    · have e : w1 = "export" := of_decide_eq_true h
      refine ⟨.ref A.p, rfl, A.p, dx, _, rfl, e1, rfl, .ref a, rfl, 1, rfl, a, _, rfl, SqL.of ha, fun p1 H1 s1 n1 e9 => ⟨A, st, p1, rest, rfl, D.mono s1, by rw [ec] at e9; exact e9, D.free n1, hrest, l3', ?_⟩⟩
      refine (R.here s1).of ?_
      show (if w1 = "export" then _ else _) = _
      rw [if_pos e]
    · have e : ¬ w1 = "export" := fun e => h (decide_eq_true e)
      refine ⟨.ref a, rfl, a, _, 0, _, rfl, rfl, SqL.of ha, atI_nat (j := 0) h0, rfl, _, rfl, ?_⟩
      rw [str_eq]
      refine ite2 (fun h => ?_) (fun h => ?_)
      · have e' : w1 = "alias" := of_decide_eq_true h
        refine ⟨.ref A.p, rfl, A.p, dx, _, rfl, e1, rfl, .ref a, rfl, 1, rfl, a, _, rfl, SqL.of ha, fun p1 H1 s1 n1 e9 => ⟨A, st, p1, rest, rfl, D.mono s1, by rw [ec] at e9; exact e9, D.free n1, hrest, l1, l2, ?_⟩⟩
        refine (R.here s1).of ?_
        show (if w1 = "export" then _ else if w1 = "alias" then _ else _) = _
        rw [if_neg e, if_pos e']
      · have e' : ¬ w1 = "alias" := fun e => h (decide_eq_true e)
        have et : takeBetween num (w1 :: rest) st = if w1 = "func" ∨ w1 = "data" then openPiece num (w1 :: rest) st else none := by
          show (if w1 = "export" then _ else if w1 = "alias" then _ else _) = _
          rw [if_neg e, if_neg e']
        refine ⟨.ref a, rfl, a, _, 0, _, rfl, rfl, SqL.of ha, atI_nat (j := 0) h0, aK, _, rfl, .inr (M.kK.sq H), rfl, by decide, _, rfl, ?_⟩
        rw [show (if false = true then !inV (V.str w1) [.str "func", .str "data"] else inV (V.str w1) [.str "func", .str "data"]) = decide (w1 = "func" ∨ w1 = "data") from kinds_in w1]
        refine ite2 (fun h => ?_) (fun h => ?_)
        · refine ⟨.ref A.p, rfl, A.p, dx, _, rfl, e1, rfl, .int num, rfl, .ref a, rfl, A, st, a, num, w1 :: rest, rfl, D, hop, ha, na, hw, l1, R.of ?_⟩
          rw [et, if_pos (of_decide_eq_true h)]
        · have hf : ¬ (w1 = "func" ∨ w1 = "data") := fun q => h (decide_eq_true q)
          exact R.1 (by rw [et, if_neg hf]) H (Kept.of (Same.refl H))
end
end TX

set_option Elab.async false
set_option linter.all false
set_option maxRecDepth 100000
set_option maxHeartbeats 4000000
/-! A row within a piece. -/
namespace TX
open PySem PySem.Spec PyProof.Rows L2 L2.FK FS
/-- a row more of the open piece -/
theorem DAt.put_rw {CD CP : Addr} {A : AD} {H : Hp} {st : ST} {o : OP} {dr : Addr} {ws : List V} {v : V} {r : MR} (h : DAt CD CP A H st) (ho : st.op = some o) (e4 : A.dr = some dr) (e6 : H dr = some (.lst ws)) (hv : RowAt H r v) :
    DAt CD CP A (upd H dr (.lst (ws ++ [v]))) { st with op := some { o with rows := o.rows ++ [r] } } := by
  obtain ⟨dx, k, n, s, rr, e1, e2⟩ := h.ob
  obtain ⟨vs, e3, e5⟩ := h.dp
  obtain ⟨us, e7, e8⟩ := h.da
  rw [ho] at e2
  obtain ⟨q1, q2, q3, dr', ws', q4, q5, q6, q7, q8, q9⟩ := e2
  rw [e4] at q4
  cases q4
  rw [e6] at q6
  cases q6
  have f : Fix CP H (upd H dr (.lst (ws ++ [v]))) := Fix.lst e6
  exact ⟨⟨dx, k, n, s, rr, by rw [upd_ne (ne_of e1 e6 (by intro z; cases z))]; exact e1, q1, q2, q3, dr, _, e4, q5, upd_same, pair_mono (fun _ _ h => h.mono f) (pair_snoc q7 hv), q8, q9⟩,
    ⟨vs, by rw [upd_ne q8.symm]; exact e3, pair_mono (fun _ _ h => h.mono f) e5⟩, by rw [upd_ne (ne_of h.de e6 (by intro z; cases z))]; exact h.de,
    ⟨us, by rw [upd_ne q9.symm]; exact e7, pair_mono (fun _ _ h => h.mono f) e8⟩, by rw [upd_ne (ne_of h.dn e6 (by intro z; cases z))]; exact h.dn, h.n1, h.n2⟩
theorem ne16 {n : Nat} : decide (V.int ((n : Nat) : Int) = V.int 16) = decide (n = 16) := by
  by_cases h : n = 16
  · subst h; simp
  · rw [decide_eq_false h]
    exact decide_eq_false fun e => h (by have := V.int.inj e; omega)
/-- what reading a row of this kind hands back -/
def RowV (H : Hp) (o : Option MR) (v : V) : Prop := (o = none ∧ v = .non) ∨ ∃ r, o = some r ∧ RowAt H r v ∧ v ≠ .non
section
variable {P : Program} {w : World} {K : PySem.W.Frag} {mg : Str → Option Value} {base : Heap} {aO aR dF CD CP aK : Addr} {es : Array DictEntry} {nF : Nat} {tF : Str → Addr}
/-! ### take_within -/
def spWithin (CD CP : Addr) : Sp := fun vs H Q _ => ∃ A st op a, ∃ ws : List Str, vs = [.ref A.p, .ref a] ∧ DAt CD CP A H st ∧ st.op = some op ∧ H a = some (.lst (ws.map V.str)) ∧ ¬ Foot A a ∧ ws ≠ [] ∧ (∀ z ∈ ws, Wd z) ∧ op.rows.length ≤ 16 ∧ Res CD CP A H (takeWithin ws op st) Q
theorem scTW : FnScope ["self", "words", "row"] ["self", "words"] (defScope (sDraft 7)) := ⟨rfl, rfl, rfl, by decide +kernel, rfl, by decide +kernel, by decide +kernel⟩
theorem ok_within {f fI fD : Addr} {fd fdI fdD : FuncData} (F : Fun K "take_within" "Draft.take_within" (sDraft 7) f fd) (T : TC K CD CP) (M : TM K mg aK) (zl : mg "len" = none)
    (GI : FnOk P w K mg base CX0 4 fI fdI ["words"] (spReadIns K)) (bI : Binds K fdI ["words"] []) (gI : mg "read_instruction" = some (.ref fI)) (kI : PySem.W.keepIn K (.ref fI) = true)
    (GD : FnOk P w K mg base CX0 2 fD fdD ["words"] (spReadDat K)) (bD : Binds K fdD ["words"] []) (gD : mg "read_datum" = some (.ref fD)) (kD : PySem.W.keepIn K (.ref fD) = true) : FnOk P w K mg base CX0 5 f fd ["self", "words"] (spWithin CD CP) := by
  obtain ⟨t16, g16⟩ := M.g16
  refine F.ok scTW (fun vs H Q E h => ?_) (fun cdv A0 outer s H vs Q E hr h => ?_)
  · obtain ⟨A, st, op, a, ws, rfl, _⟩ := h
    rfl
  · obtain ⟨A, st, op, a, ws, rfl, D, hop, ha, na, hne, hw, hl, q0, q1⟩ := h
    have hr2 : Room 2 _ := hr.mono (by decide)
    obtain ⟨dx, k, n, z, r, e1, e2⟩ := D.ob
    rw [hop] at e2
    obtain ⟨y1, y2, y3, dr, rws, y4, y5, y6, y7, y8, y9⟩ := e2
    subst y1 y5
    refine ⟨_, pss_cons (ps_set (i := 2) scTW.nd rfl (.inl rfl) (pe_imp (pe_ifExp (pt_cmpR op_eq (pe_fld (pv 0) rfl) pe_str (nomark _)) (pe_call GI hr rfl gI kI bI .nil pass0 (pa_cons (pv 1) pa_nil)) (pe_call GD hr2 rfl gD kD bD .nil pass0 (pa_cons (pv 1) pa_nil)))
        (t' := fun σ H' Q' => H' = H ∧ σ[0]? = some (some (.ref A.p)) ∧ σ[1]? = some (some (.ref a)) ∧ ∀ H1 v, Same H H1 → RowV H1 (rowOf op.kind ws) v → Q' v H1) (fun σ H' Q' hh => by
          obtain ⟨eH, s0, s1, q⟩ := hh
          subst eH
          refine ⟨.ref A.p, s0, A.p, CD, dx, _, .str op.kind, rfl, e1, T.cD, T.nKind, rfl, rfl, _, rfl, ?_⟩
          rw [str_eq]
          refine ite2 (fun h => ?_) (fun h => ?_)
          · have e : rowOf op.kind ws = (readIns ws).map .ins := by
              unfold rowOf
              rw [if_pos (of_decide_eq_true h)]
            refine ⟨.ref a, s1, a, ws, rfl, SqL.of ha, hne, hw, fun en H1 s1 => q H1 .non s1 (.inl ⟨by rw [e, en]; rfl, rfl⟩), fun xs en H1 p1 s1 n1 e9 => q H1 (.ref p1) s1 (.inr ⟨.ins xs, by rw [e, en]; rfl, ⟨p1, rfl, e9⟩, fun e => nomatch e⟩)⟩
          · have e : rowOf op.kind ws = if readDat ws = .non then none else some (.dat (readDat ws)) := by
              unfold rowOf
              rw [if_neg fun e => h (decide_eq_true e)]
            refine ⟨.ref a, s1, a, ws, rfl, SqL.of ha, hw, fun H1 s1 => q H1 _ s1 ?_⟩
            by_cases hd : readDat ws = .non
            · exact .inl ⟨by rw [e, if_pos hd], hd⟩
            · exact .inr ⟨.dat (readDat ws), by rw [e, if_neg hd], rfl, hd⟩)))
      (pss_cons (ps_if (PW.pt (pw_or (pt_cmp (pc_isN (pv 2))) (pw_or1 (pt_cmpR op_eq (pe_callB call_len_seq (by rfl) zl PySem.boot_len (pa_cons (pe_fld (pv 0) rfl) pa_nil)) (pe_glob rfl g16 (v := .int 16) ⟨_, rfl⟩) (by rfl))))) (pss_one (ps_ret pe_bl)) pss_nil)
      (pss_cons (ps_expr (pe_bm PySem.F.plainAttrs_list PySem.F.slot_list_append PySem.F.type_list_append mt_append (pe_fld (pv 0) rfl) (pa_cons (pv 2) pa_nil)))
      (pss_one (ps_ret pe_bl)))), ?_⟩
    refine ⟨rfl, rfl, rfl, fun H1 v s1 hv => ?_⟩
    have D1 := D.mono s1
    have e1' := s1 _ _ e1
    rcases hv with ⟨en, rfl⟩ | ⟨r, en, hv, hnn⟩
    · refine ⟨.non, rfl, _, rfl, iteT (iteT (q0 ?_ H1 (Kept.of s1)))⟩
      unfold takeWithin
      rw [en]
    · have hnd : decide (v = V.non) = false := decide_eq_false hnn
      refine ⟨v, rfl, _, rfl, ?_⟩
      rw [hnd]
      refine iteF ⟨.ref A.p, rfl, A.p, CD, dx, _, .ref dr, rfl, e1', T.cD, T.nRows, rfl, dr, _, rfl, .inl (SqL.of (s1 _ _ y6)), rfl, _, rfl, ?_⟩
      rw [← y7.length, ne16]
      by_cases h16 : op.rows.length = 16
      · rw [decide_eq_true h16]
        refine iteT (q0 ?_ H1 (Kept.of s1))
        unfold takeWithin
        rw [en]
        show (if op.rows.length = 16 then none else _) = none
        rw [if_pos h16]
      · rw [decide_eq_false h16]
        refine iteF ⟨.ref A.p, rfl, A.p, CD, dx, _, .ref dr, rfl, e1', T.cD, T.nRows, rfl, .inl ⟨rfl, _, SqL.of (s1 _ _ y6)⟩, v, rfl, dr, rws, v, rfl, rfl, s1 _ _ y6, small1000 (by rw [← y7.length]; omega), ?_⟩
        refine q1 _ ?_ _ A ((Kept.of s1).trans (Kept.upd (.inr (.inr (.inr (.inr (.inr y4))))))) (Next.same _ _) (D1.put_rw hop y4 (s1 _ _ y6) hv)
        unfold takeWithin
        rw [en]
        show (if op.rows.length = 16 then none else _) = _
        rw [if_neg h16]
end
end TX

set_option Elab.async false
set_option linter.all false
set_option maxRecDepth 100000
set_option maxHeartbeats 4000000
/-! A piece is made; a text is refused; a piece is closed. -/
namespace TX
open PySem PySem.Spec PyProof.Rows L2 L2.FK FS
section
variable {X : Cx}
theorem call_tupleS : CallR X (.type "tuple") (fun xs H Q => ∃ p ys, xs = [.ref p] ∧ SqL X.K H p ys ∧ ∀ l H', Same H H' → H l = none → H' l = some (.tup ys) → Q (.ref l) H') := fun pins s σ H xs us Q I r ⟨p, ys, e, h, q⟩ =>
  call_tuple_of pins s σ H xs us Q I r ⟨p, ys, e, .inl ⟨h, fun l nl => q l _ (same_new nl) nl upd_same⟩⟩
theorem call_tupDS (hc : X.calm = true) : CallR X (.type "tuple") (fun xs H Q => ∃ p kvs, xs = [.ref p] ∧ H p = some (.dK kvs) ∧ ∀ l H', Same H H' → H l = none → H' l = some (.tup (kvs.map fun kv => kV kv.1)) → Q (.ref l) H') := fun pins s σ H xs us Q I r ⟨p, kvs, e, h, q⟩ =>
  call_tuple_dK hc pins s σ H xs us Q I r ⟨p, kvs, e, h, fun l nl => q l _ (same_new nl) nl upd_same⟩
end
theorem same_none {H H1 : Hp} (s : Same H H1) {b : Addr} (e : H1 b = none) : H b = none := by
  cases q : H b with
  | none => rfl
  | some o => rw [s b o q] at e; cases e
/-! ### the error -/
def spBad (C : Addr) (f : Str) : Sp := fun vs H Q _ => ∃ (a : Addr) (v : V), vs = [.ref a, v] ∧ H a = some (exo a C none) ∧ ∀ H' d, H d = none → d ≠ a → Off a H H' → H' a = some (exo a C (some d)) → H' d = some (exd d [(f, v)]) → Q .non H'
/-- the reading of C(v) in a raise -/
theorem bad_mk {C : Addr} {f : Str} {v : V} {H : Hp} {W : XK} (h : ∀ d H', H d = none → Same H H' → H' d = some (.xd [(f, v)]) → W (.ref C) (some d) H') :
    [v].length ≤ 1000 ∧ ∀ a, H a = none → spBad C f (.ref a :: ([v] ++ [])) (upd H a (exo a C none)) (fun v H2 => v = .non ∧ ∃ (d : Addr) (fs : List (Str × V)), H2 a = some (exo a C (some d)) ∧ H2 d = some (exd d fs) ∧ H d = none ∧ W (.ref C) (some d) (upd (L2.del H2 a) d (.xd fs))) (fun _ _ _ => False) := by
  refine ⟨by simp, fun a na => ⟨a, v, rfl, upd_same, fun H' d nd da off e1 e2 => ⟨rfl, d, _, e1, e2, ?_, ?_⟩⟩⟩
  · rw [upd_ne da] at nd
    exact nd
  · have nd' : H d = none := by
      rw [upd_ne da] at nd
      exact nd
    refine h d _ nd' (fun b o e => ?_) upd_same
    have b1 : b ≠ d := ne_of_none e nd'
    have b2 : b ≠ a := ne_of_none e na
    rw [upd_ne b1, del_ne b2]
    exact off b o b2 (by rw [upd_ne b2]; exact e)
/-- what a refused text leaves: an error with the row -/
def BadOut (CB : Addr) (A : AD) (H : Hp) (v : V) (E : XK) : Prop := ∀ d H', Kept A H H' → H' d = some (.xd [("row", v)]) → E (.ref CB) (some d) H'
/-! ### good rows -/
def Good : MR → Prop
  | .ins xs => (∃ w1 r form, xs = .str w1 :: r ∧ formOf w1 = some form) ∧ (targetOf xs = .non ∨ ∃ t, targetOf xs = .int t)
  | .dat _ => False
theorem DB.put_ps {CD CP : Addr} {A : AD} {H : Hp} {st : ST} {vs : List V} {v : V} {p : MP} (h : DB CD CP A H st) (e3 : H A.dp = some (.lst vs)) (e4 : Paired (PieceAt CP H) st.ps vs) (hv : PieceAt CP H p v) :
    DB CD CP A (upd H A.dp (.lst (vs ++ [v]))) { st with ps := st.ps ++ [p] } := by
  obtain ⟨dx, fs, e1⟩ := h.pi
  obtain ⟨us, e5, e6⟩ := h.da
  have f : Fix CP H (upd H A.dp (.lst (vs ++ [v]))) := Fix.lst e3
  exact ⟨⟨dx, fs, by rw [upd_ne (ne_of e1 e3 (by intro z; cases z))]; exact e1⟩, ⟨_, upd_same, pair_mono (fun _ _ h => h.mono f) (pair_snoc e4 hv)⟩, by rw [upd_ne (ne_of h.de e3 (by intro z; cases z))]; exact h.de,
    ⟨us, by rw [upd_ne h.n1.symm]; exact e5, pair_mono (fun _ _ h => h.mono f) e6⟩, by rw [upd_ne (ne_of h.dn e3 (by intro z; cases z))]; exact h.dn, h.n1, h.n2⟩
theorem pair_get {α : Type} {R : α → V → Prop} : ∀ {xs : List α} {vs : List V} {i : Nat} {v : V}, Paired R xs vs → vs[i]? = some v → ∃ x, xs[i]? = some x ∧ R x v
  | _, _, _, _, .nil, e => by simp at e
  | _, _, 0, _, .cons h t, e => by
    simp at e
    subst e
    exact ⟨_, rfl, h⟩
  | _, _, i + 1, _, .cons h t, e => by
    simp at e
    obtain ⟨x, h1, h2⟩ := pair_get t e
    exact ⟨x, by simpa using h1, h2⟩
abbrev sPieceI : Stmt := inClass (top (TX.o + 10)) 0
abbrev sBadI : Stmt := inClass (top 2) 0
section
variable {P : Program} {w : World} {K : PySem.W.Frag} {mg : Str → Option Value} {base : Heap} {aO aR dF CD CP CB fB aK : Addr} {es : Array DictEntry} {nF : Nat} {tF : Str → Addr}
theorem scBI : FnScope ["self", "row"] ["self", "row"] (defScope sBadI) := ⟨rfl, rfl, rfl, by decide +kernel, rfl, by decide +kernel, by decide +kernel⟩
theorem ok_badI {f C : Addr} {fd : FuncData} (F : Fun K "__init__" "BadText.__init__" sBadI f fd) (E : EC K mg "BadText" C f) (no0 : PySem.W.findIn K (.ref C) "row" = some none) : FnOk P w K mg base CX0 1 f fd ["self", "row"] (spBad C "row") := by
  refine F.ok scBI (fun vs H Q E h => ?_) (fun cdv A outer s H vs Q E1 hr h => ?_)
  · obtain ⟨a, v, rfl, _⟩ := h
    rfl
  · obtain ⟨a, v, rfl, ha, k⟩ := h
    refine ⟨_, pss_one (ps_ost (pv 0) (pv 1)), ?_⟩
    exact ⟨v, rfl, .ref a, rfl, a, C, rfl, E.oex, no0, .inl ⟨ha, fun dx n ne => k _ dx n ne (off_first n) upd_same (by rw [upd_ne ne, upd_same])⟩⟩
/-! ### Piece.__init__ -/
def spPieceI (CP : Addr) : Sp := fun vs H Q _ => ∃ p dx a b c, vs = [.ref p, a, b, c] ∧ H p = some (.ins CP dx []) ∧ ∀ H', Off p H H' → H' p = some (.ins CP dx [("name", a), ("kind", b), ("rows", c)]) → Q .non H'
theorem scPI : FnScope ["self", "name", "kind", "rows"] ["self", "name", "kind", "rows"] (defScope sPieceI) := ⟨rfl, rfl, rfl, by decide +kernel, rfl, by decide +kernel, by decide +kernel⟩
theorem ok_pieceI {f : Addr} {fd : FuncData} (F : Fun K "__init__" "Piece.__init__" sPieceI f fd) (T : TC K CD CP) : FnOk P w K mg base CX0 1 f fd ["self", "name", "kind", "rows"] (spPieceI CP) := by
  refine F.ok scPI (fun vs H Q E h => ?_) (fun cdv A outer s H vs Q E hr h => ?_)
  · obtain ⟨p, dx, a, b, c, rfl, _⟩ := h
    rfl
  · obtain ⟨p, dx, a, b, c, rfl, hp, q⟩ := h
    refine ⟨_, pss_cons (ps_fld (pv 0) (pv 1) rfl) (pss_cons (ps_fld (pv 0) (pv 2) rfl) (pss_one (ps_fld (pv 0) (pv 3) rfl))), ?_⟩
    refine ⟨a, rfl, _, rfl, p, CP, dx, [], rfl, hp, T.cP, T.pName, (by show 0 < 1000; decide), ?_⟩
    refine ⟨b, rfl, _, rfl, p, CP, dx, [("name", a)], rfl, upd_same, T.cP, T.pKind, (by show 1 < 1000; decide), ?_⟩
    refine ⟨c, rfl, _, rfl, p, CP, dx, [("name", a), ("kind", b)], rfl, upd_same, T.cP, T.pRows, (by show 2 < 1000; decide), ?_⟩
    exact q _ (fun b o ne e => by rw [upd_ne ne, upd_ne ne, upd_ne ne]; exact e) upd_same
end
end TX

set_option Elab.async false
set_option linter.all false
set_option maxRecDepth 100000
set_option maxHeartbeats 4000000
/-! A piece is closed. -/
namespace TX
open PySem PySem.Spec PyProof.Rows L2 L2.FK FS
section
variable {P : Program} {w : World} {K : PySem.W.Frag} {mg : Str → Option Value} {base : Heap} {aO aR dF CD CP CB fB aK : Addr} {es : Array DictEntry} {nF : Nat} {tF : Str → Addr}
def spClose (CD CP CB : Addr) : Sp := fun vs H Q E => ∃ A st op, vs = [.ref A.p] ∧ DAt CD CP A H st ∧ st.op = some op ∧ (op.kind = "func" → ∀ r ∈ op.rows, Good r) ∧ op.rows.length ≤ 16 ∧ st.ps.length < sizeLine ∧
  (∀ i, closePiece op st = .error i → BadOut CB A H (.int i) E) ∧ (∀ st', closePiece op st = .ok st' → ∀ H' A', Kept A H H' → Next H A A' → DAt CD CP A' H' st' → Q .non H')
theorem scCL : FnScope ["self", "at", "row", "target"] ["self"] (defScope (sDraft 8)) := ⟨rfl, rfl, rfl, by decide +kernel, rfl, by decide +kernel, by decide +kernel⟩
/-- what the module has for it -/
structure TB (K : PySem.W.Frag) (mg : Str → Option Value) (CP CB fP fB : Addr) : Prop where
  ec : EC K mg "BadText" CB fB
  gP : mg "Piece" = some (.ref CP)
  mP : Mk K CP fP
  zt : mg "tuple" = none
  ze : mg "enumerate" = none
theorem ok_close {f fT fP : Addr} {fd fdT fdP fdB : FuncData} (F : Fun K "close_piece" "Draft.close_piece" (sDraft 8) f fd) (T : TC K CD CP) (B : TB K mg CP CB fP fB) (zl : mg "len" = none)
    (GT : FnOk P w K mg base CX0 1 fT fdT ["row"] (spTarget K)) (bT : Binds K fdT ["row"] []) (gT : mg "target_of" = some (.ref fT)) (kT : PySem.W.keepIn K (.ref fT) = true)
    (GP : FnOk P w K mg base CX0 1 fP fdP ["self", "name", "kind", "rows"] (spPieceI CP)) (bP : Binds K fdP ["self", "name", "kind", "rows"] [])
    (GB : FnOk P w K mg base CX0 1 fB fdB ["self", "row"] (spBad CB "row")) (bB : Binds K fdB ["self", "row"] []) : FnOk P w K mg base (L2.CX P w) 3 f fd ["self"] (spClose CD CP CB) := by
  refine F.okX scCL (fun vs H Q E h => ?_) (fun cdv A0 outer s H vs Q E hr h => ?_)
  · obtain ⟨A, st, op, rfl, _⟩ := h
    rfl
  · obtain ⟨A, st, op, rfl, D, hop, hg, hl, hps, qe, qo⟩ := h
    have hr1 : Room 1 _ := hr.mono (by decide)
    obtain ⟨dx, k, n, z, r, e1, e2⟩ := D.ob
    rw [hop] at e2
    obtain ⟨y1, y2, y3, dr, rws, y4, y5, y6, y7, y8, y9⟩ := e2
    subst y1 y2 y3 y5
    refine ⟨_, pss_cons (ps_if (pt_cmpR op_eq (pe_fld (pv 0) rfl) pe_str (nomark _))
        (pss_one (ps_for (passes_of rfl) rfl (pi_enum (by rfl) B.ze (pa_cons (pe_fld (pv 0) rfl) pa_nil)) (pg_tup rfl (pgs_cons (pg_name (i := 1) scCL.nd rfl (Or.inl rfl)) (pgs_cons (pg_name (i := 2) scCL.nd rfl (Or.inl rfl)) pgs_nil)))
          (pss_cons (ps_set (i := 3) scCL.nd rfl (.inl rfl) (pe_call GT hr1 rfl gT kT bT .nil pass0 (pa_cons (pv 2) pa_nil)))
          (pss_one (ps_if (PW.pt (pw_and (pt_cmp (pc_notN (pv 3))) (pw_and1 (pt_cmpR op_gt (pv 3) (pe_callB call_len_seq (by rfl) zl PySem.boot_len (pa_cons (pe_fld (pv 0) rfl) pa_nil)) (nomark _)))))
            (pss_one (ps_raise rfl (takes_of rfl rfl rfl rfl) (pmk_oex B.ec.oex B.ec.iC B.ec.tI GB hr bB .nil pass0 rfl B.ec.gC (pa_cons (pe_op op_add (pe_fld (pv 0) rfl) (pv 1)) pa_nil)))) pss_nil))))) pss_nil)
      (pss_cons (ps_expr (pe_bm PySem.F.plainAttrs_list PySem.F.slot_list_append PySem.F.type_list_append mt_append (pe_fld (pv 0) rfl) (pa_cons (pe_make B.mP GP hr rfl B.gP bP .nil pass0 (pa_cons (pe_fld (pv 0) rfl) (pa_cons (pe_fld (pv 0) rfl) (pa_cons (pe_callTy call_tupleS (by rfl) B.zt boot_tuple (pa_cons (pe_fld (pv 0) rfl) pa_nil)) pa_nil)))) pa_nil)))
      (pss_one (ps_fld (pv 0) pe_non rfl))), ?_⟩
    refine ⟨.ref A.p, rfl, A.p, CD, dx, _, .str op.kind, rfl, e1, T.cD, T.nKind, rfl, rfl, _, rfl, ?_⟩
    rw [str_eq]
    refine ite2 (fun h => ?caseA) (fun h => ?caseB)
    case' caseA =>
      have hk : op.kind = "func" := of_decide_eq_true h
      refine ⟨.ref A.p, rfl, A.p, CD, dx, _, .ref dr, rfl, e1, T.cD, T.nRows, rfl, dr, _, rfl, SqL.of y6, for_it (walk_enum (xs := rws)) (fun i σ H' => ∃ v1 v2 v3, σ = [some (.ref A.p), v1, v2, v3] ∧ Same H H' ∧ badFrom op.rows.length (op.rows.drop i) (i : Nat) = badFrom op.rows.length op.rows 0)
        ⟨none, none, none, rfl, Same.refl H, by rw [List.drop_zero]; rfl⟩ (fun i σ H' _ ⟨_, _, _, _, s1, _⟩ => s1.seq (SqL.of y6)) ?turn ?done⟩
      case turn =>
        rintro i x0 σ H1 H2 hi ⟨v1, v2, v3, rfl, s1, eb⟩ ⟨T1, x, y, rfl, nT, rfl, hx, hy⟩
        cases hx
        have s2 : Same H (upd H1 T1 (.tup [.int (i : Nat), y])) := s1.trans (same_new nT)
        obtain ⟨r, hri, hrow⟩ := pair_get y7 hy
        have hgr := hg hk r (List.mem_of_getElem? hri)
        have ed : op.rows.drop i = r :: op.rows.drop (i + 1) := by
          rw [List.drop_eq_getElem_cons (List.getElem?_eq_some_iff.mp hri).1]
          rw [(List.getElem?_eq_some_iff.mp hri).2]
        rw [ed] at eb
        cases r with
        | dat d => exact hgr.elim
        | ins xs =>
          obtain ⟨⟨w1, rr, form, exs, hform⟩, ht⟩ := hgr
          obtain ⟨q, ey, eq⟩ := hrow
          subst ey
          have e1' := s2 _ _ e1
          refine ⟨T1, _, rfl, SqT.of upd_same, rfl, _, _, rfl, _, _, rfl, rfl, ?_⟩
          refine ⟨.ref q, rfl, q, xs, w1, rr, form, rfl, SqT.of (s2 _ _ eq), exs, hform, ?_⟩
          refine ⟨targetOf xs, rfl, _, rfl, ?_⟩
          rcases ht with ht | ⟨t, ht⟩
          · rw [ht]
            refine iteF (iteF ⟨_, _, _, rfl, s2, ?_⟩)
            have ng : tooGreat op.rows.length (.ins xs) = false := by
              show (match targetOf xs with | .int t => decide (((op.rows.length : Nat) : Int) < t) | _ => false) = false
              rw [ht]
            rw [← eb]
            show badFrom op.rows.length (op.rows.drop (i + 1)) ((i + 1 : Nat) : Int) = (if tooGreat op.rows.length (.ins xs) = true then _ else _)
            rw [ng, if_neg Bool.false_ne_true]
            congr 1
          · have gt : tooGreat op.rows.length (.ins xs) = decide (((op.rows.length : Nat) : Int) < t) := by
              show (match targetOf xs with | .int t => decide (((op.rows.length : Nat) : Int) < t) | _ => false) = _
              rw [ht]
            have eb' : (if tooGreat op.rows.length (.ins xs) = true then some (i : Int) else badFrom op.rows.length (op.rows.drop (i + 1)) ((i : Int) + 1)) = badFrom op.rows.length op.rows 0 := eb
            rw [ht]
            refine iteT ⟨_, rfl, .ref A.p, rfl, A.p, CD, dx, _, .ref dr, rfl, e1', T.cD, T.nRows, rfl, dr, _, rfl, .inl (SqL.of (s2 _ _ y6)), t, _, rfl, rfl, _, rfl, ?_⟩
            rw [← y7.length]
            refine ite2 (fun hgt => ?_) (fun hgt => ?_)
            · rw [gt, if_pos hgt] at eb'
              refine ⟨.ref A.p, rfl, A.p, CD, dx, _, .int op.start, rfl, e1', T.cD, T.nStart, rfl, .int (i : Nat), rfl, op.start, (i : Nat), rfl, rfl, bad_mk fun d H' nd s3 e9 => ?_⟩
              refine qe (op.start + i) ?_ d H' (Kept.of (s2.trans s3)) e9
              unfold closePiece
              rw [if_pos hk, ← eb']
            · rw [gt, if_neg hgt] at eb'
              refine ⟨_, _, _, rfl, s2, ?_⟩
              rw [← eb']
              congr 1
      case' done =>
        rintro σ H' ⟨v1, v2, v3, rfl, s1, eb⟩
        have ec : closePiece op st = .ok { st with ps := st.ps ++ [⟨op.name, op.kind, op.rows⟩], op := none } := by
          rw [← y7.length, List.drop_length] at eb
          unfold closePiece
          rw [if_pos hk, ← eb]
          rfl
    case' caseB =>
      have s1 : Same H H := Same.refl H
      have ec : closePiece op st = .ok { st with ps := st.ps ++ [⟨op.name, op.kind, op.rows⟩], op := none } := by
        unfold closePiece
        rw [if_neg fun e => h (decide_eq_true e)]
    all_goals
      have e1' := s1 _ _ e1
      obtain ⟨vs, e3, e4⟩ := D.dp
      refine ⟨.ref A.p, rfl, A.p, CD, dx, _, .ref A.dp, rfl, e1', T.cD, T.nPieces, rfl, .inl ⟨rfl, _, SqL.of (s1 _ _ e3)⟩, ?_⟩
      refine ⟨.ref A.p, rfl, A.p, CD, dx, _, .str op.name, rfl, e1', T.cD, T.nName, rfl, ?_⟩
      refine ⟨.ref A.p, rfl, A.p, CD, dx, _, .str op.kind, rfl, e1', T.cD, T.nKind, rfl, ?_⟩
      refine ⟨.ref A.p, rfl, A.p, CD, dx, _, .ref dr, rfl, e1', T.cD, T.nRows, rfl, dr, rws, rfl, SqL.of (s1 _ _ y6), fun t H2 s2 nt et => ?_⟩
      refine fun x dx2 nx ndx nex => ⟨x, dx2, .str op.name, .str op.kind, .ref t, rfl, upd_same, fun H3 off e9 => ⟨rfl, ?_⟩⟩
      have s3 : Same H2 H3 := fun b o e => off b o (ne_of_none e nx) (by rw [upd_ne (ne_of_none e nx), upd_ne (ne_of_none e ndx)]; exact e)
      have s : Same H H3 := (s1.trans s2).trans s3
      have D3 := D.mono s
      have hv : PieceAt CP H3 ⟨op.name, op.kind, op.rows⟩ (.ref x) := ⟨x, dx2, t, rws, rfl, e9, s3 _ _ et, pair_mono (fun _ _ h => h.mono (Fix.of (CP := CP) s)) y7⟩
      have e4' : Paired (PieceAt CP H3) st.ps vs := pair_mono (fun _ _ h => h.mono (Fix.of s)) e4
      refine ⟨A.dp, vs, .ref x, rfl, rfl, s _ _ e3, by rw [← e4.length]; exact hps, ?_⟩
      have B1 := D3.db.put_ps (s _ _ e3) e4' hv
      have npd : A.p ≠ A.dp := ne_of e1 e3 (by intro z; cases z)
      have e7 : (upd H3 A.dp (.lst (vs ++ [.ref x]))) A.p = some (.ins CD dx (dflds A (.str op.kind) (.str op.name) (.int op.start) (.ref dr))) := by
        rw [upd_ne npd]
        exact s _ _ e1
      refine ⟨.ref A.p, rfl, A.p, CD, dx, dflds A (.str op.kind) (.str op.name) (.int op.start) (.ref dr), rfl, e7, T.cD, T.nKind, (by show 8 < 1000; decide), ?_⟩
      have B2 := B1.put (dx' := dx) (fs' := dflds A .non (.str op.name) (.int op.start) (.ref dr)) T.ne e7
      refine qo _ ec _ { A with dr := none } (((Kept.of s).trans (Kept.upd (.inr (.inl rfl)))).trans (Kept.upd (.inl rfl))) ⟨rfl, rfl, rfl, rfl, rfl, fun b hb => nomatch hb⟩ ?_
      exact B2.dAt (dr := none) (op := none) upd_same ⟨rfl, rfl⟩
end
end TX

set_option Elab.async false
set_option linter.all false
set_option maxRecDepth 100000
set_option maxHeartbeats 4000000
/-! What stays true of a draft, row by row. -/
namespace TX
open PySem PySem.Spec PyProof.Rows L2 L2.FK FS
def StOk (st : ST) : Prop := ∀ op, st.op = some op → op.rows.length ≤ 16 ∧ (op.kind = "func" → ∀ r ∈ op.rows, Good r)
def wt (st : ST) : Nat := st.ps.length + st.ex.length + st.al.length + st.nm.length
abbrev TO1 : List Str := ["to"]
abbrev TO3 : List Str := ["reg", "reg", "to"]
theorem forms_to : ∀ p ∈ FORM, p.2.contains "to" = true → p.2 = TO1 ∨ p.2 = TO3 := by decide +kernel
theorem to_int (z : Str) : readPart z "to" = optI (readInt z) := by
  unfold readPart
  rw [if_neg (by decide +kernel), if_neg (by decide +kernel)]
theorem readIns_good {ws : List Str} {xs : List V} (h : readIns ws = some xs) : Good (.ins xs) := by
  cases ws with
  | nil => cases h
  | cons w1 rest =>
    cases hf : formOf w1 with
    | none => rw [readIns_none hf] at h; cases h
    | some form =>
      rw [readIns_some hf] at h
      split at h
      · cases h
      · rename_i hlen
        split at h
        · cases h
        · rename_i hany
          obtain rfl : V.str w1 :: List.zipWith readPart rest form = xs := Option.some.inj h
          have hrl : rest.length = form.length := by
            have : (w1 :: rest).length = form.length + 1 := Classical.not_not.mp hlen
            simpa using this
          refine ⟨⟨w1, _, form, rfl, hf⟩, ?_⟩
          have et : targetOf (V.str w1 :: List.zipWith readPart rest form) = if form.contains "to" = true then (V.str w1 :: List.zipWith readPart rest form).getLast?.getD .non else .non := by
            simp only [targetOf, hf]
          rw [et]
          by_cases hto : form.contains "to" = true
          · rw [if_pos hto]
            have hno : ∀ v ∈ List.zipWith readPart rest form, v ≠ V.non := fun v hv e => hany (List.any_eq_true.mpr ⟨v, hv, decide_eq_true e⟩)
            have fin : ∀ z, readPart z "to" ≠ V.non → ∃ t, readPart z "to" = V.int t := fun z hz => by
              rw [to_int] at hz ⊢
              cases q : readInt z with
              | none => rw [q] at hz; exact absurd rfl hz
              | some i => exact ⟨i, rfl⟩
            rcases forms_to (w1, form) (PySem.mem_of_lookup hf) hto with e | e
            · have e : form = TO1 := e
              subst e
              match rest, hrl, hno with
              | [z], _, hno => exact .inr (fin z (hno _ (by simp)))
            · have e : form = TO3 := e
              subst e
              match rest, hrl, hno with
              | [x, y, z], _, hno => exact .inr (fin z (hno _ (by simp)))
          · rw [if_neg hto]
            exact .inl rfl
theorem exportsGo_op : ∀ {ws : List Str} {st st' : ST}, exportsGo ws st = some st' → st'.op = st.op ∧ wt st' = wt st + ws.length
  | [], st, st', h => by cases h; exact ⟨rfl, rfl⟩
  | z :: r, st, st', h => by
    unfold exportsGo at h
    split at h
    · obtain ⟨h1, h2⟩ := exportsGo_op h
      refine ⟨h1, ?_⟩
      rw [h2, List.length_cons]
      unfold wt
      show st.ps.length + (st.ex ++ [z]).length + st.al.length + st.nm.length + r.length = _
      rw [List.length_append, List.length_singleton]
      omega
    · cases h
theorem takeName_wt {z : Str} {st st1 : ST} (h : takeName z st = some st1) : wt st1 = wt st + 1 := by
  unfold takeName at h
  split at h
  · cases h
    unfold wt
    show st.ps.length + st.ex.length + st.al.length + (st.nm ++ [z]).length = _
    rw [List.length_append, List.length_singleton]
    omega
  · cases h
theorem between_ok {num : Int} {ws : List Str} {st st' : ST} (h : takeBetween num ws st = some st') (ho : st.op = none) : StOk st' ∧ wt st' ≤ wt st + ws.length := by
  cases ws with
  | nil => cases h
  | cons w1 rest =>
    have h : (if w1 = "export" then takeExports rest st else if w1 = "alias" then takeAlias rest st else if w1 = "func" ∨ w1 = "data" then openPiece num (w1 :: rest) st else none) = some st' := h
    split at h
    · unfold takeExports at h
      split at h
      · cases h
      · obtain ⟨h1, h2⟩ := exportsGo_op h
        exact ⟨fun op e => (by rw [h1, ho] at e; cases e), by rw [h2, List.length_cons]; omega⟩
    · split at h
      · match rest, h with
        | [x, y], h =>
          have h : (if isName y = true then (takeName x st).map fun s => { s with al := s.al ++ [(x, y)] } else none) = some st' := h
          split at h
          · cases q : takeName x st with
            | none => rw [q] at h; cases h
            | some s1 =>
              rw [q] at h
              cases h
              refine ⟨fun op e => ?_, ?_⟩
              · have := (takeName_op q).1
                rw [ho] at this
                rw [show s1.op = some op from e] at this
                cases this
              · have e1 := takeName_wt q
                show s1.ps.length + s1.ex.length + (s1.al ++ [(x, y)]).length + s1.nm.length ≤ wt st + 3
                unfold wt at e1 ⊢
                rw [List.length_append, List.length_singleton]
                omega
          · cases h
      · split at h
        · match rest, h with
          | [n], h =>
            have h : (if st.ps.length = 12 then none else (takeName n st).map fun s => { s with op := some ⟨w1, n, num + 1, []⟩ }) = some st' := h
            split at h
            · cases h
            · cases q : takeName n st with
              | none => rw [q] at h; cases h
              | some s1 =>
                rw [q] at h
                cases h
                refine ⟨fun op e => ?_, ?_⟩
                · have e : some (OP.mk w1 n (num + 1) []) = some op := e
                  cases e
                  exact ⟨by simp, fun _ r hr => by cases hr⟩
                · have e1 := takeName_wt q
                  show wt s1 ≤ wt st + 2
                  omega
        · cases h
theorem within_ok {ws : List Str} {op : OP} {st st' : ST} (h : takeWithin ws op st = some st') (ho : st.op = some op) (hs : StOk st) : StOk st' ∧ wt st' = wt st := by
  unfold takeWithin at h
  split at h
  · cases h
  · rename_i r hr
    split at h
    · cases h
    · rename_i h16
      cases h
      obtain ⟨h1, h2⟩ := hs op ho
      refine ⟨fun op' e => ?_, rfl⟩
      have e : some { op with rows := op.rows ++ [r] } = some op' := e
      cases e
      refine ⟨?_, fun hk x hx => ?_⟩
      · show (op.rows ++ [r]).length ≤ 16
        rw [List.length_append, List.length_singleton]
        omega
      · rcases List.mem_append.mp hx with hx | hx
        · exact h2 hk x hx
        · have hx : x = r := by simpa using hx
          subst hx
          unfold rowOf at hr
          rw [if_pos hk] at hr
          cases q : readIns ws with
          | none => rw [q] at hr; cases hr
          | some xs => rw [q] at hr; cases hr; exact readIns_good q
theorem close_ok {op : OP} {st st' : ST} (h : closePiece op st = .ok st') : StOk st' ∧ wt st' = wt st + 1 := by
  unfold closePiece at h
  split at h
  · cases h
  · cases h
    refine ⟨fun op' e => (nomatch e), ?_⟩
    show (st.ps ++ [_]).length + st.ex.length + st.al.length + st.nm.length = _
    rw [List.length_append, List.length_singleton]
    unfold wt
    omega
theorem takeRow_ok {num : Int} {ws : List Str} {st st' : ST} (hne : ws ≠ []) (h : takeRow num ws st = .ok st') (hs : StOk st) : StOk st' ∧ wt st' ≤ wt st + ws.length := by
  have h1 : 1 ≤ ws.length := List.length_pos_iff.mpr hne
  unfold takeRow at h
  split at h
  · rename_i ho
    split at h
    · rename_i s q
      cases h
      exact between_ok q ho
    · cases h
  · rename_i op ho
    split at h
    · obtain ⟨a, b⟩ := close_ok h
      exact ⟨a, by omega⟩
    · split at h
      · rename_i s q
        cases h
        obtain ⟨a, b⟩ := within_ok q ho hs
        exact ⟨a, by omega⟩
      · cases h
end TX

set_option Elab.async false
set_option linter.all false
set_option maxRecDepth 100000
set_option maxHeartbeats 4000000
/-! A draft takes a row. -/
namespace TX
open PySem PySem.Spec PyProof.Rows L2 L2.FK FS
theorem Dp.strs {K : PySem.W.Frag} {H : Hp} : ∀ ws : List Str, DpAll K H (ws.map V.str) (ws.map PyData.str)
  | [] => .nil
  | z :: r => .cons (.str z) (Dp.strs r)
theorem eqv_strs : ∀ a b : List Str, PyData.eqv (.list (a.map PyData.str)) (.list (b.map PyData.str)) = decide (a = b) := by
  intro a b
  have key : ∀ a b : List Str, PyData.eqvAll (a.map PyData.str) (b.map PyData.str) = decide (a = b) := by
    intro a
    induction a with
    | nil => intro b; cases b <;> simp [PyData.eqvAll]
    | cons x r ih =>
      intro b
      cases b with
      | nil => simp [PyData.eqvAll]
      | cons y q =>
        simp only [List.map_cons, PyData.eqvAll, ih]
        by_cases e : x = y
        · subst e; simp [PyData.eqv]
        · simp [PyData.eqv, e]
  simp only [PyData.eqv, key]
theorem shaped_strs (a : List Str) (ha : ∀ z ∈ a, PyData.strOk z = true) : SeqAt.shaped (.list (a.map PyData.str)) = true := by
  have k1 : ∀ a : List Str, (∀ z ∈ a, PyData.strOk z = true) → PyData.canLayAll0 (a.map PyData.str) = true := by
    intro a
    induction a with
    | nil => simp [PyData.canLayAll0]
    | cons x r ih => intro h; simp [PyData.canLayAll0, PyData.canLay0, ih (fun z hz => h z (List.mem_cons_of_mem _ hz)), h x (List.mem_cons_self ..)]
  have k2 : ∀ a : List Str, PyData.depthAll (a.map PyData.str) = 0 := by
    intro a
    induction a with
    | nil => simp [PyData.depthAll]
    | cons x r ih => simp [PyData.depthAll, PyData.depth, ih]
  simp [SeqAt.shaped, PyData.canLay0, PyData.depth, k1 a ha, k2]
section
variable {P : Program} {w : World} {K : PySem.W.Frag} {mg : Str → Option Value} {base : Heap} {aO aR dF CD CP CB fB aK : Addr} {es : Array DictEntry} {nF : Nat} {tF : Str → Addr}
def spTake (CD CP CB : Addr) : Sp := fun vs H Q E => ∃ A st num a, ∃ ws : List Str, vs = [.ref A.p, .int num, .ref a] ∧ DAt CD CP A H st ∧ H a = some (.lst (ws.map V.str)) ∧ ¬ Foot A a ∧ ws ≠ [] ∧ (∀ z ∈ ws, Wd z) ∧ (∀ z ∈ ws, PyData.strOk z = true) ∧ StOk st ∧ wt st + ws.length < sizeLine ∧
  (∀ i, takeRow num ws st = .error i → BadOut CB A H (.int i) E) ∧ (∀ st', takeRow num ws st = .ok st' → ∀ H' A', Kept A H H' → Next H A A' → DAt CD CP A' H' st' → Q .non H')
theorem scT : FnScope ["self", "number", "words", "right"] ["self", "number", "words"] (defScope (sDraft 1)) := ⟨rfl, rfl, rfl, by decide +kernel, rfl, by decide +kernel, by decide +kernel⟩
theorem ok_take {f fBt fW fC fP : Addr} {fd fdBt fdW fdC fdB : FuncData} (F : Fun K "take" "Draft.take" (sDraft 1) f fd) (T : TC K CD CP) (B : TB K mg CP CB fP fB)
    (GBt : FnOk P w K mg base CX0 4 fBt fdBt ["self", "number", "words"] (spBetween CD CP)) (bBt : Binds K fdBt ["self", "number", "words"] []) (mBt : Meth K CD "take_between" fBt)
    (GW : FnOk P w K mg base CX0 5 fW fdW ["self", "words"] (spWithin CD CP)) (bW : Binds K fdW ["self", "words"] []) (mW : Meth K CD "take_within" fW)
    (GC : FnOk P w K mg base (L2.CX P w) 3 fC fdC ["self"] (spClose CD CP CB)) (bC : Binds K fdC ["self"] []) (mC : Meth K CD "close_piece" fC)
    (GB : FnOk P w K mg base CX0 1 fB fdB ["self", "row"] (spBad CB "row")) (bB : Binds K fdB ["self", "row"] []) : FnOk P w K mg base (L2.CX P w) 6 f fd ["self", "number", "words"] (spTake CD CP CB) := by
  refine F.okX scT (fun vs H Q E h => ?_) (fun cdv A0 outer s H vs Q E hr h => ?_)
  · obtain ⟨A, st, num, a, ws, rfl, _⟩ := h
    rfl
  · obtain ⟨A, st, num, a, ws, rfl, D, ha, na, hne, hw, hok, hs, hwt, qe, qo⟩ := h
    have hr3 : Room 3 _ := hr.mono (by decide)
    have hr4 : Room 4 _ := hr.mono (by decide)
    have hr2 : Room 2 _ := hr.mono (by decide)
    refine ⟨_, pss_cons (ps_if (pt_cmp (pc_isN (pe_fld (pv 0) rfl)))
        (pss_one (ps_set (i := 3) scT.nd rfl (.inl rfl) (pe_meth (pv 0) T.cD mBt GBt hr4 bBt .nil pass0 (pa_cons (pv 1) (pa_cons (pv 2) pa_nil)))))
        (pss_one (ps_if (pt_cmpR (op_eqD hr.units) (pv 2) (pe_lstS (pa_cons pe_str pa_nil)) (nomark _))
          (pss_cons (ps_expr (pe_meth0 (pv 0) T.cD mC GC hr3 bC .nil (passes_call (takes_of rfl rfl rfl rfl) (fun _ _ _ _ h => h)))) (pss_one (ps_set (i := 3) scT.nd rfl (.inl rfl) pe_bl)))
          (pss_one (ps_set (i := 3) scT.nd rfl (.inl rfl) (pe_meth (pv 0) T.cD mW GW hr bW .nil pass0 (pa_cons (pv 2) pa_nil)))))))
      (pss_one (ps_if (pt_not (pt_val (pv 3))) (pss_one (ps_raise rfl (takes_of rfl rfl rfl rfl) (pmk_oex B.ec.oex B.ec.iC B.ec.tI GB hr2 bB .nil pass0 rfl B.ec.gC (pa_cons (pv 1) pa_nil)))) pss_nil)), ?_⟩
    obtain ⟨dx, k, n, z, r, e1, e2⟩ := D.ob
    have l1 : st.nm.length < sizeLine := by unfold wt at hwt; omega
    have l2 : st.al.length < sizeLine := by unfold wt at hwt; omega
    have l3 : st.ex.length + ws.length < sizeLine := by unfold wt at hwt; omega
    have l4 : st.ps.length < sizeLine := by unfold wt at hwt; omega
    refine ⟨.ref A.p, rfl, A.p, CD, dx, _, k, rfl, e1, T.cD, T.nKind, rfl, _, rfl, ?_⟩
    cases ho : st.op with
    | none =>
      rw [ho] at e2
      have ek : k = .non := e2.1
      subst ek
      have er : takeRow num ws st = (match takeBetween num ws st with | some s => .ok s | none => .error num) := by
        unfold takeRow
        rw [ho] <;> rfl
      refine iteT ⟨.ref A.p, rfl, A.p, dx, _, rfl, e1, rfl, .int num, rfl, .ref a, rfl, A, st, a, num, ws, rfl, D, ho, ha, na, hne, hw, l1, l2, l3, fun en H' k' => ?_, fun st' en H' A' k' n' D' => ?_⟩
      · refine ⟨_, rfl, _, rfl, iteT ⟨.int num, rfl, bad_mk fun d H2 nd s2 e9 => qe num (by rw [er, en]) d H2 (k'.trans (Kept.of s2)) e9⟩⟩
      · exact ⟨_, rfl, _, rfl, iteF (qo st' (by rw [er, en]) H' A' k' n' D')⟩
    | some op =>
      rw [ho] at e2
      have ek : k = .str op.kind := e2.1
      subst ek
      refine iteF ?_
      refine ⟨.ref a, rfl, by simp, fun p1 H1 s1 n1 e9 => ?_⟩
      refine ⟨.list (ws.map PyData.str), .list ([("end" : Str)].map PyData.str), .lst (SqL.of (s1 _ _ ha)) (Dp.strs ws), .lst (SqL.of e9) (Dp.strs [("end" : Str)]), shaped_strs _ hok, shaped_strs _ (by decide +kernel), _, rfl, ?_⟩
      rw [eqv_strs]
      have D1 := D.mono s1
      have e1' := s1 _ _ e1
      refine ite2 (fun h => ?_) (fun h => ?_)
      · have hend : ws = [("end" : Str)] := of_decide_eq_true h
        have er : takeRow num ws st = closePiece op st := by
          unfold takeRow
          rw [ho]
          show (if ws = [("end" : Str)] then _ else _) = _
          rw [if_pos hend]
        refine ⟨.ref A.p, rfl, A.p, dx, _, rfl, e1', rfl, A, st, op, rfl, D1, ho, (hs op ho).2, (hs op ho).1, l4, fun i en d H' k' e9 => ?_, fun st' en H' A' k' n' D' => ?_⟩
        · exact qe i (by rw [er, en]) d H' ((Kept.of s1).trans k') e9
        · exact ⟨_, rfl, _, rfl, iteF (qo st' (by rw [er, en]) H' A' ((Kept.of s1).trans k') (n'.here s1) D')⟩
      · have hend : ¬ ws = [("end" : Str)] := fun e => h (decide_eq_true e)
        have er : takeRow num ws st = (match takeWithin ws op st with | some s => .ok s | none => .error num) := by
          unfold takeRow
          rw [ho]
          show (if ws = [("end" : Str)] then _ else _) = _
          rw [if_neg hend] <;> rfl
        refine ⟨.ref A.p, rfl, A.p, dx, _, rfl, e1', rfl, .ref a, rfl, A, st, op, a, ws, rfl, D1, ho, s1 _ _ ha, na, hne, hw, (hs op ho).1, fun en H' k' => ?_, fun st' en H' A' k' n' D' => ?_⟩
        · refine ⟨_, rfl, _, rfl, iteT ⟨.int num, rfl, bad_mk fun d H2 nd s2 e9 => qe num (by rw [er, en]) d H2 (((Kept.of s1).trans k').trans (Kept.of s2)) e9⟩⟩
        · exact ⟨_, rfl, _, rfl, iteF (qo st' (by rw [er, en]) H' A' ((Kept.of s1).trans k') (n'.here s1) D')⟩
end
end TX

set_option Elab.async false
set_option linter.all false
set_option maxRecDepth 100000
set_option maxHeartbeats 4000000
/-! A draft and a module are made. -/
namespace TX
open PySem PySem.Spec PyProof.Rows L2 L2.FK FS
section
variable {P : Program} {w : World} {K : PySem.W.Frag} {mg : Str → Option Value} {base : Heap} {aO aR dF CD CP CM CB fB aK : Addr} {es : Array DictEntry} {nF : Nat} {tF : Str → Addr}
/-! ### Draft.__init__ -/
def spDraftI (CD CP : Addr) : Sp := fun vs H Q _ => ∃ p dx, vs = [.ref p] ∧ H p = some (.ins CD dx []) ∧ ∀ A H', A.p = p → A.dr = none → Off p H H' → H A.dp = none → H A.de = none → H A.da = none → H A.dn = none → DAt CD CP A H' st0 → Q .non H'
theorem scDI : FnScope ["self"] ["self"] (defScope (sDraft 0)) := ⟨rfl, rfl, rfl, by decide +kernel, rfl, by decide +kernel, by decide +kernel⟩
theorem ok_draftI {f : Addr} {fd : FuncData} (F : Fun K "__init__" "Draft.__init__" (sDraft 0) f fd) (T : TC K CD CP) : FnOk P w K mg base CX0 1 f fd ["self"] (spDraftI CD CP) := by
  refine F.ok scDI (fun vs H Q E h => ?_) (fun cdv A outer s H vs Q E hr h => ?_)
  · obtain ⟨p, dx, rfl, _⟩ := h
    rfl
  · obtain ⟨p, dx, rfl, hp, q⟩ := h
    refine ⟨_, pss_cons (ps_fld (pv 0) (pe_lstS pa_nil) rfl) (pss_cons (ps_fld (pv 0) pe_dictS rfl) (pss_cons (ps_fld (pv 0) (pe_lstS pa_nil) rfl) (pss_cons (ps_fld (pv 0) pe_dictS rfl)
      (pss_cons (ps_fld (pv 0) pe_non rfl) (pss_cons (ps_fld (pv 0) pe_non rfl) (pss_cons (ps_fld (pv 0) pe_int rfl) (pss_one (ps_fld (pv 0) (pe_lstS pa_nil) rfl)))))))), ?_⟩
    refine ⟨by simp, fun dp H1 s1 n1 e1 => ⟨_, rfl, p, CD, dx, [], rfl, s1 _ _ hp, T.cD, T.nPieces, (by show 0 < 1000; decide), ?_⟩⟩
    have pdp : dp ≠ p := (ne_of_none hp n1).symm
    refine fun de H2 s2 n2 e2 => ⟨_, rfl, p, CD, dx, [("pieces", .ref dp)], rfl, s2 _ _ upd_same, T.cD, T.nExports, (by show 1 < 1000; decide), ?_⟩
    have pde : de ≠ p := fun e => by rw [e, upd_same] at n2; cases n2
    refine ⟨by simp, fun da H3 s3 n3 e3 => ⟨_, rfl, p, CD, dx, [("pieces", .ref dp), ("exports", .ref de)], rfl, s3 _ _ upd_same, T.cD, T.nAliases, (by show 2 < 1000; decide), ?_⟩⟩
    have pda : da ≠ p := fun e => by rw [e, upd_same] at n3; cases n3
    refine fun dn H4 s4 n4 e4 => ⟨_, rfl, p, CD, dx, [("pieces", .ref dp), ("exports", .ref de), ("aliases", .ref da)], rfl, s4 _ _ upd_same, T.cD, T.nNamed, (by show 3 < 1000; decide), ?_⟩
    have pdn : dn ≠ p := fun e => by rw [e, upd_same] at n4; cases n4
    refine ⟨_, rfl, p, CD, dx, [("pieces", .ref dp), ("exports", .ref de), ("aliases", .ref da), ("named", .ref dn)], rfl, upd_same, T.cD, T.nKind, (by show 4 < 1000; decide), ?_⟩
    refine ⟨_, rfl, p, CD, dx, [("pieces", .ref dp), ("exports", .ref de), ("aliases", .ref da), ("named", .ref dn), ("kind", .non)], rfl, upd_same, T.cD, T.nName, (by show 5 < 1000; decide), ?_⟩
    refine ⟨_, rfl, p, CD, dx, [("pieces", .ref dp), ("exports", .ref de), ("aliases", .ref da), ("named", .ref dn), ("kind", .non), ("name", .non)], rfl, upd_same, T.cD, T.nStart, (by show 6 < 1000; decide), ?_⟩
    refine ⟨by simp, fun dr H5 s5 n5 e5 => ⟨_, rfl, p, CD, dx, [("pieces", .ref dp), ("exports", .ref de), ("aliases", .ref da), ("named", .ref dn), ("kind", .non), ("name", .non), ("start", .int 0)], rfl, s5 _ _ upd_same, T.cD, T.nRows, (by show 7 < 1000; decide), ?_⟩⟩
    -- where each thing stands
    have st5 : ∀ {b : Addr} {o : HO}, b ≠ p → H4 b = some o → H5 b = some o := fun {b o} hb e => s5 _ _ (by rw [upd_ne hb, upd_ne hb, upd_ne hb, upd_ne hb]; exact e)
    have st4 : ∀ {b : Addr} {o : HO}, b ≠ p → H3 b = some o → H4 b = some o := fun {b o} hb e => s4 _ _ (by rw [upd_ne hb]; exact e)
    have st3 : ∀ {b : Addr} {o : HO}, b ≠ p → H2 b = some o → H3 b = some o := fun {b o} hb e => s3 _ _ (by rw [upd_ne hb]; exact e)
    have st2 : ∀ {b : Addr} {o : HO}, b ≠ p → H1 b = some o → H2 b = some o := fun {b o} hb e => s2 _ _ (by rw [upd_ne hb]; exact e)
    have m2 : ∀ {b : Addr}, b ≠ p → upd H1 p (.ins CD dx (putF "pieces" (.ref dp) [])) b = none → H b = none := fun {b} hb e => by
      rw [upd_ne hb] at e
      exact same_none s1 e
    have m3 : ∀ {b : Addr}, b ≠ p → H2 b = none → H b = none := fun {b} hb e => m2 hb (same_none s2 e)
    have m4 : ∀ {b : Addr}, b ≠ p → H3 b = none → H b = none := fun {b} hb e => m3 hb (by
      have := same_none s3 e
      rw [upd_ne hb] at this
      exact this)
    have x3 : H2 da = none := by rw [upd_ne pda] at n3; exact n3
    have x4 : H3 dn = none := by rw [upd_ne pdn] at n4; exact n4
    refine q ⟨p, dp, de, da, dn, none⟩ _ rfl rfl ?_ n1 (m2 pde n2) (m3 pda x3) (m4 pdn x4) ?_
    · intro b o hb e
      rw [upd_ne hb]
      exact st5 hb (st4 hb (st3 hb (st2 hb (s1 _ _ e))))
    · refine ⟨⟨dx, .non, .non, .int 0, .ref dr, upd_same, rfl, rfl⟩, ⟨[], ?_, .nil⟩, ?_, ⟨[], ?_, .nil⟩, ?_, ?_, ?_⟩
      · rw [upd_ne pdp]
        exact st5 pdp (st4 pdp (st3 pdp (st2 pdp e1)))
      · rw [upd_ne pde]
        exact st5 pde (st4 pde (st3 pde e2))
      · rw [upd_ne pda]
        exact st5 pda (st4 pda e3)
      · rw [upd_ne pdn]
        exact st5 pdn e4
      · intro e
        have e : dp = da := e
        have := st2 pdp e1
        rw [e, x3] at this
        cases this
      · intro e
        have e : de = dn := e
        have := st3 pde e2
        rw [e, x4] at this
        cases this
end
end TX

set_option Elab.async false
set_option linter.all false
set_option maxRecDepth 100000
set_option maxHeartbeats 4000000
/-! A module is made. -/
namespace TX
open PySem PySem.Spec PyProof.Rows L2 L2.FK FS
abbrev sModI : Stmt := inClass (top (TX.o + 11)) 0
structure TMd (K : PySem.W.Frag) (CM : Addr) : Prop where
  cM : Cls K CM
  nPieces : NoAttr K CM "pieces"
  nExports : NoAttr K CM "exports"
  nAliases : NoAttr K CM "aliases"
  nNamed : NoAttr K CM "_named"
/-- the dict's keys are the names zs -/
def NamedOk (kvs : List (Key × V)) (zs : List Str) : Prop := ∀ z, (valV kvs (Sum.inr z : Key)).isSome = zs.contains z
theorem NamedOk.put {kvs : List (Key × V)} {zs : List Str} {z : Str} {v : V} (h : NamedOk kvs zs) : NamedOk (putK kvs (Sum.inr z : Key) v) (zs ++ [z]) := by
  intro y
  rw [valV_put]
  by_cases e : y = z
  · subst e
    rw [if_pos rfl]
    simp
  · have ne : ¬ (Sum.inr y : Key) = Sum.inr z := fun q => e (Sum.inr.inj q)
    rw [if_neg ne, h y]
    have : ([z] : List Str).contains y = false := by simpa using e
    rw [List.contains_append, this, Bool.or_false]
theorem putK_len (kvs : List (Key × V)) (k : Key) (v : V) : (putK kvs k v).length ≤ kvs.length + 1 := by
  unfold putK
  split
  · rw [List.length_map]; omega
  · rw [List.length_append, List.length_singleton]
    exact Nat.le_refl _
theorem pair_get' {α : Type} {R : α → V → Prop} {xs : List α} {vs : List V} {i : Nat} {v : V} (h : Paired R xs vs) (e : vs[i]? = some v) : ∃ x, xs[i]? = some x ∧ xs.take (i + 1) = xs.take i ++ [x] ∧ R x v := by
  obtain ⟨x, h1, h2⟩ := pair_get h e
  refine ⟨x, h1, ?_, h2⟩
  rw [List.take_add_one, h1]
  rfl
def mflds (tp e ta nd : V) : List (Str × V) := [("pieces", tp), ("exports", e), ("aliases", ta), ("_named", nd)]
section
variable {P : Program} {w : World} {K : PySem.W.Frag} {mg : Str → Option Value} {base : Heap} {aO aR dF CD CP CM CB fB aK : Addr} {es : Array DictEntry} {nF : Nat} {tF : Str → Addr}
def spModI (CM CP : Addr) : Sp := fun vs H Q _ => ∃ p dx tp ta ev, ∃ (ps : List MP) (pvs : List V) (al : List (Str × Str)) (avs : List V), vs = [.ref p, .ref tp, ev, .ref ta] ∧ H p = some (.ins CM dx []) ∧ H tp = some (.tup pvs) ∧ Paired (PieceAt CP H) ps pvs ∧ H ta = some (.tup avs) ∧ Paired (AliAt H) al avs ∧
  ps.length + al.length < sizeLine ∧ ∀ H' nd kvs, Off p H H' → H nd = none → H' p = some (.ins CM dx (mflds (.ref tp) ev (.ref ta) (.ref nd))) → H' nd = some (.dK kvs) → NamedOk kvs (ps.map (·.name) ++ al.map (·.1)) → Q .non H'
theorem scM : FnScope ["self", "pieces", "exports", "aliases", "piece", "name", "_"] ["self", "pieces", "exports", "aliases"] (defScope sModI) := ⟨rfl, rfl, rfl, by decide +kernel, rfl, by decide +kernel, by decide +kernel⟩
theorem ok_modI {f : Addr} {fd : FuncData} (F : Fun K "__init__" "Module.__init__" sModI f fd) (T : TC K CD CP) (M : TMd K CM) (neM : CP ≠ CM) : FnOk P w K mg base CX0 1 f fd ["self", "pieces", "exports", "aliases"] (spModI CM CP) := by
  refine F.ok scM (fun vs H Q E h => ?_) (fun cdv A outer s H vs Q E hr h => ?_)
  · obtain ⟨p, dx, tp, ta, ev, ps, pvs, al, avs, rfl, _⟩ := h
    rfl
  · obtain ⟨p, dx, tp, ta, ev, ps, pvs, al, avs, rfl, hp, htp, hps, hta, hal, hl, q⟩ := h
    have hu := hu_of hr
    refine ⟨_, pss_cons (ps_fld (pv 0) (pv 1) rfl) (pss_cons (ps_fld (pv 0) (pv 2) rfl) (pss_cons (ps_fld (pv 0) (pv 3) rfl)
      (pss_cons (ps_fld (pv 0) (pe_dc (own := [("piece", 4)]) (g := gName 4) (tt := tYes) (tk := tFld K (tVar 4) "name") (tv := tC (.bl true)) rfl scM.nd (pi_tup (pv 1)) (blkOk_by (N := ["self", "pieces", "exports", "aliases", "piece", "name", "_"]) (sc := defScope sModI) (by decide +kernel)) (fun _ _ _ _ _ => pg_name (i := 4) scM.nd rfl (Or.inl rfl)) (fun _ _ _ _ _ => pts_nil)
          (fun _ _ _ _ _ => pe_fld (pv 4) rfl) (fun _ _ _ _ _ => pe_bl) (by intro _; rfl)) rfl)
      (pss_one (ps_for PassesOwn.never rfl (pi_tup (pv 3)) (pg_tup rfl (pgs_cons (pg_name (i := 5) scM.nd rfl (Or.inl rfl)) (pgs_cons (pg_name (i := 6) scM.nd rfl (Or.inl rfl)) pgs_nil)))
        (pss_one (ps_dput hu (pe_fld (pv 0) rfl) (pv 5) pe_bl rfl))))))), ?_⟩
    refine ⟨.ref tp, rfl, _, rfl, p, CM, dx, [], rfl, hp, M.cM, M.nPieces, (by show 0 < 1000; decide), ?_⟩
    refine ⟨ev, rfl, _, rfl, p, CM, dx, [("pieces", .ref tp)], rfl, upd_same, M.cM, M.nExports, (by show 1 < 1000; decide), ?_⟩
    refine ⟨.ref ta, rfl, _, rfl, p, CM, dx, [("pieces", .ref tp), ("exports", ev)], rfl, upd_same, M.cM, M.nAliases, (by show 2 < 1000; decide), ?_⟩
    generalize hG : upd (upd (upd H p (.ins CM dx (putF "pieces" (.ref tp) []))) p (.ins CM dx (putF "exports" ev [("pieces", .ref tp)]))) p (.ins CM dx (putF "aliases" (.ref ta) [("pieces", .ref tp), ("exports", ev)])) = G
    have gp : G p = some (.ins CM dx [("pieces", .ref tp), ("exports", ev), ("aliases", .ref ta)]) := by rw [← hG]; exact upd_same
    have gof : Off p H G := fun b o hb e => by rw [← hG, upd_ne hb, upd_ne hb, upd_ne hb]; exact e
    have gno : ∀ {b : Addr}, G b = none → H b = none := fun {b} e => by
      by_cases hb : b = p
      · rw [hb, gp] at e; cases e
      · rw [← hG, upd_ne hb, upd_ne hb, upd_ne hb] at e; exact e
    have fix0 : Fix CP H G := ⟨fun b xs e => gof b _ (ne_of e hp (by intro z; cases z)) e, fun b dx' fs e => gof b _ (ne_of e hp (by intro z; cases z; exact neM rfl)) e⟩
    have gtp := fix0.1 _ _ htp
    have gta := fix0.1 _ _ hta
    have gps : Paired (PieceAt CP G) ps pvs := pair_mono (fun _ _ h => h.mono fix0) hps
    have gal : Paired (AliAt G) al avs := pair_mono (fun _ _ h => h.mono fix0) hal
    refine ⟨.ref tp, rfl, tp, rfl, ⟨_, SqT.of gtp⟩, fun D hD => dc_tup (xs := pvs) (fun i H' => Same G H' ∧ ∃ kvs, H' D = some (.dK kvs) ∧ NamedOk kvs ((ps.take i).map (·.name)) ∧ kvs.length ≤ i) ⟨same_new hD, [], upd_same, fun z => rfl, Nat.le_refl _⟩
      (fun i H' _ h => SqT.of (h.1 _ _ gtp)) (fun i x H1 hx ⟨s1, kvs, e1, no, le⟩ => ?_) (fun H1 ⟨s1, kvs, e1, no, le⟩ => ?_)⟩
    · obtain ⟨m, hm, em, qm, dxm, tm, vm, rfl, hqm, _⟩ := pair_get' gps hx
      refine ⟨rfl, .ref qm, rfl, qm, CP, dxm, pflds m tm, .str m.name, rfl, s1 _ _ hqm, T.cP, T.pName, rfl, kvs, Sum.inr m.name, rfl, e1, ?_, fun b o e => ?_, _, upd_same, ?_, ?_⟩
      · have h1 := hps.length
        have h2 : i < ps.length := (List.getElem?_eq_some_iff.mp hm).1
        omega
      · rw [upd_ne (ne_of_none e hD)]
        exact s1 _ _ e
      · rw [em, List.map_append]
        exact no.put
      · have := putK_len kvs (Sum.inr m.name) (V.bl true)
        exact Nat.le_trans this (by omega)
    · rw [← hps.length, List.take_length] at no
      refine ⟨_, rfl, p, CM, dx, _, rfl, s1 _ _ gp, M.cM, M.nNamed, (by show 3 < 1000; decide), ?_⟩
      have npD : D ≠ p := fun e => by rw [e, gp] at hD; cases hD
      have fix1 : Fix CP G (upd H1 p (.ins CM dx (putF "_named" (.ref D) [("pieces", .ref tp), ("exports", ev), ("aliases", .ref ta)]))) := (Fix.of s1).trans (Fix.ins (s1 _ _ gp) neM)
      refine ⟨.ref ta, rfl, ta, rfl, ⟨_, SqT.of (fix1.1 _ _ gta)⟩, for_it (walk_tup (xs := avs)) (fun i σ H' => ∃ v1 v2 v3, σ = [some (.ref p), some (.ref tp), some ev, some (.ref ta), v1, v2, v3] ∧ H' p = some (.ins CM dx (mflds (.ref tp) ev (.ref ta) (.ref D))) ∧ (∀ b o, b ≠ p → G b = some o → H' b = some o) ∧ ∃ kvs, H' D = some (.dK kvs) ∧ NamedOk kvs (ps.map (·.name) ++ (al.take i).map (·.1)) ∧ kvs.length ≤ ps.length + i)
        ⟨_, _, _, rfl, upd_same, fun b o hb e => by rw [upd_ne hb]; exact s1 _ _ e, kvs, by rw [upd_ne npD]; exact e1, by rw [List.take_zero, List.map_nil, List.append_nil]; exact no, by rw [hps.length]; exact le⟩
        (fun i σ H' _ ⟨_, _, _, _, _, k, _⟩ => SqT.of (k _ _ (ne_of gta gp (by intro z; cases z)) gta)) ?_ ?_⟩
      · rintro i x σ H2 H3 hi ⟨v1, v2, v3, rfl, e2, k2, kvs2, e3, no2, le2⟩ ⟨rfl, hx⟩
        obtain ⟨m, hm, em, qm, rfl, hqm⟩ := pair_get' gal hx
        have h2 : i < al.length := (List.getElem?_eq_some_iff.mp hm).1
        refine ⟨qm, _, rfl, SqT.of (k2 _ _ (ne_of hqm gp (by intro z; cases z)) hqm), rfl, _, _, rfl, _, _, rfl, rfl, ?_⟩
        refine ⟨.ref p, rfl, p, CM, dx, _, .ref D, rfl, e2, M.cM, M.nNamed, rfl, .str m.1, rfl, D, _, rfl, DPut.k (k := Sum.inr m.1) e3 (by omega), ?_⟩
        refine ⟨_, _, _, rfl, by rw [upd_ne npD.symm]; exact e2, fun b o hb e => by rw [upd_ne (ne_of_none e hD)]; exact k2 b o hb e, _, upd_same, ?_, ?_⟩
        · rw [em, List.map_append, ← List.append_assoc]
          exact no2.put
        · have := putK_len kvs2 (Sum.inr m.1) (V.bl true)
          exact Nat.le_trans this (by omega)
      · rintro σ H2 ⟨v1, v2, v3, rfl, e2, k2, kvs2, e3, no2, le2⟩
        rw [← hal.length, List.take_length] at no2
        exact q H2 D kvs2 (fun b o hb e => k2 b o hb (gof b o hb e)) (gno hD) e2 e3 no2
end
end TX

set_option Elab.async false
set_option linter.all false
set_option maxRecDepth 100000
set_option maxHeartbeats 4000000
/-! A text is read. -/
namespace TX
open PySem PySem.Spec PyProof.Rows L2 L2.FK FS
abbrev sParse : Stmt := top (TX.o + 13)
def total (rs : List (List Str)) : Nat := (rs.map List.length).sum
/-- what a text must be like for us: not too long -/
structure FitT (t : Str) : Prop where
  fits : Fits t
  rows : ∀ ws ∈ rowsOf t, ws ≠ [] ∧ ∀ z ∈ ws, Wd z ∧ PyData.strOk z = true
  sum : total (rowsOf t) < sizeLine
  many : (rowsOf t).length ≤ 1000
def ModAt (CM CP : Addr) (H : Hp) (m : Addr) (st : ST) : Prop := ∃ dx tp te ta nd pvs avs kvs, H m = some (.ins CM dx (mflds (.ref tp) (.ref te) (.ref ta) (.ref nd))) ∧ H tp = some (.tup pvs) ∧ Paired (PieceAt CP H) st.ps pvs ∧ H te = some (.tup (st.ex.map V.str)) ∧
  H ta = some (.tup avs) ∧ Paired (AliAt H) st.al avs ∧ H nd = some (.dK kvs) ∧ NamedOk kvs (st.ps.map (·.name) ++ st.al.map (·.1))
theorem dk_keys (zs : List Str) : ((dk zs).map fun kv => kV kv.1) = zs.map V.str := by
  unfold dk
  rw [List.map_map]
  rfl
theorem pair_nil {α : Type} {R : α → V → Prop} {vs : List V} (h : Paired R [] vs) : vs = [] := by cases h; rfl
section
variable {P : Program} {w : World} {K : PySem.W.Frag} {mg : Str → Option Value} {base : Heap} {aO aR dF CD CP CM CB fB aK fP fDi fMi : Addr} {es : Array DictEntry} {nF : Nat} {tF : Str → Addr}
structure TP (K : PySem.W.Frag) (mg : Str → Option Value) (CD CM fDi fMi : Addr) : Prop where
  gD : mg "Draft" = some (.ref CD)
  mD : Mk K CD fDi
  gM : mg "Module" = some (.ref CM)
  mM : Mk K CM fMi
def spParse (K : PySem.W.Frag) (CB CM CP : Addr) : Sp := fun vs H Q E => ∃ v, vs = [v] ∧ ((NoStr K H v ∧ ∀ d H', Same H H' → H' d = some (.xd [("row", .non)]) → E (.ref CB) (some d) H') ∨
  ∃ t, v = .str t ∧ FitT t ∧ (∀ i, parseT t = .error i → ∀ d H', Same H H' → H' d = some (.xd [("row", .int i)]) → E (.ref CB) (some d) H') ∧ (∀ st, parseT t = .ok st → ∀ H' m, Same H H' → H m = none → ModAt CM CP H' m st → Q (.ref m) H'))
theorem scPM : FnScope ["text", "draft", "rows", "number", "words"] ["text"] (defScope sParse) := ⟨rfl, rfl, rfl, by decide +kernel, rfl, by decide +kernel, by decide +kernel⟩
theorem ok_parse {f fS fT : Addr} {fd fdS fdT fdB fdDi fdMi : FuncData} (F : Fun K "parse_module" "parse_module" sParse f fd) (T : TC K CD CP) (TT' : TT K w mg aO aR dF es nF tF) (B : TB K mg CP CB fP fB) (M : TMd K CM) (neM : CP ≠ CM) (G : TP K mg CD CM fDi fMi)
    (GS : FnOk P w K mg base CX0 1 fS fdS ["text"] spSplit) (bS : Binds K fdS ["text"] []) (gS : mg "split_rows" = some (.ref fS)) (kS : PySem.W.keepIn K (.ref fS) = true)
    (GT : FnOk P w K mg base (L2.CX P w) 6 fT fdT ["self", "number", "words"] (spTake CD CP CB)) (bT : Binds K fdT ["self", "number", "words"] []) (mT : Meth K CD "take" fT)
    (GDi : FnOk P w K mg base CX0 1 fDi fdDi ["self"] (spDraftI CD CP)) (bDi : Binds K fdDi ["self"] [])
    (GMi : FnOk P w K mg base CX0 1 fMi fdMi ["self", "pieces", "exports", "aliases"] (spModI CM CP)) (bMi : Binds K fdMi ["self", "pieces", "exports", "aliases"] [])
    (GB : FnOk P w K mg base CX0 1 fB fdB ["self", "row"] (spBad CB "row")) (bB : Binds K fdB ["self", "row"] []) : FnOk P w K mg base (L2.CX P w) 7 f fd ["text"] (spParse K CB CM CP) := by
  refine F.okX scPM (fun vs H Q E h => ?_) (fun cdv A0 outer s H vs Q E hr h => ?_)
  · obtain ⟨v, rfl, _⟩ := h
    rfl
  · obtain ⟨v, rfl, h⟩ := h
    have hr2 : Room 2 _ := hr.mono (by decide)
    have hr1 : Room 1 _ := hr.mono (by decide)
    refine ⟨_, pss_cons (ps_if (pt_not (pt_val (pe_callB call_isi (by rfl) TT'.zi b_isi (pa_cons (pv 0) (pa_cons (pe_bltn rfl TT'.zs b_str (v := .ty "str") rfl) pa_nil)))))
        (pss_one (ps_raise rfl (takes_of rfl rfl rfl rfl) (pmk_oex B.ec.oex B.ec.iC B.ec.tI GB hr2 bB .nil pass0 rfl B.ec.gC (pa_cons pe_non pa_nil)))) pss_nil)
      (pss_cons (ps_set (i := 1) scPM.nd rfl (.inl rfl) (pe_make0 G.mD GDi hr2 rfl G.gD bDi .nil pass0))
      (pss_cons (ps_set (i := 2) scPM.nd rfl (.inl rfl) (pe_call GS hr1 rfl gS kS bS .nil pass0 (pa_cons (pv 0) pa_nil)))
      (pss_cons (ps_for (passes_of rfl) rfl (pi_enum (by rfl) B.ze (pa_cons (pv 2) pa_nil)) (pg_tup rfl (pgs_cons (pg_name (i := 3) scPM.nd rfl (Or.inl rfl)) (pgs_cons (pg_name (i := 4) scPM.nd rfl (Or.inl rfl)) pgs_nil)))
          (pss_one (ps_expr (pe_meth (pv 1) T.cD mT GT hr bT .nil (passes_call (takes_of rfl rfl rfl rfl) (fun _ _ _ _ h => h)) (pa_cons (pv 3) (pa_cons (pv 4) pa_nil))))))
      (pss_cons (ps_if (pt_cmp (pc_notN (pe_fld (pv 1) rfl))) (pss_one (ps_raise rfl (takes_of rfl rfl rfl rfl) (pmk_oex B.ec.oex B.ec.iC B.ec.tI GB hr2 bB .nil pass0 rfl B.ec.gC (pa_cons (pe_callB call_len_seq (by rfl) TT'.zl PySem.boot_len (pa_cons (pv 2) pa_nil)) pa_nil)))) pss_nil)
      (pss_one (ps_ret (pe_make G.mM GMi hr2 rfl G.gM bMi .nil pass0 (pa_cons (pe_callTy call_tupleS (by rfl) B.zt boot_tuple (pa_cons (pe_fld (pv 1) rfl) pa_nil)) (pa_cons (pe_callTy (call_tupDS rfl) (by rfl) B.zt boot_tuple (pa_cons (pe_fld (pv 1) rfl) pa_nil)) (pa_cons (pe_callTy call_tupleS (by rfl) B.zt boot_tuple (pa_cons (pe_fld (pv 1) rfl) pa_nil)) pa_nil)))))))))), ?_⟩
    have ks : PySem.W.kitOne K (.type "str") (.type "str") = some true := kit_ty (by decide +kernel)
    rcases h with ⟨⟨ty0, ty, kt⟩, qe⟩ | ⟨t, rfl, ft, qe, qo⟩
    · exact ⟨v, rfl, v, .ty "str", ty0, .type "str", false, rfl, .ty "str", ty, kt, false, rfl, iteT (bad_mk fun d H' nd s1 e9 => qe d H' s1 e9)⟩
    · refine ⟨.str t, rfl, .str t, .ty "str", .type "str", .type "str", true, rfl, .ty "str", .base (.str t), ks, true, rfl, iteF ?_⟩
      refine fun x dx nx ndx nex => ⟨x, dx, rfl, upd_same, fun A H1 ep er off ndp nde nda ndn D => ⟨rfl, ?_⟩⟩
      subst ep
      have s1 : Same H H1 := fun b o e => off b o (ne_of_none e nx) (by rw [upd_ne (ne_of_none e nx), upd_ne (ne_of_none e ndx)]; exact e)
      have s0 : Same H (upd (upd H dx (.own A.p)) A.p (.ins CD dx [])) := fun b o e => by rw [upd_ne (ne_of_none e nx), upd_ne (ne_of_none e ndx)]; exact e
      have nf : ∀ {b : Addr} {o : HO}, H b = some o → ¬ Foot A b := fun {b o} e fo => by
        rcases fo with f | f | f | f | f | f
        · rw [f, nx] at e; cases e
        · rw [f, same_none s0 ndp] at e; cases e
        · rw [f, same_none s0 nde] at e; cases e
        · rw [f, same_none s0 nda] at e; cases e
        · rw [f, same_none s0 ndn] at e; cases e
        · rw [er] at f; cases f
      refine ⟨.str t, rfl, t, rfl, ft.fits, fun H3 r rs s3 nr e3 hrows => ?_⟩
      have D3 := D.mono s3
      have nfr : ¬ Foot A r := D.free nr
      have nfq : ∀ {q : Addr} {v0 : V} {l : List V}, H3 q = some (.lst (v0 :: l)) → ¬ Foot A q := fun {q v0 l} e fo => by
        obtain ⟨dx3, k, n, z, rr, e4, _⟩ := D3.ob
        obtain ⟨vs, e5, e6⟩ := D3.dp
        obtain ⟨us, e7, e8⟩ := D3.da
        have hv := pair_nil e6
        have hu := pair_nil e8
        subst hv hu
        rcases fo with f | f | f | f | f | f
        · rw [f, e4] at e; cases e
        · rw [f, e5] at e; cases e
        · rw [f, D3.de] at e; cases e
        · rw [f, e7] at e; cases e
        · rw [f, D3.dn] at e; cases e
        · rw [er] at f; cases f
      have sameOf : ∀ {H' : Hp}, Kept A H3 H' → Same H H' := fun {H'} k b o e => k b o (s3 _ _ (s1 _ _ e)) (nf e)
      refine ⟨.ref r, rfl, r, rs, rfl, SqL.of e3, for_it (walk_enum (xs := rs)) (fun i σ H' => ∃ v3 v4 A' st', σ = [some (.str t), some (.ref A.p), some (.ref r), v3, v4] ∧ Kept A H3 H' ∧ Next H3 A A' ∧ DAt CD CP A' H' st' ∧ StOk st' ∧ wt st' + total ((rowsOf t).drop i) ≤ total (rowsOf t) ∧ parseRows ((rowsOf t).drop i) (i : Nat) st' = parseRows (rowsOf t) 0 st0)
        ⟨none, none, A, st0, rfl, fun b o e _ => e, Next.same _ _, D3, (fun op e => nomatch e), by rw [List.drop_zero]; show 0 + _ ≤ _; omega, by rw [List.drop_zero]; rfl⟩ (fun i σ H' _ ⟨_, _, _, _, _, k, _⟩ => SqL.of (k _ _ e3 nfr)) ?turn ?done⟩
      case turn =>
        rintro i x0 σ H4 H5 hi ⟨v3, v4, A', st', rfl, k4, n4, D4, hs4, hw4, hp4⟩ ⟨T1, x, y, rfl, nT, rfl, hx, hy⟩
        cases hx
        have sT : Same H4 (upd H4 T1 (.tup [.int (i : Nat), y])) := same_new nT
        have D5 := D4.mono sT
        obtain ⟨ws, hws, q, rfl, hq⟩ := pair_get hrows hy
        have hmem := List.mem_of_getElem? hws
        obtain ⟨hne, hz⟩ := ft.rows ws hmem
        have ed : (rowsOf t).drop i = ws :: (rowsOf t).drop (i + 1) := by
          rw [List.drop_eq_getElem_cons (List.getElem?_eq_some_iff.mp hws).1]
          rw [(List.getElem?_eq_some_iff.mp hws).2]
        rw [ed] at hw4 hp4
        have etot : total (ws :: (rowsOf t).drop (i + 1)) = ws.length + total ((rowsOf t).drop (i + 1)) := by
          unfold total
          rw [List.map_cons, List.sum_cons]
        rw [etot] at hw4
        have nq : ¬ Foot A q := by
          cases ws with
          | nil => exact absurd rfl hne
          | cons a l => exact nfq hq
        have hap : A'.p = A.p := n4.1
        obtain ⟨dx5, kk, nn, zz, rr, e5, _⟩ := D5.ob
        rw [hap] at e5
        have hsum := ft.sum
        have kT : Kept A H3 (upd H4 T1 (.tup [.int (i : Nat), .ref q])) := k4.trans (Kept.of sT)
        have ep5 : parseRows (ws :: (rowsOf t).drop (i + 1)) (i : Nat) st' = (match takeRow (i : Nat) ws st' with | .error e => .error e | .ok st2 => parseRows ((rowsOf t).drop (i + 1)) ((i : Nat) + 1) st2) := rfl
        refine ⟨T1, _, rfl, SqT.of upd_same, rfl, _, _, rfl, _, _, rfl, rfl, ?_⟩
        refine ⟨.ref A.p, rfl, A.p, dx5, _, rfl, e5, rfl, .int (i : Nat), rfl, .ref q, rfl, A', st', (i : Nat), q, ws, (by rw [hap]; rfl), D5, kT _ _ hq nq, n4.foot hq nq, hne, fun z h => (hz z h).1, fun z h => (hz z h).2, hs4, by omega, fun e en d H' k' e9 => ?_, fun st2 en H' A2 k' n' D' => ?_⟩
        · refine qe e ?_ d H' (sameOf (kT.next n4 k')) e9
          unfold parseT
          rw [← hp4, ep5, en]
        · obtain ⟨hs5, hw5⟩ := takeRow_ok hne en hs4
          refine ⟨_, _, A2, st2, rfl, kT.next n4 k', Next.trans kT n4 D5 n', D', hs5, by omega, ?_⟩
          rw [← hp4, ep5, en]
          rfl
      case done =>
        rintro σ H' ⟨v3, v4, A', st', rfl, k4, n4, D4, hs4, hw4, hp4⟩
        have hlen : (rowsOf t).length = rs.length := hrows.length
        rw [← hlen, List.drop_length] at hp4 hw4
        have hp5 : parseRows (rowsOf t) 0 st0 = .ok st' := hp4.symm
        have et : parseT t = if st'.op.isSome then .error ((rowsOf t).length : Int) else .ok st' := by
          unfold parseT
          rw [hp5]
        have hap : A'.p = A.p := n4.1
        obtain ⟨dx5, kk, nn, zz, rr, e5, e6⟩ := D4.ob
        rw [hap] at e5
        have sH := sameOf k4
        refine ⟨.ref A.p, rfl, A.p, CD, dx5, _, kk, rfl, e5, T.cD, T.nKind, rfl, _, rfl, ?_⟩
        cases ho : st'.op with
        | some op =>
          rw [ho] at e6 et
          have ek : kk = .str op.kind := e6.1
          subst ek
          refine iteT ⟨.ref r, rfl, r, _, rfl, .inl (SqL.of (k4 _ _ e3 nfr)), bad_mk fun d H2 nd s2 e9 => qe _ et d H2 (sH.trans s2) (by rw [e9, hlen])⟩
        | none =>
          rw [ho] at e6 et
          have ek : kk = .non := e6.1
          subst ek
          refine iteF ?_
          obtain ⟨pvs, e7, e8⟩ := D4.dp
          obtain ⟨avs, e10, e11⟩ := D4.da
          refine ⟨.ref A.p, rfl, A.p, CD, dx5, _, .ref A'.dp, rfl, e5, T.cD, T.nPieces, rfl, A'.dp, pvs, rfl, SqL.of e7, fun tp H5 s5 n5 etp => ?_⟩
          refine ⟨.ref A.p, rfl, A.p, CD, dx5, _, .ref A'.de, rfl, s5 _ _ e5, T.cD, T.nExports, rfl, A'.de, _, rfl, s5 _ _ D4.de, fun te H6 s6 n6 ete => ?_⟩
          refine ⟨.ref A.p, rfl, A.p, CD, dx5, _, .ref A'.da, rfl, s6 _ _ (s5 _ _ e5), T.cD, T.nAliases, rfl, A'.da, avs, rfl, SqL.of (s6 _ _ (s5 _ _ e10)), fun ta H7 s7 n7 eta => ?_⟩
          rw [dk_keys] at ete
          have s47 : Same H' H7 := (s5.trans s6).trans s7
          refine fun m dm nm ndm nedm => ⟨m, dm, tp, ta, .ref te, st'.ps, pvs, st'.al, avs, rfl, upd_same, ?_⟩
          have sm : Same H7 (upd (upd H7 dm (.own m)) m (.ins CM dm [])) := fun b o e => by rw [upd_ne (ne_of_none e nm), upd_ne (ne_of_none e ndm)]; exact e
          have s48 := s47.trans sm
          have wtl : wt st' ≤ total (rowsOf t) := Nat.le_trans (Nat.le_add_right _ _) hw4
          have hsum := ft.sum
          refine ⟨sm _ _ (s7 _ _ (s6 _ _ etp)), pair_mono (fun _ _ h => h.mono (Fix.of s48)) e8, sm _ _ eta, pair_mono (fun _ _ h => h.mono (Fix.of (CP := CP) s48)) e11, by unfold wt at wtl; omega, fun H8 nd kvs off8 nnd e12 e13 no => ⟨rfl, ?_⟩⟩
          have s78 : Same H7 H8 := fun b o e => off8 b o (ne_of_none e nm) (sm _ _ e)
          have s4' : Same H' H8 := s47.trans s78
          refine qo st' et H8 m (sH.trans s4') (same_none sH (same_none s47 nm)) ⟨dm, tp, te, ta, nd, pvs, avs, kvs, e12, s78 _ _ (s7 _ _ (s6 _ _ etp)), pair_mono (fun _ _ h => h.mono (Fix.of s4')) e8, s78 _ _ (s7 _ _ ete), s78 _ _ eta, pair_mono (fun _ _ h => h.mono (Fix.of (CP := CP) s4')) e11, e13, no⟩
end
end TX

set_option Elab.async false
set_option linter.all false
set_option maxRecDepth 100000
set_option maxHeartbeats 4000000
/-! What the law draws with. -/
namespace TY
open PySem PySem.Spec PyProof.Rows L2 L2.FK FS TX
abbrev sPool : Stmt := top (TX.o + 15)
abbrev sDraw : Stmt := top (TX.o + 16)
section
variable {P : Program} {w : World} {K : PySem.W.Frag} {mg : Str → Option Value} {base : Heap}
theorem b01 (c : Bool) : 0 ≤ (if c = true then (1 : Int) else 0) := by cases c <;> decide
theorem b01w (c : Bool) : -2 ^ 64 < (if c = true then (1 : Int) else 0) ∧ (if c = true then (1 : Int) else 0) < 2 ^ 64 := by cases c <;> decide
/-! ### _law_pool -/
def spPool (K : PySem.W.Frag) : Sp := fun vs H Q _ => ∃ (a : Addr) (ns : List Int) (k : Nat), vs = [.ref a, .int k] ∧ SqL K H a (ns.map V.int) ∧ k < 3 ∧ ns.length ≤ 63 ∧
  ∀ H' p (g s : Int), Same H H' → H p = none → H' p = some (.lst [.int g, .int s]) → 0 ≤ g → 0 ≤ s → s < 2147483647 → Q (.ref p) H'
theorem scP : FnScope ["_law_script", "_law_k", "_law_cell", "_law_great", "_law_seed"] ["_law_script", "_law_k"] (defScope sPool) := ⟨rfl, rfl, rfl, by decide +kernel, rfl, by decide +kernel, by decide +kernel⟩
theorem ok_pool {f : Addr} {fd : FuncData} {k : Nat} (F : Fun K "_law_pool" "_law_pool" sPool f fd) (ml : mg "len" = none) (ma : mg "abs" = none) (mi : mg "int" = none) : FnOk P w K mg base CX0 (k + 1) f fd ["_law_script", "_law_k"] (spPool K) := by
  refine F.ok scP (fun vs H Q E h => ?_) (fun cdv A outer s H vs Q E hr h => ?_)
  · obtain ⟨a, ns, k, rfl, _⟩ := h
    rfl
  · obtain ⟨a, ns, k, rfl, hS, hk, hlen, q⟩ := h
    refine ⟨_, pss_cons (ps_set (i := 2) scP.nd rfl (.inl rfl) pe_int)
      (pss_cons (ps_if (pt_cmpR op_lt (pv 1) (pe_callB call_len_seq (by rfl) ml PySem.boot_len (pa_cons (pv 0) pa_nil)) (nomark _))
          (pss_one (ps_set (i := 2) scP.nd rfl (.inl rfl) (pe_ix ix_list (pv 0) (pv 1) (fun _ _ => rfl)))) pss_nil)
      (pss_cons (ps_set (i := 3) scP.nd rfl (.inl rfl) (pe_callB call_abs (by rfl) ma (by decide +kernel) (pa_cons (pv 2) pa_nil)))
      (pss_cons (ps_set (i := 4) scP.nd rfl (.inl rfl) (pe_op op_mod (pe_op op_pow (pe_op op_add (pe_op op_add (pe_op op_add (pe_op op_mod (pv 2) pe_int) (pe_op op_mul (pe_op op_mul pe_int (pv 1)) (pv 1))) (pe_op op_mul pe_int (pv 1))) pe_int) pe_int) pe_int))
      (pss_one (ps_ret (pe_lst (pa_cons (pe_op op_mul (pv 3) (pe_callTy call_int1 (by rfl) mi (by decide +kernel) (pa_cons (pe_cmpR op_ge (pv 3) (pe_op op_pow pe_int pe_int) (nomark _)) pa_nil)))
        (pa_cons (pv 4) pa_nil)))))))), ?_⟩
    refine ⟨_, rfl, _, rfl, a, _, rfl, .inl hS, _, _, rfl, rfl, _, rfl, ?_⟩
    refine ite2 (fun hc => ?_) (fun _ => ?_)
    · have hk2 : k < ns.length := by
        have h1 := of_decide_eq_true hc
        rw [List.length_map] at h1
        omega
      have g : (ns.map V.int)[k]? = some (V.int ns[k]) := by
        rw [List.getElem?_map, List.getElem?_eq_getElem hk2]
        rfl
      refine ⟨_, rfl, _, rfl, a, _, _, _, rfl, rfl, hS, atI_nat g, ?_⟩
      have hk0 : (0 : Int) ≤ (k : Int) := Int.natCast_nonneg _
      have hk3 : (k : Int) < 3 := by omega
      have hm : 0 ≤ ns[k] % 2147483629 ∧ ns[k] % 2147483629 < 2147483629 := ⟨Int.emod_nonneg _ (by decide), Int.emod_lt_of_pos _ (by decide)⟩
      have hkk : 0 ≤ 104729 * (k : Int) * (k : Int) ∧ 104729 * (k : Int) * (k : Int) ≤ 1000000 := by
        have : k = 0 ∨ k = 1 ∨ k = 2 := by omega
        rcases this with rfl | rfl | rfl <;> decide
      refine ⟨_, rfl, ns[k], rfl, ?_⟩
      refine ⟨_, rfl, _, _, rfl, rfl, (show (0 : Int) < 2147483629 by decide), _, rfl, _, _, rfl, rfl, .inl ⟨by decide, by decide⟩, _, rfl, _, _, rfl, rfl, .inr ⟨by omega, by omega⟩, _, _, rfl, rfl, _, rfl, _, _, rfl, rfl, .inl ⟨by decide, by decide⟩, _, _, rfl, rfl, _, _, rfl, rfl, _, _, rfl, rfl, ⟨by decide, by decide, ?_⟩, _, _, rfl, rfl, (show (0 : Int) < 2147483647 by decide), ?_⟩
      · omega
      refine ⟨_, rfl, _, rfl, _, _, rfl, rfl, ⟨by decide, by decide, by decide⟩, _, _, rfl, rfl, .inr ⟨_, rfl, _, _, rfl, rfl, .inr ⟨?_, ?_⟩, _, rfl, (by show 2 ≤ sizeLine; decide), fun p hp => ?_⟩⟩
      · exact (b01w _).1
      · exact (b01w _).2
      refine q _ p _ _ (same_new hp) hp upd_same ?_ (Int.emod_nonneg _ (by decide)) (Int.emod_lt_of_pos _ (by decide))
      refine Int.mul_nonneg ?_ ?_
      · split <;> omega
      · exact b01 _
    · have hk0 : (0 : Int) ≤ (k : Int) := Int.natCast_nonneg _
      have hk3 : (k : Int) < 3 := by omega
      have hm : 0 ≤ (0 : Int) % 2147483629 ∧ (0 : Int) % 2147483629 < 2147483629 := ⟨Int.emod_nonneg _ (by decide), Int.emod_lt_of_pos _ (by decide)⟩
      have hkk : 0 ≤ 104729 * (k : Int) * (k : Int) ∧ 104729 * (k : Int) * (k : Int) ≤ 1000000 := by
        have : k = 0 ∨ k = 1 ∨ k = 2 := by omega
        rcases this with rfl | rfl | rfl <;> decide
      refine ⟨_, rfl, (0 : Int), rfl, ?_⟩
      refine ⟨_, rfl, _, _, rfl, rfl, (show (0 : Int) < 2147483629 by decide), _, rfl, _, _, rfl, rfl, .inl ⟨by decide, by decide⟩, _, rfl, _, _, rfl, rfl, .inr ⟨by omega, by omega⟩, _, _, rfl, rfl, _, rfl, _, _, rfl, rfl, .inl ⟨by decide, by decide⟩, _, _, rfl, rfl, _, _, rfl, rfl, _, _, rfl, rfl, ⟨by decide, by decide, ?_⟩, _, _, rfl, rfl, (show (0 : Int) < 2147483647 by decide), ?_⟩
      · omega
      refine ⟨_, rfl, _, rfl, _, _, rfl, rfl, ⟨by decide, by decide, by decide⟩, _, _, rfl, rfl, .inr ⟨_, rfl, _, _, rfl, rfl, .inr ⟨?_, ?_⟩, _, rfl, (by show 2 ≤ sizeLine; decide), fun p hp => ?_⟩⟩
      · exact (b01w _).1
      · exact (b01w _).2
      refine q _ p _ _ (same_new hp) hp upd_same ?_ (Int.emod_nonneg _ (by decide)) (Int.emod_lt_of_pos _ (by decide))
      refine Int.mul_nonneg ?_ ?_
      · split <;> omega
      · exact b01 _
/-! ### _law_take -/
def spDraw : Sp := fun vs H Q _ => ∃ (p : Addr) (g s : Int) (m : Nat), vs = [.ref p, .int m] ∧ 0 < m ∧ m ≤ 1000 ∧ H p = some (.lst [.int g, .int s]) ∧ 0 ≤ g ∧ 0 ≤ s ∧ s < 2147483647 ∧
  ∀ (g' s' : Int) (r : Nat), 0 ≤ g' → 0 ≤ s' → s' < 2147483647 → r < m → Q (.int r) (upd H p (.lst [.int g', .int s']))
theorem scDr : FnScope ["_law_pool_here", "_law_many", "_law_found"] ["_law_pool_here", "_law_many"] (defScope sDraw) := ⟨rfl, rfl, rfl, by decide +kernel, rfl, by decide +kernel, by decide +kernel⟩
theorem toN {x : Int} {m : Nat} (h : 0 ≤ x) (h2 : x < (m : Int)) : ∃ r : Nat, x = (r : Int) ∧ r < m := ⟨x.toNat, by omega, by omega⟩
theorem ok_draw {f : Addr} {fd : FuncData} {k : Nat} (F : Fun K "_law_take" "_law_take" sDraw f fd) : FnOk P w K mg base CX0 (k + 1) f fd ["_law_pool_here", "_law_many"] spDraw := by
  refine F.ok scDr (fun vs H Q E h => ?_) (fun cdv A outer s H vs Q E hr h => ?_)
  · obtain ⟨a, g, s, m, rfl, _⟩ := h
    rfl
  · obtain ⟨p, g, s, m, rfl, hm, hm2, hp, hg, hs, hs2, q⟩ := h
    have hmi : (0 : Int) < (m : Int) := by omega
    have hmn : (m : Int) ≠ 0 := by omega
    refine ⟨_, pss_cons (ps_if (pt_cmpR op_gt (pe_ix ix_list (pv 0) pe_int (fun _ _ => rfl)) pe_int (nomark _))
        (pss_cons (ps_set (i := 2) scDr.nd rfl (.inl rfl) (pe_op op_mod (pe_ix ix_list (pv 0) pe_int (fun _ _ => rfl)) (pv 1)))
          (pss_cons (ps_asg (pe_op op_fdiv (pe_ix ix_list (pv 0) pe_int (fun _ _ => rfl)) (pv 1)) (pg_sub (pv 0) pe_int set_list (fun _ => rfl)))
          (pss_one (ps_ret (pv 2))))) pss_nil)
      (pss_cons (ps_asg (pe_op op_mod (pe_op op_add (pe_op op_mul (pe_ix ix_list (pv 0) pe_int (fun _ _ => rfl)) pe_int) pe_int) pe_int) (pg_sub (pv 0) pe_int set_list (fun _ => rfl)))
      (pss_one (ps_ret (pe_op op_mod (pe_op op_fdiv (pe_op op_mod (pe_op op_mul (pe_ix ix_list (pv 0) pe_int (fun _ _ => rfl)) (pe_ix ix_list (pv 0) pe_int (fun _ _ => rfl))) pe_int) pe_int) (pv 1))))), ?_⟩
    have e0 : atI [V.int g, V.int s] 0 = some (.int g) := rfl
    have e1 : atI [V.int g, V.int s] 1 = some (.int s) := rfl
    have hL : SqL K H p [.int g, .int s] := SqL.of hp
    refine ⟨_, rfl, p, _, 0, _, rfl, rfl, hL, e0, _, _, rfl, rfl, _, rfl, ?_⟩
    refine ite2 (fun hc => ?_) (fun hc => ?_)
    · refine ⟨_, rfl, p, _, 0, _, rfl, rfl, hL, e0, _, rfl, _, _, rfl, rfl, hmi, ?_⟩
      refine ⟨_, rfl, p, _, 0, _, rfl, rfl, hL, e0, _, rfl, _, _, rfl, rfl, ⟨hmi, by omega⟩, ?_⟩
      refine ⟨_, rfl, p, _, 0, 0, rfl, rfl, hp, rfl, ?_⟩
      obtain ⟨r, er, hr11⟩ := toN (Int.emod_nonneg g hmn) (Int.emod_lt_of_pos g hmi)
      refine ⟨_, rfl, ?_⟩
      have hq := q (g / (m : Int)) s r (Int.ediv_nonneg hg (by omega)) hs hs2 hr11
      rw [← er] at hq
      exact hq
    · refine ⟨_, rfl, p, _, 1, _, rfl, rfl, hL, e1, _, _, rfl, rfl, .inl ⟨by omega, by omega⟩, _, _, rfl, rfl, _, _, rfl, rfl, (show (0 : Int) < 2147483647 by decide), ?_⟩
      refine ⟨_, rfl, p, _, 1, 1, rfl, rfl, hp, rfl, ?_⟩
      have hz0 : 0 ≤ (s * 48271 + 11) % 2147483647 := Int.emod_nonneg _ (by decide)
      have hz1 : (s * 48271 + 11) % 2147483647 < 2147483647 := Int.emod_lt_of_pos _ (by decide)
      have hL2 : SqL K (upd H p (.lst ([V.int g, V.int s].set 1 (.int ((s * 48271 + 11) % 2147483647))))) p [.int g, .int ((s * 48271 + 11) % 2147483647)] := SqL.of upd_same
      have e2 : atI [V.int g, V.int ((s * 48271 + 11) % 2147483647)] 1 = some (.int ((s * 48271 + 11) % 2147483647)) := rfl
      refine ⟨_, rfl, p, _, 1, _, rfl, rfl, hL2, e2, _, rfl, p, _, 1, _, rfl, rfl, hL2, e2, _, _, rfl, rfl, .inl ⟨by omega, by omega⟩, _, _, rfl, rfl, (show (0 : Int) < 2147483629 by decide), _, _, rfl, rfl, ⟨by decide, by decide⟩, _, rfl, _, _, rfl, rfl, hmi, ?_⟩
      obtain ⟨r, er, hr11⟩ := toN (Int.emod_nonneg (((s * 48271 + 11) % 2147483647) * ((s * 48271 + 11) % 2147483647) % 2147483629 / 64) hmn) (Int.emod_lt_of_pos (((s * 48271 + 11) % 2147483647) * ((s * 48271 + 11) % 2147483647) % 2147483629 / 64) hmi)
      have hq := q g ((s * 48271 + 11) % 2147483647) r hg hz0 hz1 hr11
      rw [← er] at hq
      exact hq
end
end TY

set_option Elab.async false
set_option linter.all false
set_option maxRecDepth 100000
set_option maxHeartbeats 4000000
/-! What the law is told of a text. -/
namespace TY
open PySem PySem.Spec PyProof.Rows L2 L2.FK FS TX
/-- None, or a small int -/
def repN : V → Option Str
  | .non => some "None"
  | .int i => if i.natAbs.log2 < 1920 then some (Str.ofString (toString i)) else none
  | _ => none
section
variable {X : Cx}
theorem call_reprN : CallR X (.builtin "repr") (fun xs H Q => ∃ v t, xs = [v] ∧ repN v = some t ∧ Q (.str t) H) := by
  intro pins s σ H xs us Q I r h
  obtain ⟨v, t, rfl, ht, q⟩ := h
  obtain ⟨u, rfl, rv⟩ := vals1 r
  cases v with
  | non =>
    cases rv
    cases ht
    exact PySem.P.repr_of_none ⟨.str _, H, I.tok _, ⟨_, rfl⟩, q⟩
  | int i =>
    obtain ⟨t', rfl⟩ := rv
    have ht : (if i.natAbs.log2 < 1920 then some (Str.ofString (toString i)) else none) = some t := ht
    split at ht
    · cases ht
      exact PySem.P.repr_of_int (by assumption) ⟨.str _, H, I.tok _, ⟨_, rfl⟩, q⟩
    · cases ht
  | _ => cases ht
/-- isinstance(e, c), e the exception that the suite holds, with its own dict -/
def rIsD (K : PySem.W.Frag) (a : Addr) (cls : Value) (d : Option Addr) : List V → Hp → VK → Prop := fun xs H Q => ∃ (D dd : Addr) (fs : List (Str × V)) (c : V) (cv : Value) (b : Bool), xs = [.ref a, c] ∧ cls = .ref D ∧ d = some dd ∧ H dd = some (.xd fs) ∧ ExcC K D ∧ (∀ u, RelV c u → u = cv) ∧ PySem.W.kitOne K (.ref D) cv = some b ∧ Q (.bl b) H
theorem call_isD {a : Addr} {cls : Value} {d : Option Addr} {oe : Obj} {pn : List (Addr × Obj)} (hz : Zc cls d oe) (hf : ∃ vs, oe.data = .fields vs) : CallR (X.suite a ((a, oe) :: pn)) (.builtin "isinstance") (rIsD X.K a cls d) := by
  intro pins s σ H xs us Q I r h
  obtain ⟨D, dd, fs, c, cv, b, rfl, rfl, rfl, ed, C, hcv, e, q⟩ := h
  obtain ⟨u1, u2, rfl, r1, r2⟩ := vals2 r
  cases (show u1 = Value.ref a from r1)
  have ec := hcv _ r2
  subst ec
  obtain ⟨hget, _⟩ := I.pin (a, oe) (List.mem_append.mpr (.inl List.mem_cons_self))
  obtain ⟨vs, hv⟩ := hf
  have hx : ObjOk X.prog X.w H s.heap dd (.xd fs) := I.hok dd _ ed
  obtain ⟨mA, hns, hr⟩ := hx
  obtain ⟨od, ho, hl⟩ := lookIn_ns hns
  have J : PySem.W.InstAt s.heap a oe D (some od) := ⟨hget, hz.1, by unfold PySem.W.notCls; rw [hv] <;> rfl, by rw [hz.2]; exact ho⟩
  exact PySem.W.kia_one (PySem.W.fs_kitx C.hg C.hk C.hs C.hd C.ha C.hn C.ht C.hm) I.kIn ⟨_, _, J⟩ e (fun z => nomatch z) fun tk => ⟨.bl b, H, I.tok tk, rfl, q⟩
end
abbrev sTold : Stmt := top (TX.o + 17)
section
variable {P : Program} {w : World} {K : PySem.W.Frag} {mg : Str → Option Value} {base : Heap} {CM CP CB fB : Addr}
/-- what is told of a value -/
def spTold (K : PySem.W.Frag) : Sp := fun vs H Q _ => ∃ v, vs = [v] ∧ ((NoStr K H v ∧ ∀ H' p, Same H H' → H p = none → H' p = some (.lst [.str "None", .bl true]) → Q (.ref p) H') ∨
  ∃ t, v = .str t ∧ FitT t ∧ (∀ i, parseT t = .error i → i.natAbs.log2 < 1920 ∧ ∀ H' p, Same H H' → H p = none → H' p = some (.lst [.str (toString i), .bl true]) → Q (.ref p) H') ∧ (∀ st, parseT t = .ok st → ∀ H', Same H H' → Q .non H'))
structure TL (K : PySem.W.Frag) (mg : Str → Option Value) (CB fB fM : Addr) : Prop where
  ec : EC K mg "BadText" CB fB
  nRow : PySem.W.findIn K (.ref CB) "row" = some none
  te : PySem.W.exmOne K (.ref CB) (.ref CB) = some true
  ve : PySem.W.kitOne K (.ref CB) (.type "ValueError") = some true
  gM : mg "parse_module" = some (.ref fM)
  kM : PySem.W.keepIn K (.ref fM) = true
  zr : mg "repr" = none
  zi : mg "isinstance" = none
  zv : mg "ValueError" = none
theorem b_repr : bootBuiltins "repr" = some (.builtin "repr") := by decide +kernel
theorem b_ve : bootBuiltins "ValueError" = some (.type "ValueError") := by decide +kernel
theorem scTl : FnScope ["_law_text", "e"] ["_law_text"] (defScope sTold) := ⟨rfl, rfl, rfl, by decide +kernel, rfl, by decide +kernel, by decide +kernel⟩
def tSuite (K : PySem.W.Frag) (CB a : Addr) (cls : Value) (d : Option Addr) : TS :=
  tRet (tLstS (tCons (tCB (fun xs H Q => ∃ v t, xs = [v] ∧ repN v = some t ∧ Q (.str t) H) (tCons (tXf a cls d CB "row" (tVar 1)) tNil)) (tCons (tCB (rIsD K a cls d) (tCons (tVar 1) (tCons (tC (.ty "ValueError")) tNil))) tNil)))
theorem ok_told {f fM : Addr} {fd fdM : FuncData} (F : Fun K "_law_told" "_law_told" sTold f fd) (L : TL K mg CB fB fM)
    (GM : FnOk P w K mg base (L2.CX P w) 7 fM fdM ["text"] (spParse K CB CM CP)) (bM : Binds K fdM ["text"] []) : FnOk P w K mg base CX0 8 f fd ["_law_text"] (spTold K) := by
  refine F.ok scTl (fun vs H Q E h => ?_) (fun cdv A0 outer s H vs Q E hr h => ?_)
  · obtain ⟨v, rfl, _⟩ := h
    rfl
  · obtain ⟨v, rfl, h⟩ := h
    refine ⟨_, pss_cons (ps_try_as (i := 1) (tb := fun W => tDrop (tCallS (spParse K CB CM CP) (WE W) (tCons (tVar 0) tNil))) (ts := tSuite K CB) (Wout := fun _ _ _ _ => False) rfl rfl scTl.nd rfl rfl ⟨rfl, by decide, Or.inl L.ec.gC⟩ takes0
          (fun W pn xe tk _ => pss_one (ps_expr (by exact (pe_callS GM hr rfl L.gM L.kM bM (fun σ => passAt tk σ) (by exact (pa_cons (pv 0) pa_nil))))))
          (fun a oe cls d pn hz hf => pss_one (ps_ret (by exact (pe_lstS (pa_cons (pe_callB call_reprN (by rfl) L.zr b_repr (pa_cons (pe_xf L.ec.xf L.nRow hz hf (pv 1)) pa_nil)) (pa_cons (pe_callB (call_isD hz hf) (by rfl) L.zi b_isi (pa_cons (pv 1) (pa_cons (pe_bltn rfl L.zv b_ve (v := .ty "ValueError") rfl) pa_nil))) pa_nil)))))))
      (pss_one (ps_ret pe_non)), ?_⟩
    rcases h with ⟨ns, q⟩ | ⟨t, rfl, ft, qe, qo⟩
    · refine ⟨v, rfl, v, rfl, .inl ⟨ns, fun d H' s1 e9 => ⟨true, L.te, fun _ a na => ?_, fun q => Bool.noConfusion q⟩⟩⟩
      refine ⟨.ref a, rfl, rfl, rfl, d, _, .non, rfl, e9, rfl, .non, _, rfl, rfl, .ref a, rfl, CB, d, _, .ty "ValueError", .type "ValueError", true, rfl, rfl, rfl, e9, L.ec.ec, fun u r => r, L.ve, by simp, fun p H2 s2 n2 e2 => ?_⟩
      exact q H2 p (s1.trans s2) (same_none s1 n2) e2
    · refine ⟨.str t, rfl, .str t, rfl, .inr ⟨t, rfl, ft, fun i en d H' s1 e9 => ⟨true, L.te, fun _ a na => ?_, fun q => Bool.noConfusion q⟩, fun st en H' m s1 nm hm => qo st en H' s1⟩⟩
      obtain ⟨hi, q⟩ := qe i en
      refine ⟨.ref a, rfl, rfl, rfl, d, _, .int i, rfl, e9, rfl, .int i, Str.ofString (toString i), rfl, if_pos hi, .ref a, rfl, CB, d, _, .ty "ValueError", .type "ValueError", true, rfl, rfl, rfl, e9, L.ec.ec, fun u r => r, L.ve, by simp, fun p H2 s2 n2 e2 => ?_⟩
      exact q H2 p (s1.trans s2) (same_none s1 n2) e2
end
end TY

set_option Elab.async false
set_option linter.all false
set_option maxRecDepth 1000000
set_option maxHeartbeats 4000000
/-! The law's menus, and what the mirror says of them. -/
namespace TZ
open PySem PySem.Spec PyProof.Rows L2 L2.FK FS TX TL
def isErr (i : Int) : Except Int ST → Bool
  | .error j => decide (i = j)
  | .ok _ => false
def isOk : Except Int ST → Bool
  | .error j => false
  | .ok _ => true
theorem err_of {i : Int} {r : Except Int ST} (h : isErr i r = true) : r = .error i := by
  cases r with
  | error j => rw [show i = j from of_decide_eq_true h]
  | ok s => cases h
theorem ok_of {r : Except Int ST} (h : isOk r = true) : ∃ s, r = .ok s := by
  cases r with
  | error j => cases h
  | ok s => exact ⟨s, rfl⟩
def sp (r : Str) : List Str := Txt.split r " "
/-- a row that fits a line, without a line's end -/
def okRow (r : Str) : Bool := !(tl r).contains 10 && decide (r.length ≤ 1000) && !(sp r).isEmpty && (sp r).all fun z => decide (z.length ≤ 1000) && PyData.strOk z
theorem okRow_of {r : Str} (h : okRow r = true) : 10 ∉ tl r ∧ r.length ≤ 1000 ∧ sp r ≠ [] ∧ ∀ z ∈ sp r, z.length ≤ 1000 ∧ PyData.strOk z = true := by
  obtain ⟨h, h4⟩ := Bool.and_eq_true_iff.mp h
  obtain ⟨h, h3⟩ := Bool.and_eq_true_iff.mp h
  obtain ⟨h1, h2⟩ := Bool.and_eq_true_iff.mp h
  refine ⟨by simpa using h1, of_decide_eq_true h2, fun e => by rw [e] at h3; simp at h3, fun z hz => ?_⟩
  obtain ⟨k3, k4⟩ := Bool.and_eq_true_iff.mp (List.all_eq_true.mp h4 z hz)
  exact ⟨of_decide_eq_true k3, k4⟩
def okRows (ys : List Str) : Bool := ys.all okRow && decide (ys.length ≤ 1000) && (ys.any fun r => decide (1 ≤ r.length))
theorem split_rows {ys : List Str} (h : okRows ys = true) : Txt.split (Txt.join "\n" ys) "\n" = ys := by
  obtain ⟨h, h3⟩ := Bool.and_eq_true_iff.mp h
  obtain ⟨h1, h2⟩ := Bool.and_eq_true_iff.mp h
  refine split_join (s := 10) (S := []) (by decide +kernel) (by decide +kernel) (fun e => by rw [e] at h3; simp at h3) fun p hp => (okRow_of (List.all_eq_true.mp h1 p hp)).1
theorem sum_le {n : Nat} : ∀ l : List Nat, (∀ x ∈ l, x ≤ n) → l.sum ≤ l.length * n
  | [], _ => by simp
  | x :: r, h => by
    have := sum_le r fun y hy => h y (List.mem_cons_of_mem _ hy)
    have hx := h x (List.mem_cons_self ..)
    rw [List.sum_cons, List.length_cons, Nat.add_mul]
    omega
theorem rows_join {ys : List Str} (h : okRows ys = true) (ne : Txt.join "\n" ys ≠ "") : rowsOf (Txt.join "\n" ys) = ys.map sp := by
  unfold rowsOf
  rw [if_neg ne, split_rows h]
  rfl
theorem fit_join {ys : List Str} (h : okRows ys = true) (ne : Txt.join "\n" ys ≠ "") : FitT (Txt.join "\n" ys) := by
  have hr := rows_join h ne
  have hs := split_rows h
  obtain ⟨h', h3⟩ := Bool.and_eq_true_iff.mp h
  obtain ⟨h1, h2⟩ := Bool.and_eq_true_iff.mp h'
  have h2 : ys.length ≤ 1000 := of_decide_eq_true h2
  have row := fun p hp => okRow_of (List.all_eq_true.mp h1 p hp)
  have sz : sizeLine = 16777216 := sizeLine_eq
  have jl : (Txt.join "\n" ys).length ≤ 1001000 := by
    have e := StrLaws.join_length_le "\n" ys
    rw [← join_eq] at e
    have e1 := sum_le (n := 1000) (ys.map (·.length)) (fun x hx => by obtain ⟨p, hp, rfl⟩ := List.mem_map.mp hx; exact (row p hp).2.1)
    rw [List.length_map] at e1
    have e2 : ("\n" : Str).length = 1 := by decide +kernel
    rw [e2] at e
    omega
  refine ⟨⟨by omega, fun r hr' => ?_⟩, fun ws hws => ?_, ?_, by rw [hr, List.length_map]; exact h2⟩
  · rw [hs] at hr'
    have := (row r hr').2.1
    omega
  · rw [hr] at hws
    obtain ⟨p, hp, rfl⟩ := List.mem_map.mp hws
    exact ⟨(row p hp).2.2.1, fun z hz => ⟨Nat.le_of_lt (small1000 ((row p hp).2.2.2 z hz).1), ((row p hp).2.2.2 z hz).2⟩⟩
  · rw [hr]
    unfold total
    have e1 := sum_le (n := 1002) ((ys.map sp).map List.length) (fun x hx => by
      obtain ⟨ws, hws, rfl⟩ := List.mem_map.mp hx
      obtain ⟨p, hp, rfl⟩ := List.mem_map.mp hws
      have k1 := PyProof.Rows.split_le p " "
      have k2 := (row p hp).2.1
      show (Txt.split p " ").length ≤ 1002
      omega)
    rw [List.length_map, List.length_map] at e1
    omega
theorem parse_app : ∀ (a b : List (List Str)) (i : Int) (st : ST), parseRows (a ++ b) i st = (match parseRows a i st with | .error e => .error e | .ok s => parseRows b (i + a.length) s)
  | [], b, i, st => by show parseRows b i st = parseRows b (i + ((0 : Nat) : Int)) st; rw [show i + ((0 : Nat) : Int) = i by omega]
  | ws :: r, b, i, st => by
    show (match takeRow i ws st with | .error e => Except.error e | .ok s => parseRows (r ++ b) (i + 1) s) = (match (match takeRow i ws st with | .error e => Except.error e | .ok s => parseRows r (i + 1) s) with | .error e => .error e | .ok s => parseRows b (i + ((r.length + 1 : Nat) : Int)) s)
    cases takeRow i ws st with
    | error e => rfl
    | ok s =>
      show parseRows (r ++ b) (i + 1) s = (match parseRows r (i + 1) s with | .error e => .error e | .ok s => parseRows b (i + ((r.length + 1 : Nat) : Int)) s)
      rw [parse_app r b (i + 1) s, show i + ((r.length + 1 : Nat) : Int) = i + 1 + (r.length : Int) by omega]
def INSIDE0 : List Str := ["", " ", "ret ", " ret", "ret ret", "ret  ", "call", "call f g", "call end", "call F", "call a.b", "call 1"]
def INSIDE1 : List Str := ["callr e", "callr f", "callr 0", "addr a", "addr f a", "addr a func", "set a", "set a 100", "set a 01"]
def INSIDE2 : List Str := ["set a -1", "set a x", "set a 1 2", "move a", "move a 1", "read a f", "read a 0 0", "read a f 100"]
def INSIDE3 : List Str := ["readr a b", "readr a f 0", "same a b", "same a b x", "choose", "choose a", "tell", "tell 5", "go"]
def INSIDE4 : List Str := ["go a", "END", "end end", "func g", "data g", "export f", "alias x y", "5", "f", "jump 0", "same a 1 0"]
def INSIDE : List Str := (((INSIDE0 ++ INSIDE1) ++ INSIDE2) ++ INSIDE3) ++ INSIDE4
def INDATA0 : List Str := ["", "100", "00", "05", "-1", "1 2", "f g", "F", "end ", "ret", "call", "func", "a.b", "abcdefghi", "1f", "+1"]
def INDATA1 : List Str := ["\t", "f ", " f", "go", "alias", "export"]
def INDATA : List Str := INDATA0 ++ INDATA1
def OUTSIDE0 : List Str := ["", "ret", "end", "func", "data", "func f g", "func end", "data ret", "func F", "export", "export F", "5"]
def OUTSIDE1 : List Str := ["export e1 e1", "alias x", "alias x y z", "alias end y", "alias x call", "func p", "data p", "alias p x"]
def OUTSIDE2 : List Str := ["export q", " export r", "export r ", "func  g", "alias z z1 ", "func abcdefghi"]
def OUTSIDE : List Str := (OUTSIDE0 ++ OUTSIDE1) ++ OUTSIDE2
def AH1 : List Str := ["export q", "alias p q", "data s", "5", "end"]
def AH2 : List Str := ["func t", "ret", "end"]
def AHEADS : List (List Str) := [[], AH1, AH2, AH1 ++ AH2]
def FIRST : List Str := ["export q", "alias p q"]
def S1 (r : Str) : List Str := ["func u", "tell a", r, "ret", "end"]
def S2 (r : Str) : List Str := ["data v", "q", r, "end", "5"]
def S3 (r : Str) : List Str := ["data s", "end", r]
def O1 : List Str := ["func u", "tell a"]
def O2 : List Str := ["data v", "q"]
def R1 (a : List Str) (r : Str) : List Str := a ++ S1 r
def R2 (a : List Str) (r : Str) : List Str := a ++ S2 r
def R3 (r : Str) : List Str := FIRST ++ S3 r
end TZ

set_option Elab.async false
set_option linter.all false
set_option maxRecDepth 1000000
set_option maxHeartbeats 4000000
/-! What the mirror says of the law's menus. -/
namespace TZ
open PySem PySem.Spec PyProof.Rows L2 L2.FK FS TX TL
def FIRST4 : List Str := ["export q", "alias p q", "data s", "end"]
/-- between pieces, u and v free, room for a piece -/
def okSt (st : ST) : Bool := st.op.isNone && !st.nm.contains "u" && !st.nm.contains "v" && decide (st.ps.length < 12)
def okAhead (a : List Str) : Bool := match parseRows (a.map sp) 0 st0 with
  | .ok s => okSt s
  | .error _ => false
def wordsU : List Str := ["func", "u"]
def wordsV : List Str := ["data", "v"]
def wordEnd : List Str := ["end"]
theorem sp_u : sp "func u" = wordsU := by decide +kernel
theorem sp_v : sp "data v" = wordsV := by decide +kernel
theorem nm_u : isName "u" = true := by decide +kernel
theorem nm_v : isName "v" = true := by decide +kernel
theorem takeRow_u {i : Int} {st : ST} (h : okSt st = true) : takeRow i wordsU st = .ok { st with nm := st.nm ++ [("u" : Str)], op := some ⟨"func", "u", i + 1, []⟩ } := by
  obtain ⟨h, h4⟩ := Bool.and_eq_true_iff.mp h
  obtain ⟨h, h3⟩ := Bool.and_eq_true_iff.mp h
  obtain ⟨h1, h2⟩ := Bool.and_eq_true_iff.mp h
  have ho : st.op = none := by simpa using h1
  have hc : st.nm.contains "u" = false := by simpa using h2
  have hl : ¬ st.ps.length = 12 := by have := of_decide_eq_true h4; omega
  have et : takeName "u" st = some { st with nm := st.nm ++ [("u" : Str)] } := by
    unfold takeName
    rw [nm_u, hc]
    rfl
  have eb : takeBetween i wordsU st = openPiece i wordsU st := by
    show (if ("func" : Str) = "export" then takeExports [("u" : Str)] st else if ("func" : Str) = "alias" then takeAlias [("u" : Str)] st else if ("func" : Str) = "func" ∨ ("func" : Str) = "data" then openPiece i wordsU st else none) = _
    rw [if_neg (by decide +kernel), if_neg (by decide +kernel), if_pos (.inl rfl)]
  have eo : openPiece i wordsU st = some { st with nm := st.nm ++ [("u" : Str)], op := some ⟨"func", "u", i + 1, []⟩ } := by
    show (if st.ps.length = 12 then none else (takeName "u" st).map fun s => { s with op := some ⟨"func", "u", i + 1, []⟩ }) = _
    rw [if_neg hl, et]
    rfl
  unfold takeRow
  rw [ho]
  show (match takeBetween i wordsU st with | some s => Except.ok s | none => .error i) = _
  rw [eb, eo]
theorem takeRow_v {i : Int} {st : ST} (h : okSt st = true) : takeRow i wordsV st = .ok { st with nm := st.nm ++ [("v" : Str)], op := some ⟨"data", "v", i + 1, []⟩ } := by
  obtain ⟨h, h4⟩ := Bool.and_eq_true_iff.mp h
  obtain ⟨h, h3⟩ := Bool.and_eq_true_iff.mp h
  obtain ⟨h1, h2⟩ := Bool.and_eq_true_iff.mp h
  have ho : st.op = none := by simpa using h1
  have hc : st.nm.contains "v" = false := by simpa using h3
  have hl : ¬ st.ps.length = 12 := by have := of_decide_eq_true h4; omega
  have et : takeName "v" st = some { st with nm := st.nm ++ [("v" : Str)] } := by
    unfold takeName
    rw [nm_v, hc]
    rfl
  have eb : takeBetween i wordsV st = openPiece i wordsV st := by
    show (if ("data" : Str) = "export" then takeExports [("v" : Str)] st else if ("data" : Str) = "alias" then takeAlias [("v" : Str)] st else if ("data" : Str) = "func" ∨ ("data" : Str) = "data" then openPiece i wordsV st else none) = _
    rw [if_neg (by decide +kernel), if_neg (by decide +kernel), if_pos (.inr rfl)]
  have eo : openPiece i wordsV st = some { st with nm := st.nm ++ [("v" : Str)], op := some ⟨"data", "v", i + 1, []⟩ } := by
    show (if st.ps.length = 12 then none else (takeName "v" st).map fun s => { s with op := some ⟨"data", "v", i + 1, []⟩ }) = _
    rw [if_neg hl, et]
    rfl
  unfold takeRow
  rw [ho]
  show (match takeBetween i wordsV st with | some s => Except.ok s | none => .error i) = _
  rw [eb, eo]
/-- within a piece: a right row, a wrong one -/
theorem takeRow_in {i : Int} {ws : List Str} {st : ST} {op : OP} {r : MR} (ho : st.op = some op) (he : ws ≠ wordEnd) (hr : rowOf op.kind ws = some r) (hl : ¬ op.rows.length = 16) : takeRow i ws st = .ok { st with op := some { op with rows := op.rows ++ [r] } } := by
  unfold takeRow
  rw [ho]
  show (if ws = wordEnd then _ else (match takeWithin ws op st with | some s => Except.ok s | none => .error i)) = _
  rw [if_neg he]
  unfold takeWithin
  rw [hr]
  show (match (if op.rows.length = 16 then none else some ({ st with op := some { op with rows := op.rows ++ [r] } } : ST)) with | some s => Except.ok s | none => .error i) = _
  rw [if_neg hl]
theorem takeRow_bad {i : Int} {ws : List Str} {st : ST} {op : OP} (ho : st.op = some op) (he : ws ≠ wordEnd) (hr : rowOf op.kind ws = none) : takeRow i ws st = .error i := by
  unfold takeRow
  rw [ho]
  show (if ws = wordEnd then _ else (match takeWithin ws op st with | some s => Except.ok s | none => .error i)) = _
  rw [if_neg he]
  unfold takeWithin
  rw [hr]
theorem ahead_all : AHEADS.all (fun a => okAhead a && a.all okRow && decide (a.length ≤ 8)) = true := by decide +kernel
def badIn (k r : Str) : Bool := (rowOf k (sp r)).isNone && decide (sp r ≠ wordEnd) && okRow r
theorem inside_all : INSIDE.all (badIn "func") = true := by decide +kernel
theorem data_all : INDATA.all (badIn "data") = true := by decide +kernel
end TZ

set_option Elab.async false
set_option linter.all false
set_option maxRecDepth 1000000
set_option maxHeartbeats 4000000
/-! The texts that the law builds, refused where the document says. -/
namespace TZ
open PySem PySem.Spec PyProof.Rows L2 L2.FK FS TX TL
theorem split_empty : Txt.split "" "\n" = [("" : Str)] := by decide +kernel
theorem join_ne {ys : List Str} (h : okRows ys = true) : Txt.join "\n" ys ≠ "" := fun e => by
  have hs := split_rows h
  rw [e, split_empty] at hs
  have h3 := (Bool.and_eq_true_iff.mp h).2
  rw [← hs] at h3
  exact absurd h3 (by decide +kernel)
/-- rows that make a text refused at i -/
structure Bad (i : Int) (ys : List Str) : Prop where
  fit : FitT (Txt.join "\n" ys)
  err : parseT (Txt.join "\n" ys) = .error i
  len : (ys.map (·.length)).sum + ys.length * ("\n" : Str).length ≤ 16777216
  many : ys.length ≤ 1000
theorem len_ok {ys : List Str} (h : okRows ys = true) : (ys.map (·.length)).sum + ys.length * ("\n" : Str).length ≤ 16777216 ∧ ys.length ≤ 1000 := by
  obtain ⟨h', h3⟩ := Bool.and_eq_true_iff.mp h
  obtain ⟨h1, h2⟩ := Bool.and_eq_true_iff.mp h'
  have h2 : ys.length ≤ 1000 := of_decide_eq_true h2
  have e1 := sum_le (n := 1000) (ys.map (·.length)) (fun x hx => by obtain ⟨p, hp, rfl⟩ := List.mem_map.mp hx; exact (okRow_of (List.all_eq_true.mp h1 p hp)).2.1)
  rw [List.length_map] at e1
  have e2 : ("\n" : Str).length = 1 := by decide +kernel
  rw [e2]
  exact ⟨by omega, h2⟩
theorem bad_of {i : Int} {ys : List Str} (h : okRows ys = true) (e : parseRows (ys.map sp) 0 st0 = .error i) : Bad i ys := by
  have ne := join_ne h
  refine ⟨fit_join h ne, ?_, (len_ok h).1, (len_ok h).2⟩
  unfold parseT
  rw [rows_join h ne, e]
theorem bad_open {i : Int} {ys : List Str} (h : okRows ys = true) {st : ST} (e : parseRows (ys.map sp) 0 st0 = .ok st) (ho : st.op.isSome = true) (hi : (ys.length : Int) = i) : Bad i ys := by
  have ne := join_ne h
  refine ⟨fit_join h ne, ?_, (len_ok h).1, (len_ok h).2⟩
  unfold parseT
  rw [rows_join h ne, e]
  show (if st.op.isSome = true then Except.error (((ys.map sp).length : Nat) : Int) else .ok st) = _
  rw [if_pos ho, List.length_map, hi]
theorem ahead_of {a : List Str} (h : a ∈ AHEADS) : (∃ s, parseRows (a.map sp) 0 st0 = .ok s ∧ okSt s = true) ∧ (∀ r ∈ a, okRow r = true) ∧ a.length ≤ 8 := by
  have hh := List.all_eq_true.mp ahead_all a h
  obtain ⟨h', h3⟩ := Bool.and_eq_true_iff.mp hh
  obtain ⟨h1, h2⟩ := Bool.and_eq_true_iff.mp h'
  refine ⟨?_, fun r hr => List.all_eq_true.mp h2 r hr, of_decide_eq_true h3⟩
  unfold okAhead at h1
  split at h1
  · rename_i s e
    exact ⟨s, e, h1⟩
  · cases h1
theorem badIn_of {k r : Str} (h : badIn k r = true) : rowOf k (sp r) = none ∧ sp r ≠ wordEnd ∧ okRow r = true := by
  obtain ⟨h', h3⟩ := Bool.and_eq_true_iff.mp h
  obtain ⟨h1, h2⟩ := Bool.and_eq_true_iff.mp h'
  exact ⟨by simpa using h1, of_decide_eq_true h2, h3⟩
theorem okRows_app {a b : List Str} (ha : ∀ r ∈ a, okRow r = true) (hb : ∀ r ∈ b, okRow r = true) (hl : a.length + b.length ≤ 1000) (hn : ∃ r ∈ b, 1 ≤ r.length) : okRows (a ++ b) = true := by
  unfold okRows
  rw [Bool.and_eq_true, Bool.and_eq_true]
  refine ⟨⟨List.all_eq_true.mpr fun r hr => ?_, decide_eq_true (by rw [List.length_append]; exact hl)⟩, List.any_eq_true.mpr ?_⟩
  · rcases List.mem_append.mp hr with h | h
    · exact ha r h
    · exact hb r h
  · obtain ⟨r, h1, h2⟩ := hn
    exact ⟨r, List.mem_append_right _ h1, decide_eq_true h2⟩
theorem tell_row : (rowOf "func" (sp "tell a")).isSome = true ∧ sp "tell a" ≠ wordEnd := by decide +kernel
theorem q_row : (rowOf "data" (sp "q")).isSome = true ∧ sp "q" ≠ wordEnd := by decide +kernel
theorem ok_rows : okRow "func u" = true ∧ okRow "tell a" = true ∧ okRow "ret" = true ∧ okRow "end" = true ∧ okRow "data v" = true ∧ okRow "q" = true ∧ okRow "5" = true := by decide +kernel
theorem len_fu : 1 ≤ ("func u" : Str).length ∧ 1 ≤ ("data v" : Str).length := by decide +kernel
/-- behind «func u», «tell a» -/
theorem upto_u {a : List Str} (h : a ∈ AHEADS) (b : List (List Str)) : ∃ (st : ST) (op : OP), st.op = some op ∧ op.kind = ("func" : Str) ∧ parseRows (a.map sp ++ (sp "func u" :: sp "tell a" :: b)) 0 st0 = parseRows b ((a.length : Int) + 2) st := by
  obtain ⟨⟨s, e, hs⟩, _, _⟩ := ahead_of h
  obtain ⟨r0, hr0⟩ := Option.isSome_iff_exists.mp tell_row.1
  rw [parse_app, e]
  show ∃ (st : ST) (op : OP), st.op = some op ∧ op.kind = ("func" : Str) ∧ parseRows (sp "func u" :: sp "tell a" :: b) (0 + ((a.map sp).length : Int)) s = _
  rw [List.length_map, show (0 : Int) + (a.length : Int) = (a.length : Int) by omega, sp_u]
  have e1 := takeRow_u (i := (a.length : Int)) hs
  have e2 := takeRow_in (i := (a.length : Int) + 1) (st := { s with nm := s.nm ++ [("u" : Str)], op := some ⟨"func", "u", (a.length : Int) + 1, []⟩ }) rfl tell_row.2 hr0 (by show ¬ (0 : Nat) = 16; decide)
  refine ⟨{ s with nm := s.nm ++ [("u" : Str)], op := some ⟨"func", "u", (a.length : Int) + 1, [] ++ [r0]⟩ }, _, rfl, rfl, ?_⟩
  · show (match takeRow (a.length : Int) wordsU s with | .error e => Except.error e | .ok st' => parseRows (sp "tell a" :: b) ((a.length : Int) + 1) st') = _
    rw [e1]
    show (match takeRow ((a.length : Int) + 1) (sp "tell a") _ with | .error e => Except.error e | .ok st' => parseRows b ((a.length : Int) + 1 + 1) st') = _
    rw [e2, show (a.length : Int) + 1 + 1 = (a.length : Int) + 2 by omega]
theorem upto_v {a : List Str} (h : a ∈ AHEADS) (b : List (List Str)) : ∃ (st : ST) (op : OP), st.op = some op ∧ op.kind = ("data" : Str) ∧ parseRows (a.map sp ++ (sp "data v" :: sp "q" :: b)) 0 st0 = parseRows b ((a.length : Int) + 2) st := by
  obtain ⟨⟨s, e, hs⟩, _, _⟩ := ahead_of h
  obtain ⟨r0, hr0⟩ := Option.isSome_iff_exists.mp q_row.1
  rw [parse_app, e]
  show ∃ (st : ST) (op : OP), st.op = some op ∧ op.kind = ("data" : Str) ∧ parseRows (sp "data v" :: sp "q" :: b) (0 + ((a.map sp).length : Int)) s = _
  rw [List.length_map, show (0 : Int) + (a.length : Int) = (a.length : Int) by omega, sp_v]
  have e1 := takeRow_v (i := (a.length : Int)) hs
  have e2 := takeRow_in (i := (a.length : Int) + 1) (st := { s with nm := s.nm ++ [("v" : Str)], op := some ⟨"data", "v", (a.length : Int) + 1, []⟩ }) rfl q_row.2 hr0 (by show ¬ (0 : Nat) = 16; decide)
  refine ⟨{ s with nm := s.nm ++ [("v" : Str)], op := some ⟨"data", "v", (a.length : Int) + 1, [] ++ [r0]⟩ }, _, rfl, rfl, ?_⟩
  · show (match takeRow (a.length : Int) wordsV s with | .error e => Except.error e | .ok st' => parseRows (sp "q" :: b) ((a.length : Int) + 1) st') = _
    rw [e1]
    show (match takeRow ((a.length : Int) + 1) (sp "q") _ with | .error e => Except.error e | .ok st' => parseRows b ((a.length : Int) + 1 + 1) st') = _
    rw [e2, show (a.length : Int) + 1 + 1 = (a.length : Int) + 2 by omega]
theorem inside_bad {a : List Str} {r : Str} (h : a ∈ AHEADS) (hr : r ∈ INSIDE) : Bad ((a.length : Int) + 2) (a ++ S1 r) := by
  obtain ⟨k1, k2, k3⟩ := badIn_of (List.all_eq_true.mp inside_all r hr)
  obtain ⟨_, ha, hl⟩ := ahead_of h
  obtain ⟨o1, o2, o3, o4, o5, o6, o7⟩ := ok_rows
  refine bad_of (okRows_app ha (fun x hx => ?_) (by show a.length + 5 ≤ 1000; omega) ⟨_, List.mem_cons_self .., len_fu.1⟩) ?_
  · have hx : x = "func u" ∨ x = "tell a" ∨ x = r ∨ x = "ret" ∨ x = "end" := by simpa [S1] using hx
    rcases hx with rfl | rfl | rfl | rfl | rfl <;> assumption
  · obtain ⟨st, op, ho, hk, e⟩ := upto_u h [sp r, sp "ret", sp "end"]
    rw [List.map_append]
    refine Eq.trans e ?_
    show (match takeRow ((a.length : Int) + 2) (sp r) st with | .error e => Except.error e | .ok st' => parseRows _ _ st') = _
    rw [takeRow_bad ho k2 (by rw [hk]; exact k1)]
theorem data_bad {a : List Str} {r : Str} (h : a ∈ AHEADS) (hr : r ∈ INDATA) : Bad ((a.length : Int) + 2) (a ++ S2 r) := by
  obtain ⟨k1, k2, k3⟩ := badIn_of (List.all_eq_true.mp data_all r hr)
  obtain ⟨_, ha, hl⟩ := ahead_of h
  obtain ⟨o1, o2, o3, o4, o5, o6, o7⟩ := ok_rows
  refine bad_of (okRows_app ha (fun x hx => ?_) (by show a.length + 5 ≤ 1000; omega) ⟨_, List.mem_cons_self .., len_fu.2⟩) ?_
  · have hx : x = "data v" ∨ x = "q" ∨ x = r ∨ x = "end" ∨ x = "5" := by simpa [S2] using hx
    rcases hx with rfl | rfl | rfl | rfl | rfl <;> assumption
  · obtain ⟨st, op, ho, hk, e⟩ := upto_v h [sp r, sp "end", sp "5"]
    rw [List.map_append]
    refine Eq.trans e ?_
    show (match takeRow ((a.length : Int) + 2) (sp r) st with | .error e => Except.error e | .ok st' => parseRows _ _ st') = _
    rw [takeRow_bad ho k2 (by rw [hk]; exact k1)]
end TZ

set_option Elab.async false
set_option linter.all false
set_option maxRecDepth 1000000
set_option maxHeartbeats 4000000
/-! The other texts of the law. -/
namespace TZ
open PySem PySem.Spec PyProof.Rows L2 L2.FK FS TX TL
/-- rows that make a right text -/
structure Right (ys : List Str) : Prop where
  fit : FitT (Txt.join "\n" ys)
  ok : ∃ st, parseT (Txt.join "\n" ys) = .ok st
  len : (ys.map (·.length)).sum + ys.length * ("\n" : Str).length ≤ 16777216
  many : ys.length ≤ 1000
def okEnd : Except Int ST → Bool
  | .ok s => s.op.isNone
  | .error _ => false
theorem right_of {ys : List Str} (h : okRows ys = true) (e : okEnd (parseRows (ys.map sp) 0 st0) = true) : Right ys := by
  have ne := join_ne h
  refine ⟨fit_join h ne, ?_, (len_ok h).1, (len_ok h).2⟩
  unfold parseT
  rw [rows_join h ne]
  cases q : parseRows (ys.map sp) 0 st0 with
  | error i => rw [q] at e; cases e
  | ok s =>
    rw [q] at e
    have e : s.op.isNone = true := e
    refine ⟨s, ?_⟩
    show (if s.op.isSome = true then _ else Except.ok s) = _
    rw [if_neg (by simpa using e)]
theorem bad_dec {i : Int} {ys : List Str} (h : okRows ys = true) (e : isErr i (parseRows (ys.map sp) 0 st0) = true) : Bad i ys := bad_of h (err_of e)
/-! outside -/
def outB (r : Str) : Bool := okRow r && (match parseRows (FIRST4.map sp) 0 st0 with
  | .ok s => s.op.isNone && (takeBetween 4 (sp r) s).isNone
  | .error _ => false)
theorem out_all : OUTSIDE.all outB = true := by decide +kernel
theorem first_ok : okRow "export q" = true ∧ okRow "alias p q" = true ∧ okRow "data s" = true ∧ okRow "end" = true ∧ 1 ≤ ("data s" : Str).length := by decide +kernel
theorem outside_bad {r : Str} (hr : r ∈ OUTSIDE) : Bad 4 (FIRST ++ S3 r) := by
  obtain ⟨h1, h2⟩ := Bool.and_eq_true_iff.mp (List.all_eq_true.mp out_all r hr)
  obtain ⟨o1, o2, o3, o4, o5⟩ := first_ok
  refine bad_of (okRows_app (fun x hx => ?_) (fun x hx => ?_) (by show 2 + 3 ≤ 1000; decide) ⟨_, List.mem_cons_self .., o5⟩) ?_
  · have hx : x = "export q" ∨ x = "alias p q" := by simpa [FIRST] using hx
    rcases hx with rfl | rfl <;> assumption
  · have hx : x = "data s" ∨ x = "end" ∨ x = r := by simpa [S3] using hx
    rcases hx with rfl | rfl | rfl <;> assumption
  · show parseRows (FIRST4.map sp ++ [sp r]) 0 st0 = _
    rw [parse_app]
    split at h2
    · rename_i s e
      rw [e]
      obtain ⟨k1, k2⟩ := Bool.and_eq_true_iff.mp h2
      have ho : s.op = none := by simpa using k1
      have hb : takeBetween 4 (sp r) s = none := by simpa using k2
      show (match takeRow (0 + 4) (sp r) s with | .error e => Except.error e | .ok st' => parseRows [] _ st') = _
      have : takeRow (0 + 4) (sp r) s = .error 4 := by
        unfold takeRow
        rw [ho]
        show (match takeBetween (0 + 4) (sp r) s with | some s => Except.ok s | none => .error (0 + 4)) = (Except.error 4 : Except Int ST)
        rw [show (0 : Int) + 4 = 4 from rfl, hb]
      rw [this]
    · cases h2
/-! a piece left open -/
theorem open_u {a : List Str} (h : a ∈ AHEADS) : Bad ((a.length : Int) + 2) (a ++ O1) := by
  obtain ⟨_, ha, hl⟩ := ahead_of h
  obtain ⟨o1, o2, o3, o4, o5, o6, o7⟩ := ok_rows
  obtain ⟨st, op, ho, hk, e⟩ := upto_u h []
  refine bad_open (st := st) (okRows_app ha (fun x hx => ?_) (by show a.length + 2 ≤ 1000; omega) ⟨_, List.mem_cons_self .., len_fu.1⟩) (by rw [List.map_append]; exact e) (by rw [ho]; rfl) (by rw [List.length_append]; rfl)
  have hx : x = "func u" ∨ x = "tell a" := by simpa [O1] using hx
  rcases hx with rfl | rfl <;> assumption
theorem open_v {a : List Str} (h : a ∈ AHEADS) : Bad ((a.length : Int) + 2) (a ++ O2) := by
  obtain ⟨_, ha, hl⟩ := ahead_of h
  obtain ⟨o1, o2, o3, o4, o5, o6, o7⟩ := ok_rows
  obtain ⟨st, op, ho, hk, e⟩ := upto_v h []
  refine bad_open (st := st) (okRows_app ha (fun x hx => ?_) (by show a.length + 2 ≤ 1000; omega) ⟨_, List.mem_cons_self .., len_fu.2⟩) (by rw [List.map_append]; exact e) (by rw [ho]; rfl) (by rw [List.length_append]; rfl)
  have hx : x = "data v" ∨ x = "q" := by simpa [O2] using hx
  rcases hx with rfl | rfl <;> assumption
/-! the bounds -/
def MANY : List Str := [("func f" : Str)] ++ List.replicate 16 ("ret" : Str)
def ENDL : List Str := ["end"]
def RETEND : List Str := ["ret", "end"]
def PIECES : List Str := (List.range 12).flatMap fun (i : Nat) => [(("data d" : Str) ++ Str.ofString (toString ((i : Nat) : Int))), ("end" : Str)]
def FG : List Str := ["func g", "end"]
def JUMPS : List Str := ["func f", "go 3", "same a b 3", "choose 3", "end"]
def BENT1 : List Str := ["func f", "go 4", "same a b 3", "choose 3", "end"]
def BENT2 : List Str := ["func f", "go 3", "same a b 4", "choose 3", "end"]
def BENT3 : List Str := ["func f", "go 3", "same a b 3", "choose 4", "end"]
def WRONG (r : Str) : List Str := ["func f", "go 9", r, "end"]
theorem many_ok : Right (MANY ++ ENDL) := right_of (by decide +kernel) (by decide +kernel)
theorem many_bad : Bad 17 (MANY ++ RETEND) := bad_dec (by decide +kernel) (by decide +kernel)
theorem pieces_ok : Right PIECES := right_of (by decide +kernel) (by decide +kernel)
theorem pieces_bad : Bad 24 (PIECES ++ FG) := bad_dec (by decide +kernel) (by decide +kernel)
theorem jumps_ok : Right JUMPS := right_of (by decide +kernel) (by decide +kernel)
theorem bent1 : Bad 1 BENT1 := bad_dec (by decide +kernel) (by decide +kernel)
theorem bent2 : Bad 2 BENT2 := bad_dec (by decide +kernel) (by decide +kernel)
theorem bent3 : Bad 3 BENT3 := bad_dec (by decide +kernel) (by decide +kernel)
theorem wrong_all : INSIDE.all (fun r => okRows (WRONG r) && isErr 2 (parseRows ((WRONG r).map sp) 0 st0)) = true := by decide +kernel
theorem wrong_bad {r : Str} (h : r ∈ INSIDE) : Bad 2 (WRONG r) := by
  obtain ⟨h1, h2⟩ := Bool.and_eq_true_iff.mp (List.all_eq_true.mp wrong_all r h)
  exact bad_dec h1 h2
end TZ

set_option Elab.async false
set_option linter.all false
set_option maxRecDepth 100000
set_option maxHeartbeats 4000000
/-! The law's menus. -/
namespace TY
open PySem PySem.Spec PyProof.Rows L2 L2.FK FS TX TZ
section
variable {P : Program} {w : World} {K : PySem.W.Frag} {mg : Str → Option Value} {base : Heap}
/-- a new list of these texts -/
def spMenu (L : List Str) : Sp := fun vs H Q _ => vs = [] ∧ ∀ H' p, Same H H' → H p = none → H' p = some (.lst (L.map V.str)) → Q (.ref p) H'
abbrev sINSIDE : Stmt := top (TX.o + 18)
theorem scINSIDE : FnScope ["_law_found"] [] (defScope sINSIDE) := ⟨rfl, rfl, rfl, by decide +kernel, rfl, by decide +kernel, by decide +kernel⟩
theorem ok_INSIDE {f : Addr} {fd : FuncData} {k : Nat} (F : Fun K "_law_inside" "_law_inside" sINSIDE f fd) : FnOk P w K mg base CX0 (k + 1) f fd [] (spMenu INSIDE) := by
  refine F.ok scINSIDE (fun vs H Q E h => ?_) (fun cdv A outer s H vs Q E hr h => ?_)
  · obtain ⟨rfl, _⟩ := h
    rfl
  · obtain ⟨rfl, q⟩ := h
    refine ⟨_, pss_cons (ps_set (i := 0) scINSIDE.nd rfl (.inl rfl) (pe_lstS (pa_cons pe_str (pa_cons pe_str (pa_cons pe_str (pa_cons pe_str (pa_cons pe_str (pa_cons pe_str (pa_cons pe_str (pa_cons pe_str (pa_cons pe_str (pa_cons pe_str (pa_cons pe_str (pa_cons pe_str pa_nil)))))))))))))) (pss_cons (ps_set (i := 0) scINSIDE.nd rfl (.inl rfl) (pe_op op_catS (pv 0) (pe_lstS (pa_cons pe_str (pa_cons pe_str (pa_cons pe_str (pa_cons pe_str (pa_cons pe_str (pa_cons pe_str (pa_cons pe_str (pa_cons pe_str (pa_cons pe_str pa_nil)))))))))))) (pss_cons (ps_set (i := 0) scINSIDE.nd rfl (.inl rfl) (pe_op op_catS (pv 0) (pe_lstS (pa_cons pe_str (pa_cons pe_str (pa_cons pe_str (pa_cons pe_str (pa_cons pe_str (pa_cons pe_str (pa_cons pe_str (pa_cons pe_str pa_nil))))))))))) (pss_cons (ps_set (i := 0) scINSIDE.nd rfl (.inl rfl) (pe_op op_catS (pv 0) (pe_lstS (pa_cons pe_str (pa_cons pe_str (pa_cons pe_str (pa_cons pe_str (pa_cons pe_str (pa_cons pe_str (pa_cons pe_str (pa_cons pe_str (pa_cons pe_str pa_nil)))))))))))) (pss_one (ps_ret (pe_op op_catS (pv 0) (pe_lstS (pa_cons pe_str (pa_cons pe_str (pa_cons pe_str (pa_cons pe_str (pa_cons pe_str (pa_cons pe_str (pa_cons pe_str (pa_cons pe_str (pa_cons pe_str (pa_cons pe_str (pa_cons pe_str pa_nil)))))))))))))))))), ?_⟩
    refine ⟨by simp, fun a0 G0 s0 n0 e0 => ?_⟩
    refine ⟨.ref a0, rfl, by simp, fun b1 K1 t1 m1 g1 => ⟨a0, b1, _, _, rfl, rfl, t1 _ _ e0, g1, by decide, fun a1 G1 u1 n1 e1 => ?_⟩⟩
    refine ⟨.ref a1, rfl, by simp, fun b2 K2 t2 m2 g2 => ⟨a1, b2, _, _, rfl, rfl, t2 _ _ e1, g2, by decide, fun a2 G2 u2 n2 e2 => ?_⟩⟩
    refine ⟨.ref a2, rfl, by simp, fun b3 K3 t3 m3 g3 => ⟨a2, b3, _, _, rfl, rfl, t3 _ _ e2, g3, by decide, fun a3 G3 u3 n3 e3 => ?_⟩⟩
    refine ⟨.ref a3, rfl, by simp, fun b4 K4 t4 m4 g4 => ⟨a3, b4, _, _, rfl, rfl, t4 _ _ e3, g4, by decide, fun a4 G4 u4 n4 e4 => ?_⟩⟩
    exact q G4 a4 (((((((((s0).trans t1).trans u1).trans t2).trans u2).trans t3).trans u3).trans t4).trans u4) (same_none ((((((((s0).trans t1).trans u1).trans t2).trans u2).trans t3).trans u3).trans t4) n4) e4
abbrev sINDATA : Stmt := top (TX.o + 19)
theorem scINDATA : FnScope ["_law_found"] [] (defScope sINDATA) := ⟨rfl, rfl, rfl, by decide +kernel, rfl, by decide +kernel, by decide +kernel⟩
theorem ok_INDATA {f : Addr} {fd : FuncData} {k : Nat} (F : Fun K "_law_in_data" "_law_in_data" sINDATA f fd) : FnOk P w K mg base CX0 (k + 1) f fd [] (spMenu INDATA) := by
  refine F.ok scINDATA (fun vs H Q E h => ?_) (fun cdv A outer s H vs Q E hr h => ?_)
  · obtain ⟨rfl, _⟩ := h
    rfl
  · obtain ⟨rfl, q⟩ := h
    refine ⟨_, pss_cons (ps_set (i := 0) scINDATA.nd rfl (.inl rfl) (pe_lstS (pa_cons pe_str (pa_cons pe_str (pa_cons pe_str (pa_cons pe_str (pa_cons pe_str (pa_cons pe_str (pa_cons pe_str (pa_cons pe_str (pa_cons pe_str (pa_cons pe_str (pa_cons pe_str (pa_cons pe_str (pa_cons pe_str (pa_cons pe_str (pa_cons pe_str (pa_cons pe_str pa_nil)))))))))))))))))) (pss_one (ps_ret (pe_op op_catS (pv 0) (pe_lstS (pa_cons pe_str (pa_cons pe_str (pa_cons pe_str (pa_cons pe_str (pa_cons pe_str (pa_cons pe_str pa_nil)))))))))), ?_⟩
    refine ⟨by simp, fun a0 G0 s0 n0 e0 => ?_⟩
    refine ⟨.ref a0, rfl, by simp, fun b1 K1 t1 m1 g1 => ⟨a0, b1, _, _, rfl, rfl, t1 _ _ e0, g1, by decide, fun a1 G1 u1 n1 e1 => ?_⟩⟩
    exact q G1 a1 (((s0).trans t1).trans u1) (same_none ((s0).trans t1) n1) e1
abbrev sOUTSIDE : Stmt := top (TX.o + 20)
theorem scOUTSIDE : FnScope ["_law_found"] [] (defScope sOUTSIDE) := ⟨rfl, rfl, rfl, by decide +kernel, rfl, by decide +kernel, by decide +kernel⟩
theorem ok_OUTSIDE {f : Addr} {fd : FuncData} {k : Nat} (F : Fun K "_law_outside" "_law_outside" sOUTSIDE f fd) : FnOk P w K mg base CX0 (k + 1) f fd [] (spMenu OUTSIDE) := by
  refine F.ok scOUTSIDE (fun vs H Q E h => ?_) (fun cdv A outer s H vs Q E hr h => ?_)
  · obtain ⟨rfl, _⟩ := h
    rfl
  · obtain ⟨rfl, q⟩ := h
    refine ⟨_, pss_cons (ps_set (i := 0) scOUTSIDE.nd rfl (.inl rfl) (pe_lstS (pa_cons pe_str (pa_cons pe_str (pa_cons pe_str (pa_cons pe_str (pa_cons pe_str (pa_cons pe_str (pa_cons pe_str (pa_cons pe_str (pa_cons pe_str (pa_cons pe_str (pa_cons pe_str (pa_cons pe_str pa_nil)))))))))))))) (pss_cons (ps_set (i := 0) scOUTSIDE.nd rfl (.inl rfl) (pe_op op_catS (pv 0) (pe_lstS (pa_cons pe_str (pa_cons pe_str (pa_cons pe_str (pa_cons pe_str (pa_cons pe_str (pa_cons pe_str (pa_cons pe_str (pa_cons pe_str pa_nil))))))))))) (pss_one (ps_ret (pe_op op_catS (pv 0) (pe_lstS (pa_cons pe_str (pa_cons pe_str (pa_cons pe_str (pa_cons pe_str (pa_cons pe_str (pa_cons pe_str pa_nil))))))))))), ?_⟩
    refine ⟨by simp, fun a0 G0 s0 n0 e0 => ?_⟩
    refine ⟨.ref a0, rfl, by simp, fun b1 K1 t1 m1 g1 => ⟨a0, b1, _, _, rfl, rfl, t1 _ _ e0, g1, by decide, fun a1 G1 u1 n1 e1 => ?_⟩⟩
    refine ⟨.ref a1, rfl, by simp, fun b2 K2 t2 m2 g2 => ⟨a1, b2, _, _, rfl, rfl, t2 _ _ e1, g2, by decide, fun a2 G2 u2 n2 e2 => ?_⟩⟩
    exact q G2 a2 (((((s0).trans t1).trans u1).trans t2).trans u2) (same_none ((((s0).trans t1).trans u1).trans t2) n2) e2
end
end TY

set_option Elab.async false
set_option linter.all false
set_option maxRecDepth 100000
set_option maxHeartbeats 4000000
/-! The law's names. -/
namespace TY
open PySem PySem.Spec PyProof.Rows L2 L2.FK FS TX TZ
def GOODN : List Str := ["a", "z9", "abcdefgh", "retx", "f0", "funcs", "x1y2z3", "ends", "tells", "gob"]
def BADN0 : List Str := ["", "A", "9a", "abcdefghi", "a b", "a.b", "a_b", "ret", "call", "callr", "addr", "set", "move", "read", "readr"]
def BADN1 : List Str := ["same", "choose", "tell", "go", "func", "data", "end", "export", "alias"]
theorem goodn : GOODN.all isName = true := by decide +kernel
theorem badn : (BADN0 ++ BADN1).all (fun z => !isName z) = true := by decide +kernel
theorem shortn : (GOODN ++ (BADN0 ++ BADN1)).all (fun z => decide (z.length ≤ 1000)) = true := by decide +kernel
def nameV : V → Bool
  | .str z => isName z
  | _ => false
/-- no text, as it stands in a heap -/
def NS (H : Hp) (x : V) : Prop := x = .non ∨ x = .int 5 ∨ x = .bl true ∨ (∃ a xs, x = .ref a ∧ H a = some (.lst xs)) ∨ (∃ a xs, x = .ref a ∧ H a = some (.tup xs)) ∨ ∃ a, x = .ref a ∧ H a = some (.dK [])
theorem NS.no {K : PySem.W.Frag} {H : Hp} {x : V} (h : NS H x) : NoStr K H x ∧ nameV x = false := by
  rcases h with rfl | rfl | rfl | ⟨a, xs, rfl, e⟩ | ⟨a, xs, rfl, e⟩ | ⟨a, rfl, e⟩
  · exact ⟨⟨_, .base .non, kit_ty (by decide +kernel)⟩, rfl⟩
  · exact ⟨⟨_, .base (.int 5), kit_ty (by decide +kernel)⟩, rfl⟩
  · exact ⟨⟨_, .base (.bl true), kit_ty (by decide +kernel)⟩, rfl⟩
  · exact ⟨⟨_, .base (.lst e), kit_ty (by decide +kernel)⟩, rfl⟩
  · exact ⟨⟨_, .base (.tup e), kit_ty (by decide +kernel)⟩, rfl⟩
  · exact ⟨⟨_, .base (.dK e), kit_ty (by decide +kernel)⟩, rfl⟩
theorem NS.mono {H H' : Hp} (s : Same H H') {x : V} (h : NS H x) : NS H' x := by
  rcases h with rfl | rfl | rfl | ⟨a, xs, rfl, e⟩ | ⟨a, xs, rfl, e⟩ | ⟨a, rfl, e⟩
  · exact .inl rfl
  · exact .inr (.inl rfl)
  · exact .inr (.inr (.inl rfl))
  · exact .inr (.inr (.inr (.inl ⟨a, xs, rfl, s _ _ e⟩)))
  · exact .inr (.inr (.inr (.inr (.inl ⟨a, xs, rfl, s _ _ e⟩))))
  · exact .inr (.inr (.inr (.inr (.inr ⟨a, rfl, s _ _ e⟩))))
def Dn (x : V) (H : Hp) : Prop := (∃ z, x = .str z ∧ z.length ≤ 1000) ∨ NS H x
theorem paired_map {f : V → V} : ∀ {xs vs : List V}, Paired (fun x v => v = f x) xs vs → vs = xs.map f
  | _, _, .nil => rfl
  | _, _, .cons h t => by rw [h, paired_map t]; rfl
theorem dp_bools {K : PySem.W.Frag} {H : Hp} : ∀ bs : List Bool, DpAll K H (bs.map V.bl) (bs.map PyData.bool)
  | [] => .nil
  | b :: r => .cons (.bl b) (dp_bools r)
theorem map_all {α : Type} {f : α → Bool} {c : Bool} : ∀ {l : List α}, (∀ x ∈ l, f x = c) → l.map f = List.replicate l.length c
  | [], _ => rfl
  | x :: r, h => by
    rw [List.map_cons, h x (List.mem_cons_self ..), map_all fun y hy => h y (List.mem_cons_of_mem _ hy), List.length_cons, List.replicate_succ]
abbrev sNames : Stmt := top (TX.o + 22)
section
variable {P : Program} {w : World} {K : PySem.W.Frag} {mg : Str → Option Value} {base : Heap}
def spYes : Sp := fun vs H Q _ => vs = [] ∧ ∀ H', Same H H' → Q (.bl true) H'
theorem scNm : FnScope ["_law_good", "_law_bad", "_law_one"] [] (defScope sNames) := ⟨rfl, rfl, rfl, by decide +kernel, rfl, by decide +kernel, by decide +kernel⟩
theorem ok_names {f fN : Addr} {fd fdN : FuncData} (F : Fun K "_law_names_right" "_law_names_right" sNames f fd) (zl : mg "len" = none)
    (GN : FnOk P w K mg base CX0 1 fN fdN ["value"] (spIsName K)) (bN : Binds K fdN ["value"] []) (gN : mg "is_name" = some (.ref fN)) (kN : PySem.W.keepIn K (.ref fN) = true) : FnOk P w K mg base CX0 2 f fd [] spYes := by
  refine F.ok scNm (fun vs H Q E h => ?_) (fun cdv A outer s H vs Q E hr h => ?_)
  · obtain ⟨rfl, _⟩ := h
    rfl
  · obtain ⟨rfl, q⟩ := h
    refine ⟨_, pss_cons (ps_set (i := 0) scNm.nd rfl (.inl rfl) (pe_lstS (pa_cons pe_str (pa_cons pe_str (pa_cons pe_str (pa_cons pe_str (pa_cons pe_str (pa_cons pe_str (pa_cons pe_str (pa_cons pe_str (pa_cons pe_str (pa_cons pe_str pa_nil)))))))))))) (pss_cons (ps_set (i := 1) scNm.nd rfl (.inl rfl) (pe_lstS (pa_cons pe_str (pa_cons pe_str (pa_cons pe_str (pa_cons pe_str (pa_cons pe_str (pa_cons pe_str (pa_cons pe_str (pa_cons pe_str (pa_cons pe_str (pa_cons pe_str (pa_cons pe_str (pa_cons pe_str (pa_cons pe_str (pa_cons pe_str (pa_cons pe_str pa_nil))))))))))))))))) (pss_cons (ps_set (i := 1) scNm.nd rfl (.inl rfl) (pe_op op_catS (pv 1) (pe_lstS (pa_cons pe_str (pa_cons pe_str (pa_cons pe_str (pa_cons pe_str (pa_cons pe_str (pa_cons pe_str (pa_cons pe_str (pa_cons pe_str (pa_cons pe_str (pa_cons pe_non (pa_cons pe_int (pa_cons pe_bl (pa_cons (pe_lstS (pa_cons pe_str pa_nil)) (pa_cons (pe_tupS (pa_cons pe_str pa_nil)) (pa_cons pe_dictS pa_nil))))))))))))))))))
      (pss_one (ps_ret (pe_cmpR (op_eqD hr.units) (pe_cg (K := K) (R := fun x v _ => v = .bl (nameV x)) (Dm := Dn) (te := tCall (spIsName K) [] (fun _ _ _ => False) (tCons (tVar 2) tNil)) (j := 2)
          (pe_lc (own := [("_law_one", 2)]) (g := gName 2) (tt := tYes) rfl scNm.nd (pi_list (pe_op op_catS (pv 0) (pv 1))) (blkOk_by (N := ["_law_good", "_law_bad", "_law_one"]) (sc := defScope sNames) (by decide +kernel)) (fun _ _ _ _ _ => pg_name (i := 2) scNm.nd rfl (Or.inl rfl)) (fun _ _ _ _ _ => pts_nil)
            (fun _ _ _ _ _ => pe_call GN hr rfl gN kN bN .nil pass0 (pa_cons (pv 2) pa_nil)))
          (fun _ _ _ _ _ h => h) (fun _ _ _ _ _ _ h => h) (fun x H H' s h => h.imp id fun n => n.mono s) (fun σ H Q Q' k h => by
            obtain ⟨v, h0, u, h1, l, b, xs, zs, e1, e2, h2, h3, h4, q⟩ := h
            exact ⟨v, h0, u, h1, l, b, xs, zs, e1, e2, h2, h3, h4, fun p H' s n e => k _ _ (q p H' s n e)⟩) (fun x σ H Q hx h hq => by
            rcases h with ⟨z, ex, hz⟩ | n
            · subst ex
              exact ⟨_, hx, _, rfl, .inl ⟨z, rfl, Nat.le_of_lt (small1000 hz), fun H' s => hq _ H' s (fun p ep => nomatch ep) rfl⟩⟩
            · exact ⟨_, hx, _, rfl, .inr ⟨n.no.1, hq _ H (Same.refl H) (fun p ep => nomatch ep) (by rw [(n.no (K := K)).2])⟩⟩))
        (pe_op op_catS (pe_op op_repS (pe_lstS (pa_cons pe_bl pa_nil)) (pe_callB call_len_seq (by rfl) zl PySem.boot_len (pa_cons (pv 0) pa_nil))) (pe_op op_repS (pe_lstS (pa_cons pe_bl pa_nil)) (pe_callB call_len_seq (by rfl) zl PySem.boot_len (pa_cons (pv 1) pa_nil)))) (nomark _)))))), ?_⟩
    refine ⟨by simp, fun a0 G0 s0 n0 e0 => ⟨by simp, fun a1 G1 s1 n1 e1 => ?_⟩⟩
    refine ⟨.ref a1, rfl, by simp, fun la L1 t1 m1 g1 => ⟨by simp, fun lt L2 t2 m2 g2 => fun ld L3 t3 m3 g3 => ⟨by simp, fun a2 L4 t4 m4 g4 => ?_⟩⟩⟩
    have s14 : Same G1 L4 := ((t1.trans t2).trans t3).trans t4
    refine ⟨a1, a2, BADN0.map V.str, BADN1.map V.str ++ [.non, .int 5, .bl true, .ref la, .ref lt, .ref ld], rfl, rfl, s14 _ _ e1, g4, by rw [List.length_append, List.length_map, List.length_map]; show BADN0.length + (BADN1.length + 6) ≤ 1000; decide, fun a3 G3 u3 n3 e3 => ?_⟩
    have c0 : G3 a0 = some (.lst (GOODN.map V.str)) := u3 _ _ (s14 _ _ (s1 _ _ e0))
    refine ⟨.ref a0, rfl, .ref a3, rfl, a0, a3, _, _, rfl, rfl, c0, e3, by simp only [List.length_append, List.length_map]; show GOODN.length + (BADN0.length + (BADN1.length + 6)) ≤ 1000; decide, fun a4 G4 u4 n4 e4 => ⟨a4, _, rfl, SqL.of e4, by simp only [List.length_append, List.length_map]; exact Nat.le_of_lt (small1000 (by show GOODN.length + (BADN0.length + (BADN1.length + 6)) ≤ 1000; decide)), (by show 2 < 3; decide), fun x hx => ?_, fun D H5 vs s5 n5 e5 pv => ?_⟩⟩
    · have sh : ∀ z ∈ GOODN ++ (BADN0 ++ BADN1), z.length ≤ 1000 := fun z hz => of_decide_eq_true (List.all_eq_true.mp shortn z hz)
      have up : ∀ {y : V}, NS L3 y → NS G4 y := fun {y} h => ((h.mono t4).mono u3).mono u4
      rcases List.mem_append.mp hx with hx | hx
      · obtain ⟨z, hz, rfl⟩ := List.mem_map.mp hx
        exact .inl ⟨z, rfl, sh z (List.mem_append_left _ hz)⟩
      · rcases List.mem_append.mp hx with hx | hx
        · obtain ⟨z, hz, rfl⟩ := List.mem_map.mp hx
          exact .inl ⟨z, rfl, sh z (List.mem_append_right _ (List.mem_append_left _ hz))⟩
        · rcases List.mem_append.mp hx with hx | hx
          · obtain ⟨z, hz, rfl⟩ := List.mem_map.mp hx
            exact .inl ⟨z, rfl, sh z (List.mem_append_right _ (List.mem_append_right _ hz))⟩
          · have hx : x = .non ∨ x = .int 5 ∨ x = .bl true ∨ x = .ref la ∨ x = .ref lt ∨ x = .ref ld := by simpa using hx
            refine .inr (up ?_)
            rcases hx with rfl | rfl | rfl | rfl | rfl | rfl
            · exact .inl rfl
            · exact .inr (.inl rfl)
            · exact .inr (.inr (.inl rfl))
            · exact .inr (.inr (.inr (.inl ⟨la, _, rfl, t3 _ _ (t2 _ _ g1)⟩)))
            · exact .inr (.inr (.inr (.inr (.inl ⟨lt, _, rfl, t3 _ _ g2⟩))))
            · exact .inr (.inr (.inr (.inr (.inr ⟨ld, rfl, g3⟩))))
    · have d0 : H5 a0 = some (.lst (GOODN.map V.str)) := s5 _ _ (u4 _ _ c0)
      have d3 := s5 _ _ (u4 _ _ e3)
      have ev : vs = (List.replicate 10 true ++ List.replicate 30 false).map V.bl := by
        rw [paired_map (f := fun x => V.bl (nameV x)) pv]
        have hg : ∀ z ∈ GOODN, isName z = true := fun z hz => List.all_eq_true.mp goodn z hz
        have hb : ∀ z ∈ BADN0 ++ BADN1, isName z = false := fun z hz => by simpa using List.all_eq_true.mp badn z hz
        rw [List.map_append, List.map_append, List.map_append, List.map_map, List.map_map, List.map_map]
        have m1 : GOODN.map ((fun x => V.bl (nameV x)) ∘ V.str) = (List.replicate 10 true).map V.bl := by
          rw [show List.replicate 10 true = GOODN.map isName from (map_all (f := isName) (c := true) (l := GOODN) hg).symm, List.map_map]
          rfl
        have m2 : BADN0.map ((fun x => V.bl (nameV x)) ∘ V.str) = (List.replicate 15 false).map V.bl := by
          rw [show List.replicate 15 false = BADN0.map isName from (map_all (f := isName) (c := false) (l := BADN0) fun z hz => hb z (List.mem_append_left _ hz)).symm, List.map_map]
          rfl
        have m3 : BADN1.map ((fun x => V.bl (nameV x)) ∘ V.str) = (List.replicate 9 false).map V.bl := by
          rw [show List.replicate 9 false = BADN1.map isName from (map_all (f := isName) (c := false) (l := BADN1) fun z hz => hb z (List.mem_append_right _ hz)).symm, List.map_map]
          rfl
        rw [m1, m2, m3]
        rfl
      subst ev
      refine ⟨by simp, fun b1 K1 r1 w1 x1 => ⟨.ref a0, rfl, a0, _, rfl, .inl (SqL.of (r1 _ _ d0)), b1, 10, [.bl true], rfl, rfl, x1, by decide, by decide, by decide, fun b2 K2 r2 w2 x2 => ?_⟩⟩
      refine ⟨by simp, fun b3 K3 r3 w3 x3 => ⟨.ref a3, rfl, a3, _, rfl, .inl (SqL.of (r3 _ _ (r2 _ _ (r1 _ _ d3)))), b3, 30, [.bl false], rfl, rfl, x3, by decide, by decide, by decide, fun b4 K4 r4 w4 x4 => ?_⟩⟩
      refine ⟨b2, b4, _, _, rfl, rfl, r4 _ _ (r3 _ _ x2), x4, by decide, fun b5 K5 r5 w5 x5 => ?_⟩
      have sA : Same H5 K5 := (((r1.trans r2).trans r3).trans r4).trans r5
      refine ⟨.list ((List.replicate 10 true ++ List.replicate 30 false).map PyData.bool), .list ((List.replicate 10 true ++ List.replicate 30 false).map PyData.bool), .lst (SqL.of (sA _ _ e5)) (dp_bools _), .lst (SqL.of x5) (dp_bools (List.replicate 10 true ++ List.replicate 30 false)), by decide +kernel, by decide +kernel, ?_⟩
      rw [show PyData.eqv (.list ((List.replicate 10 true ++ List.replicate 30 false).map PyData.bool)) (.list ((List.replicate 10 true ++ List.replicate 30 false).map PyData.bool)) = true by decide +kernel]
      exact q _ (((((s0.trans s1).trans s14).trans u3).trans (u4.trans s5)).trans sA)
end
end TY

set_option Elab.async false
set_option linter.all false
set_option maxRecDepth 100000
set_option maxHeartbeats 4000000
/-! What is told of texts; the law's bounds. -/
namespace TY
open PySem PySem.Spec PyProof.Rows L2 L2.FK FS TX TZ CwR
/-! ### told -/
section
variable {K : PySem.W.Frag}
theorem err_eq {t : Str} {i j : Int} (a : parseT t = .error i) (b : parseT t = .error j) : j = i := by
  rw [a] at b
  cases b
  rfl
theorem no_ok {t : Str} {i : Int} {st : ST} (a : parseT t = .error i) (b : parseT t = .ok st) : False := by
  rw [a] at b
  cases b
theorem no_err {t : Str} {j : Int} (a : ∃ st, parseT t = .ok st) (b : parseT t = .error j) : False := by
  obtain ⟨st, e⟩ := a
  rw [e] at b
  cases b
theorem tl_cv {H : Hp} {p : Addr} {i j : Int} (h : j = i) (e : H p = some (.lst [.str (toString j), .bl true])) : H p = some (.lst [.str (toString i), .bl true]) := by
  subst h
  exact e
theorem log_cv {i j : Int} (h : j = i) (l : i.natAbs.log2 < 1920) : j.natAbs.log2 < 1920 := by
  subst h
  exact l
theorem shaped_told {z : Str} (h : PyData.strOk z = true) : SeqAt.shaped (.list [.str z, .bool true]) = true := by
  simp [SeqAt.shaped, PyData.canLay0, PyData.canLayAll0, PyData.depth, PyData.depthAll, h]
theorem dp_told {H : Hp} {p : Addr} {z : Str} (e1 : H p = some (.lst [.str z, .bl true])) : Dp K H (.ref p) (.list [.str z, .bool true]) := .lst (SqL.of e1) (.cons (.str _) (.cons (.bl _) .nil))
theorem ne_told {H : Hp} {p q : Addr} {z z' : Str} {Q : VK} (hz : z = z') (ok : PyData.strOk z' = true) (e1 : H p = some (.lst [.str z, .bl true])) (e2 : H q = some (.lst [.str z', .bl true])) (k : Q (.bl false) H) : rNeD K (.ref p) (.ref q) H Q := by
  subst hz
  refine ⟨_, _, dp_told e1, dp_told e2, shaped_told ok, shaped_told ok, ?_⟩
  rw [SeqAt.eqv_refl (.list [.str z, .bool true]) (SeqAt.canLay_of_shaped (shaped_told ok))]
  exact k
theorem eq_told {H : Hp} {p q : Addr} {z z' : Str} {Q : VK} (hz : z = z') (ok : PyData.strOk z' = true) (e1 : H p = some (.lst [.str z, .bl true])) (e2 : H q = some (.lst [.str z', .bl true])) (k : Q (.bl true) H) : rEqD K (.ref p) (.ref q) H Q := by
  subst hz
  refine ⟨_, _, dp_told e1, dp_told e2, shaped_told ok, shaped_told ok, ?_⟩
  rw [SeqAt.eqv_refl (.list [.str z, .bool true]) (SeqAt.canLay_of_shaped (shaped_told ok))]
  exact k
end
/-! ### the bounds' texts -/
theorem log12 : ∀ i : Nat, i < 12 → ((0 + (i : Int)).natAbs.log2 < 1920 ∧ ("data d" : Str).length + (Str.ofString (toString (0 + (i : Int)))).length ≤ 1000) := by decide +kernel
def PC (n : Nat) : List Str := (List.range n).flatMap fun (i : Nat) => [(("data d" : Str) ++ Str.ofString (toString ((i : Nat) : Int))), ("end" : Str)]
theorem pc_succ (n : Nat) : PC (n + 1) = PC n ++ [(("data d" : Str) ++ Str.ofString (toString ((n : Nat) : Int))), ("end" : Str)] := by
  unfold PC
  rw [List.range_succ, List.flatMap_append]
  rfl
theorem pc_len : ∀ n : Nat, (PC n).length = 2 * n
  | 0 => rfl
  | n + 1 => by
    rw [pc_succ, List.length_append, pc_len n]
    show 2 * n + 2 = _
    omega
def bend (j z : Str) : Str := if z = j then Txt.replace z "3" "4" else z
def JN : List Str := ["go 3", "same a b 3", "choose 3"]
theorem bent_bad : ∀ i : Nat, (h : i < 3) → ∃ j, JUMPS[i + 1]? = some j ∧ Bad ((i : Int) + 1) (JUMPS.map (bend j)) := by
  intro i h
  match i, h with
  | 0, _ => exact ⟨"go 3", rfl, by rw [show JUMPS.map (bend "go 3") = BENT1 by decide +kernel]; exact bent1⟩
  | 1, _ => exact ⟨"same a b 3", rfl, by rw [show JUMPS.map (bend "same a b 3") = BENT2 by decide +kernel]; exact bent2⟩
  | 2, _ => exact ⟨"choose 3", rfl, by rw [show JUMPS.map (bend "choose 3") = BENT3 by decide +kernel]; exact bent3⟩
theorem jshort : ∀ z ∈ JUMPS, z.length ≤ 100 := by decide +kernel
def fitB (t : Str) : Bool := decide (t.length ≤ 1000) && (Txt.split t "\n").all (fun r => decide (r.length ≤ 1000)) && (rowsOf t).all (fun ws => !ws.isEmpty && ws.all fun z => decide (z.length ≤ 1000) && PyData.strOk z) && decide (total (rowsOf t) < 1000) && decide ((rowsOf t).length ≤ 1000)
theorem fit_dec {t : Str} (h : fitB t = true) : FitT t := by
  obtain ⟨h, h5⟩ := Bool.and_eq_true_iff.mp h
  obtain ⟨h, h4⟩ := Bool.and_eq_true_iff.mp h
  obtain ⟨h, h3⟩ := Bool.and_eq_true_iff.mp h
  obtain ⟨h1, h2⟩ := Bool.and_eq_true_iff.mp h
  have sz : sizeLine = 16777216 := sizeLine_eq
  have h1 : t.length ≤ 1000 := of_decide_eq_true h1
  have h4 : total (rowsOf t) < 1000 := of_decide_eq_true h4
  refine ⟨⟨by omega, fun r hr => ?_⟩, fun ws hws => ?_, by omega, of_decide_eq_true h5⟩
  · have : r.length ≤ 1000 := of_decide_eq_true (List.all_eq_true.mp h2 r hr)
    omega
  · obtain ⟨k1, k2⟩ := Bool.and_eq_true_iff.mp (List.all_eq_true.mp h3 ws hws)
    refine ⟨fun e => by rw [e] at k1; simp at k1, fun z hz => ?_⟩
    obtain ⟨k3, k4⟩ := Bool.and_eq_true_iff.mp (List.all_eq_true.mp k2 z hz)
    exact ⟨Nat.le_of_lt (small1000 (of_decide_eq_true k3)), k4⟩
def T1 : Str := "func f\nret"
def T2 : Str := ""
def T3 : Str := "\n"
theorem t1_fit : FitT T1 := fit_dec (by decide +kernel)
theorem t2_fit : FitT T2 := fit_dec (by decide +kernel)
theorem t3_fit : FitT T3 := fit_dec (by decide +kernel)
theorem t1_bad : parseT T1 = .error 2 := err_of (by decide +kernel)
theorem t2_ok : ∃ st, parseT T2 = .ok st := ok_of (by decide +kernel)
theorem t3_bad : parseT T3 = .error 0 := err_of (by decide +kernel)
abbrev sBounds : Stmt := top (TX.o + 21)
section
variable {P : Program} {w : World} {K : PySem.W.Frag} {mg : Str → Option Value} {base : Heap}
def spBounds : Sp := fun vs H Q _ => ∃ r : Str, vs = [.str r] ∧ r ∈ INSIDE ∧ ∀ H', Same H H' → Q (.bl true) H'
theorem scB : FnScope ["_law_row", "_law_many", "_law_pieces", "_law_one", "_law_jumps", "_law_spot", "_law_bent", "_law_wrong", "_law_line"] ["_law_row"] (defScope sBounds) := ⟨rfl, rfl, rfl, by decide +kernel, rfl, by decide +kernel, by decide +kernel⟩
theorem ok_bounds {f fT : Addr} {fd fdT : FuncData} (F : Fun K "_law_bounds_right" "_law_bounds_right" sBounds f fd) (zr : mg "range" = none) (zs : mg "str" = none)
    (GT : FnOk P w K mg base CX0 8 fT fdT ["_law_text"] (spTold K)) (bT : Binds K fdT ["_law_text"] []) (gT : mg "_law_told" = some (.ref fT)) (kT : PySem.W.keepIn K (.ref fT) = true) : FnOk P w K mg base CX0 9 f fd ["_law_row"] spBounds := by
  refine F.ok scB (fun vs H Q E h => ?_) (fun cdv A0 outer s H vs Q E hr h => ?_)
  · obtain ⟨r, rfl, _⟩ := h
    rfl
  · obtain ⟨r, rfl, hin, q⟩ := h
    refine ⟨_, pss_cons (ps_set (i := 1) scB.nd rfl (.inl rfl) (pe_op op_catS (pe_lstS (pa_cons pe_str pa_nil)) (pe_op op_repS (pe_lstS (pa_cons pe_str pa_nil)) pe_int)))
      (pss_cons (ps_if (PW.pt (pw_or (pt_cmp (pc_notN (pe_call GT hr rfl gT kT bT .nil pass0 (pa_cons (pe_join pe_str (pe_op op_catS (pv 1) (pe_lstS (pa_cons pe_str pa_nil)))) pa_nil)))) (pw_or1 (pt_cmpR (op_neD hr.units) (pe_call GT hr rfl gT kT bT .nil pass0 (pa_cons (pe_join pe_str (pe_op op_catS (pv 1) (pe_lstS (pa_cons pe_str (pa_cons pe_str pa_nil))))) pa_nil)) (pe_lstS (pa_cons pe_str (pa_cons pe_bl pa_nil))) (nomark _))))) (pss_one (ps_ret pe_bl)) pss_nil)
      (pss_cons (ps_set (i := 2) scB.nd rfl (.inl rfl) (pe_lstS pa_nil))
      (pss_cons (ps_for PassesOwn.never rfl (pi_range1 (by rfl) zr (pa_cons pe_int pa_nil)) (pg_name (i := 3) scB.nd rfl (Or.inl rfl)) (pss_one (ps_set (i := 2) scB.nd rfl (.inl rfl) (pe_op op_catS (pv 2) (pe_lstS (pa_cons (pe_op op_add_str pe_str (pe_callTy call_str_int (by rfl) zs b_str (pa_cons (pv 3) pa_nil))) (pa_cons pe_str pa_nil)))))))
      (pss_cons (ps_if (PW.pt (pw_or (pt_cmp (pc_notN (pe_call GT hr rfl gT kT bT .nil pass0 (pa_cons (pe_join pe_str (pv 2)) pa_nil)))) (pw_or1 (pt_cmpR (op_neD hr.units) (pe_call GT hr rfl gT kT bT .nil pass0 (pa_cons (pe_join pe_str (pe_op op_catS (pv 2) (pe_lstS (pa_cons pe_str (pa_cons pe_str pa_nil))))) pa_nil)) (pe_lstS (pa_cons pe_str (pa_cons pe_bl pa_nil))) (nomark _))))) (pss_one (ps_ret pe_bl)) pss_nil)
      (pss_set1 (i := 4) scB.nd rfl (.inr rfl) (pe1_lst (pa_cons pe_str (pa_cons pe_str (pa_cons pe_str (pa_cons pe_str pa_nil)))))
      (psst_consS (ps_if (pt_cmp (pc_notN (pe_call GT hr rfl gT kT bT .nil pass0 (pa_cons (pe_join pe_str (pv 4)) pa_nil)))) (pss_one (ps_ret pe_bl)) pss_nil)
      (psst_cons (pst_forT PassesOwn.never rfl (pit_list (PET.of (pe_lstS (pa_cons pe_int (pa_cons pe_int (pa_cons pe_int pa_nil)))))) (pg_name (i := 5) scB.nd rfl (Or.inr rfl))
          (psst_cons (pst_setLc (i := 6) (own := [("_law_line", 8)]) (g := gName 8) rfl scB.nd rfl rfl (sw_true rfl rfl rfl (by decide +kernel)) (pi_list (pv 4)) (blkOk_by (N := ["_law_row", "_law_many", "_law_pieces", "_law_one", "_law_jumps", "_law_spot", "_law_bent", "_law_wrong", "_law_line"]) (sc := defScope sBounds) (by decide +kernel)) (fun _ _ _ _ _ => pg_name (i := 8) scB.nd rfl (Or.inl rfl))
              (fun _ _ _ _ _ => pet_ifExp (pt_cmpR op_eq (pv 8) (pe_ix (r := rIxL K) ix_list (pv 4) (pv 5) (fun _ _ => rfl)) (nomark _)) (pet_replC (pv 8)) (PET.of (pv 8))))
            (PSsT.of (pss_one (ps_if (pt_cmpR (op_neD hr.units) (pe_call GT hr rfl gT kT bT .nil pass0 (pa_cons (pe_join pe_str (pv 6)) pa_nil)) (pe_lstS (pa_cons (pe_callTy call_str_int (by rfl) zs b_str (pa_cons (pv 5) pa_nil)) (pa_cons pe_bl pa_nil))) (nomark _)) (pss_one (ps_ret pe_bl)) pss_nil)))))
      (PSsT.of (pss_cons (ps_set (i := 7) scB.nd rfl (.inl rfl) (pe_lstS (pa_cons pe_str (pa_cons pe_str (pa_cons (pv 0) (pa_cons pe_str pa_nil))))))
      (pss_cons (ps_if (pt_cmpR (op_neD hr.units) (pe_call GT hr rfl gT kT bT .nil pass0 (pa_cons (pe_join pe_str (pv 7)) pa_nil)) (pe_lstS (pa_cons (pe_callTy call_str_int (by rfl) zs b_str (pa_cons pe_int pa_nil)) (pa_cons pe_bl pa_nil))) (nomark _)) (pss_one (ps_ret pe_bl)) pss_nil)
      (pss_one (ps_ret (pe_and (pe_cmpR (op_eqD hr.units) (pe_call GT hr rfl gT kT bT .nil pass0 (pa_cons pe_str pa_nil)) (pe_lstS (pa_cons pe_str (pa_cons pe_bl pa_nil))) (nomark _)) (pe_and (pe_cmp (pc_isN (pe_call GT hr rfl gT kT bT .nil pass0 (pa_cons pe_str pa_nil)))) (pe_one (pe_cmpR (op_eqD hr.units) (pe_call GT hr rfl gT kT bT .nil pass0 (pa_cons pe_str pa_nil)) (pe_lstS (pa_cons pe_str (pa_cons pe_bl pa_nil))) (nomark _))))))))))))))))), ?_⟩
    refine ⟨by simp, fun a0 G0 s0 n0 e0 => ⟨by simp, fun b0 K0 t0 m0 g0 => ⟨b0, 16, [.str "ret"], rfl, rfl, g0, by decide, by decide, by decide, fun b1 K1 t1 m1 g1 => ⟨a0, b1, _, _, rfl, rfl, t1 _ _ (t0 _ _ e0), g1, by decide, fun a1 G1 u1 n1 e1 => ?_⟩⟩⟩⟩
    have em : G1 a1 = some (.lst (MANY.map V.str)) := by rw [e1]; rfl
    have S1 : Same H G1 := ((s0.trans t0).trans t1).trans u1
    refine ⟨⟨_, rfl⟩, .ref a1, rfl, by simp, fun b2 K2 t2 m2 g2 => ⟨a1, b2, _, _, rfl, rfl, t2 _ _ em, g2, by decide +kernel, fun a2 G2 u2 n2 e2 => ⟨"\n", _, MANY ++ ENDL, rfl, rfl, .inl (SqL.of (by rw [e2]; rfl)), many_ok.len, _, rfl, .inr ⟨_, rfl, many_ok.fit, fun j ej => (no_err many_ok.ok ej).elim, fun st es H3 s3 => ⟨_, rfl, iteF ?_⟩⟩⟩⟩⟩
    have em3 := s3 _ _ (u2 _ _ (t2 _ _ em))
    refine ⟨⟨_, rfl⟩, .ref a1, rfl, by simp, fun b4 K4 t4 m4 g4 => ⟨a1, b4, _, _, rfl, rfl, t4 _ _ em3, g4, by decide +kernel, fun a4 G4 u4 n4 e4 => ⟨"\n", _, MANY ++ RETEND, rfl, rfl, .inl (SqL.of (by rw [e4]; rfl)), many_bad.len, _, rfl, .inr ⟨_, rfl, many_bad.fit, fun j ej => ⟨log_cv (err_eq many_bad.err ej) (by decide), fun H5 p5 s5 n5 e5' => have e5 := tl_cv (err_eq many_bad.err ej) e5'; ⟨by simp, fun p6 H6 s6 n6 e6 => ne_told (by decide +kernel) (by decide +kernel) (s6 _ _ e5) e6 ⟨_, rfl, iteF ?_⟩⟩⟩, fun st es => (no_ok many_bad.err es).elim⟩⟩⟩⟩
    have S6 : Same H H6 := ((((((S1.trans t2).trans u2).trans s3).trans t4).trans u4).trans s5).trans s6
    refine ⟨by simp, fun p0 B0 sB nB eB => ?_⟩
    refine ⟨12, rfl, by decide, by decide, for_range (n := 12) (fun i σ H' => ∃ p v3, σ = [some (.str r), some (.ref a1), some (.ref p), v3, none, none, none, none, none] ∧ Same B0 H' ∧ H' p = some (.lst ((PC i).map V.str))) ⟨p0, none, rfl, Same.refl _, eB⟩ ?turn ?done⟩
    case turn =>
      rintro i σ H' hi ⟨p, v3, rfl, sP, ep⟩
      have hl := log12 i hi
      have hp := pc_len i
      refine ⟨.ref p, rfl, .int (0 + (i : Int)), rfl, _, rfl, hl.1, _, _, rfl, rfl, Nat.le_of_lt (small1000 hl.2), by simp, fun b K t m g => ⟨p, b, _, _, rfl, rfl, t _ _ ep, g, ?_, fun a G u n e => ⟨a, _, rfl, (sP.trans t).trans u, ?_⟩⟩⟩
      · rw [List.length_map, hp]
        show 2 * i + 2 ≤ 1000
        omega
      · rw [e, pc_succ, List.map_append, show (0 : Int) + (i : Int) = (i : Int) by omega]
        rfl
    case done =>
      rintro σ H' ⟨p, v3, rfl, sP, ep⟩
      have ep : H' p = some (.lst (PIECES.map V.str)) := ep
      refine ⟨⟨_, rfl⟩, .ref p, rfl, ⟨"\n", _, PIECES, rfl, rfl, .inl (SqL.of ep), pieces_ok.len, _, rfl, .inr ⟨_, rfl, pieces_ok.fit, fun j ej => (no_err pieces_ok.ok ej).elim, fun st es H3 s3 => ⟨_, rfl, iteF ?_⟩⟩⟩⟩
      refine ⟨⟨_, rfl⟩, .ref p, rfl, by simp, fun b4 K4 t4 m4 g4 => ⟨p, b4, _, _, rfl, rfl, t4 _ _ (s3 _ _ ep), g4, by decide +kernel, fun a4 G4 u4 n4 e4 => ⟨"\n", _, PIECES ++ FG, rfl, rfl, .inl (SqL.of (by rw [e4, List.map_append]; rfl)), pieces_bad.len, _, rfl, .inr ⟨_, rfl, pieces_bad.fit, fun j ej => ⟨log_cv (err_eq pieces_bad.err ej) (by decide), fun H5 p5 s5 n5 e5' => have e5 := tl_cv (err_eq pieces_bad.err ej) e5'; ⟨by simp, fun p6 H7 s7 n7 e7 => ne_told (by decide +kernel) (by decide +kernel) (s7 _ _ e5) e7 ⟨_, rfl, iteF ?_⟩⟩⟩, fun st es => (no_ok pieces_bad.err es).elim⟩⟩⟩⟩
      have S7 : Same H H7 := ((((((S6.trans sB).trans sP).trans s3).trans t4).trans u4).trans s5).trans s7
      refine ⟨by simp, fun pj J sj nj ej => ?_⟩
      have ej : J pj = some (.lst (JUMPS.map V.str)) := ej
      refine ⟨⟨_, rfl⟩, .ref pj, rfl, ⟨"\n", _, JUMPS, rfl, rfl, .inl (SqL.of ej), jumps_ok.len, _, rfl, .inr ⟨_, rfl, jumps_ok.fit, fun j ej => (no_err jumps_ok.ok ej).elim, fun st es H8 s8 => ⟨_, rfl, iteF ?_⟩⟩⟩⟩
      have ej8 := s8 _ _ ej
      refine ⟨by simp, fun pl L sl nl el => ⟨pl, rfl, ⟨_, SqL.of el⟩, for_list (xs := [.int 1, .int 2, .int 3]) (fun i σ H' => ∃ v5 v6, σ = [some (.str r), some (.ref a1), some (.ref p), v3, some (.ref pj), v5, v6, none, none] ∧ Same L H') ⟨none, none, rfl, Same.refl _⟩ (fun i σ H' _ ⟨_, _, _, sq⟩ => SqL.of (sq _ _ el)) ?turn ?done⟩⟩
      case turn =>
        rintro i x σ H' hx ⟨v5, v6, rfl, sL⟩
        have hi : i < 3 := (List.getElem?_eq_some_iff.mp hx).1
        have ex : x = .int ((i : Int) + 1) := by
          match i, hi, hx with
          | 0, _, hx => exact (Option.some.inj hx).symm
          | 1, _, hx => exact (Option.some.inj hx).symm
          | 2, _, hx => exact (Option.some.inj hx).symm
        subst ex
        obtain ⟨j, hj, bad⟩ := bent_bad i hi
        have ejL := sL _ _ (sl _ _ ej8)
        refine ⟨.ref pj, rfl, pj, rfl, ⟨_, SqL.of ejL⟩, fun D hD => lc_list (xs := JUMPS.map V.str) (fun k H2 => Same H' H2 ∧ H2 D = some (.lst ((JUMPS.take k).map fun z => V.str (bend j z)))) ⟨same_new hD, upd_same⟩ (fun k H2 _ h => SqL.of (h.1 _ _ ejL)) (fun k y H2 hy hh => ?_) (fun H2 hh => ?_)⟩
        · obtain ⟨s2, e2⟩ := hh
          obtain ⟨z, hz, rfl⟩ : ∃ z, JUMPS[k]? = some z ∧ y = .str z := by
            rw [List.getElem?_map] at hy
            cases hq : JUMPS[k]? with
            | none => rw [hq] at hy; cases hy
            | some z => rw [hq] at hy; exact ⟨z, rfl, (Option.some.inj hy).symm⟩
          have hzl := jshort z (List.mem_of_getElem? hz)
          have hjm : (JUMPS.map V.str)[i + 1]? = some (.str j) := by rw [List.getElem?_map, hj]; rfl
          have fin : ∀ (v : Str), v = bend j z → ∃ acc, H2 D = some (.lst acc) ∧ acc.length < sizeLine ∧ Same H' (upd H2 D (.lst (acc ++ [.str v]))) ∧ (upd H2 D (.lst (acc ++ [.str v]))) D = some (.lst ((JUMPS.take (k + 1)).map fun z => V.str (bend j z))) := fun v ev => by
            refine ⟨_, e2, ?_, fun b o eb => by rw [upd_ne (ne_of_none eb hD)]; exact s2 _ _ eb, ?_⟩
            · rw [List.length_map, List.length_take]
              exact small1000 (by show min k 5 ≤ 1000; omega)
            · rw [upd_same, List.take_add_one, hz, List.map_append, ev]
              rfl
          refine ⟨rfl, .str z, rfl, .ref pj, rfl, .int ((i : Int) + 1), rfl, pj, _, _, _, rfl, rfl, SqL.of (s2 _ _ ejL), atI_nat (j := i + 1) hjm, rfl, _, rfl, ?_⟩
          rw [str_eq]
          refine ite2 (fun h => ?_) (fun h => ?_)
          · have e : z = j := of_decide_eq_true h
            refine ⟨.str z, rfl, z, rfl, by show z.length + (z.length + 1) * 1 ≤ _; omega, fin _ ?_⟩
            unfold bend
            rw [if_pos e]
          · have e : ¬ z = j := fun e => h (decide_eq_true e)
            refine ⟨.str z, rfl, fin _ ?_⟩
            unfold bend
            rw [if_neg e]
        · obtain ⟨s2, e2⟩ := hh
          have e2 : H2 D = some (.lst ((JUMPS.map (bend j)).map V.str)) := by
            rw [e2, List.map_map]
            rfl
          have hlog : ((i : Int) + 1).natAbs.log2 < 1920 := by
            match i, hi with
            | 0, _ => decide
            | 1, _ => decide
            | 2, _ => decide
          have hok : PyData.strOk (toString ((i : Int) + 1)) = true := by
            match i, hi with
            | 0, _ => decide +kernel
            | 1, _ => decide +kernel
            | 2, _ => decide +kernel
          refine ⟨⟨_, rfl⟩, .ref D, rfl, ⟨"\n", _, JUMPS.map (bend j), rfl, rfl, .inl (SqL.of e2), bad.len, _, rfl, .inr ⟨_, rfl, bad.fit, fun j ej => ⟨log_cv (err_eq bad.err ej) hlog, fun H3 p3 s3 n3 e3' => have e3 := tl_cv (err_eq bad.err ej) e3'; ⟨.int ((i : Int) + 1), rfl, _, rfl, hlog, by simp, fun p4 H4 s4 n4 e4 => ne_told rfl hok (s4 _ _ e3) e4 ⟨_, rfl, iteF ⟨_, _, rfl, ((sL.trans s2).trans s3).trans s4⟩⟩⟩⟩, fun st es => (no_ok bad.err es).elim⟩⟩⟩
      case done =>
        rintro σ H' ⟨v5, v6, rfl, sL⟩
        have S8 : Same H H' := (((S7.trans sj).trans s8).trans sl).trans sL
        refine ⟨.str r, rfl, by simp, fun pw W sw nw ew => ?_⟩
        have ew : W pw = some (.lst ((WRONG r).map V.str)) := ew
        refine ⟨⟨_, rfl⟩, .ref pw, rfl, ⟨"\n", _, WRONG r, rfl, rfl, .inl (SqL.of ew), (wrong_bad hin).len, _, rfl, .inr ⟨_, rfl, (wrong_bad hin).fit, fun j ej => ⟨log_cv (err_eq (wrong_bad hin).err ej) (by decide), fun H3 p3 s3 n3 e3' => have e3 := tl_cv (err_eq (wrong_bad hin).err ej) e3'; ⟨_, rfl, (by decide), by simp, fun p4 H4 s4 n4 e4 => ne_told (by decide +kernel) (by decide +kernel) (s4 _ _ e3) e4 ⟨_, rfl, iteF ?_⟩⟩⟩, fun st es => (no_ok (wrong_bad hin).err es).elim⟩⟩⟩
        have S9 : Same H H4 := ((S8.trans sw).trans s3).trans s4
        refine ⟨_, rfl, .inr ⟨_, rfl, t1_fit, fun j ej => ⟨log_cv (err_eq t1_bad ej) (by decide), fun H5 p5 s5 n5 e5' => have e5 := tl_cv (err_eq t1_bad ej) e5'; ⟨by simp, fun p6 H6 s6 n6 e6 => eq_told (by decide +kernel) (by decide +kernel) (s6 _ _ e5) e6 ⟨_, rfl, iteT ?_⟩⟩⟩, fun st es => (no_ok t1_bad es).elim⟩⟩
        refine ⟨_, rfl, .inr ⟨_, rfl, t2_fit, fun j ej => (no_err t2_ok ej).elim, fun st es H7 s7 => ⟨_, rfl, iteT ?_⟩⟩⟩
        refine ⟨_, rfl, .inr ⟨_, rfl, t3_fit, fun j ej => ⟨log_cv (err_eq t3_bad ej) (by decide), fun H8 p8 s8 n8 e8' => have e8 := tl_cv (err_eq t3_bad ej) e8'; ⟨by simp, fun p9 H9 s9 n9 e9 => eq_told (by decide +kernel) (by decide +kernel) (s9 _ _ e8) e9 ?_⟩⟩, fun st es => (no_ok t3_bad es).elim⟩⟩
        exact q H9 (((((S9.trans s5).trans s6).trans s7).trans s8).trans s9)
end
end TY

set_option Elab.async false
set_option linter.all false
set_option maxRecDepth 100000
set_option maxHeartbeats 4000000
/-! The law. -/
namespace TY
open PySem PySem.Spec PyProof.Rows L2 L2.FK FS TX TZ CwR
abbrev sLaw : Stmt := top (TX.o + 23)
theorem scL : FnScope ["_law_script", "_law_k", "_law_pool_here", "_law_ahead", "_law_inside_here", "_law_row", "_law_first", "_law_odd"] ["_law_script"] (defScope sLaw) := ⟨rfl, rfl, rfl, by decide +kernel, rfl, by decide +kernel, by decide +kernel⟩
def spLaw (K : PySem.W.Frag) : Sp := fun vs H Q _ => ∃ (a : Addr) (ns : List Int), vs = [.ref a] ∧ SqL K H a (ns.map V.int) ∧ ns.length ≤ 63 ∧ ∀ H', Q (.bl true) H'
def A1 (r : Nat) : List Str := if r = 0 then [] else AH1
def A2 (r : Nat) : List Str := if r = 0 then [] else AH2
def A3 (r : Nat) : List Str := if r = 0 then O1 else O2
theorem heads_in {r1 r2 : Nat} : A1 r1 ++ A2 r2 ∈ AHEADS := by
  unfold A1 A2
  by_cases h1 : r1 = 0 <;> by_cases h2 : r2 = 0 <;> simp only [h1, h2, if_true, if_false] <;> decide +kernel
theorem heads_len {r1 r2 : Nat} : (A1 r1).length ≤ 5 ∧ (A2 r2).length ≤ 3 := by
  unfold A1 A2
  by_cases h1 : r1 = 0 <;> by_cases h2 : r2 = 0 <;> simp only [h1, h2, if_true, if_false] <;> decide +kernel
theorem open_bad {a : List Str} {r : Nat} (h : a ∈ AHEADS) : Bad ((a.length : Int) + 2) (a ++ A3 r) := by
  unfold A3
  split
  · exact open_u h
  · exact open_v h
theorem a1_cut {r : Nat} (h : r < 2) : cutV (AH1.map V.str) none (some (5 * (r : Int))) = (A1 r).map V.str := by
  match r, h with
  | 0, _ => rfl
  | 1, _ => rfl
theorem a2_rep {r : Nat} (h : r < 2) : (List.replicate ((r : Int)).toNat (AH2.map V.str)).flatten = (A2 r).map V.str := by
  match r, h with
  | 0, _ => rfl
  | 1, _ => rfl
def O4 : List Str := ["func u", "tell a", "data v", "q"]
theorem a3_cut {r : Nat} (h : r < 2) : cutV (cutV (O4.map V.str) (some (2 * (r : Int))) none) none (some 2) = (A3 r).map V.str := by
  match r, h with
  | 0, _ => rfl
  | 1, _ => rfl
theorem a3_len {r : Nat} : (A3 r).length = 2 := by
  unfold A3
  split <;> rfl
theorem map_get {l : List Str} {i : Nat} {x : V} (h : (l.map V.str)[i]? = some x) : ∃ r, r ∈ l ∧ x = .str r := by
  rw [List.getElem?_map] at h
  cases hq : l[i]? with
  | none => rw [hq] at h; cases h
  | some z => rw [hq] at h; exact ⟨z, List.mem_of_getElem? hq, (Option.some.inj h).symm⟩
theorem inside_len : INSIDE.length = 49 := by decide +kernel
theorem ok8 {n : Nat} (h : n ≤ 8) : PyData.strOk (toString ((n : Int) + 2)) = true := by
  have key : ∀ n : Nat, n < 9 → PyData.strOk (toString ((n : Int) + 2)) = true := by decide +kernel
  exact key n (by omega)
theorem log8 {n : Nat} (h : n ≤ 8) : ((n : Int) + 2).natAbs.log2 < 1920 := by
  have key : ∀ n : Nat, n < 9 → ((n : Int) + 2).natAbs.log2 < 1920 := by decide +kernel
  exact key n (by omega)
section
variable {P : Program} {w : World} {K : PySem.W.Frag} {mg : Str → Option Value} {base : Heap}
theorem ok_law {f fP fD fT fIN fDA fOU fB fN : Addr} {fd fdP fdD fdT fdIN fdDA fdOU fdB fdN : FuncData} (F : Fun K "law" "law" sLaw f fd) (zr : mg "range" = none) (zM : mg "max" = none) (zm : mg "min" = none) (zl : mg "len" = none) (zs : mg "str" = none)
    (GP : FnOk P w K mg base CX0 1 fP fdP ["_law_script", "_law_k"] (spPool K)) (bP : Binds K fdP ["_law_script", "_law_k"] []) (gP : mg "_law_pool" = some (.ref fP)) (kP : PySem.W.keepIn K (.ref fP) = true)
    (GD : FnOk P w K mg base CX0 1 fD fdD ["_law_pool_here", "_law_many"] spDraw) (bD : Binds K fdD ["_law_pool_here", "_law_many"] []) (gD : mg "_law_take" = some (.ref fD)) (kD : PySem.W.keepIn K (.ref fD) = true)
    (GT : FnOk P w K mg base CX0 8 fT fdT ["_law_text"] (spTold K)) (bT : Binds K fdT ["_law_text"] []) (gT : mg "_law_told" = some (.ref fT)) (kT : PySem.W.keepIn K (.ref fT) = true)
    (GIN : FnOk P w K mg base CX0 1 fIN fdIN [] (spMenu INSIDE)) (bIN : Binds K fdIN [] []) (gIN : mg "_law_inside" = some (.ref fIN)) (kIN : PySem.W.keepIn K (.ref fIN) = true)
    (GDA : FnOk P w K mg base CX0 1 fDA fdDA [] (spMenu INDATA)) (bDA : Binds K fdDA [] []) (gDA : mg "_law_in_data" = some (.ref fDA)) (kDA : PySem.W.keepIn K (.ref fDA) = true)
    (GOU : FnOk P w K mg base CX0 1 fOU fdOU [] (spMenu OUTSIDE)) (bOU : Binds K fdOU [] []) (gOU : mg "_law_outside" = some (.ref fOU)) (kOU : PySem.W.keepIn K (.ref fOU) = true)
    (GB : FnOk P w K mg base CX0 9 fB fdB ["_law_row"] spBounds) (bB : Binds K fdB ["_law_row"] []) (gB : mg "_law_bounds_right" = some (.ref fB)) (kB : PySem.W.keepIn K (.ref fB) = true)
    (GN : FnOk P w K mg base CX0 2 fN fdN [] spYes) (bN : Binds K fdN [] []) (gN : mg "_law_names_right" = some (.ref fN)) (kN : PySem.W.keepIn K (.ref fN) = true) : FnOk P w K mg base CX0 10 f fd ["_law_script"] (spLaw K) := by
  refine F.ok scL (fun vs H Q E h => ?_) (fun cdv A0 outer s H vs Q E hr h => ?_)
  · obtain ⟨a, ns, rfl, _⟩ := h
    rfl
  · obtain ⟨a, ns, rfl, hS, hlen, k⟩ := h
    have hr1 : Room 1 _ := hr.mono (by decide)
    have hrT : Room 8 _ := hr.mono (by decide)
    have hrN : Room 2 _ := hr.mono (by decide)
    refine ⟨_, (pss_cons (ps_for PassesOwn.never rfl (pi_range1 rfl zr (pa_cons (pe_callB (call_max2 rfl) (by rfl) zM (by decide +kernel) (pa_cons pe_int (pa_cons (pe_callB (call_min2 rfl) (by rfl) zm (by decide +kernel) (pa_cons (pe_callB call_len_seq (by rfl) zl PySem.boot_len (pa_cons (pv 0) pa_nil)) (pa_cons pe_int pa_nil))) pa_nil))) pa_nil)) (pg_name (i := 1) scL.nd rfl (Or.inl rfl))
        (pss_cons (ps_set (i := 2) scL.nd rfl (.inl rfl) (pe_call GP hr1 rfl gP kP bP .nil pass0 (pa_cons (pv 0) (pa_cons (pv 1) pa_nil))))
        (pss_cons (ps_set (i := 3) scL.nd rfl (.inl rfl) (pe_slice sl_listS (pe_lstS (pa_cons pe_str (pa_cons pe_str (pa_cons pe_str (pa_cons pe_str (pa_cons pe_str pa_nil)))))) po_none (po_some (pe_op op_mul pe_int (pe_call GD hr1 rfl gD kD bD .nil pass0 (pa_cons (pv 2) (pa_cons pe_int pa_nil)))))))
        (pss_cons (ps_set (i := 3) scL.nd rfl (.inl rfl) (pe_op op_catS (pv 3) (pe_op op_repS (pe_lstS (pa_cons pe_str (pa_cons pe_str (pa_cons pe_str pa_nil)))) (pe_call GD hr1 rfl gD kD bD .nil pass0 (pa_cons (pv 2) (pa_cons pe_int pa_nil))))))
        (pss_cons (ps_set (i := 4) scL.nd rfl (.inl rfl) (pe_slice sl_listS (pe_slice sl_listS (pe_lstS (pa_cons pe_str (pa_cons pe_str (pa_cons pe_str (pa_cons pe_str pa_nil))))) (po_some (pe_op op_mul pe_int (pe_call GD hr1 rfl gD kD bD .nil pass0 (pa_cons (pv 2) (pa_cons pe_int pa_nil))))) po_none) po_none (po_some pe_int)))
        (pss_cons (ps_for PassesOwn.never rfl (pi_list (pe_call0 GIN hr1 rfl gIN kIN bIN .nil pass0)) (pg_name (i := 5) scL.nd rfl (Or.inl rfl)) (pss_one (ps_if (pt_cmpR (op_neD hr.units) (pe_call GT hrT rfl gT kT bT .nil pass0 (pa_cons (pe_join pe_str (pe_op op_catS (pv 3) (pe_lstS (pa_cons pe_str (pa_cons pe_str (pa_cons (pv 5) (pa_cons pe_str (pa_cons pe_str pa_nil)))))))) pa_nil)) (pe_lstS (pa_cons (pe_callTy call_str_int (by rfl) zs b_str (pa_cons (pe_op op_add (pe_callB call_len_seq (by rfl) zl PySem.boot_len (pa_cons (pv 3) pa_nil)) pe_int) pa_nil)) (pa_cons pe_bl pa_nil))) (nomark _)) (pss_one (ps_ret pe_bl)) pss_nil)))
        (pss_cons (ps_for PassesOwn.never rfl (pi_list (pe_call0 GDA hr1 rfl gDA kDA bDA .nil pass0)) (pg_name (i := 5) scL.nd rfl (Or.inl rfl)) (pss_one (ps_if (pt_cmpR (op_neD hr.units) (pe_call GT hrT rfl gT kT bT .nil pass0 (pa_cons (pe_join pe_str (pe_op op_catS (pv 3) (pe_lstS (pa_cons pe_str (pa_cons pe_str (pa_cons (pv 5) (pa_cons pe_str (pa_cons pe_str pa_nil)))))))) pa_nil)) (pe_lstS (pa_cons (pe_callTy call_str_int (by rfl) zs b_str (pa_cons (pe_op op_add (pe_callB call_len_seq (by rfl) zl PySem.boot_len (pa_cons (pv 3) pa_nil)) pe_int) pa_nil)) (pa_cons pe_bl pa_nil))) (nomark _)) (pss_one (ps_ret pe_bl)) pss_nil)))
        (pss_cons (ps_set (i := 6) scL.nd rfl (.inl rfl) (pe_lstS (pa_cons pe_str (pa_cons pe_str pa_nil))))
        (pss_cons (ps_for PassesOwn.never rfl (pi_list (pe_call0 GOU hr1 rfl gOU kOU bOU .nil pass0)) (pg_name (i := 5) scL.nd rfl (Or.inl rfl)) (pss_one (ps_if (pt_cmpR (op_neD hr.units) (pe_call GT hrT rfl gT kT bT .nil pass0 (pa_cons (pe_join pe_str (pe_op op_catS (pv 6) (pe_lstS (pa_cons pe_str (pa_cons pe_str (pa_cons (pv 5) pa_nil)))))) pa_nil)) (pe_lstS (pa_cons pe_str (pa_cons pe_bl pa_nil))) (nomark _)) (pss_one (ps_ret pe_bl)) pss_nil)))
        (pss_cons (ps_if (pt_cmpR (op_neD hr.units) (pe_call GT hrT rfl gT kT bT .nil pass0 (pa_cons (pe_join pe_str (pe_op op_catS (pv 3) (pv 4))) pa_nil)) (pe_lstS (pa_cons (pe_callTy call_str_int (by rfl) zs b_str (pa_cons (pe_op op_add (pe_callB call_len_seq (by rfl) zl PySem.boot_len (pa_cons (pv 3) pa_nil)) pe_int) pa_nil)) (pa_cons pe_bl pa_nil))) (nomark _)) (pss_one (ps_ret pe_bl)) pss_nil)
        (pss_cons (ps_if (PW.pt (pw_or (pt_not (pt_val (pe_call GB hr rfl gB kB bB .nil pass0 (pa_cons (pe_ix ix_list (pe_call0 GIN hr1 rfl gIN kIN bIN .nil pass0) (pe_op op_add pe_int (pe_call GD hr1 rfl gD kD bD .nil pass0 (pa_cons (pv 2) (pa_cons pe_int pa_nil)))) (fun _ _ => rfl)) pa_nil)))) (pw_or1 (pt_not (pt_val (pe_call0 GN hrN rfl gN kN bN .nil pass0)))))) (pss_one (ps_ret pe_bl)) pss_nil)
        (pss_one (ps_for PassesOwn.never rfl (pi_list (pe_lstS (pa_cons pe_non (pa_cons pe_int (pa_cons pe_bl (pa_cons (pe_lstS pa_nil) (pa_cons (pe_lstS (pa_cons pe_str pa_nil)) (pa_cons (pe_tupS pa_nil) (pa_cons pe_dictS pa_nil))))))))) (pg_name (i := 7) scL.nd rfl (Or.inl rfl)) (pss_one (ps_if (pt_cmpR (op_neD hr.units) (pe_call GT hrT rfl gT kT bT .nil pass0 (pa_cons (pv 7) pa_nil)) (pe_lstS (pa_cons pe_str (pa_cons pe_bl pa_nil))) (nomark _)) (pss_one (ps_ret pe_bl)) pss_nil)))))))))))))))
      (pss_one (ps_ret pe_bl))), ?_⟩
    have hJ : ∀ L : Int, 0 ≤ L → 1 ≤ (if (if (3 : Int) < L then 3 else L) > 1 then (if (3 : Int) < L then 3 else L) else 1) ∧ (if (if (3 : Int) < L then 3 else L) > 1 then (if (3 : Int) < L then 3 else L) else 1) ≤ 3 := by
      intro L hL
      repeat' split
      all_goals omega
    have hJ1 := hJ ((ns.map V.int).length : Int) (Int.natCast_nonneg _)
    refine ⟨.ref a, rfl, a, _, rfl, .inl hS, _, _, rfl, _, _, rfl, _, rfl, ?_, ?_, ?_⟩
    · show -(2 ^ 62) ≤ (if (if (3 : Int) < ((ns.map V.int).length : Int) then 3 else ((ns.map V.int).length : Int)) > 1 then (if (3 : Int) < ((ns.map V.int).length : Int) then 3 else ((ns.map V.int).length : Int)) else 1)
      omega
    · show (if (if (3 : Int) < ((ns.map V.int).length : Int) then 3 else ((ns.map V.int).length : Int)) > 1 then (if (3 : Int) < ((ns.map V.int).length : Int) then 3 else ((ns.map V.int).length : Int)) else 1) < 2 ^ 62
      omega
    refine for_range (fun i σ H' => ∃ y1 y2 y3 y4 y5 y6 y7, σ = [some (.ref a), y1, y2, y3, y4, y5, y6, y7] ∧ Same H H') ⟨_, _, _, _, _, _, _, rfl, Same.refl H⟩ ?_ (fun σ H' _ => k H')
    rintro i σ H1 hi ⟨y1, y2, y3, y4, y5, y6, y7, rfl, s1⟩
    have hi3 : i < 3 := by
      have : i < (if (if (3 : Int) < ((ns.map V.int).length : Int) then 3 else ((ns.map V.int).length : Int)) > 1 then (if (3 : Int) < ((ns.map V.int).length : Int) then 3 else ((ns.map V.int).length : Int)) else 1).toNat := hi
      omega
    refine ⟨.ref a, rfl, .int (0 + (i : Int)), rfl, a, ns, i, by simp, s1.seq hS, hi3, hlen, fun H2 p g z s2 np hp hg hz hz' => ?_⟩
    have np0 : H p = none := s1.free np
    have s02 : Same H H2 := s1.trans s2
    -- what stands ahead
    refine ⟨by simp, fun l3 G3 s3 n3 e3 => ?_⟩
    refine ⟨.ref p, rfl, p, g, z, 2, rfl, by decide, by decide, s3 _ _ hp, hg, hz, hz', fun g1 z1 r1 hg1 hz1 hz1' hr1 => ⟨_, _, rfl, rfl, .inl ⟨by decide, by decide⟩, _, rfl, l3, AH1.map V.str, rfl, ?_, fun q4 G4 s4 n4 e4 => ?_⟩⟩
    · have nl : l3 ≠ p := (ne_of_none hp n3).symm
      exact SqL.of (by rw [upd_ne nl]; exact e3)
    rw [a1_cut hr1] at e4
    have hp4 : G4 p = some (.lst [.int g1, .int z1]) := s4 _ _ upd_same
    have o4 : Off p H2 G4 := (Off.of s3).trans (Off.put.trans (Off.of s4))
    have nq4 : q4 ≠ p := (ne_of_none upd_same n4).symm
    clear e3
    refine ⟨.ref q4, rfl, by simp, fun l5 G5 s5 n5 e5 => ?_⟩
    have hp5 := s5 _ _ hp4
    refine ⟨.ref p, rfl, p, g1, z1, 2, rfl, by decide, by decide, hp5, hg1, hz1, hz1', fun g2 z2 r2 hg2 hz2 hz2' hr2 => ?_⟩
    have nl5 : l5 ≠ p := (ne_of_none hp4 n5).symm
    have k2 : (r2 : Int) = 0 ∨ (r2 : Int) = 1 := by omega
    refine ⟨l5, (r2 : Int), AH2.map V.str, rfl, rfl, by rw [upd_ne nl5]; exact e5, by omega, by omega, ?_, fun q6 G6 s6 n6 e6 => ?_⟩
    · show 3 * ((r2 : Int)).toNat ≤ 1000
      omega
    rw [a2_rep hr2] at e6
    have o6 : Off p G4 G6 := (Off.of s5).trans (Off.put.trans (Off.of s6))
    have hp6 : G6 p = some (.lst [.int g2, .int z2]) := s6 _ _ upd_same
    have e46 := o6 _ _ nq4 e4
    have nq6 : q6 ≠ p := (ne_of_none upd_same n6).symm
    have hl12 := @heads_len r1 r2
    refine ⟨q4, q6, _, _, rfl, rfl, e46, e6, ?_, fun q7 G7 s7 n7 e7 => ?_⟩
    · rw [List.length_map, List.length_map]
      omega
    rw [← List.map_append] at e7
    have hp7 := s7 _ _ hp6
    have hA := @heads_in r1 r2
    have hAl : (A1 r1 ++ A2 r2).length ≤ 8 := by rw [List.length_append]; omega
    have o27 : Off p H2 G7 := o4.trans (o6.trans (Off.of s7))
    have nq7 : q7 ≠ p := (ne_of_none hp6 n7).symm
    generalize A1 r1 ++ A2 r2 = AH at e7 hA hAl
    clear e46 e4 e6 e5
    -- what stands within
    refine ⟨by simp, fun l8 G8 s8 n8 e8 => ?_⟩
    have hp8 := s8 _ _ hp7
    refine ⟨.ref p, rfl, p, g2, z2, 2, rfl, by decide, by decide, hp8, hg2, hz2, hz2', fun g3 z3 r3 hg3 hz3 hz3' hr3 => ⟨_, _, rfl, rfl, .inl ⟨by decide, by decide⟩, _, rfl, l8, O4.map V.str, rfl, ?_, fun q9 G9 s9 n9 e9 => ?_⟩⟩
    · have nl : l8 ≠ p := (ne_of_none hp7 n8).symm
      exact SqL.of (by rw [upd_ne nl]; exact e8)
    have hp9 : G9 p = some (.lst [.int g3, .int z3]) := s9 _ _ upd_same
    refine ⟨2, rfl, q9, _, rfl, SqL.of e9, fun q10 G10 s10 n10 e10 => ?_⟩
    rw [a3_cut hr3] at e10
    have hp10 := s10 _ _ hp9
    have o710 : Off p G7 G10 := (Off.of s8).trans (Off.put.trans ((Off.of s9).trans (Off.of s10)))
    have e710 := o710 _ _ nq7 e7
    have nq10 : q10 ≠ p := (ne_of_none hp9 n10).symm
    have o210 := o27.trans o710
    clear e8 e9
    -- rows within a function
    refine ⟨rfl, fun Ma ma sma nma ema => ⟨ma, rfl, ⟨_, SqL.of ema⟩, for_list (xs := INSIDE.map V.str) (fun _ σ H' => ∃ v5, σ = [some (.ref a), some (.int (0 + (i : Int))), some (.ref p), some (.ref q7), some (.ref q10), v5, y6, y7] ∧ Same Ma H') ⟨_, rfl, Same.refl _⟩ (fun _ _ _ _ ⟨_, _, sq⟩ => SqL.of (sq _ _ ema)) ?ta ?da⟩⟩
    case ta =>
      rintro j x σ H' hx ⟨v5, rfl, sq⟩
      obtain ⟨r, hr, rfl⟩ := map_get hx
      have e7' := sq _ _ (sma _ _ e710)
      refine ⟨⟨_, rfl⟩, .ref q7, rfl, .str r, rfl, by simp, fun b K t m g => ⟨q7, b, _, _, rfl, rfl, t _ _ e7', g, by rw [List.length_map]; show AH.length + 5 ≤ 1000; omega, fun a2 G2 u n e => ⟨"\n", _, AH ++ S1 r, rfl, rfl, .inl (SqL.of (by rw [e, List.map_append]; rfl)), (inside_bad hA hr).len, _, rfl, .inr ⟨_, rfl, (inside_bad hA hr).fit, fun j ej => ⟨log_cv (err_eq (inside_bad hA hr).err ej) (log8 hAl), fun H3 p3 s3 n3 e3' => have e3 := tl_cv (err_eq (inside_bad hA hr).err ej) e3'; ?_⟩, fun st es => (no_ok (inside_bad hA hr).err es).elim⟩⟩⟩⟩
      have e7'' := s3 _ _ (u _ _ (t _ _ e7'))
      refine ⟨.ref q7, rfl, q7, _, rfl, .inl (SqL.of e7''), _, _, rfl, rfl, _, rfl, by rw [List.length_map]; exact log8 hAl, by simp, fun p4 H4 s4 n4 e4 => ne_told (by rw [List.length_map]) (by rw [List.length_map]; exact ok8 hAl) (s4 _ _ e3) e4 ⟨_, rfl, iteF ⟨_, rfl, (((sq.trans t).trans u).trans s3).trans s4⟩⟩⟩
    case da =>
    rintro σ Na ⟨v5a, rfl, sqa⟩
    have ca : Same G10 Na := sma.trans sqa
    have e7a := ca _ _ e710
    have e10a := ca _ _ e10
    have hpa := ca _ _ hp10
    have oa := o210.trans (Off.of (p := p) ca)
    refine ⟨rfl, fun Mb mb smb nmb emb => ⟨mb, rfl, ⟨_, SqL.of emb⟩, for_list (xs := INDATA.map V.str) (fun _ σ H' => ∃ v5, σ = [some (.ref a), some (.int (0 + (i : Int))), some (.ref p), some (.ref q7), some (.ref q10), v5, y6, y7] ∧ Same Mb H') ⟨_, rfl, Same.refl _⟩ (fun _ _ _ _ ⟨_, _, sq⟩ => SqL.of (sq _ _ emb)) ?tb ?db⟩⟩
    case tb =>
      rintro j x σ H' hx ⟨v5, rfl, sq⟩
      obtain ⟨r, hr, rfl⟩ := map_get hx
      have e7' := sq _ _ (smb _ _ e7a)
      refine ⟨⟨_, rfl⟩, .ref q7, rfl, .str r, rfl, by simp, fun b K t m g => ⟨q7, b, _, _, rfl, rfl, t _ _ e7', g, by rw [List.length_map]; show AH.length + 5 ≤ 1000; omega, fun a2 G2 u n e => ⟨"\n", _, AH ++ S2 r, rfl, rfl, .inl (SqL.of (by rw [e, List.map_append]; rfl)), (data_bad hA hr).len, _, rfl, .inr ⟨_, rfl, (data_bad hA hr).fit, fun j ej => ⟨log_cv (err_eq (data_bad hA hr).err ej) (log8 hAl), fun H3 p3 s3 n3 e3' => have e3 := tl_cv (err_eq (data_bad hA hr).err ej) e3'; ?_⟩, fun st es => (no_ok (data_bad hA hr).err es).elim⟩⟩⟩⟩
      have e7'' := s3 _ _ (u _ _ (t _ _ e7'))
      refine ⟨.ref q7, rfl, q7, _, rfl, .inl (SqL.of e7''), _, _, rfl, rfl, _, rfl, by rw [List.length_map]; exact log8 hAl, by simp, fun p4 H4 s4 n4 e4 => ne_told (by rw [List.length_map]) (by rw [List.length_map]; exact ok8 hAl) (s4 _ _ e3) e4 ⟨_, rfl, iteF ⟨_, rfl, (((sq.trans t).trans u).trans s3).trans s4⟩⟩⟩
    case db =>
    rintro σ Nb ⟨v5b, rfl, sqb⟩
    have cb : Same Na Nb := smb.trans sqb
    have e7b := cb _ _ e7a
    have e10b := cb _ _ e10a
    have hpb := cb _ _ hpa
    have ob := oa.trans (Off.of (p := p) cb)
    refine ⟨by simp, fun qf Gf sf nf ef => ?_⟩
    have ef : Gf qf = some (.lst (FIRST.map V.str)) := ef
    have e7f := sf _ _ e7b
    have e10f := sf _ _ e10b
    have hpf := sf _ _ hpb
    have of' := ob.trans (Off.of (p := p) sf)
    refine ⟨rfl, fun Mc mc smc nmc emc => ⟨mc, rfl, ⟨_, SqL.of emc⟩, for_list (xs := OUTSIDE.map V.str) (fun _ σ H' => ∃ v5, σ = [some (.ref a), some (.int (0 + (i : Int))), some (.ref p), some (.ref q7), some (.ref q10), v5, some (.ref qf), y7] ∧ Same Mc H') ⟨_, rfl, Same.refl _⟩ (fun _ _ _ _ ⟨_, _, sq⟩ => SqL.of (sq _ _ emc)) ?tc ?dc⟩⟩
    case tc =>
      rintro j x σ H' hx ⟨v5, rfl, sq⟩
      obtain ⟨r, hr, rfl⟩ := map_get hx
      have e7' := sq _ _ (smc _ _ ef)
      refine ⟨⟨_, rfl⟩, .ref qf, rfl, .str r, rfl, by simp, fun b K t m g => ⟨qf, b, _, _, rfl, rfl, t _ _ e7', g, by show 2 + 3 ≤ 1000; decide, fun a2 G2 u n e => ⟨"\n", _, FIRST ++ S3 r, rfl, rfl, .inl (SqL.of (by rw [e, List.map_append]; rfl)), (outside_bad hr).len, _, rfl, .inr ⟨_, rfl, (outside_bad hr).fit, fun j ej => ⟨log_cv (err_eq (outside_bad hr).err ej) (by decide), fun H3 p3 s3 n3 e3' => have e3 := tl_cv (err_eq (outside_bad hr).err ej) e3'; ?_⟩, fun st es => (no_ok (outside_bad hr).err es).elim⟩⟩⟩⟩
      exact ⟨by simp, fun p4 H4 s4 n4 e4 => ne_told (by decide +kernel) (by decide +kernel) (s4 _ _ e3) e4 ⟨_, rfl, iteF ⟨_, rfl, (((sq.trans t).trans u).trans s3).trans s4⟩⟩⟩
    case dc =>
    rintro σ Nc ⟨v5c, rfl, sqc⟩
    have cc : Same Gf Nc := smc.trans sqc
    have e7c := cc _ _ e7f
    have e10c := cc _ _ e10f
    have hpc := cc _ _ hpf
    have oc := of'.trans (Off.of (p := p) cc)
    refine ⟨⟨_, rfl⟩, .ref q7, rfl, .ref q10, rfl, q7, q10, _, _, rfl, rfl, e7c, e10c, by rw [List.length_map, List.length_map, a3_len]; omega, fun a2 G2 u n e => ⟨"\n", _, AH ++ A3 r3, rfl, rfl, .inl (SqL.of (by rw [e, List.map_append])), (open_bad hA).len, _, rfl, .inr ⟨_, rfl, (open_bad hA).fit, fun j ej => ⟨log_cv (err_eq (open_bad hA).err ej) (log8 hAl), fun H3 p3 s3 n3 e3' => have e3 := tl_cv (err_eq (open_bad hA).err ej) e3'; ?_⟩, fun st es => (no_ok (open_bad hA).err es).elim⟩⟩⟩
    have e7'' := s3 _ _ (u _ _ e7c)
    refine ⟨.ref q7, rfl, q7, _, rfl, .inl (SqL.of e7''), _, _, rfl, rfl, _, rfl, by rw [List.length_map]; exact log8 hAl, by simp, fun p4 H4 s4 n4 e4 => ne_told (by rw [List.length_map]) (by rw [List.length_map]; exact ok8 hAl) (s4 _ _ e3) e4 ⟨_, rfl, iteF ?_⟩⟩
    have u4 : Same Nc H4 := (u.trans s3).trans s4
    have hq4 := u4 _ _ hpc
    have oo4 := oc.trans (Off.of (p := p) u4)
    -- the bounds
    refine ⟨rfl, fun B1 b1 t1 n1 x1 => ⟨.ref p, rfl, p, g3, z3, 40, rfl, by decide, by decide, t1 _ _ hq4, hg3, hz3, hz3', fun g4 z4 r4 hg4 hz4 hz4' hr4 => ?_⟩⟩
    have nb : b1 ≠ p := (ne_of_none hq4 n1).symm
    obtain ⟨r, hr⟩ : ∃ r, INSIDE[2 + r4]? = some r := ⟨_, List.getElem?_eq_getElem (by rw [inside_len]; omega)⟩
    have ha : atI (INSIDE.map V.str) ((2 : Int) + (r4 : Int)) = some (.str r) := by
      rw [show (2 : Int) + (r4 : Int) = ((2 + r4 : Nat) : Int) by omega]
      exact atI_nat (by rw [List.getElem?_map, hr]; rfl)
    refine ⟨_, _, rfl, rfl, b1, _, _, _, rfl, rfl, SqL.of (by rw [upd_ne nb]; exact x1), ha, r, rfl, List.mem_of_getElem? hr, fun B2 t2 => ⟨true, rfl, iteF ⟨rfl, fun B3 t3 => ⟨true, rfl, iteF ?_⟩⟩⟩⟩
    have ob : Off p H2 B3 := oo4.trans ((Off.of t1).trans (Off.put.trans ((Off.of t2).trans (Off.of t3))))
    -- no texts
    refine ⟨by simp, fun o1 K1 w1 m1 g1 => ⟨by simp, fun o2 K2 w2 m2 g2 => ⟨by simp, fun o3 K3 w3 m3 g3 => fun o4 K4 w4 m4 g4 => ⟨by simp, fun ol L w5 m5 g5 => ⟨ol, rfl, ⟨_, SqL.of g5⟩, for_list (xs := [.non, .int 5, .bl true, .ref o1, .ref o2, .ref o3, .ref o4]) (fun _ σ H' => ∃ v7, σ = [some (.ref a), some (.int (0 + (i : Int))), some (.ref p), some (.ref q7), some (.ref q10), v5c, some (.ref qf), v7] ∧ Same L H') ⟨_, rfl, Same.refl _⟩ (fun _ _ _ _ ⟨_, _, sq⟩ => SqL.of (sq _ _ g5)) ?tz ?dz⟩⟩⟩⟩⟩
    case tz =>
      rintro j x σ H' hx ⟨v7, rfl, sq⟩
      have hm := List.mem_of_getElem? hx
      have hm : x = .non ∨ x = .int 5 ∨ x = .bl true ∨ x = .ref o1 ∨ x = .ref o2 ∨ x = .ref o3 ∨ x = .ref o4 := by simpa using hm
      have ns : NS H' x := by
        rcases hm with rfl | rfl | rfl | rfl | rfl | rfl | rfl
        · exact .inl rfl
        · exact .inr (.inl rfl)
        · exact .inr (.inr (.inl rfl))
        · exact .inr (.inr (.inr (.inl ⟨o1, _, rfl, sq _ _ (w5 _ _ (w4 _ _ (w3 _ _ (w2 _ _ g1))))⟩)))
        · exact .inr (.inr (.inr (.inl ⟨o2, _, rfl, sq _ _ (w5 _ _ (w4 _ _ (w3 _ _ g2)))⟩)))
        · exact .inr (.inr (.inr (.inr (.inl ⟨o3, _, rfl, sq _ _ (w5 _ _ (w4 _ _ g3))⟩))))
        · exact .inr (.inr (.inr (.inr (.inr ⟨o4, rfl, sq _ _ (w5 _ _ g4)⟩))))
      exact ⟨x, rfl, _, rfl, .inl ⟨ns.no.1, fun H3 p3 s3 n3 e3 => ⟨by simp, fun p4 H4 s4 n4 e4 => ne_told rfl (by decide +kernel) (s4 _ _ e3) e4 ⟨_, rfl, iteF ⟨_, rfl, (sq.trans s3).trans s4⟩⟩⟩⟩⟩
    case dz =>
    rintro σ Z ⟨v7, rfl, sq⟩
    exact ⟨_, _, _, _, _, _, _, rfl, Off.same s02 np0 (ob.trans (Off.of (((((w1.trans w2).trans w3).trans w4).trans w5).trans sq)))⟩
end
end TY

set_option Elab.async false
set_option linter.all false
set_option maxRecDepth 100000
set_option maxHeartbeats 8000000
namespace TY
open PySem PySem.Spec PyProof.Rows L2 L2.FK FS TX TZ
def entKey (e : DictEntry) : Option Str := match e.key with
  | .str x _ => some x
  | _ => none
def tFn (as : List Addr) (z : Str) : Addr := (((FORM.map Prod.fst).zip as).lookup z).getD 0
theorem find_none {z : Str} : ∀ {es : List DictEntry} {ks : List Str}, es.map entKey = ks.map some → ks.contains z = false → es.find? (·.key.isStr z) = none ∧ es.any (·.refKey) = false
  | [], [], _, _ => ⟨rfl, rfl⟩
  | e :: es, k :: ks, h, hz => by
    have h1 : entKey e = some k := by injection h
    have h2 : es.map entKey = ks.map some := by injection h
    rw [List.contains_cons, Bool.or_eq_false_iff] at hz
    obtain ⟨i1, i2⟩ := find_none h2 hz.2
    unfold entKey at h1
    split at h1
    · rename_i x t ek
      have ex : x = k := Option.some.inj h1
      subst ex
      have hne : (x == z) = false := by
        have := hz.1
        rw [Bool.beq_comm] at this
        exact this
      constructor
      · rw [List.find?_cons]
        have : e.key.isStr z = false := by rw [ek]; exact hne
        rw [this]
        exact i1
      · rw [List.any_cons, i2, Bool.or_false]
        unfold DictEntry.refKey
        rw [ek]
        try rfl
    · cases h1
theorem ns_none {K : PySem.W.Frag} {d : Addr} {es : Array DictEntry} {n : Nat} {oc : Value} {od : Option Addr} {sl : Array (Option Value)} {z : Str} {ks : List Str} (l : K.lookup d = some ⟨oc, od, .dict es n, sl⟩) (h : es.toList.map entKey = ks.map some) (hz : ks.contains z = false) : PySem.W.nsIn K d z = some none := by
  obtain ⟨h1, h2⟩ := find_none h hz
  unfold PySem.W.nsIn
  rw [l]
  show (match es.toList.find? (·.key.isStr z) with | some e => some (some e.val) | none => if es.toList.any (·.refKey) then none else some none) = _
  rw [h1]
  show (if es.toList.any (·.refKey) = true then none else some none) = _
  rw [h2]
  rfl
theorem exm_own {K : PySem.W.Frag} {C : Addr} (a : PySem.W.subIn K (.ref C) (.type "BaseException") = some true) (b : PySem.W.isClsIn K C = true) (c : PySem.W.typeIn K (.ref C) = some (.type "type")) (d : PySem.W.subIn K (.ref C) (.ref C) = some true) : PySem.W.exmOne K (.ref C) (.ref C) = some true := by
  have b' : (PySem.W.clsIn K C).isSome = true := b
  simp [PySem.W.exmOne, PySem.W.kitCls, a, b', c, d]
theorem kt_mk {K : PySem.W.Frag} {a : Addr} {xs : List V} {o : Obj} {its : Array Value} {n : Nat} (x : K.lookup a = some o) (y : o.cls = .type "tuple") (d : o.data = .seq its n) (s : its.size ≤ sizeLine) (v : Vals xs its.toList) : KT K a xs := ⟨o, its, n, x, y, d, s, v⟩
theorem all_mk {l : PySem.W.OpenLaw} {w : World} {K : PySem.W.Frag} {h : Heap} {mg : Str → Option Value} {fa aO aR aK dF g0 g1 g2 g3 g4 g5 g6 g7 g8 g9 g10 g11 fNm fRi fRp fRs fIn fDa fTa fSp fPa fPo fDr fTo fIN fDA fOU fBo fNr fLa CB fB CP fPI CM fMI fMit CD fDI fTk fBt fEx fAl fTn fOp fWi fCl : Addr} (X : K.In h) (G : h.Ns mainGlobals mg) (hfa : mg "law" = some (.ref fa))
    {tLE : Tok}
    {tDI : Tok}
    {tL8 : Tok}
    {tMR : Tok}
    {tMP : Tok}
    {otOT : Obj} {itOT : Array Value} {nnOT : Nat}
    {otRE : Obj} {itRE : Array Value} {nnRE : Nat}
    {otKI : Obj} {itKI : Array Value} {nnKI : Nat}
    {es : Array DictEntry} {nF : Nat}
    {of0 : Obj} {if0 : Array Value} {nf0 : Nat}
    {of1 : Obj} {if1 : Array Value} {nf1 : Nat}
    {of2 : Obj} {if2 : Array Value} {nf2 : Nat}
    {of3 : Obj} {if3 : Array Value} {nf3 : Nat}
    {of4 : Obj} {if4 : Array Value} {nf4 : Nat}
    {of5 : Obj} {if5 : Array Value} {nf5 : Nat}
    {of6 : Obj} {if6 : Array Value} {nf6 : Nat}
    {of7 : Obj} {if7 : Array Value} {nf7 : Nat}
    {of8 : Obj} {if8 : Array Value} {nf8 : Nat}
    {of9 : Obj} {if9 : Array Value} {nf9 : Nat}
    {of10 : Obj} {if10 : Array Value} {nf10 : Nat}
    {of11 : Obj} {if11 : Array Value} {nf11 : Nat}
    {ocNm kVNm dcNm pmNm cdNm ctNm : Value} {odNm anNm : Option Addr} {slNm : Array (Option Value)}
    {ocRi kVRi dcRi pmRi cdRi ctRi : Value} {odRi anRi : Option Addr} {slRi : Array (Option Value)}
    {ocRp kVRp dcRp pmRp cdRp ctRp : Value} {odRp anRp : Option Addr} {slRp : Array (Option Value)}
    {ocRs kVRs dcRs pmRs cdRs ctRs : Value} {odRs anRs : Option Addr} {slRs : Array (Option Value)}
    {ocIn kVIn dcIn pmIn cdIn ctIn : Value} {odIn anIn : Option Addr} {slIn : Array (Option Value)}
    {ocDa kVDa dcDa pmDa cdDa ctDa : Value} {odDa anDa : Option Addr} {slDa : Array (Option Value)}
    {ocTa kVTa dcTa pmTa cdTa ctTa : Value} {odTa anTa : Option Addr} {slTa : Array (Option Value)}
    {ocSp kVSp dcSp pmSp cdSp ctSp : Value} {odSp anSp : Option Addr} {slSp : Array (Option Value)}
    {ocPa kVPa dcPa pmPa cdPa ctPa : Value} {odPa anPa : Option Addr} {slPa : Array (Option Value)}
    {ocPo kVPo dcPo pmPo cdPo ctPo : Value} {odPo anPo : Option Addr} {slPo : Array (Option Value)}
    {ocDr kVDr dcDr pmDr cdDr ctDr : Value} {odDr anDr : Option Addr} {slDr : Array (Option Value)}
    {ocTo kVTo dcTo pmTo cdTo ctTo : Value} {odTo anTo : Option Addr} {slTo : Array (Option Value)}
    {ocIN kVIN dcIN pmIN cdIN ctIN : Value} {odIN anIN : Option Addr} {slIN : Array (Option Value)}
    {ocDA kVDA dcDA pmDA cdDA ctDA : Value} {odDA anDA : Option Addr} {slDA : Array (Option Value)}
    {ocOU kVOU dcOU pmOU cdOU ctOU : Value} {odOU anOU : Option Addr} {slOU : Array (Option Value)}
    {ocBo kVBo dcBo pmBo cdBo ctBo : Value} {odBo anBo : Option Addr} {slBo : Array (Option Value)}
    {ocNr kVNr dcNr pmNr cdNr ctNr : Value} {odNr anNr : Option Addr} {slNr : Array (Option Value)}
    {ocLa kVLa dcLa pmLa cdLa ctLa : Value} {odLa anLa : Option Addr} {slLa : Array (Option Value)}
    {n10 q0 : Str} {N0 : Addr} {bs0 bm0 : List Value} {sn0 : List Str} {sub0 : List Value} {ab0 : Bool} {col0 : Option Bool} {dd0 : Option Addr} {m00 m10 m20 m30 m50 : Option Value}
    {ocB kVB dcB pmB cdB ctB : Value} {odB anB : Option Addr} {slB : Array (Option Value)}
    {ocPI kVPI dcPI pmPI cdPI ctPI : Value} {odPI anPI : Option Addr} {slPI : Array (Option Value)}
    {ocMI kVMI dcMI pmMI cdMI ctMI : Value} {odMI anMI : Option Addr} {slMI : Array (Option Value)}
    {ocDI kVDI dcDI pmDI cdDI ctDI : Value} {odDI anDI : Option Addr} {slDI : Array (Option Value)}
    {ocTk kVTk dcTk pmTk cdTk ctTk : Value} {odTk anTk : Option Addr} {slTk : Array (Option Value)}
    {ocBt kVBt dcBt pmBt cdBt ctBt : Value} {odBt anBt : Option Addr} {slBt : Array (Option Value)}
    {ocEx kVEx dcEx pmEx cdEx ctEx : Value} {odEx anEx : Option Addr} {slEx : Array (Option Value)}
    {ocAl kVAl dcAl pmAl cdAl ctAl : Value} {odAl anAl : Option Addr} {slAl : Array (Option Value)}
    {ocTn kVTn dcTn pmTn cdTn ctTn : Value} {odTn anTn : Option Addr} {slTn : Array (Option Value)}
    {ocOp kVOp dcOp pmOp cdOp ctOp : Value} {odOp anOp : Option Addr} {slOp : Array (Option Value)}
    {ocWi kVWi dcWi pmWi cdWi ctWi : Value} {odWi anWi : Option Addr} {slWi : Array (Option Value)}
    {ocCl kVCl dcCl pmCl cdCl ctCl : Value} {odCl anCl : Option Addr} {slCl : Array (Option Value)}
    (aLE : PySem.W.nsIn K mainGlobals "LETTERS" = some (some (.str LET tLE)))
    (aDI : PySem.W.nsIn K mainGlobals "DIGITS" = some (some (.str DIG tDI)))
    (aL8 : PySem.W.nsIn K mainGlobals "LONGEST_NAME" = some (some (.int 8 tL8)))
    (aMR : PySem.W.nsIn K mainGlobals "MOST_ROWS" = some (some (.int 16 tMR)))
    (aMP : PySem.W.nsIn K mainGlobals "MOST_PIECES" = some (some (.int 12 tMP)))
    (aOT : PySem.W.nsIn K mainGlobals "OTHER_WORDS" = some (some (.ref aO)))
    (xOT : K.lookup aO = some otOT) (yOT : otOT.cls = .type "tuple") (dOT : otOT.data = .seq itOT nnOT) (sOT : itOT.size ≤ sizeLine) (vOT : Vals (OTHERS.map V.str) itOT.toList)
    (aRE : PySem.W.nsIn K mainGlobals "REGISTERS" = some (some (.ref aR)))
    (xRE : K.lookup aR = some otRE) (yRE : otRE.cls = .type "tuple") (dRE : otRE.data = .seq itRE nnRE) (sRE : itRE.size ≤ sizeLine) (vRE : Vals (REGS.map V.str) itRE.toList)
    (aKI : PySem.W.nsIn K mainGlobals "KINDS" = some (some (.ref aK)))
    (xKI : K.lookup aK = some otKI) (yKI : otKI.cls = .type "tuple") (dKI : otKI.data = .seq itKI nnKI) (sKI : itKI.size ≤ sizeLine) (vKI : Vals ([.str "func", .str "data"]) itKI.toList)
    (aFO : PySem.W.nsIn K mainGlobals "FORMS" = some (some (.ref dF)))
    (xFO : K.lookup dF = some ⟨.type "dict", none, .dict es nF, #[]⟩) (keFO : es.toList.map entKey = FORM.map fun p => some p.1) (klFO : PySem.W.KeysLit w.params es.toList) (lwFO : (dF == sysModules) = false)
    (e0 : PySem.W.nsIn K dF "call" = some (some (.ref g0))) (x0 : K.lookup g0 = some of0) (y0 : of0.cls = .type "tuple") (d0 : of0.data = .seq if0 nf0) (s0 : if0.size ≤ sizeLine) (v0 : Vals ((["name"] : List Str).map V.str) if0.toList)
    (e1 : PySem.W.nsIn K dF "callr" = some (some (.ref g1))) (x1 : K.lookup g1 = some of1) (y1 : of1.cls = .type "tuple") (d1 : of1.data = .seq if1 nf1) (s1 : if1.size ≤ sizeLine) (v1 : Vals ((["reg"] : List Str).map V.str) if1.toList)
    (e2 : PySem.W.nsIn K dF "ret" = some (some (.ref g2))) (x2 : K.lookup g2 = some of2) (y2 : of2.cls = .type "tuple") (d2 : of2.data = .seq if2 nf2) (s2 : if2.size ≤ sizeLine) (v2 : Vals (([] : List Str).map V.str) if2.toList)
    (e3 : PySem.W.nsIn K dF "addr" = some (some (.ref g3))) (x3 : K.lookup g3 = some of3) (y3 : of3.cls = .type "tuple") (d3 : of3.data = .seq if3 nf3) (s3 : if3.size ≤ sizeLine) (v3 : Vals ((["reg", "name"] : List Str).map V.str) if3.toList)
    (e4 : PySem.W.nsIn K dF "set" = some (some (.ref g4))) (x4 : K.lookup g4 = some of4) (y4 : of4.cls = .type "tuple") (d4 : of4.data = .seq if4 nf4) (s4 : if4.size ≤ sizeLine) (v4 : Vals ((["reg", "integer"] : List Str).map V.str) if4.toList)
    (e5 : PySem.W.nsIn K dF "move" = some (some (.ref g5))) (x5 : K.lookup g5 = some of5) (y5 : of5.cls = .type "tuple") (d5 : of5.data = .seq if5 nf5) (s5 : if5.size ≤ sizeLine) (v5 : Vals ((["reg", "reg"] : List Str).map V.str) if5.toList)
    (e6 : PySem.W.nsIn K dF "read" = some (some (.ref g6))) (x6 : K.lookup g6 = some of6) (y6 : of6.cls = .type "tuple") (d6 : of6.data = .seq if6 nf6) (s6 : if6.size ≤ sizeLine) (v6 : Vals ((["reg", "name", "integer"] : List Str).map V.str) if6.toList)
    (e7 : PySem.W.nsIn K dF "readr" = some (some (.ref g7))) (x7 : K.lookup g7 = some of7) (y7 : of7.cls = .type "tuple") (d7 : of7.data = .seq if7 nf7) (s7 : if7.size ≤ sizeLine) (v7 : Vals ((["reg", "reg", "integer"] : List Str).map V.str) if7.toList)
    (e8 : PySem.W.nsIn K dF "same" = some (some (.ref g8))) (x8 : K.lookup g8 = some of8) (y8 : of8.cls = .type "tuple") (d8 : of8.data = .seq if8 nf8) (s8 : if8.size ≤ sizeLine) (v8 : Vals ((["reg", "reg", "to"] : List Str).map V.str) if8.toList)
    (e9 : PySem.W.nsIn K dF "choose" = some (some (.ref g9))) (x9 : K.lookup g9 = some of9) (y9 : of9.cls = .type "tuple") (d9 : of9.data = .seq if9 nf9) (s9 : if9.size ≤ sizeLine) (v9 : Vals ((["to"] : List Str).map V.str) if9.toList)
    (e10 : PySem.W.nsIn K dF "tell" = some (some (.ref g10))) (x10 : K.lookup g10 = some of10) (y10 : of10.cls = .type "tuple") (d10 : of10.data = .seq if10 nf10) (s10 : if10.size ≤ sizeLine) (v10 : Vals ((["reg"] : List Str).map V.str) if10.toList)
    (e11 : PySem.W.nsIn K dF "go" = some (some (.ref g11))) (x11 : K.lookup g11 = some of11) (y11 : of11.cls = .type "tuple") (d11 : of11.data = .seq if11 nf11) (s11 : if11.size ≤ sizeLine) (v11 : Vals ((["to"] : List Str).map V.str) if11.toList)
    (zisinstance : PySem.W.nsIn K mainGlobals "isinstance" = some none)
    (zstr : PySem.W.nsIn K mainGlobals "str" = some none)
    (zlen : PySem.W.nsIn K mainGlobals "len" = some none)
    (zall : PySem.W.nsIn K mainGlobals "all" = some none)
    (zany : PySem.W.nsIn K mainGlobals "any" = some none)
    (zint : PySem.W.nsIn K mainGlobals "int" = some none)
    (zzip : PySem.W.nsIn K mainGlobals "zip" = some none)
    (ztuple : PySem.W.nsIn K mainGlobals "tuple" = some none)
    (zenumerate : PySem.W.nsIn K mainGlobals "enumerate" = some none)
    (zrepr : PySem.W.nsIn K mainGlobals "repr" = some none)
    (zValueError : PySem.W.nsIn K mainGlobals "ValueError" = some none)
    (zabs : PySem.W.nsIn K mainGlobals "abs" = some none)
    (zrange : PySem.W.nsIn K mainGlobals "range" = some none)
    (zmax : PySem.W.nsIn K mainGlobals "max" = some none)
    (zmin : PySem.W.nsIn K mainGlobals "min" = some none)
    (aNm : PySem.W.nsIn K mainGlobals "is_name" = some (some (.ref fNm)))
    (lNm : K.lookup fNm = some ⟨ocNm, odNm, .func (PySem.W.fnOf "is_name" "is_name" (defArgs sIsName) (defBody sIsName) (defScope sIsName) .none kVNm dcNm pmNm anNm cdNm ctNm), slNm⟩) (cNm : PySem.W.codeIn K cdNm "is_name" = true) (kNm : PySem.W.keepIn K (.ref fNm) = true)
    (aRi : PySem.W.nsIn K mainGlobals "read_integer" = some (some (.ref fRi)))
    (lRi : K.lookup fRi = some ⟨ocRi, odRi, .func (PySem.W.fnOf "read_integer" "read_integer" (defArgs sReadInt) (defBody sReadInt) (defScope sReadInt) .none kVRi dcRi pmRi anRi cdRi ctRi), slRi⟩) (cRi : PySem.W.codeIn K cdRi "read_integer" = true) (kRi : PySem.W.keepIn K (.ref fRi) = true)
    (aRp : PySem.W.nsIn K mainGlobals "read_part" = some (some (.ref fRp)))
    (lRp : K.lookup fRp = some ⟨ocRp, odRp, .func (PySem.W.fnOf "read_part" "read_part" (defArgs sReadPart) (defBody sReadPart) (defScope sReadPart) .none kVRp dcRp pmRp anRp cdRp ctRp), slRp⟩) (cRp : PySem.W.codeIn K cdRp "read_part" = true) (kRp : PySem.W.keepIn K (.ref fRp) = true)
    (aRs : PySem.W.nsIn K mainGlobals "read_parts" = some (some (.ref fRs)))
    (lRs : K.lookup fRs = some ⟨ocRs, odRs, .func (PySem.W.fnOf "read_parts" "read_parts" (defArgs sReadParts) (defBody sReadParts) (defScope sReadParts) .none kVRs dcRs pmRs anRs cdRs ctRs), slRs⟩) (cRs : PySem.W.codeIn K cdRs "read_parts" = true) (kRs : PySem.W.keepIn K (.ref fRs) = true)
    (aIn : PySem.W.nsIn K mainGlobals "read_instruction" = some (some (.ref fIn)))
    (lIn : K.lookup fIn = some ⟨ocIn, odIn, .func (PySem.W.fnOf "read_instruction" "read_instruction" (defArgs sReadIns) (defBody sReadIns) (defScope sReadIns) .none kVIn dcIn pmIn anIn cdIn ctIn), slIn⟩) (cIn : PySem.W.codeIn K cdIn "read_instruction" = true) (kIn : PySem.W.keepIn K (.ref fIn) = true)
    (aDa : PySem.W.nsIn K mainGlobals "read_datum" = some (some (.ref fDa)))
    (lDa : K.lookup fDa = some ⟨ocDa, odDa, .func (PySem.W.fnOf "read_datum" "read_datum" (defArgs sReadDat) (defBody sReadDat) (defScope sReadDat) .none kVDa dcDa pmDa anDa cdDa ctDa), slDa⟩) (cDa : PySem.W.codeIn K cdDa "read_datum" = true) (kDa : PySem.W.keepIn K (.ref fDa) = true)
    (aTa : PySem.W.nsIn K mainGlobals "target_of" = some (some (.ref fTa)))
    (lTa : K.lookup fTa = some ⟨ocTa, odTa, .func (PySem.W.fnOf "target_of" "target_of" (defArgs sTarget) (defBody sTarget) (defScope sTarget) .none kVTa dcTa pmTa anTa cdTa ctTa), slTa⟩) (cTa : PySem.W.codeIn K cdTa "target_of" = true) (kTa : PySem.W.keepIn K (.ref fTa) = true)
    (aSp : PySem.W.nsIn K mainGlobals "split_rows" = some (some (.ref fSp)))
    (lSp : K.lookup fSp = some ⟨ocSp, odSp, .func (PySem.W.fnOf "split_rows" "split_rows" (defArgs sSplit) (defBody sSplit) (defScope sSplit) .none kVSp dcSp pmSp anSp cdSp ctSp), slSp⟩) (cSp : PySem.W.codeIn K cdSp "split_rows" = true) (kSp : PySem.W.keepIn K (.ref fSp) = true)
    (aPa : PySem.W.nsIn K mainGlobals "parse_module" = some (some (.ref fPa)))
    (lPa : K.lookup fPa = some ⟨ocPa, odPa, .func (PySem.W.fnOf "parse_module" "parse_module" (defArgs sParse) (defBody sParse) (defScope sParse) .none kVPa dcPa pmPa anPa cdPa ctPa), slPa⟩) (cPa : PySem.W.codeIn K cdPa "parse_module" = true) (kPa : PySem.W.keepIn K (.ref fPa) = true)
    (aPo : PySem.W.nsIn K mainGlobals "_law_pool" = some (some (.ref fPo)))
    (lPo : K.lookup fPo = some ⟨ocPo, odPo, .func (PySem.W.fnOf "_law_pool" "_law_pool" (defArgs TY.sPool) (defBody TY.sPool) (defScope TY.sPool) .none kVPo dcPo pmPo anPo cdPo ctPo), slPo⟩) (cPo : PySem.W.codeIn K cdPo "_law_pool" = true) (kPo : PySem.W.keepIn K (.ref fPo) = true)
    (aDr : PySem.W.nsIn K mainGlobals "_law_take" = some (some (.ref fDr)))
    (lDr : K.lookup fDr = some ⟨ocDr, odDr, .func (PySem.W.fnOf "_law_take" "_law_take" (defArgs TY.sDraw) (defBody TY.sDraw) (defScope TY.sDraw) .none kVDr dcDr pmDr anDr cdDr ctDr), slDr⟩) (cDr : PySem.W.codeIn K cdDr "_law_take" = true) (kDr : PySem.W.keepIn K (.ref fDr) = true)
    (aTo : PySem.W.nsIn K mainGlobals "_law_told" = some (some (.ref fTo)))
    (lTo : K.lookup fTo = some ⟨ocTo, odTo, .func (PySem.W.fnOf "_law_told" "_law_told" (defArgs TY.sTold) (defBody TY.sTold) (defScope TY.sTold) .none kVTo dcTo pmTo anTo cdTo ctTo), slTo⟩) (cTo : PySem.W.codeIn K cdTo "_law_told" = true) (kTo : PySem.W.keepIn K (.ref fTo) = true)
    (aIN : PySem.W.nsIn K mainGlobals "_law_inside" = some (some (.ref fIN)))
    (lIN : K.lookup fIN = some ⟨ocIN, odIN, .func (PySem.W.fnOf "_law_inside" "_law_inside" (defArgs TY.sINSIDE) (defBody TY.sINSIDE) (defScope TY.sINSIDE) .none kVIN dcIN pmIN anIN cdIN ctIN), slIN⟩) (cIN : PySem.W.codeIn K cdIN "_law_inside" = true) (kIN : PySem.W.keepIn K (.ref fIN) = true)
    (aDA : PySem.W.nsIn K mainGlobals "_law_in_data" = some (some (.ref fDA)))
    (lDA : K.lookup fDA = some ⟨ocDA, odDA, .func (PySem.W.fnOf "_law_in_data" "_law_in_data" (defArgs TY.sINDATA) (defBody TY.sINDATA) (defScope TY.sINDATA) .none kVDA dcDA pmDA anDA cdDA ctDA), slDA⟩) (cDA : PySem.W.codeIn K cdDA "_law_in_data" = true) (kDA : PySem.W.keepIn K (.ref fDA) = true)
    (aOU : PySem.W.nsIn K mainGlobals "_law_outside" = some (some (.ref fOU)))
    (lOU : K.lookup fOU = some ⟨ocOU, odOU, .func (PySem.W.fnOf "_law_outside" "_law_outside" (defArgs TY.sOUTSIDE) (defBody TY.sOUTSIDE) (defScope TY.sOUTSIDE) .none kVOU dcOU pmOU anOU cdOU ctOU), slOU⟩) (cOU : PySem.W.codeIn K cdOU "_law_outside" = true) (kOU : PySem.W.keepIn K (.ref fOU) = true)
    (aBo : PySem.W.nsIn K mainGlobals "_law_bounds_right" = some (some (.ref fBo)))
    (lBo : K.lookup fBo = some ⟨ocBo, odBo, .func (PySem.W.fnOf "_law_bounds_right" "_law_bounds_right" (defArgs TY.sBounds) (defBody TY.sBounds) (defScope TY.sBounds) .none kVBo dcBo pmBo anBo cdBo ctBo), slBo⟩) (cBo : PySem.W.codeIn K cdBo "_law_bounds_right" = true) (kBo : PySem.W.keepIn K (.ref fBo) = true)
    (aNr : PySem.W.nsIn K mainGlobals "_law_names_right" = some (some (.ref fNr)))
    (lNr : K.lookup fNr = some ⟨ocNr, odNr, .func (PySem.W.fnOf "_law_names_right" "_law_names_right" (defArgs TY.sNames) (defBody TY.sNames) (defScope TY.sNames) .none kVNr dcNr pmNr anNr cdNr ctNr), slNr⟩) (cNr : PySem.W.codeIn K cdNr "_law_names_right" = true) (kNr : PySem.W.keepIn K (.ref fNr) = true)
    (aLa : PySem.W.nsIn K mainGlobals "law" = some (some (.ref fLa)))
    (lLa : K.lookup fLa = some ⟨ocLa, odLa, .func (PySem.W.fnOf "law" "law" (defArgs TY.sLaw) (defBody TY.sLaw) (defScope TY.sLaw) .none kVLa dcLa pmLa anLa cdLa ctLa), slLa⟩) (cLa : PySem.W.codeIn K cdLa "law" = true) (kLa : PySem.W.keepIn K (.ref fLa) = true)
    (hn : PySem.W.specialIn K (.builtin "object.__class__") "__get__" = some (some (.builtin "getset_descriptor.__get__"))) (ht : PySem.W.takesIn K (.builtin "object.__class__") = some true)
    (aB : PySem.W.nsIn K mainGlobals "BadText" = some (some (.ref CB)))
    (xLB : K.lookup CB = some (excClassObj n10 q0 CB N0 bs0 bm0 true sn0 sub0 ab0 col0 dd0 m00 m10 m20 m30 m50 "ValueError.__new__")) (bvB : PySem.HandSPX.refsVE bm0 = true)
    (saB : PySem.W.findIn K (.ref CB) "__setattr__" = some (some (.builtin "object.__setattr__"))) (gaB : PySem.W.findIn K (.ref CB) "__getattribute__" = some (some (.builtin "BaseException.__getattribute__"))) (ggB : PySem.W.findIn K (.ref CB) "__getattr__" = some none)
    (a1B : PySem.W.findIn K (.ref CB) "__init__" = some (some (.ref fB))) (t1B : PySem.W.typeIn K (.ref fB) = some (.type "function")) (kCB : PySem.W.keepIn K (.ref CB) = true) (eCB : PySem.W.subIn K (.ref CB) (.type "BaseException") = some true)
    (tCB : PySem.W.typeIn K (.ref CB) = some (.type "type")) (hCB : PySem.W.hasDictIn K CB = true) (cCB : PySem.W.findIn K (.ref CB) "__class__" = some (some (.builtin "object.__class__"))) (mCB : PySem.W.mroIn K CB (.type "object") = some true)
    (lB : K.lookup fB = some ⟨ocB, odB, .func (PySem.W.fnOf "__init__" "BadText.__init__" (defArgs sBadI) (defBody sBadI) (defScope sBadI) .none kVB dcB pmB anB cdB ctB), slB⟩) (cB : PySem.W.codeIn K cdB "BadText.__init__" = true) (kB : PySem.W.keepIn K (.ref fB) = true)
    (nRow : PySem.W.findIn K (.ref CB) "row" = some none) (iCB : PySem.W.isClsIn K CB = true) (sCB : PySem.W.subIn K (.ref CB) (.ref CB) = some true) (vCB : PySem.W.subIn K (.ref CB) (.type "ValueError") = some true)
    (aCP : PySem.W.nsIn K mainGlobals "Piece" = some (some (.ref CP)))
    (pgCP : PySem.W.plainGet K CP Str.empty = true) (hdCP : PySem.W.hasDictIn K CP = true) (poCP : PySem.W.plainOver K CP = true) (saCP : PySem.W.findIn K (.ref CP) "__setattr__" = some (some (.builtin "object.__setattr__"))) (mkCP : PySem.W.makesIn K CP = true) (kcCP : PySem.W.keepIn K (.ref CP) = true)
    (nCPname : PySem.W.findIn K (.ref CP) "name" = some none)
    (nCPkind : PySem.W.findIn K (.ref CP) "kind" = some none)
    (nCProws : PySem.W.findIn K (.ref CP) "rows" = some none)
    (nCPtake : PySem.W.findIn K (.ref CP) "take" = some none)
    (nCP__iter__ : PySem.W.findIn K (.ref CP) "__iter__" = some none)
    (mPI : PySem.W.findIn K (.ref CP) "__init__" = some (some (.ref fPI))) (iPI : PySem.W.isFn K (.ref fPI) = true)
    (lPI : K.lookup fPI = some ⟨ocPI, odPI, .func (PySem.W.fnOf "__init__" "Piece.__init__" (defArgs sPieceI) (defBody sPieceI) (defScope sPieceI) .none kVPI dcPI pmPI anPI cdPI ctPI), slPI⟩) (cPI : PySem.W.codeIn K cdPI "Piece.__init__" = true) (kPI : PySem.W.keepIn K (.ref fPI) = true)
    (aCM : PySem.W.nsIn K mainGlobals "Module" = some (some (.ref CM)))
    (pgCM : PySem.W.plainGet K CM Str.empty = true) (hdCM : PySem.W.hasDictIn K CM = true) (poCM : PySem.W.plainOver K CM = true) (saCM : PySem.W.findIn K (.ref CM) "__setattr__" = some (some (.builtin "object.__setattr__"))) (mkCM : PySem.W.makesIn K CM = true) (kcCM : PySem.W.keepIn K (.ref CM) = true)
    (nCMpieces : PySem.W.findIn K (.ref CM) "pieces" = some none)
    (nCMexports : PySem.W.findIn K (.ref CM) "exports" = some none)
    (nCMaliases : PySem.W.findIn K (.ref CM) "aliases" = some none)
    (nCM_named : PySem.W.findIn K (.ref CM) "_named" = some none)
    (mMI : PySem.W.findIn K (.ref CM) "__init__" = some (some (.ref fMI))) (iMI : PySem.W.isFn K (.ref fMI) = true)
    (lMI : K.lookup fMI = some ⟨ocMI, odMI, .func (PySem.W.fnOf "__init__" "Module.__init__" (defArgs sModI) (defBody sModI) (defScope sModI) .none kVMI dcMI pmMI anMI cdMI ctMI), slMI⟩) (cMI : PySem.W.codeIn K cdMI "Module.__init__" = true) (kMI : PySem.W.keepIn K (.ref fMI) = true)
    (mit : PySem.W.findIn K (.ref CM) "__iter__" = some (some (.ref fMit)))
    (aCD : PySem.W.nsIn K mainGlobals "Draft" = some (some (.ref CD)))
    (pgCD : PySem.W.plainGet K CD Str.empty = true) (hdCD : PySem.W.hasDictIn K CD = true) (poCD : PySem.W.plainOver K CD = true) (saCD : PySem.W.findIn K (.ref CD) "__setattr__" = some (some (.builtin "object.__setattr__"))) (mkCD : PySem.W.makesIn K CD = true) (kcCD : PySem.W.keepIn K (.ref CD) = true)
    (nCDpieces : PySem.W.findIn K (.ref CD) "pieces" = some none)
    (nCDexports : PySem.W.findIn K (.ref CD) "exports" = some none)
    (nCDaliases : PySem.W.findIn K (.ref CD) "aliases" = some none)
    (nCDnamed : PySem.W.findIn K (.ref CD) "named" = some none)
    (nCDkind : PySem.W.findIn K (.ref CD) "kind" = some none)
    (nCDname : PySem.W.findIn K (.ref CD) "name" = some none)
    (nCDstart : PySem.W.findIn K (.ref CD) "start" = some none)
    (nCDrows : PySem.W.findIn K (.ref CD) "rows" = some none)
    (mDI : PySem.W.findIn K (.ref CD) "__init__" = some (some (.ref fDI))) (iDI : PySem.W.isFn K (.ref fDI) = true)
    (lDI : K.lookup fDI = some ⟨ocDI, odDI, .func (PySem.W.fnOf "__init__" "Draft.__init__" (defArgs (sDraft 0)) (defBody (sDraft 0)) (defScope (sDraft 0)) .none kVDI dcDI pmDI anDI cdDI ctDI), slDI⟩) (cDI : PySem.W.codeIn K cdDI "Draft.__init__" = true) (kDI : PySem.W.keepIn K (.ref fDI) = true)
    (mTk : PySem.W.findIn K (.ref CD) "take" = some (some (.ref fTk))) (iTk : PySem.W.isFn K (.ref fTk) = true)
    (lTk : K.lookup fTk = some ⟨ocTk, odTk, .func (PySem.W.fnOf "take" "Draft.take" (defArgs (sDraft 1)) (defBody (sDraft 1)) (defScope (sDraft 1)) .none kVTk dcTk pmTk anTk cdTk ctTk), slTk⟩) (cTk : PySem.W.codeIn K cdTk "Draft.take" = true) (kTk : PySem.W.keepIn K (.ref fTk) = true)
    (mBt : PySem.W.findIn K (.ref CD) "take_between" = some (some (.ref fBt))) (iBt : PySem.W.isFn K (.ref fBt) = true)
    (lBt : K.lookup fBt = some ⟨ocBt, odBt, .func (PySem.W.fnOf "take_between" "Draft.take_between" (defArgs (sDraft 2)) (defBody (sDraft 2)) (defScope (sDraft 2)) .none kVBt dcBt pmBt anBt cdBt ctBt), slBt⟩) (cBt : PySem.W.codeIn K cdBt "Draft.take_between" = true) (kBt : PySem.W.keepIn K (.ref fBt) = true)
    (mEx : PySem.W.findIn K (.ref CD) "take_exports" = some (some (.ref fEx))) (iEx : PySem.W.isFn K (.ref fEx) = true)
    (lEx : K.lookup fEx = some ⟨ocEx, odEx, .func (PySem.W.fnOf "take_exports" "Draft.take_exports" (defArgs (sDraft 3)) (defBody (sDraft 3)) (defScope (sDraft 3)) .none kVEx dcEx pmEx anEx cdEx ctEx), slEx⟩) (cEx : PySem.W.codeIn K cdEx "Draft.take_exports" = true) (kEx : PySem.W.keepIn K (.ref fEx) = true)
    (mAl : PySem.W.findIn K (.ref CD) "take_alias" = some (some (.ref fAl))) (iAl : PySem.W.isFn K (.ref fAl) = true)
    (lAl : K.lookup fAl = some ⟨ocAl, odAl, .func (PySem.W.fnOf "take_alias" "Draft.take_alias" (defArgs (sDraft 4)) (defBody (sDraft 4)) (defScope (sDraft 4)) .none kVAl dcAl pmAl anAl cdAl ctAl), slAl⟩) (cAl : PySem.W.codeIn K cdAl "Draft.take_alias" = true) (kAl : PySem.W.keepIn K (.ref fAl) = true)
    (mTn : PySem.W.findIn K (.ref CD) "take_name" = some (some (.ref fTn))) (iTn : PySem.W.isFn K (.ref fTn) = true)
    (lTn : K.lookup fTn = some ⟨ocTn, odTn, .func (PySem.W.fnOf "take_name" "Draft.take_name" (defArgs (sDraft 5)) (defBody (sDraft 5)) (defScope (sDraft 5)) .none kVTn dcTn pmTn anTn cdTn ctTn), slTn⟩) (cTn : PySem.W.codeIn K cdTn "Draft.take_name" = true) (kTn : PySem.W.keepIn K (.ref fTn) = true)
    (mOp : PySem.W.findIn K (.ref CD) "open_piece" = some (some (.ref fOp))) (iOp : PySem.W.isFn K (.ref fOp) = true)
    (lOp : K.lookup fOp = some ⟨ocOp, odOp, .func (PySem.W.fnOf "open_piece" "Draft.open_piece" (defArgs (sDraft 6)) (defBody (sDraft 6)) (defScope (sDraft 6)) .none kVOp dcOp pmOp anOp cdOp ctOp), slOp⟩) (cOp : PySem.W.codeIn K cdOp "Draft.open_piece" = true) (kOp : PySem.W.keepIn K (.ref fOp) = true)
    (mWi : PySem.W.findIn K (.ref CD) "take_within" = some (some (.ref fWi))) (iWi : PySem.W.isFn K (.ref fWi) = true)
    (lWi : K.lookup fWi = some ⟨ocWi, odWi, .func (PySem.W.fnOf "take_within" "Draft.take_within" (defArgs (sDraft 7)) (defBody (sDraft 7)) (defScope (sDraft 7)) .none kVWi dcWi pmWi anWi cdWi ctWi), slWi⟩) (cWi : PySem.W.codeIn K cdWi "Draft.take_within" = true) (kWi : PySem.W.keepIn K (.ref fWi) = true)
    (mCl : PySem.W.findIn K (.ref CD) "close_piece" = some (some (.ref fCl))) (iCl : PySem.W.isFn K (.ref fCl) = true)
    (lCl : K.lookup fCl = some ⟨ocCl, odCl, .func (PySem.W.fnOf "close_piece" "Draft.close_piece" (defArgs (sDraft 8)) (defBody (sDraft 8)) (defScope (sDraft 8)) .none kVCl dcCl pmCl anCl cdCl ctCl), slCl⟩) (cCl : PySem.W.codeIn K cdCl "Draft.close_piece" = true) (kCl : PySem.W.keepIn K (.ref fCl) = true)
    : ∃ fd : FuncData, (∀ (s : Shared) (v : Value), BindsTo s fd ⟨[v], []⟩ [("_law_script", v)]) ∧ ∀ base : Heap, K.In base → base.Ns mainGlobals mg → FnOk l.prog w K mg base CX0 10 fa fd ["_law_script"] (spLaw K) := by
  have e := hfa.symm.trans (PySem.W.mg_of X G aLa)
  cases e
  have lF : ∀ z, PySem.W.nsIn K dF z = some ((formOf z).map fun _ => Value.ref (tFn [g0, g1, g2, g3, g4, g5, g6, g7, g8, g9, g10, g11] z)) := by
    intro z
    cases hz : formOf z with
    | none =>
      refine ns_none (ks := FORM.map Prod.fst) xFO (by rw [keFO, List.map_map]; rfl) ?_
      cases hc : (FORM.map Prod.fst).contains z with
      | false => rfl
      | true =>
        have hm : z ∈ FORM.map Prod.fst := by simpa using hc
        have key : ∀ k ∈ FORM.map Prod.fst, (formOf k).isSome = true := by decide +kernel
        have := key z hm
        rw [hz] at this
        cases this
    | some ws =>
      have hm : z ∈ FORM.map Prod.fst := List.mem_map.mpr ⟨_, PySem.mem_of_lookup hz, rfl⟩
      have hm : z = "call" ∨ z = "callr" ∨ z = "ret" ∨ z = "addr" ∨ z = "set" ∨ z = "move" ∨ z = "read" ∨ z = "readr" ∨ z = "same" ∨ z = "choose" ∨ z = "tell" ∨ z = "go" := by simpa [FORM] using hm
      rcases hm with rfl | rfl | rfl | rfl | rfl | rfl | rfl | rfl | rfl | rfl | rfl | rfl
      · exact e0
      · exact e1
      · exact e2
      · exact e3
      · exact e4
      · exact e5
      · exact e6
      · exact e7
      · exact e8
      · exact e9
      · exact e10
      · exact e11
  have tF : ∀ z ws, formOf z = some ws → KT K (tFn [g0, g1, g2, g3, g4, g5, g6, g7, g8, g9, g10, g11] z) (ws.map V.str) := by
    intro z ws hz
    have hm : z ∈ FORM.map Prod.fst := List.mem_map.mpr ⟨_, PySem.mem_of_lookup hz, rfl⟩
    have hm : z = "call" ∨ z = "callr" ∨ z = "ret" ∨ z = "addr" ∨ z = "set" ∨ z = "move" ∨ z = "read" ∨ z = "readr" ∨ z = "same" ∨ z = "choose" ∨ z = "tell" ∨ z = "go" := by simpa [FORM] using hm
    rcases hm with rfl | rfl | rfl | rfl | rfl | rfl | rfl | rfl | rfl | rfl | rfl | rfl
    · cases hz; exact kt_mk x0 y0 d0 s0 v0
    · cases hz; exact kt_mk x1 y1 d1 s1 v1
    · cases hz; exact kt_mk x2 y2 d2 s2 v2
    · cases hz; exact kt_mk x3 y3 d3 s3 v3
    · cases hz; exact kt_mk x4 y4 d4 s4 v4
    · cases hz; exact kt_mk x5 y5 d5 s5 v5
    · cases hz; exact kt_mk x6 y6 d6 s6 v6
    · cases hz; exact kt_mk x7 y7 d7 s7 v7
    · cases hz; exact kt_mk x8 y8 d8 s8 v8
    · cases hz; exact kt_mk x9 y9 d9 s9 v9
    · cases hz; exact kt_mk x10 y10 d10 s10 v10
    · cases hz; exact kt_mk x11 y11 d11 s11 v11
  have T : TT K w mg aO aR dF es nF (tFn [g0, g1, g2, g3, g4, g5, g6, g7, g8, g9, g10, g11]) := ⟨⟨_, PySem.W.mg_of X G aLE⟩, ⟨_, PySem.W.mg_of X G aDI⟩, ⟨_, PySem.W.mg_of X G aL8⟩, PySem.W.mg_of X G aOT, kt_mk xOT yOT dOT sOT vOT, PySem.W.mg_of X G aRE, kt_mk xRE yRE dRE sRE vRE, PySem.W.mg_of X G aFO, ⟨xFO, klFO, lwFO⟩, lF, tF, PySem.W.mg_none_of X G zisinstance, PySem.W.mg_none_of X G zstr, PySem.W.mg_none_of X G zlen, PySem.W.mg_none_of X G zall, PySem.W.mg_none_of X G zany, PySem.W.mg_none_of X G zint, PySem.W.mg_none_of X G zzip⟩
  have FNm := fun_mk (st := sIsName) lNm cNm kNm
  have FRi := fun_mk (st := sReadInt) lRi cRi kRi
  have FRp := fun_mk (st := sReadPart) lRp cRp kRp
  have FRs := fun_mk (st := sReadParts) lRs cRs kRs
  have FIn := fun_mk (st := sReadIns) lIn cIn kIn
  have FDa := fun_mk (st := sReadDat) lDa cDa kDa
  have FTa := fun_mk (st := sTarget) lTa cTa kTa
  have FSp := fun_mk (st := sSplit) lSp cSp kSp
  have FPa := fun_mk (st := sParse) lPa cPa kPa
  have FPo := fun_mk (st := TY.sPool) lPo cPo kPo
  have FDr := fun_mk (st := TY.sDraw) lDr cDr kDr
  have FTo := fun_mk (st := TY.sTold) lTo cTo kTo
  have FIN := fun_mk (st := TY.sINSIDE) lIN cIN kIN
  have FDA := fun_mk (st := TY.sINDATA) lDA cDA kDA
  have FOU := fun_mk (st := TY.sOUTSIDE) lOU cOU kOU
  have FBo := fun_mk (st := TY.sBounds) lBo cBo kBo
  have FNr := fun_mk (st := TY.sNames) lNr cNr kNr
  have FLa := fun_mk (st := TY.sLaw) lLa cLa kLa
  have FB := fun_mk (st := sBadI) lB cB kB
  have FPI := fun_mk (st := sPieceI) lPI cPI kPI
  have FMI := fun_mk (st := sModI) lMI cMI kMI
  have FDI := fun_mk (st := sDraft 0) lDI cDI kDI
  have FTk := fun_mk (st := sDraft 1) lTk cTk kTk
  have FBt := fun_mk (st := sDraft 2) lBt cBt kBt
  have FEx := fun_mk (st := sDraft 3) lEx cEx kEx
  have FAl := fun_mk (st := sDraft 4) lAl cAl kAl
  have FTn := fun_mk (st := sDraft 5) lTn cTn kTn
  have FOp := fun_mk (st := sDraft 6) lOp cOp kOp
  have FWi := fun_mk (st := sDraft 7) lWi cWi kWi
  have FCl := fun_mk (st := sDraft 8) lCl cCl kCl
  have bNm := FNm.binds (ps := ["value"]) fun _ _ _ _ _ _ us hl => match us, hl with | [_], _ => rfl
  have bRi := FRi.binds (ps := ["word"]) fun _ _ _ _ _ _ us hl => match us, hl with | [_], _ => rfl
  have bRp := FRp.binds (ps := ["word", "sort"]) fun _ _ _ _ _ _ us hl => match us, hl with | [_, _], _ => rfl
  have bRs := FRs.binds (ps := ["words", "form"]) fun _ _ _ _ _ _ us hl => match us, hl with | [_, _], _ => rfl
  have bIn := FIn.binds (ps := ["words"]) fun _ _ _ _ _ _ us hl => match us, hl with | [_], _ => rfl
  have bDa := FDa.binds (ps := ["words"]) fun _ _ _ _ _ _ us hl => match us, hl with | [_], _ => rfl
  have bTa := FTa.binds (ps := ["row"]) fun _ _ _ _ _ _ us hl => match us, hl with | [_], _ => rfl
  have bSp := FSp.binds (ps := ["text"]) fun _ _ _ _ _ _ us hl => match us, hl with | [_], _ => rfl
  have bPa := FPa.binds (ps := ["text"]) fun _ _ _ _ _ _ us hl => match us, hl with | [_], _ => rfl
  have bPo := FPo.binds (ps := ["_law_script", "_law_k"]) fun _ _ _ _ _ _ us hl => match us, hl with | [_, _], _ => rfl
  have bDr := FDr.binds (ps := ["_law_pool_here", "_law_many"]) fun _ _ _ _ _ _ us hl => match us, hl with | [_, _], _ => rfl
  have bTo := FTo.binds (ps := ["_law_text"]) fun _ _ _ _ _ _ us hl => match us, hl with | [_], _ => rfl
  have bIN := FIN.binds (ps := []) fun _ _ _ _ _ _ us hl => match us, hl with | [], _ => rfl
  have bDA := FDA.binds (ps := []) fun _ _ _ _ _ _ us hl => match us, hl with | [], _ => rfl
  have bOU := FOU.binds (ps := []) fun _ _ _ _ _ _ us hl => match us, hl with | [], _ => rfl
  have bBo := FBo.binds (ps := ["_law_row"]) fun _ _ _ _ _ _ us hl => match us, hl with | [_], _ => rfl
  have bNr := FNr.binds (ps := []) fun _ _ _ _ _ _ us hl => match us, hl with | [], _ => rfl
  have bB := FB.binds (ps := ["self", "row"]) fun _ _ _ _ _ _ us hl => match us, hl with | [_, _], _ => rfl
  have bPI := FPI.binds (ps := ["self", "name", "kind", "rows"]) fun _ _ _ _ _ _ us hl => match us, hl with | [_, _, _, _], _ => rfl
  have bMI := FMI.binds (ps := ["self", "pieces", "exports", "aliases"]) fun _ _ _ _ _ _ us hl => match us, hl with | [_, _, _, _], _ => rfl
  have bDI := FDI.binds (ps := ["self"]) fun _ _ _ _ _ _ us hl => match us, hl with | [_], _ => rfl
  have bTk := FTk.binds (ps := ["self", "number", "words"]) fun _ _ _ _ _ _ us hl => match us, hl with | [_, _, _], _ => rfl
  have bBt := FBt.binds (ps := ["self", "number", "words"]) fun _ _ _ _ _ _ us hl => match us, hl with | [_, _, _], _ => rfl
  have bEx := FEx.binds (ps := ["self", "names"]) fun _ _ _ _ _ _ us hl => match us, hl with | [_, _], _ => rfl
  have bAl := FAl.binds (ps := ["self", "names"]) fun _ _ _ _ _ _ us hl => match us, hl with | [_, _], _ => rfl
  have bTn := FTn.binds (ps := ["self", "name"]) fun _ _ _ _ _ _ us hl => match us, hl with | [_, _], _ => rfl
  have bOp := FOp.binds (ps := ["self", "number", "words"]) fun _ _ _ _ _ _ us hl => match us, hl with | [_, _, _], _ => rfl
  have bWi := FWi.binds (ps := ["self", "words"]) fun _ _ _ _ _ _ us hl => match us, hl with | [_, _], _ => rfl
  have bCl := FCl.binds (ps := ["self"]) fun _ _ _ _ _ _ us hl => match us, hl with | [_], _ => rfl
  have nePD : CP ≠ CD := fun e => by subst e; rw [nCPtake] at mTk; cases mTk
  have nePM : CP ≠ CM := fun e => by subst e; rw [nCP__iter__] at mit; cases mit
  have TC1 : TC K CD CP := ⟨⟨pgCD, hdCD, poCD, saCD⟩, nCDpieces, nCDexports, nCDaliases, nCDnamed, nCDkind, nCDname, nCDstart, nCDrows, ⟨pgCP, hdCP, poCP, saCP⟩, nCPname, nCPkind, nCProws, nePD⟩
  have E : EC K mg "BadText" CB fB := ec_mk X G aB xLB bvB saB gaB ggB a1B t1B kCB eCB tCB hCB cCB mCB hn ht
  have B : TB K mg CP CB fPI fB := ⟨E, PySem.W.mg_of X G aCP, ⟨mkCP, mPI, iPI, kcCP⟩, PySem.W.mg_none_of X G ztuple, PySem.W.mg_none_of X G zenumerate⟩
  have M : TM K mg aK := ⟨⟨_, PySem.W.mg_of X G aMP⟩, ⟨_, PySem.W.mg_of X G aMR⟩, PySem.W.mg_of X G aKI, kt_mk xKI yKI dKI sKI vKI⟩
  have Md : TMd K CM := ⟨⟨pgCM, hdCM, poCM, saCM⟩, nCMpieces, nCMexports, nCMaliases, nCM_named⟩
  have Gp : TP K mg CD CM fDI fMI := ⟨PySem.W.mg_of X G aCD, ⟨mkCD, mDI, iDI, kcCD⟩, PySem.W.mg_of X G aCM, ⟨mkCM, mMI, iMI, kcCM⟩⟩
  have L : TL K mg CB fB fPa := ⟨E, nRow, exm_own eCB iCB tCB sCB, kit_ve vCB, PySem.W.mg_of X G aPa, kPa, PySem.W.mg_none_of X G zrepr, PySem.W.mg_none_of X G zisinstance, PySem.W.mg_none_of X G zValueError⟩
  refine ⟨PySem.W.fnOf "law" "law" (defArgs TY.sLaw) (defBody TY.sLaw) (defScope TY.sLaw) .none kVLa dcLa pmLa anLa cdLa ctLa, fun s v => .of_eq rfl, fun base _ _ => ?_⟩
  have GNm : FnOk l.prog w K mg base CX0 1 fNm _ ["value"] (spIsName K) := ok_isName FNm T
  have GRi : FnOk l.prog w K mg base CX0 1 fRi _ ["word"] spReadInt := ok_readInt FRi T
  have GRp : FnOk l.prog w K mg base CX0 2 fRp _ ["word", "sort"] spReadPart := ok_readPart FRp T GNm bNm (PySem.W.mg_of X G aNm) kNm GRi bRi (PySem.W.mg_of X G aRi) kRi
  have GRs : FnOk l.prog w K mg base CX0 3 fRs _ ["words", "form"] (spReadParts K) := ok_readParts FRs T GRp bRp (PySem.W.mg_of X G aRp) kRp
  have GIn : FnOk l.prog w K mg base CX0 4 fIn _ ["words"] (spReadIns K) := ok_readIns FIn T GRs bRs (PySem.W.mg_of X G aRs) kRs
  have GDa : FnOk l.prog w K mg base CX0 2 fDa _ ["words"] (spReadDat K) := ok_readDat FDa T GNm bNm (PySem.W.mg_of X G aNm) kNm GRi bRi (PySem.W.mg_of X G aRi) kRi
  have GTa : FnOk l.prog w K mg base CX0 1 fTa _ ["row"] (spTarget K) := ok_target FTa T
  have GSp : FnOk l.prog w K mg base CX0 1 fSp _ ["text"] spSplit := ok_split FSp
  have GB : FnOk l.prog w K mg base CX0 1 fB _ ["self", "row"] (spBad CB "row") := ok_badI FB E nRow
  have GPI : FnOk l.prog w K mg base CX0 1 fPI _ ["self", "name", "kind", "rows"] (spPieceI CP) := ok_pieceI FPI TC1
  have GMI : FnOk l.prog w K mg base CX0 1 fMI _ ["self", "pieces", "exports", "aliases"] (spModI CM CP) := ok_modI FMI TC1 Md nePM
  have GDI : FnOk l.prog w K mg base CX0 1 fDI _ ["self"] (spDraftI CD CP) := ok_draftI FDI TC1
  have GTn : FnOk l.prog w K mg base CX0 2 fTn _ ["self", "name"] (spTakeName CD CP) := ok_takeName FTn TC1 GNm bNm (PySem.W.mg_of X G aNm) kNm
  have GEx : FnOk l.prog w K mg base CX0 2 fEx _ ["self", "names"] (spTakeExports CD CP) := ok_takeExports FEx TC1 (PySem.W.mg_none_of X G zlen) GNm bNm (PySem.W.mg_of X G aNm) kNm
  have GAl : FnOk l.prog w K mg base CX0 3 fAl _ ["self", "names"] (spTakeAlias CD CP) := ok_takeAlias FAl TC1 (PySem.W.mg_none_of X G zlen) GNm bNm (PySem.W.mg_of X G aNm) kNm GTn bTn ⟨mTn, iTn, kTn⟩
  have GOp : FnOk l.prog w K mg base CX0 3 fOp _ ["self", "number", "words"] (spOpen CD CP) := ok_open FOp TC1 M (PySem.W.mg_none_of X G zlen) GTn bTn ⟨mTn, iTn, kTn⟩
  have GBt : FnOk l.prog w K mg base CX0 4 fBt _ ["self", "number", "words"] (spBetween CD CP) := ok_between FBt TC1 M GEx bEx ⟨mEx, iEx, kEx⟩ GAl bAl ⟨mAl, iAl, kAl⟩ GOp bOp ⟨mOp, iOp, kOp⟩
  have GWi : FnOk l.prog w K mg base CX0 5 fWi _ ["self", "words"] (spWithin CD CP) := ok_within FWi TC1 M (PySem.W.mg_none_of X G zlen) GIn bIn (PySem.W.mg_of X G aIn) kIn GDa bDa (PySem.W.mg_of X G aDa) kDa
  have GCl : FnOk l.prog w K mg base (L2.CX l.prog w) 3 fCl _ ["self"] (spClose CD CP CB) := ok_close FCl TC1 B (PySem.W.mg_none_of X G zlen) GTa bTa (PySem.W.mg_of X G aTa) kTa GPI bPI GB bB
  have GTk : FnOk l.prog w K mg base (L2.CX l.prog w) 6 fTk _ ["self", "number", "words"] (spTake CD CP CB) := ok_take FTk TC1 B GBt bBt ⟨mBt, iBt, kBt⟩ GWi bWi ⟨mWi, iWi, kWi⟩ GCl bCl ⟨mCl, iCl, kCl⟩ GB bB
  have GPa : FnOk l.prog w K mg base (L2.CX l.prog w) 7 fPa _ ["text"] (spParse K CB CM CP) := ok_parse FPa TC1 T B Md nePM Gp GSp bSp (PySem.W.mg_of X G aSp) kSp GTk bTk ⟨mTk, iTk, kTk⟩ GDI bDI GMI bMI GB bB
  have GTo : FnOk l.prog w K mg base CX0 8 fTo _ ["_law_text"] (spTold K) := ok_told FTo L GPa bPa
  have GPo : FnOk l.prog w K mg base CX0 1 fPo _ ["_law_script", "_law_k"] (spPool K) := ok_pool FPo (PySem.W.mg_none_of X G zlen) (PySem.W.mg_none_of X G zabs) (PySem.W.mg_none_of X G zint)
  have GDr : FnOk l.prog w K mg base CX0 1 fDr _ ["_law_pool_here", "_law_many"] spDraw := ok_draw FDr
  have GIN : FnOk l.prog w K mg base CX0 1 fIN _ [] (spMenu TZ.INSIDE) := ok_INSIDE FIN
  have GDA : FnOk l.prog w K mg base CX0 1 fDA _ [] (spMenu TZ.INDATA) := ok_INDATA FDA
  have GOU : FnOk l.prog w K mg base CX0 1 fOU _ [] (spMenu TZ.OUTSIDE) := ok_OUTSIDE FOU
  have GBo : FnOk l.prog w K mg base CX0 9 fBo _ ["_law_row"] spBounds := ok_bounds FBo (PySem.W.mg_none_of X G zrange) (PySem.W.mg_none_of X G zstr) GTo bTo (PySem.W.mg_of X G aTo) kTo
  have GNr : FnOk l.prog w K mg base CX0 2 fNr _ [] spYes := ok_names FNr (PySem.W.mg_none_of X G zlen) GNm bNm (PySem.W.mg_of X G aNm) kNm
  exact ok_law FLa (PySem.W.mg_none_of X G zrange) (PySem.W.mg_none_of X G zmax) (PySem.W.mg_none_of X G zmin) (PySem.W.mg_none_of X G zlen) (PySem.W.mg_none_of X G zstr) GPo bPo (PySem.W.mg_of X G aPo) kPo GDr bDr (PySem.W.mg_of X G aDr) kDr GTo bTo (PySem.W.mg_of X G aTo) kTo GIN bIN (PySem.W.mg_of X G aIN) kIN GDA bDA (PySem.W.mg_of X G aDA) kDA GOU bOU (PySem.W.mg_of X G aOU) kOU GBo bBo (PySem.W.mg_of X G aBo) kBo GNr bNr (PySem.W.mg_of X G aNr) kNr
end TY
open PySem PySem.W PyProof.Rows in
set_option maxRecDepth 100000 in
set_option maxHeartbeats 0 in
theorem PySem.Challenge.cw_foldsame_k11_texts_refused_holds : PySem.Challenge.rw_foldsame_k11_texts_refused.Holds := by
  w_on; o_law; k_head; (case hw => w_witness2)
  k_fill
  refine L2.walk_of (l := PySem.Challenge.rw_foldsame_k11_texts_refused) (n := 63) (k := 10) (x := "_law_script") (CX := fun _ => L2.CX0) (sp := fun w => TY.spLaw _) rfl (by decide) rfl ⟨rfl, by decide, by decide⟩ (fun w h Y => PySem.W.kIn_of Y) ?F (fun _ _ a ns hl _ hS => ⟨a, ns, rfl, hS, hl, fun _ => rfl⟩) (fun _ _ _ _ _ h => h)
  case F =>
    intro w mg fa h KX G hmg
    refine' TY.all_mk KX G hmg ?aLE ?aDI ?aL8 ?aMR ?aMP ?aOT ?xOT ?yOT ?dOT ?sOT ?vOT ?aRE ?xRE ?yRE ?dRE ?sRE ?vRE ?aKI ?xKI ?yKI ?dKI ?sKI ?vKI ?aFO ?xFO ?keFO ?klFO ?lwFO ?e0 ?x0 ?y0 ?d0 ?s0 ?v0 ?e1 ?x1 ?y1 ?d1 ?s1 ?v1 ?e2 ?x2 ?y2 ?d2 ?s2 ?v2 ?e3 ?x3 ?y3 ?d3 ?s3 ?v3 ?e4 ?x4 ?y4 ?d4 ?s4 ?v4 ?e5 ?x5 ?y5 ?d5 ?s5 ?v5 ?e6 ?x6 ?y6 ?d6 ?s6 ?v6 ?e7 ?x7 ?y7 ?d7 ?s7 ?v7 ?e8 ?x8 ?y8 ?d8 ?s8 ?v8 ?e9 ?x9 ?y9 ?d9 ?s9 ?v9 ?e10 ?x10 ?y10 ?d10 ?s10 ?v10 ?e11 ?x11 ?y11 ?d11 ?s11 ?v11 ?zisinstance ?zstr ?zlen ?zall ?zany ?zint ?zzip ?ztuple ?zenumerate ?zrepr ?zValueError ?zabs ?zrange ?zmax ?zmin ?aNm ?lNm ?cNm ?kNm ?aRi ?lRi ?cRi ?kRi ?aRp ?lRp ?cRp ?kRp ?aRs ?lRs ?cRs ?kRs ?aIn ?lIn ?cIn ?kIn ?aDa ?lDa ?cDa ?kDa ?aTa ?lTa ?cTa ?kTa ?aSp ?lSp ?cSp ?kSp ?aPa ?lPa ?cPa ?kPa ?aPo ?lPo ?cPo ?kPo ?aDr ?lDr ?cDr ?kDr ?aTo ?lTo ?cTo ?kTo ?aIN ?lIN ?cIN ?kIN ?aDA ?lDA ?cDA ?kDA ?aOU ?lOU ?cOU ?kOU ?aBo ?lBo ?cBo ?kBo ?aNr ?lNr ?cNr ?kNr ?aLa ?lLa ?cLa ?kLa ?hn ?ht ?aB ?xLB ?bvB ?saB ?gaB ?ggB ?a1B ?t1B ?kCB ?eCB ?tCB ?hCB ?cCB ?mCB ?lB ?cB ?kB ?nRow ?iCB ?sCB ?vCB ?aCP ?pgCP ?hdCP ?poCP ?saCP ?mkCP ?kcCP ?nCPname ?nCPkind ?nCProws ?nCPtake ?nCP__iter__ ?mPI ?iPI ?lPI ?cPI ?kPI ?aCM ?pgCM ?hdCM ?poCM ?saCM ?mkCM ?kcCM ?nCMpieces ?nCMexports ?nCMaliases ?nCM_named ?mMI ?iMI ?lMI ?cMI ?kMI ?mit ?aCD ?pgCD ?hdCD ?poCD ?saCD ?mkCD ?kcCD ?nCDpieces ?nCDexports ?nCDaliases ?nCDnamed ?nCDkind ?nCDname ?nCDstart ?nCDrows ?mDI ?iDI ?lDI ?cDI ?kDI ?mTk ?iTk ?lTk ?cTk ?kTk ?mBt ?iBt ?lBt ?cBt ?kBt ?mEx ?iEx ?lEx ?cEx ?kEx ?mAl ?iAl ?lAl ?cAl ?kAl ?mTn ?iTn ?lTn ?cTn ?kTn ?mOp ?iOp ?lOp ?cOp ?kOp ?mWi ?iWi ?lWi ?cWi ?kWi ?mCl ?iCl ?lCl ?cCl ?kCl
    (case aLE => k_is)
    (case aDI => k_is)
    (case aL8 => k_is)
    (case aMR => k_is)
    (case aMP => k_is)
    (case aOT => k_is)
    (case xOT => k_is)
    (case yOT => rfl)
    (case dOT => rfl)
    (case sOT => decide)
    (case vOT => (repeat (first | exact .nil | refine .cons ⟨_, rfl⟩ ?_)))
    (case aRE => k_is)
    (case xRE => k_is)
    (case yRE => rfl)
    (case dRE => rfl)
    (case sRE => decide)
    (case vRE => (repeat (first | exact .nil | refine .cons ⟨_, rfl⟩ ?_)))
    (case aKI => k_is)
    (case xKI => k_is)
    (case yKI => rfl)
    (case dKI => rfl)
    (case sKI => decide)
    (case vKI => (repeat (first | exact .nil | refine .cons ⟨_, rfl⟩ ?_)))
    (case aFO => k_is)
    (case xFO => k_is)
    (case keFO => rfl)
    (case klFO => k_keys)
    (case lwFO => first | rfl | decide)
    (case e0 => k_is)
    (case x0 => k_is)
    (case y0 => rfl)
    (case d0 => rfl)
    (case s0 => decide)
    (case v0 => (repeat (first | exact .nil | refine .cons ⟨_, rfl⟩ ?_)))
    (case e1 => k_is)
    (case x1 => k_is)
    (case y1 => rfl)
    (case d1 => rfl)
    (case s1 => decide)
    (case v1 => (repeat (first | exact .nil | refine .cons ⟨_, rfl⟩ ?_)))
    (case e2 => k_is)
    (case x2 => k_is)
    (case y2 => rfl)
    (case d2 => rfl)
    (case s2 => decide)
    (case v2 => (repeat (first | exact .nil | refine .cons ⟨_, rfl⟩ ?_)))
    (case e3 => k_is)
    (case x3 => k_is)
    (case y3 => rfl)
    (case d3 => rfl)
    (case s3 => decide)
    (case v3 => (repeat (first | exact .nil | refine .cons ⟨_, rfl⟩ ?_)))
    (case e4 => k_is)
    (case x4 => k_is)
    (case y4 => rfl)
    (case d4 => rfl)
    (case s4 => decide)
    (case v4 => (repeat (first | exact .nil | refine .cons ⟨_, rfl⟩ ?_)))
    (case e5 => k_is)
    (case x5 => k_is)
    (case y5 => rfl)
    (case d5 => rfl)
    (case s5 => decide)
    (case v5 => (repeat (first | exact .nil | refine .cons ⟨_, rfl⟩ ?_)))
    (case e6 => k_is)
    (case x6 => k_is)
    (case y6 => rfl)
    (case d6 => rfl)
    (case s6 => decide)
    (case v6 => (repeat (first | exact .nil | refine .cons ⟨_, rfl⟩ ?_)))
    (case e7 => k_is)
    (case x7 => k_is)
    (case y7 => rfl)
    (case d7 => rfl)
    (case s7 => decide)
    (case v7 => (repeat (first | exact .nil | refine .cons ⟨_, rfl⟩ ?_)))
    (case e8 => k_is)
    (case x8 => k_is)
    (case y8 => rfl)
    (case d8 => rfl)
    (case s8 => decide)
    (case v8 => (repeat (first | exact .nil | refine .cons ⟨_, rfl⟩ ?_)))
    (case e9 => k_is)
    (case x9 => k_is)
    (case y9 => rfl)
    (case d9 => rfl)
    (case s9 => decide)
    (case v9 => (repeat (first | exact .nil | refine .cons ⟨_, rfl⟩ ?_)))
    (case e10 => k_is)
    (case x10 => k_is)
    (case y10 => rfl)
    (case d10 => rfl)
    (case s10 => decide)
    (case v10 => (repeat (first | exact .nil | refine .cons ⟨_, rfl⟩ ?_)))
    (case e11 => k_is)
    (case x11 => k_is)
    (case y11 => rfl)
    (case d11 => rfl)
    (case s11 => decide)
    (case v11 => (repeat (first | exact .nil | refine .cons ⟨_, rfl⟩ ?_)))
    (case zisinstance => k_is)
    (case zstr => k_is)
    (case zlen => k_is)
    (case zall => k_is)
    (case zany => k_is)
    (case zint => k_is)
    (case zzip => k_is)
    (case ztuple => k_is)
    (case zenumerate => k_is)
    (case zrepr => k_is)
    (case zValueError => k_is)
    (case zabs => k_is)
    (case zrange => k_is)
    (case zmax => k_is)
    (case zmin => k_is)
    (case aNm => k_is)
    (case lNm => k_is)
    (case cNm => k_is)
    (case kNm => k_is)
    (case aRi => k_is)
    (case lRi => k_is)
    (case cRi => k_is)
    (case kRi => k_is)
    (case aRp => k_is)
    (case lRp => k_is)
    (case cRp => k_is)
    (case kRp => k_is)
    (case aRs => k_is)
    (case lRs => k_is)
    (case cRs => k_is)
    (case kRs => k_is)
    (case aIn => k_is)
    (case lIn => k_is)
    (case cIn => k_is)
    (case kIn => k_is)
    (case aDa => k_is)
    (case lDa => k_is)
    (case cDa => k_is)
    (case kDa => k_is)
    (case aTa => k_is)
    (case lTa => k_is)
    (case cTa => k_is)
    (case kTa => k_is)
    (case aSp => k_is)
    (case lSp => k_is)
    (case cSp => k_is)
    (case kSp => k_is)
    (case aPa => k_is)
    (case lPa => k_is)
    (case cPa => k_is)
    (case kPa => k_is)
    (case aPo => k_is)
    (case lPo => k_is)
    (case cPo => k_is)
    (case kPo => k_is)
    (case aDr => k_is)
    (case lDr => k_is)
    (case cDr => k_is)
    (case kDr => k_is)
    (case aTo => k_is)
    (case lTo => k_is)
    (case cTo => k_is)
    (case kTo => k_is)
    (case aIN => k_is)
    (case lIN => k_is)
    (case cIN => k_is)
    (case kIN => k_is)
    (case aDA => k_is)
    (case lDA => k_is)
    (case cDA => k_is)
    (case kDA => k_is)
    (case aOU => k_is)
    (case lOU => k_is)
    (case cOU => k_is)
    (case kOU => k_is)
    (case aBo => k_is)
    (case lBo => k_is)
    (case cBo => k_is)
    (case kBo => k_is)
    (case aNr => k_is)
    (case lNr => k_is)
    (case cNr => k_is)
    (case kNr => k_is)
    (case aLa => k_is)
    (case lLa => k_is)
    (case cLa => k_is)
    (case kLa => k_is)
    (case hn => k_is)
    (case ht => k_is)
    (case aB => k_is)
    (case xLB => k_is)
    (case bvB => rfl)
    (case saB => k_is)
    (case gaB => k_is)
    (case ggB => k_is)
    (case a1B => k_is)
    (case t1B => k_is)
    (case kCB => k_is)
    (case eCB => k_is)
    (case tCB => k_is)
    (case hCB => k_is)
    (case cCB => k_is)
    (case mCB => k_is)
    (case lB => k_is)
    (case cB => k_is)
    (case kB => k_is)
    (case nRow => k_is)
    (case iCB => k_is)
    (case sCB => first | rfl | k_is)
    (case vCB => k_is)
    (case aCP => k_is)
    (case pgCP => k_is)
    (case hdCP => k_is)
    (case poCP => k_is)
    (case saCP => k_is)
    (case mkCP => k_is)
    (case kcCP => k_is)
    (case nCPname => k_is)
    (case nCPkind => k_is)
    (case nCProws => k_is)
    (case nCPtake => k_is)
    (case nCP__iter__ => k_is)
    (case mPI => k_is)
    (case iPI => k_is)
    (case lPI => k_is)
    (case cPI => k_is)
    (case kPI => k_is)
    (case aCM => k_is)
    (case pgCM => k_is)
    (case hdCM => k_is)
    (case poCM => k_is)
    (case saCM => k_is)
    (case mkCM => k_is)
    (case kcCM => k_is)
    (case nCMpieces => k_is)
    (case nCMexports => k_is)
    (case nCMaliases => k_is)
    (case nCM_named => k_is)
    (case mMI => k_is)
    (case iMI => k_is)
    (case lMI => k_is)
    (case cMI => k_is)
    (case kMI => k_is)
    (case mit => k_is)
    (case aCD => k_is)
    (case pgCD => k_is)
    (case hdCD => k_is)
    (case poCD => k_is)
    (case saCD => k_is)
    (case mkCD => k_is)
    (case kcCD => k_is)
    (case nCDpieces => k_is)
    (case nCDexports => k_is)
    (case nCDaliases => k_is)
    (case nCDnamed => k_is)
    (case nCDkind => k_is)
    (case nCDname => k_is)
    (case nCDstart => k_is)
    (case nCDrows => k_is)
    (case mDI => k_is)
    (case iDI => k_is)
    (case lDI => k_is)
    (case cDI => k_is)
    (case kDI => k_is)
    (case mTk => k_is)
    (case iTk => k_is)
    (case lTk => k_is)
    (case cTk => k_is)
    (case kTk => k_is)
    (case mBt => k_is)
    (case iBt => k_is)
    (case lBt => k_is)
    (case cBt => k_is)
    (case kBt => k_is)
    (case mEx => k_is)
    (case iEx => k_is)
    (case lEx => k_is)
    (case cEx => k_is)
    (case kEx => k_is)
    (case mAl => k_is)
    (case iAl => k_is)
    (case lAl => k_is)
    (case cAl => k_is)
    (case kAl => k_is)
    (case mTn => k_is)
    (case iTn => k_is)
    (case lTn => k_is)
    (case cTn => k_is)
    (case kTn => k_is)
    (case mOp => k_is)
    (case iOp => k_is)
    (case lOp => k_is)
    (case cOp => k_is)
    (case kOp => k_is)
    (case mWi => k_is)
    (case iWi => k_is)
    (case lWi => k_is)
    (case cWi => k_is)
    (case kWi => k_is)
    (case mCl => k_is)
    (case iCl => k_is)
    (case lCl => k_is)
    (case cCl => k_is)
    (case kCl => k_is)
